/- Texts of the proof, one behind the other: FpG, FpH, Dk, Dk2. -/
import Derived.Test.YtjlfibhbfdckpaaGreatDoorK02
import Derived.Test.YtjlfibhbfdckpaaGreatDoorK04
/- Flush: a mended cell is right, and no other one is spoiled: plain. -/
namespace Go.Proofs.YtjlfibhbfdckpaaGreatDoor
open Wd (wd)
theorem feedOk (l : List UInt8) : ∀ {s : Rs}, s.Ok → (feedR s l).Ok := by
  induction l with
  | nil => intro s h; exact h
  | cons c r ih => intro s h; exact ih (h.one c)
/-- A letter is put where it lands. -/
theorem put_at {s : Rs} (h : s.Fl) {f : Sp} (hin : inG s.W s.H f.lx f.ly = true) {r : Int} (hr : wd r = 1 ∨ (wd r = 2 ∧ f.lx + 1 < s.W)) :
    ∃ q : Sp, q.pen = f.pen ∧ putR (s.on f) r = { s.on q with G := writeG s.W s.H s.G f.lx f.ly r f.pen } := by
  have ok := h.ok
  obtain ⟨a0, a1, b0, b1⟩ := inG_iff.1 hin
  have w1 := ok.w1
  have hb : ∀ k, (k = 1 ∨ (k = 2 ∧ f.lx + 1 < s.W)) → brokenR (s.on f) k = s.on ⟨f.lx, f.ly, false, f.pen⟩ := by
    intro k hk
    unfold brokenR wraps
    cases hpd : f.pend with
    | true =>
      have e1 : f.lx = 0 := by simp [Sp.lx, hpd]
      have e2 : f.ly = f.y + 1 := by simp [Sp.ly, hpd]
      rw [if_pos (by show (f.pend || _) = true; rw [hpd]; rfl)]
      unfold linefeedR
      rw [if_neg (by show ¬ f.y = s.bot; rw [h.bot]; omega)]
      show goesR _ (0 : Int) (f.y + 1) = _
      rw [goes_to (by omega) (by show (0 : Int) < s.W; omega) (by omega) (by show f.y + 1 < (s.H : Int); omega)]
      rw [e1, e2]
      rfl
    | false =>
      have e1 : f.lx = f.x := by simp [Sp.lx, hpd]
      have e2 : f.ly = f.y := by simp [Sp.ly, hpd]
      rw [if_neg]
      · rw [e1, e2, ← hpd]
      · show ¬ (f.pend || (decide (k = 2) && decide (f.x = (s.W : Int) - 1))) = true
        rw [hpd]
        simp
        omega
  have hst : ∀ (k : Int) (G : Nat → Nat → Cel), ∃ q : Sp, q.pen = f.pen ∧ stepR { s.on ⟨f.lx, f.ly, false, f.pen⟩ with G := G } k = { s.on q with G := G } := by
    intro k G
    unfold stepR
    split
    · exact ⟨⟨(s.W : Int) - 1, f.ly, true, f.pen⟩, rfl, rfl⟩
    · exact ⟨⟨f.lx + k, f.ly, false, f.pen⟩, rfl, rfl⟩
  have ew : effW (s.on f).W r = wd r := by
    unfold effW
    rcases hr with e | ⟨e, e'⟩
    · rw [if_neg (by rw [e]; omega)]
    · rw [if_neg (by rintro ⟨_, q⟩; have : s.W = 1 := q; omega)]
  have er : effR (s.on f).W r = r := by
    unfold effR
    rcases hr with e | ⟨e, e'⟩
    · rw [if_neg (by rw [e]; omega)]
    · rw [if_neg (by rintro ⟨_, q⟩; have : s.W = 1 := q; omega)]
  unfold putR
  rw [if_neg (by omega), ew, er, hb _ hr]
  obtain ⟨q, h1, h2⟩ := hst (wd r) (writeG s.W s.H s.G f.lx f.ly r f.pen)
  exact ⟨q, h1, h2⟩
/-- What is right stays so; the cells of S are right. -/
structure Mended (s : Rs) (P : Nat → Nat → Cel) (G : Nat → Nat → Cel) (x y : Nat) : Prop where
  it : G x y = P x y
  keep : ∀ a b, a < s.W → b < s.H → s.G a b = P a b → G a b = P a b
section
variable {s : Rs} {P : Nat → Nat → Cel} {x y : Nat}
theorem no_tail (h : s.Fl) (hP : Wf s.W s.H P) (hx : x < s.W) (hy : y < s.H) (hb : ∀ a b, a < s.W → b < s.H → b * s.W + a < y * s.W + x → s.G a b = P a b) (hd : s.G x y ≠ P x y) : (P x y).p ≠ 2 := by
  intro e
  obtain ⟨h1, h2⟩ := hP.tail x y hx hy e
  have h3 := hb (x - 1) y (by omega) hy (by omega)
  have h4 := (h.ok.wf.head (x - 1) y (by omega) hy (by rw [h3, h2])).2
  rw [h3, h2] at h4
  have ex : x - 1 + 1 = x := by omega
  rw [ex] at h4
  exact hd (by rw [h4]; show (⟨(P x y).r, 2, (P x y).n⟩ : Cel) = P x y; rw [← e])
theorem left_ok (hP : Wf s.W s.H P) (hx : x < s.W) (hy : y < s.H) (hnt : (P x y).p ≠ 2) {a : Nat} (ha : a + 1 = x) : (P a y).p ≠ 1 := by
  intro e
  have := (hP.head a y (by omega) hy e).2
  rw [ha] at this
  exact hnt (by rw [this])
theorem mend_one (h : s.Fl) (hP : Wf s.W s.H P) (hx : x < s.W) (hy : y < s.H) (hnt : (P x y).p = 0) (hw : wd (P x y).r = 1) : Mended s P (writeG s.W s.H s.G x y (P x y).r (P x y).n) x y := by
  have e := writeG_one h.ok.wf hx hy (P x y).r (P x y).n hw
  have ec : (⟨(P x y).r, 0, (P x y).n⟩ : Cel) = P x y := by rw [← hnt]
  refine ⟨?_, fun a b ha hb hk => ?_⟩
  · rw [e x y hx hy]
    unfold wrt
    rw [if_pos (pt_iff.2 ⟨rfl, rfl⟩), ec]
  · rw [e a b ha hb]
    unfold wrt
    by_cases hp : pt x y a b = true
    · obtain ⟨rfl, rfl⟩ := pt_iff.1 hp
      rw [if_pos hp, ec]
    · rw [if_neg hp, if_neg]
      · exact hk
      · rintro (⟨q1, q2⟩ | ⟨q1, q2, q3⟩)
        · obtain ⟨e1, rfl⟩ := pt_iff.1 q2
          rw [hk] at q1
          exact left_ok hP hx hy (by rw [hnt]; decide) e1 q1
        · obtain ⟨e1, rfl⟩ := pt_iff.1 q3
          rw [hk] at q1
          have := (hP.tail a b ha hb q1).2
          rw [e1] at this
          rw [this] at hnt
          exact absurd (show (1 : Int) = 0 from hnt) (by decide)
theorem mend_two (h : s.Fl) (hP : Wf s.W s.H P) (hx : x < s.W) (hy : y < s.H) (hnt : (P x y).p = 1) (hw : wd (P x y).r = 2) : Mended s P (writeG s.W s.H s.G x y (P x y).r (P x y).n) x y := by
  obtain ⟨hx1, ht⟩ := hP.head x y hx hy hnt
  have e := writeG_two h.ok.wf hx1 hy (P x y).r (P x y).n hw
  have ec : (⟨(P x y).r, 1, (P x y).n⟩ : Cel) = P x y := by rw [← hnt]
  have hpt : ∀ {a b : Nat}, pt2 x y a b = true ↔ (a = x ∨ a = x + 1) ∧ b = y := by
    intro a b
    simp only [pt2, Bool.or_eq_true, pt_iff]
    constructor
    · rintro (⟨a, b⟩ | ⟨a, b⟩)
      · exact ⟨.inl a, b⟩
      · exact ⟨.inr a, b⟩
    · rintro ⟨a | a, b⟩
      · exact .inl ⟨a, b⟩
      · exact .inr ⟨a, b⟩
  have hv : ∀ a b, (a = x ∨ a = x + 1) ∧ b = y → wide x (P x y).r (P x y).n a b = P a b := by
    rintro a b ⟨rfl | rfl, rfl⟩
    · unfold wide; rw [if_pos rfl, ec]
    · unfold wide; rw [if_neg (by omega), ht]
  refine ⟨?_, fun a b ha hb hk => ?_⟩
  · rw [e x y hx hy]
    unfold wrt
    rw [if_pos (hpt.2 ⟨.inl rfl, rfl⟩), hv x y ⟨.inl rfl, rfl⟩]
  · rw [e a b ha hb]
    unfold wrt
    by_cases hp : pt2 x y a b = true
    · rw [if_pos hp, hv a b (hpt.1 hp)]
    · rw [if_neg hp, if_neg]
      · exact hk
      · rintro (⟨q1, q2⟩ | ⟨q1, q2, q3⟩)
        · obtain ⟨e1, rfl⟩ := hpt.1 q2
          rw [hk] at q1
          rcases e1 with e1 | e1
          · exact left_ok hP hx hy (by rw [hnt]; decide) e1 q1
          · exact hp (hpt.2 ⟨.inl (by omega), rfl⟩)
        · obtain ⟨e1, rfl⟩ := hpt.1 q3
          rw [hk] at q1
          have := (hP.tail a b ha hb q1).2
          rcases e1 with e1 | e1
          · exact hp (hpt.2 ⟨.inr (by omega), rfl⟩)
          · rw [e1, ht] at this
            have := congrArg Cel.p this
            exact absurd (show (2 : Int) = 1 from this) (by decide)
/-- Erasing what is to be blank. -/
theorem mend_era (hP : Wf s.W s.H P) (hx : x < s.W) (hy : y < s.H) {S : Nat → Nat → Bool} {c : Cel} (hc : c.p = 0) (hS : ∀ a b, a < s.W → b < s.H → S a b = true → P a b = c) (hi : S x y = true) : Mended s P (wrt s.G S (fun _ _ => c)) x y := by
  refine ⟨?_, fun a b ha hb hk => ?_⟩
  · unfold wrt; rw [if_pos hi, hS x y hx hy hi]
  · unfold wrt
    by_cases hp : S a b = true
    · rw [if_pos hp, hS a b ha hb hp]
    · rw [if_neg hp, if_neg]
      · exact hk
      · rintro (⟨q1, q2⟩ | ⟨q1, q2, q3⟩)
        · rw [hk] at q1
          obtain ⟨e1, e2⟩ := hP.head a b ha hb q1
          have := hS (a + 1) b e1 hb q2
          rw [e2] at this
          rw [← this] at hc
          exact absurd (show (2 : Int) = 0 from hc) (by decide)
        · rw [hk] at q1
          obtain ⟨e1, e2⟩ := hP.tail a b ha hb q1
          have := hS (a - 1) b (by omega) hb q3
          rw [e2] at this
          rw [← this] at hc
          exact absurd (show (1 : Int) = 0 from hc) (by decide)
/-- The sequence erases just cells that are to be like this one. -/
theorem feed_era (h : s.Fl) (hx : x < s.W) (hy : y < s.H) {p : Sp} (hpx : p.x = x) (hpy : p.y = y) (hc : blk (backR (s.on p)) = P x y) :
    ∃ S : Nat → Nat → Bool, feedR (s.on p) (eraK P s.W s.H x y).1 = { s.on p with G := wrt s.G S (fun _ _ => P x y) } ∧ (∀ a b, a < s.W → b < s.H → S a b = true → P a b = P x y) ∧ S x y = true ∧ (eraK P s.W s.H x y).1.length ≤ 5 := by
  have hB : (s.on p).B = ⟨#[]⟩ := h.B
  have hle := alike_le (P := P) s.W x y
  have hpos := alike_pos (P := P) (y := y) hx
  have w2 := h.ok.w2
  unfold eraK
  split
  · rename_i hl
    refine ⟨rg x ((x : Int) + alikeN P s.W x y) y, ?_, ?_, ?_, ?_⟩
    · obtain ⟨l, e, b⟩ := feed_seqL hB 88 (by decide) (by decide) (toks_cnt (n := (alikeN P s.W x y : Int)) (by omega) toks_nil) (by simp)
      rw [e]
      have g0 := getD0 b
      unfold doneR
      simp only [g0]
      rw [cnt_one (by omega)]
      simp only [hc]
      have e1 : (s.on p).x = (x : Int) := hpx
      have e2 : (s.on p).y.toNat = y := by show p.y.toNat = y; omega
      rw [e1, e2]
      rfl
    · intro a b ha hb hS
      obtain ⟨rfl, h1, h2⟩ := rg_iff.1 hS
      exact alike_eq (W := s.W) (by omega) (by omega)
    · exact rg_iff.2 ⟨rfl, by omega, by omega⟩
    · have := seq_len 88 _ _ (toks_cnt (n := (alikeN P s.W x y : Int)) (by omega) toks_nil)
      simpa using this
  · rename_i hl
    split
    · rename_i ha
      refine ⟨eraB 0 true x y, ?_, ?_, ?_, by rw [seq_len0]; omega⟩
      · rw [feed_seqN hB 74 (by decide) (by decide)]
        unfold doneR
        simp [eraR, hc]
        have e1 : (s.on p).x = (x : Int) := hpx
        have e2 : (s.on p).y = (y : Int) := hpy
        rw [e1, e2]
        rfl
      · intro a b ha' hb hS
        simp [eraB] at hS
        rcases hS with q | ⟨q, q'⟩
        · exact isAll_eq ha (by omega) hb ha'
        · obtain rfl : b = y := by omega
          exact alike_eq (W := s.W) (by omega) (by omega)
      · simp [eraB]
    · refine ⟨eraB 0 false x y, ?_, ?_, ?_, by rw [seq_len0]; omega⟩
      · rw [feed_seqN hB 75 (by decide) (by decide)]
        unfold doneR
        simp [eraR, hc]
        have e1 : (s.on p).x = (x : Int) := hpx
        have e2 : (s.on p).y = (y : Int) := hpy
        rw [e1, e2]
        rfl
      · intro a b ha' hb hS
        simp [eraB] at hS
        obtain ⟨q, q'⟩ := hS
        obtain rfl : b = y := by omega
        exact alike_eq (W := s.W) (by omega) (by omega)
      · simp [eraB]
/-- A cell is mended. -/
theorem mend_step (h : s.Fl) (hP : Wf s.W s.H P) (hN : ∀ a b, a < s.W → b < s.H → (P a b).n.Ok) (hx : x < s.W) (hy : y < s.H) (hb : ∀ a b, a < s.W → b < s.H → b * s.W + a < y * s.W + x → s.G a b = P a b) (hd : s.G x y ≠ P x y) :
    (feedR s (mendL s P x y)).Fl ∧ (feedR s (mendL s P x y)).W = s.W ∧ (feedR s (mendL s P x y)).H = s.H ∧ (feedR s (mendL s P x y)).odd = s.odd ∧ Mended s P (feedR s (mendL s P x y)).G x y ∧ (mendL s P x y).length ≤ 33 := by
  have ok := feedOk (mendL s P x y) h.ok
  have hn := hN x y hx hy
  have hnt := no_tail h hP hx hy hb hd
  unfold mendL at *
  by_cases he : erasureL s P x y = []
  · rw [if_pos he] at *
    obtain ⟨p, e1, hp, hat, hl⟩ := route_leads (g := ⟨x, y, (P x y).n, true⟩) h ⟨by show (0 : Int) ≤ x; omega, by show (x : Int) < s.W; omega, by show (0 : Int) ≤ y; omega, by show (y : Int) < s.H; omega, hn⟩
    have hat' : p.lx = x ∧ p.ly = y ∧ p.pen = (P x y).n := by
      simp [Gl.isAt] at hat
      exact ⟨hat.1.1, hat.1.2, Pn.eqB_iff.1 hat.2⟩
    obtain ⟨l1, l2, l3⟩ := hat'
    have hwd : wd (P x y).r = 1 ∧ (P x y).p = 0 ∨ wd (P x y).r = 2 ∧ (P x y).p = 1 ∧ x + 1 < s.W := by
      rcases hP.part x y hx hy with ⟨a, b⟩ | ⟨a, b⟩ | ⟨a, b⟩
      · exact .inl ⟨b, a⟩
      · exact .inr ⟨b, a, (hP.head x y hx hy a).1⟩
      · exact absurd a hnt
    obtain ⟨q, q1, q2⟩ := put_at h (f := p) (inG_iff.2 (by omega)) (r := (P x y).r) (by
      rcases hwd with ⟨a, _⟩ | ⟨a, _, b⟩
      · exact .inl a
      · exact .inr ⟨a, by omega⟩)
    have hf : feedR s (routeL s ⟨x, y, (P x y).n, true⟩ ++ encL (P x y).r) = { s.on q with G := writeG s.W s.H s.G x y (P x y).r (P x y).n } := by
      rw [feed_app, e1, feed_letter (s := s.on p) h.B (by rcases hwd with ⟨a, _⟩ | ⟨a, _⟩ <;> omega), q2, l1, l2, l3]
    rw [hf] at ok ⊢
    refine ⟨⟨ok, h.B, h.top, h.bot, by show q.pen.Ok; rw [q1, l3]; exact hn⟩, rfl, rfl, rfl, ?_, ?_⟩
    · rcases hwd with ⟨a, b⟩ | ⟨a, b, _⟩
      · exact mend_one h hP hx hy b a
      · exact mend_two h hP hx hy b a
    · have := enc_len (P x y).r
      rw [List.length_append]; omega
  · rw [if_neg he] at *
    have hn2 : (eraserP s (P x y).n.b).Ok := ⟨h.pen.1, h.pen.2.1, hn.2.2.1, hn.2.2.2⟩
    obtain ⟨p, e1, hp, hat, hl⟩ := route_leads (g := ⟨x, y, eraserP s (P x y).n.b, false⟩) h ⟨by show (0 : Int) ≤ x; omega, by show (x : Int) < s.W; omega, by show (0 : Int) ≤ y; omega, by show (y : Int) < s.H; omega, hn2⟩
    have hat' : p.pend = false ∧ p.x = x ∧ p.y = y ∧ p.pen = eraserP s (P x y).n.b := by
      cases hpd : p.pend with
      | true => simp [Gl.isAt, hpd] at hat
      | false =>
        simp [Gl.isAt, hpd, Sp.lx, Sp.ly] at hat
        exact ⟨rfl, hat.1.1, hat.1.2, Pn.eqB_iff.1 hat.2⟩
    obtain ⟨l0, l1, l2, l3⟩ := hat'
    have hbk : (P x y).eqB (backC (P x y)) = true := by
      cases hq : (P x y).eqB (backC (P x y)) with
      | true => rfl
      | false => exact absurd (by unfold erasureL; rw [if_pos hq]) he
    have hbe := Cel.eqB_iff.1 hbk
    have her : erasureL s P x y = (eraK P s.W s.H x y).1 := by
      unfold erasureL at he ⊢
      rw [if_neg (by rw [hbk]; simp)] at he ⊢
      split at he
      · rename_i q; rw [if_pos q]
      · exact absurd rfl he
    have hbc : blk (backR (s.on p)) = P x y := by
      rw [hbe]
      show blk ⟨0, p.pen.b, false, false, false⟩ = backC (P x y)
      rw [l3]; rfl
    obtain ⟨S, f1, f2, f3, f4⟩ := feed_era h hx hy l1 l2 hbc
    have hf : feedR s (routeL s ⟨x, y, eraserP s (P x y).n.b, false⟩ ++ erasureL s P x y) = { s.on p with G := wrt s.G S (fun _ _ => P x y) } := by
      rw [feed_app, e1, her, f1]
    rw [hf] at ok ⊢
    refine ⟨⟨ok, h.B, h.top, h.bot, by show p.pen.Ok; rw [l3]; exact hn2⟩, rfl, rfl, rfl, ?_, ?_⟩
    · exact mend_era hP hx hy (by rw [hbe]; rfl) f2 f3
    · rw [List.length_append, her]; omega
end
end Go.Proofs.YtjlfibhbfdckpaaGreatDoor

/- Flush: what is told makes the screen show the picture, in few bytes: plain. -/
namespace Go.Proofs.YtjlfibhbfdckpaaGreatDoor
open Wd (wd)
/-- A picture. -/
structure PicOk (W H : Nat) (P : Nat → Nat → Cel) : Prop where
  wf : Wf W H P
  pen : ∀ a b, a < W → b < H → (P a b).n.Ok
structure Painted (s : Rs) (P : Nat → Nat → Cel) (b0 : List UInt8) (i : Nat) (st : Rs × List UInt8) : Prop where
  fl : st.1.Fl
  W : st.1.W = s.W
  H : st.1.H = s.H
  odd : st.1.odd = s.odd
  done : ∀ a b, a < s.W → b < s.H → b * s.W + a < i → st.1.G a b = P a b
  keep : ∀ a b, a < s.W → b < s.H → s.G a b = P a b → st.1.G a b = P a b
  told : ∃ m, st.2 = b0 ++ m ∧ feedR s m = st.1 ∧ m.length ≤ 33 * cntB (fun j => differsB s P (j % s.W) (j / s.W)) i
section
variable {s : Rs} {P : Nat → Nat → Cel}
theorem differs_iff {x y : Nat} : differsB s P x y = true ↔ s.G x y ≠ P x y := by
  unfold differsB
  rw [Bool.not_eq_true', Cel.eqB_not]
theorem paint_inv (h : s.Fl) (hP : PicOk s.W s.H P) (b0 : List UInt8) : ∀ i, i ≤ s.H * s.W → Painted s P b0 i (paintN P s.W (s, b0) i) := by
  have w1 := h.ok.w1
  intro i
  induction i with
  | zero =>
    intro _
    exact ⟨h, rfl, rfl, rfl, fun a b _ _ q => absurd q (by omega), fun _ _ _ _ q => q, [], by simp [paintN], rfl, Nat.zero_le _⟩
  | succ i ih =>
    intro hi
    have I := ih (by omega)
    show Painted s P b0 (i + 1) (paintS P (paintN P s.W (s, b0) i) (i % s.W) (i / s.W))
    generalize paintN P s.W (s, b0) i = st at I
    have hx : i % s.W < s.W := Nat.mod_lt _ (by omega)
    have hy : i / s.W < s.H := Nat.div_lt_of_lt_mul (by rw [Nat.mul_comm]; omega)
    have hxy : i / s.W * s.W + i % s.W = i := by rw [Nat.mul_comm]; exact Nat.div_add_mod i s.W
    have hcn : cntB (fun j => differsB s P (j % s.W) (j / s.W)) (i + 1) = cntB (fun j => differsB s P (j % s.W) (j / s.W)) i + (if differsB s P (i % s.W) (i / s.W) = true then 1 else 0) := rfl
    generalize i % s.W = x at *
    generalize i / s.W = y at *
    have hsplit : ∀ a b, a < s.W → b < s.H → b * s.W + a < i + 1 → b * s.W + a < i ∨ (a = x ∧ b = y) := by
      intro a b ha hb q
      by_cases e : b * s.W + a = i
      · exact .inr (place_inj ha hx (by omega))
      · exact .inl (by omega)
    obtain ⟨m, m1, m2, m3⟩ := I.told
    unfold paintS
    cases hd : differsB st.1 P x y with
    | false =>
      rw [if_neg (by decide)]
      have he : st.1.G x y = P x y := by
        have := hd
        unfold differsB at this
        exact Cel.eqB_iff.1 (by simpa using this)
      refine ⟨I.fl, I.W, I.H, I.odd, fun a b ha hb q => ?_, I.keep, m, m1, m2, by rw [hcn]; split <;> omega⟩
      rcases hsplit a b ha hb q with e | ⟨rfl, rfl⟩
      · exact I.done a b ha hb e
      · exact he
    | true =>
      rw [if_pos rfl]
      have hd' := differs_iff.1 hd
      have hds : differsB s P x y = true := differs_iff.2 (fun q => hd' (I.keep x y hx hy q))
      obtain ⟨a1, a2, a3, a4, a5, a6⟩ := mend_step (s := st.1) (P := P) (x := x) (y := y) I.fl (by rw [I.W, I.H]; exact hP.wf) (by rw [I.W, I.H]; exact hP.pen) (by rw [I.W]; exact hx) (by rw [I.H]; exact hy) (by rw [I.W, I.H]; intro a b ha hb q; exact I.done a b ha hb (by omega)) hd'
      have kp : ∀ a b, a < s.W → b < s.H → st.1.G a b = P a b → (feedR st.1 (mendL st.1 P x y)).G a b = P a b := fun a b ha hb q => a5.keep a b (by rw [I.W]; exact ha) (by rw [I.H]; exact hb) q
      refine ⟨a1, a2.trans I.W, a3.trans I.H, a4.trans I.odd, fun a b ha hb q => ?_, fun a b ha hb q => kp a b ha hb (I.keep a b ha hb q), m ++ mendL st.1 P x y, by rw [m1]; simp, by rw [feed_app, m2], ?_⟩
      · rcases hsplit a b ha hb q with e | ⟨rfl, rfl⟩
        · exact kp a b ha hb (I.done a b ha hb e)
        · exact a5.it
      · rw [hcn, if_pos hds, List.length_append]
        omega
theorem cnt_congr {p q : Nat → Bool} {n : Nat} (h : ∀ i, i < n → p i = q i) : cntB p n = cntB q n := by
  induction n with
  | zero => rfl
  | succ n ih =>
    unfold cntB
    rw [ih (fun i hi => h i (by omega)), h n (by omega)]
theorem scrolled (h : s.Fl) {n : Int} (h0 : n ≠ 0) (h1 : -100 < n) (h2 : n < 100) : feedR s (scrollL s n) = { s with pen := eraserP s 0, G := scrollG s.top s.bot n Pn.plain s.G } := by
  unfold scrollL
  have hp : (eraserP s 0).Ok := ⟨h.pen.1, h.pen.2.1, Int.le_refl 0, by show (0 : Int) ≤ 8; omega⟩
  rw [feed_app, feed_pen h.B hp, feed_scroll (s := { s with pen := eraserP s 0 }) h.B h0 h1 h2]
  rfl
theorem scrolled_fl (h : s.Fl) {n : Int} (h0 : n ≠ 0) (h1 : -100 < n) (h2 : n < 100) : (feedR s (scrollL s n)).Fl := by
  have ok := feedOk (scrollL s n) h.ok
  rw [scrolled h h0 h1 h2] at ok ⊢
  exact ⟨ok, h.B, h.top, h.bot, ⟨h.pen.1, h.pen.2.1, Int.le_refl 0, by show (0 : Int) ≤ 8; omega⟩⟩
theorem scroll_len (h : s.Fl) {n : Int} (h1 : -100 < n) (h2 : n < 100) : (scrollL s n).length ≤ 10 := by
  unfold scrollL
  have a := penL_back s.pen (v := 0) (by omega) (by omega)
  have b := along_len h1 h2 83 84
  have a' : (penL s.pen (eraserP s 0)).length ≤ 5 := a
  have := h.B
  rw [List.length_append]
  omega
theorem others_zero (h : s.Fl) : othersN s P 0 = cntB (fun j => differsB s P (j % s.W) (j / s.W)) (s.H * s.W) := by
  have w1 := h.ok.w1
  refine cnt_congr (fun i hi => ?_)
  have hx : i % s.W < s.W := Nat.mod_lt _ (by omega)
  have hy : i / s.W < s.H := Nat.div_lt_of_lt_mul (by rw [Nat.mul_comm]; omega)
  show (!(cellR s (i % s.W) ((i / s.W : Nat) + 0)).eqB _) = _
  generalize i / s.W = y at *
  generalize i % s.W = x at *
  unfold cellR
  rw [if_pos (inG_iff.2 (by omega))]
  unfold differsB
  have : ((y : Int) + 0).toNat = y := by omega
  rw [this]
theorem others_scroll (h : s.Fl) {n : Int} (h0 : n ≠ 0) (h1 : -100 < n) (h2 : n < 100) : othersN s P n = cntB (fun j => differsB (feedR s (scrollL s n)) P (j % s.W) (j / s.W)) (s.H * s.W) := by
  have w1 := h.ok.w1
  rw [scrolled h h0 h1 h2]
  refine cnt_congr (fun i hi => ?_)
  have hx : i % s.W < s.W := Nat.mod_lt _ (by omega)
  have hy : i / s.W < s.H := Nat.div_lt_of_lt_mul (by rw [Nat.mul_comm]; omega)
  show (!(cellR s (i % s.W) ((i / s.W : Nat) + n)).eqB _) = (!(scrollG s.top s.bot n Pn.plain s.G (i % s.W) (i / s.W)).eqB _)
  generalize i / s.W = y at *
  generalize i % s.W = x at *
  congr 2
  unfold cellR scrollG
  rw [h.top, h.bot, if_pos (show (0 : Int) ≤ (y : Int) ∧ (y : Int) ≤ (s.H : Int) - 1 by omega)]
  by_cases hc : (0 : Int) ≤ (y : Int) + n ∧ (y : Int) + n ≤ (s.H : Int) - 1
  · rw [if_pos hc, if_pos (inG_iff.2 (by omega))]
  · rw [if_neg hc, if_neg (fun q => hc (by have := inG_iff.1 q; omega))]
structure Repainted (s : Rs) (P : Nat → Nat → Cel) (b : List UInt8) : Prop where
  fl : (feedR s b).Fl
  W : (feedR s b).W = s.W
  H : (feedR s b).H = s.H
  odd : (feedR s b).odd = s.odd
  eq : EqOn s.W s.H (feedR s b).G P
theorem repaint_ok (h : s.Fl) (hP : PicOk s.W s.H P) {n : Int} (h1 : -20 ≤ n) (h2 : n ≤ 20) : Repainted s P (repaintL s P n) ∧ (repaintL s P n).length ≤ (if n = 0 then 0 else 10) + 33 * othersN s P n := by
  unfold repaintL beginS
  by_cases h0 : n = 0
  · subst h0
    rw [if_pos rfl, if_pos rfl, others_zero h]
    have I := paint_inv h hP [] (s.H * s.W) (Nat.le_refl _)
    generalize paintN P s.W (s, []) (s.H * s.W) = st at I
    obtain ⟨m, m1, m2, m3⟩ := I.told
    rw [List.nil_append] at m1
    rw [m1]
    refine ⟨⟨by rw [m2]; exact I.fl, by rw [m2]; exact I.W, by rw [m2]; exact I.H, by rw [m2]; exact I.odd, fun a b ha hb => ?_⟩, by omega⟩
    rw [m2]
    exact I.done a b ha hb (place_lt ha hb)
  · rw [if_neg h0, if_neg h0, others_scroll h h0 (by omega) (by omega)]
    have hs := scrolled h h0 (n := n) (by omega) (by omega)
    have hfl := scrolled_fl h h0 (n := n) (by omega) (by omega)
    have hl := scroll_len h (n := n) (by omega) (by omega)
    have eW : (feedR s (scrollL s n)).W = s.W := by rw [hs]
    have eH : (feedR s (scrollL s n)).H = s.H := by rw [hs]
    have eo : (feedR s (scrollL s n)).odd = s.odd := by rw [hs]
    have I := paint_inv hfl (P := P) (by rw [eW, eH]; exact hP) (scrollL s n) (s.H * s.W) (by rw [eW, eH]; exact Nat.le_refl _)
    rw [eW] at I
    generalize paintN P s.W (feedR s (scrollL s n), scrollL s n) (s.H * s.W) = st at I
    obtain ⟨m, m1, m2, m3⟩ := I.told
    rw [eW] at m3
    have mf : feedR s st.2 = st.1 := by rw [m1, feed_app, m2]
    refine ⟨⟨by rw [mf]; exact I.fl, by rw [mf]; exact I.W.trans eW, by rw [mf]; exact I.H.trans eH, by rw [mf]; exact I.odd.trans eo, fun a b ha hb => ?_⟩, ?_⟩
    · rw [mf]
      exact I.done a b (by rw [eW]; exact ha) (by rw [eH]; exact hb) (by rw [eW]; exact place_lt ha hb)
    · rw [m1, List.length_append]; omega
/-- What is told. -/
structure Told (s : Rs) (P : Nat → Nat → Cel) (b : List UInt8) : Prop where
  re : Repainted s P b
  few : b.length ≤ 64 * othersN s P 0 + 16
  none : othersN s P 0 = 0 → b = []
  moved : ∀ n : Int, -(s.H : Int) ≤ n → n ≤ s.H → b.length ≤ 64 * othersN s P n + 24
theorem bytes_ok (h : s.Fl) (hP : PicOk s.W s.H P) : Told s P (bytesL s P) := by
  have h2 := h.ok.h2
  obtain ⟨n1, ⟨n2, n3⟩, n4⟩ := near_is (s := s) (P := P) s.H
  obtain ⟨r1, r2⟩ := repaint_ok h hP (n := 0) (by omega) (by omega)
  rw [if_pos rfl] at r2
  obtain ⟨q1, q2⟩ := repaint_ok h hP (n := (nearN s P s.H).1) (by omega) (by omega)
  rw [← n1] at q2
  unfold bytesL
  by_cases hc : (nearN s P s.H).1 ≠ 0 ∧ (repaintL s P (nearN s P s.H).1).length < (repaintL s P 0).length
  · rw [if_pos hc]
    rw [if_neg hc.1] at q2
    refine ⟨q1, by omega, fun e => ?_, fun n a b => ?_⟩
    · exact absurd (by rw [near_zero e]) hc.1
    · have := n4 n a b; omega
  · rw [if_neg hc]
    refine ⟨r1, by omega, fun e => ?_, fun n a b => ?_⟩
    · exact List.eq_nil_of_length_eq_zero (by omega)
    · have := n4 n a b
      by_cases e0 : (nearN s P s.H).1 = 0
      · rw [e0] at n1
        omega
      · rw [if_neg e0] at q2
        have : ¬ (repaintL s P (nearN s P s.H).1).length < (repaintL s P 0).length := fun q => hc ⟨e0, q⟩
        omega
end
end Go.Proofs.YtjlfibhbfdckpaaGreatDoor

/- Desks: windows in windows: the plain model, the tree. -/
namespace Go.Proofs.YtjlfibhbfdckpaaGreatDoor
structure Wn where
  n : Int
  par : Int
  x : Int
  y : Int
  sh : Bool
  W : Nat
  H : Nat
  G : Nat → Nat → Cel
/-- The windows of one parent, the lowest first. -/
def kids (L : List Wn) (n : Int) : List Wn := L.filter (fun v => decide (v.par = n))
theorem mem_kids {L : List Wn} {n : Int} {v : Wn} : v ∈ kids L n ↔ v ∈ L ∧ v.par = n := by simp [kids]
/-- A window lies in another one, or is it. -/
inductive Sub (L : List Wn) (n : Int) : Int → Prop
  | refl : Sub L n n
  | step {v : Wn} : v ∈ L → Sub L n v.par → Sub L n v.n
/-- What the windows of a desk are; rk says how deep each lies at least. -/
structure Tree (L : List Wn) (rk : Int → Nat) (K : Nat) : Prop where
  head : ∃ r T, L = r :: T ∧ r.n = 0 ∧ r.par = -1 ∧ ∀ v ∈ T, 1 ≤ v.n ∧ 0 ≤ v.par
  nd : (L.map Wn.n).Nodup
  up : ∀ v ∈ L, 0 ≤ v.par → (∃ u ∈ L, u.n = v.par) ∧ rk v.par < rk v.n
  le : ∀ v ∈ L, rk v.n ≤ K
theorem nd_inj {L : List Wn} (h : (L.map Wn.n).Nodup) : ∀ {u v : Wn}, u ∈ L → v ∈ L → u.n = v.n → u = v := by
  induction L with
  | nil => intro u v hu; simp at hu
  | cons a t ih =>
    intro u v hu hv e
    rw [List.map_cons, List.nodup_cons] at h
    rcases List.mem_cons.1 hu with rfl | hu'
    · rcases List.mem_cons.1 hv with rfl | hv'
      · rfl
      · exact absurd (List.mem_map.2 ⟨v, hv', e.symm⟩) h.1
    · rcases List.mem_cons.1 hv with rfl | hv'
      · exact absurd (List.mem_map.2 ⟨u, hu', e⟩) h.1
      · exact ih h.2 hu' hv' e
theorem Sub.trans {L : List Wn} {a b c : Int} (h : Sub L a b) (k : Sub L b c) : Sub L a c := by
  induction k with
  | refl => exact h
  | step hv _ ih => exact .step hv ih
theorem Sub.kid {L : List Wn} {a b : Int} (h : Sub L a b) : b = a ∨ ∃ u ∈ kids L a, Sub L u.n b := by
  induction h with
  | refl => exact .inl rfl
  | step hv _ ih =>
    rename_i v _
    rcases ih with e | ⟨u, hu, hs⟩
    · exact .inr ⟨v, mem_kids.2 ⟨hv, e⟩, .refl⟩
    · exact .inr ⟨u, hu, .step hv hs⟩
theorem Sub.last {L : List Wn} {a b : Int} (h : Sub L a b) : b = a ∨ ∃ v ∈ L, v.n = b ∧ Sub L a v.par := by
  cases h with
  | refl => exact .inl rfl
  | step hv hs => exact .inr ⟨_, hv, rfl, hs⟩
section
variable {L : List Wn} {rk : Int → Nat} {K : Nat}
theorem Tree.pos (h : Tree L rk K) {v : Wn} (hv : v ∈ L) : 0 ≤ v.n := by
  obtain ⟨r, T, rfl, h0, _, hT⟩ := h.head
  rcases List.mem_cons.1 hv with rfl | hv'
  · omega
  · have := (hT v hv').1; omega
theorem Tree.parNot (h : Tree L rk K) {v : Wn} (hv : v ∈ L) : v.par = -1 ∨ 0 ≤ v.par := by
  obtain ⟨r, T, rfl, h0, h1, hT⟩ := h.head
  rcases List.mem_cons.1 hv with rfl | hv'
  · exact .inl h1
  · exact .inr (hT v hv').2
theorem Tree.rootIn (h : Tree L rk K) : ∃ v ∈ L, v.n = 0 ∧ v.par = -1 := by
  obtain ⟨r, T, rfl, h0, h1, hT⟩ := h.head
  exact ⟨r, List.mem_cons_self, h0, h1⟩
theorem Tree.zero (h : Tree L rk K) {v : Wn} (hv : v ∈ L) : v.n = 0 ↔ v.par = -1 := by
  obtain ⟨r, T, rfl, h0, h1, hT⟩ := h.head
  rcases List.mem_cons.1 hv with rfl | hv'
  · simp [h0, h1]
  · have := hT v hv'; omega
theorem Sub.rank (h : Tree L rk K) {a b : Int} (ha : 0 ≤ a) (hs : Sub L a b) : rk a ≤ rk b ∧ 0 ≤ b := by
  induction hs with
  | refl => exact ⟨Nat.le_refl _, ha⟩
  | step hv _ ih => exact ⟨by have := (h.up _ hv ih.2).2; omega, h.pos hv⟩
theorem Tree.all (h : Tree L rk K) : ∀ (k : Nat) (v : Wn), v ∈ L → rk v.n ≤ k → Sub L 0 v.n := by
  intro k
  induction k with
  | zero =>
    intro v hv hk
    rcases h.parNot hv with e | e
    · rw [(h.zero hv).2 e]; exact .refl
    · have := (h.up v hv e).2; omega
  | succ k ih =>
    intro v hv hk
    rcases h.parNot hv with e | e
    · rw [(h.zero hv).2 e]; exact .refl
    · obtain ⟨⟨u, hu, hun⟩, hr⟩ := h.up v hv e
      refine .step hv ?_
      rw [← hun]
      exact ih u hu (by rw [hun]; omega)
/-- Is there a window of this number in one, or is it? As find goes. -/
def hasP (L : List Wn) : Nat → Int → Int → Bool
  | 0, v, m => decide (v = m)
  | f + 1, v, m => decide (v = m) || (kids L v).any (fun u => hasP L f u.n m)
theorem Tree.noKids (h : Tree L rk K) {a : Int} (ha : 0 ≤ a) (hk : K ≤ rk a) : kids L a = [] := by
  refine List.eq_nil_iff_forall_not_mem.2 (fun u hu => ?_)
  obtain ⟨hL, hp⟩ := mem_kids.1 hu
  have := (h.up u hL (by omega)).2
  have := h.le u hL
  rw [hp] at *
  omega
theorem Tree.has (h : Tree L rk K) (m : Int) : ∀ (f : Nat) (a : Int), 0 ≤ a → K ≤ rk a + f → (hasP L f a m = true ↔ Sub L a m) := by
  intro f
  induction f with
  | zero =>
    intro a ha hk
    have hn := h.noKids ha (by omega)
    simp only [hasP, decide_eq_true_eq]
    refine ⟨fun e => e ▸ .refl, fun hs => ?_⟩
    rcases hs.kid with e | ⟨u, hu, _⟩
    · exact e.symm
    · rw [hn] at hu; simp at hu
  | succ f ih =>
    intro a ha hk
    simp only [hasP, Bool.or_eq_true, decide_eq_true_eq, List.any_eq_true]
    constructor
    · rintro (e | ⟨u, hu, hs⟩)
      · exact e ▸ .refl
      · obtain ⟨hL, hp⟩ := mem_kids.1 hu
        have hr := (h.up u hL (by omega)).2
        rw [hp] at hr
        refine Sub.trans (.step hL ?_) ((ih u.n (h.pos hL) (by omega)).1 hs)
        rw [hp]; exact .refl
    · intro hs
      rcases hs.kid with e | ⟨u, hu, hs'⟩
      · exact .inl e.symm
      · obtain ⟨hL, hp⟩ := mem_kids.1 hu
        have hr := (h.up u hL (by omega)).2
        rw [hp] at hr
        exact .inr ⟨u, hu, (ih u.n (h.pos hL) (by omega)).2 hs'⟩
theorem Tree.hasRoot (h : Tree L rk K) (m : Int) : hasP L K 0 m = true ↔ ∃ v ∈ L, v.n = m := by
  rw [h.has m K 0 (by omega) (by omega)]
  constructor
  · intro hs
    rcases hs.last with e | ⟨v, hv, e, _⟩
    · obtain ⟨r, hr, h0, _⟩ := h.rootIn
      exact ⟨r, hr, by omega⟩
    · exact ⟨v, hv, e⟩
  · rintro ⟨v, hv, rfl⟩
    exact h.all K v hv (h.le v hv)
/-- How many windows there are, as count goes. -/
def cntP (L : List Wn) : Nat → Int → Nat
  | 0, _ => 1
  | f + 1, v => 1 + ((kids L v).map (fun u => cntP L f u.n)).sum
theorem Sub.chain (h : Tree L rk K) {a b c : Int} (hs : Sub L a c) (ht : Sub L b c) : Sub L a b ∨ Sub L b a := by
  induction hs with
  | refl => exact .inr ht
  | step hv hs' ih =>
    rename_i v
    rcases ht.last with e | ⟨u, hu, e, hs2⟩
    · rw [← e]; exact .inl (.step hv hs')
    · obtain rfl := nd_inj h.nd hu hv e
      exact ih hs2
theorem sum_swap {α β : Type} (l : List α) (m : List β) (f : α → β → Nat) : (l.map (fun a => (m.map (f a)).sum)).sum = (m.map (fun b => (l.map (fun a => f a b)).sum)).sum := by
  induction l with
  | nil => induction m with
    | nil => rfl
    | cons b s ih => simpa using ih
  | cons a t ih =>
    simp only [List.map_cons, List.sum_cons, ih]
    clear ih
    induction m with
    | nil => simp
    | cons b s ih2 => simp only [List.map_cons, List.sum_cons]; omega
theorem sum_one {l : List Wn} (hn : (l.map Wn.n).Nodup) {p : Wn → Prop} [DecidablePred p] {u : Wn} (hu : u ∈ l) (hp : p u) (h1 : ∀ v ∈ l, p v → v.n = u.n) : (l.map (fun v => if p v then 1 else 0)).sum = 1 := by
  induction l with
  | nil => simp at hu
  | cons a t ih =>
    rw [List.map_cons, List.nodup_cons] at hn
    simp only [List.map_cons, List.sum_cons]
    by_cases ha : p a
    · have e := h1 a List.mem_cons_self ha
      have hz : (t.map (fun v => if p v then 1 else 0)).sum = 0 := by
        have : ∀ v ∈ t, (if p v then 1 else 0) = (fun _ => 0) v := by
          intro v hv
          rw [if_neg]
          intro hpv
          have := h1 v (List.mem_cons_of_mem _ hv) hpv
          exact hn.1 (List.mem_map.2 ⟨v, hv, by omega⟩)
        rw [List.map_congr_left this]
        clear this ih hn h1 hu
        induction t with
        | nil => rfl
        | cons _ _ ih => simpa using ih
      rw [if_pos ha, hz]
    · rw [if_neg ha]
      rcases List.mem_cons.1 hu with rfl | hu'
      · exact absurd hp ha
      · rw [ih hn.2 hu' (fun v hv => h1 v (List.mem_cons_of_mem _ hv)), Nat.zero_add]
theorem sum_zero {α : Type} (l : List α) (f : α → Nat) (h : ∀ a ∈ l, f a = 0) : (l.map f).sum = 0 := by
  induction l with
  | nil => rfl
  | cons a t ih => rw [List.map_cons, List.sum_cons, h a List.mem_cons_self, ih (fun b hb => h b (List.mem_cons_of_mem _ hb))]
theorem sum_ones {α : Type} (l : List α) : (l.map (fun _ => 1)).sum = l.length := by
  induction l with
  | nil => rfl
  | cons a t ih => rw [List.map_cons, List.sum_cons, List.length_cons, ih]; omega
theorem sum_le_len {α : Type} (l : List α) (f : α → Nat) (h : ∀ a, f a ≤ 1) : (l.map f).sum ≤ l.length := by
  induction l with
  | nil => exact Nat.le_refl _
  | cons a t ih => rw [List.map_cons, List.sum_cons, List.length_cons]; have := h a; omega
theorem sum_add {α : Type} (l : List α) (f g : α → Nat) : (l.map (fun a => f a + g a)).sum = (l.map f).sum + (l.map g).sum := by
  induction l with
  | nil => rfl
  | cons a t ih => simp only [List.map_cons, List.sum_cons, ih]; omega
theorem nd_kids (h : (L.map Wn.n).Nodup) (a : Int) : ((kids L a).map Wn.n).Nodup := List.Nodup.sublist (List.Sublist.map _ List.filter_sublist) h
open Classical in
theorem Tree.part (h : Tree L rk K) {a : Int} (ha : 0 ≤ a) (u : Wn) : (if Sub L a u.n then 1 else 0) = (if u.n = a then 1 else 0) + ((kids L a).map (fun k => if Sub L k.n u.n then 1 else 0)).sum := by
  have hk : ∀ k ∈ kids L a, ¬ Sub L k.n a := by
    intro k hk hs
    obtain ⟨hL, hp⟩ := mem_kids.1 hk
    have h1 := (h.up k hL (by omega)).2
    have h2 := (Sub.rank h (h.pos hL) hs).1
    rw [hp] at h1
    omega
  by_cases e : u.n = a
  · rw [if_pos e, if_pos (e ▸ .refl), sum_zero]
    intro k hkk
    rw [if_neg]
    rw [e]
    exact hk k hkk
  · rw [if_neg e]
    by_cases hs : Sub L a u.n
    · rw [if_pos hs]
      rcases hs.kid with e' | ⟨k, hkk, hs'⟩
      · exact absurd e' e
      · rw [sum_one (p := fun k => Sub L k.n u.n) (nd_kids h.nd a) hkk hs']
        intro v hv hsv
        have hvk : ∀ {c d : Wn}, c ∈ kids L a → d ∈ kids L a → Sub L c.n d.n → d.n = c.n := by
          intro c d hc hd hcd
          rcases hcd.last with e2 | ⟨x, hx, e2, hs2⟩
          · exact e2
          · obtain rfl := nd_inj h.nd hx (mem_kids.1 hd).1 e2
            rw [(mem_kids.1 hd).2] at hs2
            exact absurd hs2 (hk c hc)
        rcases Sub.chain h hsv hs' with h3 | h3
        · exact (hvk hv hkk h3).symm
        · exact hvk hkk hv h3
    · rw [if_neg hs, sum_zero]
      intro k hkk
      rw [if_neg]
      intro hs'
      obtain ⟨hL, hp⟩ := mem_kids.1 hkk
      refine hs (Sub.trans (.step hL ?_) hs')
      rw [hp]; exact .refl
open Classical in
theorem Tree.cnt (h : Tree L rk K) : ∀ (f : Nat) (v : Wn), v ∈ L → K ≤ rk v.n + f → cntP L f v.n = (L.map (fun u => if Sub L v.n u.n then 1 else 0)).sum := by
  intro f
  induction f with
  | zero =>
    intro v hv hk
    have hn := h.noKids (h.pos hv) (by omega)
    have e : ∀ u ∈ L, (if Sub L v.n u.n then 1 else 0) = (if u.n = v.n then 1 else 0) := by
      intro u _
      rw [h.part (h.pos hv) u, hn]
      simp
    rw [List.map_congr_left e, sum_one (p := fun u => u.n = v.n) h.nd hv rfl (fun _ _ e => e)]
    rfl
  | succ f ih =>
    intro v hv hk
    have e : ∀ u ∈ L, (if Sub L v.n u.n then 1 else 0) = (if u.n = v.n then 1 else 0) + ((kids L v.n).map (fun k => if Sub L k.n u.n then 1 else 0)).sum := fun u _ => h.part (h.pos hv) u
    rw [List.map_congr_left e, sum_add, sum_one (p := fun u => u.n = v.n) h.nd hv rfl (fun _ _ e => e), sum_swap]
    show 1 + _ = 1 + _
    refine congrArg (1 + ·) ?_
    refine congrArg List.sum (List.map_congr_left fun k hkk => ?_)
    obtain ⟨hL, hp⟩ := mem_kids.1 hkk
    have := (h.up k hL (by have := h.pos hv; omega)).2
    rw [hp] at this
    exact ih k hL (by omega)
theorem Tree.cntLe (h : Tree L rk K) (f : Nat) (v : Wn) (hv : v ∈ L) (hk : K ≤ rk v.n + f) : cntP L f v.n ≤ L.length := by
  classical
  rw [h.cnt f v hv hk]
  exact sum_le_len L _ (fun a => by split <;> omega)
theorem Tree.count (h : Tree L rk K) : cntP L K 0 = L.length := by
  classical
  obtain ⟨r, hr, h0, _⟩ := h.rootIn
  have := h.cnt K r hr (by omega)
  rw [h0] at this
  rw [this]
  have e : ∀ u ∈ L, (if Sub L 0 u.n then 1 else 0) = (fun _ => 1) u := fun u hu => if_pos (h.all K u hu (h.le u hu))
  rw [List.map_congr_left e]
  exact sum_ones L
end
end Go.Proofs.YtjlfibhbfdckpaaGreatDoor

/- Desks: owners and the picture, plain. -/
namespace Go.Proofs.YtjlfibhbfdckpaaGreatDoor
/-- A window that is shown and has this place of its parent. -/
def hit (x y : Int) (u : Wn) : Bool := u.sh && inG u.W u.H (x - u.x) (y - u.y)
/-- The uppermost such window in one. -/
def nextP (L : List Wn) (n : Int) (x y : Int) : Option Wn := (kids L n).reverse.find? (hit x y)
/-- The owner of a place, and the place in it. -/
def ownP (L : List Wn) : Nat → Wn → Int → Int → Wn × Int × Int
  | 0, v, x, y => (v, x, y)
  | f + 1, v, x, y => match nextP L v.n x y with
    | none => (v, x, y)
    | some u => ownP L f u (x - u.x) (y - u.y)
theorem nextP_some {L : List Wn} {n x y : Int} {u : Wn} (h : nextP L n x y = some u) : u ∈ L ∧ u.par = n ∧ u.sh = true ∧ inG u.W u.H (x - u.x) (y - u.y) = true := by
  have h1 := List.find?_some h
  have h2 := List.mem_of_find?_eq_some h
  obtain ⟨a, b⟩ := mem_kids.1 (List.mem_reverse.1 h2)
  simp only [hit, Bool.and_eq_true] at h1
  exact ⟨a, b, h1.1, h1.2⟩
theorem Tree.nextNone {L : List Wn} {rk : Int → Nat} {K : Nat} (T : Tree L rk K) {v : Wn} (hv : v ∈ L) (hk : K ≤ rk v.n) (x y : Int) : nextP L v.n x y = none := by
  unfold nextP
  rw [T.noKids (T.pos hv) hk]
  rfl
theorem Tree.ownSucc {L : List Wn} {rk : Int → Nat} {K : Nat} (T : Tree L rk K) {v : Wn} (hv : v ∈ L) {f : Nat} (hk : K ≤ rk v.n + f) (x y : Int) : ownP L f v x y = match nextP L v.n x y with
    | none => (v, x, y)
    | some u => ownP L (f - 1) u (x - u.x) (y - u.y) := by
  cases f with
  | zero => rw [T.nextNone hv (by omega)]; rfl
  | succ f => rfl
/-- One half of a wide letter, the other at a place. -/
def halfP (L : List Wn) (K : Nat) (r o : Wn) (c : Cel) (x y : Int) : Cel := if inG r.W r.H x y = true ∧ (ownP L K r x y).1.n = o.n then c else blk c.n
/-- A cell of the picture. -/
def picP (L : List Wn) (K : Nat) (r : Wn) (x y : Int) : Cel :=
  let o := ownP L K r x y
  let c := o.1.G o.2.1.toNat o.2.2.toNat
  if c.p = 1 then halfP L K r o.1 c (x + 1) y else if c.p = 2 then halfP L K r o.1 c (x - 1) y else c
theorem Tree.ownIn {L : List Wn} {rk : Int → Nat} {K : Nat} (T : Tree L rk K) : ∀ (f : Nat) (v : Wn) (x y : Int), v ∈ L → K ≤ rk v.n + f → inG v.W v.H x y = true → (ownP L f v x y).1 ∈ L ∧ inG (ownP L f v x y).1.W (ownP L f v x y).1.H (ownP L f v x y).2.1 (ownP L f v x y).2.2 = true := by
  intro f
  induction f with
  | zero => intro v x y hv _ hi; exact ⟨hv, hi⟩
  | succ f ih =>
    intro v x y hv hk hi
    rw [T.ownSucc hv hk]
    cases hn : nextP L v.n x y with
    | none => exact ⟨hv, hi⟩
    | some u =>
      obtain ⟨hu, hp, _, hui⟩ := nextP_some hn
      have := (T.up u hu (by have := T.pos hv; omega)).2
      rw [hp] at this
      exact ih u _ _ hu (by omega) hui
end Go.Proofs.YtjlfibhbfdckpaaGreatDoor
