/- Texts of the proof, one behind the other: FpD, FpE, FpF. -/
import Derived.Test.YtjlfibhbfdckpaaGreatDoorK03
/- Flush: spots, steps, ways: plain. -/
namespace Go.Proofs.YtjlfibhbfdckpaaGreatDoor
open Wd (wd)
structure Sp where
  x : Int
  y : Int
  pend : Bool
  pen : Pn
structure Wy where
  b : List UInt8
  k : Nat
  e : Sp
structure Gl where
  x : Int
  y : Int
  pen : Pn
  letter : Bool
def Sp.eqB (a b : Sp) : Bool := decide (a.x = b.x) && decide (a.y = b.y) && (a.pend == b.pend) && a.pen.eqB b.pen
theorem Sp.eqB_iff {a b : Sp} : a.eqB b = true ↔ a = b := by
  obtain ⟨x, y, p, n⟩ := a
  obtain ⟨x', y', p', n'⟩ := b
  simp [Sp.eqB, and_assoc, Pn.eqB_iff]
def Sp.move (s : Sp) (x y : Int) : Sp := ⟨x, y, false, s.pen⟩
def Sp.ink (s : Sp) (n : Pn) : Sp := ⟨s.x, s.y, s.pend, n⟩
def Sp.lx (s : Sp) : Int := if s.pend = true then 0 else s.x
def Sp.ly (s : Sp) : Int := if s.pend = true then s.y + 1 else s.y
def Gl.isAt (g : Gl) (s : Sp) : Bool := if s.pend = true ∧ g.letter = false then false else decide (s.lx = g.x) && decide (s.ly = g.y) && s.pen.eqB g.pen
/-- The screen with the cursor and the pen of a spot. -/
def Rs.on (s : Rs) (p : Sp) : Rs := { s with x := p.x, y := p.y, pend := p.pend, pen := p.pen }
def Rs.sp (s : Rs) : Sp := ⟨s.x, s.y, s.pend, s.pen⟩
/-- A screen between two sequences, with whole margins. -/
structure Rs.Fl (s : Rs) : Prop where
  ok : s.Ok
  B : s.B = ⟨#[]⟩
  top : s.top = 0
  bot : s.bot = (s.H : Int) - 1
  pen : s.pen.Ok
/-- A spot of a screen. -/
structure Sp.In (p : Sp) (s : Rs) : Prop where
  x0 : 0 ≤ p.x
  x1 : p.x < s.W
  y0 : 0 ≤ p.y
  y1 : p.y < s.H
  pd : p.pend = true → p.x = (s.W : Int) - 1
theorem sp_in {s : Rs} (h : s.Ok) : s.sp.In s := ⟨h.x0, h.x1, h.y0, h.y1, h.pd⟩
theorem Rs.Fl.on {s : Rs} (h : s.Fl) {p : Sp} (hp : p.In s) (hn : p.pen.Ok) : (s.on p).Fl :=
  ⟨⟨h.ok.w1, h.ok.w2, h.ok.h1, h.ok.h2, hp.x0, hp.x1, hp.y0, hp.y1, h.ok.t0, h.ok.tb, h.ok.b1, hp.pd, h.ok.wf⟩, h.B, h.top, h.bot, hn⟩
/-- Behind a letter at x, y. -/
def nextS (s : Rs) (f : Sp) (x y k : Int) : Sp := if inG s.W s.H (x + k) y = true then ⟨x + k, y, false, f.pen⟩ else ⟨x + k - 1, y, true, f.pen⟩
/-- The step over a letter that is there already. -/
def againW (s : Rs) (f : Sp) : List Wy :=
  if inG s.W s.H f.lx f.ly = true then
    (if (s.G f.lx.toNat f.ly.toNat).p = 2 ∨ (s.G f.lx.toNat f.ly.toNat).n.eqB f.pen = false then []
      else [⟨encL (s.G f.lx.toNat f.ly.toNat).r, 0, nextS s f f.lx f.ly (wd (s.G f.lx.toNat f.ly.toNat).r)⟩])
  else []
def great (a b : Int) : Int := if b > a then b else a
/-- What may come next on a way. -/
def stepsW (s : Rs) (f : Sp) (g : Gl) : List Wy :=
  [⟨[13], 0, f.move 0 f.y⟩, ⟨[8], 0, f.move (great (f.x - 1) 0) f.y⟩, ⟨[], 0, f.ink g.pen⟩]
  ++ (if inG s.W s.H f.x (f.y + 1) = true then [⟨[10], 0, f.move f.x (f.y + 1)⟩] else [])
  ++ (if f.y = g.y then [] else [⟨alongL (g.y - f.y) 66 65, 0, f.move f.x g.y⟩])
  ++ (if f.x = g.x then [] else [⟨alongL (g.x - f.x) 67 68, 0, f.move g.x f.y⟩])
  ++ againW s f
theorem steps_len (s : Rs) (f : Sp) (g : Gl) : (stepsW s f g).length ≤ 7 := by
  have ha : (againW s f).length ≤ 1 := by
    unfold againW; split
    · split <;> simp
    · simp
  simp only [stepsW, List.length_append, List.length_cons, List.length_nil]
  have h1 : (if inG s.W s.H f.x (f.y + 1) = true then [(⟨[10], 0, f.move f.x (f.y + 1)⟩ : Wy)] else []).length ≤ 1 := by split <;> simp
  have h2 : (if f.y = g.y then [] else [(⟨alongL (g.y - f.y) 66 65, 0, f.move f.x g.y⟩ : Wy)]).length ≤ 1 := by split <;> simp
  have h3 : (if f.x = g.x then [] else [(⟨alongL (g.x - f.x) 67 68, 0, f.move g.x f.y⟩ : Wy)]).length ≤ 1 := by split <;> simp
  omega
structure StepOk (s : Rs) (f : Sp) (g : Gl) (st : Wy) : Prop where
  inn : st.e.In s
  how : (st.e.pen = f.pen ∧ feedR (s.on f) st.b = s.on st.e) ∨ (st.b = [] ∧ st.e = f.ink g.pen)
section
variable {s : Rs} {f : Sp} {g : Gl}
theorem put_again (h : s.Fl) (hin : inG s.W s.H f.lx f.ly = true) (hp : (s.G f.lx.toNat f.ly.toNat).p ≠ 2) (hq : (s.G f.lx.toNat f.ly.toNat).n = f.pen) :
    putR (s.on f) (s.G f.lx.toNat f.ly.toNat).r = s.on (nextS s f f.lx f.ly (wd (s.G f.lx.toNat f.ly.toNat).r)) ∧ (nextS s f f.lx f.ly (wd (s.G f.lx.toNat f.ly.toNat).r)).In s ∧ wd (s.G f.lx.toNat f.ly.toNat).r ≠ 0 := by
  have ok := h.ok
  obtain ⟨a0, a1, b0, b1⟩ := inG_iff.1 hin
  obtain ⟨x, hx⟩ := Int.eq_ofNat_of_zero_le a0
  obtain ⟨y, hy⟩ := Int.eq_ofNat_of_zero_le b0
  rw [hx] at a1
  rw [hy] at b1
  rw [hx, hy] at hp hq ⊢
  simp only [Int.toNat_natCast] at hp hq ⊢
  have hx' : x < s.W := by omega
  have hy' : y < s.H := by omega
  have w1 := ok.w1
  -- behind the wrap
  have hb : ∀ k, (k = 1 ∨ (k = 2 ∧ x + 1 < s.W)) → brokenR (s.on f) k = s.on ⟨x, y, false, f.pen⟩ := by
    intro k hk
    unfold brokenR wraps
    cases hpd : f.pend with
    | true =>
      have e1 : f.lx = 0 := by simp [Sp.lx, hpd]
      have e2 : f.ly = f.y + 1 := by simp [Sp.ly, hpd]
      rw [if_pos (by show (f.pend || _) = true; rw [hpd]; rfl)]
      unfold linefeedR
      rw [if_neg (by show ¬ f.y = s.bot; rw [h.bot]; omega)]
      show goesR _ (0 : Int) (f.y + 1) = _
      rw [goes_to (by omega) (by show (0 : Int) < s.W; omega) (by omega) (by show f.y + 1 < (s.H : Int); omega)]
      have : f.y + 1 = y := by omega
      have : (0 : Int) = x := by omega
      simp only [Rs.on]
      congr 1
    | false =>
      have e1 : f.lx = f.x := by simp [Sp.lx, hpd]
      have e2 : f.ly = f.y := by simp [Sp.ly, hpd]
      rw [if_neg]
      · show s.on f = s.on ⟨x, y, false, f.pen⟩
        rw [← hpd]
        simp only [Rs.on]
        congr 1 <;> omega
      · show ¬ (f.pend || (decide (k = 2) && decide (f.x = (s.W : Int) - 1))) = true
        rw [hpd]
        simp
        omega
  have hst : ∀ k : Int, (k = 1 ∨ (k = 2 ∧ x + 1 < s.W)) → stepR (s.on ⟨x, y, false, f.pen⟩) k = s.on (nextS s f x y k) ∧ (nextS s f x y k).In s := by
    intro k hk
    unfold stepR nextS
    by_cases hc : (s.W : Int) ≤ x + k
    · have hni : ¬ inG s.W s.H ((x : Int) + k) y = true := fun q => by have := inG_iff.1 q; omega
      rw [if_pos (show ((s.on ⟨x, y, false, f.pen⟩).W : Int) ≤ (s.on ⟨x, y, false, f.pen⟩).x + k from hc), if_neg hni]
      refine ⟨?_, ⟨by show (0 : Int) ≤ x + k - 1; omega, by show (x : Int) + k - 1 < s.W; omega, by show (0 : Int) ≤ y; omega, by show (y : Int) < s.H; omega, fun _ => by show (x : Int) + k - 1 = (s.W : Int) - 1; omega⟩⟩
      simp only [Rs.on]
      congr 1
      omega
    · have hi : inG s.W s.H ((x : Int) + k) y = true := inG_iff.2 (by omega)
      rw [if_neg (show ¬ ((s.on ⟨x, y, false, f.pen⟩).W : Int) ≤ (s.on ⟨x, y, false, f.pen⟩).x + k from hc), if_pos hi]
      exact ⟨rfl, ⟨by show (0 : Int) ≤ x + k; omega, by show (x : Int) + k < s.W; omega, by show (0 : Int) ≤ y; omega, by show (y : Int) < s.H; omega, fun q => by cases q⟩⟩
  rcases ok.wf.part x y hx' hy' with ⟨p0, w0⟩ | ⟨p0, w0⟩ | ⟨p0, w0⟩
  · obtain ⟨e1, e2⟩ := hst 1 (.inl rfl)
    rw [w0]
    refine ⟨?_, e2, by decide⟩
    unfold putR
    rw [if_neg (by rw [w0]; decide)]
    have ew : effW (s.on f).W (s.G x y).r = 1 := by unfold effW; rw [if_neg (by rw [w0]; omega), w0]
    have er : effR (s.on f).W (s.G x y).r = (s.G x y).r := by unfold effR; rw [if_neg (by rw [w0]; omega)]
    rw [ew, er, hb 1 (.inl rfl)]
    have eg : writeR (s.on ⟨x, y, false, f.pen⟩) (s.G x y).r = s.on ⟨x, y, false, f.pen⟩ := by
      unfold writeR
      have : writeG s.W s.H s.G x y (s.G x y).r f.pen = s.G := write_same1 (by rw [← hq, ← p0]) w0
      simp only [Rs.on]
      rw [this]
    rw [eg, e1]
  · obtain ⟨hh, ht⟩ := ok.wf.head x y hx' hy' p0
    obtain ⟨e1, e2⟩ := hst 2 (.inr ⟨rfl, hh⟩)
    rw [w0]
    refine ⟨?_, e2, by decide⟩
    unfold putR
    rw [if_neg (by rw [w0]; decide)]
    have ew : effW (s.on f).W (s.G x y).r = 2 := by unfold effW; rw [if_neg (by rintro ⟨_, q⟩; have : s.W = 1 := q; omega), w0]
    have er : effR (s.on f).W (s.G x y).r = (s.G x y).r := by unfold effR; rw [if_neg (by rintro ⟨_, q⟩; have : s.W = 1 := q; omega)]
    rw [ew, er, hb 2 (.inr ⟨rfl, hh⟩)]
    have eg : writeR (s.on ⟨x, y, false, f.pen⟩) (s.G x y).r = s.on ⟨x, y, false, f.pen⟩ := by
      unfold writeR
      have : writeG s.W s.H s.G x y (s.G x y).r f.pen = s.G := write_same2 (by rw [← hq, ← p0]) (by rw [ht, hq]) hh hy' w0
      simp only [Rs.on]
      rw [this]
    rw [eg, e1]
  · exact absurd p0 hp
theorem steps_ok (h : s.Fl) (hf : f.In s) (hn : f.pen.Ok) (gx0 : 0 ≤ g.x) (gx1 : g.x < s.W) (gy0 : 0 ≤ g.y) (gy1 : g.y < s.H) : ∀ st ∈ stepsW s f g, StepOk s f g st := by
  have ok := h.ok
  have w2 := ok.w2
  have h2 := ok.h2
  have w1 := ok.w1
  have fl := h.on hf hn
  have fx0 := hf.x0
  have fx1 := hf.x1
  have fy0 := hf.y0
  have fy1 := hf.y1
  intro st hst
  simp only [stepsW, List.mem_append, List.mem_cons, List.not_mem_nil, or_false] at hst
  rcases hst with ((((rfl | rfl | rfl) | hst) | hst) | hst) | hst
  · refine ⟨⟨by show (0 : Int) ≤ 0; omega, by show (0 : Int) < s.W; omega, fy0, fy1, fun q => by cases q⟩, .inl ⟨rfl, ?_⟩⟩
    rw [feed_cr fl.B, goes_to (s := s.on f) (x := 0) (y := (s.on f).y) (by omega) (by show (0 : Int) < s.W; omega) fy0 fy1]
    rfl
  · have hg : 0 ≤ great (f.x - 1) 0 ∧ great (f.x - 1) 0 < s.W ∧ great (f.x - 1) 0 = clampI (f.x - 1) s.W := by
      unfold great clampI
      by_cases hc : f.x - 1 < 0
      · rw [if_pos hc, if_pos (by omega)]; omega
      · rw [if_neg hc, if_neg (by omega), if_neg (by omega)]; omega
    refine ⟨⟨hg.1, hg.2.1, fy0, fy1, fun q => by cases q⟩, .inl ⟨rfl, ?_⟩⟩
    rw [feed_bs fl.B]
    unfold goesR
    show ({ s.on f with x := clampI (f.x - 1) s.W, y := clampI f.y s.H, pend := false } : Rs) = s.on (f.move (great (f.x - 1) 0) f.y)
    rw [hg.2.2, clampI_id fy0 fy1]
    rfl
  · exact ⟨⟨fx0, fx1, fy0, fy1, hf.pd⟩, .inr ⟨rfl, rfl⟩⟩
  · split at hst
    · rename_i hin
      obtain ⟨_, _, _, b1⟩ := inG_iff.1 hin
      rw [List.mem_singleton] at hst
      subst hst
      refine ⟨⟨fx0, fx1, by show (0 : Int) ≤ f.y + 1; omega, b1, fun q => by cases q⟩, .inl ⟨rfl, ?_⟩⟩
      rw [feed_lf fl.B]
      unfold linefeedR
      rw [if_neg (by show ¬ f.y = s.bot; rw [h.bot]; omega)]
      show goesR (s.on f) f.x (f.y + 1) = _
      rw [goes_to (s := s.on f) fx0 fx1 (by omega) b1]
      rfl
    · cases hst
  · split at hst
    · cases hst
    · rename_i hne
      rw [List.mem_singleton] at hst
      subst hst
      refine ⟨⟨fx0, fx1, gy0, gy1, fun q => by cases q⟩, .inl ⟨rfl, ?_⟩⟩
      have := feed_down (s := s.on f) fl.B (y := g.y) fx0 fx1 fy0 fy1 gy0 gy1 h2 hne
      exact this
  · split at hst
    · cases hst
    · rename_i hne
      rw [List.mem_singleton] at hst
      subst hst
      refine ⟨⟨gx0, gx1, fy0, fy1, fun q => by cases q⟩, .inl ⟨rfl, ?_⟩⟩
      have := feed_right (s := s.on f) fl.B (x := g.x) fx0 fx1 fy0 fy1 gx0 gx1 w2 hne
      exact this
  · unfold againW at hst
    split at hst
    · rename_i hin
      split at hst
      · cases hst
      · rename_i hc
        rw [List.mem_singleton] at hst
        subst hst
        have hc1 : (s.G f.lx.toNat f.ly.toNat).p ≠ 2 := fun q => hc (.inl q)
        have hc2 : (s.G f.lx.toNat f.ly.toNat).n = f.pen := by
          cases q : (s.G f.lx.toNat f.ly.toNat).n.eqB f.pen with
          | true => exact Pn.eqB_iff.1 q
          | false => exact absurd (.inr q) hc
        obtain ⟨e1, e2, e3⟩ := put_again h hin hc1 hc2
        refine ⟨e2, .inl ⟨?_, ?_⟩⟩
        · show (nextS s f _ _ _).pen = _
          unfold nextS; split <;> rfl
        · show feedR _ (encL _) = _
          rw [feed_letter fl.B e3, e1]
    · cases hst
end
end Go.Proofs.YtjlfibhbfdckpaaGreatDoor

/- Flush: the heap of ways, and the way to a goal: plain. -/
namespace Go.Proofs.YtjlfibhbfdckpaaGreatDoor
open Wd (wd)
def wy0 : Wy := ⟨[], 0, ⟨0, 0, false, Pn.plain⟩⟩
def gW (l : List Wy) (i : Nat) : Wy := l.getD i wy0
def swL (l : List Wy) (i j : Nat) : List Wy := (l.set i (gW l j)).set j (gW l i)
def upL (l : List Wy) (j : Nat) : List Wy :=
  if _h : j ≠ 0 ∧ (gW l j).b.length < (gW l ((j - 1) / 2)).b.length then upL (swL l ((j - 1) / 2) j) ((j - 1) / 2) else l
termination_by j
decreasing_by omega
/-- The lesser child. -/
def lessC (l : List Wy) (i n : Nat) : Nat := if 2 * i + 2 < n ∧ (gW l (2 * i + 2)).b.length < (gW l (2 * i + 1)).b.length then 2 * i + 2 else 2 * i + 1
theorem lessC_lt (l : List Wy) (i n : Nat) (h : 2 * i + 1 < n) : lessC l i n < n ∧ i < lessC l i n := by
  unfold lessC; split <;> omega
def downL (l : List Wy) (i n : Nat) : List Wy :=
  if _h : 2 * i + 1 < n ∧ (gW l (lessC l i n)).b.length < (gW l i).b.length then downL (swL l i (lessC l i n)) (lessC l i n) n else l
termination_by n - i
decreasing_by have := lessC_lt l i n _h.1; omega
theorem sw_perm {l : List Wy} {i j : Nat} (hi : i < l.length) (hj : j < l.length) : List.Perm (swL l i j) l := by
  unfold swL gW
  have ei : l.getD i wy0 = l[i] := by simp [List.getD, hi]
  have ej : l.getD j wy0 = l[j] := by simp [List.getD, hj]
  rw [ei, ej]
  exact List.set_set_perm hi hj
theorem sw_len (l : List Wy) (i j : Nat) : (swL l i j).length = l.length := by simp [swL]
theorem up_perm : ∀ (j : Nat) (l : List Wy), j < l.length → List.Perm (upL l j) l := by
  intro j
  induction j using Nat.strongRecOn with
  | _ j ih =>
    intro l hj
    rw [upL]
    split
    · rename_i h
      exact (ih _ (by omega) _ (by rw [sw_len]; omega)).trans (sw_perm (by omega) hj)
    · exact List.Perm.refl _
theorem down_perm : ∀ (d : Nat) (l : List Wy) (i n : Nat), n - i = d → n ≤ l.length → List.Perm (downL l i n) l := by
  intro d
  induction d using Nat.strongRecOn with
  | _ d ih =>
    intro l i n hd hn
    rw [downL]
    split
    · rename_i h
      have hl := lessC_lt l i n h.1
      exact (ih _ (by omega) _ _ _ rfl (by rw [sw_len]; exact hn)).trans (sw_perm (by omega) (by omega))
    · exact List.Perm.refl _
/-- What is popped, and what is left. -/
def popD (l : List Wy) : List Wy := downL (swL l 0 (l.length - 1)) 0 (l.length - 1)
def popW (l : List Wy) : Wy := gW (popD l) (l.length - 1)
def popR (l : List Wy) : List Wy := (popD l).take (l.length - 1)
def pushW (l : List Wy) (w : Wy) : List Wy := upL (l ++ [w]) l.length
theorem popD_perm {l : List Wy} (h : l ≠ []) : List.Perm (popD l) l := by
  have hl : 0 < l.length := List.length_pos_iff.2 h
  exact (down_perm _ _ _ _ rfl (by rw [sw_len]; omega)).trans (sw_perm hl (by omega))
theorem pop_perm {l : List Wy} (h : l ≠ []) : List.Perm (popR l ++ [popW l]) l := by
  have hl : 0 < l.length := List.length_pos_iff.2 h
  have hp := popD_perm h
  have hlen := hp.length_eq
  have : popR l ++ [popW l] = popD l := by
    unfold popR popW gW
    have e : (popD l).getD (l.length - 1) wy0 = (popD l)[l.length - 1]'(by omega) := by simp [List.getD, show l.length - 1 < (popD l).length by omega]
    rw [e, ← List.take_succ_eq_append_getElem, List.take_of_length_le (by omega)]
  rw [this]; exact hp
theorem popR_len {l : List Wy} (h : l ≠ []) : (popR l).length + 1 = l.length := by
  have := (pop_perm h).length_eq
  simpa using this
theorem push_perm (l : List Wy) (w : Wy) : List.Perm (pushW l w) (l ++ [w]) := up_perm _ _ (by simp)
theorem push_len (l : List Wy) (w : Wy) : (pushW l w).length = l.length + 1 := by
  have := (push_perm l w).length_eq
  simpa using this
/-- A way with one more step. -/
def thenW (w st : Wy) : Wy := ⟨w.b ++ st.b, if w.e.pen.eqB st.e.pen = true then w.k else w.b.length, st.e⟩
def straightW (g : Gl) : Wy := ⟨placeL g.x g.y, 0, ⟨g.x, g.y, false, g.pen⟩⟩
def startO (s : Rs) (g : Gl) : List Wy := [⟨[], 0, s.sp⟩, straightW g]
def outW (s : Rs) (g : Gl) (w : Wy) : List UInt8 := w.b.take w.k ++ penL s.pen g.pen ++ w.b.drop w.k
def pushAll (n : Nat) (w : Wy) (sts : List Wy) (o : List Wy) : List Wy := sts.foldl (fun o st => if (thenW w st).b.length < n then pushW o (thenW w st) else o) o
def knownB (kn : List Sp) (p : Sp) : Bool := kn.any (fun q => q.eqB p)
def routeF (s : Rs) (g : Gl) : Nat → List Wy → List Sp → List UInt8
  | 0, _, _ => []
  | m + 1, o, kn =>
    if g.isAt (popW o).e = true then outW s g (popW o)
    else if knownB kn (popW o).e = true then routeF s g m (popR o) kn
    else routeF s g m (pushAll (placeL g.x g.y).length (popW o) (stepsW s (popW o).e g) (popR o)) (kn ++ [(popW o).e])
def routeN (s : Rs) : Nat := 8 * (4 * (s.H * s.W)) + 2
/-- The bytes that lead to a goal. -/
def routeL (s : Rs) (g : Gl) : List UInt8 := routeF s g (routeN s) (startO s g) []
theorem known_iff {kn : List Sp} {p : Sp} : knownB kn p = true ↔ p ∈ kn := by
  simp only [knownB, List.any_eq_true, Sp.eqB_iff]
  constructor
  · rintro ⟨q, hq, rfl⟩; exact hq
  · intro h; exact ⟨p, h, rfl⟩
structure WyOk (s : Rs) (g : Gl) (w : Wy) : Prop where
  inn : w.e.In s
  pen : w.e.pen = s.pen ∨ w.e.pen = g.pen
  k : w.k ≤ w.b.length
  len : w.b.length ≤ (placeL g.x g.y).length
  p1 : w.e.pen = s.pen → feedR s w.b = s.on w.e
  p2 : w.e.pen = g.pen → feedR s (outW s g w) = s.on w.e
/-- A goal of a screen. -/
structure Gl.In (g : Gl) (s : Rs) : Prop where
  x0 : 0 ≤ g.x
  x1 : g.x < s.W
  y0 : 0 ≤ g.y
  y1 : g.y < s.H
  pen : g.pen.Ok
section
variable {s : Rs} {g : Gl}
theorem out_same {w : Wy} (h : s.pen = g.pen) : outW s g w = w.b := by
  unfold outW; rw [h, penL_same, List.append_nil, List.take_append_drop]
theorem start_ok (h : s.Fl) : WyOk s g ⟨[], 0, s.sp⟩ := by
  refine ⟨sp_in h.ok, .inl rfl, Nat.le_refl 0, Nat.zero_le _, fun _ => rfl, fun e => ?_⟩
  rw [out_same e]; rfl
theorem straight_ok (h : s.Fl) (hg : g.In s) : WyOk s g (straightW g) := by
  have ok := h.ok
  have e0 : feedR s (penL s.pen g.pen) = { s with pen := g.pen } := feed_pen h.B hg.pen
  refine ⟨⟨hg.x0, hg.x1, hg.y0, hg.y1, fun q => by cases q⟩, .inr rfl, Nat.zero_le _, Nat.le_refl _, fun e => ?_, fun _ => ?_⟩
  · show feedR s (placeL g.x g.y) = _
    rw [feed_place h.B hg.x0 hg.x1 hg.y0 hg.y1 ok.w2 ok.h2]
    have e' : g.pen = s.pen := e
    simp only [Rs.on, straightW]
    rw [e']
  · show feedR s (([] : List UInt8) ++ penL s.pen g.pen ++ placeL g.x g.y) = _
    rw [List.nil_append, feed_app, e0, feed_place (s := { s with pen := g.pen }) h.B hg.x0 hg.x1 hg.y0 hg.y1 ok.w2 ok.h2]
    rfl
theorem pen_ok (h : s.Fl) (hg : g.In s) {w : Wy} (hw : WyOk s g w) : w.e.pen.Ok := by
  rcases hw.pen with e | e
  · rw [e]; exact h.pen
  · rw [e]; exact hg.pen
theorem then_ok (h : s.Fl) (hg : g.In s) {w st : Wy} (hw : WyOk s g w) (hs : StepOk s w.e g st) (hl : (thenW w st).b.length < (placeL g.x g.y).length) : WyOk s g (thenW w st) := by
  have hn := pen_ok h hg hw
  by_cases hp : st.e.pen = w.e.pen
  · have hk : (thenW w st).k = w.k := by
      show (if w.e.pen.eqB st.e.pen = true then w.k else w.b.length) = w.k
      rw [if_pos (Pn.eqB_iff.2 hp.symm)]
    have hf : feedR (s.on w.e) st.b = s.on st.e := by
      rcases hs.how with ⟨_, e⟩ | ⟨e1, e2⟩
      · exact e
      · rw [e1, feed_nil, e2]
        have : g.pen = w.e.pen := by rw [← hp, e2]; rfl
        rw [this]; rfl
    refine ⟨hs.inn, by show st.e.pen = _ ∨ st.e.pen = _; rw [hp]; exact hw.pen, ?_, Nat.le_of_lt hl, fun e => ?_, fun e => ?_⟩
    · rw [hk]; show w.k ≤ (w.b ++ st.b).length; rw [List.length_append]; have := hw.k; omega
    · show feedR s (w.b ++ st.b) = s.on st.e
      rw [feed_app, hw.p1 (hp ▸ e), hf]
    · show feedR s (outW s g (thenW w st)) = s.on st.e
      have eo : outW s g (thenW w st) = outW s g w ++ st.b := by
        unfold outW
        rw [hk]
        show (w.b ++ st.b).take w.k ++ penL s.pen g.pen ++ (w.b ++ st.b).drop w.k = _
        rw [List.take_append_of_le_length hw.k, List.drop_append_of_le_length hw.k]
        simp
      rw [eo, feed_app, hw.p2 (hp ▸ e), hf]
  · rcases hs.how with ⟨e, _⟩ | ⟨e1, e2⟩
    · exact absurd e hp
    · have eg : st.e.pen = g.pen := by rw [e2]; rfl
      have ew : w.e.pen = s.pen := by
        rcases hw.pen with q | q
        · exact q
        · exact absurd (eg.trans q.symm) hp
      have hk : (thenW w st).k = w.b.length := by
        show (if w.e.pen.eqB st.e.pen = true then w.k else w.b.length) = _
        rw [if_neg (fun q => hp (Pn.eqB_iff.1 q).symm)]
      refine ⟨hs.inn, .inr eg, ?_, Nat.le_of_lt hl, fun e => ?_, fun _ => ?_⟩
      · rw [hk]; show w.b.length ≤ (w.b ++ st.b).length; rw [List.length_append]; omega
      · exact absurd ((show st.e.pen = s.pen from e).trans ew.symm) hp
      · show feedR s (outW s g (thenW w st)) = s.on st.e
        have eo : outW s g (thenW w st) = w.b ++ penL s.pen g.pen := by
          unfold outW
          rw [hk]
          show (w.b ++ st.b).take w.b.length ++ penL s.pen g.pen ++ (w.b ++ st.b).drop w.b.length = _
          rw [e1]; simp
        rw [eo, feed_app, hw.p1 ew]
        have e0 : feedR (s.on w.e) (penL (s.on w.e).pen g.pen) = { s.on w.e with pen := g.pen } := feed_pen (s := s.on w.e) h.B hg.pen
        have e3 : (s.on w.e).pen = s.pen := ew
        rw [e3] at e0
        rw [e0, e2]
        rfl
end
theorem pigeon : ∀ (N : Nat) (l : List Nat), l.Nodup → (∀ x ∈ l, x < N) → l.length ≤ N := by
  intro N
  induction N with
  | zero =>
    intro l _ h
    cases l with
    | nil => exact Nat.le_refl 0
    | cons a r => exact absurd (h a (List.mem_cons_self ..)) (by omega)
  | succ n ih =>
    intro l hd h
    by_cases hm : n ∈ l
    · have := ih (l.erase n) (hd.erase n) (fun x hx => by
        have h1 := (List.Nodup.mem_erase_iff hd).1 hx
        have := h x h1.2
        have := h1.1
        omega)
      rw [List.length_erase_of_mem hm] at this
      omega
    · have := ih l hd (fun x hx => by
        have := h x hx
        have : x ≠ n := fun e => hm (e ▸ hx)
        omega)
      omega
def idx (s : Rs) (g : Gl) (p : Sp) : Nat := ((p.y.toNat * s.W + p.x.toNat) * 2 + (if p.pend = true then 1 else 0)) * 2 + (if p.pen.eqB g.pen = true then 1 else 0)
section
variable {s : Rs} {g : Gl}
/-- A spot that may be on a way. -/
def OnWay (s : Rs) (g : Gl) (p : Sp) : Prop := p.In s ∧ (p.pen = s.pen ∨ p.pen = g.pen)
theorem idx_lt {p : Sp} (h : OnWay s g p) : idx s g p < 4 * (s.H * s.W) := by
  obtain ⟨⟨x0, x1, y0, y1, _⟩, _⟩ := h
  have := place_lt (W := s.W) (H := s.H) (x := p.x.toNat) (y := p.y.toNat) (by omega) (by omega)
  unfold idx
  split <;> split <;> omega
theorem idx_inj {p q : Sp} (hp : OnWay s g p) (hq : OnWay s g q) (e : idx s g p = idx s g q) : p = q := by
  obtain ⟨⟨x0, x1, y0, y1, _⟩, hpp⟩ := hp
  obtain ⟨⟨x0', x1', y0', y1', _⟩, hqp⟩ := hq
  unfold idx at e
  have e1 : p.y.toNat * s.W + p.x.toNat = q.y.toNat * s.W + q.x.toNat := by
    revert e
    generalize p.y.toNat * s.W + p.x.toNat = a
    generalize q.y.toNat * s.W + q.x.toNat = b
    intro e
    split at e <;> split at e <;> split at e <;> split at e <;> omega
  have e2 : (if p.pend = true then 1 else 0) = (if q.pend = true then 1 else 0) := by
    rw [e1] at e
    split at e <;> split at e <;> split at e <;> split at e <;> (first | rfl | (simp_all; done) | (exfalso; omega))
  have e3 : (if p.pen.eqB g.pen = true then 1 else 0) = (if q.pen.eqB g.pen = true then 1 else 0) := by
    rw [e1, e2] at e
    omega
  have e4 := place_inj (W := s.W) (x := p.x.toNat) (y := p.y.toNat) (x' := q.x.toNat) (y' := q.y.toNat) (by omega) (by omega) e1
  have pe : p.pend = q.pend := by
    cases hp : p.pend <;> cases hq : q.pend <;> simp [hp, hq] at e2 ⊢
  have ne : p.pen = q.pen := by
    by_cases c1 : p.pen.eqB g.pen = true <;> by_cases c2 : q.pen.eqB g.pen = true
    · rw [Pn.eqB_iff.1 c1, Pn.eqB_iff.1 c2]
    · rw [if_pos c1, if_neg c2] at e3; cases e3
    · rw [if_neg c1, if_pos c2] at e3; cases e3
    · rcases hpp with a | a
      · rcases hqp with b | b
        · rw [a, b]
        · exact absurd (Pn.eqB_iff.2 b) c2
      · exact absurd (Pn.eqB_iff.2 a) c1
  obtain ⟨x, y, pd, n⟩ := p
  obtain ⟨x', y', pd', n'⟩ := q
  simp only at *
  congr 1 <;> omega
theorem kn_len {kn : List Sp} (hd : kn.Nodup) (h : ∀ p ∈ kn, OnWay s g p) : kn.length ≤ 4 * (s.H * s.W) := by
  have := pigeon (4 * (s.H * s.W)) (kn.map (idx s g)) (by
    unfold List.Nodup
    rw [List.pairwise_map]
    exact hd.imp_of_mem (fun {a b} ha hb hne e => hne (idx_inj (h a ha) (h b hb) e))) (fun x hx => by
    obtain ⟨p, hp, rfl⟩ := List.mem_map.1 hx
    exact idx_lt (h p hp))
  simpa using this
structure RtInv (s : Rs) (g : Gl) (o : List Wy) (kn : List Sp) : Prop where
  all : ∀ w ∈ o, WyOk s g w
  st : straightW g ∈ o
  nd : kn.Nodup
  kn : ∀ p ∈ kn, OnWay s g p
/-- How many rounds there are at most. -/
def rounds (s : Rs) (o : List Wy) (kn : List Sp) : Nat := 8 * (4 * (s.H * s.W) - kn.length) + o.length
theorem RtInv.ne {o : List Wy} {kn : List Sp} (h : RtInv s g o kn) : o ≠ [] := fun e => by
  have := h.st; rw [e] at this; cases this
theorem RtInv.pop {o : List Wy} {kn : List Sp} (h : RtInv s g o kn) : WyOk s g (popW o) ∧ (∀ w ∈ popR o, WyOk s g w) ∧ (straightW g ∈ popR o ∨ popW o = straightW g) := by
  have hp := pop_perm h.ne
  refine ⟨h.all _ (hp.mem_iff.1 (by simp)), fun w hw => h.all _ (hp.mem_iff.1 (by simp [hw])), ?_⟩
  have := hp.mem_iff.2 h.st
  rcases List.mem_append.1 this with e | e
  · exact .inl e
  · exact .inr (List.mem_singleton.1 e).symm
theorem straight_at (g : Gl) : g.isAt (straightW g).e = true := by
  unfold Gl.isAt straightW
  simp [Sp.lx, Sp.ly, Pn.eqB_iff.2]
theorem pushAll_mem {n : Nat} {w : Wy} : ∀ (sts o : List Wy) (v : Wy), v ∈ pushAll n w sts o → v ∈ o ∨ ∃ st ∈ sts, v = thenW w st ∧ (thenW w st).b.length < n := by
  intro sts
  induction sts with
  | nil => intro o v h; exact .inl h
  | cons st r ih =>
    intro o v h
    have h' : v ∈ pushAll n w r (if (thenW w st).b.length < n then pushW o (thenW w st) else o) := h
    rcases ih _ v h' with a | ⟨u, hu, e⟩
    · split at a
      · rename_i hl
        have := (push_perm o (thenW w st)).mem_iff.1 a
        rcases List.mem_append.1 this with b | b
        · exact .inl b
        · exact .inr ⟨st, List.mem_cons_self .., List.mem_singleton.1 b, hl⟩
      · exact .inl a
    · exact .inr ⟨u, List.mem_cons_of_mem _ hu, e⟩
theorem pushAll_keep {n : Nat} {w : Wy} : ∀ (sts o : List Wy) (v : Wy), v ∈ o → v ∈ pushAll n w sts o := by
  intro sts
  induction sts with
  | nil => intro o v h; exact h
  | cons st r ih =>
    intro o v h
    refine ih _ v ?_
    show v ∈ (if (thenW w st).b.length < n then pushW o (thenW w st) else o)
    split
    · exact (push_perm o (thenW w st)).mem_iff.2 (List.mem_append_left _ h)
    · exact h
theorem pushAll_len {n : Nat} {w : Wy} : ∀ (sts o : List Wy), (pushAll n w sts o).length ≤ o.length + sts.length := by
  intro sts
  induction sts with
  | nil => intro o; exact Nat.le_refl _
  | cons st r ih =>
    intro o
    have := ih (if (thenW w st).b.length < n then pushW o (thenW w st) else o)
    have h1 : (if (thenW w st).b.length < n then pushW o (thenW w st) else o).length ≤ o.length + 1 := by
      split
      · rw [push_len]; omega
      · omega
    show (pushAll n w r _).length ≤ _
    simp only [List.length_cons]
    omega
theorem RtInv.known {o : List Wy} {kn : List Sp} (hi : RtInv s g o kn) (hat : g.isAt (popW o).e = false) : RtInv s g (popR o) kn ∧ rounds s (popR o) kn + 1 = rounds s o kn := by
  obtain ⟨_, h2, h3⟩ := hi.pop
  refine ⟨⟨h2, ?_, hi.nd, hi.kn⟩, ?_⟩
  · rcases h3 with e | e
    · exact e
    · rw [e, straight_at] at hat; cases hat
  · have := popR_len hi.ne
    unfold rounds
    omega
theorem RtInv.fresh (h : s.Fl) (hg : g.In s) {o : List Wy} {kn : List Sp} (hi : RtInv s g o kn) (hat : g.isAt (popW o).e = false) (hk : knownB kn (popW o).e = false) :
    RtInv s g (pushAll (placeL g.x g.y).length (popW o) (stepsW s (popW o).e g) (popR o)) (kn ++ [(popW o).e]) ∧ rounds s (pushAll (placeL g.x g.y).length (popW o) (stepsW s (popW o).e g) (popR o)) (kn ++ [(popW o).e]) < rounds s o kn := by
  obtain ⟨h1, h2, h3⟩ := hi.pop
  have hnk : (popW o).e ∉ kn := fun q => by rw [known_iff.2 q] at hk; cases hk
  have hnd : (kn ++ [(popW o).e]).Nodup := by
    rw [List.nodup_append]
    refine ⟨hi.nd, by simp, fun a ha b hb e => ?_⟩
    rw [List.mem_singleton.1 hb] at e
    exact hnk (e ▸ ha)
  have hkn : ∀ p ∈ kn ++ [(popW o).e], OnWay s g p := fun p hp => by
    rcases List.mem_append.1 hp with e | e
    · exact hi.kn p e
    · rw [List.mem_singleton.1 e]; exact ⟨h1.inn, h1.pen⟩
  refine ⟨⟨fun w hw => ?_, pushAll_keep _ _ _ ?_, hnd, hkn⟩, ?_⟩
  · rcases pushAll_mem _ _ _ hw with e | ⟨st, hst, rfl, hl⟩
    · exact h2 w e
    · exact then_ok h hg h1 (steps_ok h h1.inn (pen_ok h hg h1) hg.x0 hg.x1 hg.y0 hg.y1 st hst) hl
  · rcases h3 with e | e
    · exact e
    · rw [e, straight_at] at hat; cases hat
  · have a1 := popR_len hi.ne
    have a2 := pushAll_len (n := (placeL g.x g.y).length) (w := popW o) (stepsW s (popW o).e g) (popR o)
    have a3 := steps_len s (popW o).e g
    have a4 := kn_len hnd hkn
    simp only [List.length_append, List.length_cons, List.length_nil] at a4
    unfold rounds
    simp only [List.length_append, List.length_cons, List.length_nil]
    omega
theorem route_out (h : s.Fl) (hg : g.In s) : ∀ (m : Nat) (o : List Wy) (kn : List Sp), RtInv s g o kn → rounds s o kn ≤ m → ∃ w, WyOk s g w ∧ g.isAt w.e = true ∧ routeF s g m o kn = outW s g w := by
  intro m
  induction m with
  | zero =>
    intro o kn hi hm
    have : 0 < o.length := List.length_pos_iff.2 hi.ne
    unfold rounds at hm
    omega
  | succ m ih =>
    intro o kn hi hm
    unfold routeF
    cases hat : g.isAt (popW o).e with
    | true => rw [if_pos rfl]; exact ⟨_, hi.pop.1, hat, rfl⟩
    | false =>
      rw [if_neg (by decide)]
      cases hk : knownB kn (popW o).e with
      | true =>
        rw [if_pos rfl]
        obtain ⟨i1, i2⟩ := hi.known hat
        exact ih _ _ i1 (by omega)
      | false =>
        rw [if_neg (by decide)]
        obtain ⟨i1, i2⟩ := hi.fresh h hg hat hk
        exact ih _ _ i1 (by omega)
theorem start_inv (h : s.Fl) (hg : g.In s) : RtInv s g (startO s g) [] ∧ rounds s (startO s g) [] ≤ routeN s := by
  refine ⟨⟨fun w hw => ?_, ?_, List.nodup_nil, fun p hp => by cases hp⟩, ?_⟩
  · simp only [startO, List.mem_cons, List.not_mem_nil, or_false] at hw
    rcases hw with rfl | rfl
    · exact start_ok h
    · exact straight_ok h hg
  · simp [startO]
  · simp [rounds, startO, routeN]
/-- The way leads to the goal; it is not long. -/
theorem route_leads (h : s.Fl) (hg : g.In s) : ∃ p : Sp, feedR s (routeL s g) = s.on p ∧ p.In s ∧ g.isAt p = true ∧ (routeL s g).length ≤ 28 := by
  obtain ⟨i1, i2⟩ := start_inv h hg
  obtain ⟨w, hw, hat, e⟩ := route_out h hg _ _ _ i1 i2
  have hn : w.e.pen = g.pen := by
    unfold Gl.isAt at hat
    split at hat
    · cases hat
    · simp only [Bool.and_eq_true] at hat
      exact Pn.eqB_iff.1 hat.2
  unfold routeL
  rw [e]
  refine ⟨w.e, hw.p2 hn, hw.inn, hat, ?_⟩
  have a1 := penL_len s.pen hg.pen
  have a2 := hw.len
  have a3 : (placeL g.x g.y).length ≤ 8 := place_len (by have := hg.x1; have := h.ok.w2; omega) (by have := hg.y1; have := h.ok.h2; omega)
  have a4 := hw.k
  simp only [outW, List.length_append, List.length_take, List.length_drop]
  omega
end
end Go.Proofs.YtjlfibhbfdckpaaGreatDoor

/- Flush: what is mended, and how: plain. -/
namespace Go.Proofs.YtjlfibhbfdckpaaGreatDoor
open Wd (wd)
/-- How many of the next m hold from i on, without a gap. -/
def runN (p : Nat → Bool) : Nat → Nat → Nat
  | 0, _ => 0
  | m + 1, i => if p i = true then runN p m (i + 1) + 1 else 0
theorem run_le (p : Nat → Bool) : ∀ m i, runN p m i ≤ m := by
  intro m
  induction m with
  | zero => intro i; exact Nat.le_refl 0
  | succ m ih =>
    intro i
    unfold runN
    split
    · have := ih (i + 1); omega
    · omega
theorem run_all (p : Nat → Bool) : ∀ m i j, i ≤ j → j < i + runN p m i → p j = true := by
  intro m
  induction m with
  | zero => intro i j h1 h2; simp [runN] at h2; omega
  | succ m ih =>
    intro i j h1 h2
    unfold runN at h2
    split at h2
    · rename_i hp
      by_cases e : j = i
      · rw [e]; exact hp
      · exact ih (i + 1) j (by omega) (by omega)
    · omega
/-- How many cells of a line there are from x on that are like it. -/
def alikeN (P : Nat → Nat → Cel) (W x y : Nat) : Nat := runN (fun i => (P i y).eqB (P x y)) (W - x) x
/-- Have the lines from y on no other cell? -/
def isAllB (P : Nat → Nat → Cel) (W H y : Nat) (c : Cel) : Bool := (List.range (H - y)).all (fun i => (P 0 (y + i)).eqB c && decide (W ≤ alikeN P W 0 (y + i)))
def differsB (s : Rs) (P : Nat → Nat → Cel) (x y : Nat) : Bool := !(s.G x y).eqB (P x y)
/-- Up to the last of n cells from x, y on that differs. -/
def spanN (s : Rs) (P : Nat → Nat → Cel) (x y : Nat) : Nat → Nat
  | 0 => 0
  | 1 => 1
  | n + 2 => if differsB s P ((x + (n + 1)) % s.W) (y + (x + (n + 1)) / s.W) = true then n + 2 else spanN s P x y (n + 1)
def backC (c : Cel) : Cel := blk ⟨0, c.n.b, false, false, false⟩
/-- The sequence that erases from a place on, and how many cells it reaches. -/
def eraK (P : Nat → Nat → Cel) (W H x y : Nat) : List UInt8 × Nat :=
  if x + alikeN P W x y < W then (seqL 88 [cntT (alikeN P W x y)], alikeN P W x y)
  else if isAllB P W H (y + 1) (P x y) = true then (seqL 74 [], alikeN P W x y + W * (H - (y + 1))) else (seqL 75 [], alikeN P W x y)
def erasureL (s : Rs) (P : Nat → Nat → Cel) (x y : Nat) : List UInt8 :=
  if (P x y).eqB (backC (P x y)) = false then []
  else if (eraK P s.W s.H x y).1.length < spanN s P x y (eraK P s.W s.H x y).2 then (eraK P s.W s.H x y).1 else []
def eraserP (s : Rs) (b : Int) : Pn := { s.pen with b := b }
def mendL (s : Rs) (P : Nat → Nat → Cel) (x y : Nat) : List UInt8 :=
  if erasureL s P x y = [] then routeL s ⟨x, y, (P x y).n, true⟩ ++ encL (P x y).r
  else routeL s ⟨x, y, eraserP s (P x y).n.b, false⟩ ++ erasureL s P x y
/-- One cell of the picture. -/
def paintS (P : Nat → Nat → Cel) (st : Rs × List UInt8) (x y : Nat) : Rs × List UInt8 :=
  if differsB st.1 P x y = true then (feedR st.1 (mendL st.1 P x y), st.2 ++ mendL st.1 P x y) else st
/-- The first i cells, line behind line. -/
def paintN (P : Nat → Nat → Cel) (W : Nat) (st : Rs × List UInt8) : Nat → Rs × List UInt8
  | 0 => st
  | i + 1 => paintS P (paintN P W st i) (i % W) (i / W)
def scrollL (s : Rs) (n : Int) : List UInt8 := penL s.pen (eraserP s 0) ++ alongL n 83 84
def beginS (s : Rs) (n : Int) : Rs × List UInt8 := if n = 0 then (s, []) else (feedR s (scrollL s n), scrollL s n)
def repaintL (s : Rs) (P : Nat → Nat → Cel) (n : Int) : List UInt8 := (paintN P s.W (beginS s n) (s.H * s.W)).2
/-- A screen's cell, or a plain blank. -/
def cellR (s : Rs) (x : Nat) (y : Int) : Cel := if inG s.W s.H x y = true then s.G x y.toNat else blk Pn.plain
def cntB (p : Nat → Bool) : Nat → Nat
  | 0 => 0
  | i + 1 => cntB p i + (if p i = true then 1 else 0)
def othersN (s : Rs) (P : Nat → Nat → Cel) (n : Int) : Nat := cntB (fun i => !(cellR s (i % s.W) ((i / s.W : Nat) + n)).eqB (P (i % s.W) (i / s.W))) (s.H * s.W)
def nearS (s : Rs) (P : Nat → Nat → Cel) (st : Int × Nat) (n : Int) : Int × Nat := if othersN s P n < st.2 then (n, othersN s P n) else st
def nearN (s : Rs) (P : Nat → Nat → Cel) : Nat → Int × Nat
  | 0 => (0, othersN s P 0)
  | l + 1 => nearS s P (nearS s P (nearN s P l) ((l + 1 : Nat) : Int)) (-((l + 1 : Nat) : Int))
/-- What makes a screen show a picture. -/
def bytesL (s : Rs) (P : Nat → Nat → Cel) : List UInt8 :=
  if (nearN s P s.H).1 ≠ 0 ∧ (repaintL s P (nearN s P s.H).1).length < (repaintL s P 0).length then repaintL s P (nearN s P s.H).1 else repaintL s P 0
section
variable {s : Rs} {P : Nat → Nat → Cel}
theorem alike_le (W x y : Nat) : alikeN P W x y ≤ W - x := run_le _ _ _
theorem alike_eq {W x y j : Nat} (h1 : x ≤ j) (h2 : j < x + alikeN P W x y) : P j y = P x y := Cel.eqB_iff.1 (run_all _ _ _ _ h1 h2)
theorem alike_pos {W x y : Nat} (h : x < W) : 1 ≤ alikeN P W x y := by
  unfold alikeN
  obtain ⟨m, e⟩ : ∃ m, W - x = m + 1 := ⟨W - x - 1, by omega⟩
  rw [e]
  unfold runN
  rw [if_pos (Cel.eqB_iff.2 rfl)]
  omega
theorem isAll_eq {W H y : Nat} {c : Cel} (h : isAllB P W H y c = true) {a b : Nat} (h1 : y ≤ b) (h2 : b < H) (ha : a < W) : P a b = c := by
  simp only [isAllB, List.all_eq_true, List.mem_range, Bool.and_eq_true, decide_eq_true_eq] at h
  obtain ⟨e1, e2⟩ := h (b - y) (by omega)
  have eb : y + (b - y) = b := by omega
  rw [eb] at e1 e2
  rw [alike_eq (P := P) (W := W) (x := 0) (y := b) (j := a) (by omega) (by omega)]
  exact Cel.eqB_iff.1 e1
theorem cnt_le (p : Nat → Bool) (n : Nat) : cntB p n ≤ n := by
  induction n with
  | zero => exact Nat.le_refl 0
  | succ n ih => unfold cntB; split <;> omega
theorem near_is (l : Nat) : (nearN s P l).2 = othersN s P (nearN s P l).1 ∧ (-(l : Int) ≤ (nearN s P l).1 ∧ (nearN s P l).1 ≤ l) ∧ (∀ n : Int, -(l : Int) ≤ n → n ≤ l → (nearN s P l).2 ≤ othersN s P n) := by
  have hs : ∀ (st : Int × Nat) (n : Int), st.2 = othersN s P st.1 → (nearS s P st n).2 = othersN s P (nearS s P st n).1 ∧ ((nearS s P st n).1 = st.1 ∨ (nearS s P st n).1 = n) ∧ (nearS s P st n).2 ≤ st.2 ∧ (nearS s P st n).2 ≤ othersN s P n := by
    intro st n h
    unfold nearS
    split
    · exact ⟨rfl, .inr rfl, by simp only; omega, Nat.le_refl _⟩
    · exact ⟨h, .inl rfl, Nat.le_refl _, by omega⟩
  induction l with
  | zero =>
    refine ⟨rfl, ⟨by show -((0 : Nat) : Int) ≤ 0; omega, by show (0 : Int) ≤ ((0 : Nat) : Int); omega⟩, fun n h1 h2 => ?_⟩
    obtain rfl : n = 0 := by omega
    exact Nat.le_refl _
  | succ l ih =>
    obtain ⟨i1, ⟨i2, i3⟩, i4⟩ := ih
    obtain ⟨a1, a2, a3, a4⟩ := hs _ ((l + 1 : Nat) : Int) i1
    obtain ⟨b1, b2, b3, b4⟩ := hs _ (-((l + 1 : Nat) : Int)) a1
    show (nearS s P (nearS s P (nearN s P l) ((l + 1 : Nat) : Int)) (-((l + 1 : Nat) : Int))).2 = _ ∧ _
    refine ⟨b1, ?_, ?_⟩
    · show -((l + 1 : Nat) : Int) ≤ (nearS s P (nearS s P (nearN s P l) ((l + 1 : Nat) : Int)) (-((l + 1 : Nat) : Int))).1 ∧ (nearS s P (nearS s P (nearN s P l) ((l + 1 : Nat) : Int)) (-((l + 1 : Nat) : Int))).1 ≤ ((l + 1 : Nat) : Int)
      rcases b2 with e | e
      · rw [e]
        rcases a2 with e' | e'
        · rw [e']; omega
        · rw [e']; omega
      · rw [e]; omega
    · intro n h1 h2
      show (nearS s P (nearS s P (nearN s P l) ((l + 1 : Nat) : Int)) (-((l + 1 : Nat) : Int))).2 ≤ _
      by_cases e1 : n = ((l + 1 : Nat) : Int)
      · rw [e1]; omega
      · by_cases e2 : n = -((l + 1 : Nat) : Int)
        · rw [e2]; omega
        · have := i4 n (by omega) (by omega); omega
theorem near_zero (h : othersN s P 0 = 0) (l : Nat) : nearN s P l = (0, 0) := by
  induction l with
  | zero => unfold nearN; rw [h]
  | succ l ih =>
    unfold nearN
    rw [ih]
    have : ∀ n, nearS s P (0, 0) n = (0, 0) := fun n => by unfold nearS; rw [if_neg (by simp)]
    rw [this, this]
end
end Go.Proofs.YtjlfibhbfdckpaaGreatDoor
