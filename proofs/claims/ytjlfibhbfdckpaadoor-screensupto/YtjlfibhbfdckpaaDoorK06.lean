/- Texts of the proof, one behind the other: ScP7, ScP8, PsA, PsB, PsC. -/
import Derived.Test.YtjlfibhbfdckpaaDoorK05
import Derived.Deep.RegionWith
/- The document's screen: what holds stays so. -/
namespace Go.Proofs.YtjlfibhbfdckpaaDoor
open Wd (wd)
theorem Rs.Ok.cong {s t : Rs} (h : s.Ok) (hW : t.W = s.W) (hH : t.H = s.H) (hx : t.x = s.x) (hy : t.y = s.y) (hp : t.pend = s.pend) (ht : t.top = s.top) (hb : t.bot = s.bot) (hG : t.G = s.G) : t.Ok :=
  ⟨by rw [hW]; exact h.w1, by rw [hW]; exact h.w2, by rw [hH]; exact h.h1, by rw [hH]; exact h.h2, by rw [hx]; exact h.x0, by rw [hx, hW]; exact h.x1, by rw [hy]; exact h.y0, by rw [hy, hH]; exact h.y1, by rw [ht]; exact h.t0, by rw [ht, hb]; exact h.tb, by rw [hb, hH]; exact h.b1, by rw [hp, hx, hW]; exact h.pd, by rw [hW, hH, hG]; exact h.wf⟩
theorem Rs.Ok.odd {s : Rs} (h : s.Ok) : (oddR s).Ok := h.cong rfl rfl rfl rfl rfl rfl rfl rfl
theorem Rs.Ok.setB {s : Rs} (h : s.Ok) (b : ByteArray) : Rs.Ok { s with B := b } := h.cong rfl rfl rfl rfl rfl rfl rfl rfl
theorem Rs.Ok.cells {s : Rs} (h : s.Ok) {G : Nat → Nat → Cel} (hG : Wf s.W s.H G) : Rs.Ok { s with G := G } :=
  ⟨h.w1, h.w2, h.h1, h.h2, h.x0, h.x1, h.y0, h.y1, h.t0, h.tb, h.b1, h.pd, hG⟩
theorem lf_W (s : Rs) : (linefeedR s).W = s.W := by unfold linefeedR; split <;> rfl
theorem broken_W (s : Rs) (k : Int) : (brokenR s k).W = s.W := by
  unfold brokenR; split
  · exact lf_W _
  · rfl
theorem lf_pend (s : Rs) : (linefeedR s).pend = false := by unfold linefeedR; split <;> rfl
theorem lf_x (s : Rs) : (linefeedR s).x = s.x ∨ (linefeedR s).x = clampI s.x s.W := by
  unfold linefeedR; split
  · exact .inl rfl
  · exact .inr rfl
/-- Behind the wrap a letter fits, and nothing is pending. -/
theorem broken_fits {s : Rs} (h : s.Ok) (k : Int) (hk : k = 1 ∨ (k = 2 ∧ s.W ≠ 1)) : (brokenR s k).pend = false ∧ (brokenR s k).x + k ≤ s.W := by
  have w1 := h.w1
  unfold brokenR
  cases hw : wraps s k with
  | true =>
    rw [if_pos rfl]
    refine ⟨lf_pend _, ?_⟩
    have hx : (linefeedR { s with x := 0 }).x = 0 := by
      rcases lf_x { s with x := 0 } with e | e
      · exact e
      · rw [e]; show clampI 0 s.W = 0
        unfold clampI; rw [if_neg (by omega), if_neg (by omega)]
    rw [hx]
    omega
  | false =>
    rw [if_neg (by decide)]
    simp [wraps] at hw
    refine ⟨hw.1, ?_⟩
    have := h.x1
    rcases hk with rfl | ⟨rfl, _⟩
    · omega
    · have := hw.2 rfl; omega
theorem Rs.Ok.put {s : Rs} (h : s.Ok) (r : Int) : (putR s r).Ok := by
  unfold putR
  split
  · exact h.cong rfl rfl rfl rfl rfl rfl rfl rfl
  · rename_i hr
    have hkr : (effW s.W r = 1 ∧ wd (effR s.W r) = 1) ∨ (effW s.W r = 2 ∧ wd (effR s.W r) = 2 ∧ s.W ≠ 1) := by
      unfold effW effR
      by_cases c : wd r = 2 ∧ s.W = 1
      · rw [if_pos c, if_pos c]; exact .inl ⟨rfl, wd_32⟩
      · rw [if_neg c, if_neg c]
        rcases Wd.wd_cases r with q | q | q
        · exact absurd q hr
        · exact .inl ⟨q, q⟩
        · exact .inr ⟨q, q, fun e => c ⟨q, e⟩⟩
    generalize effW s.W r = k at *
    generalize effR s.W r = r' at *
    have hb := h.broken k
    have hf := broken_fits h k (by omega)
    have hW := broken_W s k
    generalize brokenR s k = t at *
    rw [← hW] at hf
    have x0 := hb.x0
    have x1 := hb.x1
    have y0 := hb.y0
    have y1 := hb.y1
    obtain ⟨x, hx⟩ := Int.eq_ofNat_of_zero_le x0
    obtain ⟨y, hy⟩ := Int.eq_ofNat_of_zero_le y0
    have hwf : Wf t.W t.H (writeG t.W t.H t.G t.x t.y r' t.pen) := by
      rw [hx, hy]
      rcases hkr with ⟨rfl, q⟩ | ⟨rfl, q, _⟩
      · exact (hb.wf.wrWhole (P := pt x y) (v := fun _ _ => ⟨r', 0, t.pen⟩) (fun _ _ _ _ _ => ⟨rfl, q⟩)).congr (writeG_one hb.wf (by omega) (by omega) r' t.pen q).symm
      · exact (hb.wf.wide (x := x) (y := y) (by omega) r' t.pen q).congr (writeG_two hb.wf (by omega) (by omega) r' t.pen q).symm
    have hw : (writeR t r').Ok := hb.cells hwf
    unfold stepR
    split
    · exact ⟨hw.w1, hw.w2, hw.h1, hw.h2, by have := hw.w1; show (0 : Int) ≤ (t.W : Int) - 1; have : 1 ≤ t.W := this; omega, by show (t.W : Int) - 1 < t.W; omega, hw.y0, hw.y1, hw.t0, hw.tb, hw.b1, fun _ => rfl, hw.wf⟩
    · rename_i hn
      have hn' : ¬ (t.W : Int) ≤ t.x + k := hn
      exact ⟨hw.w1, hw.w2, hw.h1, hw.h2, by show (0 : Int) ≤ t.x + k; omega, by show t.x + k < (t.W : Int); omega, hw.y0, hw.y1, hw.t0, hw.tb, hw.b1, (fun q => by
        have : t.pend = true := q
        rw [hf.1] at this; cases this), hw.wf⟩
theorem Rs.Ok.margins {s : Rs} (h : s.Ok) (n k : Int) (hn : 1 ≤ n) (hk : 0 ≤ k) : (marginsR s n k).Ok := by
  unfold marginsR
  split
  · rename_i hc
    have h1 := h.h1
    have a := clampI_in 0 s.W h.w1
    have b := clampI_in 0 s.H h.h1
    have hl : lowR2 s.H k ≤ s.H ∧ 1 ≤ lowR2 s.H k := by
      unfold lowR2
      split
      · omega
      · omega
    exact ⟨h.w1, h.w2, h.h1, h.h2, a.1, a.2, b.1, b.2, by show (0 : Int) ≤ n - 1; omega, by show n - 1 ≤ lowR2 s.H k - 1; omega, by show lowR2 s.H k - 1 < s.H; omega, (fun q => by cases q), h.wf⟩
  · exact h
theorem Rs.Ok.done {s : Rs} (h : s.Ok) (l : List Int) (hs : Small l) (last : Int) : (doneR s l last).Ok := by
  have n1 : 1 ≤ one1 (l.getD 0 0) := by
    have := (hs 0).1
    unfold one1; split <;> omega
  unfold doneR
  simp only
  by_cases c1 : last = 65
  · rw [if_pos c1]; exact h.goes _ _
  rw [if_neg c1]
  by_cases c2 : last = 66
  · rw [if_pos c2]; exact h.goes _ _
  rw [if_neg c2]
  by_cases c3 : last = 67
  · rw [if_pos c3]; exact h.goes _ _
  rw [if_neg c3]
  by_cases c4 : last = 68
  · rw [if_pos c4]; exact h.goes _ _
  rw [if_neg c4]
  by_cases c5 : last = 72
  · rw [if_pos c5]; exact h.goes _ _
  rw [if_neg c5]
  by_cases c6 : last = 75
  · rw [if_pos c6]; exact h.era _ _
  rw [if_neg c6]
  by_cases c7 : last = 74
  · rw [if_pos c7]; exact h.era _ _
  rw [if_neg c7]
  by_cases c8 : last = 88
  · rw [if_pos c8]; exact h.cells (h.wf.blk _ _)
  rw [if_neg c8]
  by_cases c9 : last = 83
  · rw [if_pos c9]; exact ok_scroll h _ _
  rw [if_neg c9]
  by_cases c10 : last = 84
  · rw [if_pos c10]; exact ok_scroll h _ _
  rw [if_neg c10]
  by_cases c11 : last = 114
  · rw [if_pos c11]; exact h.margins _ _ n1 (hs 1).1
  rw [if_neg c11]
  by_cases c12 : last = 109
  · rw [if_pos c12]; exact h.cong rfl rfl rfl rfl rfl rfl rfl rfl
  rw [if_neg c12]; exact h.odd
theorem numStep_small {l k : List Int} (h : Small l) (c : Int) (e : numStep l c = some k) : Small k := by
  unfold numStep at e
  split at e
  · cases e; exact small_snoc (small_begun h)
  · split at e
    · rename_i hc
      cases e
      have := (small_begun h) ((begunL l).length - 1)
      have h1 : 0 ≤ lastOf (begunL l) := this.1
      refine small_set (small_begun h) _ _ ?_ ?_
      · unfold capN; split <;> omega
      · unfold capN; split <;> omega
    · cases e
theorem numsTo_small (b : List UInt8) (l k : List Int) (h : Small l) (e : numsTo b l = some k) : Small k := by
  induction b generalizing l with
  | nil => cases e; exact h
  | cons c r ih =>
    simp only [numsTo] at e
    cases hs : numStep l c.toNat with
    | none => rw [hs] at e; cases e
    | some m => rw [hs] at e; exact ih m (numStep_small h _ hs) e
theorem Rs.Ok.seq {s : Rs} (h : s.Ok) (b : ByteArray) (last : Int) : (seqR s b last).Ok := by
  unfold seqR
  cases hn : nums b with
  | none => exact h.odd
  | some l =>
    simp only
    split
    · exact h.done l (numsTo_small _ _ _ small_nil hn) last
    · exact h.odd
theorem Rs.Ok.ground {s : Rs} (h : s.Ok) (c : UInt8) : (groundR s c).Ok := by
  unfold groundR
  split
  · exact h.goes _ _
  · split
    · exact h.lf
    · split
      · exact h.goes _ _
      · split
        · exact h.setB _
        · split
          · exact h.put _
          · split
            · exact h.setB _
            · exact h.odd
end Go.Proofs.YtjlfibhbfdckpaaDoor

/- The document's screen: a byte comes. -/
namespace Go.Proofs.YtjlfibhbfdckpaaDoor
/-- A letter goes on, or ends. -/
def letR (s : Rs) (a : UInt8) (l : List UInt8) (c : UInt8) : Rs :=
  if goesOnB (a :: l) c.toNat = false then groundR (oddR { s with B := ⟨#[]⟩ }) c
  else if longR a.toNat = ((l.length + 2 : Nat) : Int) then putR { s with B := ⟨#[]⟩ } (letterR (a :: l ++ [c])) else { s with B := ⟨(a :: l ++ [c]).toArray⟩ }
def escR (s : Rs) (c : UInt8) : Rs :=
  if (c.toNat : Int) = 91 then { s with B := ⟨#[27, 91]⟩ } else if (c.toNat : Int) = 27 then oddR s else oddR { s with B := ⟨#[]⟩ }
/-- In a sequence of which l has come. -/
def inSeqR (s : Rs) (l : List UInt8) (c : UInt8) : Rs :=
  if (c.toNat : Int) = 27 then oddR { s with B := ⟨#[27]⟩ } else if 64 ≤ (c.toNat : Int) ∧ (c.toNat : Int) ≤ 126 then seqR { s with B := ⟨#[]⟩ } ⟨l.toArray⟩ c.toNat
  else { s with B := ⟨(27 :: 91 :: l ++ [c]).toArray⟩ }
def oneR (s : Rs) (c : UInt8) : Rs := match s.B.data.toList with
  | [] => groundR s c
  | a :: l => if a = 27 then (match l with
    | [] => escR s c
    | _ :: r => inSeqR s r c) else letR s a l c
/-- What has come so far. -/
def BOk (b : ByteArray) : Prop := b = ⟨#[]⟩ ∨ b = ⟨#[27]⟩ ∨ (∃ l : List UInt8, b = ⟨(27 :: 91 :: l).toArray⟩)
  ∨ (∃ a : UInt8, b = ⟨#[a]⟩ ∧ 194 ≤ a.toNat ∧ a.toNat ≤ 244) ∨ (∃ a b' : UInt8, b = ⟨#[a, b']⟩ ∧ 224 ≤ a.toNat ∧ a.toNat ≤ 244 ∧ 128 ≤ b'.toNat ∧ b'.toNat ≤ 191)
  ∨ (∃ a b' d : UInt8, b = ⟨#[a, b', d]⟩ ∧ 240 ≤ a.toNat ∧ a.toNat ≤ 244 ∧ 128 ≤ b'.toNat ∧ b'.toNat ≤ 191 ∧ 128 ≤ d.toNat ∧ d.toNat ≤ 191)
theorem bok_nil : BOk ⟨#[]⟩ := .inl rfl
theorem goesR_B (s : Rs) (x y : Int) : (goesR s x y).B = s.B := rfl
theorem lf_B (s : Rs) : (linefeedR s).B = s.B := by unfold linefeedR; split <;> rfl
theorem put_B (s : Rs) (r : Int) : (putR s r).B = s.B := by
  unfold putR
  split
  · rfl
  · have hb : ∀ k, (brokenR s k).B = s.B := fun k => by
      unfold brokenR; split
      · rw [lf_B]
      · rfl
    have hst : ∀ (t : Rs) k, (stepR t k).B = t.B := fun t k => by unfold stepR; split <;> rfl
    rw [hst]
    exact hb _
theorem done_B (s : Rs) (l : List Int) (last : Int) : (doneR s l last).B = s.B := by
  unfold doneR
  simp only
  by_cases c0 : last = 65
  · rw [if_pos c0]; rfl
  rw [if_neg c0]
  by_cases c1 : last = 66
  · rw [if_pos c1]; rfl
  rw [if_neg c1]
  by_cases c2 : last = 67
  · rw [if_pos c2]; rfl
  rw [if_neg c2]
  by_cases c3 : last = 68
  · rw [if_pos c3]; rfl
  rw [if_neg c3]
  by_cases c4 : last = 72
  · rw [if_pos c4]; rfl
  rw [if_neg c4]
  by_cases c5 : last = 75
  · rw [if_pos c5]; rfl
  rw [if_neg c5]
  by_cases c6 : last = 74
  · rw [if_pos c6]; rfl
  rw [if_neg c6]
  by_cases c7 : last = 88
  · rw [if_pos c7]
  rw [if_neg c7]
  by_cases c8 : last = 83
  · rw [if_pos c8]
  rw [if_neg c8]
  by_cases c9 : last = 84
  · rw [if_pos c9]
  rw [if_neg c9]
  by_cases c10 : last = 114
  · rw [if_pos c10]; unfold marginsR; split <;> rfl
  rw [if_neg c10]
  by_cases c11 : last = 109
  · rw [if_pos c11]; rfl
  rw [if_neg c11]; rfl
theorem seq_B (s : Rs) (b : ByteArray) (last : Int) : (seqR s b last).B = s.B := by
  unfold seqR
  split
  · rfl
  · split
    · exact done_B _ _ _
    · rfl
theorem ground_B {s : Rs} (hB : s.B = ⟨#[]⟩) (c : UInt8) : BOk (groundR s c).B := by
  unfold groundR
  split
  · rw [goesR_B, hB]; exact bok_nil
  · split
    · rw [lf_B, hB]; exact bok_nil
    · split
      · rw [goesR_B, hB]; exact bok_nil
      · split
        · exact .inr (.inl rfl)
        · split
          · rw [put_B, hB]; exact bok_nil
          · split
            · rename_i hl
              refine .inr (.inr (.inr (.inl ⟨c, rfl, ?_⟩)))
              unfold longR at hl
              split at hl
              · omega
              · split at hl
                · omega
                · split at hl
                  · omega
                  · omega
            · show BOk s.B
              rw [hB]; exact bok_nil
theorem lowR_ge (a : Int) : 128 ≤ lowR a := by
  unfold lowR
  split
  · omega
  · split <;> omega
theorem highR_le (a : Int) : highR a ≤ 191 := by
  unfold highR
  split
  · omega
  · split <;> omega
theorem goesOn_lo {l : List UInt8} {c : UInt8} (h : goesOnB l c.toNat = true) : 128 ≤ c.toNat ∧ c.toNat ≤ 191 := by
  unfold goesOnB at h
  split at h
  · rename_i a
    have h1 := lowR_ge a.toNat
    have h2 := highR_le a.toNat
    simp at h
    omega
  · simp at h
    omega
theorem longR_val (a : Int) : (longR a = 2 ∧ 194 ≤ a ∧ a ≤ 223) ∨ (longR a = 3 ∧ 224 ≤ a ∧ a ≤ 239) ∨ (longR a = 4 ∧ 240 ≤ a ∧ a ≤ 244) ∨ (longR a = 0 ∧ (a < 194 ∨ 244 < a)) := by
  unfold longR
  by_cases h1 : 194 ≤ a ∧ a ≤ 223
  · rw [if_pos h1]; exact .inl ⟨rfl, h1⟩
  · rw [if_neg h1]
    by_cases h2 : 224 ≤ a ∧ a ≤ 239
    · rw [if_pos h2]; exact .inr (.inl ⟨rfl, h2⟩)
    · rw [if_neg h2]
      by_cases h3 : 240 ≤ a ∧ a ≤ 244
      · rw [if_pos h3]; exact .inr (.inr (.inl ⟨rfl, h3⟩))
      · rw [if_neg h3]; exact .inr (.inr (.inr ⟨rfl, by omega⟩))
theorem let_B {s : Rs} (a : UInt8) (l : List UInt8) (c : UInt8) (hmore : goesOnB (a :: l) c.toNat = true → longR a.toNat ≠ ((l.length + 2 : Nat) : Int) → BOk ⟨(a :: l ++ [c]).toArray⟩) : BOk (letR s a l c).B := by
  unfold letR
  split
  · exact ground_B rfl c
  · rename_i hg
    split
    · rw [put_B]; exact bok_nil
    · exact hmore (by simpa using hg) (by assumption)
theorem one_B {s : Rs} (h : BOk s.B) (c : UInt8) : BOk (oneR s c).B := by
  unfold oneR
  rcases h with e | e | ⟨l, e⟩ | ⟨a, e, a1, a2⟩ | ⟨a, b, e, a1, a2, b1, b2⟩ | ⟨a, b, d, e, a1, a2, b1, b2, d1, d2⟩
  · rw [e]; exact ground_B e c
  · rw [e]
    show BOk (escR s c).B
    unfold escR
    split
    · exact .inr (.inr (.inl ⟨[], rfl⟩))
    · split
      · show BOk s.B
        rw [e]; exact .inr (.inl rfl)
      · exact bok_nil
  · rw [e]
    show BOk (inSeqR s l c).B
    unfold inSeqR
    split
    · exact .inr (.inl rfl)
    · split
      · rw [seq_B]; exact bok_nil
      · exact .inr (.inr (.inl ⟨l ++ [c], rfl⟩))
  · rw [e]
    have hne : a ≠ 27 := fun q => by rw [q] at a1; exact absurd a1 (by decide)
    show BOk (if a = 27 then _ else letR s a [] c).B
    rw [if_neg hne]
    refine let_B a [] c (fun hg hl => ?_)
    have := goesOn_lo hg
    refine .inr (.inr (.inr (.inr (.inl ⟨a, c, rfl, ?_⟩))))
    rcases longR_val a.toNat with q | q | q | q
    · exact absurd q.1 hl
    all_goals omega
  · rw [e]
    have hne : a ≠ 27 := fun q => by rw [q] at a1; exact absurd a1 (by decide)
    show BOk (if a = 27 then _ else letR s a [b] c).B
    rw [if_neg hne]
    refine let_B a [b] c (fun hg hl => ?_)
    have := goesOn_lo hg
    refine .inr (.inr (.inr (.inr (.inr ⟨a, b, c, rfl, ?_⟩))))
    rcases longR_val a.toNat with q | q | q | q
    · omega
    · exact absurd q.1 hl
    all_goals omega
  · rw [e]
    have hne : a ≠ 27 := fun q => by rw [q] at a1; exact absurd a1 (by decide)
    show BOk (if a = 27 then _ else letR s a [b, d] c).B
    rw [if_neg hne]
    refine let_B a [b, d] c (fun hg hl => ?_)
    rcases longR_val a.toNat with q | q | q | q
    · omega
    · omega
    · exact absurd q.1 hl
    · omega
theorem Rs.Ok.one {s : Rs} (h : s.Ok) (c : UInt8) : (oneR s c).Ok := by
  unfold oneR
  split
  · exact h.ground c
  · split
    · split
      · unfold escR
        split
        · exact h.setB _
        · split
          · exact h.odd
          · exact (h.setB _).odd
      · unfold inSeqR
        split
        · exact (h.setB _).odd
        · split
          · exact (h.setB _).seq _ _
          · exact h.setB _
    · unfold letR
      split
      · exact ((h.setB _).odd).ground c
      · split
        · exact (h.setB _).put _
        · exact h.setB _
def feedR (s : Rs) (l : List UInt8) : Rs := l.foldl oneR s
theorem ground_size (s : Rs) (c : UInt8) : (groundR s c).B.size ≤ s.B.size + 1 := by
  unfold groundR
  split
  · rw [goesR_B]; omega
  · split
    · rw [lf_B]; omega
    · split
      · rw [goesR_B]; omega
      · split
        · show 1 ≤ _; omega
        · split
          · rw [put_B]; omega
          · split
            · show 1 ≤ _; omega
            · show s.B.size ≤ _; omega
theorem bsize (l : List UInt8) : (⟨l.toArray⟩ : ByteArray).size = l.length := rfl
/-- What has come grows by one byte at most. -/
theorem one_size {s : Rs} (h : BOk s.B) (c : UInt8) : (oneR s c).B.size ≤ s.B.size + 1 := by
  unfold oneR
  have hlet : ∀ (a : UInt8) (l : List UInt8), s.B = ⟨(a :: l).toArray⟩ → (letR s a l c).B.size ≤ s.B.size + 1 := by
    intro a l e
    have hs : s.B.size = l.length + 1 := by rw [e, bsize]; rfl
    unfold letR
    split
    · have := ground_size (oddR { s with B := ⟨#[]⟩ }) c
      have h0 : (oddR { s with B := ⟨#[]⟩ }).B.size = 0 := rfl
      omega
    · split
      · rw [put_B]; show 0 ≤ _; omega
      · show (⟨(a :: l ++ [c]).toArray⟩ : ByteArray).size ≤ _
        rw [bsize, hs]; simp
  rcases h with e | e | ⟨l, e⟩ | ⟨a, e, a1, a2⟩ | ⟨a, b, e, a1, a2, b1, b2⟩ | ⟨a, b, d, e, a1, a2, b1, b2, d1, d2⟩
  · have := ground_size s c
    rw [e] at this ⊢
    exact this
  · have hs : s.B.size = 1 := by rw [e]; rfl
    rw [hs]
    rw [e]
    show (escR s c).B.size ≤ 2
    unfold escR
    split
    · exact Nat.le_refl 2
    · split
      · show s.B.size ≤ 2; omega
      · show 0 ≤ 2; omega
  · have hs : s.B.size = l.length + 2 := by rw [e, bsize]; rfl
    rw [hs]
    rw [e]
    show (inSeqR s l c).B.size ≤ _
    unfold inSeqR
    split
    · show 1 ≤ _; omega
    · split
      · rw [seq_B]; show 0 ≤ _; omega
      · show (⟨(27 :: 91 :: l ++ [c]).toArray⟩ : ByteArray).size ≤ _
        rw [bsize]; simp
  · have hne : a ≠ 27 := fun q => by rw [q] at a1; exact absurd a1 (by decide)
    have := hlet a [] e
    rw [e] at this ⊢
    show (if a = 27 then _ else letR s a [] c).B.size ≤ _
    rw [if_neg hne]; exact this
  · have hne : a ≠ 27 := fun q => by rw [q] at a1; exact absurd a1 (by decide)
    have := hlet a [b] e
    rw [e] at this ⊢
    show (if a = 27 then _ else letR s a [b] c).B.size ≤ _
    rw [if_neg hne]; exact this
  · have hne : a ≠ 27 := fun q => by rw [q] at a1; exact absurd a1 (by decide)
    have := hlet a [b, d] e
    rw [e] at this ⊢
    show (if a = 27 then _ else letR s a [b, d] c).B.size ≤ _
    rw [if_neg hne]; exact this
end Go.Proofs.YtjlfibhbfdckpaaDoor

/- The program's screen: what it is in memory. -/
namespace Go.Proofs.YtjlfibhbfdckpaaDoor
open Go.RowKit
/-- What the program knows of a letter or a sequence that is begun: the mode, the bytes and their count, the numbers and their count, bad. -/
structure Pt where
  mode : Int
  by4 : Nat → Int
  bn : Int
  nm : Nat → Int
  cn : Int
  bad : Bool
abbrev prArr (bg : Nat) (s : Rs) (t : Pt) : Array Value := #[.pointer (some ⟨bg, 0, none⟩), .int .i64 s.x, .int .i64 s.y, .bool s.pend, .int .i64 s.pen.f, .int .i64 s.pen.b, .bool s.pen.bo, .bool s.pen.un, .bool s.pen.re, .int .i64 s.top, .int .i64 s.bot, .int .i64 t.mode, .int .u8 (t.by4 0), .int .u8 (t.by4 1), .int .u8 (t.by4 2), .int .u8 (t.by4 3), .int .i64 t.bn, .int .i64 (t.nm 0), .int .i64 (t.nm 1), .int .i64 (t.nm 2), .int .i64 (t.nm 3), .int .i64 (t.nm 4), .int .i64 (t.nm 5), .int .i64 (t.nm 6), .int .i64 (t.nm 7), .int .i64 t.cn, .bool t.bad]
/-- The program's screen lies in blocks bs, bg, g. -/
structure PrAt (w : World) (bs bg g N : Nat) (s : Rs) (t : Pt) : Prop where
  blk : w.heap[bs]? = some (.cells (prArr bg s t) 82)
  gr : GrAt w bg g s.W s.H N s.G
  ne1 : bs ≠ bg
  ne2 : bs ≠ g
section
variable {w w' : World} {bs bg g N : Nat} {s : Rs} {t : Pt}
theorem PrAt.lt (h : PrAt w bs bg g N s t) : bs < w.heap.size := (Array.getElem?_eq_some_iff.1 h.blk).1
theorem PrAt.same (h : PrAt w bs bg g N s t) (h1 : w'.heap[bs]? = w.heap[bs]?) (h2 : w'.heap[bg]? = w.heap[bg]?) (h3 : w'.heap[g]? = w.heap[g]?) : PrAt w' bs bg g N s t :=
  ⟨by rw [h1]; exact h.blk, h.gr.same h2 h3, h.ne1, h.ne2⟩
theorem PrAt.below (h : PrAt w bs bg g N s t) (hb : Below w.heap.size w w') : PrAt w' bs bg g N s t :=
  h.same (hb.block _ h.lt) (hb.block _ h.gr.lt) (hb.block _ h.gr.glt)
theorem PrAt.free (h : PrAt w bs bg g N s t) : ∀ o, w.frozen? ⟨bs, o, none⟩ = false := frozen_of_block h.blk
theorem PrAt.drew (h : PrAt w bs bg g N s t) : PrAt w.drew bs bg g N s t := h.same rfl rfl rfl
theorem PrAt.drewN (h : PrAt w bs bg g N s t) (n : Nat) : PrAt (w.drewN n) bs bg g N s t := h.same rfl rfl rfl
theorem PrAt.store (h : PrAt w bs bg g N s t) (o : Nat) (v : Value) (s' : Rs) (t' : Pt) (hs : (prArr bg s t).setIfInBounds o v = prArr bg s' t') (hW : s'.W = s.W) (hH : s'.H = s.H) (hG : s'.G = s.G) : PrAt (w.setCell ⟨bs, o, none⟩ v) bs bg g N s' t' := by
  refine ⟨?_, ?_, h.ne1, h.ne2⟩
  · rw [heap_set_same h.blk, hs]
  · rw [hW, hH, hG]
    exact h.gr.same (Below.heap_setCell _ _ _ _ (fun e => h.ne1 e.symm)) (Below.heap_setCell _ _ _ _ (fun e => h.ne2 e.symm))
/-- The cells change, and nothing else. -/
theorem PrAt.cells {g' N' : Nat} (h : PrAt w bs bg g N s t) (s' : Rs) (hb : w'.heap[bs]? = w.heap[bs]?) (hc : GrAt w' bg g' s'.W s'.H N' s'.G) (hs : prArr bg s' t = prArr bg s t) (hg : bs ≠ g') : PrAt w' bs bg g' N' s' t :=
  ⟨by rw [hb, hs]; exact h.blk, hc, h.ne1, hg⟩
theorem PrAt.congr (h : PrAt w bs bg g N s t) (s' : Rs) (hs : prArr bg s' t = prArr bg s t) (hW : s'.W = s.W) (hH : s'.H = s.H) (hG : EqOn s.W s.H s.G s'.G) : PrAt w bs bg g N s' t :=
  ⟨by rw [hs]; exact h.blk, by rw [hW, hH]; exact h.gr.congr hG, h.ne1, h.ne2⟩
theorem PrAt.f0 (h : PrAt w bs bg g N s t) : w.cell? ⟨bs, 0, none⟩ = some (.pointer (some ⟨bg, 0, none⟩)) := cell_of_block h.blk 0
theorem PrAt.f1 (h : PrAt w bs bg g N s t) : w.cell? ⟨bs, 1, none⟩ = some (.int .i64 s.x) := cell_of_block h.blk 1
theorem PrAt.f2 (h : PrAt w bs bg g N s t) : w.cell? ⟨bs, 2, none⟩ = some (.int .i64 s.y) := cell_of_block h.blk 2
theorem PrAt.f3 (h : PrAt w bs bg g N s t) : w.cell? ⟨bs, 3, none⟩ = some (.bool s.pend) := cell_of_block h.blk 3
theorem PrAt.f4 (h : PrAt w bs bg g N s t) : w.cell? ⟨bs, 4, none⟩ = some (.int .i64 s.pen.f) := cell_of_block h.blk 4
theorem PrAt.f5 (h : PrAt w bs bg g N s t) : w.cell? ⟨bs, 5, none⟩ = some (.int .i64 s.pen.b) := cell_of_block h.blk 5
theorem PrAt.f6 (h : PrAt w bs bg g N s t) : w.cell? ⟨bs, 6, none⟩ = some (.bool s.pen.bo) := cell_of_block h.blk 6
theorem PrAt.f7 (h : PrAt w bs bg g N s t) : w.cell? ⟨bs, 7, none⟩ = some (.bool s.pen.un) := cell_of_block h.blk 7
theorem PrAt.f8 (h : PrAt w bs bg g N s t) : w.cell? ⟨bs, 8, none⟩ = some (.bool s.pen.re) := cell_of_block h.blk 8
theorem PrAt.f9 (h : PrAt w bs bg g N s t) : w.cell? ⟨bs, 9, none⟩ = some (.int .i64 s.top) := cell_of_block h.blk 9
theorem PrAt.f10 (h : PrAt w bs bg g N s t) : w.cell? ⟨bs, 10, none⟩ = some (.int .i64 s.bot) := cell_of_block h.blk 10
theorem PrAt.f11 (h : PrAt w bs bg g N s t) : w.cell? ⟨bs, 11, none⟩ = some (.int .i64 t.mode) := cell_of_block h.blk 11
theorem PrAt.f12 (h : PrAt w bs bg g N s t) : w.cell? ⟨bs, 12, none⟩ = some (.int .u8 (t.by4 0)) := cell_of_block h.blk 12
theorem PrAt.f13 (h : PrAt w bs bg g N s t) : w.cell? ⟨bs, 13, none⟩ = some (.int .u8 (t.by4 1)) := cell_of_block h.blk 13
theorem PrAt.f14 (h : PrAt w bs bg g N s t) : w.cell? ⟨bs, 14, none⟩ = some (.int .u8 (t.by4 2)) := cell_of_block h.blk 14
theorem PrAt.f15 (h : PrAt w bs bg g N s t) : w.cell? ⟨bs, 15, none⟩ = some (.int .u8 (t.by4 3)) := cell_of_block h.blk 15
theorem PrAt.f16 (h : PrAt w bs bg g N s t) : w.cell? ⟨bs, 16, none⟩ = some (.int .i64 t.bn) := cell_of_block h.blk 16
theorem PrAt.f17 (h : PrAt w bs bg g N s t) : w.cell? ⟨bs, 17, none⟩ = some (.int .i64 (t.nm 0)) := cell_of_block h.blk 17
theorem PrAt.f18 (h : PrAt w bs bg g N s t) : w.cell? ⟨bs, 18, none⟩ = some (.int .i64 (t.nm 1)) := cell_of_block h.blk 18
theorem PrAt.f19 (h : PrAt w bs bg g N s t) : w.cell? ⟨bs, 19, none⟩ = some (.int .i64 (t.nm 2)) := cell_of_block h.blk 19
theorem PrAt.f20 (h : PrAt w bs bg g N s t) : w.cell? ⟨bs, 20, none⟩ = some (.int .i64 (t.nm 3)) := cell_of_block h.blk 20
theorem PrAt.f21 (h : PrAt w bs bg g N s t) : w.cell? ⟨bs, 21, none⟩ = some (.int .i64 (t.nm 4)) := cell_of_block h.blk 21
theorem PrAt.f22 (h : PrAt w bs bg g N s t) : w.cell? ⟨bs, 22, none⟩ = some (.int .i64 (t.nm 5)) := cell_of_block h.blk 22
theorem PrAt.f23 (h : PrAt w bs bg g N s t) : w.cell? ⟨bs, 23, none⟩ = some (.int .i64 (t.nm 6)) := cell_of_block h.blk 23
theorem PrAt.f24 (h : PrAt w bs bg g N s t) : w.cell? ⟨bs, 24, none⟩ = some (.int .i64 (t.nm 7)) := cell_of_block h.blk 24
theorem PrAt.f25 (h : PrAt w bs bg g N s t) : w.cell? ⟨bs, 25, none⟩ = some (.int .i64 t.cn) := cell_of_block h.blk 25
theorem PrAt.f26 (h : PrAt w bs bg g N s t) : w.cell? ⟨bs, 26, none⟩ = some (.bool t.bad) := cell_of_block h.blk 26
theorem PrAt.setX (h : PrAt w bs bg g N s t) (v : Int) : PrAt (w.setCell ⟨bs, 1, none⟩ (.int .i64 v)) bs bg g N { s with x := v } t := h.store 1 _ _ _ rfl rfl rfl rfl
theorem PrAt.setY (h : PrAt w bs bg g N s t) (v : Int) : PrAt (w.setCell ⟨bs, 2, none⟩ (.int .i64 v)) bs bg g N { s with y := v } t := h.store 2 _ _ _ rfl rfl rfl rfl
theorem PrAt.setPend (h : PrAt w bs bg g N s t) (v : Bool) : PrAt (w.setCell ⟨bs, 3, none⟩ (.bool v)) bs bg g N { s with pend := v } t := h.store 3 _ _ _ rfl rfl rfl rfl
theorem PrAt.setTop (h : PrAt w bs bg g N s t) (v : Int) : PrAt (w.setCell ⟨bs, 9, none⟩ (.int .i64 v)) bs bg g N { s with top := v } t := h.store 9 _ _ _ rfl rfl rfl rfl
theorem PrAt.setBot (h : PrAt w bs bg g N s t) (v : Int) : PrAt (w.setCell ⟨bs, 10, none⟩ (.int .i64 v)) bs bg g N { s with bot := v } t := h.store 10 _ _ _ rfl rfl rfl rfl
theorem PrAt.setMode (h : PrAt w bs bg g N s t) (v : Int) : PrAt (w.setCell ⟨bs, 11, none⟩ (.int .i64 v)) bs bg g N s { t with mode := v } := h.store 11 _ _ _ rfl rfl rfl rfl
theorem PrAt.setBn (h : PrAt w bs bg g N s t) (v : Int) : PrAt (w.setCell ⟨bs, 16, none⟩ (.int .i64 v)) bs bg g N s { t with bn := v } := h.store 16 _ _ _ rfl rfl rfl rfl
theorem PrAt.setCn (h : PrAt w bs bg g N s t) (v : Int) : PrAt (w.setCell ⟨bs, 25, none⟩ (.int .i64 v)) bs bg g N s { t with cn := v } := h.store 25 _ _ _ rfl rfl rfl rfl
theorem PrAt.setBad (h : PrAt w bs bg g N s t) (v : Bool) : PrAt (w.setCell ⟨bs, 26, none⟩ (.bool v)) bs bg g N s { t with bad := v } := h.store 26 _ _ _ rfl rfl rfl rfl
theorem PrAt.byte (h : PrAt w bs bg g N s t) (i : Nat) (hi : i < 4) : w.cell? ⟨bs, 12 + i, none⟩ = some (.int .u8 (t.by4 i)) := by
  match i, hi with
  | 0, _ => exact h.f12
  | 1, _ => exact h.f13
  | 2, _ => exact h.f14
  | 3, _ => exact h.f15
def updI (f : Nat → Int) (i : Nat) (v : Int) : Nat → Int := fun j => if j = i then v else f j
theorem PrAt.setByte (h : PrAt w bs bg g N s t) (i : Nat) (hi : i < 4) (v : Int) : PrAt (w.setCell ⟨bs, 12 + i, none⟩ (.int .u8 v)) bs bg g N s { t with by4 := updI t.by4 i v } := by
  match i, hi with
  | 0, _ => exact h.store 12 _ _ _ rfl rfl rfl rfl
  | 1, _ => exact h.store 13 _ _ _ rfl rfl rfl rfl
  | 2, _ => exact h.store 14 _ _ _ rfl rfl rfl rfl
  | 3, _ => exact h.store 15 _ _ _ rfl rfl rfl rfl
theorem PrAt.num (h : PrAt w bs bg g N s t) (i : Nat) (hi : i < 8) : w.cell? ⟨bs, 17 + i, none⟩ = some (.int .i64 (t.nm i)) := by
  match i, hi with
  | 0, _ => exact h.f17
  | 1, _ => exact h.f18
  | 2, _ => exact h.f19
  | 3, _ => exact h.f20
  | 4, _ => exact h.f21
  | 5, _ => exact h.f22
  | 6, _ => exact h.f23
  | 7, _ => exact h.f24
theorem PrAt.setNum (h : PrAt w bs bg g N s t) (i : Nat) (hi : i < 8) (v : Int) : PrAt (w.setCell ⟨bs, 17 + i, none⟩ (.int .i64 v)) bs bg g N s { t with nm := updI t.nm i v } := by
  match i, hi with
  | 0, _ => exact h.store 17 _ _ _ rfl rfl rfl rfl
  | 1, _ => exact h.store 18 _ _ _ rfl rfl rfl rfl
  | 2, _ => exact h.store 19 _ _ _ rfl rfl rfl rfl
  | 3, _ => exact h.store 20 _ _ _ rfl rfl rfl rfl
  | 4, _ => exact h.store 21 _ _ _ rfl rfl rfl rfl
  | 5, _ => exact h.store 22 _ _ _ rfl rfl rfl rfl
  | 6, _ => exact h.store 23 _ _ _ rfl rfl rfl rfl
  | 7, _ => exact h.store 24 _ _ _ rfl rfl rfl rfl
end
/-- What a call leaves: a result, and the screen. -/
def PPost (bs bg g : Nat) (w : World) (s : Rs) (t : Pt) (r : Value) (e : Ending) (w' : World) : Prop :=
  ∃ g' N', e = .returned r ∧ PrAt w' bs bg g' N' s t ∧ Keep (fun i => i = bs ∨ i = bg ∨ i = g) w w' ∧ (g' = g ∨ w.heap.size ≤ g')
theorem clamp_between (v : Int) {m : Nat} (h : 1 ≤ m) : betweenI v 0 ((m : Int) - 1) = clampI v m := by
  unfold betweenI greatestI leastI clampI
  split <;> split <;> split <;> omega
/-- The cells' block stays where it is in every call but Resize. -/
def SPost (bs bg g N : Nat) (w : World) (s : Rs) (t : Pt) (r : Value) (e : Ending) (w' : World) : Prop :=
  e = .returned r ∧ PrAt w' bs bg g N s t ∧ Keep (fun i => i = bs ∨ i = bg ∨ i = g) w w'
end Go.Proofs.YtjlfibhbfdckpaaDoor

/- The program's screen: eraser, goTo, scroll, erase, lineFeed. -/
namespace Go.Proofs.YtjlfibhbfdckpaaDoor
open Go.RowKit
attribute [local go_sem ↓] Go.wp_at_zero Go.wp_at_succ
theorem sEraser (bs bg g N : Nat) (s : Rs) (t : Pt) (w : World) (h : PrAt w bs bg g N s t) :
    Calls Tryd.prog 104 #[.pointer (some ⟨bs, 0, none⟩)] w fun e w' => e = .returned (backR s).agg ∧ Below w.heap.size w w' := by
  have c := h.f5
  have l := h.lt
  clear h
  go_enter Tryd.func104, Tryd.ntmps104
  go_wp2
  exact bodyPost_ret (v := (backR s).agg) (by simp [results, Tryd.results104, go_sem, backR]) rfl ⟨rfl, (Below.refl _ _).alloc (Nat.le_refl _) _⟩
set_option maxHeartbeats 1000000 in
theorem sGoTo (bs bg g N : Nat) (s : Rs) (t : Pt) (x y : Int) (w : World) (h : PrAt w bs bg g N s t) :
    Calls Tryd.prog 45 #[.pointer (some ⟨bs, 0, none⟩), .int .i64 x, .int .i64 y] w (SPost bs bg g N w (goesR s x y) t (.tuple #[])) := by
  have HP : Hid (PrAt w bs bg g N s t) := h
  have c0 := h.f0
  have c1 := h.f1
  have c2 := h.f2
  have c3 := h.f3
  have fz := h.free
  have w1 := h.gr.w1
  have w2 := h.gr.w2
  have h1 := h.gr.h1
  have h2 := h.gr.h2
  have hbw := clamp_between x w1
  have hbh := clamp_between y h1
  clear h
  go_enter Tryd.func45, Tryd.ntmps45
  go_wp2_with (first | (go_at_call 46; refine (pWidth bg g s.W s.H N s.G _ HP.out.gr).mono ?_; rintro e w' ⟨rfl, hw'⟩; replace hw' := hw'.symm; subst hw') | (go_at_call 69; refine (pBetween _ _ _ _).mono ?_; rintro e w' ⟨rfl, hw'⟩; replace hw' := hw'.symm; subst hw'))
  have HP1 : Hid (PrAt (w.setCell ⟨bs, 1, none⟩ (.int .i64 (clampI x s.W))) bs bg g N { s with x := clampI x s.W } t) := HP.out.setX _
  go_wp2_with (first | (go_at_call 47; refine (pHeight bg g s.W s.H N s.G _ HP1.out.gr).mono ?_; rintro e w' ⟨rfl, hw'⟩; replace hw' := hw'.symm; subst hw') | (go_at_call 69; refine (pBetween _ _ _ _).mono ?_; rintro e w' ⟨rfl, hw'⟩; replace hw' := hw'.symm; subst hw'))
  go_end0
  exact ⟨rfl, (HP1.out.setY _).setPend false, (((Keep.refl _ w).setCell ⟨bs, 1, none⟩ _ (fun _ => Or.inl rfl)).setCell ⟨bs, 2, none⟩ _ (fun _ => Or.inl rfl)).setCell ⟨bs, 3, none⟩ _ (fun _ => Or.inl rfl)⟩
set_option maxHeartbeats 1000000 in
theorem sScroll (bs bg g N : Nat) (s : Rs) (t : Pt) (n : Int) (w : World) (h : PrAt w bs bg g N s t) (h0 : 0 ≤ s.top) (ht : s.top ≤ s.bot) (hb : s.bot < s.H) :
    Calls Tryd.prog 97 #[.pointer (some ⟨bs, 0, none⟩), .int .i64 n] w (SPost bs bg g N w { s with G := scrollG s.top s.bot n (backR s) s.G } t (.tuple #[])) := by
  have HP : Hid (PrAt w bs bg g N s t) := h
  have c0 := h.f0
  have c9 := h.f9
  have c10 := h.f10
  clear h
  go_enter Tryd.func97, Tryd.ntmps97
  go_wp2_with fail
  have HD : Hid (PrAt w.drew bs bg g N s t) := HP.out.drew
  have lt : bs < w.heap.size := HP.out.lt
  have ng : ¬ bs = g := HP.out.ne2
  go_region_held3 (fun w' => w'.cell? ⟨bs, 0, none⟩ = some (.pointer (some ⟨bg, 0, none⟩)) ∧ w'.cell? ⟨bs, 9, none⟩ = some (.int .i64 s.top) ∧ w'.cell? ⟨bs, 10, none⟩ = some (.int .i64 s.bot)) (simp [*]) (first | (go_at_call 104; refine (sEraser bs bg g N s t _ HD.out).mono ?_; rintro e w2 ⟨rfl, hb2⟩; have HP2 : Hid (PrAt w2 bs bg g N s t) := HD.out.below hb2; have K2 : Keep (fun i => i = bs ∨ i = bg ∨ i = g) w w2 := ((Keep.refl _ w).drew).thenBelow hb2; have e1 := hb2.cells lt; clear hb2) | (go_at_call 105; refine (pScrollG bg g s.W s.H N s.G s.top s.bot n (backR s) _ HP2.out.gr h0 ht hb).mono ?_; rintro e w3 ⟨rfl, G3, K3⟩; have e2 := keepC K3 HP2.out.lt ng))
  go_wp2_with fail
  go_end0
  exact ⟨rfl, HP2.out.cells _ (K3.block _ HP2.out.lt ng) G3 rfl ng, K2.trans K3 (fun _ _ h => Or.inr (Or.inr h))⟩
end Go.Proofs.YtjlfibhbfdckpaaDoor

/- The program's screen: erase, lineFeed. -/
namespace Go.Proofs.YtjlfibhbfdckpaaDoor
open Go.RowKit
attribute [local go_sem ↓] Go.wp_at_zero Go.wp_at_succ
theorem clamp_id {v : Int} {m : Nat} (h0 : 0 ≤ v) (h1 : v < m) : clampI v m = v := by
  unfold clampI
  (repeat' split) <;> omega
theorem least_clamp {v : Int} {m : Nat} (h0 : 0 ≤ v) (h1 : v < m) : leastI (v + 1) ((m : Int) - 1) = clampI (v + 1) m := by
  unfold leastI clampI
  (repeat' split) <;> omega
set_option maxHeartbeats 1000000 in
theorem sErase (bs bg g N : Nat) (s : Rs) (t : Pt) (x0 x1 : Int) (y : Nat) (w : World) (h : PrAt w bs bg g N s t) (hw : Wf s.W s.H s.G) (hy : y < s.H) :
    Calls Tryd.prog 96 #[.pointer (some ⟨bs, 0, none⟩), .int .i64 x0, .int .i64 x1, .int .i64 y] w (SPost bs bg g N w { s with G := eraseX s.W x0 x1 y (backR s) s.G } t (.tuple #[])) := by
  have HP : Hid (PrAt w bs bg g N s t) := h
  have c0 := h.f0
  clear h
  go_enter Tryd.func96, Tryd.ntmps96
  go_wp2_with fail
  have HD : Hid (PrAt w.drew bs bg g N s t) := HP.out.drew
  have lt : bs < w.heap.size := HP.out.lt
  have ng : ¬ bs = g := HP.out.ne2
  go_region_held3 (fun w' => w'.cell? ⟨bs, 0, none⟩ = some (.pointer (some ⟨bg, 0, none⟩))) (simp [*]) (first | (go_at_call 104; refine (sEraser bs bg g N s t _ HD.out).mono ?_; rintro e w2 ⟨rfl, hb2⟩; have HP2 : Hid (PrAt w2 bs bg g N s t) := HD.out.below hb2; have K2 : Keep (fun i => i = bs ∨ i = bg ∨ i = g) w w2 := ((Keep.refl _ w).drew).thenBelow hb2; have e1 := hb2.cells lt; clear hb2) | (go_at_call 103; refine (pErase bg g s.W s.H N s.G x0 x1 y (backR s) _ HP2.out.gr hw hy).mono ?_; rintro e w3 ⟨rfl, G3, K3⟩; have e2 := keepC K3 HP2.out.lt ng))
  go_wp2_with fail
  go_end0
  exact ⟨rfl, HP2.out.cells _ (K3.block _ HP2.out.lt ng) G3 rfl ng, K2.trans K3 (fun _ _ h => Or.inr (Or.inr h))⟩
set_option maxHeartbeats 1000000 in
theorem sLineFeed (bs bg g N : Nat) (s : Rs) (t : Pt) (w : World) (h : PrAt w bs bg g N s t) (ok : Rs.Ok { s with pend := false }) :
    Calls Tryd.prog 85 #[.pointer (some ⟨bs, 0, none⟩)] w (SPost bs bg g N w (linefeedR s) t (.tuple #[])) := by
  have HP : Hid (PrAt w bs bg g N s t) := h
  have c0 := h.f0
  have c2 := h.f2
  have c3 := h.f3
  have c10 := h.f10
  have fz := h.free
  have x0 : 0 ≤ s.x := ok.x0
  have x1 : s.x < s.W := ok.x1
  have y0 : 0 ≤ s.y := ok.y0
  have y1 : s.y < s.H := ok.y1
  have h2 : s.H ≤ 20 := ok.h2
  have t0 : 0 ≤ s.top := ok.t0
  have tb : s.top ≤ s.bot := ok.tb
  have b1 : s.bot < s.H := ok.b1
  have HP1 : Hid (PrAt (w.setCell ⟨bs, 3, none⟩ (.bool false)) bs bg g N { s with pend := false } t) := h.setPend false
  have K1 : Keep (fun i => i = bs ∨ i = bg ∨ i = g) w (w.setCell ⟨bs, 3, none⟩ (.bool false)) := (Keep.refl _ w).setCell ⟨bs, 3, none⟩ _ (fun _ => Or.inl rfl)
  clear h ok
  by_cases hy : s.y = s.bot
  · have hq : (s.y == s.bot) = true := by simp [hy]
    have HL : Hid (linefeedR s = { s with G := scrollG s.top s.bot 1 (backR s) s.G, pend := false }) := by unfold linefeedR; exact if_pos hy
    clear hy
    go_enter Tryd.func85, Tryd.ntmps85
    go_wp2_with fail
    clear HP c0 c2 c3 c10 fz
    generalize w.setCell ⟨bs, 3, none⟩ (.bool false) = wa at *
    have c0 := HP1.out.f0
    have c2 := HP1.out.f2
    have c10 := HP1.out.f10
    have fz := HP1.out.free
    go_quiet (fail)
    have HP2 : Hid (PrAt (wa.drewN nq) bs bg g N { s with pend := false } t) := HP1.out.drewN nq
    have K2 : Keep (fun i => i = bs ∨ i = bg ∨ i = g) w (wa.drewN nq) := K1.drewN nq
    generalize wa.drewN nq = wb at *
    clear HP1 K1 c0 c2 c10 fz
    have c0 := HP2.out.f0
    have c2 := HP2.out.f2
    have fz := HP2.out.free
    go_wp2_with fail
    go_at_call 97
    refine (sScroll bs bg g N _ t 1 _ HP2.out t0 tb b1).mono ?_
    rintro e w3 ⟨rfl, P3, K3⟩
    go_wp2_with fail
    refine bodyPost_ret (v := .tuple #[]) (by simp [results, Tryd.results85, go_sem]) rfl ⟨rfl, ?_, K2.trans K3 (fun _ _ h => h)⟩
    rw [HL.out]
    exact P3
  · have hq : (s.y == s.bot) = false := by simp [hy]
    have HL : Hid (linefeedR s = goesR s s.x (s.y + 1)) := by unfold linefeedR; exact if_neg hy
    clear hy
    go_enter Tryd.func85, Tryd.ntmps85
    go_wp2_with fail
    clear HP c0 c2 c3 c10 fz
    generalize w.setCell ⟨bs, 3, none⟩ (.bool false) = wa at *
    have c0 := HP1.out.f0
    have c2 := HP1.out.f2
    have c10 := HP1.out.f10
    have fz := HP1.out.free
    go_quiet (fail)
    have HP2 : Hid (PrAt (wa.drewN nq) bs bg g N { s with pend := false } t) := HP1.out.drewN nq
    have K2 : Keep (fun i => i = bs ∨ i = bg ∨ i = g) w (wa.drewN nq) := K1.drewN nq
    generalize wa.drewN nq = wb at *
    clear HP1 K1 c0 c2 c10 fz
    have c0 := HP2.out.f0
    have c2 := HP2.out.f2
    have fz := HP2.out.free
    have Hbx : Hid (clampI s.x s.W = s.x) := clamp_id x0 x1
    have hby := least_clamp (m := s.H) y0 y1
    have hgd : GrAt wb.drew bg g s.W s.H N s.G := HP2.out.gr.same rfl rfl
    have Hgd : Hid (GrAt wb.drew bg g s.W s.H N s.G) := hgd
    clear hgd
    go_wp2_with fail
    go_region_with (first | (go_at_call 47; refine (pHeight bg g s.W s.H N s.G _ Hgd.out).mono ?_; rintro e w' ⟨rfl, hw'⟩; replace hw' := hw'.symm; subst hw') | (go_at_call 66; refine (pLeast _ _ _).mono ?_; rintro e w' ⟨rfl, hw'⟩; replace hw' := hw'.symm; subst hw'))
    all_goals
      go_end0
      rw [wrap_id (s.y + 1) (by omega) (by omega), wrap_id ((s.H : Int) - 1) (by omega) (by omega), hby]
      refine ⟨rfl, ?_, (K2.setCell ⟨bs, 2, none⟩ _ (fun _ => Or.inl rfl)).drew⟩
      rw [HL.out]
      have := (HP2.out.setY (clampI (s.y + 1) s.H)).drew
      unfold goesR
      rw [Hbx.out]
      exact this
end Go.Proofs.YtjlfibhbfdckpaaDoor
