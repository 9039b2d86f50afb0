/- Texts of the proof, one behind the other: Nm, ScP5, PlN, ScP6, ScP7, ScP8, FpA. -/
import Derived.Test.YtjlfibhbfdckpaaGreatDoorK01
import Derived.Test.YtjlfibhbfdckpaaGreatDoorK02
import Derived.Lib.Join
import Derived.Lib.ItoaNum
/- The numbers of a sequence: plain mathematics, and rows of integers. -/
namespace Go.Proofs.YtjlfibhbfdckpaaGreatDoor
open Go.RowKit
/-- The last number of a list is another one. -/
def setLast (l : List Int) (v : Int) : List Int := l.set (l.length - 1) v
def lastOf (l : List Int) : Int := l.getD (l.length - 1) 0
def capN (n : Int) : Int := if 9999 < n then 9999 else n
def begunL (l : List Int) : List Int := if l = [] then [0] else l
/-- One byte of a sequence; none: it is bad. -/
def numStep (l : List Int) (c : Int) : Option (List Int) :=
  if c = 59 then some (begunL l ++ [0]) else if 48 ≤ c ∧ c ≤ 57 then some (setLast (begunL l) (capN (10 * lastOf (begunL l) + (c - 48)))) else none
def numsTo : List UInt8 → List Int → Option (List Int)
  | [], l => some l
  | c :: r, l => match numStep l c.toNat with
    | none => none
    | some k => numsTo r k
def nums (b : ByteArray) : Option (List Int) := numsTo b.data.toList []
theorem numsTo_append (a b : List UInt8) (l : List Int) : numsTo (a ++ b) l = match numsTo a l with
    | none => none
    | some k => numsTo b k := by
  induction a generalizing l with
  | nil => rfl
  | cons c r ih =>
    simp only [List.cons_append, numsTo]
    cases numStep l c.toNat with
    | none => rfl
    | some k => exact ih k
theorem numsTo_snoc (a : List UInt8) (c : UInt8) (l k : List Int) (h : numsTo a l = some k) : numsTo (a ++ [c]) l = numStep k c.toNat := by
  rw [numsTo_append, h]
  simp only [numsTo]
  cases numStep k c.toNat <;> rfl
theorem take_snoc (s : ByteArray) (k : Nat) (h : k < s.size) : s.data.toList.take (k + 1) = s.data.toList.take k ++ [s[k]] := by
  rw [List.take_succ_eq_append_getElem (by simpa using h)]; rfl
theorem nums_bad (b : ByteArray) (k : Nat) (hk : k < b.size) (l : List Int) (h : numsTo (b.data.toList.take k) [] = some l) (hb : numStep l b[k].toNat = none) : nums b = none := by
  unfold nums
  rw [← List.take_append_drop (k + 1) b.data.toList, take_snoc b k hk, numsTo_append, numsTo_snoc _ _ _ _ h, hb]
/-- Numbers stay small. -/
def Small (l : List Int) : Prop := ∀ i, 0 ≤ l.getD i 0 ∧ l.getD i 0 ≤ 9999
theorem small_nil : Small [] := fun i => by simp
theorem small_begun {l : List Int} (h : Small l) : Small (begunL l) := by
  unfold begunL
  split
  · intro i; cases i <;> simp
  · exact h
theorem small_snoc {l : List Int} (h : Small l) : Small (l ++ [0]) := by
  intro i
  have := h i
  simp only [List.getD_eq_getElem?_getD] at *
  by_cases hi : i < l.length
  · rw [List.getElem?_append_left hi]; exact this
  · rw [List.getElem?_append_right (by omega)]
    cases i - l.length <;> simp
theorem small_set {l : List Int} (h : Small l) (j : Nat) (v : Int) (h0 : 0 ≤ v) (h1 : v ≤ 9999) : Small (l.set j v) := by
  intro i
  have := h i
  simp only [List.getD_eq_getElem?_getD, List.getElem?_set] at *
  by_cases e : j = i
  · subst e
    by_cases hj : j < l.length
    · simp [hj, h0, h1]
    · simp [hj]
  · simp [e]; exact this
theorem begun_len (l : List Int) : 1 ≤ (begunL l).length := by
  unfold begunL
  split
  · simp
  · cases l with
    | nil => simp_all
    | cons => simp
/-- Integers as values. -/
def ivals (l : List Int) : List Value := l.map (fun n => Value.int .i64 n)
theorem ivals_append (a b : List Int) : ivals (a ++ b) = ivals a ++ ivals b := by simp [ivals]
theorem irow_cell {w : World} {base g n cap : Nat} {l : List Int} {t : TypeId} (h : w.ownsRow base t 1 (.slice (some ⟨g, 0, none⟩) n cap) n (ivals l)) (i : Nat) (hi : i < l.length) : w.cell? ⟨g, i, none⟩ = some (.int .i64 (l.getD i 0)) := by
  obtain ⟨hl, h | ⟨g', cap', cur, hv, hb, hg, hn, hm, hs, ht⟩⟩ := h
  · simp at h
  · simp at hv
    obtain ⟨rfl, rfl⟩ := hv
    rw [cell_of_block hg]
    have a : (ivals l)[i]? = some (.int .i64 (l.getD i 0)) := by
      simp [ivals, hi]
    rw [← ht] at a
    have hlt : i < n * 1 := by simp [ivals] at hl; omega
    rw [List.getElem?_take_of_lt hlt] at a
    simpa using a
theorem irow_free {w : World} {base g n cap : Nat} {xs : List Value} {t : TypeId} (h : w.ownsRow base t 1 (.slice (some ⟨g, 0, none⟩) n cap) n xs) (o : Nat) : w.frozen? ⟨g, o, none⟩ = false := by
  obtain ⟨hl, h | ⟨g', cap', cur, hv, hb, hg, hn, hm, hs, ht⟩⟩ := h
  · simp at h
  · simp at hv
    obtain ⟨rfl, rfl⟩ := hv
    exact frozen_of_block hg o
theorem irow_set {w : World} {base g n cap : Nat} {l : List Int} {t : TypeId} (h : w.ownsRow base t 1 (.slice (some ⟨g, 0, none⟩) n cap) n (ivals l)) (i : Nat) (v : Int) : (w.setCell ⟨g, i, none⟩ (.int .i64 v)).ownsRow base t 1 (.slice (some ⟨g, 0, none⟩) n cap) n (ivals (l.set i v)) := by
  obtain ⟨hl, h | ⟨g', cap', cur, hv, hb, hg, hn, hm, hs, ht⟩⟩ := h
  · simp at h
  · simp at hv
    obtain ⟨rfl, rfl⟩ := hv
    refine ⟨by simp [ivals] at hl ⊢; exact hl, .inr ⟨g, cap, cur.setIfInBounds i (.int .i64 v), rfl, hb, heap_set_same hg _ _, hn, hm, by simpa using hs, ?_⟩⟩
    have e : ivals (l.set i v) = (ivals l).set i (.int .i64 v) := by simp [ivals, List.map_set]
    rw [e, ← ht]
    simp [List.take_set]
theorem irow_same {w w' : World} {base : Nat} {v : Value} {n : Nat} {xs : List Value} {t : TypeId} (h : w.ownsRow base t 1 v n xs) (hb : ∀ g, v.ownBlock = some g → w'.heap[g]? = w.heap[g]?) : w'.ownsRow base t 1 v n xs := by
  obtain ⟨hl, h | ⟨g', cap', cur, rfl, hb', hg, rest⟩⟩ := h
  · exact ⟨hl, .inl h⟩
  · exact ⟨hl, .inr ⟨g', cap', cur, rfl, hb', by rw [hb g' rfl]; exact hg, rest⟩⟩
end Go.Proofs.YtjlfibhbfdckpaaGreatDoor

/- The document's screen: sequences. -/
namespace Go.Proofs.YtjlfibhbfdckpaaGreatDoor
open Go.RowKit
def oddR (s : Rs) : Rs := { s with odd := wrap64 (s.odd + 1) }
def one1 (n : Int) : Int := if n = 0 then 1 else n
def lowR2 (H : Nat) (k : Int) : Int := if k = 0 ∨ (H : Int) < k then H else k
def marginsR (s : Rs) (n k : Int) : Rs := if n < lowR2 s.H k ∨ (s.H = 1 ∧ n = 1) then goesR { s with top := n - 1, bot := lowR2 s.H k - 1 } 0 0 else s
def pensR (s : Rs) (l : List Int) : Rs := { s with pen := l.foldl penN s.pen }
/-- A sequence that is not bad is done. -/
def doneR (s : Rs) (l : List Int) (last : Int) : Rs :=
  let first := l.getD 0 0
  let second := l.getD 1 0
  let n := one1 first
  if last = 65 then goesR s s.x (s.y - n) else if last = 66 then goesR s s.x (s.y + n) else if last = 67 then goesR s (s.x + n) s.y else if last = 68 then goesR s (s.x - n) s.y
  else if last = 72 then goesR s (one1 second - 1) (n - 1) else if last = 75 then eraR s first false else if last = 74 then eraR s first true
  else if last = 88 then { s with G := wrt s.G (rg s.x (s.x + n) s.y.toNat) (fun _ _ => blk (backR s)) }
  else if last = 83 then { s with G := scrollG s.top s.bot n (backR s) s.G } else if last = 84 then { s with G := scrollG s.top s.bot (-n) (backR s) s.G }
  else if last = 114 then marginsR s n second else if last = 109 then pensR s (begunL l) else oddR s
def seqR (s : Rs) (b : ByteArray) (last : Int) : Rs := match nums b with
  | none => oddR s
  | some l => if l.length ≤ 8 then doneR s l last else oddR s
end Go.Proofs.YtjlfibhbfdckpaaGreatDoor

/- Letters in bytes: plain mathematics. -/
namespace Go.Proofs.YtjlfibhbfdckpaaGreatDoor
/-- How many bytes a letter has that begins so. -/
def longR (c : Int) : Int := if 194 ≤ c ∧ c ≤ 223 then 2 else if 224 ≤ c ∧ c ≤ 239 then 3 else if 240 ≤ c ∧ c ≤ 244 then 4 else 0
/-- Within which bounds a letter goes on that has begun with one byte. -/
def lowR (a : Int) : Int := if a = 224 then 160 else if a = 240 then 144 else 128
def highR (a : Int) : Int := if a = 237 then 159 else if a = 244 then 143 else 191
/-- Can a letter that has come so far go on with a byte? -/
def goesOnB (b : List UInt8) (c : Int) : Bool := match b with
  | [a] => decide (lowR a.toNat ≤ c) && decide (c ≤ highR a.toNat)
  | _ => decide (128 ≤ c) && decide (c ≤ 191)
/-- The code point of a letter's bytes. -/
def letterR (b : List UInt8) : Int := match b with
  | [a, b] => 64 * ((a.toNat : Int) - 192) + b.toNat - 128
  | [a, b, c] => 64 * (64 * ((a.toNat : Int) - 224) + b.toNat - 128) + c.toNat - 128
  | [a, b, c, d] => 64 * (64 * (64 * ((a.toNat : Int) - 240) + b.toNat - 128) + c.toNat - 128) + d.toNat - 128
  | _ => 0
end Go.Proofs.YtjlfibhbfdckpaaGreatDoor

/- The document's screen: bytes. -/
namespace Go.Proofs.YtjlfibhbfdckpaaGreatDoor
/-- A byte in the ground state, while no letter is begun. -/
def groundR (s : Rs) (c : UInt8) : Rs :=
  if (c.toNat : Int) = 13 then goesR s 0 s.y else if (c.toNat : Int) = 10 then linefeedR s else if (c.toNat : Int) = 8 then goesR s (s.x - 1) s.y
  else if (c.toNat : Int) = 27 then { s with B := ⟨#[27]⟩ } else if 32 ≤ (c.toNat : Int) ∧ (c.toNat : Int) ≤ 126 then putR s c.toNat
  else if 0 < longR c.toNat then { s with B := ⟨#[c]⟩ } else oddR s
end Go.Proofs.YtjlfibhbfdckpaaGreatDoor

/- The document's screen: what holds stays so. -/
namespace Go.Proofs.YtjlfibhbfdckpaaGreatDoor
open Wd (wd)
theorem Rs.Ok.cong {s t : Rs} (h : s.Ok) (hW : t.W = s.W) (hH : t.H = s.H) (hx : t.x = s.x) (hy : t.y = s.y) (hp : t.pend = s.pend) (ht : t.top = s.top) (hb : t.bot = s.bot) (hG : t.G = s.G) : t.Ok :=
  ⟨by rw [hW]; exact h.w1, by rw [hW]; exact h.w2, by rw [hH]; exact h.h1, by rw [hH]; exact h.h2, by rw [hx]; exact h.x0, by rw [hx, hW]; exact h.x1, by rw [hy]; exact h.y0, by rw [hy, hH]; exact h.y1, by rw [ht]; exact h.t0, by rw [ht, hb]; exact h.tb, by rw [hb, hH]; exact h.b1, by rw [hp, hx, hW]; exact h.pd, by rw [hW, hH, hG]; exact h.wf⟩
theorem Rs.Ok.odd {s : Rs} (h : s.Ok) : (oddR s).Ok := h.cong rfl rfl rfl rfl rfl rfl rfl rfl
theorem Rs.Ok.setB {s : Rs} (h : s.Ok) (b : ByteArray) : Rs.Ok { s with B := b } := h.cong rfl rfl rfl rfl rfl rfl rfl rfl
theorem Rs.Ok.cells {s : Rs} (h : s.Ok) {G : Nat → Nat → Cel} (hG : Wf s.W s.H G) : Rs.Ok { s with G := G } :=
  ⟨h.w1, h.w2, h.h1, h.h2, h.x0, h.x1, h.y0, h.y1, h.t0, h.tb, h.b1, h.pd, hG⟩
theorem lf_W (s : Rs) : (linefeedR s).W = s.W := by unfold linefeedR; split <;> rfl
theorem broken_W (s : Rs) (k : Int) : (brokenR s k).W = s.W := by
  unfold brokenR; split
  · exact lf_W _
  · rfl
theorem lf_pend (s : Rs) : (linefeedR s).pend = false := by unfold linefeedR; split <;> rfl
theorem lf_x (s : Rs) : (linefeedR s).x = s.x ∨ (linefeedR s).x = clampI s.x s.W := by
  unfold linefeedR; split
  · exact .inl rfl
  · exact .inr rfl
/-- Behind the wrap a letter fits, and nothing is pending. -/
theorem broken_fits {s : Rs} (h : s.Ok) (k : Int) (hk : k = 1 ∨ (k = 2 ∧ s.W ≠ 1)) : (brokenR s k).pend = false ∧ (brokenR s k).x + k ≤ s.W := by
  have w1 := h.w1
  unfold brokenR
  cases hw : wraps s k with
  | true =>
    rw [if_pos rfl]
    refine ⟨lf_pend _, ?_⟩
    have hx : (linefeedR { s with x := 0 }).x = 0 := by
      rcases lf_x { s with x := 0 } with e | e
      · exact e
      · rw [e]; show clampI 0 s.W = 0
        unfold clampI; rw [if_neg (by omega), if_neg (by omega)]
    rw [hx]
    omega
  | false =>
    rw [if_neg (by decide)]
    simp [wraps] at hw
    refine ⟨hw.1, ?_⟩
    have := h.x1
    rcases hk with rfl | ⟨rfl, _⟩
    · omega
    · have := hw.2 rfl; omega
theorem Rs.Ok.put {s : Rs} (h : s.Ok) (r : Int) : (putR s r).Ok := by
  unfold putR
  split
  · exact h.cong rfl rfl rfl rfl rfl rfl rfl rfl
  · rename_i hr
    have hkr : (effW s.W r = 1 ∧ wd (effR s.W r) = 1) ∨ (effW s.W r = 2 ∧ wd (effR s.W r) = 2 ∧ s.W ≠ 1) := by
      unfold effW effR
      by_cases c : wd r = 2 ∧ s.W = 1
      · rw [if_pos c, if_pos c]; exact .inl ⟨rfl, wd_32⟩
      · rw [if_neg c, if_neg c]
        rcases Wd.wd_cases r with q | q | q
        · exact absurd q hr
        · exact .inl ⟨q, q⟩
        · exact .inr ⟨q, q, fun e => c ⟨q, e⟩⟩
    generalize effW s.W r = k at *
    generalize effR s.W r = r' at *
    have hb := h.broken k
    have hf := broken_fits h k (by omega)
    have hW := broken_W s k
    generalize brokenR s k = t at *
    rw [← hW] at hf
    have x0 := hb.x0
    have x1 := hb.x1
    have y0 := hb.y0
    have y1 := hb.y1
    obtain ⟨x, hx⟩ := Int.eq_ofNat_of_zero_le x0
    obtain ⟨y, hy⟩ := Int.eq_ofNat_of_zero_le y0
    have hwf : Wf t.W t.H (writeG t.W t.H t.G t.x t.y r' t.pen) := by
      rw [hx, hy]
      rcases hkr with ⟨rfl, q⟩ | ⟨rfl, q, _⟩
      · exact (hb.wf.wrWhole (P := pt x y) (v := fun _ _ => ⟨r', 0, t.pen⟩) (fun _ _ _ _ _ => ⟨rfl, q⟩)).congr (writeG_one hb.wf (by omega) (by omega) r' t.pen q).symm
      · exact (hb.wf.wide (x := x) (y := y) (by omega) r' t.pen q).congr (writeG_two hb.wf (by omega) (by omega) r' t.pen q).symm
    have hw : (writeR t r').Ok := hb.cells hwf
    unfold stepR
    split
    · exact ⟨hw.w1, hw.w2, hw.h1, hw.h2, by have := hw.w1; show (0 : Int) ≤ (t.W : Int) - 1; have : 1 ≤ t.W := this; omega, by show (t.W : Int) - 1 < t.W; omega, hw.y0, hw.y1, hw.t0, hw.tb, hw.b1, fun _ => rfl, hw.wf⟩
    · rename_i hn
      have hn' : ¬ (t.W : Int) ≤ t.x + k := hn
      exact ⟨hw.w1, hw.w2, hw.h1, hw.h2, by show (0 : Int) ≤ t.x + k; omega, by show t.x + k < (t.W : Int); omega, hw.y0, hw.y1, hw.t0, hw.tb, hw.b1, (fun q => by
        have : t.pend = true := q
        rw [hf.1] at this; cases this), hw.wf⟩
theorem Rs.Ok.margins {s : Rs} (h : s.Ok) (n k : Int) (hn : 1 ≤ n) (hk : 0 ≤ k) : (marginsR s n k).Ok := by
  unfold marginsR
  split
  · rename_i hc
    have h1 := h.h1
    have a := clampI_in 0 s.W h.w1
    have b := clampI_in 0 s.H h.h1
    have hl : lowR2 s.H k ≤ s.H ∧ 1 ≤ lowR2 s.H k := by
      unfold lowR2
      split
      · omega
      · omega
    exact ⟨h.w1, h.w2, h.h1, h.h2, a.1, a.2, b.1, b.2, by show (0 : Int) ≤ n - 1; omega, by show n - 1 ≤ lowR2 s.H k - 1; omega, by show lowR2 s.H k - 1 < s.H; omega, (fun q => by cases q), h.wf⟩
  · exact h
theorem Rs.Ok.done {s : Rs} (h : s.Ok) (l : List Int) (hs : Small l) (last : Int) : (doneR s l last).Ok := by
  have n1 : 1 ≤ one1 (l.getD 0 0) := by
    have := (hs 0).1
    unfold one1; split <;> omega
  unfold doneR
  simp only
  by_cases c1 : last = 65
  · rw [if_pos c1]; exact h.goes _ _
  rw [if_neg c1]
  by_cases c2 : last = 66
  · rw [if_pos c2]; exact h.goes _ _
  rw [if_neg c2]
  by_cases c3 : last = 67
  · rw [if_pos c3]; exact h.goes _ _
  rw [if_neg c3]
  by_cases c4 : last = 68
  · rw [if_pos c4]; exact h.goes _ _
  rw [if_neg c4]
  by_cases c5 : last = 72
  · rw [if_pos c5]; exact h.goes _ _
  rw [if_neg c5]
  by_cases c6 : last = 75
  · rw [if_pos c6]; exact h.era _ _
  rw [if_neg c6]
  by_cases c7 : last = 74
  · rw [if_pos c7]; exact h.era _ _
  rw [if_neg c7]
  by_cases c8 : last = 88
  · rw [if_pos c8]; exact h.cells (h.wf.blk _ _)
  rw [if_neg c8]
  by_cases c9 : last = 83
  · rw [if_pos c9]; exact ok_scroll h _ _
  rw [if_neg c9]
  by_cases c10 : last = 84
  · rw [if_pos c10]; exact ok_scroll h _ _
  rw [if_neg c10]
  by_cases c11 : last = 114
  · rw [if_pos c11]; exact h.margins _ _ n1 (hs 1).1
  rw [if_neg c11]
  by_cases c12 : last = 109
  · rw [if_pos c12]; exact h.cong rfl rfl rfl rfl rfl rfl rfl rfl
  rw [if_neg c12]; exact h.odd
theorem numStep_small {l k : List Int} (h : Small l) (c : Int) (e : numStep l c = some k) : Small k := by
  unfold numStep at e
  split at e
  · cases e; exact small_snoc (small_begun h)
  · split at e
    · rename_i hc
      cases e
      have := (small_begun h) ((begunL l).length - 1)
      have h1 : 0 ≤ lastOf (begunL l) := this.1
      refine small_set (small_begun h) _ _ ?_ ?_
      · unfold capN; split <;> omega
      · unfold capN; split <;> omega
    · cases e
theorem numsTo_small (b : List UInt8) (l k : List Int) (h : Small l) (e : numsTo b l = some k) : Small k := by
  induction b generalizing l with
  | nil => cases e; exact h
  | cons c r ih =>
    simp only [numsTo] at e
    cases hs : numStep l c.toNat with
    | none => rw [hs] at e; cases e
    | some m => rw [hs] at e; exact ih m (numStep_small h _ hs) e
theorem Rs.Ok.seq {s : Rs} (h : s.Ok) (b : ByteArray) (last : Int) : (seqR s b last).Ok := by
  unfold seqR
  cases hn : nums b with
  | none => exact h.odd
  | some l =>
    simp only
    split
    · exact h.done l (numsTo_small _ _ _ small_nil hn) last
    · exact h.odd
theorem Rs.Ok.ground {s : Rs} (h : s.Ok) (c : UInt8) : (groundR s c).Ok := by
  unfold groundR
  split
  · exact h.goes _ _
  · split
    · exact h.lf
    · split
      · exact h.goes _ _
      · split
        · exact h.setB _
        · split
          · exact h.put _
          · split
            · exact h.setB _
            · exact h.odd
end Go.Proofs.YtjlfibhbfdckpaaGreatDoor

/- The document's screen: a byte comes. -/
namespace Go.Proofs.YtjlfibhbfdckpaaGreatDoor
/-- A letter goes on, or ends. -/
def letR (s : Rs) (a : UInt8) (l : List UInt8) (c : UInt8) : Rs :=
  if goesOnB (a :: l) c.toNat = false then groundR (oddR { s with B := ⟨#[]⟩ }) c
  else if longR a.toNat = ((l.length + 2 : Nat) : Int) then putR { s with B := ⟨#[]⟩ } (letterR (a :: l ++ [c])) else { s with B := ⟨(a :: l ++ [c]).toArray⟩ }
def escR (s : Rs) (c : UInt8) : Rs :=
  if (c.toNat : Int) = 91 then { s with B := ⟨#[27, 91]⟩ } else if (c.toNat : Int) = 27 then oddR s else oddR { s with B := ⟨#[]⟩ }
/-- In a sequence of which l has come. -/
def inSeqR (s : Rs) (l : List UInt8) (c : UInt8) : Rs :=
  if (c.toNat : Int) = 27 then oddR { s with B := ⟨#[27]⟩ } else if 64 ≤ (c.toNat : Int) ∧ (c.toNat : Int) ≤ 126 then seqR { s with B := ⟨#[]⟩ } ⟨l.toArray⟩ c.toNat
  else { s with B := ⟨(27 :: 91 :: l ++ [c]).toArray⟩ }
def oneR (s : Rs) (c : UInt8) : Rs := match s.B.data.toList with
  | [] => groundR s c
  | a :: l => if a = 27 then (match l with
    | [] => escR s c
    | _ :: r => inSeqR s r c) else letR s a l c
/-- What has come so far. -/
def BOk (b : ByteArray) : Prop := b = ⟨#[]⟩ ∨ b = ⟨#[27]⟩ ∨ (∃ l : List UInt8, b = ⟨(27 :: 91 :: l).toArray⟩)
  ∨ (∃ a : UInt8, b = ⟨#[a]⟩ ∧ 194 ≤ a.toNat ∧ a.toNat ≤ 244) ∨ (∃ a b' : UInt8, b = ⟨#[a, b']⟩ ∧ 224 ≤ a.toNat ∧ a.toNat ≤ 244 ∧ 128 ≤ b'.toNat ∧ b'.toNat ≤ 191)
  ∨ (∃ a b' d : UInt8, b = ⟨#[a, b', d]⟩ ∧ 240 ≤ a.toNat ∧ a.toNat ≤ 244 ∧ 128 ≤ b'.toNat ∧ b'.toNat ≤ 191 ∧ 128 ≤ d.toNat ∧ d.toNat ≤ 191)
theorem bok_nil : BOk ⟨#[]⟩ := .inl rfl
theorem goesR_B (s : Rs) (x y : Int) : (goesR s x y).B = s.B := rfl
theorem lf_B (s : Rs) : (linefeedR s).B = s.B := by unfold linefeedR; split <;> rfl
theorem put_B (s : Rs) (r : Int) : (putR s r).B = s.B := by
  unfold putR
  split
  · rfl
  · have hb : ∀ k, (brokenR s k).B = s.B := fun k => by
      unfold brokenR; split
      · rw [lf_B]
      · rfl
    have hst : ∀ (t : Rs) k, (stepR t k).B = t.B := fun t k => by unfold stepR; split <;> rfl
    rw [hst]
    exact hb _
theorem done_B (s : Rs) (l : List Int) (last : Int) : (doneR s l last).B = s.B := by
  unfold doneR
  simp only
  by_cases c0 : last = 65
  · rw [if_pos c0]; rfl
  rw [if_neg c0]
  by_cases c1 : last = 66
  · rw [if_pos c1]; rfl
  rw [if_neg c1]
  by_cases c2 : last = 67
  · rw [if_pos c2]; rfl
  rw [if_neg c2]
  by_cases c3 : last = 68
  · rw [if_pos c3]; rfl
  rw [if_neg c3]
  by_cases c4 : last = 72
  · rw [if_pos c4]; rfl
  rw [if_neg c4]
  by_cases c5 : last = 75
  · rw [if_pos c5]; rfl
  rw [if_neg c5]
  by_cases c6 : last = 74
  · rw [if_pos c6]; rfl
  rw [if_neg c6]
  by_cases c7 : last = 88
  · rw [if_pos c7]
  rw [if_neg c7]
  by_cases c8 : last = 83
  · rw [if_pos c8]
  rw [if_neg c8]
  by_cases c9 : last = 84
  · rw [if_pos c9]
  rw [if_neg c9]
  by_cases c10 : last = 114
  · rw [if_pos c10]; unfold marginsR; split <;> rfl
  rw [if_neg c10]
  by_cases c11 : last = 109
  · rw [if_pos c11]; rfl
  rw [if_neg c11]; rfl
theorem seq_B (s : Rs) (b : ByteArray) (last : Int) : (seqR s b last).B = s.B := by
  unfold seqR
  split
  · rfl
  · split
    · exact done_B _ _ _
    · rfl
theorem ground_B {s : Rs} (hB : s.B = ⟨#[]⟩) (c : UInt8) : BOk (groundR s c).B := by
  unfold groundR
  split
  · rw [goesR_B, hB]; exact bok_nil
  · split
    · rw [lf_B, hB]; exact bok_nil
    · split
      · rw [goesR_B, hB]; exact bok_nil
      · split
        · exact .inr (.inl rfl)
        · split
          · rw [put_B, hB]; exact bok_nil
          · split
            · rename_i hl
              refine .inr (.inr (.inr (.inl ⟨c, rfl, ?_⟩)))
              unfold longR at hl
              split at hl
              · omega
              · split at hl
                · omega
                · split at hl
                  · omega
                  · omega
            · show BOk s.B
              rw [hB]; exact bok_nil
theorem lowR_ge (a : Int) : 128 ≤ lowR a := by
  unfold lowR
  split
  · omega
  · split <;> omega
theorem highR_le (a : Int) : highR a ≤ 191 := by
  unfold highR
  split
  · omega
  · split <;> omega
theorem goesOn_lo {l : List UInt8} {c : UInt8} (h : goesOnB l c.toNat = true) : 128 ≤ c.toNat ∧ c.toNat ≤ 191 := by
  unfold goesOnB at h
  split at h
  · rename_i a
    have h1 := lowR_ge a.toNat
    have h2 := highR_le a.toNat
    simp at h
    omega
  · simp at h
    omega
theorem longR_val (a : Int) : (longR a = 2 ∧ 194 ≤ a ∧ a ≤ 223) ∨ (longR a = 3 ∧ 224 ≤ a ∧ a ≤ 239) ∨ (longR a = 4 ∧ 240 ≤ a ∧ a ≤ 244) ∨ (longR a = 0 ∧ (a < 194 ∨ 244 < a)) := by
  unfold longR
  by_cases h1 : 194 ≤ a ∧ a ≤ 223
  · rw [if_pos h1]; exact .inl ⟨rfl, h1⟩
  · rw [if_neg h1]
    by_cases h2 : 224 ≤ a ∧ a ≤ 239
    · rw [if_pos h2]; exact .inr (.inl ⟨rfl, h2⟩)
    · rw [if_neg h2]
      by_cases h3 : 240 ≤ a ∧ a ≤ 244
      · rw [if_pos h3]; exact .inr (.inr (.inl ⟨rfl, h3⟩))
      · rw [if_neg h3]; exact .inr (.inr (.inr ⟨rfl, by omega⟩))
theorem let_B {s : Rs} (a : UInt8) (l : List UInt8) (c : UInt8) (hmore : goesOnB (a :: l) c.toNat = true → longR a.toNat ≠ ((l.length + 2 : Nat) : Int) → BOk ⟨(a :: l ++ [c]).toArray⟩) : BOk (letR s a l c).B := by
  unfold letR
  split
  · exact ground_B rfl c
  · rename_i hg
    split
    · rw [put_B]; exact bok_nil
    · exact hmore (by simpa using hg) (by assumption)
theorem one_B {s : Rs} (h : BOk s.B) (c : UInt8) : BOk (oneR s c).B := by
  unfold oneR
  rcases h with e | e | ⟨l, e⟩ | ⟨a, e, a1, a2⟩ | ⟨a, b, e, a1, a2, b1, b2⟩ | ⟨a, b, d, e, a1, a2, b1, b2, d1, d2⟩
  · rw [e]; exact ground_B e c
  · rw [e]
    show BOk (escR s c).B
    unfold escR
    split
    · exact .inr (.inr (.inl ⟨[], rfl⟩))
    · split
      · show BOk s.B
        rw [e]; exact .inr (.inl rfl)
      · exact bok_nil
  · rw [e]
    show BOk (inSeqR s l c).B
    unfold inSeqR
    split
    · exact .inr (.inl rfl)
    · split
      · rw [seq_B]; exact bok_nil
      · exact .inr (.inr (.inl ⟨l ++ [c], rfl⟩))
  · rw [e]
    have hne : a ≠ 27 := fun q => by rw [q] at a1; exact absurd a1 (by decide)
    show BOk (if a = 27 then _ else letR s a [] c).B
    rw [if_neg hne]
    refine let_B a [] c (fun hg hl => ?_)
    have := goesOn_lo hg
    refine .inr (.inr (.inr (.inr (.inl ⟨a, c, rfl, ?_⟩))))
    rcases longR_val a.toNat with q | q | q | q
    · exact absurd q.1 hl
    all_goals omega
  · rw [e]
    have hne : a ≠ 27 := fun q => by rw [q] at a1; exact absurd a1 (by decide)
    show BOk (if a = 27 then _ else letR s a [b] c).B
    rw [if_neg hne]
    refine let_B a [b] c (fun hg hl => ?_)
    have := goesOn_lo hg
    refine .inr (.inr (.inr (.inr (.inr ⟨a, b, c, rfl, ?_⟩))))
    rcases longR_val a.toNat with q | q | q | q
    · omega
    · exact absurd q.1 hl
    all_goals omega
  · rw [e]
    have hne : a ≠ 27 := fun q => by rw [q] at a1; exact absurd a1 (by decide)
    show BOk (if a = 27 then _ else letR s a [b, d] c).B
    rw [if_neg hne]
    refine let_B a [b, d] c (fun hg hl => ?_)
    rcases longR_val a.toNat with q | q | q | q
    · omega
    · omega
    · exact absurd q.1 hl
    · omega
theorem Rs.Ok.one {s : Rs} (h : s.Ok) (c : UInt8) : (oneR s c).Ok := by
  unfold oneR
  split
  · exact h.ground c
  · split
    · split
      · unfold escR
        split
        · exact h.setB _
        · split
          · exact h.odd
          · exact (h.setB _).odd
      · unfold inSeqR
        split
        · exact (h.setB _).odd
        · split
          · exact (h.setB _).seq _ _
          · exact h.setB _
    · unfold letR
      split
      · exact ((h.setB _).odd).ground c
      · split
        · exact (h.setB _).put _
        · exact h.setB _
def feedR (s : Rs) (l : List UInt8) : Rs := l.foldl oneR s
theorem ground_size (s : Rs) (c : UInt8) : (groundR s c).B.size ≤ s.B.size + 1 := by
  unfold groundR
  split
  · rw [goesR_B]; omega
  · split
    · rw [lf_B]; omega
    · split
      · rw [goesR_B]; omega
      · split
        · show 1 ≤ _; omega
        · split
          · rw [put_B]; omega
          · split
            · show 1 ≤ _; omega
            · show s.B.size ≤ _; omega
theorem bsize (l : List UInt8) : (⟨l.toArray⟩ : ByteArray).size = l.length := rfl
/-- What has come grows by one byte at most. -/
theorem one_size {s : Rs} (h : BOk s.B) (c : UInt8) : (oneR s c).B.size ≤ s.B.size + 1 := by
  unfold oneR
  have hlet : ∀ (a : UInt8) (l : List UInt8), s.B = ⟨(a :: l).toArray⟩ → (letR s a l c).B.size ≤ s.B.size + 1 := by
    intro a l e
    have hs : s.B.size = l.length + 1 := by rw [e, bsize]; rfl
    unfold letR
    split
    · have := ground_size (oddR { s with B := ⟨#[]⟩ }) c
      have h0 : (oddR { s with B := ⟨#[]⟩ }).B.size = 0 := rfl
      omega
    · split
      · rw [put_B]; show 0 ≤ _; omega
      · show (⟨(a :: l ++ [c]).toArray⟩ : ByteArray).size ≤ _
        rw [bsize, hs]; simp
  rcases h with e | e | ⟨l, e⟩ | ⟨a, e, a1, a2⟩ | ⟨a, b, e, a1, a2, b1, b2⟩ | ⟨a, b, d, e, a1, a2, b1, b2, d1, d2⟩
  · have := ground_size s c
    rw [e] at this ⊢
    exact this
  · have hs : s.B.size = 1 := by rw [e]; rfl
    rw [hs]
    rw [e]
    show (escR s c).B.size ≤ 2
    unfold escR
    split
    · exact Nat.le_refl 2
    · split
      · show s.B.size ≤ 2; omega
      · show 0 ≤ 2; omega
  · have hs : s.B.size = l.length + 2 := by rw [e, bsize]; rfl
    rw [hs]
    rw [e]
    show (inSeqR s l c).B.size ≤ _
    unfold inSeqR
    split
    · show 1 ≤ _; omega
    · split
      · rw [seq_B]; show 0 ≤ _; omega
      · show (⟨(27 :: 91 :: l ++ [c]).toArray⟩ : ByteArray).size ≤ _
        rw [bsize]; simp
  · have hne : a ≠ 27 := fun q => by rw [q] at a1; exact absurd a1 (by decide)
    have := hlet a [] e
    rw [e] at this ⊢
    show (if a = 27 then _ else letR s a [] c).B.size ≤ _
    rw [if_neg hne]; exact this
  · have hne : a ≠ 27 := fun q => by rw [q] at a1; exact absurd a1 (by decide)
    have := hlet a [b] e
    rw [e] at this ⊢
    show (if a = 27 then _ else letR s a [b] c).B.size ≤ _
    rw [if_neg hne]; exact this
  · have hne : a ≠ 27 := fun q => by rw [q] at a1; exact absurd a1 (by decide)
    have := hlet a [b, d] e
    rw [e] at this ⊢
    show (if a = 27 then _ else letR s a [b, d] c).B.size ≤ _
    rw [if_neg hne]; exact this
end Go.Proofs.YtjlfibhbfdckpaaGreatDoor

/- Flush: sequences, told and taken: plain. -/
namespace Go.Proofs.YtjlfibhbfdckpaaGreatDoor
/-- A number of a sequence; none: it has no digits. -/
def tokB : Option Nat → List UInt8
  | none => []
  | some n => Lib.decDigits n
def tokV : Option Nat → Int
  | none => 0
  | some n => n
/-- A sequence. -/
def seqL (c : UInt8) (ts : List (Option Nat)) : List UInt8 := [27, 91] ++ Lib.join (ts.map tokB) [59] ++ [c]
/-- All numbers have two digits at most. -/
def Toks (ts : List (Option Nat)) : Prop := ∀ n, some n ∈ ts → n < 100
theorem feed_app (s : Rs) (a b : List UInt8) : feedR s (a ++ b) = feedR (feedR s a) b := List.foldl_append
theorem feed_one (s : Rs) (c : UInt8) : feedR s [c] = oneR s c := rfl
theorem feed_nil (s : Rs) : feedR s [] = s := rfl
theorem setB_same {s : Rs} (hB : s.B = ⟨#[]⟩) : ({ s with B := ⟨#[]⟩ } : Rs) = s := by
  cases s; simp at hB; subst hB; rfl
theorem feed_in (l : List UInt8) (h : ∀ c ∈ l, c.toNat = 59 ∨ (48 ≤ c.toNat ∧ c.toNat ≤ 57)) : ∀ (s : Rs) (acc : List UInt8), s.B = ⟨(27 :: 91 :: acc).toArray⟩ → feedR s l = { s with B := ⟨(27 :: 91 :: (acc ++ l)).toArray⟩ } := by
  induction l with
  | nil =>
    intro s acc e
    rw [List.append_nil, ← e]; rfl
  | cons c r ih =>
    intro s acc e
    have hc := h c (List.mem_cons_self ..)
    have h1 : oneR s c = { s with B := ⟨(27 :: 91 :: (acc ++ [c])).toArray⟩ } := by
      unfold oneR
      rw [e]
      show inSeqR s acc c = _
      unfold inSeqR
      rw [if_neg (by omega), if_neg (by omega)]
      rfl
    show feedR (oneR s c) r = _
    rw [h1, ih (fun d hd => h d (List.mem_cons_of_mem _ hd)) _ (acc ++ [c]) rfl]
    simp
theorem feed_seq (s : Rs) (hB : s.B = ⟨#[]⟩) (l : List UInt8) (h : ∀ c ∈ l, c.toNat = 59 ∨ (48 ≤ c.toNat ∧ c.toNat ≤ 57)) (c : UInt8) (h1 : 64 ≤ c.toNat) (h2 : c.toNat ≤ 126) :
    feedR s ([27, 91] ++ l ++ [c]) = seqR s ⟨l.toArray⟩ c.toNat := by
  rw [feed_app, feed_app]
  have a : feedR s [27, 91] = { s with B := ⟨#[27, 91]⟩ } := by
    show oneR (oneR s 27) 91 = _
    have e1 : oneR s 27 = { s with B := ⟨#[27]⟩ } := by
      unfold oneR; rw [hB]; rfl
    rw [e1]
    rfl
  rw [a, feed_in l h _ [] rfl, feed_one]
  unfold oneR
  show inSeqR _ l c = _
  unfold inSeqR
  rw [if_neg (by omega), if_pos (by omega)]
  congr 1
  exact setB_same hB
theorem dd_lo {n : Nat} (h : n < 10) : Lib.decDigits n = [UInt8.ofNat (48 + n)] := by rw [Lib.decDigits, dif_pos h]
theorem dd_hi {n : Nat} (h : ¬ n < 10) (h2 : n < 100) : Lib.decDigits n = [UInt8.ofNat (48 + n / 10), UInt8.ofNat (48 + n % 10)] := by
  rw [Lib.decDigits, dif_neg h, dd_lo (by omega)]; rfl
theorem u8n {n : Nat} (h : n < 256) : (UInt8.ofNat n).toNat = n := by simp; omega
theorem tok_dig {t : Option Nat} (h : ∀ n, t = some n → n < 100) : ∀ c ∈ tokB t, 48 ≤ c.toNat ∧ c.toNat ≤ 57 := by
  intro c hc
  cases t with
  | none => cases hc
  | some n =>
    have hn := h n rfl
    by_cases h1 : n < 10
    · simp only [tokB, dd_lo h1, List.mem_singleton] at hc
      subst hc; rw [u8n (by omega)]; omega
    · simp only [tokB, dd_hi h1 hn, List.mem_cons, List.not_mem_nil, or_false] at hc
      rcases hc with rfl | rfl
      · rw [u8n (by omega)]; omega
      · rw [u8n (by omega)]; omega
theorem tok_len {t : Option Nat} (h : ∀ n, t = some n → n < 100) : (tokB t).length ≤ 2 := by
  cases t with
  | none => simp [tokB]
  | some n =>
    have hn := h n rfl
    by_cases h1 : n < 10
    · simp [tokB, dd_lo h1]
    · simp [tokB, dd_hi h1 hn]
theorem Toks.head {t : Option Nat} {ts : List (Option Nat)} (h : Toks (t :: ts)) : ∀ n, t = some n → n < 100 := fun n e => h n (by rw [e]; exact List.mem_cons_self ..)
theorem Toks.tail {t : Option Nat} {ts : List (Option Nat)} (h : Toks (t :: ts)) : Toks ts := fun n e => h n (List.mem_cons_of_mem _ e)
theorem tail_dig {ts : List (Option Nat)} (h : Toks ts) : ∀ c ∈ Lib.joinTail [59] (ts.map tokB), c.toNat = 59 ∨ (48 ≤ c.toNat ∧ c.toNat ≤ 57) := by
  induction ts with
  | nil => intro c hc; simp [Lib.joinTail] at hc
  | cons t r ih =>
    intro c hc
    simp only [Lib.joinTail, List.map_cons, List.flatten_cons, List.mem_append, List.mem_singleton] at hc
    rcases hc with (rfl | hc) | hc
    · exact .inl rfl
    · exact .inr (tok_dig h.head c hc)
    · exact ih h.tail c hc
theorem join_dig {ts : List (Option Nat)} (h : Toks ts) : ∀ c ∈ Lib.join (ts.map tokB) [59], c.toNat = 59 ∨ (48 ≤ c.toNat ∧ c.toNat ≤ 57) := by
  cases ts with
  | nil => intro c hc; simp [Lib.join_nil] at hc
  | cons t r =>
    intro c hc
    rw [List.map_cons, Lib.join_cons, List.mem_append] at hc
    rcases hc with hc | hc
    · exact .inr (tok_dig h.head c hc)
    · exact tail_dig h.tail c hc
theorem begun_ne {l : List Int} (h : l ≠ []) : begunL l = l := by unfold begunL; rw [if_neg h]
theorem snoc_ne (l : List Int) (v : Int) : l ++ [v] ≠ [] := by simp
theorem setLast_snoc (l : List Int) (a v : Int) : setLast (l ++ [a]) v = l ++ [v] := by
  unfold setLast; simp
theorem lastOf_snoc (l : List Int) (a : Int) : lastOf (l ++ [a]) = a := by
  unfold lastOf; simp
theorem num_dig {l pre : List Int} {a : Int} (h : begunL l = pre ++ [a]) (c : UInt8) (h1 : 48 ≤ c.toNat) (h2 : c.toNat ≤ 57) (ha : 0 ≤ a) (hb : a < 100) : numStep l c.toNat = some (pre ++ [10 * a + ((c.toNat : Int) - 48)]) := by
  unfold numStep
  rw [if_neg (by omega), if_pos (by omega), h, setLast_snoc, lastOf_snoc]
  unfold capN
  rw [if_neg (by omega)]
theorem nums_tok {t : Option Nat} (h : ∀ n, t = some n → n < 100) {l pre : List Int} (hl : begunL l = pre ++ [0]) : ∃ l', numsTo (tokB t) l = some l' ∧ begunL l' = pre ++ [tokV t] := by
  cases t with
  | none => exact ⟨l, rfl, hl⟩
  | some n =>
    have hn := h n rfl
    by_cases h1 : n < 10
    · refine ⟨pre ++ [(n : Int)], ?_, begun_ne (snoc_ne _ _)⟩
      simp only [tokB, dd_lo h1, numsTo]
      rw [num_dig hl _ (by rw [u8n (by omega)]; omega) (by rw [u8n (by omega)]; omega) (by omega) (by omega), u8n (by omega)]
      simp only [Option.some.injEq]
      congr 2; omega
    · refine ⟨pre ++ [(n : Int)], ?_, begun_ne (snoc_ne _ _)⟩
      simp only [tokB, dd_hi h1 hn, numsTo]
      rw [num_dig hl _ (by rw [u8n (by omega)]; omega) (by rw [u8n (by omega)]; omega) (by omega) (by omega), u8n (by omega)]
      simp only
      rw [num_dig (begun_ne (snoc_ne _ _)) _ (by rw [u8n (by omega)]; omega) (by rw [u8n (by omega)]; omega) (by omega) (by omega), u8n (by omega)]
      simp only [Option.some.injEq]
      congr 2; omega
theorem nums_tail {ts : List (Option Nat)} (h : Toks ts) : ∀ {l vs : List Int}, begunL l = vs → ∃ l', numsTo (Lib.joinTail [59] (ts.map tokB)) l = some l' ∧ begunL l' = vs ++ ts.map tokV := by
  induction ts with
  | nil => intro l vs e; exact ⟨l, rfl, by simpa using e⟩
  | cons t r ih =>
    intro l vs e
    have hs : numStep l ((59 : UInt8).toNat : Int) = some (vs ++ [0]) := by
      unfold numStep; rw [if_pos (by decide), e]
    obtain ⟨l1, e1, b1⟩ := nums_tok h.head (l := vs ++ [0]) (pre := vs) (begun_ne (snoc_ne _ _))
    obtain ⟨l2, e2, b2⟩ := ih h.tail b1
    refine ⟨l2, ?_, by rw [b2]; simp⟩
    have ej : Lib.joinTail [59] ((t :: r).map tokB) = 59 :: (tokB t ++ Lib.joinTail [59] (r.map tokB)) := by simp [Lib.joinTail]
    rw [ej]
    simp only [numsTo]
    rw [hs]
    simp only
    rw [numsTo_append, e1]
    exact e2
theorem begun_nil : begunL [] = [0] := rfl
theorem nums_join {t : Option Nat} {ts : List (Option Nat)} (h : Toks (t :: ts)) : ∃ l, nums ⟨(Lib.join ((t :: ts).map tokB) [59]).toArray⟩ = some l ∧ begunL l = (t :: ts).map tokV := by
  obtain ⟨l1, e1, b1⟩ := nums_tok h.head (l := []) (pre := []) rfl
  obtain ⟨l2, e2, b2⟩ := nums_tail h.tail b1
  refine ⟨l2, ?_, by rw [b2]; rfl⟩
  show numsTo (Lib.join ((t :: ts).map tokB) [59]) [] = some l2
  rw [List.map_cons, Lib.join_cons, numsTo_append, e1]
  exact e2
theorem begun_len_le (l : List Int) : l.length ≤ (begunL l).length := by
  unfold begunL; split
  · rename_i e; rw [e]; simp
  · exact Nat.le_refl _
theorem fbegun_getD (l : List Int) (i : Nat) : (begunL l).getD i 0 = l.getD i 0 := by
  unfold begunL; split
  · rename_i e; rw [e]; cases i <;> simp
  · rfl
/-- A sequence is done. -/
theorem feed_seqL {s : Rs} (hB : s.B = ⟨#[]⟩) (c : UInt8) (h1 : 64 ≤ c.toNat) (h2 : c.toNat ≤ 126) {t : Option Nat} {ts : List (Option Nat)} (h : Toks (t :: ts)) (hl : (t :: ts).length ≤ 8) :
    ∃ l, feedR s (seqL c (t :: ts)) = doneR s l c.toNat ∧ begunL l = (t :: ts).map tokV := by
  obtain ⟨l, e, b⟩ := nums_join h
  refine ⟨l, ?_, b⟩
  unfold seqL
  rw [feed_seq s hB _ (join_dig h) c h1 h2]
  unfold seqR
  rw [e]
  simp only
  rw [if_pos]
  have := begun_len_le l
  rw [b] at this
  simp at this hl
  omega
theorem feed_seqN {s : Rs} (hB : s.B = ⟨#[]⟩) (c : UInt8) (h1 : 64 ≤ c.toNat) (h2 : c.toNat ≤ 126) : feedR s (seqL c []) = doneR s [] c.toNat := by
  unfold seqL
  rw [feed_seq s hB _ (by intro c hc; simp [Lib.join_nil] at hc) c h1 h2]
  rfl
theorem seq_len (c : UInt8) (t : Option Nat) (ts : List (Option Nat)) (h : Toks (t :: ts)) : (seqL c (t :: ts)).length ≤ 5 + 3 * ts.length := by
  have ht := tok_len h.head
  have htl : (Lib.joinTail [59] (ts.map tokB)).length ≤ 3 * ts.length := by
    have h' := h.tail
    clear h ht
    induction ts with
    | nil => simp [Lib.joinTail]
    | cons t r ih =>
      have := tok_len h'.head
      have := ih h'.tail
      simp only [Lib.joinTail, List.map_cons, List.flatten_cons, List.length_append, List.length_cons, List.length_nil] at *
      omega
  simp only [seqL, List.map_cons, Lib.join_cons, List.length_append, List.length_cons, List.length_nil]
  omega
theorem seq_len0 (c : UInt8) : (seqL c []).length = 3 := rfl
end Go.Proofs.YtjlfibhbfdckpaaGreatDoor
