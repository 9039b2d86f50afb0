/- Texts of the proof, one behind the other: ScP4, Nm, ScP5, PlN, ScP6, ScP7. -/
import Derived.Test.YtjlfibhbfdckpaaGreatDoorK01
import Derived.Test.YtjlfibhbfdckpaaGreatDoorK02
import Derived.Test.YtjlfibhbfdckpaaGreatDoorK07
/- The document's screen: erasing. -/
namespace Go.Proofs.YtjlfibhbfdckpaaGreatDoor
open Wd (wd)
/-- Which cells are erased. -/
def eraB (how : Int) (all : Bool) (X Y : Int) : Nat → Nat → Bool := fun a b =>
  (decide (how = 2) || (decide (how = 0) && (decide (Y < b) || (decide ((b : Int) = Y) && decide (X ≤ a)))) || (decide (how = 1) && (decide ((b : Int) < Y) || (decide ((b : Int) = Y) && decide ((a : Int) ≤ X))))) && (all || decide ((b : Int) = Y))
/-- The first m cells have been looked at. -/
def eraTo (s : Rs) (how : Int) (all : Bool) (m : Nat) : Nat → Nat → Cel := wrt s.G (fun a b => eraB how all s.x s.y a b && decide (b * s.W + a < m)) (fun _ _ => blk (backR s))
def eraR (s : Rs) (how : Int) (all : Bool) : Rs := { s with G := wrt s.G (eraB how all s.x s.y) (fun _ _ => blk (backR s)) }
theorem era_no {s : Rs} (hwf : Wf s.W s.H s.G) (how : Int) (all : Bool) {x y : Nat} (hx : x < s.W) (h : eraB how all s.x s.y x y = false) : EqOn s.W s.H (eraTo s how all (y * s.W + x)) (eraTo s how all (y * s.W + x + 1)) := by
  unfold eraTo
  refine wr_dom hwf (fun a b ha hb => ?_) (fun _ _ _ _ _ => rfl)
  by_cases e : b * s.W + a = y * s.W + x
  · obtain ⟨rfl, rfl⟩ := place_inj ha hx e
    rw [h]; rfl
  · rw [Bool.eq_iff_iff]
    simp
    intro _
    omega
theorem era_yes {s : Rs} (hwf : Wf s.W s.H s.G) (how : Int) (all : Bool) {x y : Nat} (hx : x < s.W) (h : eraB how all s.x s.y x y = true) : EqOn s.W s.H (wrt (eraTo s how all (y * s.W + x)) (pt x y) (fun _ _ => blk (backR s))) (eraTo s how all (y * s.W + x + 1)) := by
  unfold eraTo
  rw [wr_wr _ _ _ _ _ (fun _ _ _ _ => rfl)]
  refine wr_dom hwf (fun a b ha hb => ?_) (fun a b _ _ _ => by simp)
  by_cases e : a = x ∧ b = y
  · obtain ⟨rfl, rfl⟩ := e
    simp [h, pt]
  · have e' : b * s.W + a ≠ y * s.W + x := fun q => e (place_inj ha hx q)
    have hp : pt x y a b = false := by
      cases hq : pt x y a b with
      | false => rfl
      | true => exact absurd (pt_iff.1 hq) e
    rw [hp, Bool.or_false, Bool.eq_iff_iff]
    simp
    intro _
    omega
theorem era_all {s : Rs} (hwf : Wf s.W s.H s.G) (how : Int) (all : Bool) : EqOn s.W s.H (eraTo s how all (s.H * s.W)) (eraR s how all).G := by
  unfold eraTo eraR
  refine wr_dom hwf (fun a b ha hb => ?_) (fun _ _ _ _ _ => rfl)
  have := place_lt ha hb
  simp [this]
theorem era_none (s : Rs) (how : Int) (all : Bool) : eraTo s how all 0 = s.G := by
  unfold eraTo; exact wr_none _ _ _ (fun a b => by simp)
theorem era_wf {s : Rs} (hwf : Wf s.W s.H s.G) (how : Int) (all : Bool) (m : Nat) : Wf s.W s.H (eraTo s how all m) := hwf.blk _ _
theorem Rs.Ok.era {s : Rs} (h : s.Ok) (how : Int) (all : Bool) : (eraR s how all).Ok := ⟨h.w1, h.w2, h.h1, h.h2, h.x0, h.x1, h.y0, h.y1, h.t0, h.tb, h.b1, h.pd, h.wf.blk _ _⟩
end Go.Proofs.YtjlfibhbfdckpaaGreatDoor

/- The numbers of a sequence: plain mathematics, and rows of integers. -/
namespace Go.Proofs.YtjlfibhbfdckpaaGreatDoor
open Go.RowKit
/-- The last number of a list is another one. -/
def setLast (l : List Int) (v : Int) : List Int := l.set (l.length - 1) v
def lastOf (l : List Int) : Int := l.getD (l.length - 1) 0
def capN (n : Int) : Int := if 9999 < n then 9999 else n
def begunL (l : List Int) : List Int := if l = [] then [0] else l
/-- One byte of a sequence; none: it is bad. -/
def numStep (l : List Int) (c : Int) : Option (List Int) :=
  if c = 59 then some (begunL l ++ [0]) else if 48 ≤ c ∧ c ≤ 57 then some (setLast (begunL l) (capN (10 * lastOf (begunL l) + (c - 48)))) else none
def numsTo : List UInt8 → List Int → Option (List Int)
  | [], l => some l
  | c :: r, l => match numStep l c.toNat with
    | none => none
    | some k => numsTo r k
def nums (b : ByteArray) : Option (List Int) := numsTo b.data.toList []
theorem numsTo_append (a b : List UInt8) (l : List Int) : numsTo (a ++ b) l = match numsTo a l with
    | none => none
    | some k => numsTo b k := by
  induction a generalizing l with
  | nil => rfl
  | cons c r ih =>
    simp only [List.cons_append, numsTo]
    cases numStep l c.toNat with
    | none => rfl
    | some k => exact ih k
theorem numsTo_snoc (a : List UInt8) (c : UInt8) (l k : List Int) (h : numsTo a l = some k) : numsTo (a ++ [c]) l = numStep k c.toNat := by
  rw [numsTo_append, h]
  simp only [numsTo]
  cases numStep k c.toNat <;> rfl
theorem take_snoc (s : ByteArray) (k : Nat) (h : k < s.size) : s.data.toList.take (k + 1) = s.data.toList.take k ++ [s[k]] := by
  rw [List.take_succ_eq_append_getElem (by simpa using h)]; rfl
theorem nums_bad (b : ByteArray) (k : Nat) (hk : k < b.size) (l : List Int) (h : numsTo (b.data.toList.take k) [] = some l) (hb : numStep l b[k].toNat = none) : nums b = none := by
  unfold nums
  rw [← List.take_append_drop (k + 1) b.data.toList, take_snoc b k hk, numsTo_append, numsTo_snoc _ _ _ _ h, hb]
/-- Numbers stay small. -/
def Small (l : List Int) : Prop := ∀ i, 0 ≤ l.getD i 0 ∧ l.getD i 0 ≤ 9999
theorem small_nil : Small [] := fun i => by simp
theorem small_begun {l : List Int} (h : Small l) : Small (begunL l) := by
  unfold begunL
  split
  · intro i; cases i <;> simp
  · exact h
theorem small_snoc {l : List Int} (h : Small l) : Small (l ++ [0]) := by
  intro i
  have := h i
  simp only [List.getD_eq_getElem?_getD] at *
  by_cases hi : i < l.length
  · rw [List.getElem?_append_left hi]; exact this
  · rw [List.getElem?_append_right (by omega)]
    cases i - l.length <;> simp
theorem small_set {l : List Int} (h : Small l) (j : Nat) (v : Int) (h0 : 0 ≤ v) (h1 : v ≤ 9999) : Small (l.set j v) := by
  intro i
  have := h i
  simp only [List.getD_eq_getElem?_getD, List.getElem?_set] at *
  by_cases e : j = i
  · subst e
    by_cases hj : j < l.length
    · simp [hj, h0, h1]
    · simp [hj]
  · simp [e]; exact this
theorem begun_len (l : List Int) : 1 ≤ (begunL l).length := by
  unfold begunL
  split
  · simp
  · cases l with
    | nil => simp_all
    | cons => simp
/-- Integers as values. -/
def ivals (l : List Int) : List Value := l.map (fun n => Value.int .i64 n)
theorem ivals_append (a b : List Int) : ivals (a ++ b) = ivals a ++ ivals b := by simp [ivals]
theorem irow_cell {w : World} {base g n cap : Nat} {l : List Int} {t : TypeId} (h : w.ownsRow base t 1 (.slice (some ⟨g, 0, none⟩) n cap) n (ivals l)) (i : Nat) (hi : i < l.length) : w.cell? ⟨g, i, none⟩ = some (.int .i64 (l.getD i 0)) := by
  obtain ⟨hl, h | ⟨g', cap', cur, hv, hb, hg, hn, hm, hs, ht⟩⟩ := h
  · simp at h
  · simp at hv
    obtain ⟨rfl, rfl⟩ := hv
    rw [cell_of_block hg]
    have a : (ivals l)[i]? = some (.int .i64 (l.getD i 0)) := by
      simp [ivals, hi]
    rw [← ht] at a
    have hlt : i < n * 1 := by simp [ivals] at hl; omega
    rw [List.getElem?_take_of_lt hlt] at a
    simpa using a
theorem irow_free {w : World} {base g n cap : Nat} {xs : List Value} {t : TypeId} (h : w.ownsRow base t 1 (.slice (some ⟨g, 0, none⟩) n cap) n xs) (o : Nat) : w.frozen? ⟨g, o, none⟩ = false := by
  obtain ⟨hl, h | ⟨g', cap', cur, hv, hb, hg, hn, hm, hs, ht⟩⟩ := h
  · simp at h
  · simp at hv
    obtain ⟨rfl, rfl⟩ := hv
    exact frozen_of_block hg o
theorem irow_set {w : World} {base g n cap : Nat} {l : List Int} {t : TypeId} (h : w.ownsRow base t 1 (.slice (some ⟨g, 0, none⟩) n cap) n (ivals l)) (i : Nat) (v : Int) : (w.setCell ⟨g, i, none⟩ (.int .i64 v)).ownsRow base t 1 (.slice (some ⟨g, 0, none⟩) n cap) n (ivals (l.set i v)) := by
  obtain ⟨hl, h | ⟨g', cap', cur, hv, hb, hg, hn, hm, hs, ht⟩⟩ := h
  · simp at h
  · simp at hv
    obtain ⟨rfl, rfl⟩ := hv
    refine ⟨by simp [ivals] at hl ⊢; exact hl, .inr ⟨g, cap, cur.setIfInBounds i (.int .i64 v), rfl, hb, heap_set_same hg _ _, hn, hm, by simpa using hs, ?_⟩⟩
    have e : ivals (l.set i v) = (ivals l).set i (.int .i64 v) := by simp [ivals, List.map_set]
    rw [e, ← ht]
    simp [List.take_set]
theorem irow_same {w w' : World} {base : Nat} {v : Value} {n : Nat} {xs : List Value} {t : TypeId} (h : w.ownsRow base t 1 v n xs) (hb : ∀ g, v.ownBlock = some g → w'.heap[g]? = w.heap[g]?) : w'.ownsRow base t 1 v n xs := by
  obtain ⟨hl, h | ⟨g', cap', cur, rfl, hb', hg, rest⟩⟩ := h
  · exact ⟨hl, .inl h⟩
  · exact ⟨hl, .inr ⟨g', cap', cur, rfl, hb', by rw [hb g' rfl]; exact hg, rest⟩⟩
end Go.Proofs.YtjlfibhbfdckpaaGreatDoor

/- The document's screen: sequences. -/
namespace Go.Proofs.YtjlfibhbfdckpaaGreatDoor
open Go.RowKit
def oddR (s : Rs) : Rs := { s with odd := wrap64 (s.odd + 1) }
def one1 (n : Int) : Int := if n = 0 then 1 else n
def lowR2 (H : Nat) (k : Int) : Int := if k = 0 ∨ (H : Int) < k then H else k
def marginsR (s : Rs) (n k : Int) : Rs := if n < lowR2 s.H k ∨ (s.H = 1 ∧ n = 1) then goesR { s with top := n - 1, bot := lowR2 s.H k - 1 } 0 0 else s
def pensR (s : Rs) (l : List Int) : Rs := { s with pen := l.foldl penN s.pen }
/-- A sequence that is not bad is done. -/
def doneR (s : Rs) (l : List Int) (last : Int) : Rs :=
  let first := l.getD 0 0
  let second := l.getD 1 0
  let n := one1 first
  if last = 65 then goesR s s.x (s.y - n) else if last = 66 then goesR s s.x (s.y + n) else if last = 67 then goesR s (s.x + n) s.y else if last = 68 then goesR s (s.x - n) s.y
  else if last = 72 then goesR s (one1 second - 1) (n - 1) else if last = 75 then eraR s first false else if last = 74 then eraR s first true
  else if last = 88 then { s with G := wrt s.G (rg s.x (s.x + n) s.y.toNat) (fun _ _ => blk (backR s)) }
  else if last = 83 then { s with G := scrollG s.top s.bot n (backR s) s.G } else if last = 84 then { s with G := scrollG s.top s.bot (-n) (backR s) s.G }
  else if last = 114 then marginsR s n second else if last = 109 then pensR s (begunL l) else oddR s
def seqR (s : Rs) (b : ByteArray) (last : Int) : Rs := match nums b with
  | none => oddR s
  | some l => if l.length ≤ 8 then doneR s l last else oddR s
end Go.Proofs.YtjlfibhbfdckpaaGreatDoor

/- Letters in bytes: plain mathematics. -/
namespace Go.Proofs.YtjlfibhbfdckpaaGreatDoor
/-- How many bytes a letter has that begins so. -/
def longR (c : Int) : Int := if 194 ≤ c ∧ c ≤ 223 then 2 else if 224 ≤ c ∧ c ≤ 239 then 3 else if 240 ≤ c ∧ c ≤ 244 then 4 else 0
/-- Within which bounds a letter goes on that has begun with one byte. -/
def lowR (a : Int) : Int := if a = 224 then 160 else if a = 240 then 144 else 128
def highR (a : Int) : Int := if a = 237 then 159 else if a = 244 then 143 else 191
/-- Can a letter that has come so far go on with a byte? -/
def goesOnB (b : List UInt8) (c : Int) : Bool := match b with
  | [a] => decide (lowR a.toNat ≤ c) && decide (c ≤ highR a.toNat)
  | _ => decide (128 ≤ c) && decide (c ≤ 191)
/-- The code point of a letter's bytes. -/
def letterR (b : List UInt8) : Int := match b with
  | [a, b] => 64 * ((a.toNat : Int) - 192) + b.toNat - 128
  | [a, b, c] => 64 * (64 * ((a.toNat : Int) - 224) + b.toNat - 128) + c.toNat - 128
  | [a, b, c, d] => 64 * (64 * (64 * ((a.toNat : Int) - 240) + b.toNat - 128) + c.toNat - 128) + d.toNat - 128
  | _ => 0
end Go.Proofs.YtjlfibhbfdckpaaGreatDoor

/- The document's screen: bytes. -/
namespace Go.Proofs.YtjlfibhbfdckpaaGreatDoor
/-- A byte in the ground state, while no letter is begun. -/
def groundR (s : Rs) (c : UInt8) : Rs :=
  if (c.toNat : Int) = 13 then goesR s 0 s.y else if (c.toNat : Int) = 10 then linefeedR s else if (c.toNat : Int) = 8 then goesR s (s.x - 1) s.y
  else if (c.toNat : Int) = 27 then { s with B := ⟨#[27]⟩ } else if 32 ≤ (c.toNat : Int) ∧ (c.toNat : Int) ≤ 126 then putR s c.toNat
  else if 0 < longR c.toNat then { s with B := ⟨#[c]⟩ } else oddR s
end Go.Proofs.YtjlfibhbfdckpaaGreatDoor

/- The document's screen: what holds stays so. -/
namespace Go.Proofs.YtjlfibhbfdckpaaGreatDoor
open Wd (wd)
theorem Rs.Ok.cong {s t : Rs} (h : s.Ok) (hW : t.W = s.W) (hH : t.H = s.H) (hx : t.x = s.x) (hy : t.y = s.y) (hp : t.pend = s.pend) (ht : t.top = s.top) (hb : t.bot = s.bot) (hG : t.G = s.G) : t.Ok :=
  ⟨by rw [hW]; exact h.w1, by rw [hW]; exact h.w2, by rw [hH]; exact h.h1, by rw [hH]; exact h.h2, by rw [hx]; exact h.x0, by rw [hx, hW]; exact h.x1, by rw [hy]; exact h.y0, by rw [hy, hH]; exact h.y1, by rw [ht]; exact h.t0, by rw [ht, hb]; exact h.tb, by rw [hb, hH]; exact h.b1, by rw [hp, hx, hW]; exact h.pd, by rw [hW, hH, hG]; exact h.wf⟩
theorem Rs.Ok.odd {s : Rs} (h : s.Ok) : (oddR s).Ok := h.cong rfl rfl rfl rfl rfl rfl rfl rfl
theorem Rs.Ok.setB {s : Rs} (h : s.Ok) (b : ByteArray) : Rs.Ok { s with B := b } := h.cong rfl rfl rfl rfl rfl rfl rfl rfl
theorem Rs.Ok.cells {s : Rs} (h : s.Ok) {G : Nat → Nat → Cel} (hG : Wf s.W s.H G) : Rs.Ok { s with G := G } :=
  ⟨h.w1, h.w2, h.h1, h.h2, h.x0, h.x1, h.y0, h.y1, h.t0, h.tb, h.b1, h.pd, hG⟩
theorem lf_W (s : Rs) : (linefeedR s).W = s.W := by unfold linefeedR; split <;> rfl
theorem broken_W (s : Rs) (k : Int) : (brokenR s k).W = s.W := by
  unfold brokenR; split
  · exact lf_W _
  · rfl
theorem lf_pend (s : Rs) : (linefeedR s).pend = false := by unfold linefeedR; split <;> rfl
theorem lf_x (s : Rs) : (linefeedR s).x = s.x ∨ (linefeedR s).x = clampI s.x s.W := by
  unfold linefeedR; split
  · exact .inl rfl
  · exact .inr rfl
/-- Behind the wrap a letter fits, and nothing is pending. -/
theorem broken_fits {s : Rs} (h : s.Ok) (k : Int) (hk : k = 1 ∨ (k = 2 ∧ s.W ≠ 1)) : (brokenR s k).pend = false ∧ (brokenR s k).x + k ≤ s.W := by
  have w1 := h.w1
  unfold brokenR
  cases hw : wraps s k with
  | true =>
    rw [if_pos rfl]
    refine ⟨lf_pend _, ?_⟩
    have hx : (linefeedR { s with x := 0 }).x = 0 := by
      rcases lf_x { s with x := 0 } with e | e
      · exact e
      · rw [e]; show clampI 0 s.W = 0
        unfold clampI; rw [if_neg (by omega), if_neg (by omega)]
    rw [hx]
    omega
  | false =>
    rw [if_neg (by decide)]
    simp [wraps] at hw
    refine ⟨hw.1, ?_⟩
    have := h.x1
    rcases hk with rfl | ⟨rfl, _⟩
    · omega
    · have := hw.2 rfl; omega
theorem Rs.Ok.put {s : Rs} (h : s.Ok) (r : Int) : (putR s r).Ok := by
  unfold putR
  split
  · exact h.cong rfl rfl rfl rfl rfl rfl rfl rfl
  · rename_i hr
    have hkr : (effW s.W r = 1 ∧ wd (effR s.W r) = 1) ∨ (effW s.W r = 2 ∧ wd (effR s.W r) = 2 ∧ s.W ≠ 1) := by
      unfold effW effR
      by_cases c : wd r = 2 ∧ s.W = 1
      · rw [if_pos c, if_pos c]; exact .inl ⟨rfl, wd_32⟩
      · rw [if_neg c, if_neg c]
        rcases Wd.wd_cases r with q | q | q
        · exact absurd q hr
        · exact .inl ⟨q, q⟩
        · exact .inr ⟨q, q, fun e => c ⟨q, e⟩⟩
    generalize effW s.W r = k at *
    generalize effR s.W r = r' at *
    have hb := h.broken k
    have hf := broken_fits h k (by omega)
    have hW := broken_W s k
    generalize brokenR s k = t at *
    rw [← hW] at hf
    have x0 := hb.x0
    have x1 := hb.x1
    have y0 := hb.y0
    have y1 := hb.y1
    obtain ⟨x, hx⟩ := Int.eq_ofNat_of_zero_le x0
    obtain ⟨y, hy⟩ := Int.eq_ofNat_of_zero_le y0
    have hwf : Wf t.W t.H (writeG t.W t.H t.G t.x t.y r' t.pen) := by
      rw [hx, hy]
      rcases hkr with ⟨rfl, q⟩ | ⟨rfl, q, _⟩
      · exact (hb.wf.wrWhole (P := pt x y) (v := fun _ _ => ⟨r', 0, t.pen⟩) (fun _ _ _ _ _ => ⟨rfl, q⟩)).congr (writeG_one hb.wf (by omega) (by omega) r' t.pen q).symm
      · exact (hb.wf.wide (x := x) (y := y) (by omega) r' t.pen q).congr (writeG_two hb.wf (by omega) (by omega) r' t.pen q).symm
    have hw : (writeR t r').Ok := hb.cells hwf
    unfold stepR
    split
    · exact ⟨hw.w1, hw.w2, hw.h1, hw.h2, by have := hw.w1; show (0 : Int) ≤ (t.W : Int) - 1; have : 1 ≤ t.W := this; omega, by show (t.W : Int) - 1 < t.W; omega, hw.y0, hw.y1, hw.t0, hw.tb, hw.b1, fun _ => rfl, hw.wf⟩
    · rename_i hn
      have hn' : ¬ (t.W : Int) ≤ t.x + k := hn
      exact ⟨hw.w1, hw.w2, hw.h1, hw.h2, by show (0 : Int) ≤ t.x + k; omega, by show t.x + k < (t.W : Int); omega, hw.y0, hw.y1, hw.t0, hw.tb, hw.b1, (fun q => by
        have : t.pend = true := q
        rw [hf.1] at this; cases this), hw.wf⟩
theorem Rs.Ok.margins {s : Rs} (h : s.Ok) (n k : Int) (hn : 1 ≤ n) (hk : 0 ≤ k) : (marginsR s n k).Ok := by
  unfold marginsR
  split
  · rename_i hc
    have h1 := h.h1
    have a := clampI_in 0 s.W h.w1
    have b := clampI_in 0 s.H h.h1
    have hl : lowR2 s.H k ≤ s.H ∧ 1 ≤ lowR2 s.H k := by
      unfold lowR2
      split
      · omega
      · omega
    exact ⟨h.w1, h.w2, h.h1, h.h2, a.1, a.2, b.1, b.2, by show (0 : Int) ≤ n - 1; omega, by show n - 1 ≤ lowR2 s.H k - 1; omega, by show lowR2 s.H k - 1 < s.H; omega, (fun q => by cases q), h.wf⟩
  · exact h
theorem Rs.Ok.done {s : Rs} (h : s.Ok) (l : List Int) (hs : Small l) (last : Int) : (doneR s l last).Ok := by
  have n1 : 1 ≤ one1 (l.getD 0 0) := by
    have := (hs 0).1
    unfold one1; split <;> omega
  unfold doneR
  simp only
  by_cases c1 : last = 65
  · rw [if_pos c1]; exact h.goes _ _
  rw [if_neg c1]
  by_cases c2 : last = 66
  · rw [if_pos c2]; exact h.goes _ _
  rw [if_neg c2]
  by_cases c3 : last = 67
  · rw [if_pos c3]; exact h.goes _ _
  rw [if_neg c3]
  by_cases c4 : last = 68
  · rw [if_pos c4]; exact h.goes _ _
  rw [if_neg c4]
  by_cases c5 : last = 72
  · rw [if_pos c5]; exact h.goes _ _
  rw [if_neg c5]
  by_cases c6 : last = 75
  · rw [if_pos c6]; exact h.era _ _
  rw [if_neg c6]
  by_cases c7 : last = 74
  · rw [if_pos c7]; exact h.era _ _
  rw [if_neg c7]
  by_cases c8 : last = 88
  · rw [if_pos c8]; exact h.cells (h.wf.blk _ _)
  rw [if_neg c8]
  by_cases c9 : last = 83
  · rw [if_pos c9]; exact ok_scroll h _ _
  rw [if_neg c9]
  by_cases c10 : last = 84
  · rw [if_pos c10]; exact ok_scroll h _ _
  rw [if_neg c10]
  by_cases c11 : last = 114
  · rw [if_pos c11]; exact h.margins _ _ n1 (hs 1).1
  rw [if_neg c11]
  by_cases c12 : last = 109
  · rw [if_pos c12]; exact h.cong rfl rfl rfl rfl rfl rfl rfl rfl
  rw [if_neg c12]; exact h.odd
theorem numStep_small {l k : List Int} (h : Small l) (c : Int) (e : numStep l c = some k) : Small k := by
  unfold numStep at e
  split at e
  · cases e; exact small_snoc (small_begun h)
  · split at e
    · rename_i hc
      cases e
      have := (small_begun h) ((begunL l).length - 1)
      have h1 : 0 ≤ lastOf (begunL l) := this.1
      refine small_set (small_begun h) _ _ ?_ ?_
      · unfold capN; split <;> omega
      · unfold capN; split <;> omega
    · cases e
theorem numsTo_small (b : List UInt8) (l k : List Int) (h : Small l) (e : numsTo b l = some k) : Small k := by
  induction b generalizing l with
  | nil => cases e; exact h
  | cons c r ih =>
    simp only [numsTo] at e
    cases hs : numStep l c.toNat with
    | none => rw [hs] at e; cases e
    | some m => rw [hs] at e; exact ih m (numStep_small h _ hs) e
theorem Rs.Ok.seq {s : Rs} (h : s.Ok) (b : ByteArray) (last : Int) : (seqR s b last).Ok := by
  unfold seqR
  cases hn : nums b with
  | none => exact h.odd
  | some l =>
    simp only
    split
    · exact h.done l (numsTo_small _ _ _ small_nil hn) last
    · exact h.odd
theorem Rs.Ok.ground {s : Rs} (h : s.Ok) (c : UInt8) : (groundR s c).Ok := by
  unfold groundR
  split
  · exact h.goes _ _
  · split
    · exact h.lf
    · split
      · exact h.goes _ _
      · split
        · exact h.setB _
        · split
          · exact h.put _
          · split
            · exact h.setB _
            · exact h.odd
end Go.Proofs.YtjlfibhbfdckpaaGreatDoor
