/- Texts of the proof, one behind the other: FpA, FpB, FpC. -/
import Derived.Test.YtjlfibhbfdckpaaGreatDoorK02
import Derived.Lib.Join
import Derived.Lib.ItoaNum
/- Flush: sequences, told and taken: plain. -/
namespace Go.Proofs.YtjlfibhbfdckpaaGreatDoor
/-- A number of a sequence; none: it has no digits. -/
def tokB : Option Nat → List UInt8
  | none => []
  | some n => Lib.decDigits n
def tokV : Option Nat → Int
  | none => 0
  | some n => n
/-- A sequence. -/
def seqL (c : UInt8) (ts : List (Option Nat)) : List UInt8 := [27, 91] ++ Lib.join (ts.map tokB) [59] ++ [c]
/-- All numbers have two digits at most. -/
def Toks (ts : List (Option Nat)) : Prop := ∀ n, some n ∈ ts → n < 100
theorem feed_app (s : Rs) (a b : List UInt8) : feedR s (a ++ b) = feedR (feedR s a) b := List.foldl_append
theorem feed_one (s : Rs) (c : UInt8) : feedR s [c] = oneR s c := rfl
theorem feed_nil (s : Rs) : feedR s [] = s := rfl
theorem setB_same {s : Rs} (hB : s.B = ⟨#[]⟩) : ({ s with B := ⟨#[]⟩ } : Rs) = s := by
  cases s; simp at hB; subst hB; rfl
theorem feed_in (l : List UInt8) (h : ∀ c ∈ l, c.toNat = 59 ∨ (48 ≤ c.toNat ∧ c.toNat ≤ 57)) : ∀ (s : Rs) (acc : List UInt8), s.B = ⟨(27 :: 91 :: acc).toArray⟩ → feedR s l = { s with B := ⟨(27 :: 91 :: (acc ++ l)).toArray⟩ } := by
  induction l with
  | nil =>
    intro s acc e
    rw [List.append_nil, ← e]; rfl
  | cons c r ih =>
    intro s acc e
    have hc := h c (List.mem_cons_self ..)
    have h1 : oneR s c = { s with B := ⟨(27 :: 91 :: (acc ++ [c])).toArray⟩ } := by
      unfold oneR
      rw [e]
      show inSeqR s acc c = _
      unfold inSeqR
      rw [if_neg (by omega), if_neg (by omega)]
      rfl
    show feedR (oneR s c) r = _
    rw [h1, ih (fun d hd => h d (List.mem_cons_of_mem _ hd)) _ (acc ++ [c]) rfl]
    simp
theorem feed_seq (s : Rs) (hB : s.B = ⟨#[]⟩) (l : List UInt8) (h : ∀ c ∈ l, c.toNat = 59 ∨ (48 ≤ c.toNat ∧ c.toNat ≤ 57)) (c : UInt8) (h1 : 64 ≤ c.toNat) (h2 : c.toNat ≤ 126) :
    feedR s ([27, 91] ++ l ++ [c]) = seqR s ⟨l.toArray⟩ c.toNat := by
  rw [feed_app, feed_app]
  have a : feedR s [27, 91] = { s with B := ⟨#[27, 91]⟩ } := by
    show oneR (oneR s 27) 91 = _
    have e1 : oneR s 27 = { s with B := ⟨#[27]⟩ } := by
      unfold oneR; rw [hB]; rfl
    rw [e1]
    rfl
  rw [a, feed_in l h _ [] rfl, feed_one]
  unfold oneR
  show inSeqR _ l c = _
  unfold inSeqR
  rw [if_neg (by omega), if_pos (by omega)]
  congr 1
  exact setB_same hB
theorem dd_lo {n : Nat} (h : n < 10) : Lib.decDigits n = [UInt8.ofNat (48 + n)] := by rw [Lib.decDigits, dif_pos h]
theorem dd_hi {n : Nat} (h : ¬ n < 10) (h2 : n < 100) : Lib.decDigits n = [UInt8.ofNat (48 + n / 10), UInt8.ofNat (48 + n % 10)] := by
  rw [Lib.decDigits, dif_neg h, dd_lo (by omega)]; rfl
theorem u8n {n : Nat} (h : n < 256) : (UInt8.ofNat n).toNat = n := by simp; omega
theorem tok_dig {t : Option Nat} (h : ∀ n, t = some n → n < 100) : ∀ c ∈ tokB t, 48 ≤ c.toNat ∧ c.toNat ≤ 57 := by
  intro c hc
  cases t with
  | none => cases hc
  | some n =>
    have hn := h n rfl
    by_cases h1 : n < 10
    · simp only [tokB, dd_lo h1, List.mem_singleton] at hc
      subst hc; rw [u8n (by omega)]; omega
    · simp only [tokB, dd_hi h1 hn, List.mem_cons, List.not_mem_nil, or_false] at hc
      rcases hc with rfl | rfl
      · rw [u8n (by omega)]; omega
      · rw [u8n (by omega)]; omega
theorem tok_len {t : Option Nat} (h : ∀ n, t = some n → n < 100) : (tokB t).length ≤ 2 := by
  cases t with
  | none => simp [tokB]
  | some n =>
    have hn := h n rfl
    by_cases h1 : n < 10
    · simp [tokB, dd_lo h1]
    · simp [tokB, dd_hi h1 hn]
theorem Toks.head {t : Option Nat} {ts : List (Option Nat)} (h : Toks (t :: ts)) : ∀ n, t = some n → n < 100 := fun n e => h n (by rw [e]; exact List.mem_cons_self ..)
theorem Toks.tail {t : Option Nat} {ts : List (Option Nat)} (h : Toks (t :: ts)) : Toks ts := fun n e => h n (List.mem_cons_of_mem _ e)
theorem tail_dig {ts : List (Option Nat)} (h : Toks ts) : ∀ c ∈ Lib.joinTail [59] (ts.map tokB), c.toNat = 59 ∨ (48 ≤ c.toNat ∧ c.toNat ≤ 57) := by
  induction ts with
  | nil => intro c hc; simp [Lib.joinTail] at hc
  | cons t r ih =>
    intro c hc
    simp only [Lib.joinTail, List.map_cons, List.flatten_cons, List.mem_append, List.mem_singleton] at hc
    rcases hc with (rfl | hc) | hc
    · exact .inl rfl
    · exact .inr (tok_dig h.head c hc)
    · exact ih h.tail c hc
theorem join_dig {ts : List (Option Nat)} (h : Toks ts) : ∀ c ∈ Lib.join (ts.map tokB) [59], c.toNat = 59 ∨ (48 ≤ c.toNat ∧ c.toNat ≤ 57) := by
  cases ts with
  | nil => intro c hc; simp [Lib.join_nil] at hc
  | cons t r =>
    intro c hc
    rw [List.map_cons, Lib.join_cons, List.mem_append] at hc
    rcases hc with hc | hc
    · exact .inr (tok_dig h.head c hc)
    · exact tail_dig h.tail c hc
theorem begun_ne {l : List Int} (h : l ≠ []) : begunL l = l := by unfold begunL; rw [if_neg h]
theorem snoc_ne (l : List Int) (v : Int) : l ++ [v] ≠ [] := by simp
theorem setLast_snoc (l : List Int) (a v : Int) : setLast (l ++ [a]) v = l ++ [v] := by
  unfold setLast; simp
theorem lastOf_snoc (l : List Int) (a : Int) : lastOf (l ++ [a]) = a := by
  unfold lastOf; simp
theorem num_dig {l pre : List Int} {a : Int} (h : begunL l = pre ++ [a]) (c : UInt8) (h1 : 48 ≤ c.toNat) (h2 : c.toNat ≤ 57) (ha : 0 ≤ a) (hb : a < 100) : numStep l c.toNat = some (pre ++ [10 * a + ((c.toNat : Int) - 48)]) := by
  unfold numStep
  rw [if_neg (by omega), if_pos (by omega), h, setLast_snoc, lastOf_snoc]
  unfold capN
  rw [if_neg (by omega)]
theorem nums_tok {t : Option Nat} (h : ∀ n, t = some n → n < 100) {l pre : List Int} (hl : begunL l = pre ++ [0]) : ∃ l', numsTo (tokB t) l = some l' ∧ begunL l' = pre ++ [tokV t] := by
  cases t with
  | none => exact ⟨l, rfl, hl⟩
  | some n =>
    have hn := h n rfl
    by_cases h1 : n < 10
    · refine ⟨pre ++ [(n : Int)], ?_, begun_ne (snoc_ne _ _)⟩
      simp only [tokB, dd_lo h1, numsTo]
      rw [num_dig hl _ (by rw [u8n (by omega)]; omega) (by rw [u8n (by omega)]; omega) (by omega) (by omega), u8n (by omega)]
      simp only [Option.some.injEq]
      congr 2; omega
    · refine ⟨pre ++ [(n : Int)], ?_, begun_ne (snoc_ne _ _)⟩
      simp only [tokB, dd_hi h1 hn, numsTo]
      rw [num_dig hl _ (by rw [u8n (by omega)]; omega) (by rw [u8n (by omega)]; omega) (by omega) (by omega), u8n (by omega)]
      simp only
      rw [num_dig (begun_ne (snoc_ne _ _)) _ (by rw [u8n (by omega)]; omega) (by rw [u8n (by omega)]; omega) (by omega) (by omega), u8n (by omega)]
      simp only [Option.some.injEq]
      congr 2; omega
theorem nums_tail {ts : List (Option Nat)} (h : Toks ts) : ∀ {l vs : List Int}, begunL l = vs → ∃ l', numsTo (Lib.joinTail [59] (ts.map tokB)) l = some l' ∧ begunL l' = vs ++ ts.map tokV := by
  induction ts with
  | nil => intro l vs e; exact ⟨l, rfl, by simpa using e⟩
  | cons t r ih =>
    intro l vs e
    have hs : numStep l ((59 : UInt8).toNat : Int) = some (vs ++ [0]) := by
      unfold numStep; rw [if_pos (by decide), e]
    obtain ⟨l1, e1, b1⟩ := nums_tok h.head (l := vs ++ [0]) (pre := vs) (begun_ne (snoc_ne _ _))
    obtain ⟨l2, e2, b2⟩ := ih h.tail b1
    refine ⟨l2, ?_, by rw [b2]; simp⟩
    have ej : Lib.joinTail [59] ((t :: r).map tokB) = 59 :: (tokB t ++ Lib.joinTail [59] (r.map tokB)) := by simp [Lib.joinTail]
    rw [ej]
    simp only [numsTo]
    rw [hs]
    simp only
    rw [numsTo_append, e1]
    exact e2
theorem nums_join {t : Option Nat} {ts : List (Option Nat)} (h : Toks (t :: ts)) : ∃ l, nums ⟨(Lib.join ((t :: ts).map tokB) [59]).toArray⟩ = some l ∧ begunL l = (t :: ts).map tokV := by
  obtain ⟨l1, e1, b1⟩ := nums_tok h.head (l := []) (pre := []) rfl
  obtain ⟨l2, e2, b2⟩ := nums_tail h.tail b1
  refine ⟨l2, ?_, by rw [b2]; rfl⟩
  show numsTo (Lib.join ((t :: ts).map tokB) [59]) [] = some l2
  rw [List.map_cons, Lib.join_cons, numsTo_append, e1]
  exact e2
theorem begun_len_le (l : List Int) : l.length ≤ (begunL l).length := by
  unfold begunL; split
  · rename_i e; rw [e]; simp
  · exact Nat.le_refl _
theorem fbegun_getD (l : List Int) (i : Nat) : (begunL l).getD i 0 = l.getD i 0 := by
  unfold begunL; split
  · rename_i e; rw [e]; cases i <;> simp
  · rfl
/-- A sequence is done. -/
theorem feed_seqL {s : Rs} (hB : s.B = ⟨#[]⟩) (c : UInt8) (h1 : 64 ≤ c.toNat) (h2 : c.toNat ≤ 126) {t : Option Nat} {ts : List (Option Nat)} (h : Toks (t :: ts)) (hl : (t :: ts).length ≤ 8) :
    ∃ l, feedR s (seqL c (t :: ts)) = doneR s l c.toNat ∧ begunL l = (t :: ts).map tokV := by
  obtain ⟨l, e, b⟩ := nums_join h
  refine ⟨l, ?_, b⟩
  unfold seqL
  rw [feed_seq s hB _ (join_dig h) c h1 h2]
  unfold seqR
  rw [e]
  simp only
  rw [if_pos]
  have := begun_len_le l
  rw [b] at this
  simp at this hl
  omega
theorem feed_seqN {s : Rs} (hB : s.B = ⟨#[]⟩) (c : UInt8) (h1 : 64 ≤ c.toNat) (h2 : c.toNat ≤ 126) : feedR s (seqL c []) = doneR s [] c.toNat := by
  unfold seqL
  rw [feed_seq s hB _ (by intro c hc; simp [Lib.join_nil] at hc) c h1 h2]
  rfl
theorem seq_len (c : UInt8) (t : Option Nat) (ts : List (Option Nat)) (h : Toks (t :: ts)) : (seqL c (t :: ts)).length ≤ 5 + 3 * ts.length := by
  have ht := tok_len h.head
  have htl : (Lib.joinTail [59] (ts.map tokB)).length ≤ 3 * ts.length := by
    have h' := h.tail
    clear h ht
    induction ts with
    | nil => simp [Lib.joinTail]
    | cons t r ih =>
      have := tok_len h'.head
      have := ih h'.tail
      simp only [Lib.joinTail, List.map_cons, List.flatten_cons, List.length_append, List.length_cons, List.length_nil] at *
      omega
  simp only [seqL, List.map_cons, Lib.join_cons, List.length_append, List.length_cons, List.length_nil]
  omega
theorem seq_len0 (c : UInt8) : (seqL c []).length = 3 := rfl
end Go.Proofs.YtjlfibhbfdckpaaGreatDoor

/- Flush: pens, places, letters, told and taken: plain. -/
namespace Go.Proofs.YtjlfibhbfdckpaaGreatDoor
open Wd (wd)
def Pn.eqB (a b : Pn) : Bool := decide (a.f = b.f) && decide (a.b = b.b) && (a.bo == b.bo) && (a.un == b.un) && (a.re == b.re)
theorem Pn.eqB_iff {a b : Pn} : a.eqB b = true ↔ a = b := by
  obtain ⟨f, g, x, y, z⟩ := a
  obtain ⟨f', g', x', y', z'⟩ := b
  simp [Pn.eqB, and_assoc]
theorem Pn.eqB_not {a b : Pn} : a.eqB b = false ↔ a ≠ b := by
  rw [← Bool.not_eq_true, Pn.eqB_iff]
def Cel.eqB (a b : Cel) : Bool := decide (a.r = b.r) && decide (a.p = b.p) && a.n.eqB b.n
theorem Cel.eqB_iff {a b : Cel} : a.eqB b = true ↔ a = b := by
  obtain ⟨r, p, n⟩ := a
  obtain ⟨r', p', n'⟩ := b
  simp [Cel.eqB, and_assoc, Pn.eqB_iff]
theorem Cel.eqB_not {a b : Cel} : a.eqB b = false ↔ a ≠ b := by
  rw [← Bool.not_eq_true, Cel.eqB_iff]
/-- A number of a sequence that takes none for 1. -/
def cntT (n : Int) : Option Nat := if n = 1 then none else some n.toNat
/-- So many lines or columns onward, or back. -/
def alongL (by_ : Int) (onward back : UInt8) : List UInt8 := if by_ < 0 then seqL back [cntT (-by_)] else seqL onward [cntT by_]
def placeL (x y : Int) : List UInt8 := if x = 0 then seqL 72 [cntT (y + 1)] else seqL 72 [cntT (y + 1), cntT (x + 1)]
theorem cnt_one {n : Int} (h : 1 ≤ n) : one1 (tokV (cntT n)) = n := by
  unfold cntT
  by_cases e : n = 1
  · rw [if_pos e, e]; rfl
  · rw [if_neg e]
    show one1 (n.toNat : Int) = n
    unfold one1
    rw [if_neg (by omega)]; omega
theorem toks_cnt {n : Int} (h : n < 100) {ts : List (Option Nat)} (ht : Toks ts) : Toks (cntT n :: ts) := by
  intro m hm
  rcases List.mem_cons.1 hm with e | e
  · unfold cntT at e
    split at e
    · cases e
    · cases e; omega
  · exact ht m e
theorem toks_nil : Toks [] := fun n h => by cases h
theorem clampI_id {v : Int} {m : Nat} (h0 : 0 ≤ v) (h1 : v < m) : clampI v m = v := by
  unfold clampI; rw [if_neg (by omega), if_neg (by omega)]
/-- The cursor is elsewhere. -/
theorem goes_to {s : Rs} {x y : Int} (x0 : 0 ≤ x) (x1 : x < s.W) (y0 : 0 ≤ y) (y1 : y < s.H) : goesR s x y = { s with x := x, y := y, pend := false } := by
  unfold goesR; rw [clampI_id x0 x1, clampI_id y0 y1]
theorem getD0 {l : List Int} {a : Int} {r : List Int} (h : begunL l = a :: r) : l.getD 0 0 = a := by
  rw [← fbegun_getD, h]; rfl
theorem getD1 {l : List Int} {a b : Int} {r : List Int} (h : begunL l = a :: b :: r) : l.getD 1 0 = b := by
  rw [← fbegun_getD, h]; rfl
theorem getD1' {l : List Int} {a : Int} (h : begunL l = [a]) : l.getD 1 0 = 0 := by
  rw [← fbegun_getD, h]; rfl
theorem feed_place {s : Rs} (hB : s.B = ⟨#[]⟩) {x y : Int} (x0 : 0 ≤ x) (x1 : x < s.W) (y0 : 0 ≤ y) (y1 : y < s.H) (hW : s.W ≤ 40) (hH : s.H ≤ 20) :
    feedR s (placeL x y) = { s with x := x, y := y, pend := false } := by
  unfold placeL
  by_cases hx : x = 0
  · rw [if_pos hx]
    obtain ⟨l, e, b⟩ := feed_seqL hB 72 (by decide) (by decide) (toks_cnt (n := y + 1) (by omega) toks_nil) (by simp)
    rw [e]
    have g0 := getD0 b
    have g1 := getD1' b
    unfold doneR
    simp only [g0, g1]
    rw [cnt_one (by omega)]
    have : one1 0 = 1 := rfl
    simp [this]
    rw [hx] at *
    rw [goes_to (by omega) (by omega) (by omega) (by omega)]
  · rw [if_neg hx]
    obtain ⟨l, e, b⟩ := feed_seqL hB 72 (by decide) (by decide) (toks_cnt (n := y + 1) (by omega) (toks_cnt (n := x + 1) (by omega) toks_nil)) (by simp)
    rw [e]
    have g0 := getD0 b
    have g1 := getD1 b
    unfold doneR
    simp only [g0, g1]
    rw [cnt_one (by omega), cnt_one (by omega)]
    simp
    rw [goes_to (by omega) (by omega) (by omega) (by omega)]
theorem place_len {x y : Int} (x1 : x < 40) (y1 : y < 20) : (placeL x y).length ≤ 8 := by
  unfold placeL
  by_cases hx : x = 0
  · rw [if_pos hx]
    have := seq_len 72 _ _ (toks_cnt (n := y + 1) (by omega) toks_nil)
    simp at this; omega
  · rw [if_neg hx]
    have := seq_len 72 _ _ (toks_cnt (n := y + 1) (by omega) (toks_cnt (n := x + 1) (by omega) toks_nil))
    simp at this; omega
theorem feed_down {s : Rs} (hB : s.B = ⟨#[]⟩) {y : Int} (x0 : 0 ≤ s.x) (x1 : s.x < s.W) (sy0 : 0 ≤ s.y) (sy1 : s.y < s.H) (y0 : 0 ≤ y) (y1 : y < s.H) (hH : s.H ≤ 20) (hne : s.y ≠ y) :
    feedR s (alongL (y - s.y) 66 65) = { s with y := y, pend := false } := by
  unfold alongL
  by_cases hn : y - s.y < 0
  · rw [if_pos hn]
    obtain ⟨l, e, b⟩ := feed_seqL hB 65 (by decide) (by decide) (toks_cnt (n := -(y - s.y)) (by omega) toks_nil) (by simp)
    rw [e]
    have g0 := getD0 b
    unfold doneR
    simp only [g0]
    rw [cnt_one (by omega)]
    simp
    rw [goes_to (by omega) (by omega) (by omega) (by omega)]
    congr 1; omega
  · rw [if_neg hn]
    obtain ⟨l, e, b⟩ := feed_seqL hB 66 (by decide) (by decide) (toks_cnt (n := y - s.y) (by omega) toks_nil) (by simp)
    rw [e]
    have g0 := getD0 b
    unfold doneR
    simp only [g0]
    rw [cnt_one (by omega)]
    simp
    rw [goes_to (by omega) (by omega) (by omega) (by omega)]
    congr 1; omega
theorem feed_right {s : Rs} (hB : s.B = ⟨#[]⟩) {x : Int} (sx0 : 0 ≤ s.x) (sx1 : s.x < s.W) (sy0 : 0 ≤ s.y) (sy1 : s.y < s.H) (x0 : 0 ≤ x) (x1 : x < s.W) (hW : s.W ≤ 40) (hne : s.x ≠ x) :
    feedR s (alongL (x - s.x) 67 68) = { s with x := x, pend := false } := by
  unfold alongL
  by_cases hn : x - s.x < 0
  · rw [if_pos hn]
    obtain ⟨l, e, b⟩ := feed_seqL hB 68 (by decide) (by decide) (toks_cnt (n := -(x - s.x)) (by omega) toks_nil) (by simp)
    rw [e]
    have g0 := getD0 b
    unfold doneR
    simp only [g0]
    rw [cnt_one (by omega)]
    simp
    rw [goes_to (by omega) (by omega) (by omega) (by omega)]
    congr 1; omega
  · rw [if_neg hn]
    obtain ⟨l, e, b⟩ := feed_seqL hB 67 (by decide) (by decide) (toks_cnt (n := x - s.x) (by omega) toks_nil) (by simp)
    rw [e]
    have g0 := getD0 b
    unfold doneR
    simp only [g0]
    rw [cnt_one (by omega)]
    simp
    rw [goes_to (by omega) (by omega) (by omega) (by omega)]
    congr 1; omega
/-- Scrolling. -/
theorem feed_scroll {s : Rs} (hB : s.B = ⟨#[]⟩) {n : Int} (h0 : n ≠ 0) (h1 : -100 < n) (h2 : n < 100) :
    feedR s (alongL n 83 84) = { s with G := scrollG s.top s.bot n (backR s) s.G } := by
  unfold alongL
  by_cases hn : n < 0
  · rw [if_pos hn]
    obtain ⟨l, e, b⟩ := feed_seqL hB 84 (by decide) (by decide) (toks_cnt (n := -n) (by omega) toks_nil) (by simp)
    rw [e]
    have g0 := getD0 b
    unfold doneR
    simp only [g0]
    rw [cnt_one (by omega)]
    simp
  · rw [if_neg hn]
    obtain ⟨l, e, b⟩ := feed_seqL hB 83 (by decide) (by decide) (toks_cnt (n := n) (by omega) toks_nil) (by simp)
    rw [e]
    have g0 := getD0 b
    unfold doneR
    simp only [g0]
    rw [cnt_one (by omega)]
    simp
theorem along_len {n : Int} (h1 : -100 < n) (h2 : n < 100) (a b : UInt8) : (alongL n a b).length ≤ 5 := by
  unfold alongL
  split
  · have := seq_len b _ _ (toks_cnt (n := -n) (by omega) toks_nil)
    simpa using this
  · have := seq_len a _ _ (toks_cnt (n := n) (by omega) toks_nil)
    simpa using this
/-- The changes of a pen. -/
def flagT (was is : Bool) (on off : Nat) : List (Option Nat) := if is = true ∧ was = false then [some on] else if was = true ∧ is = false then [some off] else []
def colT (was is : Int) (first : Nat) : List (Option Nat) := if is = was then [] else if is = 0 then [some (first + 9)] else [some (first + is.toNat - 1)]
def penT (a b : Pn) : List (Option Nat) := flagT a.bo b.bo 1 22 ++ flagT a.un b.un 4 24 ++ flagT a.re b.re 7 27 ++ colT a.f b.f 30 ++ colT a.b b.b 40
def penL (a b : Pn) : List UInt8 :=
  if a.eqB b = true then [] else if (seqL 109 (none :: penT Pn.plain b)).length < (seqL 109 (penT a b)).length then seqL 109 (none :: penT Pn.plain b) else seqL 109 (penT a b)
/-- A pen may be. -/
def Pn.Ok (p : Pn) : Prop := 0 ≤ p.f ∧ p.f ≤ 8 ∧ 0 ≤ p.b ∧ p.b ≤ 8
theorem flag_toks (was is : Bool) {on off : Nat} (h1 : on < 100) (h2 : off < 100) : Toks (flagT was is on off) := by
  intro n hn
  unfold flagT at hn
  split at hn
  · simp at hn; omega
  · split at hn
    · simp at hn; omega
    · cases hn
theorem col_toks (was : Int) {is : Int} {first : Nat} (h0 : 0 ≤ is) (h1 : is ≤ 8) (h2 : first < 50) : Toks (colT was is first) := by
  intro n hn
  unfold colT at hn
  split at hn
  · cases hn
  · split at hn
    · simp at hn; omega
    · simp at hn; omega
theorem toks_app {a b : List (Option Nat)} (ha : Toks a) (hb : Toks b) : Toks (a ++ b) := fun n hn => by
  rcases List.mem_append.1 hn with e | e
  · exact ha n e
  · exact hb n e
theorem flag_len (was is : Bool) (on off : Nat) : (flagT was is on off).length ≤ 1 := by
  unfold flagT; split
  · simp
  · split <;> simp
theorem col_len (was is : Int) (first : Nat) : (colT was is first).length ≤ 1 := by
  unfold colT; split
  · simp
  · split <;> simp
theorem pen_toks (a : Pn) {b : Pn} (hb : b.Ok) : Toks (penT a b) ∧ (penT a b).length ≤ 5 := by
  obtain ⟨h1, h2, h3, h4⟩ := hb
  refine ⟨toks_app (toks_app (toks_app (toks_app (flag_toks _ _ (by omega) (by omega)) (flag_toks _ _ (by omega) (by omega))) (flag_toks _ _ (by omega) (by omega))) (col_toks _ h1 h2 (by omega))) (col_toks _ h3 h4 (by omega)), ?_⟩
  have a1 := flag_len a.bo b.bo 1 22
  have a2 := flag_len a.un b.un 4 24
  have a3 := flag_len a.re b.re 7 27
  have a4 := col_len a.f b.f 30
  have a5 := col_len a.b b.b 40
  simp only [penT, List.length_append]
  omega
theorem fold_flag (p : Pn) (was is : Bool) (on off : Nat) (st : Bool → Pn) (h1 : penN p on = st true) (h2 : penN p off = st false) (h3 : p = st was) : ((flagT was is on off).map tokV).foldl penN p = st is := by
  unfold flagT
  cases was <;> cases is <;> simp [tokV, h1, h2, ← h3]
theorem fold_front (p : Pn) {is : Int} (h0 : 0 ≤ is) (h1 : is ≤ 8) : ((colT p.f is 30).map tokV).foldl penN p = { p with f := is } := by
  unfold colT
  by_cases e : is = p.f
  · rw [if_pos e, e]; rfl
  · rw [if_neg e]
    by_cases e0 : is = 0
    · rw [if_pos e0, e0]; rfl
    · rw [if_neg e0]
      show penN p ((30 + is.toNat - 1 : Nat) : Int) = _
      have e1 : ((30 + is.toNat - 1 : Nat) : Int) = 29 + is := by omega
      rw [e1]
      unfold penN
      iterate 9 rw [if_neg (by omega)]
      rw [if_pos (by omega)]
      congr 1; omega
theorem fold_back (p : Pn) {is : Int} (h0 : 0 ≤ is) (h1 : is ≤ 8) : ((colT p.b is 40).map tokV).foldl penN p = { p with b := is } := by
  unfold colT
  by_cases e : is = p.b
  · rw [if_pos e, e]; rfl
  · rw [if_neg e]
    by_cases e0 : is = 0
    · rw [if_pos e0, e0]; rfl
    · rw [if_neg e0]
      show penN p ((40 + is.toNat - 1 : Nat) : Int) = _
      have e1 : ((40 + is.toNat - 1 : Nat) : Int) = 39 + is := by omega
      rw [e1]
      unfold penN
      iterate 10 rw [if_neg (by omega)]
      rw [if_pos (by omega)]
      congr 1; omega
theorem fold_pen (a : Pn) {b : Pn} (hb : b.Ok) : ((penT a b).map tokV).foldl penN a = b := by
  obtain ⟨h1, h2, h3, h4⟩ := hb
  simp only [penT, List.map_append, List.foldl_append]
  rw [fold_flag a a.bo b.bo 1 22 (fun v => { a with bo := v }) rfl rfl rfl]
  rw [fold_flag { a with bo := b.bo } a.un b.un 4 24 (fun v => { a with bo := b.bo, un := v }) rfl rfl rfl]
  rw [fold_flag { a with bo := b.bo, un := b.un } a.re b.re 7 27 (fun v => { a with bo := b.bo, un := b.un, re := v }) rfl rfl rfl]
  have e1 := fold_front { a with bo := b.bo, un := b.un, re := b.re } h1 h2
  simp only at e1
  rw [e1]
  have e2 := fold_back { a with bo := b.bo, un := b.un, re := b.re, f := b.f } h3 h4
  simp only at e2
  rw [e2]
theorem pen_ne {a b : Pn} (h : a ≠ b) : penT a b ≠ [] := by
  intro e
  apply h
  have h1 : ∀ {x y : Bool} {m n : Nat}, flagT x y m n = [] → x = y := by
    intro x y m n q
    unfold flagT at q
    cases x <;> cases y <;> simp at q ⊢
  have h2 : ∀ {x y : Int} {m : Nat}, colT x y m = [] → x = y := by
    intro x y m q
    unfold colT at q
    split at q
    · rename_i r; exact r.symm
    · split at q <;> cases q
  simp only [penT, List.append_eq_nil_iff] at e
  obtain ⟨⟨⟨⟨a1, a2⟩, a3⟩, a4⟩, a5⟩ := e
  obtain ⟨f, g, x, y, z⟩ := a
  obtain ⟨f', g', x', y', z'⟩ := b
  have := h1 a1; have := h1 a2; have := h1 a3; have := h2 a4; have := h2 a5
  simp_all
theorem feed_pens {s : Rs} (hB : s.B = ⟨#[]⟩) {ts : List (Option Nat)} (hne : ts ≠ []) (h : Toks ts) (hl : ts.length ≤ 8) : feedR s (seqL 109 ts) = { s with pen := (ts.map tokV).foldl penN s.pen } := by
  cases ts with
  | nil => exact absurd rfl hne
  | cons t r =>
    obtain ⟨l, e, b⟩ := feed_seqL hB 109 (by decide) (by decide) h hl
    rw [e]
    unfold doneR
    simp [pensR, b]
/-- The pen becomes another one. -/
theorem feed_pen {s : Rs} (hB : s.B = ⟨#[]⟩) {b : Pn} (hb : b.Ok) : feedR s (penL s.pen b) = { s with pen := b } := by
  unfold penL
  by_cases e : s.pen.eqB b = true
  · rw [if_pos e, ← Pn.eqB_iff.1 e]; rfl
  · rw [if_neg e]
    have hne : s.pen ≠ b := fun q => e (Pn.eqB_iff.2 q)
    obtain ⟨t1, l1⟩ := pen_toks s.pen hb
    obtain ⟨t2, l2⟩ := pen_toks Pn.plain hb
    split
    · rw [feed_pens (ts := none :: penT Pn.plain b) hB (by simp) (toks_app (a := [none]) (fun n hn => by simp at hn) t2) (by simp; omega)]
      have : ((none :: penT Pn.plain b).map tokV).foldl penN s.pen = b := fold_pen Pn.plain hb
      rw [this]
    · rw [feed_pens hB (pen_ne hne) t1 (by omega), fold_pen s.pen hb]
theorem penL_same (a : Pn) : penL a a = [] := by unfold penL; rw [if_pos (Pn.eqB_iff.2 rfl)]
theorem penL_len (a : Pn) {b : Pn} (hb : b.Ok) : (penL a b).length ≤ 20 := by
  unfold penL
  split
  · simp
  · obtain ⟨t2, l2⟩ := pen_toks Pn.plain hb
    obtain ⟨t1, l1⟩ := pen_toks a hb
    have h1 := seq_len 109 none (penT Pn.plain b) (toks_app (a := [none]) (fun n hn => by simp at hn) t2)
    split
    · omega
    · omega
theorem flag_same (x : Bool) (m n : Nat) : flagT x x m n = [] := by unfold flagT; cases x <;> simp
theorem col_same (x : Int) (m : Nat) : colT x x m = [] := by unfold colT; rw [if_pos rfl]
/-- Only the back changes. -/
theorem penL_back (a : Pn) {v : Int} (h0 : 0 ≤ v) (h1 : v ≤ 8) : (penL a { a with b := v }).length ≤ 5 := by
  have e : penT a { a with b := v } = colT a.b v 40 := by simp [penT, flag_same, col_same]
  have hl : (seqL 109 (penT a { a with b := v })).length ≤ 5 := by
    rw [e]
    have ht := col_toks a.b h0 h1 (first := 40) (by omega)
    have hc := col_len a.b v 40
    generalize colT a.b v 40 = ts at *
    match ts, hc with
    | [], _ => rw [seq_len0]; omega
    | [t], _ => have := seq_len 109 t [] ht; simpa using this
  unfold penL
  split
  · simp
  · split
    · omega
    · exact hl
end Go.Proofs.YtjlfibhbfdckpaaGreatDoor

/- Flush: letters and spots: plain. -/
namespace Go.Proofs.YtjlfibhbfdckpaaGreatDoor
open Wd (wd)
/-- A letter's bytes. -/
def encL (r : Int) : List UInt8 := (Utf8.encode r).data.toList
theorem wd_valid {r : Int} (h : wd r ≠ 0) : Wd.validB r = true ∧ 32 ≤ r ∧ Wd.inB r 127 159 = false := by
  unfold wd at h
  by_cases z : Wd.zeroB r = true
  · rw [if_pos z] at h; exact absurd rfl h
  · simp only [Wd.zeroB, Bool.or_eq_true, Bool.not_eq_true', decide_eq_true_eq, not_or, Bool.not_eq_false, Bool.not_eq_true] at z
    obtain ⟨⟨⟨⟨a, b⟩, c⟩, _⟩, _⟩ := z
    exact ⟨a, by omega, c⟩
theorem enc_of {r : Int} (h : Wd.validB r = true) : Utf8.valid r = true ∧ 0 ≤ r := by
  simp only [Wd.validB, Wd.inB, Bool.or_eq_true, Bool.and_eq_true, decide_eq_true_eq] at h
  refine ⟨?_, by omega⟩
  simp only [Utf8.valid, Bool.or_eq_true, Bool.and_eq_true, decide_eq_true_eq]
  omega
/-- The bytes of a code point. -/
def encN (c : Nat) : List UInt8 :=
  if c < 128 then [UInt8.ofNat c] else if c < 2048 then [UInt8.ofNat (192 + c / 64), UInt8.ofNat (128 + c % 64)]
  else if c < 65536 then [UInt8.ofNat (224 + c / 4096), UInt8.ofNat (128 + c / 64 % 64), UInt8.ofNat (128 + c % 64)]
  else [UInt8.ofNat (240 + c / 262144), UInt8.ofNat (128 + c / 4096 % 64), UInt8.ofNat (128 + c / 64 % 64), UInt8.ofNat (128 + c % 64)]
def encA (c : Nat) : ByteArray :=
  if c < 128 then ⟨#[UInt8.ofNat c]⟩ else if c < 2048 then ⟨#[UInt8.ofNat (192 + c / 64), UInt8.ofNat (128 + c % 64)]⟩
  else if c < 65536 then ⟨#[UInt8.ofNat (224 + c / 4096), UInt8.ofNat (128 + c / 64 % 64), UInt8.ofNat (128 + c % 64)]⟩
  else ⟨#[UInt8.ofNat (240 + c / 262144), UInt8.ofNat (128 + c / 4096 % 64), UInt8.ofNat (128 + c / 64 % 64), UInt8.ofNat (128 + c % 64)]⟩
theorem encA_list (c : Nat) : (encA c).data.toList = encN c := by
  unfold encA encN
  split
  · rfl
  · split
    · rfl
    · split <;> rfl
theorem enc_def (r : Int) : Utf8.encode r = encA (if Utf8.valid r = true then r.toNat else Utf8.runeError) := rfl
theorem encA_if {b : Bool} (hb : b = true) (x y z : Nat) (h : x = z) : (encA (if b = true then x else y)).data.toList = encN z := by
  rw [if_pos hb, encA_list, h]
theorem enc_gen {r : Int} {c : Nat} (hv : Utf8.valid r = true) (h : r.toNat = c) : encL r = encN c := by
  unfold encL
  rw [enc_def]
  exact encA_if hv _ _ _ h
theorem enc_nat {c : Nat} (hv : Utf8.valid c = true) : encL c = encN c := enc_gen hv (Int.toNat_natCast c)
theorem enc1 {c : Nat} (hv : Utf8.valid c = true) (h : c < 128) : encL c = [UInt8.ofNat c] := by
  rw [enc_nat hv]; unfold encN; rw [if_pos h]
theorem enc2 {c : Nat} (hv : Utf8.valid c = true) (h0 : ¬ c < 128) (h : c < 2048) : encL c = [UInt8.ofNat (192 + c / 64), UInt8.ofNat (128 + c % 64)] := by
  rw [enc_nat hv]; unfold encN; rw [if_neg h0, if_pos h]
theorem enc3 {c : Nat} (hv : Utf8.valid c = true) (h0 : ¬ c < 128) (h1 : ¬ c < 2048) (h : c < 65536) : encL c = [UInt8.ofNat (224 + c / 4096), UInt8.ofNat (128 + c / 64 % 64), UInt8.ofNat (128 + c % 64)] := by
  rw [enc_nat hv]; unfold encN; rw [if_neg h0, if_neg h1, if_pos h]
theorem enc4 {c : Nat} (hv : Utf8.valid c = true) (h0 : ¬ c < 128) (h1 : ¬ c < 2048) (h : ¬ c < 65536) : encL c = [UInt8.ofNat (240 + c / 262144), UInt8.ofNat (128 + c / 4096 % 64), UInt8.ofNat (128 + c / 64 % 64), UInt8.ofNat (128 + c % 64)] := by
  rw [enc_nat hv]; unfold encN; rw [if_neg h0, if_neg h1, if_neg h]
theorem ground_lead {s : Rs} (hB : s.B = ⟨#[]⟩) (a : UInt8) (h : 0 < longR a.toNat) : oneR s a = { s with B := ⟨#[a]⟩ } := by
  have ha : 194 ≤ a.toNat := by
    rcases longR_val a.toNat with q | q | q | q
    · omega
    · omega
    · omega
    · omega
  unfold oneR; rw [hB]
  show groundR s a = _
  unfold groundR
  rw [if_neg (by omega), if_neg (by omega), if_neg (by omega), if_neg (by omega), if_neg (by omega), if_pos h]
theorem let_on {s : Rs} {a : UInt8} {l : List UInt8} (hB : s.B = ⟨(a :: l).toArray⟩) (ha : a ≠ 27) (c : UInt8) : oneR s c = letR s a l c := by
  unfold oneR; rw [hB]
  show (if a = 27 then _ else letR s a l c) = _
  rw [if_neg ha]
theorem feed_letter {s : Rs} (hB : s.B = ⟨#[]⟩) {r : Int} (h : wd r ≠ 0) : feedR s (encL r) = putR s r := by
  obtain ⟨hv, h32, hc1⟩ := wd_valid h
  obtain ⟨hv', h0⟩ := enc_of hv
  simp only [Wd.inB, Bool.and_eq_false_iff, decide_eq_false_iff_not] at hc1
  simp only [Wd.validB, Wd.inB, Bool.or_eq_true, Bool.and_eq_true, decide_eq_true_eq] at hv
  obtain ⟨c, rfl⟩ := Int.eq_ofNat_of_zero_le h0
  have hE : ({ s with B := ⟨#[]⟩ } : Rs) = s := setB_same hB
  by_cases c1 : c < 128
  · rw [enc1 hv' c1, feed_one]
    unfold oneR; rw [hB]
    show groundR s _ = _
    unfold groundR
    rw [u8n (by omega), if_neg (by omega), if_neg (by omega), if_neg (by omega), if_neg (by omega), if_pos (by omega)]
  · by_cases c2 : c < 2048
    · rw [enc2 hv' c1 c2]
      have ea : (UInt8.ofNat (192 + c / 64)).toNat = 192 + c / 64 := u8n (by omega)
      have eb : (UInt8.ofNat (128 + c % 64)).toNat = 128 + c % 64 := u8n (by omega)
      generalize UInt8.ofNat (192 + c / 64) = a at *
      generalize UInt8.ofNat (128 + c % 64) = b at *
      have l2 : longR (a.toNat : Int) = 2 := by unfold longR; rw [if_pos (by omega)]
      have hne : a ≠ 27 := fun q => by rw [q] at ea; revert ea; show (27 : Nat) = _ → False; omega
      show oneR (oneR s a) b = _
      rw [ground_lead hB a (by omega), let_on (s := { s with B := ⟨#[a]⟩ }) (l := []) rfl hne b]
      unfold letR
      have g : goesOnB [a] (b.toNat : Int) = true := by
        unfold goesOnB lowR highR
        simp only [Bool.and_eq_true, decide_eq_true_eq]
        rw [if_neg (by omega), if_neg (by omega), if_neg (by omega), if_neg (by omega)]
        omega
      rw [if_neg (by rw [g]; simp), if_pos (by rw [l2]; rfl)]
      show putR { s with B := ⟨#[]⟩ } (letterR [a, b]) = _
      rw [hE]
      have el : letterR [a, b] = (c : Int) := by
        show 64 * ((a.toNat : Int) - 192) + b.toNat - 128 = (c : Int)
        omega
      rw [el]
    · by_cases c3 : c < 65536
      · rw [enc3 hv' c1 c2 c3]
        have ea : (UInt8.ofNat (224 + c / 4096)).toNat = 224 + c / 4096 := u8n (by omega)
        have eb : (UInt8.ofNat (128 + c / 64 % 64)).toNat = 128 + c / 64 % 64 := u8n (by omega)
        have ed : (UInt8.ofNat (128 + c % 64)).toNat = 128 + c % 64 := u8n (by omega)
        generalize UInt8.ofNat (224 + c / 4096) = a at *
        generalize UInt8.ofNat (128 + c / 64 % 64) = b at *
        generalize UInt8.ofNat (128 + c % 64) = d at *
        have l2 : longR (a.toNat : Int) = 3 := by unfold longR; rw [if_neg (by omega), if_pos (by omega)]
        have hne : a ≠ 27 := fun q => by rw [q] at ea; revert ea; show (27 : Nat) = _ → False; omega
        show oneR (oneR (oneR s a) b) d = _
        rw [ground_lead hB a (by omega), let_on (s := { s with B := ⟨#[a]⟩ }) (l := []) rfl hne b]
        have g : goesOnB [a] (b.toNat : Int) = true := by
          unfold goesOnB lowR highR
          simp only [Bool.and_eq_true, decide_eq_true_eq]
          constructor
          · split
            · omega
            · rw [if_neg (by omega)]; omega
          · split
            · omega
            · rw [if_neg (by omega)]; omega
        have e1 : letR { s with B := ⟨#[a]⟩ } a [] b = { s with B := ⟨#[a, b]⟩ } := by
          unfold letR
          rw [if_neg (by rw [g]; simp), if_neg (by rw [l2]; simp)]
          rfl
        rw [e1, let_on (s := { s with B := ⟨#[a, b]⟩ }) (l := [b]) rfl hne d]
        have g2 : goesOnB [a, b] (d.toNat : Int) = true := by
          show (decide (128 ≤ (d.toNat : Int)) && decide ((d.toNat : Int) ≤ 191)) = true
          simp; omega
        unfold letR
        rw [if_neg (by rw [g2]; simp), if_pos (by rw [l2]; rfl)]
        show putR { s with B := ⟨#[]⟩ } (letterR [a, b, d]) = _
        rw [hE]
        have el : letterR [a, b, d] = (c : Int) := by
          show 64 * (64 * ((a.toNat : Int) - 224) + b.toNat - 128) + d.toNat - 128 = (c : Int)
          omega
        rw [el]
      · rw [enc4 hv' c1 c2 c3]
        have ea : (UInt8.ofNat (240 + c / 262144)).toNat = 240 + c / 262144 := u8n (by omega)
        have eb : (UInt8.ofNat (128 + c / 4096 % 64)).toNat = 128 + c / 4096 % 64 := u8n (by omega)
        have ed : (UInt8.ofNat (128 + c / 64 % 64)).toNat = 128 + c / 64 % 64 := u8n (by omega)
        have ef : (UInt8.ofNat (128 + c % 64)).toNat = 128 + c % 64 := u8n (by omega)
        generalize UInt8.ofNat (240 + c / 262144) = a at *
        generalize UInt8.ofNat (128 + c / 4096 % 64) = b at *
        generalize UInt8.ofNat (128 + c / 64 % 64) = d at *
        generalize UInt8.ofNat (128 + c % 64) = f at *
        have l2 : longR (a.toNat : Int) = 4 := by unfold longR; rw [if_neg (by omega), if_neg (by omega), if_pos (by omega)]
        have hne : a ≠ 27 := fun q => by rw [q] at ea; revert ea; show (27 : Nat) = _ → False; omega
        show oneR (oneR (oneR (oneR s a) b) d) f = _
        rw [ground_lead hB a (by omega), let_on (s := { s with B := ⟨#[a]⟩ }) (l := []) rfl hne b]
        have g : goesOnB [a] (b.toNat : Int) = true := by
          unfold goesOnB lowR highR
          simp only [Bool.and_eq_true, decide_eq_true_eq]
          constructor
          · rw [if_neg (by omega)]; split
            · omega
            · omega
          · rw [if_neg (by omega)]; split
            · omega
            · omega
        have e1 : letR { s with B := ⟨#[a]⟩ } a [] b = { s with B := ⟨#[a, b]⟩ } := by
          unfold letR
          rw [if_neg (by rw [g]; simp), if_neg (by rw [l2]; simp)]
          rfl
        rw [e1, let_on (s := { s with B := ⟨#[a, b]⟩ }) (l := [b]) rfl hne d]
        have g2 : goesOnB [a, b] (d.toNat : Int) = true := by
          show (decide (128 ≤ (d.toNat : Int)) && decide ((d.toNat : Int) ≤ 191)) = true
          simp; omega
        have e2 : letR { s with B := ⟨#[a, b]⟩ } a [b] d = { s with B := ⟨#[a, b, d]⟩ } := by
          unfold letR
          rw [if_neg (by rw [g2]; simp), if_neg (by rw [l2]; simp)]
          rfl
        rw [e2, let_on (s := { s with B := ⟨#[a, b, d]⟩ }) (l := [b, d]) rfl hne f]
        have g3 : goesOnB [a, b, d] (f.toNat : Int) = true := by
          show (decide (128 ≤ (f.toNat : Int)) && decide ((f.toNat : Int) ≤ 191)) = true
          simp; omega
        unfold letR
        rw [if_neg (by rw [g3]; simp), if_pos (by rw [l2]; rfl)]
        show putR { s with B := ⟨#[]⟩ } (letterR [a, b, d, f]) = _
        rw [hE]
        have el : letterR [a, b, d, f] = (c : Int) := by
          show 64 * (64 * (64 * ((a.toNat : Int) - 240) + b.toNat - 128) + d.toNat - 128) + f.toNat - 128 = (c : Int)
          omega
        rw [el]
theorem enc_len (r : Int) : (encL r).length ≤ 4 := by
  unfold encL Utf8.encode
  simp only
  repeat' split
  all_goals simp
theorem feed_cr {s : Rs} (hB : s.B = ⟨#[]⟩) : feedR s [13] = goesR s 0 s.y := by
  rw [feed_one]; unfold oneR; rw [hB]; rfl
theorem feed_lf {s : Rs} (hB : s.B = ⟨#[]⟩) : feedR s [10] = linefeedR s := by
  rw [feed_one]; unfold oneR; rw [hB]; rfl
theorem feed_bs {s : Rs} (hB : s.B = ⟨#[]⟩) : feedR s [8] = goesR s (s.x - 1) s.y := by
  rw [feed_one]; unfold oneR; rw [hB]; rfl
/-- A letter that is there already is written once more. -/
theorem write_same1 {W H : Nat} {G : Nat → Nat → Cel} {x y : Nat} {r : Int} {n : Pn} (hg : G x y = ⟨r, 0, n⟩) (hr : wd r = 1) : writeG W H G x y r n = G := by
  unfold writeG
  rw [if_pos hr]
  unfold setG
  split
  · simp only [Int.toNat_natCast, hg]
    funext a b
    unfold upd
    by_cases e : a = x ∧ b = y
    · obtain ⟨rfl, rfl⟩ := e; simp [hg]
    · simp [e]
  · rfl
theorem write_same2 {W H : Nat} {G : Nat → Nat → Cel} {x y : Nat} {r : Int} {n : Pn} (hg : G x y = ⟨r, 1, n⟩) (hg' : G (x + 1) y = ⟨r, 2, n⟩) (hx : x + 1 < W) (hy : y < H) (hr : wd r = 2) : writeG W H G x y r n = G := by
  unfold writeG
  have i1 : inG W H x y = true := inG_iff.2 (by omega)
  have i2 : inG W H ((x : Int) + 1) y = true := inG_iff.2 (by omega)
  rw [if_neg (by omega), if_pos ⟨i1, i2⟩]
  unfold setG
  rw [if_pos i2, if_pos i1]
  have t : ((x : Int) + 1).toNat = x + 1 := by omega
  simp only [Int.toNat_natCast, t, hg]
  funext a b
  by_cases e : a = x ∧ b = y
  · obtain ⟨rfl, rfl⟩ := e
    simp [upd, hg]
  · by_cases e' : a = x + 1 ∧ b = y
    · obtain ⟨rfl, rfl⟩ := e'
      simp [upd, hg']
    · simp [upd, e, e', blk]
end Go.Proofs.YtjlfibhbfdckpaaGreatDoor
