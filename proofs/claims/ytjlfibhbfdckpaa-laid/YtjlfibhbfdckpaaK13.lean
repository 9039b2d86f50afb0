/- Texts of the proof, one behind the other: LaA, Pk, LaB, Ap, LaC, LaD, LaE. -/
import Derived.Test.YtjlfibhbfdckpaaK02
import Derived.Test.YtjlfibhbfdckpaaK06
import Derived.Test.YtjlfibhbfdckpaaK12
import Derived.Deep.RegionLaw
import Derived.Deep.AppendLies
import Derived.Test.YtjlfibhbfdckpaaProg
/- Laid: three windows: plain mathematics. -/
namespace Go.Proofs.Ytjlfibhbfdckpaa
open Wd (wd)
def oneW (x y : Int) : Wn := ⟨1, 0, x, y, true, 6, 3, fun _ _ => blk Pn.plain⟩
def twoW (v z : Int) (G : Nat → Nat → Cel) : Wn := ⟨2, 1, v, z, true, 4, 2, G⟩
def laidL (x y v z : Int) (G : Nat → Nat → Cel) : List Wn := [rootW 10 5, oneW x y, twoW v z G]
theorem laid_k0 (x y v z : Int) (G : Nat → Nat → Cel) : kids (laidL x y v z G) 0 = [oneW x y] := by simp [kids, laidL, rootW, oneW, twoW]
theorem laid_k1 (x y v z : Int) (G : Nat → Nat → Cel) : kids (laidL x y v z G) 1 = [twoW v z G] := by simp [kids, laidL, rootW, oneW, twoW]
theorem laid_k2 (x y v z : Int) (G : Nat → Nat → Cel) : kids (laidL x y v z G) 2 = [] := by simp [kids, laidL, rootW, oneW, twoW]
def laidRk (n : Int) : Nat := n.toNat
theorem laid_tree (x y v z : Int) (G : Nat → Nat → Cel) : Tree (laidL x y v z G) laidRk 2 := by
  refine ⟨⟨rootW 10 5, [oneW x y, twoW v z G], rfl, rfl, rfl, ?_⟩, ?_, ?_, ?_⟩
  · intro u hu
    simp only [List.mem_cons, List.not_mem_nil, or_false] at hu
    rcases hu with rfl | rfl <;> simp [oneW, twoW]
  · simp [laidL, rootW, oneW, twoW]
  · intro u hu hp
    simp only [laidL, List.mem_cons, List.not_mem_nil, or_false] at hu
    rcases hu with rfl | rfl | rfl
    · simp [rootW] at hp
    · exact ⟨⟨rootW 10 5, by simp [laidL], rfl⟩, by show laidRk 0 < laidRk 1; decide⟩
    · exact ⟨⟨oneW x y, by simp [laidL], rfl⟩, by show laidRk 1 < laidRk 2; decide⟩
  · intro u hu
    simp only [laidL, List.mem_cons, List.not_mem_nil, or_false] at hu
    rcases hu with rfl | rfl | rfl
    · show laidRk 0 ≤ 2; decide
    · show laidRk 1 ≤ 2; decide
    · show laidRk 2 ≤ 2; decide
theorem laid_ok (x y v z : Int) (G : Nat → Nat → Cel) (hx : -1000 ≤ x ∧ x ≤ 1000 ∧ -1000 ≤ y ∧ y ≤ 1000) (hv : -1000 ≤ v ∧ v ≤ 1000 ∧ -1000 ≤ z ∧ z ≤ 1000) : DOk (laidL x y v z G) 2 := by
  refine ⟨⟨_, _, laid_tree x y v z G⟩, ?_, by simp [laidL], ?_⟩
  · intro u hu
    simp only [laidL, List.mem_cons, List.not_mem_nil, or_false] at hu
    rcases hu with rfl | rfl | rfl <;> simp [rootW, oneW, twoW]
  · intro u hu
    simp only [laidL, List.mem_cons, List.not_mem_nil, or_false] at hu
    rcases hu with rfl | rfl | rfl
    · simp [rootW]
    · exact hx
    · exact hv
/-- What is to be seen. -/
def wantC (x y v z : Int) (l : List Int) (p : Pn) (k i : Int) : Cel :=
  if (x ≤ k ∧ k < x + 6 ∧ y ≤ i ∧ i < y + 3) ∧ i = y + z + 1 ∧ 0 ≤ k - x - v ∧ k - x - v < l.length then ⟨l.getD (k - x - v).toNat 0, 0, p⟩ else blk Pn.plain
/-- What the innermost window holds. -/
def lineG (l : List Int) (p : Pn) : Nat → Nat → Cel := fun a b => if b = 1 ∧ a < l.length then ⟨l.getD a 0, 0, p⟩ else blk Pn.plain
theorem set_plain {W H : Nat} {G : Nat → Nat → Cel} (h : ∀ a b, (G a b).p = 0) (x y : Nat) (hx : x < W) (hy : y < H) (k : Cel) : setG W H G x y k = upd G x y k := by
  unfold setG
  rw [if_pos (inG_iff.2 (by omega))]
  simp only [Int.toNat_natCast, h]
  rfl
theorem write_line (p : Pn) : ∀ (l m : List Int), (∀ r ∈ l, wd r = 1) → m.length + l.length ≤ 4 → writeAll 4 2 1 p (m.length : Int) l (lineG m p) = lineG (m ++ l) p := by
  intro l
  induction l with
  | nil => intro m _ _; rw [List.append_nil]; rfl
  | cons r l ih =>
    intro m hl hm
    simp only [List.length_cons] at hm
    have hr := hl r List.mem_cons_self
    have hz : ∀ a b, (lineG m p a b).p = 0 := by intro a b; unfold lineG; split <;> rfl
    unfold writeAll
    have e : writeG 4 2 (lineG m p) (m.length : Int) 1 r p = lineG (m ++ [r]) p := by
      unfold writeG
      rw [if_pos hr]
      have := set_plain (W := 4) (H := 2) hz m.length 1 (by omega) (by omega) ⟨r, 0, p⟩
      rw [show (((1 : Nat) : Int)) = 1 from rfl] at this
      rw [this]
      funext a b
      unfold upd lineG
      by_cases e1 : a = m.length ∧ b = 1
      · obtain ⟨rfl, rfl⟩ := e1
        simp
      · rw [if_neg e1]
        by_cases e2 : b = 1 ∧ a < m.length
        · rw [if_pos e2, if_pos ⟨e2.1, by simp; omega⟩]
          simp [List.getD, List.getElem?_append_left e2.2]
        · rw [if_neg e2, if_neg]
          rintro ⟨e3, e4⟩
          simp at e4
          omega
    rw [e, hr]
    have hm1 : (m ++ [r]).length = m.length + 1 := by simp
    have := ih (m ++ [r]) (fun q hq => hl q (List.mem_cons_of_mem _ hq)) (by rw [hm1]; omega)
    rw [hm1] at this
    rw [show (m.length : Int) + 1 = ((m.length + 1 : Nat) : Int) by omega, this]
    simp
theorem lineG_nil (p : Pn) : lineG [] p = fun _ _ => blk Pn.plain := by funext a b; simp [lineG]
theorem laid_next0 (x y v z : Int) (G : Nat → Nat → Cel) (k i : Int) : nextP (laidL x y v z G) 0 k i = if inG 6 3 (k - x) (i - y) = true then some (oneW x y) else none := by
  unfold nextP
  rw [laid_k0]
  by_cases h : inG 6 3 (k - x) (i - y) = true
  · rw [if_pos h]; simp [hit, oneW, h]
  · rw [if_neg h]; simp [hit, oneW, h]
theorem laid_next1 (x y v z : Int) (G : Nat → Nat → Cel) (k i : Int) : nextP (laidL x y v z G) 1 k i = if inG 4 2 (k - v) (i - z) = true then some (twoW v z G) else none := by
  unfold nextP
  rw [laid_k1]
  by_cases h : inG 4 2 (k - v) (i - z) = true
  · rw [if_pos h]; simp [hit, twoW, h]
  · rw [if_neg h]; simp [hit, twoW, h]
theorem laid_own (x y v z : Int) (G : Nat → Nat → Cel) (k i : Int) : ownP (laidL x y v z G) 2 (rootW 10 5) k i = if inG 6 3 (k - x) (i - y) = true then (if inG 4 2 (k - x - v) (i - y - z) = true then (twoW v z G, k - x - v, i - y - z) else (oneW x y, k - x, i - y)) else (rootW 10 5, k, i) := by
  show (match nextP (laidL x y v z G) 0 k i with | none => _ | some u => _) = _
  rw [laid_next0]
  by_cases h : inG 6 3 (k - x) (i - y) = true
  · rw [if_pos h, if_pos h]
    show (match nextP (laidL x y v z G) 1 (k - x) (i - y) with | none => _ | some u => _) = _
    rw [laid_next1]
    by_cases h2 : inG 4 2 (k - x - v) (i - y - z) = true
    · rw [if_pos h2, if_pos h2]; rfl
    · rw [if_neg h2, if_neg h2]; rfl
  · rw [if_neg h, if_neg h]
theorem pic_of {L : List Wn} {K : Nat} {r o : Wn} {x y a b : Int} {c : Cel} (h : ownP L K r x y = (o, a, b)) (hc : o.G a.toNat b.toNat = c) (hp : c.p = 0) : picP L K r x y = c := by
  unfold picP
  simp only [h, hc, hp]
  simp
/-- The picture is what is to be seen. -/
theorem laid_pic (x y v z : Int) (l : List Int) (p : Pn) (hl : l.length ≤ 4) (k i : Int) : picP (laidL x y v z (lineG l p)) 2 (rootW 10 5) k i = wantC x y v z l p k i := by
  unfold wantC
  have ho := laid_own x y v z (lineG l p) k i
  by_cases h : inG 6 3 (k - x) (i - y) = true
  · obtain ⟨a1, a2, a3, a4⟩ := inG_iff.1 h
    rw [if_pos h] at ho
    by_cases h2 : inG 4 2 (k - x - v) (i - y - z) = true
    · obtain ⟨b1, b2, b3, b4⟩ := inG_iff.1 h2
      rw [if_pos h2] at ho
      by_cases h3 : (i - y - z).toNat = 1 ∧ (k - x - v).toNat < l.length
      · rw [if_pos ⟨by omega, by omega, by omega, by omega⟩]
        exact pic_of ho (by show lineG l p _ _ = _; unfold lineG; rw [if_pos h3]) rfl
      · rw [if_neg (by omega)]
        exact pic_of ho (by show lineG l p _ _ = _; unfold lineG; rw [if_neg h3]) rfl
    · rw [if_neg h2] at ho
      have h5 : ¬ (0 ≤ k - x - v ∧ k - x - v < (4 : Nat) ∧ 0 ≤ i - y - z ∧ i - y - z < (2 : Nat)) := fun hc => h2 (inG_iff.2 (by omega))
      rw [if_neg (by omega)]
      exact pic_of ho rfl rfl
  · rw [if_neg h] at ho
    have h5 : ¬ (0 ≤ k - x ∧ k - x < (6 : Nat) ∧ 0 ≤ i - y ∧ i - y < (3 : Nat)) := fun hc => h (inG_iff.2 (by omega))
    rw [if_neg (by omega)]
    exact pic_of ho rfl rfl
end Go.Proofs.Ytjlfibhbfdckpaa

/- The statements' pick. -/
namespace Go.Proofs.Ytjlfibhbfdckpaa
open Go.RowKit
attribute [local go_sem ↓] Go.wp_at_zero Go.wp_at_succ
def pickK (c : Int) (n : Nat) : Nat := ((if c < 0 then -(c + 1) else c) % n).toNat
theorem pickK_lt (c : Int) {n : Nat} (h : 0 < n) : pickK c n < n := by
  unfold pickK
  have := Int.emod_lt_of_pos (if c < 0 then -(c + 1) else c) (show (0 : Int) < n by omega)
  have := Int.emod_nonneg (if c < 0 then -(c + 1) else c) (show (n : Int) ≠ 0 by omega)
  omega
theorem pickK_pos {c : Int} {n : Nat} (h : 0 < n) (hc : ¬ c < 0) : c.tmod n = pickK c n := by
  unfold pickK
  rw [if_neg hc, Int.toNat_of_nonneg (Int.emod_nonneg _ (by omega)), Int.tmod_eq_emod_of_nonneg (by omega)]
theorem pickK_neg {c : Int} {n : Nat} (h : 0 < n) (hc : c < 0) : (-(c + 1)).tmod n = pickK c n := by
  unfold pickK
  rw [if_pos hc, Int.toNat_of_nonneg (Int.emod_nonneg _ (by omega)), Int.tmod_eq_emod_of_nonneg (by omega)]
set_option maxHeartbeats 1000000 in
theorem kPick (c : Int) (n : Nat) (w : World) (hn : 0 < n) (hn2 : (n : Int) ≤ 9223372036854775807) (c0 : -9223372036854775808 ≤ c) (c1 : c ≤ 9223372036854775807) :
    Calls Try.prog 9 #[.int .i64 c, .int .i64 n] w fun e w' => e = .returned (.int .i64 (pickK c n)) ∧ w' = w := by
  have n0 : ¬ (n : Int) = 0 := by omega
  have n0' : ((n : Int) == 0) = false := by simp; omega
  have lt := pickK_lt c hn
  by_cases hc : c < 0
  · have e := pickK_neg hn hc
    go_enter Try.func9, Try.ntmps9
    go_wp2
    go_ret
    exact ⟨rfl, rfl⟩
  · have e := pickK_pos hn hc
    go_enter Try.func9, Try.ntmps9
    go_wp2
    go_ret
    exact ⟨rfl, rfl⟩
end Go.Proofs.Ytjlfibhbfdckpaa

/- Laid: pen, opens. -/
namespace Go.Proofs.Ytjlfibhbfdckpaa
open Go.RowKit
attribute [local go_sem ↓] Go.wp_at_zero Go.wp_at_succ
def penK (p : Pn) : Pn := { p with f := pickK p.f 9, b := pickK p.b 9 }
theorem penK_ok (p : Pn) : penB (penK p) = true := by
  have h1 := pickK_lt p.f (n := 9) (by omega)
  have h2 := pickK_lt p.b (n := 9) (by omega)
  refine penB_iff.2 ⟨?_, ?_, ?_, ?_⟩
  all_goals simp only [penK]
  all_goals omega
set_option maxRecDepth 100000 in
set_option maxHeartbeats 1000000 in
theorem kPen (p : Pn) (w : World) (f0 : -9223372036854775808 ≤ p.f) (f1 : p.f ≤ 9223372036854775807) (b0 : -9223372036854775808 ≤ p.b) (b1 : p.b ≤ 9223372036854775807) :
    Calls Try.prog 10 #[p.agg] w fun e w' => e = .returned (penK p).agg ∧ Below w.heap.size w w' := by
  obtain ⟨pf, pb, bo, un, re⟩ := p
  go_enter Try.func10, Try.ntmps10
  go_wp2_with fail
  go_at_call 9
  refine (kPick pf 9 _ (by omega) (by omega) f0 f1).mono ?_
  rintro e w2 ⟨rfl, hw2⟩
  subst hw2
  go_wp2_with fail
  go_at_call 9
  refine (kPick pb 9 _ (by omega) (by omega) b0 b1).mono ?_
  rintro e w2 ⟨rfl, hw2⟩
  subst hw2
  go_wp2_with fail
  refine bodyPost_ret (v := (penK ⟨pf, pb, bo, un, re⟩).agg) (by simp [results, Try.results10, go_sem, penK]) rfl ⟨rfl, ((Below.refl _ _).alloc (Nat.le_refl _) _).alloc (by simp) _⟩
def openL : List Wn := updL [rootW 2 1] 0 (fun u => { u with G := writeAll 2 1 0 Pn.plain 0 (runesG ⟨#[97]⟩ 1 0) (rootW 2 1).G })
def openR : Wn := { rootW 2 1 with G := writeAll 2 1 0 Pn.plain 0 (runesG ⟨#[97]⟩ 1 0) (rootW 2 1).G }
theorem openL_eq : openL = [openR] := rfl
theorem open_pic : picP openL 0 openR 0 0 = ⟨97, 0, Pn.plain⟩ := by kernel_rfl
theorem open_tree : Tree openL (fun _ => 0) 0 := by
  rw [openL_eq]
  exact ⟨⟨openR, [], rfl, rfl, rfl, by simp⟩, by simp, by simp [openR, rootW], by simp⟩
theorem open_ok : DOk openL 0 := ⟨⟨_, _, open_tree⟩, by rw [openL_eq]; simp [openR, rootW], by rw [openL_eq]; simp, by rw [openL_eq]; simp [openR, rootW]⟩
/-- What lay stays: all that a desk has is new. -/
theorem Keep.new {M : Mm} {L : List Wn} {w0 w w' : World} (h : Below w0.heap.size w0 w) (k : Keep (M.own L) w w') (hM : ∀ i, M.own L i → w0.heap.size ≤ i) : Below w0.heap.size w0 w' :=
  h.trans (k.toBelow h.size (fun i hi ho => by have := hM i ho; omega))
set_option maxRecDepth 100000 in
set_option maxHeartbeats 2000000 in
theorem kOpens (w : World) (hw : 0 ≤ w.heap.size) :
    Calls Try.prog 7 #[] w fun e w' => e = .returned (.bool true) ∧ Below w.heap.size w w' := by
  go_enter Try.func7, Try.ntmps7
  go_wp2_with fail
  go_at_call 8
  refine (kNew 2 1 _ (by omega) (by omega) (by omega) (by omega) hw).mono ?_
  rintro e wa ⟨M, rfl, D1, B1, O1⟩
  have HD1 : Hid (DkAt wa M [rootW 2 1] 0 (1 * 2) (newR 2 1) newT) := D1
  have HB1 : Hid (Below w.heap.size w wa) := B1
  have HO1 : Hid (∀ i, M.own [rootW 2 1] i → w.heap.size ≤ i) := O1
  clear D1 B1 O1
  go_wp2_with fail
  go_at_call 12
  refine (kWrite (ok_root 2 1) _ HD1.out (rootW 2 1) (by simp) 0 0 (by decide) ⟨#[97]⟩ (by decide) Pn.plain (by decide)).mono ?_
  rintro e wb ⟨M2, rfl, D2, t2, K2, O2⟩
  have HD2 : Hid (DkAt wb M2 openL 0 (1 * 2) (newR 2 1) newT) := D2
  have HB2 : Hid (Below w.heap.size w wb) := Keep.new HB1.out K2 HO1.out
  rw [← t2]
  clear D2 K2 O2 t2
  go_wp2_with fail
  go_at_call 13
  refine (kCell open_tree open_ok _ HD2.out openR (by rw [openL_eq]; simp) rfl 0 0 (by decide) (by decide)).mono ?_
  rw [show picP openL 0 openR ((0 : Nat) : Int) ((0 : Nat) : Int) = ⟨97, 0, Pn.plain⟩ from open_pic]
  rintro e wc ⟨rfl, bc⟩
  replace HB2 : Hid (Below w.heap.size w wc) := HB2.out.trans (bc.mono HB2.out.size)
  clear bc
  go_wp2_with fail
  go_ret
  exact ⟨rfl, HB2.out.trans (((Below.refl _ _).alloc (Nat.le_refl _) _).mono HB2.out.size)⟩
end Go.Proofs.Ytjlfibhbfdckpaa

/- Cells are appended. -/
namespace Go.Proofs.Ytjlfibhbfdckpaa
open Go.RowKit
theorem info_zero : (Try.prog.info? 39).bind (·.zero) = some (Cel.agg ⟨0, 0, Pn.plain⟩) := by kernel_rfl
theorem info_size : (Try.prog.info? 39).map (·.size) = some 7 := by kernel_rfl
theorem info_bytes : (Try.prog.info? 39).map (·.bytes) = some 40 := by kernel_rfl
theorem info_cell : ∃ i : TypeInfo, Try.prog.info? 39 = some i ∧ i.zero = some (Cel.agg ⟨0, 0, Pn.plain⟩) ∧ i.size = 7 ∧ i.bytes = 40 := by
  have h1 := info_zero
  have h2 := info_size
  have h3 := info_bytes
  cases h : Try.prog.info? 39 with
  | none => rw [h] at h2; simp at h2
  | some i => rw [h] at h1 h2 h3; exact ⟨i, rfl, by simpa using h1, by simpa using h2, by simpa using h3⟩
abbrev celArr (c : Cel) : Array Value := #[.int .i32 c.r, .int .i64 c.p, .int .i64 c.n.f, .int .i64 c.n.b, .bool c.n.bo, .bool c.n.un, .bool c.n.re]
theorem step_append_cel {ops : Array Oper} {o : Oper} {a : Act} {K : Act → World → Prop} {Q : Exit → Act → World → Prop} {E : Prop} (w : World) (hgd : o.guard = none) (s x : Operand)
    (ho : o.op = .call { callee := .builtin .append, args := #[s, x], argTypes := #[42, 42] }) (base : Nat) (v : Value) (L : List Cel) (c : Cel) (k : Nat) (hk : L.length = k) (hs : a.eval s = v)
    (hown : w.ownsRow base 39 7 v k (flat L)) (b : Nat) (hx : a.eval x = .slice (some ⟨b, 0, none⟩) 1 1) (hb : w.heap[b]? = some (.cells (celArr c) 39)) (hL : k ≤ 1000) (hbase : base ≤ w.heap.size)
    (h : ∀ g cap w', w'.ownsRow base 39 7 (.slice (some ⟨g, 0, none⟩) (k + 1) cap) (k + 1) (flat (L ++ [c])) → w.grownBy w' v.ownBlock → (v.ownBlock = some g ∨ g = w.heap.size) → g < w'.heap.size → K (a.put o.dst (.slice (some ⟨g, 0, none⟩) (k + 1) cap)) w') :
    if Region.wanted o (yielded ops a.tmps) = true then Oper.wp Try.prog o a w K Q else E := by
  obtain ⟨ti, i1, i2, i3, i4⟩ := info_cell
  refine step_append_lies w hgd s x 42 ho base 39 ti _ 7 40 Try.underlying42 i1 i2 i3 i4 rfl (by decide) v k (flat L) hs hown ⟨b, 0, none⟩ 1 1 c.vals hx rfl (World.news_of_block hb) (one_vals c) (by decide) (by unfold maxLen; omega) (by omega) hbase w.heap.size rfl ?_
  intro g cap w' h1 h2 h3 h4
  rw [← flat_one c, ← flat_append] at h1
  exact h g cap w' h1 h2 h3 h4
theorem list_append_cel {ops : Array Oper} {rest : List Oper} {o : Oper} {a : Act} {Q : Exit → Act → World → Prop} (w : World) (hgd : o.guard = none) (s x : Operand)
    (ho : o.op = .call { callee := .builtin .append, args := #[s, x], argTypes := #[42, 42] }) (base : Nat) (v : Value) (L : List Cel) (c : Cel) (k : Nat) (hk : L.length = k) (hs : a.eval s = v)
    (hown : w.ownsRow base 39 7 v k (flat L)) (b : Nat) (hx : a.eval x = .slice (some ⟨b, 0, none⟩) 1 1) (hb : w.heap[b]? = some (.cells (celArr c) 39)) (hL : k ≤ 1000) (hbase : base ≤ w.heap.size)
    (h : ∀ g cap w', w'.ownsRow base 39 7 (.slice (some ⟨g, 0, none⟩) (k + 1) cap) (k + 1) (flat (L ++ [c])) → w.grownBy w' v.ownBlock → (v.ownBlock = some g ∨ g = w.heap.size) → g < w'.heap.size → wpList Try.prog ops Q rest (a.put o.dst (.slice (some ⟨g, 0, none⟩) (k + 1) cap)) w') :
    wpList Try.prog ops Q (o :: rest) a w := by
  obtain ⟨ti, i1, i2, i3, i4⟩ := info_cell
  refine wpList_append_lies w hgd s x 42 ho base 39 ti _ 7 40 Try.underlying42 i1 i2 i3 i4 rfl (by decide) v k (flat L) hs hown ⟨b, 0, none⟩ 1 1 c.vals hx rfl (World.news_of_block hb) (one_vals c) (by decide) (by unfold maxLen; omega) (by omega) hbase w.heap.size rfl ?_
  intro g cap w' h1 h2 h3 h4
  rw [← flat_one c, ← flat_append] at h1
  exact h g cap w' h1 h2 h3 h4
end Go.Proofs.Ytjlfibhbfdckpaa

/- Laid: all cells of a picture. -/
namespace Go.Proofs.Ytjlfibhbfdckpaa
open Go.RowKit
attribute [local go_sem ↓] Go.wp_at_zero Go.wp_at_succ
def picG (L : List Wn) (K : Nat) (r : Wn) : Nat → Nat → Cel := fun x y => picP L K r x y
set_option maxRecDepth 100000 in
set_option maxHeartbeats 2000000 in
theorem kCells {M : Mm} {L : List Wn} {last : Int} {N : Nat} {s : Rs} {t : Pt} {rk : Int → Nat} {K : Nat} (T : Tree L rk K) (ok : DOk L last) (w : World) (h : DkAt w M L last N s t) (r : Wn) (hr : r ∈ L) (hr0 : r.n = 0) (hW : r.W = 10) (hH : r.H = 5) :
    Calls Try.prog 14 #[.pointer (some ⟨M.t 0, 0, none⟩), .int .i64 10, .int .i64 5] w fun e w' => ∃ g cap, e = .returned (.slice (some ⟨g, 0, none⟩) 50 cap) ∧ w'.ownsRow w.heap.size 39 7 (.slice (some ⟨g, 0, none⟩) 50 cap) 50 (flat (cellsTo 10 (picG L K r) 50)) ∧ Below w.heap.size w w' := by
  have HD : Hid (DkAt w M L last N s t) := h
  have HT : Hid (Tree L rk K) := T
  have Hok : Hid (DOk L last) := ok
  have HW : Hid (r.W = 10 ∧ r.H = 5) := ⟨hW, hH⟩
  obtain ⟨G, hG⟩ : ∃ G, picG L K r = G := ⟨_, rfl⟩
  rw [hG]
  have HG : Hid (picG L K r = G) := hG
  clear h T ok hW hH hG
  go_enter Try.func14, Try.ntmps14
  go_wp2_with fail
  go_loopw [7, 8] (fun l i w' => ∃ (y : Nat), y ≤ 5 ∧ i = .int .i64 y ∧ w'.ownsRow w.heap.size 39 7 l (y * 10) (flat (cellsTo 10 G (y * 10))) ∧ Below w.heap.size w w') (fun _ i _ => 5 - (intOf i).toNat)
  case atStart => exact ⟨0, by omega, rfl, World.ownsRow_nil _ _ _ _, Below.refl _ _⟩
  case round =>
    obtain ⟨y, hy, rfl, hr1, hB⟩ := hrel
    have HR0 : Hid (wr.ownsRow w.heap.size 39 7 u7 (y * 10) (flat (cellsTo 10 G (y * 10)))) := hr1
    clear hr1
    by_cases hlt : y < 5
    · have hlt' : (y : Int) < 5 := by omega
      go_wp2_with fail
      go_loopw [7, 9] (fun l i w' => ∃ (x : Nat), x ≤ 10 ∧ i = .int .i64 x ∧ w'.ownsRow w.heap.size 39 7 l (y * 10 + x) (flat (cellsTo 10 G (y * 10 + x))) ∧ Below w.heap.size w w') (fun _ i _ => 10 - (intOf i).toNat)
      case atStart => exact ⟨0, by omega, rfl, HR0.out, hB⟩
      case round =>
        clear HR0 hB
        obtain ⟨x, hx, rfl, hr1, hB⟩ := hrel
        have HR : Hid (wr.ownsRow w.heap.size 39 7 u7 (y * 10 + x) (flat (cellsTo 10 G (y * 10 + x)))) := hr1
        clear hr1
        by_cases hlx : x < 10
        · go_wp2_with fail
          go_at_call 13
          refine (kCell HT.out Hok.out _ (HD.out.below hB) r hr hr0 x y (by rw [HW.out.1]; exact hlx) (by rw [HW.out.2]; exact hlt)).mono ?_
          rw [show picP L K r x y = G x y from congrFun (congrFun HG.out x) y]
          rintro e w2 ⟨rfl, hb2⟩
          have HR2 : Hid (w2.ownsRow w.heap.size 39 7 u7 (y * 10 + x) (flat (cellsTo 10 G (y * 10 + x)))) := row_same HR.out (fun i hi => hb2.block _ (HR.out.lt i hi).2)
          have B2 : Below w.heap.size w w2 := hB.trans (hb2.mono hB.size)
          have sB := B2.size
          clear hb2 hB HR
          generalize hc : G x y = c
          have Hc : Hid (G x y = c) := hc
          clear hc
          go_wp2_with ((at_builtin; refine list_append_cel _ (by rfl) (.tmp 29) (.tmp 31) (by rfl) w.heap.size u7 (cellsTo 10 G (y * 10 + x)) c (y * 10 + x) (cellsTo_length _ _ _) (by rfl) (row_same HR2.out (fun i hi => by have := (HR2.out.lt i hi).2; rw [Below.heap_alloc _ _ _ (by simp; omega), Below.heap_alloc _ _ _ (by omega)])) (w2.heap.size + 1) (by rfl) (heap_new' _ _ _ (by simp)) (by omega) (by simp; omega) ?_; intro g7 cap7 w7 hr7 hg7 ho7 hl7))
          have bA : Below w2.heap.size w2 ((w2.alloc (.cells (celArr c) 39)).alloc (.cells (celArr c) 39)) := ((Below.refl _ _).alloc (Nat.le_refl _) _).alloc (by simp) _
          have r2 : ∀ k, u7.ownBlock = some k → w.heap.size ≤ k := fun k hk => (HR2.out.lt k hk).1
          have B7 : Below w.heap.size w w7 := (B2.trans (bA.mono B2.size)).grown hg7 (by simp; omega) (fun k hk => r2 k hk)
          have e7 : flat (cellsTo 10 G (y * 10 + x) ++ [c]) = flat (cellsTo 10 G (y * 10 + (x + 1))) := by
            rw [cellsTo_succ 10 G x y hlx, Hc.out]
          rw [e7] at hr7
          have HR7 : Hid (w7.ownsRow w.heap.size 39 7 (.slice (some ⟨g7, 0, none⟩) (y * 10 + x + 1) cap7) (y * 10 + x + 1) (flat (cellsTo 10 G (y * 10 + (x + 1))))) := hr7
          clear bA r2 hg7 hr7 ho7 e7
          go_wp2_with fail
          go_roundw
          case rel => exact ⟨x + 1, by omega, by simp, HR7.out, B7⟩
          case measure => simp [intOf]; omega
        · obtain rfl : x = 10 := by omega
          have HR3 : Hid (wr.ownsRow w.heap.size 39 7 u7 ((y + 1) * 10) (flat (cellsTo 10 G ((y + 1) * 10)))) := by
            show World.ownsRow _ _ _ _ _ _ _
            rw [show (y + 1) * 10 = y * 10 + 10 by omega]; exact HR.out
          clear HR
          go_wp2_with fail
          go_roundw
          case rel => exact ⟨y + 1, by omega, by simp, HR3.out, hB⟩
          case measure => simp [intOf]; omega
    · obtain rfl : y = 5 := by omega
      obtain ⟨g, cap, rfl⟩ := row_slice HR0.out (by omega)
      go_wp2_with fail
      go_ret
      exact ⟨g, cap, rfl, HR0.out, hB⟩
end Go.Proofs.Ytjlfibhbfdckpaa

/- Laid: a desk of its own, call by call. -/
namespace Go.Proofs.Ytjlfibhbfdckpaa
open Go.RowKit
open Wd (wd)
attribute [local go_sem ↓] Go.wp_at_zero Go.wp_at_succ
/-- The desk of a statement; all of P is no part of it, and stands as in w1. -/
def Lst (w1 : World) (P : Nat → Prop) (d : Nat) (L : List Wn) (last : Int) (w : World) : Prop :=
  ∃ M N s t, M.t 0 = d ∧ DkAt w M L last N s t ∧ (∀ i, M.own L i → ¬ P i) ∧ (∀ i, P i → i < w1.heap.size) ∧ Keep (fun i => ¬ P i) w1 w
section
variable {w1 : World} {P : Nat → Prop} {d : Nat} {L : List Wn} {last : Int} {w : World}
theorem Lst.same (h : Lst w1 P d L last w) {i : Nat} (hi : P i) : w.heap[i]? = w1.heap[i]? := by
  obtain ⟨_, _, _, _, _, _, _, b, K⟩ := h; exact K.block i (b i hi) (fun n => n hi)
theorem Lst.size (h : Lst w1 P d L last w) : w1.heap.size ≤ w.heap.size := by obtain ⟨_, _, _, _, _, _, _, _, K⟩ := h; exact K.size
theorem Lst.bel {w0 : World} (h : Lst w1 P d L last w) (b : Below w0.heap.size w0 w1) (hP : ∀ i, i < w0.heap.size → P i) : Below w0.heap.size w0 w := by
  obtain ⟨_, _, _, _, _, _, _, _, K⟩ := h
  exact b.trans (K.toBelow b.size (fun i hi n => n (hP i hi)))
theorem Lst.pen (h : Lst w1 P d L last w) {b : Nat} {p : Pn} (hp : PenAt w1 b 0 p) (hb : P b) : PenAt w b 0 p := hp.same (h.same hb)
theorem Lst.below {w' : World} (h : Lst w1 P d L last w) (hb : Below w.heap.size w w') : Lst w1 P d L last w' := by
  obtain ⟨M, N, s, t, e, D, O, z, K⟩ := h
  exact ⟨M, N, s, t, e, D.below hb, O, z, K.thenBelow hb⟩
/-- More is to stand. -/
theorem Lst.more {w' : World} {P' : Nat → Prop} (h : Lst w1 P d L last w) (hb : Below w.heap.size w w') (hP : ∀ i, P' i → (P i ∨ w.heap.size ≤ i) ∧ i < w'.heap.size) : Lst w' P' d L last w' := by
  obtain ⟨M, N, s, t, e, D, O, z, K⟩ := h
  refine ⟨M, N, s, t, e, D.below hb, fun i hi hp => ?_, fun i hi => (hP i hi).2, Keep.refl _ _⟩
  rcases (hP i hp).1 with h | h
  · exact O i hi h
  · have := D.lt hi; omega
theorem Lst.step {w' : World} {M : Mm} {N : Nat} {s : Rs} {t : Pt} {L' : List Wn} {last' : Int} {r : Value} {e : Ending} (ed : M.t 0 = d) (O : ∀ i, M.own L i → ¬ P i) (z : ∀ i, P i → i < w1.heap.size) (k : Keep (fun i => ¬ P i) w1 w) (h : DPost M L L' last' N s t w r e w') : e = .returned r ∧ Lst w1 P d L' last' w' := by
  obtain ⟨M', e1, D, et, K, O'⟩ := h
  refine ⟨e1, M', N, s, t, by rw [et]; exact ed, D, fun i hi hp => ?_, z, k.trans (K.mono O) (fun _ _ h => h)⟩
  rcases O' i hi with ho | ho
  · exact O i ho hp
  · have := z i hp; have := k.size; omega
theorem lCreate (h : Lst w1 P d L last w) (ok : DOk L last) (v : Wn) (hv : v ∈ L) (x y : Int) (W H : Nat) (a1 : 1 ≤ W) (a2 : W ≤ 40) (h1 : 1 ≤ H) (h2 : H ≤ 20) (hp : placeB x y = true) (hlen : L.length < 16) (hlast : last < 4611686018427387904) :
    Calls Try.prog 11 #[.pointer (some ⟨d, 0, none⟩), .int .i64 v.n, .int .i64 x, .int .i64 y, .int .i64 W, .int .i64 H] w fun e w' => e = .returned (.tuple #[.int .i64 (last + 1), .int .i64 0]) ∧ Lst w1 P d (L ++ [⟨last + 1, v.n, x, y, true, W, H, fun _ _ => blk Pn.plain⟩]) (last + 1) w' := by
  obtain ⟨M, N, s, t, rfl, D, O, z, k⟩ := h
  exact (kCreate ok w D v hv x y W H a1 a2 h1 h2 hp hlen hlast).mono fun e w' hp' => Lst.step rfl O z k hp'
theorem lWrite (h : Lst w1 P d L last w) (ok : DOk L last) (v : Wn) (hv : v ∈ L) (x y : Int) (hpl : placeB x y = true) (tx : ByteArray) (hb : tx.size ≤ 200) (n : Pn) (hpn : penB n = true) :
    Calls Try.prog 12 #[.pointer (some ⟨d, 0, none⟩), .int .i64 v.n, .int .i64 x, .int .i64 y, .string tx, n.agg] w fun e w' => e = .returned (.int .i64 0) ∧ Lst w1 P d (updL L v.n (fun u => { u with G := writeAll v.W v.H y n x (runesG tx tx.size 0) v.G })) last w' := by
  obtain ⟨M, N, s, t, rfl, D, O, z, k⟩ := h
  exact (kWrite ok w D v hv x y hpl tx hb n hpn).mono fun e w' hp' => Lst.step rfl O z k hp'
theorem lShow (h : Lst w1 P d L last w) (ok : DOk L last) (v : Wn) (hv : v ∈ L) (hp : v.par ≠ -1) (sh : Bool) :
    Calls Try.prog 16 #[.pointer (some ⟨d, 0, none⟩), .int .i64 v.n, .bool sh] w fun e w' => e = .returned (.int .i64 0) ∧ Lst w1 P d (updL L v.n (fun u => { u with sh := sh })) last w' := by
  obtain ⟨M, N, s, t, rfl, D, O, z, k⟩ := h
  exact (kShow ok w D v hv hp sh).mono fun e w' hp' => Lst.step rfl O z k hp'
theorem lMove (h : Lst w1 P d L last w) (ok : DOk L last) (v : Wn) (hv : v ∈ L) (hp : v.par ≠ -1) (x y : Int) (hpl : placeB x y = true) :
    Calls Try.prog 17 #[.pointer (some ⟨d, 0, none⟩), .int .i64 v.n, .int .i64 x, .int .i64 y] w fun e w' => e = .returned (.int .i64 0) ∧ Lst w1 P d (updL L v.n (fun u => { u with x := x, y := y })) last w' := by
  obtain ⟨M, N, s, t, rfl, D, O, z, k⟩ := h
  exact (kMove ok w D v hv hp x y hpl).mono fun e w' hp' => Lst.step rfl O z k hp'
theorem lRaiseUp (h : Lst w1 P d L last w) (ok : DOk L last) (v o : Wn) (hv : v ∈ L) (ho : o ∈ L) (hp : v.par = o.n) (hvo : v.n ≠ o.n) :
    Calls Try.prog 15 #[.pointer (some ⟨d, 0, none⟩), .int .i64 v.n, .bool true] w fun e w' => e = .returned (.int .i64 0) ∧ Lst w1 P d (topL L v o.n) last w' := by
  obtain ⟨M, N, s, t, rfl, D, O, z, k⟩ := h
  have hn : v.par ≠ -1 := by obtain ⟨rk, K, T⟩ := ok.tree; have := T.pos ho; omega
  exact (kRaise ok w D v hv hn true _ (dRaiseUp ok w D v o hv ho hp hvo)).mono fun e w' hp' => Lst.step rfl O z k hp'
theorem lRaiseLow (h : Lst w1 P d L last w) (ok : DOk L last) (v o : Wn) (hv : v ∈ L) (ho : o ∈ L) (hp : v.par = o.n) (hvo : v.n ≠ o.n) (hk0 : kids (filtN L v.n) o.n = []) :
    Calls Try.prog 15 #[.pointer (some ⟨d, 0, none⟩), .int .i64 v.n, .bool false] w fun e w' => e = .returned (.int .i64 0) ∧ Lst w1 P d (botL L v) last w' := by
  obtain ⟨M, N, s, t, rfl, D, O, z, k⟩ := h
  have hn : v.par ≠ -1 := by obtain ⟨rk, K, T⟩ := ok.tree; have := T.pos ho; omega
  exact (kRaise ok w D v hv hn false _ (dRaiseLow0 ok w D v o hv ho hp hvo hk0)).mono fun e w' hp' => Lst.step rfl O z k hp'
theorem lGive (h : Lst w1 P d L last w) (ok : DOk L last) (v o q' : Wn) (hv : v ∈ L) (ho : o ∈ L) (hq : q' ∈ L) (hp : v.par = o.n) (hvo : v.n ≠ o.n) (hns : ¬ Sub L v.n q'.n) :
    Calls Try.prog 18 #[.pointer (some ⟨d, 0, none⟩), .int .i64 v.n, .int .i64 q'.n] w fun e w' => e = .returned (.int .i64 0) ∧ Lst w1 P d (topL L v q'.n) last w' := by
  obtain ⟨M, N, s, t, rfl, D, O, z, k⟩ := h
  obtain ⟨rk, K, T⟩ := ok.tree
  exact (kGive T ok w D v o q' hv ho hq hp hvo hns).mono fun e w' hp' => Lst.step rfl O z k hp'
theorem lCell {rk : Int → Nat} {K : Nat} (h : Lst w1 P d L last w) (T : Tree L rk K) (ok : DOk L last) (r : Wn) (hr : r ∈ L) (hr0 : r.n = 0) (x y : Nat) (hx : x < r.W) (hy : y < r.H) :
    Calls Try.prog 13 #[.pointer (some ⟨d, 0, none⟩), .int .i64 x, .int .i64 y] w fun e w' => e = .returned (.tuple #[(picP L K r x y).agg, .int .i64 0]) ∧ Below w.heap.size w w' := by
  obtain ⟨M, N, s, t, rfl, D, O, z, k⟩ := h
  exact kCell T ok w D r hr hr0 x y hx hy
theorem lCells {rk : Int → Nat} {K : Nat} (h : Lst w1 P d L last w) (T : Tree L rk K) (ok : DOk L last) (r : Wn) (hr : r ∈ L) (hr0 : r.n = 0) (hW : r.W = 10) (hH : r.H = 5) :
    Calls Try.prog 14 #[.pointer (some ⟨d, 0, none⟩), .int .i64 10, .int .i64 5] w fun e w' => ∃ g cap, e = .returned (.slice (some ⟨g, 0, none⟩) 50 cap) ∧ w'.ownsRow w.heap.size 39 7 (.slice (some ⟨g, 0, none⟩) 50 cap) 50 (flat (cellsTo 10 (picG L K r) 50)) ∧ Below w.heap.size w w' := by
  obtain ⟨M, N, s, t, rfl, D, O, z, k⟩ := h
  exact kCells T ok w D r hr hr0 hW hH
end
set_option maxRecDepth 1000000 in
theorem wd_asc : ∀ m : Fin 127, 32 < m.val → wd (m.val : Int) = 1 := by decide
/-- A text of bytes from 33 to 126: its letters. -/
theorem runes_ascii (s : ByteArray) (hs : ∀ c ∈ s.data.toList, 32 < c.toNat ∧ c.toNat < 127) : ∀ (f pos : Nat), s.size ≤ pos + f → runesG s f pos = (s.data.toList.drop pos).map (fun c => (c.toNat : Int)) := by
  have hsz : s.data.toList.length = s.size := Array.length_toList
  have hwd : ∀ n : Nat, 32 < n → n < 127 → wd (n : Int) = 1 := by
    intro n h1 h2
    exact wd_asc ⟨n, h2⟩ h1
  intro f
  induction f with
  | zero => intro pos hp; rw [List.drop_eq_nil_of_le (by omega)]; rfl
  | succ f ih =>
    intro pos hp
    by_cases h : pos < s.size
    · have hg : s[pos]'h = s.data.toList[pos]'(by omega) := by simp [ByteArray.getElem_eq_getElem_data]
      have hc := hs (s[pos]'h) (by rw [hg]; exact List.getElem_mem _)
      rw [runesG_cons s f h, decode_ascii s pos h (by omega)]
      simp only
      rw [if_neg (by rw [hwd _ hc.1 hc.2]; omega), ih (pos + 1) (by omega)]
      conv => rhs; rw [List.drop_eq_getElem_cons (i := pos) (by omega)]
      rw [List.map_cons, hg]
    · rw [List.drop_eq_nil_of_le (by omega)]
      show (if pos < s.size then _ else _) = _
      rw [if_neg h]
      rfl
end Go.Proofs.Ytjlfibhbfdckpaa

/- Laid: three windows: what the calls leave. -/
namespace Go.Proofs.Ytjlfibhbfdckpaa
open Go.RowKit
attribute [local go_sem ↓] Go.wp_at_zero Go.wp_at_succ
theorem pen_put {w : World} {b : Nat} {p : Pn} {t : TypeId} (h : w.heap[b]? = some (.cells #[.int .i64 p.f, .int .i64 p.b, .bool p.bo, .bool p.un, .bool p.re] t)) (q : Pn) :
    PenAt (((((w.setCell ⟨b, 0, none⟩ (.int .i64 q.f)).setCell ⟨b, 1, none⟩ (.int .i64 q.b)).setCell ⟨b, 2, none⟩ (.bool q.bo)).setCell ⟨b, 3, none⟩ (.bool q.un)).setCell ⟨b, 4, none⟩ (.bool q.re)) b 0 q ∧
    Keep (fun i => i = b) w (((((w.setCell ⟨b, 0, none⟩ (.int .i64 q.f)).setCell ⟨b, 1, none⟩ (.int .i64 q.b)).setCell ⟨b, 2, none⟩ (.bool q.bo)).setCell ⟨b, 3, none⟩ (.bool q.un)).setCell ⟨b, 4, none⟩ (.bool q.re)) := by
  constructor
  · have e := set_block (o := 4) (set_block (o := 3) (set_block (o := 2) (set_block (o := 1) (set_block (o := 0) h (.int .i64 q.f)) (.int .i64 q.b)) (.bool q.bo)) (.bool q.un)) (.bool q.re)
    exact ⟨cell_of_block e 0, cell_of_block e 1, cell_of_block e 2, cell_of_block e 3, cell_of_block e 4⟩
  · refine Keep.setCell ?_ _ _ (fun _ => rfl)
    refine Keep.setCell ?_ _ _ (fun _ => rfl)
    refine Keep.setCell ?_ _ _ (fun _ => rfl)
    refine Keep.setCell ?_ _ _ (fun _ => rfl)
    refine Keep.setCell ?_ _ _ (fun _ => rfl)
    exact Keep.refl _ _
def botB (x y v z : Int) (G : Nat → Nat → Cel) : List Wn := [rootW 10 5, twoW v z G, oneW x y]
def oneH (x y : Int) : Wn := ⟨1, 0, x, y, false, 6, 3, fun _ _ => blk Pn.plain⟩
def hidL (x y v z : Int) (G : Nat → Nat → Cel) : List Wn := [rootW 10 5, oneH x y, twoW v z G]
def twoA (v z : Int) (G : Nat → Nat → Cel) : Wn := ⟨2, 0, v, z, true, 4, 2, G⟩
def awayL (x y v z : Int) (G : Nat → Nat → Cel) : List Wn := [rootW 10 5, oneW x y, twoA v z G]
section
variable (x y v z : Int) (G : Nat → Nat → Cel)
theorem three_tree (a b : Wn) (h : (a.n = 1 ∧ a.par = 0 ∧ b.n = 2 ∧ (b.par = 0 ∨ b.par = 1)) ∨ (b.n = 1 ∧ b.par = 0 ∧ a.n = 2 ∧ (a.par = 0 ∨ a.par = 1))) : Tree [rootW 10 5, a, b] laidRk 2 := by
  have r0 : laidRk 0 = 0 := rfl
  have r1 : laidRk 1 = 1 := rfl
  have r2 : laidRk 2 = 2 := rfl
  refine ⟨⟨rootW 10 5, [a, b], rfl, rfl, rfl, ?_⟩, ?_, ?_, ?_⟩
  · intro u hu
    simp only [List.mem_cons, List.not_mem_nil, or_false] at hu
    rcases hu with rfl | rfl <;> omega
  · simp [rootW]; omega
  · intro u hu hp
    have q0 : ∃ u' ∈ [rootW 10 5, a, b], u'.n = 0 := ⟨rootW 10 5, by simp, rfl⟩
    have q1 : ∃ u' ∈ [rootW 10 5, a, b], u'.n = 1 := by
      rcases h with h | h
      · exact ⟨a, by simp, h.1⟩
      · exact ⟨b, by simp, h.1⟩
    simp only [List.mem_cons, List.not_mem_nil, or_false] at hu
    rcases hu with rfl | rfl | rfl
    · simp [rootW] at hp
    · rcases h with ⟨h1, h2, h3, h4⟩ | ⟨h1, h2, h3, h4⟩
      · rw [h1, h2]; exact ⟨q0, by omega⟩
      · rcases h4 with h4 | h4 <;> rw [h3, h4]
        · exact ⟨q0, by omega⟩
        · exact ⟨q1, by omega⟩
    · rcases h with ⟨h1, h2, h3, h4⟩ | ⟨h1, h2, h3, h4⟩
      · rcases h4 with h4 | h4 <;> rw [h3, h4]
        · exact ⟨q0, by omega⟩
        · exact ⟨q1, by omega⟩
      · rw [h1, h2]; exact ⟨q0, by omega⟩
  · intro u hu
    simp only [List.mem_cons, List.not_mem_nil, or_false] at hu
    rcases hu with rfl | rfl | rfl
    · show laidRk 0 ≤ 2; omega
    · rcases h with h | h
      · rw [h.1]; omega
      · rw [h.2.2.1]; omega
    · rcases h with h | h
      · rw [h.2.2.1]; omega
      · rw [h.1]; omega
theorem three_ok (a b : Wn) (h : (a.n = 1 ∧ a.par = 0 ∧ b.n = 2 ∧ (b.par = 0 ∨ b.par = 1)) ∨ (b.n = 1 ∧ b.par = 0 ∧ a.n = 2 ∧ (a.par = 0 ∨ a.par = 1))) (ha : -1000 ≤ a.x ∧ a.x ≤ 1000 ∧ -1000 ≤ a.y ∧ a.y ≤ 1000) (hb : -1000 ≤ b.x ∧ b.x ≤ 1000 ∧ -1000 ≤ b.y ∧ b.y ≤ 1000) : DOk [rootW 10 5, a, b] 2 := by
  refine ⟨⟨_, _, three_tree a b h⟩, ?_, by simp, ?_⟩
  · intro u hu
    simp only [List.mem_cons, List.not_mem_nil, or_false] at hu
    rcases hu with rfl | rfl | rfl
    · simp [rootW]
    · omega
    · omega
  · intro u hu
    simp only [List.mem_cons, List.not_mem_nil, or_false] at hu
    rcases hu with rfl | rfl | rfl
    · simp [rootW]
    · exact ha
    · exact hb
variable (hx : -1000 ≤ x ∧ x ≤ 1000 ∧ -1000 ≤ y ∧ y ≤ 1000) (hv : -1000 ≤ v ∧ v ≤ 1000 ∧ -1000 ≤ z ∧ z ≤ 1000)
include hx hv
theorem botB_ok : DOk (botB x y v z G) 2 := three_ok _ _ (Or.inr ⟨rfl, rfl, rfl, Or.inr rfl⟩) hv hx
theorem hidL_ok : DOk (hidL x y v z G) 2 := three_ok _ _ (Or.inl ⟨rfl, rfl, rfl, Or.inr rfl⟩) hx hv
theorem awayL_ok : DOk (awayL x y v z G) 2 := three_ok _ _ (Or.inl ⟨rfl, rfl, rfl, Or.inl rfl⟩) hx hv
omit hx hv
theorem laid_sub : ¬ Sub (laidL x y v z G) 2 0 := fun h => by have := (Sub.rank (laid_tree x y v z G) (by decide) h).1; revert this; decide
theorem away_sub : ¬ Sub (awayL x y v z G) 2 1 := fun h => by have := (Sub.rank (three_tree (oneW x y) (twoA v z G) (Or.inl ⟨rfl, rfl, rfl, Or.inl rfl⟩)) (by decide) h).1; revert this; decide
end
theorem Lst.lo {w1 : World} {B d : Nat} {L : List Wn} {last : Int} {w : World} (h : Lst w1 (fun i => i < B) d L last w) : B ≤ w.heap.size := by
  obtain ⟨M, N, s, t, e, D, O, z, K⟩ := h
  by_cases hB : B = 0
  · omega
  · have := z (B - 1) (by omega); have := K.size; omega
theorem below_two (w : World) (o o' : Obj) : Below w.heap.size w ((w.alloc o).alloc o').drew := (((Below.refl _ _).alloc (Nat.le_refl _) _).alloc (by simp) _).drew
theorem below_two' (w : World) (o o' : Obj) : Below w.heap.size w ((w.alloc o).alloc o') := ((Below.refl _ _).alloc (Nat.le_refl _) _).alloc (by simp) _
theorem laid_write (x y v z : Int) (G G' : Nat → Nat → Cel) : updL (laidL x y v z G) 2 (fun u => { u with G := G' }) = laidL x y v z G' := rfl
theorem add_byte (m : List UInt8) (s : ByteArray) (k : Nat) (hk : k < s.size) : (⟨m.toArray⟩ : ByteArray) ++ s.extract k (k + 1) = ⟨(m ++ [s[k]'hk]).toArray⟩ := by
  apply ByteArray.ext
  rw [ByteArray.data_append, ByteArray.data_extract]
  apply Array.ext'
  have h1 : k < s.data.toList.length := by rw [Array.length_toList]; exact hk
  simp only [Array.toList_append, Array.toList_extract, List.extract_eq_take_drop]
  rw [show k + 1 - k = 1 by omega, List.drop_eq_getElem_cons h1]
  simp [ByteArray.getElem_eq_getElem_data]
theorem two_ok (x y : Int) (hx : -1000 ≤ x ∧ x ≤ 1000 ∧ -1000 ≤ y ∧ y ≤ 1000) : DOk [rootW 10 5, oneW x y] 1 := by
  refine ⟨⟨laidRk, 2, ⟨rootW 10 5, [oneW x y], rfl, rfl, rfl, ?_⟩, ?_, ?_, ?_⟩, ?_, by simp, ?_⟩
  · intro u hu
    simp only [List.mem_cons, List.not_mem_nil, or_false] at hu
    subst hu; simp [oneW]
  · simp [rootW, oneW]
  · intro u hu hp
    simp only [List.mem_cons, List.not_mem_nil, or_false] at hu
    rcases hu with rfl | rfl
    · simp [rootW] at hp
    · exact ⟨⟨rootW 10 5, by simp, rfl⟩, by show laidRk 0 < laidRk 1; decide⟩
  · intro u hu
    simp only [List.mem_cons, List.not_mem_nil, or_false] at hu
    rcases hu with rfl | rfl
    · show laidRk 0 ≤ 2; decide
    · show laidRk 1 ≤ 2; decide
  · intro u hu
    simp only [List.mem_cons, List.not_mem_nil, or_false] at hu
    rcases hu with rfl | rfl <;> simp [rootW, oneW]
  · intro u hu
    simp only [List.mem_cons, List.not_mem_nil, or_false] at hu
    rcases hu with rfl | rfl
    · simp [rootW]
    · exact hx
end Go.Proofs.Ytjlfibhbfdckpaa
