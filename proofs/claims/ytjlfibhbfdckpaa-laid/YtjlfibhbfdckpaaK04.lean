/- Texts of the proof, one behind the other: PgH, PgI, PgJ, PgK, PgL, PgM, Gr5, ScP, ScP2. -/
import Derived.Test.YtjlfibhbfdckpaaK02
import Derived.Test.YtjlfibhbfdckpaaK03
import Derived.Laws.IdiomCopy
import Derived.OwnWalk
/- The program's grid: New. -/
namespace Go.Proofs.Ytjlfibhbfdckpaa
open Go.RowKit
attribute [local go_sem ↓] Go.wp_at_zero Go.wp_at_succ
theorem wpList_make_at {P : Program} (w : World) {ops : Array Oper} {rest : List Oper} {o : Oper} {a : Act} {Q : Exit → Act → World → Prop}
    (hg : o.guard = none) (l c : Operand) (t : TypeId) (hop : o.op = Op.makeSlice t l c)
    (e : TypeId) (z : Value) (size bytes : Nat) (h1 : P.underlying t = some (.slice e)) (h2 : (P.info? e).map (fun i => (i.zero, i.size, i.bytes)) = some (some z, size, bytes))
    (n : Nat) (hl : a.eval l = .int .i64 n) (hc : a.eval c = .int .i64 n) (hn : n ≤ 800) (hb : bytes ≤ 1000)
    (hK : wpList P ops Q rest (a.put o.dst (.slice (some ⟨w.heap.size, 0, none⟩) n n)) (w.alloc (.cells (madeCells z.cells (n * size)) e))) :
    wpList P ops Q (o :: rest) a w := by
  refine wpList_plain hg fun K hK' => ?_
  cases hi : P.info? e with
  | none => rw [hi] at h2; simp at h2
  | some i =>
    rw [hi] at h2
    simp at h2
    have hbb : i.bytes * n ≤ 1000 * 800 := Nat.mul_le_mul (by omega) hn
    have hbi : (i.bytes : Int) * (n : Int) ≤ 281474976710656 := by
      rw [← Int.natCast_mul]; omega
    have hrun := run_make (P := P) w t e i z h1 hi h2.1 .i64 .i64 n n (by omega) (by omega) hbi (by omega)
    rw [h2.2.1] at hrun
    unfold Oper.wp
    simp [execOp, hop, hl, hc, hrun, Result.andThen]
    exact hK' _ _ hK
theorem made_flat (w : World) (n : Nat) (t : TypeId) : Flat (w.alloc (.cells (madeCells #[.int .i32 0, .int .i64 0, .int .i64 0, .int .i64 0, .bool false, .bool false, .bool false] (n * 7)) t)) w.heap.size n (fun _ => ⟨0, 0, Pn.plain⟩) := by
  have key : ∀ i j, i < n → j < 7 → (w.alloc (.cells (madeCells #[.int .i32 0, .int .i64 0, .int .i64 0, .int .i64 0, .bool false, .bool false, .bool false] (n * 7)) t)).cell? ⟨w.heap.size, i * 7 + j, none⟩ = some ((#[.int .i32 0, .int .i64 0, .int .i64 0, .int .i64 0, .bool false, .bool false, .bool false] : Array Value)[j]!) := by
    intro i j hi hj
    rw [cell_of_block (heap_new w _)]
    unfold madeCells
    rw [Array.getElem?_map, Array.getElem?_range, if_pos (by omega)]
    simp only [Option.map_some]
    rw [show (i * 7 + j) % (#[.int .i32 0, .int .i64 0, .int .i64 0, .int .i64 0, .bool false, .bool false, .bool false] : Array Value).size = j by simp; omega]
  refine ⟨fun i hi => ?_, fun o => frozen_of_block (heap_new w _) o⟩
  exact ⟨key i 0 hi (by omega), key i 1 hi (by omega), key i 2 hi (by omega), key i 3 hi (by omega), key i 4 hi (by omega), key i 5 hi (by omega), key i 6 hi (by omega)⟩
theorem cellInfo : (Try.prog.info? 39).map (fun i => (i.zero, i.size, i.bytes)) = some (some (.agg #[.int .i32 0, .int .i64 0, .int .i64 0, .int .i64 0, .bool false, .bool false, .bool false]), 7, 40) := by kernel_rfl
set_option maxHeartbeats 300000 in
theorem pNew (W H : Nat) (w : World) (w1 : 1 ≤ W) (w2 : W ≤ 40) (h1 : 1 ≤ H) (h2 : H ≤ 20) :
    Calls Try.prog 41 #[.int .i64 W, .int .i64 H] w fun e w' => ∃ bg g, e = .returned (.pointer (some ⟨bg, 0, none⟩)) ∧ GrAt w' bg g W H (H * W) (fun _ _ => blk Pn.plain) ∧ Below w.heap.size w w' ∧ w.heap.size ≤ bg ∧ w.heap.size ≤ g := by
  obtain ⟨N, hN⟩ : ∃ N, H * W = N := ⟨_, rfl⟩
  have hmul : (W : Int) * H = N := by rw [← hN, Int.natCast_mul, Int.mul_comm]
  have nle : N ≤ 800 := by rw [← hN]; exact Nat.mul_le_mul h2 w2
  have n1 : 1 ≤ N := by rw [← hN]; exact Nat.mul_le_mul h1 w1
  have hw1 : IntKind.i64.wrap ((W : Int) * (H : Int)) = (N : Int) := by rw [hmul]; exact wrap_id _ (by omega) (by omega)
  have HN : Hid (H * W = N) := hN
  rw [hN]
  clear hN
  go_enter Try.func41, Try.ntmps41
  go_wp2_with (at_make; go_must (refine wpList_make_at _ rfl _ _ 42 rfl 39 _ 7 40 Try.underlying42 cellInfo N (by rfl) (by rfl) nle (by omega) ?_))
  have hf := made_flat w N 39
  have hb1 : Below w.heap.size w (w.alloc (.cells (madeCells #[.int .i32 0, .int .i64 0, .int .i64 0, .int .i64 0, .bool false, .bool false, .bool false] (N * 7)) 39)) := (Below.refl _ _).alloc (Nat.le_refl _) _
  have s1 : (w.alloc (.cells (madeCells #[.int .i32 0, .int .i64 0, .int .i64 0, .int .i64 0, .bool false, .bool false, .bool false] (N * 7)) 39)).heap.size = w.heap.size + 1 := size_alloc _ _
  generalize w.alloc (.cells (madeCells #[.int .i32 0, .int .i64 0, .int .i64 0, .int .i64 0, .bool false, .bool false, .bool false] (N * 7)) 39) = wa at *
  have hn := heap_new wa (.cells #[.int .i64 W, .int .i64 H, .slice (some ⟨w.heap.size, 0, none⟩) N N] 86)
  rw [s1] at hn
  have hf2 := hf.same (w' := wa.alloc (.cells #[.int .i64 W, .int .i64 H, .slice (some ⟨w.heap.size, 0, none⟩) N N] 86)) (Below.heap_alloc _ _ _ (by omega))
  have hb2 := hb1.alloc (by omega) (.cells #[.int .i64 W, .int .i64 H, .slice (some ⟨w.heap.size, 0, none⟩) N N] 86)
  generalize wa.alloc (.cells #[.int .i64 W, .int .i64 H, .slice (some ⟨w.heap.size, 0, none⟩) N N] 86) = wb at *
  clear hf hb1
  go_at_call 56
  refine (pFill w.heap.size N 0 N N _ _ Pn.plain _ hf2 (fun _ => rfl) (by omega) nle (by omega)).mono ?_
  rintro e w3 ⟨rfl, F3, K3⟩
  have h3 : w3.heap[w.heap.size + 1]? = some (.cells #[.int .i64 W, .int .i64 H, .slice (some ⟨w.heap.size, 0, none⟩) N N] 86) := by
    rw [K3.block _ (Array.getElem?_eq_some_iff.1 hn).1 (by omega)]; exact hn
  go_wp2_with fail
  go_ret
  have F4 := F3
  rw [← HN.out] at F4
  refine ⟨w.heap.size + 1, w.heap.size, rfl, ⟨h3, ⟨fun x y hx hy => ?_, F4.free⟩, HN.out.symm, by omega, w1, w2, h1, h2⟩, hb2.trans (K3.toBelow hb2.size (fun i hi => by omega)), by omega, by omega⟩
  have := F4.grid.cel x y hx hy
  unfold unlin fillF at this
  have pl := place_lt hx hy
  rw [if_pos (by have := HN.out; omega)] at this
  exact this
end Go.Proofs.Ytjlfibhbfdckpaa

/- copy of rows of cells. -/
namespace Go.Proofs.Ytjlfibhbfdckpaa
open Go.RowKit
def copyF (L M : Nat → Cel) (d s k : Nat) : Nat → Cel := fun i => if d ≤ i ∧ i < d + k then M (s + (i - d)) else L i
def rowOf (M : Nat → Cel) (s k : Nat) : List Cel := (List.range k).map (fun i => M (s + i))
theorem rowOf_length (M : Nat → Cel) (s k : Nat) : (rowOf M s k).length = k := by simp [rowOf]
theorem rowOf_at (M : Nat → Cel) (s k i : Nat) (h : i < k) : (rowOf M s k)[i]? = some (M (s + i)) := by simp [rowOf, h]
theorem vals_len (c : Cel) : c.vals.length = 7 := rfl
theorem flat_get (L : List Cel) (j : Nat) (v : Value) (h : (flat L)[j]? = some v) : ∃ c, L[j / 7]? = some c ∧ c.vals[j % 7]? = some v := by
  have hj : j < L.length * 7 := by
    rw [← flat_length]
    rcases Nat.lt_or_ge j (flat L).length with l | l
    · exact l
    · rw [List.getElem?_eq_none l] at h; simp at h
  have hd : j / 7 < L.length := by omega
  have hc : L[j / 7]? = some L[j / 7] := List.getElem?_eq_getElem hd
  have hm : j % 7 < L[j / 7].vals.length := by rw [vals_len]; omega
  refine ⟨_, hc, ?_⟩
  have := flat_at L (j / 7) _ hc (j % 7) _ (List.getElem?_eq_getElem hm)
  rw [show j / 7 * 7 + j % 7 = j by omega, h] at this
  rw [List.getElem?_eq_getElem hm]
  exact this.symm
theorem CelAt.get {w : World} {g o : Nat} {c : Cel} (h : CelAt w g o c) {j : Nat} {v : Value} (hv : c.vals[j]? = some v) : w.cell? ⟨g, o + j, none⟩ = some v := by
  obtain ⟨h0, h1, h2, h3, h4, h5, h6⟩ := h
  match j, hv with
  | 0, hv => simp at hv; subst hv; exact h0
  | 1, hv => simp at hv; subst hv; exact h1
  | 2, hv => simp at hv; subst hv; exact h2
  | 3, hv => simp at hv; subst hv; exact h3
  | 4, hv => simp at hv; subst hv; exact h4
  | 5, hv => simp at hv; subst hv; exact h5
  | 6, hv => simp at hv; subst hv; exact h6
  | j + 7, hv => simp at hv
theorem Flat.setCells {w : World} {g n : Nat} {L : Nat → Cel} (h : Flat w g n L) (M : Nat → Cel) (d s k : Nat) (hk : d + k ≤ n) : Flat (w.setCells g (d * 7) (flat (rowOf M s k))) g n (copyF L M d s k) := by
  have len : (flat (rowOf M s k)).length = k * 7 := by rw [flat_length, rowOf_length]
  have there : ∀ j, j < (flat (rowOf M s k)).length → (w.cell? ⟨g, d * 7 + j, none⟩).isSome = true := by
    intro j hj
    rw [len] at hj
    have c := h.cel (d + j / 7) (by omega)
    have hm : j % 7 < (L (d + j / 7)).vals.length := by rw [vals_len]; omega
    have := c.get (List.getElem?_eq_getElem hm)
    rw [show (d + j / 7) * 7 + j % 7 = d * 7 + j by omega] at this
    rw [this]; rfl
  refine ⟨fun i hi => ?_, fun o => by rw [World.frozen?_setCells]; exact h.free o⟩
  unfold copyF
  by_cases e : d ≤ i ∧ i < d + k
  · rw [if_pos e]
    have key : ∀ j (v : Value), j < 7 → (M (s + (i - d))).vals[j]? = some v → (w.setCells g (d * 7) (flat (rowOf M s k))).cell? ⟨g, i * 7 + j, none⟩ = some v := by
      intro j v hj hv
      have hl : (i - d) * 7 + j < (flat (rowOf M s k)).length := by rw [len]; omega
      have a := World.cell?_setCells_in g (flat (rowOf M s k)) (d * 7) w there ((i - d) * 7 + j) hl
      rw [show d * 7 + ((i - d) * 7 + j) = i * 7 + j by omega] at a
      rw [a, ← List.getElem?_eq_getElem hl]
      exact flat_at _ _ _ (rowOf_at M s k (i - d) (by omega)) j v hv
    exact ⟨key 0 _ (by omega) rfl, key 1 _ (by omega) rfl, key 2 _ (by omega) rfl, key 3 _ (by omega) rfl, key 4 _ (by omega) rfl, key 5 _ (by omega) rfl, key 6 _ (by omega) rfl⟩
  · rw [if_neg e]
    have key : ∀ j, j < 7 → (w.setCells g (d * 7) (flat (rowOf M s k))).cell? ⟨g, i * 7 + j, none⟩ = w.cell? ⟨g, i * 7 + j, none⟩ := fun j hj =>
      World.cell?_setCells_out g _ _ _ _ (fun _ _ => by rw [len]; simp; omega)
    have := h.cel i hi
    simp only [CelAt] at this ⊢
    rw [show i * 7 = i * 7 + 0 by omega, key 0 (by omega)]
    simp only [Nat.add_zero]
    rw [key 1 (by omega), key 2 (by omega), key 3 (by omega), key 4 (by omega), key 5 (by omega), key 6 (by omega)]
    exact this
theorem Keep.setCells {F : Nat → Prop} {a : World} (g : Nat) (hp : g < a.heap.size → F g) : ∀ (vs : List Value) (o : Nat) {b : World}, Keep F a b → Keep F a (b.setCells g o vs)
  | [], _, _, h => h
  | _ :: r, o, _, h => Keep.setCells g hp r (o + 1) (h.setCell ⟨g, o, none⟩ _ hp)
theorem flat_oneCell (L : List Cel) : ∀ v ∈ flat L, v.oneCell' = true := by
  intro v hv
  simp [flat] at hv
  obtain ⟨c, _, h⟩ := hv
  rcases h with h | h | h | h | h | h | h <;> (subst h; rfl)
theorem run_copy_cel {P : Program} (w : World) (dT sT ty elem : TypeId) (g gs n ns : Nat) (L M : Nat → Cel) (d s dLen dCap sLen sCap k : Nat)
    (hu : P.underlying dT = some (.slice elem)) (hs : (P.info? elem).map (·.size) = some 7) (hn : k = Nat.min sLen dLen) (hd : Flat w g n L) (hsrc : Flat w gs ns M) (h1 : d + k ≤ n) (h2 : s + k ≤ ns) :
    (Builtin.copy_ #[dT, sT] ty #[.slice (some ⟨g, d * 7, none⟩) dLen dCap, .slice (some ⟨gs, s * 7, none⟩) sLen sCap]).run P w = .ok (goInt k) (w.setCells g (d * 7) (flat (rowOf M s k))) := by
  have len : (flat (rowOf M s k)).length = k * 7 := by rw [flat_length, rowOf_length]
  have hl := run_loadCells_list (P := P) w ⟨gs, s * 7, none⟩ (flat (rowOf M s k)) (fun j v hv => by
    obtain ⟨c, hc, hv'⟩ := flat_get _ _ _ hv
    have hj : j / 7 < k := by
      rcases Nat.lt_or_ge (j / 7) (rowOf M s k).length with l | l
      · rwa [rowOf_length] at l
      · rw [List.getElem?_eq_none l] at hc; simp at hc
    rw [rowOf_at _ _ _ _ hj] at hc
    cases hc
    have := (hsrc.cel (s + j / 7) (by omega)).get hv'
    rw [show (s + j / 7) * 7 + j % 7 = s * 7 + j by omega] at this
    have e : (⟨gs, s * 7, none⟩ : Addr).add j = ⟨gs, s * 7 + j, none⟩ := by unfold Addr.add; split <;> simp_all
    rw [e]; exact this)
  have hst := run_storeCells_cells (P := P) g (d * 7) (flat (rowOf M s k)) 0 w (fun j hj => by
    rw [len] at hj
    have c := hd.cel (d + j / 7) (by omega)
    have hm : j % 7 < (L (d + j / 7)).vals.length := by rw [vals_len]; omega
    have := c.get (List.getElem?_eq_getElem hm)
    rw [show (d + j / 7) * 7 + j % 7 = d * 7 + 0 + j by omega] at this
    rw [this]; rfl) (fun j _ => hd.free _) (flat_oneCell _)
  rw [len] at hl
  cases hq : P.info? elem with
  | none => simp [hq] at hs
  | some i =>
    have hi : i.size = 7 := by simpa [hq] using hs
    simp [Builtin.copy_, run_underlying hu, Builtin.lenOf, Builtin.firstCells, sizeOf, typeInfo, hq, hi, ← hn, hl, hst]
end Go.Proofs.Ytjlfibhbfdckpaa

/- copy of rows of cells, as a law for the walk. -/
namespace Go.Proofs.Ytjlfibhbfdckpaa
open Go.RowKit
theorem copyF_none (L M : Nat → Cel) (d s : Nat) : copyF L M d s 0 = L := by
  funext i; unfold copyF; rw [if_neg (by omega)]
theorem run_copy_no {P : Program} (w : World) (dT sT ty elem : TypeId) (d a : Option Addr) (dLen dCap sLen sCap : Nat) (hu : P.underlying dT = some (.slice elem)) (hs : (P.info? elem).map (·.size) = some 7) (hn : Nat.min sLen dLen = 0) :
    (Builtin.copy_ #[dT, sT] ty #[.slice d dLen dCap, .slice a sLen sCap]).run P w = .ok (goInt 0) w := by
  cases hq : P.info? elem with
  | none => simp [hq] at hs
  | some i =>
    have hl : ∀ (x : Addr), (loadCells x 0).run P w = .ok #[] w := fun x => by simpa using run_loadCells_list (P := P) w x [] (by simp)
    cases d <;> cases a <;> simp [Builtin.copy_, run_underlying hu, Builtin.lenOf, Builtin.firstCells, sizeOf, typeInfo, hq, hn, storeCells, hl]
theorem wpList_copy_cel {P : Program} {w : World} {ops : Array Oper} {rest : List Oper} {o : Oper} {a : Act} {Q : Exit → Act → World → Prop} (hgd : o.guard = none) (d s : Operand) (dT sT : TypeId)
    (ho : o.op = .call { callee := .builtin .copy, args := #[d, s], argTypes := #[dT, sT] }) (elem : TypeId) (hu : P.underlying dT = some (.slice elem)) (hsz : (P.info? elem).map (·.size) = some 7)
    (dp sp : Option Addr) (dLen dCap sLen sCap : Nat) (hd : a.eval d = .slice dp dLen dCap) (hs : a.eval s = .slice sp sLen sCap)
    (g gs n ns : Nat) (L M : Nat → Cel) (di si k : Nat) (F : Flat w g n L) (S : Flat w gs ns M) (hn : k = Nat.min sLen dLen)
    (hpos : 0 < k → dp = some ⟨g, di * 7, none⟩ ∧ sp = some ⟨gs, si * 7, none⟩ ∧ di + k ≤ n ∧ si + k ≤ ns)
    (h : ∀ w', Hid (Flat w' g n (copyF L M di si k)) → Keep (fun i => i = g) w w' → wpList P ops Q rest (a.put o.dst (goInt k)) w') :
    wpList P ops Q (o :: rest) a w := by
  refine wpList_plain hgd fun K hK => ?_
  by_cases h0 : k = 0
  · subst h0
    have hrun := run_copy_no (P := P) w dT sT o.type elem dp sp dLen dCap sLen sCap hu hsz hn.symm
    unfold Oper.wp
    simp [execOp, ho, resolve, invoke, builtin, hd, hs, hrun, Result.andThen]
    exact hK _ _ (h w (show Flat _ _ _ _ by rw [copyF_none]; exact F) (Keep.refl _ _))
  · obtain ⟨rfl, rfl, b1, b2⟩ := hpos (by omega)
    have hrun := run_copy_cel (P := P) w dT sT o.type elem g gs n ns L M di si dLen dCap sLen sCap k hu hsz hn F S b1 b2
    unfold Oper.wp
    simp [execOp, ho, resolve, invoke, builtin, hd, hs, hrun, Result.andThen]
    exact hK _ _ (h _ (F.setCells M di si k b1) (Keep.setCells (F := fun i => i = g) g (fun _ => rfl) _ _ (Keep.refl _ _)))
theorem cellSize : (Try.prog.info? 39).map (·.size) = some 7 := by kernel_rfl
end Go.Proofs.Ytjlfibhbfdckpaa

/- The program's grid: Scroll. -/
namespace Go.Proofs.Ytjlfibhbfdckpaa
open Go.RowKit
attribute [local go_sem ↓] Go.wp_at_zero Go.wp_at_succ
def scrollF (L : Nat → Cel) (m k : Nat) (s : Int) (p : Pn) : Nat → Cel :=
  if 0 ≤ s then fillF (copyF L L m (m + s.toNat) (k - s.toNat)) (m + (k - s.toNat)) s.toNat p
  else fillF (copyF L L (m + (-s).toNat) m (k - (-s).toNat)) m (-s).toNat p
theorem run_copy_any {P : Program} (w : World) (dT sT ty elem : TypeId) (g gs n ns : Nat) (L M : Nat → Cel) (dp sp : Option Addr) (d s dLen dCap sLen sCap k : Nat)
    (hu : P.underlying dT = some (.slice elem)) (hs : (P.info? elem).map (·.size) = some 7) (hn : k = Nat.min sLen dLen) (hd : Flat w g n L) (hsrc : Flat w gs ns M)
    (hpos : 0 < k → dp = some ⟨g, d * 7, none⟩ ∧ sp = some ⟨gs, s * 7, none⟩ ∧ d + k ≤ n ∧ s + k ≤ ns) :
    ∃ w', (Builtin.copy_ #[dT, sT] ty #[.slice dp dLen dCap, .slice sp sLen sCap]).run P w = .ok (goInt k) w' ∧ Flat w' g n (copyF L M d s k) ∧ Keep (fun i => i = g) w w' := by
  by_cases h0 : k = 0
  · subst h0
    exact ⟨w, run_copy_no w dT sT ty elem dp sp dLen dCap sLen sCap hu hs hn.symm, by rw [copyF_none]; exact hd, Keep.refl _ _⟩
  · obtain ⟨rfl, rfl, b1, b2⟩ := hpos (by omega)
    exact ⟨_, run_copy_cel w dT sT ty elem g gs n ns L M d s dLen dCap sLen sCap k hu hs hn hd hsrc b1 b2, hd.setCells M d s k b1, Keep.setCells (F := fun i => i = g) g (fun _ => rfl) _ _ (Keep.refl _ _)⟩
end Go.Proofs.Ytjlfibhbfdckpaa

/- The program's grid: Scroll is scrollG. -/
namespace Go.Proofs.Ytjlfibhbfdckpaa
open Go.RowKit
theorem place_cmp {W x : Nat} (y t : Nat) (hx : x < W) : y * W + x < t * W ↔ y < t := by
  constructor
  · intro h
    rcases Nat.lt_or_ge y t with l | l
    · exact l
    · have := Nat.mul_le_mul_right W l; omega
  · intro h
    have := Nat.mul_le_mul_right W (show y + 1 ≤ t from h)
    rw [Nat.add_mul] at this; omega
theorem scroll_eq {W H : Nat} (G : Nat → Nat → Cel) (top bot m k c : Nat) (n b s : Int) (p : Pn) (hW : 1 ≤ W) (ht : top ≤ bot) (hc : top + c = bot + 1) (hm : top * W = m) (hk : c * W = k) (hbt : betweenI n (-c) c = b) (hs : b * W = s) :
    EqOn W H (unlin W (scrollF (lin W G) m k s p)) (scrollG top bot n p G) := by
  have hb1 : -(c : Int) ≤ b ∧ b ≤ c ∧ (b = n ∨ (n < b ∧ b = -(c : Int)) ∨ (b < n ∧ b = c)) := by
    rw [← hbt]; unfold betweenI greatestI leastI; split <;> split <;> omega
  obtain ⟨hb1, hb2, hb3⟩ := hb1
  intro x y hx _
  have C := fun t => place_cmp (W := W) (x := x) y t hx
  have hmk : m + k = (bot + 1) * W := by rw [← hm, ← hk, ← Nat.add_mul, hc]
  unfold unlin scrollF scrollG
  have c1 := C top
  have c2 := C (bot + 1)
  rw [hm] at c1
  rw [← hmk] at c2
  by_cases h0 : 0 ≤ b
  · obtain ⟨d, rfl⟩ := Int.eq_ofNat_of_zero_le h0
    have hs' : s = ((d * W : Nat) : Int) := by rw [← hs]; simp
    have hs0 : 0 ≤ s := by omega
    rw [if_pos hs0, hs', Int.toNat_natCast]
    have hz : k - d * W = (c - d) * W := by rw [← hk, Nat.sub_mul]
    have hz2 : m + (c - d) * W = (top + (c - d)) * W := by rw [Nat.add_mul, hm]
    have c3 := C (top + (c - d))
    have hdk : d * W ≤ k := by rw [← hk]; exact Nat.mul_le_mul_right W (by omega)
    rw [hz]
    unfold fillF copyF
    by_cases a1 : top ≤ y ∧ y ≤ bot
    · rw [if_pos (show (top : Int) ≤ y ∧ (y : Int) ≤ bot by omega)]
      by_cases a2 : y < top + (c - d)
      · rw [if_neg (by omega), if_pos (by omega)]
        have e : m + d * W + (y * W + x - m) = (y + d) * W + x := by rw [Nat.add_mul]; omega
        rw [e, lin_at G (y + d) hx]
        have hn : n = d := by omega
        rw [if_pos (by omega), hn, show ((y : Int) + d).toNat = y + d by omega]
      · rw [if_pos (by omega), if_neg (by omega)]
    · rw [if_neg (show ¬ ((top : Int) ≤ y ∧ (y : Int) ≤ bot) by omega), if_neg (by omega), if_neg (by omega), lin_at G y hx]
  · obtain ⟨d, hd⟩ : ∃ d : Nat, b = -(d : Int) := ⟨(-b).toNat, by omega⟩
    subst hd
    have hd1 : 1 ≤ d := by omega
    have hs' : s = -((d * W : Nat) : Int) := by rw [← hs]; simp [Int.neg_mul]
    have hdW := Nat.mul_le_mul hd1 hW
    rw [if_neg (by omega), hs', Int.neg_neg, Int.toNat_natCast]
    have hz : k - d * W = (c - d) * W := by rw [← hk, Nat.sub_mul]
    have hz2 : m + d * W = (top + d) * W := by rw [Nat.add_mul, hm]
    have c3 := C (top + d)
    have hdk : d * W ≤ k := by rw [← hk]; exact Nat.mul_le_mul_right W (by omega)
    unfold fillF copyF
    by_cases a1 : top ≤ y ∧ y ≤ bot
    · rw [if_pos (show (top : Int) ≤ y ∧ (y : Int) ≤ bot by omega)]
      by_cases a2 : y < top + d
      · rw [if_pos (by omega), if_neg (by omega)]
      · rw [if_neg (by omega), if_pos (by omega)]
        have e : m + (y * W + x - (m + d * W)) = (y - d) * W + x := by rw [Nat.sub_mul]; have := Nat.mul_le_mul_right W (show d ≤ y by omega); omega
        rw [e, lin_at G (y - d) hx]
        have hn : n = -(d : Int) := by omega
        rw [if_pos (by omega), hn, show ((y : Int) + -(d : Int)).toNat = y - d by omega]
    · rw [if_neg (show ¬ ((top : Int) ≤ y ∧ (y : Int) ≤ bot) by omega), if_neg (by omega), if_neg (by omega), lin_at G y hx]
end Go.Proofs.Ytjlfibhbfdckpaa

/- The program's grid: Resize. -/
namespace Go.Proofs.Ytjlfibhbfdckpaa
open Go.RowKit
attribute [local go_sem ↓] Go.wp_at_zero Go.wp_at_succ
/-- The first j lines have their cells. -/
def sizedTo (W H W' : Nat) (G : Nat → Nat → Cel) (j : Nat) : Nat → Nat → Cel := fun x y => if y < j then sizedG W H W' G x y else blk Pn.plain
theorem sized_all {W H W' H' : Nat} (G : Nat → Nat → Cel) {j : Nat} (hj : j = H' ∨ j = H) : EqOn W' H' (sizedTo W H W' G j) (sizedG W H W' G) := by
  intro x y _ hy
  unfold sizedTo
  by_cases h : y < j
  · rw [if_pos h]
  · rw [if_neg h]
    unfold sizedG lastG
    have : ¬ (x < W ∧ y < H) := by omega
    simp only [if_neg this]
    rw [if_neg (by simp [blk])]
theorem sized_step {W H W' H' j c : Nat} {G K : Nat → Nat → Cel} (hw : Wf W H G) (hK : ∀ x, x < W → K x j = G x j) (hj : j < H) (hc : (c = W' ∧ c ≤ W) ∨ (c = W ∧ c ≤ W')) (c1 : 1 ≤ c) :
    EqOn W' H' (unlin W' (copyF (lin W' (sizedTo W H W' G j)) (partF (lin W K) (j * W) W 0 c) (j * W') (j * W) c)) (sizedTo W H W' G (j + 1)) := by
  intro x y hx _
  unfold unlin copyF
  have cm := place_cmp (W := W') (x := x) y j hx
  have cm2 := place_cmp (W := W') (x := x) y (j + 1) hx
  rw [Nat.add_mul] at cm2
  by_cases hy : y = j
  · subst hy
    rw [show sizedTo W H W' G (y + 1) x y = sizedG W H W' G x y from if_pos (by omega)]
    by_cases hxc : x < c
    · rw [if_pos (by omega), show y * W + (y * W' + x - y * W') = y * W + x by omega]
      unfold partF
      rw [cutF_none (c := 0) (.inl rfl)]
      have hL : lin W K (y * W + x) = G x y := by rw [lin_at K y (by omega)]; exact hK x (by omega)
      unfold sizedG lastG
      have hin : x < W ∧ y < H := by omega
      simp only [if_pos hin]
      by_cases hl : x + 1 = c
      · by_cases hcW : c < W
        · have hLc : lin W K (y * W + c) = G c y := by rw [lin_at K y hcW]; exact hK c hcW
          have := cutF_left (L := lin W K) (m := y * W) c1 hcW
          rw [show y * W + c - 1 = y * W + x by omega, hLc, hL] at this
          rw [this]
          by_cases e : (G c y).p = 2
          · have t := hw.tail c y hcW hj e
            rw [show c - 1 = x by omega] at t
            rw [if_pos e, if_pos ⟨by omega, by rw [t.2]⟩]
          · rw [if_neg e, if_neg (fun q => e ?_)]
            have t := hw.head x y (by omega) hj q.2
            rw [hl] at t
            rw [t.2]
        · rw [cutF_none (c := c) (.inr (by omega)), hL, if_neg (fun q => ?_)]
          have t := hw.head x y (by omega) hj q.2
          omega
      · rw [cutF_far (by omega) (by omega), hL, if_neg (by omega)]
    · rw [if_neg (by omega), lin_at _ y hx]
      unfold sizedG lastG
      have : ¬ (x < W ∧ y < H) := by omega
      simp only [if_neg this]
      unfold sizedTo
      rw [if_neg (by omega), if_neg (by simp [blk])]
  · rw [if_neg (by omega), lin_at _ y hx]
    unfold sizedTo
    by_cases h : y < j
    · rw [if_pos h, if_pos (by omega)]
    · rw [if_neg h, if_neg (by omega)]
theorem part_rest {W j c y x : Nat} {K : Nat → Nat → Cel} (hc : c ≤ W) (hx : x < W) (hy : j < y) : unlin W (partF (lin W K) (j * W) W 0 c) x y = K x y := by
  unfold unlin partF
  rw [cutF_none (c := 0) (.inl rfl)]
  have := Nat.mul_le_mul_right W (show j + 1 ≤ y from hy)
  rw [Nat.add_mul] at this
  by_cases e : c < W
  · rw [cutF_far (by omega) (by omega), lin_at K y hx]
  · rw [cutF_none (.inr (by omega)), lin_at K y hx]
end Go.Proofs.Ytjlfibhbfdckpaa

/- Grids of cells: copying into another size. -/
namespace Go.Proofs.Ytjlfibhbfdckpaa
/-- The lines ahead of y, and the columns ahead of x in it, have been copied. -/
def cp (W H : Nat) (G : Nat → Nat → Cel) (x y : Nat) : Nat → Nat → Cel := fun a b => if (b < y ∨ (b = y ∧ a < x)) ∧ a < W ∧ b < H then G a b else blk Pn.plain
theorem cp_start (W H : Nat) (G : Nat → Nat → Cel) : cp W H G 0 0 = fun _ _ => blk Pn.plain := by
  funext a b; unfold cp; exact if_neg (by omega)
theorem cp_put (W H W' H' : Nat) (G : Nat → Nat → Cel) (x y : Nat) (hx : x < W) (hy : y < H) : EqOn W' H' (upd (cp W H G x y) x y (G x y)) (cp W H G (x + 1) y) := by
  intro a b _ _
  unfold cp upd
  by_cases e : a = x ∧ b = y
  · obtain ⟨rfl, rfl⟩ := e
    rw [if_pos ⟨rfl, rfl⟩, if_pos (by omega)]
  · rw [if_neg e]
    show (if (b < y ∨ (b = y ∧ a < x)) ∧ a < W ∧ b < H then G a b else blk Pn.plain) = _
    by_cases c : (b < y ∨ (b = y ∧ a < x)) ∧ a < W ∧ b < H
    · rw [if_pos c, if_pos (by omega)]
    · rw [if_neg c, if_neg (by omega)]
theorem cp_line (W H W' H' : Nat) (G : Nat → Nat → Cel) (x y : Nat) (h : W ≤ x ∨ W' ≤ x) : EqOn W' H' (cp W H G x y) (cp W H G 0 (y + 1)) := by
  intro a b ha _
  unfold cp
  by_cases c : (b < y ∨ (b = y ∧ a < x)) ∧ a < W ∧ b < H
  · rw [if_pos c, if_pos (by omega)]
  · rw [if_neg c, if_neg (by omega)]
theorem cp_all (W H W' H' : Nat) (G : Nat → Nat → Cel) (y : Nat) (h : H ≤ y ∨ H' ≤ y) : EqOn W' H' (cp W H G 0 y) (fun a b => if a < W ∧ b < H then G a b else blk Pn.plain) := by
  intro a b _ hb
  unfold cp
  show _ = if a < W ∧ b < H then G a b else blk Pn.plain
  by_cases c : a < W ∧ b < H
  · rw [if_pos (by omega), if_pos c]
  · rw [if_neg (by omega), if_neg c]
theorem lastG_congr {W H : Nat} {G K : Nat → Nat → Cel} (h : EqOn W H G K) : EqOn W H (lastG W G) (lastG W K) := by
  intro a b ha hb
  unfold lastG
  rw [h a b ha hb]
theorem Aw.congr {W H : Nat} {G K : Nat → Nat → Cel} (h : Aw W H G) (e : EqOn W H G K) : Aw W H K := by
  refine ⟨fun x y hx hy hp => ?_, fun x y hx hy hp => ?_⟩
  · rw [← e x y (by omega) hy] at hp; rw [← e _ _ hx hy]; exact h.head x y hx hy hp
  · rw [← e x y hx hy] at hp
    obtain ⟨a, b⟩ := h.tail x y hx hy hp
    exact ⟨a, by rw [← e _ _ (by omega) hy]; exact b⟩
end Go.Proofs.Ytjlfibhbfdckpaa

/- The document's screen: its state. -/
namespace Go.Proofs.Ytjlfibhbfdckpaa
open Wd (wd)
structure Rs where
  W : Nat
  H : Nat
  x : Int
  y : Int
  pend : Bool
  pen : Pn
  top : Int
  bot : Int
  B : ByteArray
  odd : Int
  G : Nat → Nat → Cel
/-- What holds of a screen. -/
structure Rs.Ok (s : Rs) : Prop where
  w1 : 1 ≤ s.W
  w2 : s.W ≤ 40
  h1 : 1 ≤ s.H
  h2 : s.H ≤ 20
  x0 : 0 ≤ s.x
  x1 : s.x < s.W
  y0 : 0 ≤ s.y
  y1 : s.y < s.H
  t0 : 0 ≤ s.top
  tb : s.top ≤ s.bot
  b1 : s.bot < s.H
  pd : s.pend = true → s.x = (s.W : Int) - 1
  wf : Wf s.W s.H s.G
def clampI (v : Int) (m : Nat) : Int := if v < 0 then 0 else if (m : Int) - 1 < v then (m : Int) - 1 else v
theorem clampI_in (v : Int) (m : Nat) (h : 1 ≤ m) : 0 ≤ clampI v m ∧ clampI v m < m := by 
  unfold clampI
  by_cases h1 : v < 0
  · rw [if_pos h1]; omega
  · rw [if_neg h1]
    by_cases h2 : (m : Int) - 1 < v
    · rw [if_pos h2]; omega
    · rw [if_neg h2]; omega
def goesR (s : Rs) (x y : Int) : Rs := { s with x := clampI x s.W, y := clampI y s.H, pend := false }
def backR (s : Rs) : Pn := ⟨0, s.pen.b, false, false, false⟩
def linefeedR (s : Rs) : Rs := if s.y = s.bot then { s with G := scrollG s.top s.bot 1 (backR s) s.G, pend := false } else goesR s s.x (s.y + 1)
/-- The struct's cells. -/
abbrev scrArr (bc : Nat) (s : Rs) : Array Value := #[.pointer (some ⟨bc, 0, none⟩), .int .i64 s.W, .int .i64 s.H, .int .i64 s.x, .int .i64 s.y, .bool s.pend, .int .i64 s.pen.f, .int .i64 s.pen.b, .bool s.pen.bo, .bool s.pen.un, .bool s.pen.re, .int .i64 s.top, .int .i64 s.bot, .bool false, .string s.B, .int .i64 s.odd]
/-- The document's screen lies in blocks bs, bc, g. -/
structure RefAt (w : World) (bs bc g cap N : Nat) (s : Rs) : Prop where
  blk : w.heap[bs]? = some (.cells (scrArr bc s) 0)
  cels : Cels w bc g cap s.W s.H N s.G
  ne1 : bs ≠ bc
  ne2 : bs ≠ g
section
variable {w w' : World} {bs bc g cap N : Nat} {s : Rs}
theorem RefAt.lt (h : RefAt w bs bc g cap N s) : bs < w.heap.size := (Array.getElem?_eq_some_iff.1 h.blk).1
theorem RefAt.same (h : RefAt w bs bc g cap N s) (h1 : w'.heap[bs]? = w.heap[bs]?) (h2 : w'.heap[bc]? = w.heap[bc]?) (h3 : w'.heap[g]? = w.heap[g]?) : RefAt w' bs bc g cap N s :=
  ⟨by rw [h1]; exact h.blk, h.cels.same h2 h3, h.ne1, h.ne2⟩
theorem RefAt.below (h : RefAt w bs bc g cap N s) (hb : Go.RowKit.Below w.heap.size w w') : RefAt w' bs bc g cap N s :=
  h.same (hb.block _ h.lt) (hb.block _ h.cels.lt) (hb.block _ h.cels.glt)
theorem RefAt.free (h : RefAt w bs bc g cap N s) : ∀ o, w.frozen? ⟨bs, o, none⟩ = false := frozen_of_block h.blk
theorem RefAt.drew (h : RefAt w bs bc g cap N s) : RefAt w.drew bs bc g cap N s := h.same rfl rfl rfl
theorem RefAt.store (h : RefAt w bs bc g cap N s) (o : Nat) (v : Value) (s' : Rs) (hs : (scrArr bc s).setIfInBounds o v = scrArr bc s') (hW : s'.W = s.W) (hH : s'.H = s.H) (hG : s'.G = s.G) : RefAt (w.setCell ⟨bs, o, none⟩ v) bs bc g cap N s' := by
  refine ⟨?_, ?_, h.ne1, h.ne2⟩
  · rw [heap_set_same h.blk, hs]
  · rw [hW, hH, hG]
    exact h.cels.same (Go.RowKit.Below.heap_setCell _ _ _ _ (fun e => h.ne1 e.symm)) (Go.RowKit.Below.heap_setCell _ _ _ _ (fun e => h.ne2 e.symm))
/-- The cells change, and nothing else. -/
theorem RefAt.cells {g' cap' : Nat} (h : RefAt w bs bc g cap N s) (s' : Rs) (hb : w'.heap[bs]? = w.heap[bs]?) (hc : Cels w' bc g' cap' s'.W s'.H N s'.G) (hs : scrArr bc s' = scrArr bc s) (hg : bs ≠ g') : RefAt w' bs bc g' cap' N s' :=
  ⟨by rw [hb, hs]; exact h.blk, hc, h.ne1, hg⟩
theorem RefAt.f0 (h : RefAt w bs bc g cap N s) : w.cell? ⟨bs, 0, none⟩ = some (.pointer (some ⟨bc, 0, none⟩)) := cell_of_block h.blk 0
theorem RefAt.f1 (h : RefAt w bs bc g cap N s) : w.cell? ⟨bs, 1, none⟩ = some (.int .i64 s.W) := cell_of_block h.blk 1
theorem RefAt.f2 (h : RefAt w bs bc g cap N s) : w.cell? ⟨bs, 2, none⟩ = some (.int .i64 s.H) := cell_of_block h.blk 2
theorem RefAt.f3 (h : RefAt w bs bc g cap N s) : w.cell? ⟨bs, 3, none⟩ = some (.int .i64 s.x) := cell_of_block h.blk 3
theorem RefAt.f4 (h : RefAt w bs bc g cap N s) : w.cell? ⟨bs, 4, none⟩ = some (.int .i64 s.y) := cell_of_block h.blk 4
theorem RefAt.f5 (h : RefAt w bs bc g cap N s) : w.cell? ⟨bs, 5, none⟩ = some (.bool s.pend) := cell_of_block h.blk 5
theorem RefAt.f6 (h : RefAt w bs bc g cap N s) : w.cell? ⟨bs, 6, none⟩ = some (.int .i64 s.pen.f) := cell_of_block h.blk 6
theorem RefAt.f7 (h : RefAt w bs bc g cap N s) : w.cell? ⟨bs, 7, none⟩ = some (.int .i64 s.pen.b) := cell_of_block h.blk 7
theorem RefAt.f8 (h : RefAt w bs bc g cap N s) : w.cell? ⟨bs, 8, none⟩ = some (.bool s.pen.bo) := cell_of_block h.blk 8
theorem RefAt.f9 (h : RefAt w bs bc g cap N s) : w.cell? ⟨bs, 9, none⟩ = some (.bool s.pen.un) := cell_of_block h.blk 9
theorem RefAt.f10 (h : RefAt w bs bc g cap N s) : w.cell? ⟨bs, 10, none⟩ = some (.bool s.pen.re) := cell_of_block h.blk 10
theorem RefAt.f11 (h : RefAt w bs bc g cap N s) : w.cell? ⟨bs, 11, none⟩ = some (.int .i64 s.top) := cell_of_block h.blk 11
theorem RefAt.f12 (h : RefAt w bs bc g cap N s) : w.cell? ⟨bs, 12, none⟩ = some (.int .i64 s.bot) := cell_of_block h.blk 12
theorem RefAt.f13 (h : RefAt w bs bc g cap N s) : w.cell? ⟨bs, 13, none⟩ = some (.bool false) := cell_of_block h.blk 13
theorem RefAt.f14 (h : RefAt w bs bc g cap N s) : w.cell? ⟨bs, 14, none⟩ = some (.string s.B) := cell_of_block h.blk 14
theorem RefAt.f15 (h : RefAt w bs bc g cap N s) : w.cell? ⟨bs, 15, none⟩ = some (.int .i64 s.odd) := cell_of_block h.blk 15
theorem RefAt.setX (h : RefAt w bs bc g cap N s) (v : Int) : RefAt (w.setCell ⟨bs, 3, none⟩ (.int .i64 v)) bs bc g cap N { s with x := v } := h.store 3 _ { s with x := v } rfl rfl rfl rfl
theorem RefAt.setY (h : RefAt w bs bc g cap N s) (v : Int) : RefAt (w.setCell ⟨bs, 4, none⟩ (.int .i64 v)) bs bc g cap N { s with y := v } := h.store 4 _ { s with y := v } rfl rfl rfl rfl
theorem RefAt.setPend (h : RefAt w bs bc g cap N s) (v : Bool) : RefAt (w.setCell ⟨bs, 5, none⟩ (.bool v)) bs bc g cap N { s with pend := v } := h.store 5 _ { s with pend := v } rfl rfl rfl rfl
theorem RefAt.setTop (h : RefAt w bs bc g cap N s) (v : Int) : RefAt (w.setCell ⟨bs, 11, none⟩ (.int .i64 v)) bs bc g cap N { s with top := v } := h.store 11 _ { s with top := v } rfl rfl rfl rfl
theorem RefAt.setBot (h : RefAt w bs bc g cap N s) (v : Int) : RefAt (w.setCell ⟨bs, 12, none⟩ (.int .i64 v)) bs bc g cap N { s with bot := v } := h.store 12 _ { s with bot := v } rfl rfl rfl rfl
theorem RefAt.setB (h : RefAt w bs bc g cap N s) (v : ByteArray) : RefAt (w.setCell ⟨bs, 14, none⟩ (.string v)) bs bc g cap N { s with B := v } := h.store 14 _ { s with B := v } rfl rfl rfl rfl
theorem RefAt.setOdd (h : RefAt w bs bc g cap N s) (v : Int) : RefAt (w.setCell ⟨bs, 15, none⟩ (.int .i64 v)) bs bc g cap N { s with odd := v } := h.store 15 _ { s with odd := v } rfl rfl rfl rfl
theorem RefAt.setXYP (h : RefAt w bs bc g cap N s) (a b : Int) : RefAt (((w.setCell ⟨bs, 3, none⟩ (.int .i64 a)).setCell ⟨bs, 4, none⟩ (.int .i64 b)).setCell ⟨bs, 5, none⟩ (.bool false)) bs bc g cap N { s with x := a, y := b, pend := false } :=
  ((h.setX a).setY b).setPend false
theorem keep_xyp (w : World) (bs : Nat) (a b c : Value) : Keep (fun i => i = bs) w (((w.setCell ⟨bs, 3, none⟩ a).setCell ⟨bs, 4, none⟩ b).setCell ⟨bs, 5, none⟩ c) :=
  (((Keep.refl (fun i => i = bs) w).setCell ⟨bs, 3, none⟩ a (fun _ => rfl)).setCell ⟨bs, 4, none⟩ b (fun _ => rfl)).setCell ⟨bs, 5, none⟩ c (fun _ => rfl)
theorem RefAt.drewN (h : RefAt w bs bc g cap N s) (n : Nat) : RefAt (w.drewN n) bs bc g cap N s := h.same rfl rfl rfl
end
/-- What a call leaves: a result, and the screen. -/
def RPost (bs bc g : Nat) (w : World) (s : Rs) (r : Value) (e : Ending) (w' : World) : Prop :=
  ∃ g' cap' N', e = .returned r ∧ RefAt w' bs bc g' cap' N' s ∧ Keep (fun i => i = bs ∨ i = bc ∨ i = g) w w' ∧ (g' = g ∨ w.heap.size ≤ g')
theorem rpost {bs bc g g' cap' N' : Nat} {w w' : World} {s : Rs} {r : Value} (h : RefAt w' bs bc g' cap' N' s) (k : Keep (fun i => i = bs ∨ i = bc ∨ i = g) w w') (hg : g' = g ∨ w.heap.size ≤ g') : RPost bs bc g w s r (.returned r) w' := ⟨g', cap', N', rfl, h, k, hg⟩
end Go.Proofs.Ytjlfibhbfdckpaa

/- The document's screen: put. -/
namespace Go.Proofs.Ytjlfibhbfdckpaa
open Wd (wd)
/-- The letter that is put, and its width, on a screen of W columns. -/
def effR (W : Nat) (r : Int) : Int := if wd r = 2 ∧ W = 1 then 32 else r
def effW (W : Nat) (r : Int) : Int := if wd r = 2 ∧ W = 1 then 1 else wd r
/-- Does the letter begin a line? -/
def wraps (s : Rs) (k : Int) : Bool := s.pend || (decide (k = 2) && decide (s.x = (s.W : Int) - 1))
def brokenR (s : Rs) (k : Int) : Rs := if wraps s k = true then linefeedR { s with x := 0 } else s
def writeR (s : Rs) (r : Int) : Rs := { s with G := writeG s.W s.H s.G s.x s.y r s.pen }
def stepR (s : Rs) (k : Int) : Rs := if (s.W : Int) ≤ s.x + k then { s with x := (s.W : Int) - 1, pend := true } else { s with x := s.x + k }
def putR (s : Rs) (r : Int) : Rs :=
  if wd r = 0 then { s with odd := Go.RowKit.wrap64 (s.odd + 1) } else stepR (writeR (brokenR s (effW s.W r)) (effR s.W r)) (effW s.W r)
theorem ok_x0' {s : Rs} (h : s.Ok) : Rs.Ok { ({ s with x := 0 } : Rs) with pend := false } := ⟨h.w1, h.w2, h.h1, h.h2, Int.le_refl 0, by have := h.w1; show (0 : Int) < s.W; omega, h.y0, h.y1, h.t0, h.tb, h.b1, (fun q => by cases q), h.wf⟩
theorem Rs.Ok.goes {s : Rs} (h : s.Ok) (x y : Int) : (goesR s x y).Ok := by
  have a := clampI_in x s.W h.w1
  have b := clampI_in y s.H h.h1
  exact ⟨h.w1, h.w2, h.h1, h.h2, a.1, a.2, b.1, b.2, h.t0, h.tb, h.b1, (fun q => by cases q), h.wf⟩
theorem ok_scroll {s : Rs} (h : s.Ok) (n : Int) (p : Pn) : Rs.Ok { s with G := scrollG s.top s.bot n p s.G } :=
  ⟨h.w1, h.w2, h.h1, h.h2, h.x0, h.x1, h.y0, h.y1, h.t0, h.tb, h.b1, h.pd, h.wf.scroll _ _ _ _ h.t0 h.b1⟩
theorem ok_pend {s : Rs} (h : s.Ok) : Rs.Ok { s with pend := false } :=
  ⟨h.w1, h.w2, h.h1, h.h2, h.x0, h.x1, h.y0, h.y1, h.t0, h.tb, h.b1, (fun q => by cases q), h.wf⟩
/-- The cursor at column 0, whatever is pending. -/
theorem ok_lf {s : Rs} (h : s.Ok) : (linefeedR { s with x := 0 }).Ok := by
  have hx : (0 : Int) < s.W := by have := h.w1; omega
  unfold linefeedR
  split
  · exact ⟨h.w1, h.w2, h.h1, h.h2, Int.le_refl 0, hx, h.y0, h.y1, h.t0, h.tb, h.b1, (fun q => by cases q), h.wf.scroll _ _ _ _ h.t0 h.b1⟩
  · have a := clampI_in 0 s.W h.w1
    have b := clampI_in (s.y + 1) s.H h.h1
    exact ⟨h.w1, h.w2, h.h1, h.h2, a.1, a.2, b.1, b.2, h.t0, h.tb, h.b1, (fun q => by cases q), h.wf⟩
theorem Rs.Ok.lf {s : Rs} (h : s.Ok) : (linefeedR s).Ok := by
  unfold linefeedR
  split
  · exact ok_pend (ok_scroll h 1 (backR s))
  · exact h.goes _ _
theorem Rs.Ok.broken {s : Rs} (h : s.Ok) (k : Int) : (brokenR s k).Ok := by
  unfold brokenR
  split
  · exact ok_lf h
  · exact h
end Go.Proofs.Ytjlfibhbfdckpaa
