/- Texts of the proof, one behind the other: PgI, PgJ, PgK. -/
import Derived.Test.YtjlfibhbfdckpaaGreatDoorK03
import Derived.Test.YtjlfibhbfdckpaaGreatDoorK06
import Derived.Laws.IdiomCopy
import Derived.OwnWalk
/- copy of rows of cells. -/
namespace Go.Proofs.YtjlfibhbfdckpaaGreatDoor
open Go.RowKit
def copyF (L M : Nat → Cel) (d s k : Nat) : Nat → Cel := fun i => if d ≤ i ∧ i < d + k then M (s + (i - d)) else L i
def rowOf (M : Nat → Cel) (s k : Nat) : List Cel := (List.range k).map (fun i => M (s + i))
theorem rowOf_length (M : Nat → Cel) (s k : Nat) : (rowOf M s k).length = k := by simp [rowOf]
theorem rowOf_at (M : Nat → Cel) (s k i : Nat) (h : i < k) : (rowOf M s k)[i]? = some (M (s + i)) := by simp [rowOf, h]
theorem vals_len (c : Cel) : c.vals.length = 7 := rfl
theorem flat_get (L : List Cel) (j : Nat) (v : Value) (h : (flat L)[j]? = some v) : ∃ c, L[j / 7]? = some c ∧ c.vals[j % 7]? = some v := by
  have hj : j < L.length * 7 := by
    rw [← flat_length]
    rcases Nat.lt_or_ge j (flat L).length with l | l
    · exact l
    · rw [List.getElem?_eq_none l] at h; simp at h
  have hd : j / 7 < L.length := by omega
  have hc : L[j / 7]? = some L[j / 7] := List.getElem?_eq_getElem hd
  have hm : j % 7 < L[j / 7].vals.length := by rw [vals_len]; omega
  refine ⟨_, hc, ?_⟩
  have := flat_at L (j / 7) _ hc (j % 7) _ (List.getElem?_eq_getElem hm)
  rw [show j / 7 * 7 + j % 7 = j by omega, h] at this
  rw [List.getElem?_eq_getElem hm]
  exact this.symm
theorem CelAt.get {w : World} {g o : Nat} {c : Cel} (h : CelAt w g o c) {j : Nat} {v : Value} (hv : c.vals[j]? = some v) : w.cell? ⟨g, o + j, none⟩ = some v := by
  obtain ⟨h0, h1, h2, h3, h4, h5, h6⟩ := h
  match j, hv with
  | 0, hv => simp at hv; subst hv; exact h0
  | 1, hv => simp at hv; subst hv; exact h1
  | 2, hv => simp at hv; subst hv; exact h2
  | 3, hv => simp at hv; subst hv; exact h3
  | 4, hv => simp at hv; subst hv; exact h4
  | 5, hv => simp at hv; subst hv; exact h5
  | 6, hv => simp at hv; subst hv; exact h6
  | j + 7, hv => simp at hv
theorem Flat.setCells {w : World} {g n : Nat} {L : Nat → Cel} (h : Flat w g n L) (M : Nat → Cel) (d s k : Nat) (hk : d + k ≤ n) : Flat (w.setCells g (d * 7) (flat (rowOf M s k))) g n (copyF L M d s k) := by
  have len : (flat (rowOf M s k)).length = k * 7 := by rw [flat_length, rowOf_length]
  have there : ∀ j, j < (flat (rowOf M s k)).length → (w.cell? ⟨g, d * 7 + j, none⟩).isSome = true := by
    intro j hj
    rw [len] at hj
    have c := h.cel (d + j / 7) (by omega)
    have hm : j % 7 < (L (d + j / 7)).vals.length := by rw [vals_len]; omega
    have := c.get (List.getElem?_eq_getElem hm)
    rw [show (d + j / 7) * 7 + j % 7 = d * 7 + j by omega] at this
    rw [this]; rfl
  refine ⟨fun i hi => ?_, fun o => by rw [World.frozen?_setCells]; exact h.free o⟩
  unfold copyF
  by_cases e : d ≤ i ∧ i < d + k
  · rw [if_pos e]
    have key : ∀ j (v : Value), j < 7 → (M (s + (i - d))).vals[j]? = some v → (w.setCells g (d * 7) (flat (rowOf M s k))).cell? ⟨g, i * 7 + j, none⟩ = some v := by
      intro j v hj hv
      have hl : (i - d) * 7 + j < (flat (rowOf M s k)).length := by rw [len]; omega
      have a := World.cell?_setCells_in g (flat (rowOf M s k)) (d * 7) w there ((i - d) * 7 + j) hl
      rw [show d * 7 + ((i - d) * 7 + j) = i * 7 + j by omega] at a
      rw [a, ← List.getElem?_eq_getElem hl]
      exact flat_at _ _ _ (rowOf_at M s k (i - d) (by omega)) j v hv
    exact ⟨key 0 _ (by omega) rfl, key 1 _ (by omega) rfl, key 2 _ (by omega) rfl, key 3 _ (by omega) rfl, key 4 _ (by omega) rfl, key 5 _ (by omega) rfl, key 6 _ (by omega) rfl⟩
  · rw [if_neg e]
    have key : ∀ j, j < 7 → (w.setCells g (d * 7) (flat (rowOf M s k))).cell? ⟨g, i * 7 + j, none⟩ = w.cell? ⟨g, i * 7 + j, none⟩ := fun j hj =>
      World.cell?_setCells_out g _ _ _ _ (fun _ _ => by rw [len]; simp; omega)
    have := h.cel i hi
    simp only [CelAt] at this ⊢
    rw [show i * 7 = i * 7 + 0 by omega, key 0 (by omega)]
    simp only [Nat.add_zero]
    rw [key 1 (by omega), key 2 (by omega), key 3 (by omega), key 4 (by omega), key 5 (by omega), key 6 (by omega)]
    exact this
theorem Keep.setCells {F : Nat → Prop} {a : World} (g : Nat) (hp : g < a.heap.size → F g) : ∀ (vs : List Value) (o : Nat) {b : World}, Keep F a b → Keep F a (b.setCells g o vs)
  | [], _, _, h => h
  | _ :: r, o, _, h => Keep.setCells g hp r (o + 1) (h.setCell ⟨g, o, none⟩ _ hp)
theorem flat_oneCell (L : List Cel) : ∀ v ∈ flat L, v.oneCell' = true := by
  intro v hv
  simp [flat] at hv
  obtain ⟨c, _, h⟩ := hv
  rcases h with h | h | h | h | h | h | h <;> (subst h; rfl)
theorem run_copy_cel {P : Program} (w : World) (dT sT ty elem : TypeId) (g gs n ns : Nat) (L M : Nat → Cel) (d s dLen dCap sLen sCap k : Nat)
    (hu : P.underlying dT = some (.slice elem)) (hs : (P.info? elem).map (·.size) = some 7) (hn : k = Nat.min sLen dLen) (hd : Flat w g n L) (hsrc : Flat w gs ns M) (h1 : d + k ≤ n) (h2 : s + k ≤ ns) :
    (Builtin.copy_ #[dT, sT] ty #[.slice (some ⟨g, d * 7, none⟩) dLen dCap, .slice (some ⟨gs, s * 7, none⟩) sLen sCap]).run P w = .ok (goInt k) (w.setCells g (d * 7) (flat (rowOf M s k))) := by
  have len : (flat (rowOf M s k)).length = k * 7 := by rw [flat_length, rowOf_length]
  have hl := run_loadCells_list (P := P) w ⟨gs, s * 7, none⟩ (flat (rowOf M s k)) (fun j v hv => by
    obtain ⟨c, hc, hv'⟩ := flat_get _ _ _ hv
    have hj : j / 7 < k := by
      rcases Nat.lt_or_ge (j / 7) (rowOf M s k).length with l | l
      · rwa [rowOf_length] at l
      · rw [List.getElem?_eq_none l] at hc; simp at hc
    rw [rowOf_at _ _ _ _ hj] at hc
    cases hc
    have := (hsrc.cel (s + j / 7) (by omega)).get hv'
    rw [show (s + j / 7) * 7 + j % 7 = s * 7 + j by omega] at this
    have e : (⟨gs, s * 7, none⟩ : Addr).add j = ⟨gs, s * 7 + j, none⟩ := by unfold Addr.add; split <;> simp_all
    rw [e]; exact this)
  have hst := run_storeCells_cells (P := P) g (d * 7) (flat (rowOf M s k)) 0 w (fun j hj => by
    rw [len] at hj
    have c := hd.cel (d + j / 7) (by omega)
    have hm : j % 7 < (L (d + j / 7)).vals.length := by rw [vals_len]; omega
    have := c.get (List.getElem?_eq_getElem hm)
    rw [show (d + j / 7) * 7 + j % 7 = d * 7 + 0 + j by omega] at this
    rw [this]; rfl) (fun j _ => hd.free _) (flat_oneCell _)
  rw [len] at hl
  cases hq : P.info? elem with
  | none => simp [hq] at hs
  | some i =>
    have hi : i.size = 7 := by simpa [hq] using hs
    simp [Builtin.copy_, run_underlying hu, Builtin.lenOf, Builtin.firstCells, sizeOf, typeInfo, hq, hi, ← hn, hl, hst]
end Go.Proofs.YtjlfibhbfdckpaaGreatDoor

/- copy of rows of cells, as a law for the walk. -/
namespace Go.Proofs.YtjlfibhbfdckpaaGreatDoor
open Go.RowKit
theorem copyF_none (L M : Nat → Cel) (d s : Nat) : copyF L M d s 0 = L := by
  funext i; unfold copyF; rw [if_neg (by omega)]
theorem run_copy_no {P : Program} (w : World) (dT sT ty elem : TypeId) (d a : Option Addr) (dLen dCap sLen sCap : Nat) (hu : P.underlying dT = some (.slice elem)) (hs : (P.info? elem).map (·.size) = some 7) (hn : Nat.min sLen dLen = 0) :
    (Builtin.copy_ #[dT, sT] ty #[.slice d dLen dCap, .slice a sLen sCap]).run P w = .ok (goInt 0) w := by
  cases hq : P.info? elem with
  | none => simp [hq] at hs
  | some i =>
    have hl : ∀ (x : Addr), (loadCells x 0).run P w = .ok #[] w := fun x => by simpa using run_loadCells_list (P := P) w x [] (by simp)
    cases d <;> cases a <;> simp [Builtin.copy_, run_underlying hu, Builtin.lenOf, Builtin.firstCells, sizeOf, typeInfo, hq, hn, storeCells, hl]
theorem wpList_copy_cel {P : Program} {w : World} {ops : Array Oper} {rest : List Oper} {o : Oper} {a : Act} {Q : Exit → Act → World → Prop} (hgd : o.guard = none) (d s : Operand) (dT sT : TypeId)
    (ho : o.op = .call { callee := .builtin .copy, args := #[d, s], argTypes := #[dT, sT] }) (elem : TypeId) (hu : P.underlying dT = some (.slice elem)) (hsz : (P.info? elem).map (·.size) = some 7)
    (dp sp : Option Addr) (dLen dCap sLen sCap : Nat) (hd : a.eval d = .slice dp dLen dCap) (hs : a.eval s = .slice sp sLen sCap)
    (g gs n ns : Nat) (L M : Nat → Cel) (di si k : Nat) (F : Flat w g n L) (S : Flat w gs ns M) (hn : k = Nat.min sLen dLen)
    (hpos : 0 < k → dp = some ⟨g, di * 7, none⟩ ∧ sp = some ⟨gs, si * 7, none⟩ ∧ di + k ≤ n ∧ si + k ≤ ns)
    (h : ∀ w', Hid (Flat w' g n (copyF L M di si k)) → Keep (fun i => i = g) w w' → wpList P ops Q rest (a.put o.dst (goInt k)) w') :
    wpList P ops Q (o :: rest) a w := by
  refine wpList_plain hgd fun K hK => ?_
  by_cases h0 : k = 0
  · subst h0
    have hrun := run_copy_no (P := P) w dT sT o.type elem dp sp dLen dCap sLen sCap hu hsz hn.symm
    unfold Oper.wp
    simp [execOp, ho, resolve, invoke, builtin, hd, hs, hrun, Result.andThen]
    exact hK _ _ (h w (show Flat _ _ _ _ by rw [copyF_none]; exact F) (Keep.refl _ _))
  · obtain ⟨rfl, rfl, b1, b2⟩ := hpos (by omega)
    have hrun := run_copy_cel (P := P) w dT sT o.type elem g gs n ns L M di si dLen dCap sLen sCap k hu hsz hn F S b1 b2
    unfold Oper.wp
    simp [execOp, ho, resolve, invoke, builtin, hd, hs, hrun, Result.andThen]
    exact hK _ _ (h _ (F.setCells M di si k b1) (Keep.setCells (F := fun i => i = g) g (fun _ => rfl) _ _ (Keep.refl _ _)))
theorem cellSize : (Tryz.prog.info? 38).map (·.size) = some 7 := by kernel_rfl
end Go.Proofs.YtjlfibhbfdckpaaGreatDoor

/- The program's grid: Scroll. -/
namespace Go.Proofs.YtjlfibhbfdckpaaGreatDoor
open Go.RowKit
attribute [local go_sem ↓] Go.wp_at_zero Go.wp_at_succ
def scrollF (L : Nat → Cel) (m k : Nat) (s : Int) (p : Pn) : Nat → Cel :=
  if 0 ≤ s then fillF (copyF L L m (m + s.toNat) (k - s.toNat)) (m + (k - s.toNat)) s.toNat p
  else fillF (copyF L L (m + (-s).toNat) m (k - (-s).toNat)) m (-s).toNat p
theorem run_copy_any {P : Program} (w : World) (dT sT ty elem : TypeId) (g gs n ns : Nat) (L M : Nat → Cel) (dp sp : Option Addr) (d s dLen dCap sLen sCap k : Nat)
    (hu : P.underlying dT = some (.slice elem)) (hs : (P.info? elem).map (·.size) = some 7) (hn : k = Nat.min sLen dLen) (hd : Flat w g n L) (hsrc : Flat w gs ns M)
    (hpos : 0 < k → dp = some ⟨g, d * 7, none⟩ ∧ sp = some ⟨gs, s * 7, none⟩ ∧ d + k ≤ n ∧ s + k ≤ ns) :
    ∃ w', (Builtin.copy_ #[dT, sT] ty #[.slice dp dLen dCap, .slice sp sLen sCap]).run P w = .ok (goInt k) w' ∧ Flat w' g n (copyF L M d s k) ∧ Keep (fun i => i = g) w w' := by
  by_cases h0 : k = 0
  · subst h0
    exact ⟨w, run_copy_no w dT sT ty elem dp sp dLen dCap sLen sCap hu hs hn.symm, by rw [copyF_none]; exact hd, Keep.refl _ _⟩
  · obtain ⟨rfl, rfl, b1, b2⟩ := hpos (by omega)
    exact ⟨_, run_copy_cel w dT sT ty elem g gs n ns L M d s dLen dCap sLen sCap k hu hs hn hd hsrc b1 b2, hd.setCells M d s k b1, Keep.setCells (F := fun i => i = g) g (fun _ => rfl) _ _ (Keep.refl _ _)⟩
set_option maxRecDepth 10000 in
set_option maxHeartbeats 600000 in
theorem pScroll (bg g W H N : Nat) (G : Nat → Nat → Cel) (top bot m k c : Nat) (n b s : Int) (p : Pn) (w : World) (h : GrAt w bg g W H N G) (ht : top ≤ bot) (hb : bot < H) (hc : top + c = bot + 1) (hm : top * W = m) (hk : c * W = k) (hk1 : 0 < k) (hbt : betweenI n (-c) c = b) (hs : b * W = s) :
    Calls Tryz.prog 141 #[.pointer (some ⟨bg, 0, none⟩), .int .i64 top, .int .i64 bot, .int .i64 n, p.agg] w fun e w' => e = .returned (.tuple #[]) ∧ Flat w' g N (scrollF (lin W G) m k s p) ∧ Keep (fun i => i = g) w w' := by
  have HG : Hid (GrAt w bg g W H N G) := h
  have w1 := h.w1
  have w2 := h.w2
  have h2 := h.h2
  have nle := h.nle
  have hb1 : -(c : Int) ≤ b ∧ b ≤ c := by rw [← hbt]; unfold betweenI greatestI leastI; split <;> split <;> omega
  have hkm : m + k ≤ N := by
    rw [h.hN, ← hm, ← hk, ← Nat.add_mul]; exact Nat.mul_le_mul_right W (by omega)
  have hs1 : -(k : Int) ≤ s ∧ s ≤ k := by
    rw [← hs, ← hk, Int.natCast_mul]
    constructor
    · rw [← Int.neg_mul]; exact Int.mul_le_mul_of_nonneg_right hb1.1 (by omega)
    · exact Int.mul_le_mul_of_nonneg_right hb1.2 (by omega)
  have e1 : (top : Int) * W = m := by rw [← hm]; simp
  have e2 : ((bot : Int) + 1) * W = m + k := by
    rw [show (bot : Int) + 1 = top + c by omega, Int.add_mul, e1, ← hk]; simp
  have e3 : (bot : Int) - top + 1 = c := by omega
  obtain ⟨hs1, hs2⟩ := hs1
  obtain ⟨hb1, hb2⟩ := hb1
  clear h hm hk
  go_enter Tryz.func141, Tryz.ntmps141
  go_wp2_with fail
  have hbl : Below w.heap.size w (w.alloc (.cells #[.int .i64 p.f, .int .i64 p.b, .bool p.bo, .bool p.un, .bool p.re] 33)) := (Below.refl _ _).alloc (Nat.le_refl _) _
  have G1 := HG.out.below hbl
  have K1 : Keep (fun i => i = g) w (w.alloc (.cells #[.int .i64 p.f, .int .i64 p.b, .bool p.bo, .bool p.un, .bool p.re] 33)) := Keep.below _ hbl
  have P1 := pen_new w p 33
  generalize w.alloc (.cells #[.int .i64 p.f, .int .i64 p.b, .bool p.bo, .bool p.un, .bool p.re] 33) = wa at *
  have hgb := HG.out.glt
  have np : ¬ w.heap.size = g := by omega
  generalize hB : w.heap.size = Bp at *
  clear hbl HG hgb
  have c0 := G1.c0
  have c2 := G1.c2
  have HG1 : Hid (GrAt wa bg g W H N G) := G1
  have HP1 : Hid (PenAt wa Bp 0 p) := P1
  clear G1 P1
  go_quiet ((go_at_call 156; exact Calls.quiet_of_same (pBetween _ _ _ _)))
  have G2 : GrAt (wa.drewN nq) bg g W H N G := HG1.out.same rfl rfl
  have P2 : PenAt (wa.drewN nq) Bp 0 p := HP1.out.same rfl
  have K2 : Keep (fun i => i = g) w (wa.drewN nq) := K1.drewN nq
  generalize wa.drewN nq = wb at *
  clear HG1 HP1 K1 c0 c2
  have c0 := G2.c0
  have c2 := G2.c2
  have HG2 : Hid (GrAt wb bg g W H N G) := G2
  have HP2 : Hid (PenAt wb Bp 0 p) := P2
  clear G2 P2
  go_wp2_with fail
  go_quiet (fail)
  rw [show m + k - m = k by omega]
  have HF3 : Hid (Flat (wb.drewN nq) g N (lin W G)) := HG2.out.flat.same rfl
  have HP3 : Hid (PenAt (wb.drewN nq) Bp 0 p) := HP2.out.same rfl
  have K3 : Keep (fun i => i = g) w (wb.drewN nq) := K2.drewN nq
  generalize wb.drewN nq = wd at *
  clear HG2 HP2 K2 c0 c2 hbt e1 e2 e3 hc hb1 hb2 hs
  have hk8 : k ≤ 800 := by omega
  obtain ⟨r, hr⟩ : ∃ r, N - m = r := ⟨_, rfl⟩
  have hkr : k ≤ r := by omega
  have hr8 : r ≤ 800 := by omega
  have hNm : ¬ N = m := by omega
  have hr0 : ¬ r = 0 := by omega
  rw [hr]
  by_cases hs0 : 0 ≤ s
  · obtain ⟨q, rfl⟩ := Int.eq_ofNat_of_zero_le hs0
    obtain ⟨z, hz⟩ : ∃ z, k - q = z := ⟨_, rfl⟩
    have hq1 : q ≤ k := by omega
    have hzq : k - z = q := by omega
    have hqz : q + z = k := by omega
    have mn : Nat.min z k = z := Nat.min_eq_left (by omega)
    have hzi : IntKind.i64.wrap ((k : Int) - (q : Int)) = (z : Int) := by rw [wrap_id _ (by omega) (by omega)]; omega
    have z3 : (z : Int) ≤ (k : Int) := by omega
    have z1 : (0 : Int) ≤ z := by omega
    have Hqz : Hid (q + z = k) := hqz
    clear hqz
    by_cases hq : r = q
    · have Hz0 : Hid (z = 0) := by show z = 0; omega
      have hrz : ¬ r = z := by omega
      subst hq
      go_wp2_with fail
      obtain ⟨w5, hrun, F5, K45⟩ := run_copy_any (P := Tryz.prog) wd 120 120 3 38 g g N N (lin W G) (lin W G) (some ⟨g, m * 7, none⟩) (some ⟨g, m * 7, none⟩) m (m + r) k r z 0 z Tryz.underlying120 cellSize mn.symm HF3.out HF3.out (fun h => by have := Hz0.out; omega)
      rw [hrun]
      have HF5 : Hid (Flat w5 g N (copyF (lin W G) (lin W G) m (m + r) z)) := F5
      have K5 : Keep (fun i => i = g) w w5 := K3.trans K45 (fun _ _ h => h)
      have HP5 : Hid (PenAt w5 Bp 0 p) := HP3.out.keep K45 np
      clear hrun F5 K45 HF3 HP3 K3
      go_wp2_with fail
      obtain ⟨p0, p1, p2, p3, p4⟩ := HP5.out
      simp only [Nat.zero_add] at p1 p2 p3 p4
      have lp5 : Bp < w5.heap.size := World.block_lt_of_cell? _ _ p0
      have HF6 : Hid (Flat w5.drew g N (copyF (lin W G) (lin W G) m (m + r) z)) := HF5.out.same rfl
      go_region_held3 (fun w' => w'.cell? ⟨Bp, 0, none⟩ = some (.int .i64 p.f) ∧ w'.cell? ⟨Bp, 1, none⟩ = some (.int .i64 p.b) ∧ w'.cell? ⟨Bp, 2, none⟩ = some (.bool p.bo) ∧ w'.cell? ⟨Bp, 3, none⟩ = some (.bool p.un) ∧ w'.cell? ⟨Bp, 4, none⟩ = some (.bool p.re)) (simp [*]) (first | (go_at_call 148; refine (pFill g N (m + z) r (r - z) _ _ p _ HF6.out (fun _ => by rw [show (m + z) * 7 = m * 7 + z * 7 by omega]) (by omega) nle (by omega)).mono ?_; rintro e w6 ⟨rfl, F6, K6⟩; have e2 := keepC K6 lp5 np))
      go_wp2_with fail
      refine bodyPost_ret (v := .tuple #[]) (by simp [results, Tryz.results141, go_sem]) rfl ⟨rfl, ?_, (K5.drew).trans K6 (fun _ _ h => h)⟩
      unfold scrollF
      rw [if_pos (by omega), Int.toNat_natCast, hz]
      exact F6
    · go_wp2_with fail
      obtain ⟨w5, hrun, F5, K45⟩ := run_copy_any (P := Tryz.prog) wd 120 120 3 38 g g N N (lin W G) (lin W G) (some ⟨g, m * 7, none⟩) (some ⟨g, m * 7 + q * 7, none⟩) m (m + q) k r z (r - q) z Tryz.underlying120 cellSize mn.symm HF3.out HF3.out (fun h => ⟨rfl, by rw [show (m + q) * 7 = m * 7 + q * 7 by omega], by omega, by have := Hqz.out; omega⟩)
      rw [hrun]
      have HF5 : Hid (Flat w5 g N (copyF (lin W G) (lin W G) m (m + q) z)) := F5
      have K5 : Keep (fun i => i = g) w w5 := K3.trans K45 (fun _ _ h => h)
      have HP5 : Hid (PenAt w5 Bp 0 p) := HP3.out.keep K45 np
      clear hrun F5 K45 HF3 HP3 K3
      go_wp2_with fail
      obtain ⟨p0, p1, p2, p3, p4⟩ := HP5.out
      simp only [Nat.zero_add] at p1 p2 p3 p4
      have lp5 : Bp < w5.heap.size := World.block_lt_of_cell? _ _ p0
      have HF6 : Hid (Flat w5.drew g N (copyF (lin W G) (lin W G) m (m + q) z)) := HF5.out.same rfl
      by_cases hrz : r = z
      · have Hq0 : Hid (q = 0) := by show q = 0; omega
        go_region_held3 (fun w' => w'.cell? ⟨Bp, 0, none⟩ = some (.int .i64 p.f) ∧ w'.cell? ⟨Bp, 1, none⟩ = some (.int .i64 p.b) ∧ w'.cell? ⟨Bp, 2, none⟩ = some (.bool p.bo) ∧ w'.cell? ⟨Bp, 3, none⟩ = some (.bool p.un) ∧ w'.cell? ⟨Bp, 4, none⟩ = some (.bool p.re)) (simp [*]) (first | (go_at_call 148; refine (pFill g N (m + z) q _ _ _ p _ HF6.out (fun h => by have := Hq0.out; omega) (by omega) nle (by omega)).mono ?_; rintro e w6 ⟨rfl, F6, K6⟩; have e2 := keepC K6 lp5 np))
        go_wp2_with fail
        refine bodyPost_ret (v := .tuple #[]) (by simp [results, Tryz.results141, go_sem]) rfl ⟨rfl, ?_, (K5.drew).trans K6 (fun _ _ h => h)⟩
        unfold scrollF
        rw [if_pos (by omega), Int.toNat_natCast, hz]
        exact F6
      · skip
        go_region_held3 (fun w' => w'.cell? ⟨Bp, 0, none⟩ = some (.int .i64 p.f) ∧ w'.cell? ⟨Bp, 1, none⟩ = some (.int .i64 p.b) ∧ w'.cell? ⟨Bp, 2, none⟩ = some (.bool p.bo) ∧ w'.cell? ⟨Bp, 3, none⟩ = some (.bool p.un) ∧ w'.cell? ⟨Bp, 4, none⟩ = some (.bool p.re)) (simp [*]) (first | (go_at_call 148; refine (pFill g N (m + z) q (r - z) _ _ p _ HF6.out (fun _ => by rw [show (m + z) * 7 = m * 7 + z * 7 by omega]) (by omega) nle (by omega)).mono ?_; rintro e w6 ⟨rfl, F6, K6⟩; have e2 := keepC K6 lp5 np))
        go_wp2_with fail
        refine bodyPost_ret (v := .tuple #[]) (by simp [results, Tryz.results141, go_sem]) rfl ⟨rfl, ?_, (K5.drew).trans K6 (fun _ _ h => h)⟩
        unfold scrollF
        rw [if_pos (by omega), Int.toNat_natCast, hz]
        exact F6
  · obtain ⟨q, rfl⟩ : ∃ q : Nat, s = -(q : Int) := ⟨(-s).toNat, by omega⟩
    obtain ⟨z, hz⟩ : ∃ z, k - q = z := ⟨_, rfl⟩
    have hq1 : q ≤ k := by omega
    have hq0 : 0 < q := by omega
    have mn : Nat.min k z = z := Nat.min_eq_right (by omega)
    have hqi : IntKind.i64.wrap (-(-(q : Int))) = (q : Int) := by rw [wrap_id _ (by omega) (by omega)]; omega
    have hqj : IntKind.i64.wrap (q : Int) = (q : Int) := wrap_id _ (by omega) (by omega)
    have z3 : (q : Int) ≤ (k : Int) := by omega
    have z1 : (0 : Int) ≤ q := by omega
    have z4 : (q : Int) ≤ (r : Int) := by omega
    by_cases hq : r = q
    · have Hz0 : Hid (z = 0) := by show z = 0; omega
      subst hq
      go_wp2_with fail
      obtain ⟨w5, hrun, F5, K45⟩ := run_copy_any (P := Tryz.prog) wd 120 120 3 38 g g N N (lin W G) (lin W G) (some ⟨g, m * 7, none⟩) (some ⟨g, m * 7, none⟩) (m + r) m z 0 k r z Tryz.underlying120 cellSize mn.symm HF3.out HF3.out (fun h => by have := Hz0.out; omega)
      rw [hrun]
      have HF5 : Hid (Flat w5 g N (copyF (lin W G) (lin W G) (m + r) m z)) := F5
      have K5 : Keep (fun i => i = g) w w5 := K3.trans K45 (fun _ _ h => h)
      have HP5 : Hid (PenAt w5 Bp 0 p) := HP3.out.keep K45 np
      clear hrun F5 K45 HF3 HP3 K3
      go_wp2_with fail
      obtain ⟨p0, p1, p2, p3, p4⟩ := HP5.out
      simp only [Nat.zero_add] at p1 p2 p3 p4
      have lp5 : Bp < w5.heap.size := World.block_lt_of_cell? _ _ p0
      have HF6 : Hid (Flat w5.drew g N (copyF (lin W G) (lin W G) (m + r) m z)) := HF5.out.same rfl
      go_region_held3 (fun w' => w'.cell? ⟨Bp, 0, none⟩ = some (.int .i64 p.f) ∧ w'.cell? ⟨Bp, 1, none⟩ = some (.int .i64 p.b) ∧ w'.cell? ⟨Bp, 2, none⟩ = some (.bool p.bo) ∧ w'.cell? ⟨Bp, 3, none⟩ = some (.bool p.un) ∧ w'.cell? ⟨Bp, 4, none⟩ = some (.bool p.re)) (simp [*]) (first | (go_at_call 148; refine (pFill g N m r r _ _ p _ HF6.out (fun _ => rfl) (by omega) nle (by omega)).mono ?_; rintro e w6 ⟨rfl, F6, K6⟩; have e2 := keepC K6 lp5 np))
      go_wp2_with fail
      go_end0
      refine ⟨rfl, ?_, (K5.drew).trans K6 (fun _ _ h => h)⟩
      unfold scrollF
      rw [if_neg (by omega), Int.neg_neg, Int.toNat_natCast, hz]
      exact F6
    · go_wp2_with fail
      obtain ⟨w5, hrun, F5, K45⟩ := run_copy_any (P := Tryz.prog) wd 120 120 3 38 g g N N (lin W G) (lin W G) (some ⟨g, m * 7 + q * 7, none⟩) (some ⟨g, m * 7, none⟩) (m + q) m z (r - q) k r z Tryz.underlying120 cellSize mn.symm HF3.out HF3.out (fun h => ⟨by rw [show (m + q) * 7 = m * 7 + q * 7 by omega], rfl, by omega, by omega⟩)
      rw [hrun]
      have HF5 : Hid (Flat w5 g N (copyF (lin W G) (lin W G) (m + q) m z)) := F5
      have K5 : Keep (fun i => i = g) w w5 := K3.trans K45 (fun _ _ h => h)
      have HP5 : Hid (PenAt w5 Bp 0 p) := HP3.out.keep K45 np
      clear hrun F5 K45 HF3 HP3 K3
      go_wp2_with fail
      obtain ⟨p0, p1, p2, p3, p4⟩ := HP5.out
      simp only [Nat.zero_add] at p1 p2 p3 p4
      have lp5 : Bp < w5.heap.size := World.block_lt_of_cell? _ _ p0
      have HF6 : Hid (Flat w5.drew g N (copyF (lin W G) (lin W G) (m + q) m z)) := HF5.out.same rfl
      go_region_held3 (fun w' => w'.cell? ⟨Bp, 0, none⟩ = some (.int .i64 p.f) ∧ w'.cell? ⟨Bp, 1, none⟩ = some (.int .i64 p.b) ∧ w'.cell? ⟨Bp, 2, none⟩ = some (.bool p.bo) ∧ w'.cell? ⟨Bp, 3, none⟩ = some (.bool p.un) ∧ w'.cell? ⟨Bp, 4, none⟩ = some (.bool p.re)) (simp [*]) (first | (go_at_call 148; refine (pFill g N m q r _ _ p _ HF6.out (fun _ => rfl) (by omega) nle (by omega)).mono ?_; rintro e w6 ⟨rfl, F6, K6⟩; have e2 := keepC K6 lp5 np))
      go_wp2_with fail
      go_end0
      refine ⟨rfl, ?_, (K5.drew).trans K6 (fun _ _ h => h)⟩
      unfold scrollF
      rw [if_neg (by omega), Int.neg_neg, Int.toNat_natCast, hz]
      exact F6
end Go.Proofs.YtjlfibhbfdckpaaGreatDoor
