/- Texts of the proof, one behind the other: PgJ, PgK, Gr3, Gr4, PgL. -/
import Derived.Test.YtjlfibhbfdckpaaDoorK03
import Derived.OwnWalk
/- copy of rows of cells, as a law for the walk. -/
namespace Go.Proofs.YtjlfibhbfdckpaaDoor
open Go.RowKit
theorem copyF_none (L M : Nat → Cel) (d s : Nat) : copyF L M d s 0 = L := by
  funext i; unfold copyF; rw [if_neg (by omega)]
theorem run_copy_no {P : Program} (w : World) (dT sT ty elem : TypeId) (d a : Option Addr) (dLen dCap sLen sCap : Nat) (hu : P.underlying dT = some (.slice elem)) (hs : (P.info? elem).map (·.size) = some 7) (hn : Nat.min sLen dLen = 0) :
    (Builtin.copy_ #[dT, sT] ty #[.slice d dLen dCap, .slice a sLen sCap]).run P w = .ok (goInt 0) w := by
  cases hq : P.info? elem with
  | none => simp [hq] at hs
  | some i =>
    have hl : ∀ (x : Addr), (loadCells x 0).run P w = .ok #[] w := fun x => by simpa using run_loadCells_list (P := P) w x [] (by simp)
    cases d <;> cases a <;> simp [Builtin.copy_, run_underlying hu, Builtin.lenOf, Builtin.firstCells, sizeOf, typeInfo, hq, hn, storeCells, hl]
theorem wpList_copy_cel {P : Program} {w : World} {ops : Array Oper} {rest : List Oper} {o : Oper} {a : Act} {Q : Exit → Act → World → Prop} (hgd : o.guard = none) (d s : Operand) (dT sT : TypeId)
    (ho : o.op = .call { callee := .builtin .copy, args := #[d, s], argTypes := #[dT, sT] }) (elem : TypeId) (hu : P.underlying dT = some (.slice elem)) (hsz : (P.info? elem).map (·.size) = some 7)
    (dp sp : Option Addr) (dLen dCap sLen sCap : Nat) (hd : a.eval d = .slice dp dLen dCap) (hs : a.eval s = .slice sp sLen sCap)
    (g gs n ns : Nat) (L M : Nat → Cel) (di si k : Nat) (F : Flat w g n L) (S : Flat w gs ns M) (hn : k = Nat.min sLen dLen)
    (hpos : 0 < k → dp = some ⟨g, di * 7, none⟩ ∧ sp = some ⟨gs, si * 7, none⟩ ∧ di + k ≤ n ∧ si + k ≤ ns)
    (h : ∀ w', Hid (Flat w' g n (copyF L M di si k)) → Keep (fun i => i = g) w w' → wpList P ops Q rest (a.put o.dst (goInt k)) w') :
    wpList P ops Q (o :: rest) a w := by
  refine wpList_plain hgd fun K hK => ?_
  by_cases h0 : k = 0
  · subst h0
    have hrun := run_copy_no (P := P) w dT sT o.type elem dp sp dLen dCap sLen sCap hu hsz hn.symm
    unfold Oper.wp
    simp [execOp, ho, resolve, invoke, builtin, hd, hs, hrun, Result.andThen]
    exact hK _ _ (h w (show Flat _ _ _ _ by rw [copyF_none]; exact F) (Keep.refl _ _))
  · obtain ⟨rfl, rfl, b1, b2⟩ := hpos (by omega)
    have hrun := run_copy_cel (P := P) w dT sT o.type elem g gs n ns L M di si dLen dCap sLen sCap k hu hsz hn F S b1 b2
    unfold Oper.wp
    simp [execOp, ho, resolve, invoke, builtin, hd, hs, hrun, Result.andThen]
    exact hK _ _ (h _ (F.setCells M di si k b1) (Keep.setCells (F := fun i => i = g) g (fun _ => rfl) _ _ (Keep.refl _ _)))
theorem cellSize : (Tryd.prog.info? 56).map (·.size) = some 7 := by kernel_rfl
end Go.Proofs.YtjlfibhbfdckpaaDoor

/- The program's grid: Scroll. -/
namespace Go.Proofs.YtjlfibhbfdckpaaDoor
open Go.RowKit
attribute [local go_sem ↓] Go.wp_at_zero Go.wp_at_succ
def scrollF (L : Nat → Cel) (m k : Nat) (s : Int) (p : Pn) : Nat → Cel :=
  if 0 ≤ s then fillF (copyF L L m (m + s.toNat) (k - s.toNat)) (m + (k - s.toNat)) s.toNat p
  else fillF (copyF L L (m + (-s).toNat) m (k - (-s).toNat)) m (-s).toNat p
theorem run_copy_any {P : Program} (w : World) (dT sT ty elem : TypeId) (g gs n ns : Nat) (L M : Nat → Cel) (dp sp : Option Addr) (d s dLen dCap sLen sCap k : Nat)
    (hu : P.underlying dT = some (.slice elem)) (hs : (P.info? elem).map (·.size) = some 7) (hn : k = Nat.min sLen dLen) (hd : Flat w g n L) (hsrc : Flat w gs ns M)
    (hpos : 0 < k → dp = some ⟨g, d * 7, none⟩ ∧ sp = some ⟨gs, s * 7, none⟩ ∧ d + k ≤ n ∧ s + k ≤ ns) :
    ∃ w', (Builtin.copy_ #[dT, sT] ty #[.slice dp dLen dCap, .slice sp sLen sCap]).run P w = .ok (goInt k) w' ∧ Flat w' g n (copyF L M d s k) ∧ Keep (fun i => i = g) w w' := by
  by_cases h0 : k = 0
  · subst h0
    exact ⟨w, run_copy_no w dT sT ty elem dp sp dLen dCap sLen sCap hu hs hn.symm, by rw [copyF_none]; exact hd, Keep.refl _ _⟩
  · obtain ⟨rfl, rfl, b1, b2⟩ := hpos (by omega)
    exact ⟨_, run_copy_cel w dT sT ty elem g gs n ns L M d s dLen dCap sLen sCap k hu hs hn hd hsrc b1 b2, hd.setCells M d s k b1, Keep.setCells (F := fun i => i = g) g (fun _ => rfl) _ _ (Keep.refl _ _)⟩
set_option maxRecDepth 10000 in
set_option maxHeartbeats 600000 in
theorem pScroll (bg g W H N : Nat) (G : Nat → Nat → Cel) (top bot m k c : Nat) (n b s : Int) (p : Pn) (w : World) (h : GrAt w bg g W H N G) (ht : top ≤ bot) (hb : bot < H) (hc : top + c = bot + 1) (hm : top * W = m) (hk : c * W = k) (hk1 : 0 < k) (hbt : betweenI n (-c) c = b) (hs : b * W = s) :
    Calls Tryd.prog 105 #[.pointer (some ⟨bg, 0, none⟩), .int .i64 top, .int .i64 bot, .int .i64 n, p.agg] w fun e w' => e = .returned (.tuple #[]) ∧ Flat w' g N (scrollF (lin W G) m k s p) ∧ Keep (fun i => i = g) w w' := by
  have HG : Hid (GrAt w bg g W H N G) := h
  have w1 := h.w1
  have w2 := h.w2
  have h2 := h.h2
  have nle := h.nle
  have hb1 : -(c : Int) ≤ b ∧ b ≤ c := by rw [← hbt]; unfold betweenI greatestI leastI; split <;> split <;> omega
  have hkm : m + k ≤ N := by
    rw [h.hN, ← hm, ← hk, ← Nat.add_mul]; exact Nat.mul_le_mul_right W (by omega)
  have hs1 : -(k : Int) ≤ s ∧ s ≤ k := by
    rw [← hs, ← hk, Int.natCast_mul]
    constructor
    · rw [← Int.neg_mul]; exact Int.mul_le_mul_of_nonneg_right hb1.1 (by omega)
    · exact Int.mul_le_mul_of_nonneg_right hb1.2 (by omega)
  have e1 : (top : Int) * W = m := by rw [← hm]; simp
  have e2 : ((bot : Int) + 1) * W = m + k := by
    rw [show (bot : Int) + 1 = top + c by omega, Int.add_mul, e1, ← hk]; simp
  have e3 : (bot : Int) - top + 1 = c := by omega
  obtain ⟨hs1, hs2⟩ := hs1
  obtain ⟨hb1, hb2⟩ := hb1
  clear h hm hk
  go_enter Tryd.func105, Tryd.ntmps105
  go_wp2_with fail
  have hbl : Below w.heap.size w (w.alloc (.cells #[.int .i64 p.f, .int .i64 p.b, .bool p.bo, .bool p.un, .bool p.re] 44)) := (Below.refl _ _).alloc (Nat.le_refl _) _
  have G1 := HG.out.below hbl
  have K1 : Keep (fun i => i = g) w (w.alloc (.cells #[.int .i64 p.f, .int .i64 p.b, .bool p.bo, .bool p.un, .bool p.re] 44)) := Keep.below _ hbl
  have P1 := pen_new w p 44
  generalize w.alloc (.cells #[.int .i64 p.f, .int .i64 p.b, .bool p.bo, .bool p.un, .bool p.re] 44) = wa at *
  have hgb := HG.out.glt
  have np : ¬ w.heap.size = g := by omega
  generalize hB : w.heap.size = Bp at *
  clear hbl HG hgb
  have c0 := G1.c0
  have c2 := G1.c2
  have HG1 : Hid (GrAt wa bg g W H N G) := G1
  have HP1 : Hid (PenAt wa Bp 0 p) := P1
  clear G1 P1
  go_quiet ((go_at_call 69; exact Calls.quiet_of_same (pBetween _ _ _ _)))
  have G2 : GrAt (wa.drewN nq) bg g W H N G := HG1.out.same rfl rfl
  have P2 : PenAt (wa.drewN nq) Bp 0 p := HP1.out.same rfl
  have K2 : Keep (fun i => i = g) w (wa.drewN nq) := K1.drewN nq
  generalize wa.drewN nq = wb at *
  clear HG1 HP1 K1 c0 c2
  have c0 := G2.c0
  have c2 := G2.c2
  have HG2 : Hid (GrAt wb bg g W H N G) := G2
  have HP2 : Hid (PenAt wb Bp 0 p) := P2
  clear G2 P2
  go_wp2_with fail
  go_quiet (fail)
  rw [show m + k - m = k by omega]
  have HF3 : Hid (Flat (wb.drewN nq) g N (lin W G)) := HG2.out.flat.same rfl
  have HP3 : Hid (PenAt (wb.drewN nq) Bp 0 p) := HP2.out.same rfl
  have K3 : Keep (fun i => i = g) w (wb.drewN nq) := K2.drewN nq
  generalize wb.drewN nq = wd at *
  clear HG2 HP2 K2 c0 c2 hbt e1 e2 e3 hc hb1 hb2 hs
  have hk8 : k ≤ 800 := by omega
  obtain ⟨r, hr⟩ : ∃ r, N - m = r := ⟨_, rfl⟩
  have hkr : k ≤ r := by omega
  have hr8 : r ≤ 800 := by omega
  have hNm : ¬ N = m := by omega
  have hr0 : ¬ r = 0 := by omega
  rw [hr]
  by_cases hs0 : 0 ≤ s
  · obtain ⟨q, rfl⟩ := Int.eq_ofNat_of_zero_le hs0
    obtain ⟨z, hz⟩ : ∃ z, k - q = z := ⟨_, rfl⟩
    have hq1 : q ≤ k := by omega
    have hzq : k - z = q := by omega
    have hqz : q + z = k := by omega
    have mn : Nat.min z k = z := Nat.min_eq_left (by omega)
    have hzi : IntKind.i64.wrap ((k : Int) - (q : Int)) = (z : Int) := by rw [wrap_id _ (by omega) (by omega)]; omega
    have z3 : (z : Int) ≤ (k : Int) := by omega
    have z1 : (0 : Int) ≤ z := by omega
    have Hqz : Hid (q + z = k) := hqz
    clear hqz
    by_cases hq : r = q
    · have Hz0 : Hid (z = 0) := by show z = 0; omega
      have hrz : ¬ r = z := by omega
      subst hq
      go_wp2_with fail
      obtain ⟨w5, hrun, F5, K45⟩ := run_copy_any (P := Tryd.prog) wd 85 85 3 56 g g N N (lin W G) (lin W G) (some ⟨g, m * 7, none⟩) (some ⟨g, m * 7, none⟩) m (m + r) k r z 0 z Tryd.underlying85 cellSize mn.symm HF3.out HF3.out (fun h => by have := Hz0.out; omega)
      rw [hrun]
      have HF5 : Hid (Flat w5 g N (copyF (lin W G) (lin W G) m (m + r) z)) := F5
      have K5 : Keep (fun i => i = g) w w5 := K3.trans K45 (fun _ _ h => h)
      have HP5 : Hid (PenAt w5 Bp 0 p) := HP3.out.keep K45 np
      clear hrun F5 K45 HF3 HP3 K3
      go_wp2_with fail
      obtain ⟨p0, p1, p2, p3, p4⟩ := HP5.out
      simp only [Nat.zero_add] at p1 p2 p3 p4
      have lp5 : Bp < w5.heap.size := World.block_lt_of_cell? _ _ p0
      have HF6 : Hid (Flat w5.drew g N (copyF (lin W G) (lin W G) m (m + r) z)) := HF5.out.same rfl
      go_region_held3 (fun w' => w'.cell? ⟨Bp, 0, none⟩ = some (.int .i64 p.f) ∧ w'.cell? ⟨Bp, 1, none⟩ = some (.int .i64 p.b) ∧ w'.cell? ⟨Bp, 2, none⟩ = some (.bool p.bo) ∧ w'.cell? ⟨Bp, 3, none⟩ = some (.bool p.un) ∧ w'.cell? ⟨Bp, 4, none⟩ = some (.bool p.re)) (simp [*]) (first | (go_at_call 70; refine (pFill g N (m + z) r (r - z) _ _ p _ HF6.out (fun _ => by rw [show (m + z) * 7 = m * 7 + z * 7 by omega]) (by omega) nle (by omega)).mono ?_; rintro e w6 ⟨rfl, F6, K6⟩; have e2 := keepC K6 lp5 np))
      go_wp2_with fail
      refine bodyPost_ret (v := .tuple #[]) (by simp [results, Tryd.results105, go_sem]) rfl ⟨rfl, ?_, (K5.drew).trans K6 (fun _ _ h => h)⟩
      unfold scrollF
      rw [if_pos (by omega), Int.toNat_natCast, hz]
      exact F6
    · go_wp2_with fail
      obtain ⟨w5, hrun, F5, K45⟩ := run_copy_any (P := Tryd.prog) wd 85 85 3 56 g g N N (lin W G) (lin W G) (some ⟨g, m * 7, none⟩) (some ⟨g, m * 7 + q * 7, none⟩) m (m + q) k r z (r - q) z Tryd.underlying85 cellSize mn.symm HF3.out HF3.out (fun h => ⟨rfl, by rw [show (m + q) * 7 = m * 7 + q * 7 by omega], by omega, by have := Hqz.out; omega⟩)
      rw [hrun]
      have HF5 : Hid (Flat w5 g N (copyF (lin W G) (lin W G) m (m + q) z)) := F5
      have K5 : Keep (fun i => i = g) w w5 := K3.trans K45 (fun _ _ h => h)
      have HP5 : Hid (PenAt w5 Bp 0 p) := HP3.out.keep K45 np
      clear hrun F5 K45 HF3 HP3 K3
      go_wp2_with fail
      obtain ⟨p0, p1, p2, p3, p4⟩ := HP5.out
      simp only [Nat.zero_add] at p1 p2 p3 p4
      have lp5 : Bp < w5.heap.size := World.block_lt_of_cell? _ _ p0
      have HF6 : Hid (Flat w5.drew g N (copyF (lin W G) (lin W G) m (m + q) z)) := HF5.out.same rfl
      by_cases hrz : r = z
      · have Hq0 : Hid (q = 0) := by show q = 0; omega
        go_region_held3 (fun w' => w'.cell? ⟨Bp, 0, none⟩ = some (.int .i64 p.f) ∧ w'.cell? ⟨Bp, 1, none⟩ = some (.int .i64 p.b) ∧ w'.cell? ⟨Bp, 2, none⟩ = some (.bool p.bo) ∧ w'.cell? ⟨Bp, 3, none⟩ = some (.bool p.un) ∧ w'.cell? ⟨Bp, 4, none⟩ = some (.bool p.re)) (simp [*]) (first | (go_at_call 70; refine (pFill g N (m + z) q _ _ _ p _ HF6.out (fun h => by have := Hq0.out; omega) (by omega) nle (by omega)).mono ?_; rintro e w6 ⟨rfl, F6, K6⟩; have e2 := keepC K6 lp5 np))
        go_wp2_with fail
        refine bodyPost_ret (v := .tuple #[]) (by simp [results, Tryd.results105, go_sem]) rfl ⟨rfl, ?_, (K5.drew).trans K6 (fun _ _ h => h)⟩
        unfold scrollF
        rw [if_pos (by omega), Int.toNat_natCast, hz]
        exact F6
      · skip
        go_region_held3 (fun w' => w'.cell? ⟨Bp, 0, none⟩ = some (.int .i64 p.f) ∧ w'.cell? ⟨Bp, 1, none⟩ = some (.int .i64 p.b) ∧ w'.cell? ⟨Bp, 2, none⟩ = some (.bool p.bo) ∧ w'.cell? ⟨Bp, 3, none⟩ = some (.bool p.un) ∧ w'.cell? ⟨Bp, 4, none⟩ = some (.bool p.re)) (simp [*]) (first | (go_at_call 70; refine (pFill g N (m + z) q (r - z) _ _ p _ HF6.out (fun _ => by rw [show (m + z) * 7 = m * 7 + z * 7 by omega]) (by omega) nle (by omega)).mono ?_; rintro e w6 ⟨rfl, F6, K6⟩; have e2 := keepC K6 lp5 np))
        go_wp2_with fail
        refine bodyPost_ret (v := .tuple #[]) (by simp [results, Tryd.results105, go_sem]) rfl ⟨rfl, ?_, (K5.drew).trans K6 (fun _ _ h => h)⟩
        unfold scrollF
        rw [if_pos (by omega), Int.toNat_natCast, hz]
        exact F6
  · obtain ⟨q, rfl⟩ : ∃ q : Nat, s = -(q : Int) := ⟨(-s).toNat, by omega⟩
    obtain ⟨z, hz⟩ : ∃ z, k - q = z := ⟨_, rfl⟩
    have hq1 : q ≤ k := by omega
    have hq0 : 0 < q := by omega
    have mn : Nat.min k z = z := Nat.min_eq_right (by omega)
    have hqi : IntKind.i64.wrap (-(-(q : Int))) = (q : Int) := by rw [wrap_id _ (by omega) (by omega)]; omega
    have hqj : IntKind.i64.wrap (q : Int) = (q : Int) := wrap_id _ (by omega) (by omega)
    have z3 : (q : Int) ≤ (k : Int) := by omega
    have z1 : (0 : Int) ≤ q := by omega
    have z4 : (q : Int) ≤ (r : Int) := by omega
    by_cases hq : r = q
    · have Hz0 : Hid (z = 0) := by show z = 0; omega
      subst hq
      go_wp2_with fail
      obtain ⟨w5, hrun, F5, K45⟩ := run_copy_any (P := Tryd.prog) wd 85 85 3 56 g g N N (lin W G) (lin W G) (some ⟨g, m * 7, none⟩) (some ⟨g, m * 7, none⟩) (m + r) m z 0 k r z Tryd.underlying85 cellSize mn.symm HF3.out HF3.out (fun h => by have := Hz0.out; omega)
      rw [hrun]
      have HF5 : Hid (Flat w5 g N (copyF (lin W G) (lin W G) (m + r) m z)) := F5
      have K5 : Keep (fun i => i = g) w w5 := K3.trans K45 (fun _ _ h => h)
      have HP5 : Hid (PenAt w5 Bp 0 p) := HP3.out.keep K45 np
      clear hrun F5 K45 HF3 HP3 K3
      go_wp2_with fail
      obtain ⟨p0, p1, p2, p3, p4⟩ := HP5.out
      simp only [Nat.zero_add] at p1 p2 p3 p4
      have lp5 : Bp < w5.heap.size := World.block_lt_of_cell? _ _ p0
      have HF6 : Hid (Flat w5.drew g N (copyF (lin W G) (lin W G) (m + r) m z)) := HF5.out.same rfl
      go_region_held3 (fun w' => w'.cell? ⟨Bp, 0, none⟩ = some (.int .i64 p.f) ∧ w'.cell? ⟨Bp, 1, none⟩ = some (.int .i64 p.b) ∧ w'.cell? ⟨Bp, 2, none⟩ = some (.bool p.bo) ∧ w'.cell? ⟨Bp, 3, none⟩ = some (.bool p.un) ∧ w'.cell? ⟨Bp, 4, none⟩ = some (.bool p.re)) (simp [*]) (first | (go_at_call 70; refine (pFill g N m r r _ _ p _ HF6.out (fun _ => rfl) (by omega) nle (by omega)).mono ?_; rintro e w6 ⟨rfl, F6, K6⟩; have e2 := keepC K6 lp5 np))
      go_wp2_with fail
      go_end0
      refine ⟨rfl, ?_, (K5.drew).trans K6 (fun _ _ h => h)⟩
      unfold scrollF
      rw [if_neg (by omega), Int.neg_neg, Int.toNat_natCast, hz]
      exact F6
    · go_wp2_with fail
      obtain ⟨w5, hrun, F5, K45⟩ := run_copy_any (P := Tryd.prog) wd 85 85 3 56 g g N N (lin W G) (lin W G) (some ⟨g, m * 7 + q * 7, none⟩) (some ⟨g, m * 7, none⟩) (m + q) m z (r - q) k r z Tryd.underlying85 cellSize mn.symm HF3.out HF3.out (fun h => ⟨by rw [show (m + q) * 7 = m * 7 + q * 7 by omega], rfl, by omega, by omega⟩)
      rw [hrun]
      have HF5 : Hid (Flat w5 g N (copyF (lin W G) (lin W G) (m + q) m z)) := F5
      have K5 : Keep (fun i => i = g) w w5 := K3.trans K45 (fun _ _ h => h)
      have HP5 : Hid (PenAt w5 Bp 0 p) := HP3.out.keep K45 np
      clear hrun F5 K45 HF3 HP3 K3
      go_wp2_with fail
      obtain ⟨p0, p1, p2, p3, p4⟩ := HP5.out
      simp only [Nat.zero_add] at p1 p2 p3 p4
      have lp5 : Bp < w5.heap.size := World.block_lt_of_cell? _ _ p0
      have HF6 : Hid (Flat w5.drew g N (copyF (lin W G) (lin W G) (m + q) m z)) := HF5.out.same rfl
      go_region_held3 (fun w' => w'.cell? ⟨Bp, 0, none⟩ = some (.int .i64 p.f) ∧ w'.cell? ⟨Bp, 1, none⟩ = some (.int .i64 p.b) ∧ w'.cell? ⟨Bp, 2, none⟩ = some (.bool p.bo) ∧ w'.cell? ⟨Bp, 3, none⟩ = some (.bool p.un) ∧ w'.cell? ⟨Bp, 4, none⟩ = some (.bool p.re)) (simp [*]) (first | (go_at_call 70; refine (pFill g N m q r _ _ p _ HF6.out (fun _ => rfl) (by omega) nle (by omega)).mono ?_; rintro e w6 ⟨rfl, F6, K6⟩; have e2 := keepC K6 lp5 np))
      go_wp2_with fail
      go_end0
      refine ⟨rfl, ?_, (K5.drew).trans K6 (fun _ _ h => h)⟩
      unfold scrollF
      rw [if_neg (by omega), Int.neg_neg, Int.toNat_natCast, hz]
      exact F6
end Go.Proofs.YtjlfibhbfdckpaaDoor

/- Grids of cells: scrolling, sizing. -/
namespace Go.Proofs.YtjlfibhbfdckpaaDoor
open Wd (wd)
/-- Lines move up by n. -/
def scrollG (top bot n : Int) (p : Pn) (G : Nat → Nat → Cel) : Nat → Nat → Cel := fun x y =>
  if top ≤ y ∧ (y : Int) ≤ bot then (if top ≤ y + n ∧ (y : Int) + n ≤ bot then G x (y + n).toNat else blk p) else G x y
/-- The first m cells, line behind line. -/
def cellsTo (W : Nat) (G : Nat → Nat → Cel) (m : Nat) : List Cel := (List.range m).map fun i => G (i % W) (i / W)
theorem cellsTo_length (W : Nat) (G : Nat → Nat → Cel) (m : Nat) : (cellsTo W G m).length = m := by simp [cellsTo]
theorem cellsTo_succ (W : Nat) (G : Nat → Nat → Cel) (x y : Nat) (hx : x < W) : cellsTo W G (y * W + (x + 1)) = cellsTo W G (y * W + x) ++ [G x y] := by
  unfold cellsTo
  rw [← Nat.add_assoc, List.range_succ, List.map_append]
  have a : (y * W + x) % W = x := by rw [Nat.mul_comm, Nat.mul_add_mod]; exact Nat.mod_eq_of_lt hx
  have b : (y * W + x) / W = y := by rw [Nat.mul_comm, Nat.mul_add_div (by omega)]; simp [Nat.div_eq_of_lt hx]
  simp [a, b]
theorem cellsTo_at (W : Nat) (G : Nat → Nat → Cel) (m x y : Nat) (hx : x < W) (h : y * W + x < m) : (cellsTo W G m)[y * W + x]? = some (G x y) := by
  have a : (y * W + x) % W = x := by rw [Nat.mul_comm, Nat.mul_add_mod]; exact Nat.mod_eq_of_lt hx
  have b : (y * W + x) / W = y := by rw [Nat.mul_comm, Nat.mul_add_div (by omega)]; simp [Nat.div_eq_of_lt hx]
  simp [cellsTo, List.getElem?_map, List.getElem?_range h, a, b]
theorem cels_of_row {w : World} {base bc g cap W H N : Nat} {G : Nat → Nat → Cel} (hb : w.heap[bc]? = some (.cells #[.int .i64 W, .int .i64 H, .slice (some ⟨g, 0, none⟩) N cap] 87))
    (hr : w.ownsRow base 56 7 (.slice (some ⟨g, 0, none⟩) N cap) N (flat (cellsTo W G N))) (hN : N = H * W) (ne : bc ≠ g) (w1 : 1 ≤ W) (w2 : W ≤ 40) (h1 : 1 ≤ H) (h2 : H ≤ 20) : Cels w bc g cap W H N G :=
  ⟨hb, ⟨fun x y hx hy => row_cel hr _ _ (cellsTo_at W G N x y hx (by rw [hN]; exact place_lt hx hy)), row_free hr⟩, hN, ne, w1, w2, h1, h2⟩
theorem Wf.scroll {W H : Nat} {G : Nat → Nat → Cel} (h : Wf W H G) (top bot n : Int) (p : Pn) (ht : 0 ≤ top) (hb : bot < H) : Wf W H (scrollG top bot n p G) := by
  have key : ∀ x y, x < W → y < H → (∃ y', y' < H ∧ (∀ x', scrollG top bot n p G x' y = G x' y')) ∨ (∀ x', scrollG top bot n p G x' y = Go.Proofs.YtjlfibhbfdckpaaDoor.blk p) := by
    intro x y hx hy
    unfold scrollG
    by_cases h1 : top ≤ y ∧ (y : Int) ≤ bot
    · by_cases h2 : top ≤ y + n ∧ (y : Int) + n ≤ bot
      · left; exact ⟨((y : Int) + n).toNat, by omega, fun x' => by rw [if_pos h1, if_pos h2]⟩
      · right; intro x'; rw [if_pos h1, if_neg h2]
    · left; exact ⟨y, hy, fun x' => by rw [if_neg h1]⟩
  refine ⟨fun x y hx hy => ?_, fun x y hx hy hp => ?_, fun x y hx hy hp => ?_⟩
  · rcases key x y hx hy with ⟨y', hy', e⟩ | e
    · rw [e]; exact h.part x y' hx hy'
    · rw [e]; exact .inl ⟨rfl, wd_32⟩
  · rcases key x y hx hy with ⟨y', hy', e⟩ | e
    · rw [e] at hp; rw [e, e]; exact h.head x y' hx hy' hp
    · rw [e] at hp; simp [Go.Proofs.YtjlfibhbfdckpaaDoor.blk] at hp
  · rcases key x y hx hy with ⟨y', hy', e⟩ | e
    · rw [e] at hp; rw [e, e]; exact h.tail x y' hx hy' hp
    · rw [e] at hp; simp [Go.Proofs.YtjlfibhbfdckpaaDoor.blk] at hp
end Go.Proofs.YtjlfibhbfdckpaaDoor

/- Grids of cells: what is broken by sizing. -/
namespace Go.Proofs.YtjlfibhbfdckpaaDoor
open Wd (wd)
/-- Wf, but heads may have been cut off at the last column. -/
structure Aw (W H : Nat) (G : Nat → Nat → Cel) : Prop where
  head : ∀ x y, x + 1 < W → y < H → (G x y).p = 1 → (G (x + 1) y).p = 2
  tail : ∀ x y, x < W → y < H → (G x y).p = 2 → 1 ≤ x ∧ (G (x - 1) y).p = 1
/-- The first m cells have been looked at. -/
def bk (W : Nat) (G : Nat → Nat → Cel) (m : Nat) : Nat → Nat → Cel := fun a b => if b * W + a < m ∧ a + 1 = W ∧ (G a b).p = 1 then blk (G a b).n else G a b
theorem bk_at (W : Nat) (G : Nat → Nat → Cel) (x y : Nat) : bk W G (y * W + x) x y = G x y := by
  unfold bk; exact if_neg (by omega)
theorem bk_right (W : Nat) (G : Nat → Nat → Cel) (x y : Nat) : bk W G (y * W + x) (x + 1) y = G (x + 1) y := by
  unfold bk; exact if_neg (by omega)
theorem bk_left (W : Nat) (G : Nat → Nat → Cel) (x y : Nat) (hx : x < W) (_h1 : 1 ≤ x) : bk W G (y * W + x) (x - 1) y = G (x - 1) y := by
  unfold bk; exact if_neg (by omega)
theorem bk_next (W H : Nat) (G : Nat → Nat → Cel) (x y : Nat) (hx : x < W) (h : ¬ (x + 1 = W ∧ (G x y).p = 1)) : EqOn W H (bk W G (y * W + x)) (bk W G (y * W + x + 1)) := by
  intro a b ha _
  unfold bk
  by_cases e : b * W + a = y * W + x
  · obtain ⟨rfl, rfl⟩ := place_inj ha hx e
    rw [if_neg (by omega), if_neg (by omega)]
  · by_cases c : b * W + a < y * W + x ∧ a + 1 = W ∧ (G a b).p = 1
    · rw [if_pos c, if_pos ⟨by omega, c.2⟩]
    · rw [if_neg c, if_neg (fun q => c ⟨by omega, q.2⟩)]
theorem bk_put (W H : Nat) (G : Nat → Nat → Cel) (x y : Nat) (hx : x < W) (h : x + 1 = W ∧ (G x y).p = 1) : EqOn W H (upd (bk W G (y * W + x)) x y (blk (G x y).n)) (bk W G (y * W + x + 1)) := by
  intro a b ha _
  unfold bk upd
  by_cases e : a = x ∧ b = y
  · obtain ⟨rfl, rfl⟩ := e
    rw [if_pos ⟨rfl, rfl⟩, if_pos ⟨by omega, h⟩]
  · have e' : b * W + a ≠ y * W + x := fun q => e (place_inj ha hx q)
    rw [if_neg e]
    show (if b * W + a < y * W + x ∧ a + 1 = W ∧ (G a b).p = 1 then blk (G a b).n else G a b) = _
    by_cases c : b * W + a < y * W + x ∧ a + 1 = W ∧ (G a b).p = 1
    · rw [if_pos c, if_pos ⟨by omega, c.2⟩]
    · rw [if_neg c, if_neg (fun q => c ⟨by omega, q.2⟩)]
/-- Heads at the last column are broken. -/
def lastG (W : Nat) (G : Nat → Nat → Cel) : Nat → Nat → Cel := fun a b => if a + 1 = W ∧ (G a b).p = 1 then blk (G a b).n else G a b
theorem bk_all (W H : Nat) (G : Nat → Nat → Cel) : EqOn W H (bk W G (H * W)) (lastG W G) := by
  intro a b ha hb
  unfold bk lastG
  have := place_lt ha hb
  by_cases c : a + 1 = W ∧ (G a b).p = 1
  · rw [if_pos ⟨this, c⟩, if_pos c]
  · rw [if_neg (fun q => c q.2), if_neg c]
/-- Another size. -/
def sizedG (W H W' : Nat) (G : Nat → Nat → Cel) : Nat → Nat → Cel := lastG W' (fun a b => if a < W ∧ b < H then G a b else blk Pn.plain)
theorem aw_sized {W H W' H' : Nat} {G : Nat → Nat → Cel} (h : Wf W H G) : Aw W' H' (fun a b => if a < W ∧ b < H then G a b else blk Pn.plain) := by
  refine ⟨fun x y hx hy hp => ?_, fun x y hx hy hp => ?_⟩
  · by_cases c : x < W ∧ y < H
    · rw [if_pos c] at hp
      obtain ⟨a, b⟩ := h.head x y c.1 c.2 hp
      show (if x + 1 < W ∧ y < H then G (x + 1) y else blk Pn.plain).p = 2
      rw [if_pos ⟨a, c.2⟩, b]
    · rw [if_neg c] at hp; simp [blk] at hp
  · by_cases c : x < W ∧ y < H
    · rw [if_pos c] at hp
      obtain ⟨a, b⟩ := h.tail x y c.1 c.2 hp
      refine ⟨a, ?_⟩
      show (if x - 1 < W ∧ y < H then G (x - 1) y else blk Pn.plain).p = 1
      rw [if_pos ⟨by omega, c.2⟩, b]
    · rw [if_neg c] at hp; simp [blk] at hp
theorem Wf.sized {W H W' H' : Nat} {G : Nat → Nat → Cel} (h : Wf W H G) : Wf W' H' (sizedG W H W' G) := by
  unfold sizedG lastG
  refine ⟨fun x y hx hy => ?_, fun x y hx hy hp => ?_, fun x y hx hy hp => ?_⟩
  · by_cases c : x < W ∧ y < H
    · simp only [if_pos c]
      split
      · exact .inl ⟨rfl, wd_32⟩
      · exact h.part x y c.1 c.2
    · simp only [if_neg c]
      split <;> exact .inl ⟨rfl, wd_32⟩
  · by_cases c : x < W ∧ y < H
    · simp only [if_pos c] at hp ⊢
      by_cases q : x + 1 = W' ∧ (G x y).p = 1
      · rw [if_pos q] at hp; simp [Go.Proofs.YtjlfibhbfdckpaaDoor.blk] at hp
      · rw [if_neg q] at hp ⊢
        obtain ⟨a, b⟩ := h.head x y c.1 c.2 hp
        refine ⟨by omega, ?_⟩
        simp only [if_pos (show x + 1 < W ∧ y < H from ⟨a, c.2⟩), b]
        simp
    · simp only [if_neg c] at hp; simp [Go.Proofs.YtjlfibhbfdckpaaDoor.blk] at hp
  · by_cases c : x < W ∧ y < H
    · simp only [if_pos c] at hp ⊢
      by_cases q : x + 1 = W' ∧ (G x y).p = 1
      · rw [if_pos q] at hp; simp [Go.Proofs.YtjlfibhbfdckpaaDoor.blk] at hp
      · rw [if_neg q] at hp ⊢
        obtain ⟨a, b⟩ := h.tail x y c.1 c.2 hp
        refine ⟨a, ?_⟩
        simp only [if_pos (show x - 1 < W ∧ y < H from ⟨by omega, c.2⟩), b]
        have : ¬ (x - 1 + 1 = W') := by omega
        simp [this]
    · simp only [if_neg c] at hp; simp [Go.Proofs.YtjlfibhbfdckpaaDoor.blk] at hp
theorem wf_plain (W H : Nat) : Wf W H (fun _ _ => blk Pn.plain) :=
  ⟨fun _ _ _ _ => .inl ⟨rfl, wd_32⟩, fun _ _ _ _ h => by simp [blk] at h, fun _ _ _ _ h => by simp [blk] at h⟩
end Go.Proofs.YtjlfibhbfdckpaaDoor

/- The program's grid: Scroll is scrollG. -/
namespace Go.Proofs.YtjlfibhbfdckpaaDoor
open Go.RowKit
theorem place_cmp {W x : Nat} (y t : Nat) (hx : x < W) : y * W + x < t * W ↔ y < t := by
  constructor
  · intro h
    rcases Nat.lt_or_ge y t with l | l
    · exact l
    · have := Nat.mul_le_mul_right W l; omega
  · intro h
    have := Nat.mul_le_mul_right W (show y + 1 ≤ t from h)
    rw [Nat.add_mul] at this; omega
theorem scroll_eq {W H : Nat} (G : Nat → Nat → Cel) (top bot m k c : Nat) (n b s : Int) (p : Pn) (hW : 1 ≤ W) (ht : top ≤ bot) (hc : top + c = bot + 1) (hm : top * W = m) (hk : c * W = k) (hbt : betweenI n (-c) c = b) (hs : b * W = s) :
    EqOn W H (unlin W (scrollF (lin W G) m k s p)) (scrollG top bot n p G) := by
  have hb1 : -(c : Int) ≤ b ∧ b ≤ c ∧ (b = n ∨ (n < b ∧ b = -(c : Int)) ∨ (b < n ∧ b = c)) := by
    rw [← hbt]; unfold betweenI greatestI leastI; split <;> split <;> omega
  obtain ⟨hb1, hb2, hb3⟩ := hb1
  intro x y hx _
  have C := fun t => place_cmp (W := W) (x := x) y t hx
  have hmk : m + k = (bot + 1) * W := by rw [← hm, ← hk, ← Nat.add_mul, hc]
  unfold unlin scrollF scrollG
  have c1 := C top
  have c2 := C (bot + 1)
  rw [hm] at c1
  rw [← hmk] at c2
  by_cases h0 : 0 ≤ b
  · obtain ⟨d, rfl⟩ := Int.eq_ofNat_of_zero_le h0
    have hs' : s = ((d * W : Nat) : Int) := by rw [← hs]; simp
    have hs0 : 0 ≤ s := by omega
    rw [if_pos hs0, hs', Int.toNat_natCast]
    have hz : k - d * W = (c - d) * W := by rw [← hk, Nat.sub_mul]
    have hz2 : m + (c - d) * W = (top + (c - d)) * W := by rw [Nat.add_mul, hm]
    have c3 := C (top + (c - d))
    have hdk : d * W ≤ k := by rw [← hk]; exact Nat.mul_le_mul_right W (by omega)
    rw [hz]
    unfold fillF copyF
    by_cases a1 : top ≤ y ∧ y ≤ bot
    · rw [if_pos (show (top : Int) ≤ y ∧ (y : Int) ≤ bot by omega)]
      by_cases a2 : y < top + (c - d)
      · rw [if_neg (by omega), if_pos (by omega)]
        have e : m + d * W + (y * W + x - m) = (y + d) * W + x := by rw [Nat.add_mul]; omega
        rw [e, lin_at G (y + d) hx]
        have hn : n = d := by omega
        rw [if_pos (by omega), hn, show ((y : Int) + d).toNat = y + d by omega]
      · rw [if_pos (by omega), if_neg (by omega)]
    · rw [if_neg (show ¬ ((top : Int) ≤ y ∧ (y : Int) ≤ bot) by omega), if_neg (by omega), if_neg (by omega), lin_at G y hx]
  · obtain ⟨d, hd⟩ : ∃ d : Nat, b = -(d : Int) := ⟨(-b).toNat, by omega⟩
    subst hd
    have hd1 : 1 ≤ d := by omega
    have hs' : s = -((d * W : Nat) : Int) := by rw [← hs]; simp [Int.neg_mul]
    have hdW := Nat.mul_le_mul hd1 hW
    rw [if_neg (by omega), hs', Int.neg_neg, Int.toNat_natCast]
    have hz : k - d * W = (c - d) * W := by rw [← hk, Nat.sub_mul]
    have hz2 : m + d * W = (top + d) * W := by rw [Nat.add_mul, hm]
    have c3 := C (top + d)
    have hdk : d * W ≤ k := by rw [← hk]; exact Nat.mul_le_mul_right W (by omega)
    unfold fillF copyF
    by_cases a1 : top ≤ y ∧ y ≤ bot
    · rw [if_pos (show (top : Int) ≤ y ∧ (y : Int) ≤ bot by omega)]
      by_cases a2 : y < top + d
      · rw [if_pos (by omega), if_neg (by omega)]
      · rw [if_neg (by omega), if_pos (by omega)]
        have e : m + (y * W + x - (m + d * W)) = (y - d) * W + x := by rw [Nat.sub_mul]; have := Nat.mul_le_mul_right W (show d ≤ y by omega); omega
        rw [e, lin_at G (y - d) hx]
        have hn : n = -(d : Int) := by omega
        rw [if_pos (by omega), hn, show ((y : Int) + -(d : Int)).toNat = y - d by omega]
    · rw [if_neg (show ¬ ((top : Int) ≤ y ∧ (y : Int) ≤ bot) by omega), if_neg (by omega), if_neg (by omega), lin_at G y hx]
theorem pScrollG (bg g W H N : Nat) (G : Nat → Nat → Cel) (top bot n : Int) (p : Pn) (w : World) (h : GrAt w bg g W H N G) (h0 : 0 ≤ top) (ht : top ≤ bot) (hb : bot < H) :
    Calls Tryd.prog 105 #[.pointer (some ⟨bg, 0, none⟩), .int .i64 top, .int .i64 bot, .int .i64 n, p.agg] w fun e w' => e = .returned (.tuple #[]) ∧ GrAt w' bg g W H N (scrollG top bot n p G) ∧ Keep (fun i => i = g) w w' := by
  obtain ⟨t, rfl⟩ := Int.eq_ofNat_of_zero_le h0
  obtain ⟨b, rfl⟩ := Int.eq_ofNat_of_zero_le (Int.le_trans h0 ht)
  obtain ⟨c, hc⟩ : ∃ c, t + c = b + 1 := ⟨b + 1 - t, by omega⟩
  refine (pScroll bg g W H N G t b _ _ c n _ _ p w h (by omega) (by omega) hc rfl rfl ?_ rfl rfl).mono ?_
  · exact Nat.mul_pos (by omega) h.w1
  · rintro e w' ⟨rfl, F, K⟩
    exact ⟨rfl, h.with F K (scroll_eq G t b _ _ c n _ _ p h.w1 (by omega) hc rfl rfl rfl rfl), K⟩
end Go.Proofs.YtjlfibhbfdckpaaDoor
