/- Texts of the proof, one behind the other: PgK, PgL, PgM. -/
import Derived.Test.YtjlfibhbfdckpaaGreatDoorK02
import Derived.Test.YtjlfibhbfdckpaaGreatDoorK08
/- The program's grid: Scroll. -/
namespace Go.Proofs.YtjlfibhbfdckpaaGreatDoor
open Go.RowKit
attribute [local go_sem ↓] Go.wp_at_zero Go.wp_at_succ
def scrollF (L : Nat → Cel) (m k : Nat) (s : Int) (p : Pn) : Nat → Cel :=
  if 0 ≤ s then fillF (copyF L L m (m + s.toNat) (k - s.toNat)) (m + (k - s.toNat)) s.toNat p
  else fillF (copyF L L (m + (-s).toNat) m (k - (-s).toNat)) m (-s).toNat p
theorem run_copy_any {P : Program} (w : World) (dT sT ty elem : TypeId) (g gs n ns : Nat) (L M : Nat → Cel) (dp sp : Option Addr) (d s dLen dCap sLen sCap k : Nat)
    (hu : P.underlying dT = some (.slice elem)) (hs : (P.info? elem).map (·.size) = some 7) (hn : k = Nat.min sLen dLen) (hd : Flat w g n L) (hsrc : Flat w gs ns M)
    (hpos : 0 < k → dp = some ⟨g, d * 7, none⟩ ∧ sp = some ⟨gs, s * 7, none⟩ ∧ d + k ≤ n ∧ s + k ≤ ns) :
    ∃ w', (Builtin.copy_ #[dT, sT] ty #[.slice dp dLen dCap, .slice sp sLen sCap]).run P w = .ok (goInt k) w' ∧ Flat w' g n (copyF L M d s k) ∧ Keep (fun i => i = g) w w' := by
  by_cases h0 : k = 0
  · subst h0
    exact ⟨w, run_copy_no w dT sT ty elem dp sp dLen dCap sLen sCap hu hs hn.symm, by rw [copyF_none]; exact hd, Keep.refl _ _⟩
  · obtain ⟨rfl, rfl, b1, b2⟩ := hpos (by omega)
    exact ⟨_, run_copy_cel w dT sT ty elem g gs n ns L M d s dLen dCap sLen sCap k hu hs hn hd hsrc b1 b2, hd.setCells M d s k b1, Keep.setCells (F := fun i => i = g) g (fun _ => rfl) _ _ (Keep.refl _ _)⟩
set_option maxRecDepth 10000 in
set_option maxHeartbeats 600000 in
theorem pScroll (bg g W H N : Nat) (G : Nat → Nat → Cel) (top bot m k c : Nat) (n b s : Int) (p : Pn) (w : World) (h : GrAt w bg g W H N G) (ht : top ≤ bot) (hb : bot < H) (hc : top + c = bot + 1) (hm : top * W = m) (hk : c * W = k) (hk1 : 0 < k) (hbt : betweenI n (-c) c = b) (hs : b * W = s) :
    Calls Tryz.prog 141 #[.pointer (some ⟨bg, 0, none⟩), .int .i64 top, .int .i64 bot, .int .i64 n, p.agg] w fun e w' => e = .returned (.tuple #[]) ∧ Flat w' g N (scrollF (lin W G) m k s p) ∧ Keep (fun i => i = g) w w' := by
  have HG : Hid (GrAt w bg g W H N G) := h
  have w1 := h.w1
  have w2 := h.w2
  have h2 := h.h2
  have nle := h.nle
  have hb1 : -(c : Int) ≤ b ∧ b ≤ c := by rw [← hbt]; unfold betweenI greatestI leastI; split <;> split <;> omega
  have hkm : m + k ≤ N := by
    rw [h.hN, ← hm, ← hk, ← Nat.add_mul]; exact Nat.mul_le_mul_right W (by omega)
  have hs1 : -(k : Int) ≤ s ∧ s ≤ k := by
    rw [← hs, ← hk, Int.natCast_mul]
    constructor
    · rw [← Int.neg_mul]; exact Int.mul_le_mul_of_nonneg_right hb1.1 (by omega)
    · exact Int.mul_le_mul_of_nonneg_right hb1.2 (by omega)
  have e1 : (top : Int) * W = m := by rw [← hm]; simp
  have e2 : ((bot : Int) + 1) * W = m + k := by
    rw [show (bot : Int) + 1 = top + c by omega, Int.add_mul, e1, ← hk]; simp
  have e3 : (bot : Int) - top + 1 = c := by omega
  obtain ⟨hs1, hs2⟩ := hs1
  obtain ⟨hb1, hb2⟩ := hb1
  clear h hm hk
  go_enter Tryz.func141, Tryz.ntmps141
  go_wp2_with fail
  have hbl : Below w.heap.size w (w.alloc (.cells #[.int .i64 p.f, .int .i64 p.b, .bool p.bo, .bool p.un, .bool p.re] 33)) := (Below.refl _ _).alloc (Nat.le_refl _) _
  have G1 := HG.out.below hbl
  have K1 : Keep (fun i => i = g) w (w.alloc (.cells #[.int .i64 p.f, .int .i64 p.b, .bool p.bo, .bool p.un, .bool p.re] 33)) := Keep.below _ hbl
  have P1 := pen_new w p 33
  generalize w.alloc (.cells #[.int .i64 p.f, .int .i64 p.b, .bool p.bo, .bool p.un, .bool p.re] 33) = wa at *
  have hgb := HG.out.glt
  have np : ¬ w.heap.size = g := by omega
  generalize hB : w.heap.size = Bp at *
  clear hbl HG hgb
  have c0 := G1.c0
  obtain ⟨cp0, hcp0, c2⟩ := G1.c2
  have HG1 : Hid (GrAt wa bg g W H N G) := G1
  have HP1 : Hid (PenAt wa Bp 0 p) := P1
  clear G1 P1
  go_quiet ((go_at_call 156; exact Calls.quiet_of_same (pBetween _ _ _ _)))
  have G2 : GrAt (wa.drewN nq) bg g W H N G := HG1.out.same rfl rfl
  have P2 : PenAt (wa.drewN nq) Bp 0 p := HP1.out.same rfl
  have K2 : Keep (fun i => i = g) w (wa.drewN nq) := K1.drewN nq
  generalize wa.drewN nq = wb at *
  clear HG1 HP1 K1 c0 c2 hcp0
  have c0 := G2.c0
  obtain ⟨cp, hcp, c2⟩ := G2.c2
  have HG2 : Hid (GrAt wb bg g W H N G) := G2
  have HP2 : Hid (PenAt wb Bp 0 p) := P2
  clear G2 P2
  go_wp2_with fail
  go_quiet (fail)
  rw [show m + k - m = k by omega]
  have HF3 : Hid (Flat (wb.drewN nq) g N (lin W G)) := HG2.out.flat.same rfl
  have HP3 : Hid (PenAt (wb.drewN nq) Bp 0 p) := HP2.out.same rfl
  have K3 : Keep (fun i => i = g) w (wb.drewN nq) := K2.drewN nq
  generalize wb.drewN nq = wd at *
  clear HG2 HP2 K2 c0 c2 hbt e1 e2 e3 hc hb1 hb2 hs
  have hk8 : k ≤ 800 := by omega
  obtain ⟨r, hr⟩ : ∃ r, cp - m = r := ⟨_, rfl⟩
  have hkr : k ≤ r := by omega
  have hNm : ¬ cp = m := by omega
  have hr0 : ¬ r = 0 := by omega
  rw [hr]
  by_cases hs0 : 0 ≤ s
  · obtain ⟨q, rfl⟩ := Int.eq_ofNat_of_zero_le hs0
    obtain ⟨z, hz⟩ : ∃ z, k - q = z := ⟨_, rfl⟩
    have hq1 : q ≤ k := by omega
    have hzq : k - z = q := by omega
    have hqz : q + z = k := by omega
    have mn : Nat.min z k = z := Nat.min_eq_left (by omega)
    have hzi : IntKind.i64.wrap ((k : Int) - (q : Int)) = (z : Int) := by rw [wrap_id _ (by omega) (by omega)]; omega
    have z3 : (z : Int) ≤ (k : Int) := by omega
    have z1 : (0 : Int) ≤ z := by omega
    have Hqz : Hid (q + z = k) := hqz
    clear hqz
    by_cases hq : r = q
    · have Hz0 : Hid (z = 0) := by show z = 0; omega
      have hrz : ¬ r = z := by omega
      subst hq
      go_wp2_with fail
      obtain ⟨w5, hrun, F5, K45⟩ := run_copy_any (P := Tryz.prog) wd 120 120 3 38 g g N N (lin W G) (lin W G) (some ⟨g, m * 7, none⟩) (some ⟨g, m * 7, none⟩) m (m + r) k r z 0 z Tryz.underlying120 cellSize mn.symm HF3.out HF3.out (fun h => by have := Hz0.out; omega)
      rw [hrun]
      have HF5 : Hid (Flat w5 g N (copyF (lin W G) (lin W G) m (m + r) z)) := F5
      have K5 : Keep (fun i => i = g) w w5 := K3.trans K45 (fun _ _ h => h)
      have HP5 : Hid (PenAt w5 Bp 0 p) := HP3.out.keep K45 np
      clear hrun F5 K45 HF3 HP3 K3
      go_wp2_with fail
      obtain ⟨p0, p1, p2, p3, p4⟩ := HP5.out
      simp only [Nat.zero_add] at p1 p2 p3 p4
      have lp5 : Bp < w5.heap.size := World.block_lt_of_cell? _ _ p0
      have HF6 : Hid (Flat w5.drew g N (copyF (lin W G) (lin W G) m (m + r) z)) := HF5.out.same rfl
      go_region_held3 (fun w' => w'.cell? ⟨Bp, 0, none⟩ = some (.int .i64 p.f) ∧ w'.cell? ⟨Bp, 1, none⟩ = some (.int .i64 p.b) ∧ w'.cell? ⟨Bp, 2, none⟩ = some (.bool p.bo) ∧ w'.cell? ⟨Bp, 3, none⟩ = some (.bool p.un) ∧ w'.cell? ⟨Bp, 4, none⟩ = some (.bool p.re)) (simp [*]) (first | (go_at_call 148; refine (pFill g N (m + z) r (r - z) _ _ p _ HF6.out (fun _ => by rw [show (m + z) * 7 = m * 7 + z * 7 by omega]) (by omega) nle (by omega)).mono ?_; rintro e w6 ⟨rfl, F6, K6⟩; have e2 := keepC K6 lp5 np))
      go_wp2_with fail
      refine bodyPost_ret (v := .tuple #[]) (by simp [results, Tryz.results141, go_sem]) rfl ⟨rfl, ?_, (K5.drew).trans K6 (fun _ _ h => h)⟩
      unfold scrollF
      rw [if_pos (by omega), Int.toNat_natCast, hz]
      exact F6
    · go_wp2_with fail
      obtain ⟨w5, hrun, F5, K45⟩ := run_copy_any (P := Tryz.prog) wd 120 120 3 38 g g N N (lin W G) (lin W G) (some ⟨g, m * 7, none⟩) (some ⟨g, m * 7 + q * 7, none⟩) m (m + q) k r z (r - q) z Tryz.underlying120 cellSize mn.symm HF3.out HF3.out (fun h => ⟨rfl, by rw [show (m + q) * 7 = m * 7 + q * 7 by omega], by omega, by have := Hqz.out; omega⟩)
      rw [hrun]
      have HF5 : Hid (Flat w5 g N (copyF (lin W G) (lin W G) m (m + q) z)) := F5
      have K5 : Keep (fun i => i = g) w w5 := K3.trans K45 (fun _ _ h => h)
      have HP5 : Hid (PenAt w5 Bp 0 p) := HP3.out.keep K45 np
      clear hrun F5 K45 HF3 HP3 K3
      go_wp2_with fail
      obtain ⟨p0, p1, p2, p3, p4⟩ := HP5.out
      simp only [Nat.zero_add] at p1 p2 p3 p4
      have lp5 : Bp < w5.heap.size := World.block_lt_of_cell? _ _ p0
      have HF6 : Hid (Flat w5.drew g N (copyF (lin W G) (lin W G) m (m + q) z)) := HF5.out.same rfl
      by_cases hrz : r = z
      · have Hq0 : Hid (q = 0) := by show q = 0; omega
        go_region_held3 (fun w' => w'.cell? ⟨Bp, 0, none⟩ = some (.int .i64 p.f) ∧ w'.cell? ⟨Bp, 1, none⟩ = some (.int .i64 p.b) ∧ w'.cell? ⟨Bp, 2, none⟩ = some (.bool p.bo) ∧ w'.cell? ⟨Bp, 3, none⟩ = some (.bool p.un) ∧ w'.cell? ⟨Bp, 4, none⟩ = some (.bool p.re)) (simp [*]) (first | (go_at_call 148; refine (pFill g N (m + z) q _ _ _ p _ HF6.out (fun h => by have := Hq0.out; omega) (by omega) nle (by omega)).mono ?_; rintro e w6 ⟨rfl, F6, K6⟩; have e2 := keepC K6 lp5 np))
        go_wp2_with fail
        refine bodyPost_ret (v := .tuple #[]) (by simp [results, Tryz.results141, go_sem]) rfl ⟨rfl, ?_, (K5.drew).trans K6 (fun _ _ h => h)⟩
        unfold scrollF
        rw [if_pos (by omega), Int.toNat_natCast, hz]
        exact F6
      · skip
        go_region_held3 (fun w' => w'.cell? ⟨Bp, 0, none⟩ = some (.int .i64 p.f) ∧ w'.cell? ⟨Bp, 1, none⟩ = some (.int .i64 p.b) ∧ w'.cell? ⟨Bp, 2, none⟩ = some (.bool p.bo) ∧ w'.cell? ⟨Bp, 3, none⟩ = some (.bool p.un) ∧ w'.cell? ⟨Bp, 4, none⟩ = some (.bool p.re)) (simp [*]) (first | (go_at_call 148; refine (pFill g N (m + z) q (r - z) _ _ p _ HF6.out (fun _ => by rw [show (m + z) * 7 = m * 7 + z * 7 by omega]) (by omega) nle (by omega)).mono ?_; rintro e w6 ⟨rfl, F6, K6⟩; have e2 := keepC K6 lp5 np))
        go_wp2_with fail
        refine bodyPost_ret (v := .tuple #[]) (by simp [results, Tryz.results141, go_sem]) rfl ⟨rfl, ?_, (K5.drew).trans K6 (fun _ _ h => h)⟩
        unfold scrollF
        rw [if_pos (by omega), Int.toNat_natCast, hz]
        exact F6
  · obtain ⟨q, rfl⟩ : ∃ q : Nat, s = -(q : Int) := ⟨(-s).toNat, by omega⟩
    obtain ⟨z, hz⟩ : ∃ z, k - q = z := ⟨_, rfl⟩
    have hq1 : q ≤ k := by omega
    have hq0 : 0 < q := by omega
    have mn : Nat.min k z = z := Nat.min_eq_right (by omega)
    have hqi : IntKind.i64.wrap (-(-(q : Int))) = (q : Int) := by rw [wrap_id _ (by omega) (by omega)]; omega
    have hqj : IntKind.i64.wrap (q : Int) = (q : Int) := wrap_id _ (by omega) (by omega)
    have z3 : (q : Int) ≤ (k : Int) := by omega
    have z1 : (0 : Int) ≤ q := by omega
    have z4 : (q : Int) ≤ (r : Int) := by omega
    by_cases hq : r = q
    · have Hz0 : Hid (z = 0) := by show z = 0; omega
      subst hq
      go_wp2_with fail
      obtain ⟨w5, hrun, F5, K45⟩ := run_copy_any (P := Tryz.prog) wd 120 120 3 38 g g N N (lin W G) (lin W G) (some ⟨g, m * 7, none⟩) (some ⟨g, m * 7, none⟩) (m + r) m z 0 k r z Tryz.underlying120 cellSize mn.symm HF3.out HF3.out (fun h => by have := Hz0.out; omega)
      rw [hrun]
      have HF5 : Hid (Flat w5 g N (copyF (lin W G) (lin W G) (m + r) m z)) := F5
      have K5 : Keep (fun i => i = g) w w5 := K3.trans K45 (fun _ _ h => h)
      have HP5 : Hid (PenAt w5 Bp 0 p) := HP3.out.keep K45 np
      clear hrun F5 K45 HF3 HP3 K3
      go_wp2_with fail
      obtain ⟨p0, p1, p2, p3, p4⟩ := HP5.out
      simp only [Nat.zero_add] at p1 p2 p3 p4
      have lp5 : Bp < w5.heap.size := World.block_lt_of_cell? _ _ p0
      have HF6 : Hid (Flat w5.drew g N (copyF (lin W G) (lin W G) (m + r) m z)) := HF5.out.same rfl
      go_region_held3 (fun w' => w'.cell? ⟨Bp, 0, none⟩ = some (.int .i64 p.f) ∧ w'.cell? ⟨Bp, 1, none⟩ = some (.int .i64 p.b) ∧ w'.cell? ⟨Bp, 2, none⟩ = some (.bool p.bo) ∧ w'.cell? ⟨Bp, 3, none⟩ = some (.bool p.un) ∧ w'.cell? ⟨Bp, 4, none⟩ = some (.bool p.re)) (simp [*]) (first | (go_at_call 148; refine (pFill g N m r r _ _ p _ HF6.out (fun _ => rfl) (by omega) nle (by omega)).mono ?_; rintro e w6 ⟨rfl, F6, K6⟩; have e2 := keepC K6 lp5 np))
      go_wp2_with fail
      go_end0
      refine ⟨rfl, ?_, (K5.drew).trans K6 (fun _ _ h => h)⟩
      unfold scrollF
      rw [if_neg (by omega), Int.neg_neg, Int.toNat_natCast, hz]
      exact F6
    · go_wp2_with fail
      obtain ⟨w5, hrun, F5, K45⟩ := run_copy_any (P := Tryz.prog) wd 120 120 3 38 g g N N (lin W G) (lin W G) (some ⟨g, m * 7 + q * 7, none⟩) (some ⟨g, m * 7, none⟩) (m + q) m z (r - q) k r z Tryz.underlying120 cellSize mn.symm HF3.out HF3.out (fun h => ⟨by rw [show (m + q) * 7 = m * 7 + q * 7 by omega], rfl, by omega, by omega⟩)
      rw [hrun]
      have HF5 : Hid (Flat w5 g N (copyF (lin W G) (lin W G) (m + q) m z)) := F5
      have K5 : Keep (fun i => i = g) w w5 := K3.trans K45 (fun _ _ h => h)
      have HP5 : Hid (PenAt w5 Bp 0 p) := HP3.out.keep K45 np
      clear hrun F5 K45 HF3 HP3 K3
      go_wp2_with fail
      obtain ⟨p0, p1, p2, p3, p4⟩ := HP5.out
      simp only [Nat.zero_add] at p1 p2 p3 p4
      have lp5 : Bp < w5.heap.size := World.block_lt_of_cell? _ _ p0
      have HF6 : Hid (Flat w5.drew g N (copyF (lin W G) (lin W G) (m + q) m z)) := HF5.out.same rfl
      go_region_held3 (fun w' => w'.cell? ⟨Bp, 0, none⟩ = some (.int .i64 p.f) ∧ w'.cell? ⟨Bp, 1, none⟩ = some (.int .i64 p.b) ∧ w'.cell? ⟨Bp, 2, none⟩ = some (.bool p.bo) ∧ w'.cell? ⟨Bp, 3, none⟩ = some (.bool p.un) ∧ w'.cell? ⟨Bp, 4, none⟩ = some (.bool p.re)) (simp [*]) (first | (go_at_call 148; refine (pFill g N m q r _ _ p _ HF6.out (fun _ => rfl) (by omega) nle (by omega)).mono ?_; rintro e w6 ⟨rfl, F6, K6⟩; have e2 := keepC K6 lp5 np))
      go_wp2_with fail
      go_end0
      refine ⟨rfl, ?_, (K5.drew).trans K6 (fun _ _ h => h)⟩
      unfold scrollF
      rw [if_neg (by omega), Int.neg_neg, Int.toNat_natCast, hz]
      exact F6
end Go.Proofs.YtjlfibhbfdckpaaGreatDoor

/- The program's grid: Scroll is scrollG. -/
namespace Go.Proofs.YtjlfibhbfdckpaaGreatDoor
open Go.RowKit
theorem place_cmp {W x : Nat} (y t : Nat) (hx : x < W) : y * W + x < t * W ↔ y < t := by
  constructor
  · intro h
    rcases Nat.lt_or_ge y t with l | l
    · exact l
    · have := Nat.mul_le_mul_right W l; omega
  · intro h
    have := Nat.mul_le_mul_right W (show y + 1 ≤ t from h)
    rw [Nat.add_mul] at this; omega
theorem scroll_eq {W H : Nat} (G : Nat → Nat → Cel) (top bot m k c : Nat) (n b s : Int) (p : Pn) (hW : 1 ≤ W) (ht : top ≤ bot) (hc : top + c = bot + 1) (hm : top * W = m) (hk : c * W = k) (hbt : betweenI n (-c) c = b) (hs : b * W = s) :
    EqOn W H (unlin W (scrollF (lin W G) m k s p)) (scrollG top bot n p G) := by
  have hb1 : -(c : Int) ≤ b ∧ b ≤ c ∧ (b = n ∨ (n < b ∧ b = -(c : Int)) ∨ (b < n ∧ b = c)) := by
    rw [← hbt]; unfold betweenI greatestI leastI; split <;> split <;> omega
  obtain ⟨hb1, hb2, hb3⟩ := hb1
  intro x y hx _
  have C := fun t => place_cmp (W := W) (x := x) y t hx
  have hmk : m + k = (bot + 1) * W := by rw [← hm, ← hk, ← Nat.add_mul, hc]
  unfold unlin scrollF scrollG
  have c1 := C top
  have c2 := C (bot + 1)
  rw [hm] at c1
  rw [← hmk] at c2
  by_cases h0 : 0 ≤ b
  · obtain ⟨d, rfl⟩ := Int.eq_ofNat_of_zero_le h0
    have hs' : s = ((d * W : Nat) : Int) := by rw [← hs]; simp
    have hs0 : 0 ≤ s := by omega
    rw [if_pos hs0, hs', Int.toNat_natCast]
    have hz : k - d * W = (c - d) * W := by rw [← hk, Nat.sub_mul]
    have hz2 : m + (c - d) * W = (top + (c - d)) * W := by rw [Nat.add_mul, hm]
    have c3 := C (top + (c - d))
    have hdk : d * W ≤ k := by rw [← hk]; exact Nat.mul_le_mul_right W (by omega)
    rw [hz]
    unfold fillF copyF
    by_cases a1 : top ≤ y ∧ y ≤ bot
    · rw [if_pos (show (top : Int) ≤ y ∧ (y : Int) ≤ bot by omega)]
      by_cases a2 : y < top + (c - d)
      · rw [if_neg (by omega), if_pos (by omega)]
        have e : m + d * W + (y * W + x - m) = (y + d) * W + x := by rw [Nat.add_mul]; omega
        rw [e, lin_at G (y + d) hx]
        have hn : n = d := by omega
        rw [if_pos (by omega), hn, show ((y : Int) + d).toNat = y + d by omega]
      · rw [if_pos (by omega), if_neg (by omega)]
    · rw [if_neg (show ¬ ((top : Int) ≤ y ∧ (y : Int) ≤ bot) by omega), if_neg (by omega), if_neg (by omega), lin_at G y hx]
  · obtain ⟨d, hd⟩ : ∃ d : Nat, b = -(d : Int) := ⟨(-b).toNat, by omega⟩
    subst hd
    have hd1 : 1 ≤ d := by omega
    have hs' : s = -((d * W : Nat) : Int) := by rw [← hs]; simp [Int.neg_mul]
    have hdW := Nat.mul_le_mul hd1 hW
    rw [if_neg (by omega), hs', Int.neg_neg, Int.toNat_natCast]
    have hz : k - d * W = (c - d) * W := by rw [← hk, Nat.sub_mul]
    have hz2 : m + d * W = (top + d) * W := by rw [Nat.add_mul, hm]
    have c3 := C (top + d)
    have hdk : d * W ≤ k := by rw [← hk]; exact Nat.mul_le_mul_right W (by omega)
    unfold fillF copyF
    by_cases a1 : top ≤ y ∧ y ≤ bot
    · rw [if_pos (show (top : Int) ≤ y ∧ (y : Int) ≤ bot by omega)]
      by_cases a2 : y < top + d
      · rw [if_pos (by omega), if_neg (by omega)]
      · rw [if_neg (by omega), if_pos (by omega)]
        have e : m + (y * W + x - (m + d * W)) = (y - d) * W + x := by rw [Nat.sub_mul]; have := Nat.mul_le_mul_right W (show d ≤ y by omega); omega
        rw [e, lin_at G (y - d) hx]
        have hn : n = -(d : Int) := by omega
        rw [if_pos (by omega), hn, show ((y : Int) + -(d : Int)).toNat = y - d by omega]
    · rw [if_neg (show ¬ ((top : Int) ≤ y ∧ (y : Int) ≤ bot) by omega), if_neg (by omega), if_neg (by omega), lin_at G y hx]
theorem pScrollG (bg g W H N : Nat) (G : Nat → Nat → Cel) (top bot n : Int) (p : Pn) (w : World) (h : GrAt w bg g W H N G) (h0 : 0 ≤ top) (ht : top ≤ bot) (hb : bot < H) :
    Calls Tryz.prog 141 #[.pointer (some ⟨bg, 0, none⟩), .int .i64 top, .int .i64 bot, .int .i64 n, p.agg] w fun e w' => e = .returned (.tuple #[]) ∧ GrAt w' bg g W H N (scrollG top bot n p G) ∧ Keep (fun i => i = g) w w' := by
  obtain ⟨t, rfl⟩ := Int.eq_ofNat_of_zero_le h0
  obtain ⟨b, rfl⟩ := Int.eq_ofNat_of_zero_le (Int.le_trans h0 ht)
  obtain ⟨c, hc⟩ : ∃ c, t + c = b + 1 := ⟨b + 1 - t, by omega⟩
  refine (pScroll bg g W H N G t b _ _ c n _ _ p w h (by omega) (by omega) hc rfl rfl ?_ rfl rfl).mono ?_
  · exact Nat.mul_pos (by omega) h.w1
  · rintro e w' ⟨rfl, F, K⟩
    exact ⟨rfl, h.with F K (scroll_eq G t b _ _ c n _ _ p h.w1 (by omega) hc rfl rfl rfl rfl), K⟩
end Go.Proofs.YtjlfibhbfdckpaaGreatDoor

/- The program's grid: Resize. -/
namespace Go.Proofs.YtjlfibhbfdckpaaGreatDoor
open Go.RowKit
attribute [local go_sem ↓] Go.wp_at_zero Go.wp_at_succ
/-- The first j lines have their cells. -/
def sizedTo (W H W' : Nat) (G : Nat → Nat → Cel) (j : Nat) : Nat → Nat → Cel := fun x y => if y < j then sizedG W H W' G x y else blk Pn.plain
theorem sized_all {W H W' H' : Nat} (G : Nat → Nat → Cel) {j : Nat} (hj : j = H' ∨ j = H) : EqOn W' H' (sizedTo W H W' G j) (sizedG W H W' G) := by
  intro x y _ hy
  unfold sizedTo
  by_cases h : y < j
  · rw [if_pos h]
  · rw [if_neg h]
    unfold sizedG lastG
    have : ¬ (x < W ∧ y < H) := by omega
    simp only [if_neg this]
    rw [if_neg (by simp [blk])]
theorem sized_step {W H W' H' j c : Nat} {G K : Nat → Nat → Cel} (hw : Wf W H G) (hK : ∀ x, x < W → K x j = G x j) (hj : j < H) (hc : (c = W' ∧ c ≤ W) ∨ (c = W ∧ c ≤ W')) (c1 : 1 ≤ c) :
    EqOn W' H' (unlin W' (copyF (lin W' (sizedTo W H W' G j)) (partF (lin W K) (j * W) W 0 c) (j * W') (j * W) c)) (sizedTo W H W' G (j + 1)) := by
  intro x y hx _
  unfold unlin copyF
  have cm := place_cmp (W := W') (x := x) y j hx
  have cm2 := place_cmp (W := W') (x := x) y (j + 1) hx
  rw [Nat.add_mul] at cm2
  by_cases hy : y = j
  · subst hy
    rw [show sizedTo W H W' G (y + 1) x y = sizedG W H W' G x y from if_pos (by omega)]
    by_cases hxc : x < c
    · rw [if_pos (by omega), show y * W + (y * W' + x - y * W') = y * W + x by omega]
      unfold partF
      rw [cutF_none (c := 0) (.inl rfl)]
      have hL : lin W K (y * W + x) = G x y := by rw [lin_at K y (by omega)]; exact hK x (by omega)
      unfold sizedG lastG
      have hin : x < W ∧ y < H := by omega
      simp only [if_pos hin]
      by_cases hl : x + 1 = c
      · by_cases hcW : c < W
        · have hLc : lin W K (y * W + c) = G c y := by rw [lin_at K y hcW]; exact hK c hcW
          have := cutF_left (L := lin W K) (m := y * W) c1 hcW
          rw [show y * W + c - 1 = y * W + x by omega, hLc, hL] at this
          rw [this]
          by_cases e : (G c y).p = 2
          · have t := hw.tail c y hcW hj e
            rw [show c - 1 = x by omega] at t
            rw [if_pos e, if_pos ⟨by omega, by rw [t.2]⟩]
          · rw [if_neg e, if_neg (fun q => e ?_)]
            have t := hw.head x y (by omega) hj q.2
            rw [hl] at t
            rw [t.2]
        · rw [cutF_none (c := c) (.inr (by omega)), hL, if_neg (fun q => ?_)]
          have t := hw.head x y (by omega) hj q.2
          omega
      · rw [cutF_far (by omega) (by omega), hL, if_neg (by omega)]
    · rw [if_neg (by omega), lin_at _ y hx]
      unfold sizedG lastG
      have : ¬ (x < W ∧ y < H) := by omega
      simp only [if_neg this]
      unfold sizedTo
      rw [if_neg (by omega), if_neg (by simp [blk])]
  · rw [if_neg (by omega), lin_at _ y hx]
    unfold sizedTo
    by_cases h : y < j
    · rw [if_pos h, if_pos (by omega)]
    · rw [if_neg h, if_neg (by omega)]
theorem part_rest {W j c y x : Nat} {K : Nat → Nat → Cel} (hc : c ≤ W) (hx : x < W) (hy : j < y) : unlin W (partF (lin W K) (j * W) W 0 c) x y = K x y := by
  unfold unlin partF
  rw [cutF_none (c := 0) (.inl rfl)]
  have := Nat.mul_le_mul_right W (show j + 1 ≤ y from hy)
  rw [Nat.add_mul] at this
  by_cases e : c < W
  · rw [cutF_far (by omega) (by omega), lin_at K y hx]
  · rw [cutF_none (.inr (by omega)), lin_at K y hx]
set_option maxRecDepth 10000 in
set_option maxHeartbeats 2000000 in
theorem pSize (bg g W H N W' H' : Nat) (G : Nat → Nat → Cel) (w : World) (h : GrAt w bg g W H N G) (hw : Wf W H G) (w1 : 1 ≤ W') (w2 : W' ≤ 40) (h1 : 1 ≤ H') (h2 : H' ≤ 20) :
    Calls Tryz.prog 119 #[.pointer (some ⟨bg, 0, none⟩), .int .i64 W', .int .i64 H'] w fun e w' => ∃ g', e = .returned (.tuple #[]) ∧ GrAt w' bg g' W' H' (H' * W') (sizedG W H W' G) ∧ Keep (fun i => i = bg ∨ i = g) w w' ∧ w.heap.size ≤ g' := by
  have HG : Hid (GrAt w bg g W H N G) := h
  have c0 := h.c0
  have c1 := h.c1
  have wo1 := h.w1
  have wo2 := h.w2
  have ho1 := h.h1
  have ho2 := h.h2
  clear h
  go_enter Tryz.func119, Tryz.ntmps119
  go_wp2_with fail
  go_at_call 108
  refine (pNew W' H' _ w1 w2 h1 h2).mono ?_
  rintro e wa ⟨bn, gn, rfl, GN, hb, hbn, hgn⟩
  have GO : GrAt wa bg g W H N G := HG.out.below hb
  have Hlt := HG.out.lt
  have Hglt := HG.out.glt
  clear c0 c1 HG
  have c0 := GO.c0
  have c1 := GO.c1
  have HGO : Hid (GrAt wa bg g W H N G) := GO
  have HGN : Hid (GrAt wa bn gn W' H' (H' * W') (fun _ _ => blk Pn.plain)) := GN
  clear GO GN
  obtain ⟨c, hc⟩ : ∃ c : Nat, leastI W' W = c := ⟨(leastI W' W).toNat, by unfold leastI; split <;> omega⟩
  obtain ⟨l, hl⟩ : ∃ l : Nat, leastI H' H = l := ⟨(leastI H' H).toNat, by unfold leastI; split <;> omega⟩
  have hc1 : (c = W' ∧ c ≤ W) ∨ (c = W ∧ c ≤ W') := by unfold leastI at hc; split at hc <;> omega
  have hl1 : (l = H' ∧ l ≤ H) ∨ (l = H ∧ l ≤ H') := by unfold leastI at hl; split at hl <;> omega
  go_wp2_with (first | (go_at_call 138; refine (pLeast _ _ _).mono ?_; rintro e w' ⟨rfl, hw'⟩; replace hw' := hw'.symm; subst hw'; first | rw [hc] | rw [hl]))
  go_loopw [8, 24] (fun _ i w' => ∃ (j : Nat) (K : Nat → Nat → Cel), j ≤ l ∧ i = .int .i64 j ∧ GrAt w' bg g W H N K ∧ (∀ x y, x < W → j ≤ y → y < H → K x y = G x y) ∧ GrAt w' bn gn W' H' (H' * W') (sizedTo W H W' G j) ∧ Keep (fun i => i = g) w w') (fun _ i _ => l - (intOf i).toNat)
  case atStart => exact ⟨0, G, by omega, rfl, HGO.out, fun _ _ _ _ _ => rfl, HGN.out.congr (fun x y _ _ => by unfold sizedTo; rw [if_neg (by omega)]), Keep.below _ hb⟩
  case round =>
    obtain ⟨j, K, hj, rfl, hO, hK, hN, hKp⟩ := hrel
    have HO1 : Hid (GrAt wr bg g W H N K) := hO
    have HN1 : Hid (GrAt wr bn gn W' H' (H' * W') (sizedTo W H W' G j)) := hN
    have HK : Hid (∀ x y, x < W → j ≤ y → y < H → K x y = G x y) := hK
    clear hO hN hK HGO HGN c0 c1
    by_cases hlt : j < l
    · obtain ⟨m, hm⟩ : ∃ m, j * W = m := ⟨_, rfl⟩
      obtain ⟨m', hm'⟩ : ∃ m', j * W' = m' := ⟨_, rfl⟩
      have hmw : m + W ≤ N := by rw [← hm, HO1.out.hN]; have := Nat.mul_le_mul_right W (show j + 1 ≤ H by omega); rw [Nat.add_mul] at this; omega
      have hmw' : m' + W' ≤ H' * W' := by rw [← hm']; have := Nat.mul_le_mul_right W' (show j + 1 ≤ H' by omega); rw [Nat.add_mul] at this; omega
      obtain ⟨N', hN'⟩ : ∃ N', H' * W' = N' := ⟨_, rfl⟩
      rw [hN'] at HN1 hmw'
      obtain ⟨cn, hcn, hdn⟩ := HN1.out.c2
      have Hdn : Hid (wr.cell? ⟨bn, 2, none⟩ = some (.slice (some ⟨gn, 0, none⟩) N' cn)) := hdn
      clear hdn
      obtain ⟨r', hr'⟩ : ∃ r', m' + r' = cn := ⟨cn - m', by omega⟩
      have hne : gn ≠ g := by omega
      have hneb : bn ≠ g := by omega
      go_wp2_with fail
      go_at_call 154
      refine (pLine bn gn W' H' N' _ j m' r' _ HN1.out (by omega) hm' cn hcn Hdn.out hr').mono ?_
      rintro e w2 ⟨rfl, hb2⟩
      have HO2 : Hid (GrAt w2 bg g W H N K) := HO1.out.below hb2
      have HN2 : Hid (GrAt w2 bn gn W' H' N' (sizedTo W H W' G j)) := HN1.out.below hb2
      have K2 : Keep (fun i => i = g) w w2 := hKp.thenBelow hb2
      obtain ⟨co, hco, hdo⟩ := HO2.out.c2
      have Hdo : Hid (w2.cell? ⟨bg, 2, none⟩ = some (.slice (some ⟨g, 0, none⟩) N co)) := hdo
      clear hdo
      obtain ⟨r, hr⟩ : ∃ r, m + r = co := ⟨co - m, by omega⟩
      clear HO1 HN1 hKp hb2
      go_wp2_with fail
      go_at_call 155
      refine (pPart bg g W H N K 0 c j m r _ HO2.out (by omega) hm co hco Hdo.out hr (by omega) (by omega)).mono ?_
      rintro e w3 ⟨rfl, F3, K23⟩
      have HF3 : Hid (Flat w3 g N (partF (lin W K) m W 0 c)) := F3
      have HN3 : Hid (GrAt w3 bn gn W' H' N' (sizedTo W H W' G j)) := HN2.out.same (K23.block _ HN2.out.lt hneb) (K23.block _ HN2.out.glt hne)
      have HO3 : Hid (GrAt w3 bg g W H N (unlin W (partF (lin W K) m W 0 c))) := HO2.out.with F3 K23 (fun _ _ _ _ => rfl)
      have K3 : Keep (fun i => i = g) w w3 := K2.trans K23 (fun _ _ h => h)
      clear F3 K23 HO2 HN2 K2
      have hmn : Nat.min c W' = c := Nat.min_eq_left (by omega)
      go_wp2_with fail
      have FN3 : Flat w3 gn N' (lin W' (sizedTo W H W' G j)) := HN3.out.flat
      obtain ⟨w5, hrun, F5, K35⟩ := run_copy_any (P := Tryz.prog) w3 120 120 3 38 gn g N' N (lin W' (sizedTo W H W' G j)) (partF (lin W K) m W 0 c) (some ⟨gn, m' * 7, none⟩) (some ⟨g, m * 7, none⟩) m' m W' r' c r c Tryz.underlying120 cellSize hmn.symm FN3 HF3.out (fun _ => ⟨rfl, rfl, by omega, by omega⟩)
      rw [hrun]
      have HO5 : Hid (GrAt w5 bg g W H N (unlin W (partF (lin W K) m W 0 c))) := HO3.out.same (K35.block _ HO3.out.lt (by omega)) (K35.block _ HO3.out.glt (by omega))
      have HN5 : Hid (GrAt w5 bn gn W' H' N' (sizedTo W H W' G (j + 1))) := by
        refine HN3.out.with F5 K35 ?_
        have := sized_step (W := W) (H := H) (W' := W') (H' := H') (j := j) (c := c) (G := G) (K := K) hw (fun x hx => HK.out x j hx (Nat.le_refl _) (by omega)) (by omega) hc1 (by omega)
        rw [hm, hm'] at this
        exact this
      have K5 : Keep (fun i => i = g) w w5 := K3.trans K35 (fun i hi h => by omega)
      clear hrun FN3 F5 K35 HF3 HN3 HO3 K3
      go_wp2_with fail
      refine ⟨⟨j + 1, unlin W (partF (lin W K) m W 0 c), by omega, by simp, HO5.out, fun x y hx hy hyH => ?_, ?_, K5⟩, by simp only [intOf]; omega⟩
      · rw [← hm, part_rest (by omega) hx (by omega)]
        exact HK.out x y hx (by omega) hyH
      · rw [hN']; exact HN5.out
    · have hjl : j = l := by omega
      subst hjl
      have n0 := HN1.out.c0
      have n1 := HN1.out.c1
      obtain ⟨cn, hcn, n2⟩ := HN1.out.c2
      have o0 := HO1.out.c0
      have o1 := HO1.out.c1
      obtain ⟨co, hco, hob⟩ := HO1.out.blk
      have o2 : wr.cell? ⟨bg, 2, none⟩ = some (.slice (some ⟨g, 0, none⟩) N co) := by rw [cell_of_block hob]; rfl
      have fz := frozen_of_block hob
      have hbb : bn ≠ bg := by omega
      go_wp2_with fail
      go_end0
      have hgb : gn ≠ bg := by omega
      refine ⟨gn, rfl, GrAt.congr (G := sizedTo W H W' G j) ⟨?_, ?_, rfl, by omega, w1, w2, h1, h2⟩ (sized_all G (by omega)), ?_, hgn⟩
      · exact ⟨cn, hcn, by rw [heap_set_same (heap_set_same (heap_set_same hob 0 _) 1 _) 2 _]; rfl⟩
      · refine HN1.out.grid.same ?_
        rw [Go.RowKit.Below.heap_setCell _ _ _ _ hgb, Go.RowKit.Below.heap_setCell _ _ _ _ hgb, Go.RowKit.Below.heap_setCell _ _ _ _ hgb]
      · have Kq : Keep (fun i => i = bg ∨ i = g) w wr := hKp.mono (fun _ h => Or.inr h)
        exact ((Kq.setCell ⟨bg, 0, none⟩ _ (fun _ => Or.inl rfl)).setCell ⟨bg, 1, none⟩ _ (fun _ => Or.inl rfl)).setCell ⟨bg, 2, none⟩ _ (fun _ => Or.inl rfl)
end Go.Proofs.YtjlfibhbfdckpaaGreatDoor
