/- Texts of the proof, one behind the other: PuC, PuD, PuE, PuF. -/
import Derived.Test.YtknhohbepkapdaaDoorK10
/- letters.Begun: Empty, Add. -/
namespace Go.Proofs.YtknhohbepkapdaaDoor
open Go.RowKit Go.Lib
attribute [local go_sem ↓] Go.wp_at_zero Go.wp_at_succ
theorem lEmpty (bs bg g N : Nat) (s : Rs) (t : Pt) (w : World) (h : PrAt w bs bg g N s t) :
    Calls Tryd.prog 48 #[.pointer (some ⟨bs, 12, none⟩)] w fun e w' => e = .returned (.bool (decide (t.bn = 0))) ∧ w' = w := by
  have c := h.f16
  clear h
  by_cases h0 : t.bn = 0
  · rw [h0] at c
    rw [show decide (t.bn = 0) = true by simp [h0]]
    go_enter Tryd.func48, Tryd.ntmps48
    go_wp2
    go_ret
    exact ⟨rfl, rfl⟩
  · have h1 : (t.bn == 0) = false := by simp [h0]
    rw [show decide (t.bn = 0) = false by simp [h0]]
    go_enter Tryd.func48, Tryd.ntmps48
    go_wp2
    go_ret
    exact ⟨rfl, rfl⟩
/-- One byte more has come. -/
def addT (t : Pt) (n : Nat) (c : Int) : Pt := { t with by4 := updI t.by4 n c, bn := (n : Int) + 1 }
set_option maxHeartbeats 2000000 in
set_option maxRecDepth 10000 in
theorem lAddOpen (bs bg g N : Nat) (s : Rs) (t : Pt) (n : Nat) (c : Int) (w : World) (h : PrAt w bs bg g N s t) (hn : t.bn = n) (hn4 : n < 4)
    (hF : ∀ w', PrAt w' bs bg g N s (addT t n c) → Keep (fun i => i = bs) w w' → Calls Tryd.prog 106 #[.slice (some ⟨bs, 12, none⟩) (n + 1) 4] w' fun e w'' => e = .returned (.bool false) ∧ Below w'.heap.size w' w'') :
    Calls Tryd.prog 101 #[.pointer (some ⟨bs, 12, none⟩), .int .u8 c] w (SPost bs bg g N w s (addT t n c) (.tuple #[.int .i32 0, .int .i64 1])) := by
  have HP : Hid (PrAt w bs bg g N s t) := h
  have HF : Hid (∀ w', PrAt w' bs bg g N s (addT t n c) → Keep (fun i => i = bs) w w' → Calls Tryd.prog 106 #[.slice (some ⟨bs, 12, none⟩) (n + 1) 4] w' fun e w'' => e = .returned (.bool false) ∧ Below w'.heap.size w' w'') := hF
  have f16 := h.f16
  rw [hn] at f16
  have fn := h.byte n hn4
  have fz := h.free
  have n0 : (0 : Int) ≤ n := by omega
  have n4 : (n : Int) < 4 := by omega
  have hoff : ¬ 16 = 12 + n := by omega
  have h4 : ¬ 4 = n := by omega
  have h4' : ¬ n = 4 := by omega
  clear h hF
  go_enter Tryd.func101, Tryd.ntmps101
  go_wp2_with fail
  have fs : (w.cell? ⟨bs, 12 + n, none⟩).isSome = true := by rw [fn]; rfl
  go_region_held3 (fun w' => w'.cell? ⟨bs, 16, none⟩ = some (.int .i64 (n : Int)) ∧ (w'.cell? ⟨bs, 12 + n, none⟩).isSome = true ∧ (∀ o, w'.frozen? ⟨bs, o, none⟩ = false)) (simp [*, isSome_set, set_far]) (fail)
  have HP1 : Hid (PrAt (w.setCell ⟨bs, 12 + n, none⟩ (.int .u8 c)).drew bs bg g N s { t with by4 := updI t.by4 n c }) := (HP.out.setByte n hn4 c).drew
  have K1 : Keep (fun i => i = bs) w (w.setCell ⟨bs, 12 + n, none⟩ (.int .u8 c)).drew := (Keep.setCell (F := fun i => i = bs) (Keep.refl _ w) ⟨bs, 12 + n, none⟩ _ (fun _ => rfl)).drew
  generalize (w.setCell ⟨bs, 12 + n, none⟩ (.int .u8 c)).drew = wa at *
  clear HP f16 fn fz fs
  have f16 : wa.cell? ⟨bs, 16, none⟩ = some (.int .i64 (n : Int)) := by rw [← hn]; exact HP1.out.f16
  have fz := HP1.out.free
  go_wp2_with fail
  have HP2 : Hid (PrAt (wa.setCell ⟨bs, 16, none⟩ (.int .i64 ((n : Int) + 1))) bs bg g N s (addT t n c)) := HP1.out.setBn _
  have K2 : Keep (fun i => i = bs) w (wa.setCell ⟨bs, 16, none⟩ (.int .i64 ((n : Int) + 1))) := K1.setCell ⟨bs, 16, none⟩ _ (fun _ => rfl)
  generalize wa.setCell ⟨bs, 16, none⟩ (.int .i64 ((n : Int) + 1)) = wb at *
  clear HP1 K1 f16 fz
  obtain ⟨m, hm⟩ : ∃ m : Nat, n + 1 = m := ⟨_, rfl⟩
  have f16 : wb.cell? ⟨bs, 16, none⟩ = some (.int .i64 (m : Int)) := by rw [← hm]; exact HP2.out.f16
  have m1 : (m : Int) ≤ 4 := by omega
  have m0 : (0 : Int) ≤ (m : Int) := by omega
  rw [hm] at HF
  clear hm
  go_quiet (fail)
  have HP3 : Hid (PrAt (wb.drewN nq) bs bg g N s (addT t n c)) := HP2.out.drewN nq
  have K3 : Keep (fun i => i = bs) w (wb.drewN nq) := K2.drewN nq
  generalize wb.drewN nq = wc at *
  clear HP2 K2 f16
  go_wp2_with fail
  go_at_call 106
  refine (HF.out _ HP3.out K3).mono ?_
  rintro e wd ⟨rfl, B4⟩
  have HP4 : Hid (PrAt wd bs bg g N s (addT t n c)) := HP3.out.below B4
  have K4 : Keep (fun i => i = bs) w wd := K3.thenBelow B4
  go_wp2_with fail
  refine bodyPost_ret (v := .tuple #[.int .i32 0, .int .i64 1]) (by simp [results, Tryd.results101, go_sem]) rfl ⟨rfl, HP4.out, K4.mono (fun _ h => Or.inl h)⟩
set_option maxHeartbeats 2000000 in
set_option maxRecDepth 10000 in
theorem lAddRef (bs bg g N : Nat) (s : Rs) (t : Pt) (n : Nat) (c : Int) (w : World) (h : PrAt w bs bg g N s t) (hn : t.bn = n) (hn4 : n < 4)
    (hF : ∀ w', PrAt w' bs bg g N s (addT t n c) → Keep (fun i => i = bs) w w' → Calls Tryd.prog 106 #[.slice (some ⟨bs, 12, none⟩) (n + 1) 4] w' fun e w'' => e = .returned (.bool true) ∧ Below w'.heap.size w' w'')
    (hD : ∀ w', PrAt w' bs bg g N s (addT t n c) → Keep (fun i => i = bs) w w' → Calls Tryd.prog 107 #[.slice (some ⟨bs, 12, none⟩) (n + 1) 4] w' fun e w'' => e = .returned (.tuple #[.int .i32 65533, .int .i64 1]) ∧ Below w'.heap.size w' w'') :
    Calls Tryd.prog 101 #[.pointer (some ⟨bs, 12, none⟩), .int .u8 c] w (SPost bs bg g N w s { addT t n c with bn := 0 } (.tuple #[.int .i32 0, .int .i64 0])) := by
  have HP : Hid (PrAt w bs bg g N s t) := h
  have HF : Hid (∀ w', PrAt w' bs bg g N s (addT t n c) → Keep (fun i => i = bs) w w' → Calls Tryd.prog 106 #[.slice (some ⟨bs, 12, none⟩) (n + 1) 4] w' fun e w'' => e = .returned (.bool true) ∧ Below w'.heap.size w' w'') := hF
  have HDr : Hid (∀ w', PrAt w' bs bg g N s (addT t n c) → Keep (fun i => i = bs) w w' → Calls Tryd.prog 107 #[.slice (some ⟨bs, 12, none⟩) (n + 1) 4] w' fun e w'' => e = .returned (.tuple #[.int .i32 65533, .int .i64 1]) ∧ Below w'.heap.size w' w'') := hD
  have f16 := h.f16
  rw [hn] at f16
  have fn := h.byte n hn4
  have fz := h.free
  have n0 : (0 : Int) ≤ n := by omega
  have n4 : (n : Int) < 4 := by omega
  have hoff : ¬ 16 = 12 + n := by omega
  have h4 : ¬ 4 = n := by omega
  have h4' : ¬ n = 4 := by omega
  clear h hF hD
  go_enter Tryd.func101, Tryd.ntmps101
  go_wp2_with fail
  have fs : (w.cell? ⟨bs, 12 + n, none⟩).isSome = true := by rw [fn]; rfl
  go_region_held3 (fun w' => w'.cell? ⟨bs, 16, none⟩ = some (.int .i64 (n : Int)) ∧ (w'.cell? ⟨bs, 12 + n, none⟩).isSome = true ∧ (∀ o, w'.frozen? ⟨bs, o, none⟩ = false)) (simp [*, isSome_set, set_far]) (fail)
  have HP1 : Hid (PrAt (w.setCell ⟨bs, 12 + n, none⟩ (.int .u8 c)).drew bs bg g N s { t with by4 := updI t.by4 n c }) := (HP.out.setByte n hn4 c).drew
  have K1 : Keep (fun i => i = bs) w (w.setCell ⟨bs, 12 + n, none⟩ (.int .u8 c)).drew := (Keep.setCell (F := fun i => i = bs) (Keep.refl _ w) ⟨bs, 12 + n, none⟩ _ (fun _ => rfl)).drew
  generalize (w.setCell ⟨bs, 12 + n, none⟩ (.int .u8 c)).drew = wa at *
  clear HP f16 fn fz fs
  have f16 : wa.cell? ⟨bs, 16, none⟩ = some (.int .i64 (n : Int)) := by rw [← hn]; exact HP1.out.f16
  have fz := HP1.out.free
  go_wp2_with fail
  have HP2 : Hid (PrAt (wa.setCell ⟨bs, 16, none⟩ (.int .i64 ((n : Int) + 1))) bs bg g N s (addT t n c)) := HP1.out.setBn _
  have K2 : Keep (fun i => i = bs) w (wa.setCell ⟨bs, 16, none⟩ (.int .i64 ((n : Int) + 1))) := K1.setCell ⟨bs, 16, none⟩ _ (fun _ => rfl)
  generalize wa.setCell ⟨bs, 16, none⟩ (.int .i64 ((n : Int) + 1)) = wb at *
  clear HP1 K1 f16 fz
  obtain ⟨m, hm⟩ : ∃ m : Nat, n + 1 = m := ⟨_, rfl⟩
  have f16 : wb.cell? ⟨bs, 16, none⟩ = some (.int .i64 (m : Int)) := by rw [← hm]; exact HP2.out.f16
  have m1 : (m : Int) ≤ 4 := by omega
  have m0 : (0 : Int) ≤ (m : Int) := by omega
  rw [hm] at HF HDr
  clear hm
  go_quiet (fail)
  have HP3 : Hid (PrAt (wb.drewN nq) bs bg g N s (addT t n c)) := HP2.out.drewN nq
  have K3 : Keep (fun i => i = bs) w (wb.drewN nq) := K2.drewN nq
  generalize wb.drewN nq = wc at *
  clear HP2 K2 f16
  go_wp2_with fail
  go_at_call 106
  refine (HF.out _ HP3.out K3).mono ?_
  rintro e wd ⟨rfl, B4⟩
  have HP4 : Hid (PrAt wd bs bg g N s (addT t n c)) := HP3.out.below B4
  have K4 : Keep (fun i => i = bs) w wd := K3.thenBelow B4
  go_wp2_with fail
  go_at_call 107
  refine (HDr.out _ HP4.out K4).mono ?_
  rintro e we ⟨rfl, B5⟩
  have HP5 : Hid (PrAt we bs bg g N s (addT t n c)) := HP4.out.below B5
  have K5 : Keep (fun i => i = bs) w we := K4.thenBelow B5
  have f16 := HP5.out.f16
  have fz := HP5.out.free
  clear HP4 HP3 K3 K4 B4 B5
  go_wp2_with fail
  refine bodyPost_ret (v := .tuple #[.int .i32 0, .int .i64 0]) (by simp [results, Tryd.results101, go_sem]) rfl ⟨rfl, HP5.out.setBn 0, (K5.setCell ⟨bs, 16, none⟩ _ (fun _ => rfl)).mono (fun _ h => Or.inl h)⟩
set_option maxHeartbeats 2000000 in
set_option maxRecDepth 10000 in
theorem lAddDone (bs bg g N : Nat) (s : Rs) (t : Pt) (n : Nat) (c R K : Int) (w : World) (h : PrAt w bs bg g N s t) (hn : t.bn = n) (hn4 : n < 4)
    (hF : ∀ w', PrAt w' bs bg g N s (addT t n c) → Keep (fun i => i = bs) w w' → Calls Tryd.prog 106 #[.slice (some ⟨bs, 12, none⟩) (n + 1) 4] w' fun e w'' => e = .returned (.bool true) ∧ Below w'.heap.size w' w'')
    (hD : ∀ w', PrAt w' bs bg g N s (addT t n c) → Keep (fun i => i = bs) w w' → Calls Tryd.prog 107 #[.slice (some ⟨bs, 12, none⟩) (n + 1) 4] w' fun e w'' => e = .returned (.tuple #[.int .i32 R, .int .i64 K]) ∧ Below w'.heap.size w' w'') (hK : 1 < K) :
    Calls Tryd.prog 101 #[.pointer (some ⟨bs, 12, none⟩), .int .u8 c] w (SPost bs bg g N w s { addT t n c with bn := 0 } (.tuple #[.int .i32 R, .int .i64 2])) := by
  have HP : Hid (PrAt w bs bg g N s t) := h
  have HF : Hid (∀ w', PrAt w' bs bg g N s (addT t n c) → Keep (fun i => i = bs) w w' → Calls Tryd.prog 106 #[.slice (some ⟨bs, 12, none⟩) (n + 1) 4] w' fun e w'' => e = .returned (.bool true) ∧ Below w'.heap.size w' w'') := hF
  have HDr : Hid (∀ w', PrAt w' bs bg g N s (addT t n c) → Keep (fun i => i = bs) w w' → Calls Tryd.prog 107 #[.slice (some ⟨bs, 12, none⟩) (n + 1) 4] w' fun e w'' => e = .returned (.tuple #[.int .i32 R, .int .i64 K]) ∧ Below w'.heap.size w' w'') := hD
  have f16 := h.f16
  rw [hn] at f16
  have fn := h.byte n hn4
  have fz := h.free
  have n0 : (0 : Int) ≤ n := by omega
  have n4 : (n : Int) < 4 := by omega
  have hoff : ¬ 16 = 12 + n := by omega
  have h4 : ¬ 4 = n := by omega
  have h4' : ¬ n = 4 := by omega
  clear h hF hD
  go_enter Tryd.func101, Tryd.ntmps101
  go_wp2_with fail
  have fs : (w.cell? ⟨bs, 12 + n, none⟩).isSome = true := by rw [fn]; rfl
  go_region_held3 (fun w' => w'.cell? ⟨bs, 16, none⟩ = some (.int .i64 (n : Int)) ∧ (w'.cell? ⟨bs, 12 + n, none⟩).isSome = true ∧ (∀ o, w'.frozen? ⟨bs, o, none⟩ = false)) (simp [*, isSome_set, set_far]) (fail)
  have HP1 : Hid (PrAt (w.setCell ⟨bs, 12 + n, none⟩ (.int .u8 c)).drew bs bg g N s { t with by4 := updI t.by4 n c }) := (HP.out.setByte n hn4 c).drew
  have K1 : Keep (fun i => i = bs) w (w.setCell ⟨bs, 12 + n, none⟩ (.int .u8 c)).drew := (Keep.setCell (F := fun i => i = bs) (Keep.refl _ w) ⟨bs, 12 + n, none⟩ _ (fun _ => rfl)).drew
  generalize (w.setCell ⟨bs, 12 + n, none⟩ (.int .u8 c)).drew = wa at *
  clear HP f16 fn fz fs
  have f16 : wa.cell? ⟨bs, 16, none⟩ = some (.int .i64 (n : Int)) := by rw [← hn]; exact HP1.out.f16
  have fz := HP1.out.free
  go_wp2_with fail
  have HP2 : Hid (PrAt (wa.setCell ⟨bs, 16, none⟩ (.int .i64 ((n : Int) + 1))) bs bg g N s (addT t n c)) := HP1.out.setBn _
  have K2 : Keep (fun i => i = bs) w (wa.setCell ⟨bs, 16, none⟩ (.int .i64 ((n : Int) + 1))) := K1.setCell ⟨bs, 16, none⟩ _ (fun _ => rfl)
  generalize wa.setCell ⟨bs, 16, none⟩ (.int .i64 ((n : Int) + 1)) = wb at *
  clear HP1 K1 f16 fz
  obtain ⟨m, hm⟩ : ∃ m : Nat, n + 1 = m := ⟨_, rfl⟩
  have f16 : wb.cell? ⟨bs, 16, none⟩ = some (.int .i64 (m : Int)) := by rw [← hm]; exact HP2.out.f16
  have m1 : (m : Int) ≤ 4 := by omega
  have m0 : (0 : Int) ≤ (m : Int) := by omega
  rw [hm] at HF HDr
  clear hm
  go_quiet (fail)
  have HP3 : Hid (PrAt (wb.drewN nq) bs bg g N s (addT t n c)) := HP2.out.drewN nq
  have K3 : Keep (fun i => i = bs) w (wb.drewN nq) := K2.drewN nq
  generalize wb.drewN nq = wc at *
  clear HP2 K2 f16
  go_wp2_with fail
  go_at_call 106
  refine (HF.out _ HP3.out K3).mono ?_
  rintro e wd ⟨rfl, B4⟩
  have HP4 : Hid (PrAt wd bs bg g N s (addT t n c)) := HP3.out.below B4
  have K4 : Keep (fun i => i = bs) w wd := K3.thenBelow B4
  have hK' : ¬ K ≤ 1 := by omega
  go_wp2_with fail
  go_at_call 107
  refine (HDr.out _ HP4.out K4).mono ?_
  rintro e we ⟨rfl, B5⟩
  have HP5 : Hid (PrAt we bs bg g N s (addT t n c)) := HP4.out.below B5
  have K5 : Keep (fun i => i = bs) w we := K4.thenBelow B5
  have f16 := HP5.out.f16
  have fz := HP5.out.free
  clear HP4 HP3 K3 K4 B4 B5
  by_cases hR : R = 65533
  · subst hR
    go_wp2_with fail
    refine bodyPost_ret (v := .tuple #[.int .i32 65533, .int .i64 2]) (by simp [results, Tryd.results101, go_sem]) rfl ⟨rfl, HP5.out.setBn 0, (K5.setCell ⟨bs, 16, none⟩ _ (fun _ => rfl)).mono (fun _ h => Or.inl h)⟩
  · have hR' : (R == 65533) = false := by simp [hR]
    go_wp2_with fail
    refine bodyPost_ret (v := .tuple #[.int .i32 R, .int .i64 2]) (by simp [results, Tryd.results101, go_sem]) rfl ⟨rfl, HP5.out.setBn 0, (K5.setCell ⟨bs, 16, none⟩ _ (fun _ => rfl)).mono (fun _ h => Or.inl h)⟩
end Go.Proofs.YtknhohbepkapdaaDoor

/- What Add does with a byte behind those that have come. -/
namespace Go.Proofs.YtknhohbepkapdaaDoor
open Go.RowKit Go.Lib
/-- The two tables of utf8 lie where they were laid. -/
def Tabs (w : World) : Prop := Utf8Tabs 0 1 w
theorem Tabs.keep {F : Nat → Prop} {w w' : World} (h : Tabs w) (k : Keep F w w') (h0 : ¬ F 0) (h1 : ¬ F 1) : Tabs w' := by
  have b0 : w'.heap[0]? = w.heap[0]? := k.block 0 (World.block_lt_of_cell? _ _ (h.1 0 (by omega))) h0
  have b1 : w'.heap[1]? = w.heap[1]? := k.block 1 (World.block_lt_of_cell? _ _ (h.2 0 (by omega)).1) h1
  refine ⟨fun c hc => ?_, fun i hi => ⟨?_, ?_⟩⟩
  · rw [cell_same b0]; exact h.1 c hc
  · rw [cell_same b1]; exact (h.2 i hi).1
  · rw [cell_same b1]; exact (h.2 i hi).2
theorem Tabs.below {w w' : World} (h : Tabs w) (k : Below w.heap.size w w') : Tabs w' := h.keep (Keep.below (fun _ => False) k) (fun h => h) (fun h => h)
theorem Tabs.fst {w : World} (h : Tabs w) {x : Nat} (l : x < 256) (hX : firstT x < 240) : Fst w x (firstT x) (firstT x / 16) (accLo (firstT x / 16)) (accHi (firstT x / 16)) := by
  have hi : firstT x / 16 < 16 := by omega
  refine ⟨l, hX, by omega, hi, h.1 x l, ?_, ?_, ?_⟩
  · rw [Nat.mul_comm]; exact (h.2 _ hi).1
  · rw [Nat.mul_comm]; exact (h.2 _ hi).2
  · unfold accLo accHi
    constructor
    · (repeat' split) <;> omega
    · (repeat' split) <;> omega
set_option maxRecDepth 100000 in
theorem first_cls : ∀ a : Fin 256, 194 ≤ a.val → a.val ≤ 244 → firstT a.val < 240 ∧ ((firstT a.val : Nat) : Int) % 8 = longR a.val ∧ ((accLo (firstT a.val / 16) : Nat) : Int) = lowR a.val ∧ ((accHi (firstT a.val / 16) : Nat) : Int) = highR a.val := by decide
theorem first_bad {a : Nat} (h : 128 ≤ a) (h2 : a < 194 ∨ 244 < a) : firstT a = 241 := by
  unfold firstT
  (repeat' split) <;> omega
/-- What the walks of utf8 need of a first byte. -/
theorem Tabs.cls {w : World} (h : Tabs w) (a : UInt8) (h1 : 194 ≤ a.toNat) (h2 : a.toNat ≤ 244) : ∃ X i lo hi sz : Nat, Fst w a.toNat X i lo hi ∧ (X : Int) % 8 = sz ∧ (sz : Int) = longR a.toNat ∧ (lo : Int) = lowR a.toNat ∧ (hi : Int) = highR a.toNat := by
  obtain ⟨q1, q2, q3, q4⟩ := first_cls ⟨a.toNat, a.toNat_lt⟩ h1 h2
  have e : longR a.toNat = ((longR a.toNat).toNat : Int) := by
    rcases longR_val a.toNat with q | q | q | q <;> omega
  exact ⟨_, _, _, _, (longR a.toNat).toNat, h.fst a.toNat_lt q1, by rw [← e]; exact q2, e.symm, q3, q4⟩
section
variable {w : World} {bs bg g N : Nat} {s : Rs} {t : Pt}
/-- The first byte of a letter. -/
theorem lAdd1 (c : UInt8) (h : PrAt w bs bg g N s t) (T : Tabs w) (n0 : ¬ bs = 0) (n1 : ¬ bs = 1) (hn : t.bn = 0) (c1 : 194 ≤ c.toNat) (c2 : c.toNat ≤ 244) :
    Calls Tryd.prog 101 #[.pointer (some ⟨bs, 12, none⟩), .int .u8 c.toNat] w (SPost bs bg g N w s (addT t 0 c.toNat) (.tuple #[.int .i32 0, .int .i64 1])) := by
  refine lAddOpen bs bg g N s t 0 c.toNat w h (by simpa using hn) (by omega) (fun w' P K => ?_)
  obtain ⟨X, i, lo, hi, sz, F, e1, e2, _, _⟩ := (T.keep K (fun e => n0 e.symm) (fun e => n1 e.symm)).cls c c1 c2
  have q := longR_val c.toNat
  exact uFull1 bs 12 4 c.toNat X i lo hi sz w' F e1 (by omega) (P.byte 0 (by omega))
theorem lAdd1bad (c : UInt8) (h : PrAt w bs bg g N s t) (T : Tabs w) (n0 : ¬ bs = 0) (n1 : ¬ bs = 1) (hn : t.bn = 0) (c0 : 128 ≤ c.toNat) (c1 : c.toNat < 194 ∨ 244 < c.toNat) :
    Calls Tryd.prog 101 #[.pointer (some ⟨bs, 12, none⟩), .int .u8 c.toNat] w (SPost bs bg g N w s { addT t 0 c.toNat with bn := 0 } (.tuple #[.int .i32 0, .int .i64 0])) := by
  refine lAddRef bs bg g N s t 0 c.toNat w h (by simpa using hn) (by omega) (fun w' P K => ?_) (fun w' P K => ?_)
  · have hc := (T.keep K (fun e => n0 e.symm) (fun e => n1 e.symm)).1 c.toNat c.toNat_lt
    rw [first_bad c0 c1] at hc
    exact uFullBad bs 12 4 c.toNat w' c.toNat_lt hc (P.byte 0 (by omega))
  · have hc := (T.keep K (fun e => n0 e.symm) (fun e => n1 e.symm)).1 c.toNat c.toNat_lt
    rw [first_bad c0 c1] at hc
    exact uDecodeOn bs 12 1 4 c.toNat w' _ _ _ (by omega) (P.byte 0 (by omega)) c0 (uSlowBad bs 12 4 c.toNat w' c.toNat_lt hc (P.byte 0 (by omega)))
end
end Go.Proofs.YtknhohbepkapdaaDoor

/- What Add does with a byte behind those that have come: the second, third, fourth. -/
namespace Go.Proofs.YtknhohbepkapdaaDoor
open Go.RowKit Go.Lib
section
variable {w : World} {bs bg g N : Nat} {s : Rs} {t : Pt}
theorem byte_at {t : Pt} {n i : Nat} {c : Int} (h : PrAt w bs bg g N s (addT t n c)) (hi : i < 4) {v : Int} (hv : updI t.by4 n c i = v) : w.cell? ⟨bs, 12 + i, none⟩ = some (.int .u8 v) := by
  rw [← hv]; exact h.byte i hi
theorem upd_self (f : Nat → Int) (n : Nat) (c : Int) : updI f n c n = c := if_pos rfl
theorem upd_far (f : Nat → Int) {n i : Nat} (c : Int) (h : i ≠ n) : updI f n c i = f i := if_neg h
theorem lAdd2bad (a c : UInt8) (h : PrAt w bs bg g N s t) (T : Tabs w) (n0 : ¬ bs = 0) (n1 : ¬ bs = 1) (hn : t.bn = 1) (b0 : t.by4 0 = a.toNat) (a1 : 194 ≤ a.toNat) (a2 : a.toNat ≤ 244) (hg : goesOnB [a] c.toNat = false) :
    Calls Tryd.prog 101 #[.pointer (some ⟨bs, 12, none⟩), .int .u8 c.toNat] w (SPost bs bg g N w s { addT t 1 c.toNat with bn := 0 } (.tuple #[.int .i32 0, .int .i64 0])) := by
  have q := longR_val a.toNat
  have hg' : ¬ (lowR a.toNat ≤ c.toNat ∧ (c.toNat : Int) ≤ highR a.toNat) := by
    intro x; simp [goesOnB, x.1, x.2] at hg
  refine lAddRef bs bg g N s t 1 c.toNat w h (by simpa using hn) (by omega) (fun w' P K => ?_) (fun w' P K => ?_)
  · obtain ⟨X, i, lo, hi, sz, F, e1, e2, e3, e4⟩ := (T.keep K (fun e => n0 e.symm) (fun e => n1 e.symm)).cls a a1 a2
    have p0 := byte_at P (i := 0) (by omega) ((upd_far _ _ (by omega)).trans b0)
    have p1 := byte_at P (i := 1) (by omega) (upd_self _ _ _)
    by_cases hs : sz ≤ 2
    · exact uFullYes bs 12 4 a.toNat X i lo hi sz 2 w' F e1 hs (by omega) (by omega) p0
    · by_cases hl : c.toNat < lo
      · exact uFull2lo bs 12 4 a.toNat c.toNat X i lo hi sz w' F e1 (by omega) p0 p1 hl
      · exact uFull2hi bs 12 4 a.toNat c.toNat X i lo hi sz w' F e1 (by omega) p0 p1 hl (by omega)
  · obtain ⟨X, i, lo, hi, sz, F, e1, e2, e3, e4⟩ := (T.keep K (fun e => n0 e.symm) (fun e => n1 e.symm)).cls a a1 a2
    have p0 := byte_at P (i := 0) (by omega) ((upd_far _ _ (by omega)).trans b0)
    have p1 := byte_at P (i := 1) (by omega) (upd_self _ _ _)
    refine uDecodeOn bs 12 2 4 a.toNat w' _ _ _ (by omega) p0 (by omega) ?_
    by_cases hs : sz ≤ 2
    · by_cases hl : c.toNat < lo
      · exact uSlow1lo bs 12 4 a.toNat c.toNat X i lo hi sz 2 w' F e1 p0 p1 hs (by omega) hl
      · exact uSlow1hi bs 12 4 a.toNat c.toNat X i lo hi sz 2 w' F e1 p0 p1 hs (by omega) hl (by omega)
    · exact uSlowShort bs 12 4 a.toNat X i lo hi sz 2 w' F e1 p0 (by omega) (by omega)
theorem lAdd2open (a c : UInt8) (h : PrAt w bs bg g N s t) (T : Tabs w) (n0 : ¬ bs = 0) (n1 : ¬ bs = 1) (hn : t.bn = 1) (b0 : t.by4 0 = a.toNat) (a1 : 194 ≤ a.toNat) (a2 : a.toNat ≤ 244) (hg : goesOnB [a] c.toNat = true) (hl : ¬ longR a.toNat = 2) :
    Calls Tryd.prog 101 #[.pointer (some ⟨bs, 12, none⟩), .int .u8 c.toNat] w (SPost bs bg g N w s (addT t 1 c.toNat) (.tuple #[.int .i32 0, .int .i64 1])) := by
  have q := longR_val a.toNat
  have hg' : lowR a.toNat ≤ c.toNat ∧ (c.toNat : Int) ≤ highR a.toNat := by
    simpa [goesOnB] using hg
  refine lAddOpen bs bg g N s t 1 c.toNat w h (by simpa using hn) (by omega) (fun w' P K => ?_)
  obtain ⟨X, i, lo, hi, sz, F, e1, e2, e3, e4⟩ := (T.keep K (fun e => n0 e.symm) (fun e => n1 e.symm)).cls a a1 a2
  have p0 := byte_at P (i := 0) (by omega) ((upd_far _ _ (by omega)).trans b0)
  have p1 := byte_at P (i := 1) (by omega) (upd_self _ _ _)
  exact uFull2ok bs 12 4 a.toNat c.toNat X i lo hi sz w' F e1 (by omega) p0 p1 (by omega)
theorem lAdd2done (a c : UInt8) (h : PrAt w bs bg g N s t) (T : Tabs w) (n0 : ¬ bs = 0) (n1 : ¬ bs = 1) (hn : t.bn = 1) (b0 : t.by4 0 = a.toNat) (a1 : 194 ≤ a.toNat) (a2 : a.toNat ≤ 244) (hg : goesOnB [a] c.toNat = true) (hl : longR a.toNat = 2) :
    Calls Tryd.prog 101 #[.pointer (some ⟨bs, 12, none⟩), .int .u8 c.toNat] w (SPost bs bg g N w s { addT t 1 c.toNat with bn := 0 } (.tuple #[.int .i32 (letterR [a, c]), .int .i64 2])) := by
  have q := longR_val a.toNat
  have hg' : lowR a.toNat ≤ c.toNat ∧ (c.toNat : Int) ≤ highR a.toNat := by
    simpa [goesOnB] using hg
  have g1 := lowR_ge a.toNat
  have g2 := highR_le a.toNat
  refine lAddDone bs bg g N s t 1 c.toNat _ 2 w h (by simpa using hn) (by omega) (fun w' P K => ?_) (fun w' P K => ?_) (by omega)
  · obtain ⟨X, i, lo, hi, sz, F, e1, e2, e3, e4⟩ := (T.keep K (fun e => n0 e.symm) (fun e => n1 e.symm)).cls a a1 a2
    have p0 := byte_at P (i := 0) (by omega) ((upd_far _ _ (by omega)).trans b0)
    have p1 := byte_at P (i := 1) (by omega) (upd_self _ _ _)
    exact uFullYes bs 12 4 a.toNat X i lo hi sz 2 w' F e1 (by omega) (by omega) (by omega) p0
  · obtain ⟨X, i, lo, hi, sz, F, e1, e2, e3, e4⟩ := (T.keep K (fun e => n0 e.symm) (fun e => n1 e.symm)).cls a a1 a2
    have p0 := byte_at P (i := 0) (by omega) ((upd_far _ _ (by omega)).trans b0)
    have p1 := byte_at P (i := 1) (by omega) (upd_self _ _ _)
    have hv : letterR [a, c] = (a.toNat : Int) % 32 * 64 + (c.toNat : Int) % 64 := by show 64 * ((a.toNat : Int) - 192) + c.toNat - 128 = _; omega
    rw [hv]
    exact uDecodeOn bs 12 2 4 a.toNat w' _ _ _ (by omega) p0 (by omega) (uSlow2 bs 12 4 a.toNat c.toNat X i lo hi w' F (by omega) p0 p1 (by omega))
theorem lAdd3bad (a b c : UInt8) (h : PrAt w bs bg g N s t) (T : Tabs w) (n0 : ¬ bs = 0) (n1 : ¬ bs = 1) (hn : t.bn = 2) (b0 : t.by4 0 = a.toNat) (b1 : t.by4 1 = b.toNat) (a1 : 224 ≤ a.toNat) (a2 : a.toNat ≤ 244) (hb1 : lowR a.toNat ≤ b.toNat) (hb2 : (b.toNat : Int) ≤ highR a.toNat) (hg : c.toNat < 128 ∨ 191 < c.toNat) :
    Calls Tryd.prog 101 #[.pointer (some ⟨bs, 12, none⟩), .int .u8 c.toNat] w (SPost bs bg g N w s { addT t 2 c.toNat with bn := 0 } (.tuple #[.int .i32 0, .int .i64 0])) := by
  have q := longR_val a.toNat
  refine lAddRef bs bg g N s t 2 c.toNat w h (by simpa using hn) (by omega) (fun w' P K => ?_) (fun w' P K => ?_)
  · obtain ⟨X, i, lo, hi, sz, F, e1, e2, e3, e4⟩ := (T.keep K (fun e => n0 e.symm) (fun e => n1 e.symm)).cls a (by omega) a2
    have p0 := byte_at P (i := 0) (by omega) ((upd_far _ _ (by omega)).trans b0)
    have p1 := byte_at P (i := 1) (by omega) ((upd_far _ _ (by omega)).trans b1)
    have p2 := byte_at P (i := 2) (by omega) (upd_self _ _ _)
    by_cases hs : sz ≤ 3
    · exact uFullYes bs 12 4 a.toNat X i lo hi sz 3 w' F e1 hs (by omega) (by omega) p0
    · rcases hg with hl | hl
      · exact uFull3lo bs 12 4 a.toNat b.toNat c.toNat X i lo hi sz w' F e1 (by omega) p0 p1 p2 (by omega) hl
      · exact uFull3hi bs 12 4 a.toNat b.toNat c.toNat X i lo hi sz w' F e1 (by omega) p0 p1 p2 (by omega) hl
  · obtain ⟨X, i, lo, hi, sz, F, e1, e2, e3, e4⟩ := (T.keep K (fun e => n0 e.symm) (fun e => n1 e.symm)).cls a (by omega) a2
    have p0 := byte_at P (i := 0) (by omega) ((upd_far _ _ (by omega)).trans b0)
    have p1 := byte_at P (i := 1) (by omega) ((upd_far _ _ (by omega)).trans b1)
    have p2 := byte_at P (i := 2) (by omega) (upd_self _ _ _)
    refine uDecodeOn bs 12 3 4 a.toNat w' _ _ _ (by omega) p0 (by omega) ?_
    by_cases hs : sz ≤ 3
    · rcases hg with hl | hl
      · exact uSlow3lo bs 12 4 a.toNat b.toNat c.toNat X i lo hi w' F (by omega) p0 p1 p2 hl (by omega)
      · exact uSlow3hi bs 12 4 a.toNat b.toNat c.toNat X i lo hi w' F (by omega) p0 p1 p2 hl (by omega)
    · exact uSlowShort bs 12 4 a.toNat X i lo hi sz 3 w' F e1 p0 (by omega) (by omega)
theorem lAdd3open (a b c : UInt8) (h : PrAt w bs bg g N s t) (T : Tabs w) (n0 : ¬ bs = 0) (n1 : ¬ bs = 1) (hn : t.bn = 2) (b0 : t.by4 0 = a.toNat) (b1 : t.by4 1 = b.toNat) (a1 : 224 ≤ a.toNat) (a2 : a.toNat ≤ 244) (hb1 : lowR a.toNat ≤ b.toNat) (hb2 : (b.toNat : Int) ≤ highR a.toNat) (hg : 128 ≤ c.toNat ∧ c.toNat ≤ 191) (hl : ¬ longR a.toNat = 3) :
    Calls Tryd.prog 101 #[.pointer (some ⟨bs, 12, none⟩), .int .u8 c.toNat] w (SPost bs bg g N w s (addT t 2 c.toNat) (.tuple #[.int .i32 0, .int .i64 1])) := by
  have q := longR_val a.toNat
  refine lAddOpen bs bg g N s t 2 c.toNat w h (by simpa using hn) (by omega) (fun w' P K => ?_)
  obtain ⟨X, i, lo, hi, sz, F, e1, e2, e3, e4⟩ := (T.keep K (fun e => n0 e.symm) (fun e => n1 e.symm)).cls a (by omega) a2
  have p0 := byte_at P (i := 0) (by omega) ((upd_far _ _ (by omega)).trans b0)
  have p1 := byte_at P (i := 1) (by omega) ((upd_far _ _ (by omega)).trans b1)
  have p2 := byte_at P (i := 2) (by omega) (upd_self _ _ _)
  exact uFull3ok bs 12 4 a.toNat b.toNat c.toNat X i lo hi sz w' F e1 (by omega) p0 p1 p2 (by omega) hg
theorem lAdd3done (a b c : UInt8) (h : PrAt w bs bg g N s t) (T : Tabs w) (n0 : ¬ bs = 0) (n1 : ¬ bs = 1) (hn : t.bn = 2) (b0 : t.by4 0 = a.toNat) (b1 : t.by4 1 = b.toNat) (a1 : 224 ≤ a.toNat) (a2 : a.toNat ≤ 244) (hb1 : lowR a.toNat ≤ b.toNat) (hb2 : (b.toNat : Int) ≤ highR a.toNat) (hg : 128 ≤ c.toNat ∧ c.toNat ≤ 191) (hl : longR a.toNat = 3) :
    Calls Tryd.prog 101 #[.pointer (some ⟨bs, 12, none⟩), .int .u8 c.toNat] w (SPost bs bg g N w s { addT t 2 c.toNat with bn := 0 } (.tuple #[.int .i32 (letterR [a, b, c]), .int .i64 2])) := by
  have q := longR_val a.toNat
  have g1 := lowR_ge a.toNat
  have g2 := highR_le a.toNat
  refine lAddDone bs bg g N s t 2 c.toNat _ 3 w h (by simpa using hn) (by omega) (fun w' P K => ?_) (fun w' P K => ?_) (by omega)
  · obtain ⟨X, i, lo, hi, sz, F, e1, e2, e3, e4⟩ := (T.keep K (fun e => n0 e.symm) (fun e => n1 e.symm)).cls a (by omega) a2
    have p0 := byte_at P (i := 0) (by omega) ((upd_far _ _ (by omega)).trans b0)
    have p1 := byte_at P (i := 1) (by omega) ((upd_far _ _ (by omega)).trans b1)
    have p2 := byte_at P (i := 2) (by omega) (upd_self _ _ _)
    exact uFullYes bs 12 4 a.toNat X i lo hi sz 3 w' F e1 (by omega) (by omega) (by omega) p0
  · obtain ⟨X, i, lo, hi, sz, F, e1, e2, e3, e4⟩ := (T.keep K (fun e => n0 e.symm) (fun e => n1 e.symm)).cls a (by omega) a2
    have p0 := byte_at P (i := 0) (by omega) ((upd_far _ _ (by omega)).trans b0)
    have p1 := byte_at P (i := 1) (by omega) ((upd_far _ _ (by omega)).trans b1)
    have p2 := byte_at P (i := 2) (by omega) (upd_self _ _ _)
    have hv : letterR [a, b, c] = (a.toNat : Int) % 16 * 4096 + (b.toNat : Int) % 64 * 64 + (c.toNat : Int) % 64 := by show 64 * (64 * ((a.toNat : Int) - 224) + b.toNat - 128) + c.toNat - 128 = _; omega
    rw [hv]
    exact uDecodeOn bs 12 3 4 a.toNat w' _ _ _ (by omega) p0 (by omega) (uSlow3 bs 12 4 a.toNat b.toNat c.toNat X i lo hi w' F (by omega) p0 p1 p2 hg (by omega))
theorem lAdd4bad (a b d c : UInt8) (h : PrAt w bs bg g N s t) (T : Tabs w) (n0 : ¬ bs = 0) (n1 : ¬ bs = 1) (hn : t.bn = 3) (b0 : t.by4 0 = a.toNat) (b1 : t.by4 1 = b.toNat) (b2 : t.by4 2 = d.toNat) (a1 : 240 ≤ a.toNat) (a2 : a.toNat ≤ 244) (hb1 : lowR a.toNat ≤ b.toNat) (hb2 : (b.toNat : Int) ≤ highR a.toNat) (hd : 128 ≤ d.toNat ∧ d.toNat ≤ 191) (hg : c.toNat < 128 ∨ 191 < c.toNat) :
    Calls Tryd.prog 101 #[.pointer (some ⟨bs, 12, none⟩), .int .u8 c.toNat] w (SPost bs bg g N w s { addT t 3 c.toNat with bn := 0 } (.tuple #[.int .i32 0, .int .i64 0])) := by
  have q := longR_val a.toNat
  refine lAddRef bs bg g N s t 3 c.toNat w h (by simpa using hn) (by omega) (fun w' P K => ?_) (fun w' P K => ?_)
  · obtain ⟨X, i, lo, hi, sz, F, e1, e2, e3, e4⟩ := (T.keep K (fun e => n0 e.symm) (fun e => n1 e.symm)).cls a (by omega) a2
    have p0 := byte_at P (i := 0) (by omega) ((upd_far _ _ (by omega)).trans b0)
    have p1 := byte_at P (i := 1) (by omega) ((upd_far _ _ (by omega)).trans b1)
    have p2 := byte_at P (i := 2) (by omega) ((upd_far _ _ (by omega)).trans b2)
    have p3 := byte_at P (i := 3) (by omega) (upd_self _ _ _)
    exact uFullYes bs 12 4 a.toNat X i lo hi sz 4 w' F e1 (by omega) (by omega) (by omega) p0
  · obtain ⟨X, i, lo, hi, sz, F, e1, e2, e3, e4⟩ := (T.keep K (fun e => n0 e.symm) (fun e => n1 e.symm)).cls a (by omega) a2
    have p0 := byte_at P (i := 0) (by omega) ((upd_far _ _ (by omega)).trans b0)
    have p1 := byte_at P (i := 1) (by omega) ((upd_far _ _ (by omega)).trans b1)
    have p2 := byte_at P (i := 2) (by omega) ((upd_far _ _ (by omega)).trans b2)
    have p3 := byte_at P (i := 3) (by omega) (upd_self _ _ _)
    refine uDecodeOn bs 12 4 4 a.toNat w' _ _ _ (by omega) p0 (by omega) ?_
    rcases hg with hl | hl
    · exact uSlow4lo bs 12 4 a.toNat b.toNat d.toNat c.toNat X i lo hi w' F (by omega) p0 p1 p2 p3 hd hl (by omega)
    · exact uSlow4hi bs 12 4 a.toNat b.toNat d.toNat c.toNat X i lo hi w' F (by omega) p0 p1 p2 p3 hd hl (by omega)
theorem lAdd4done (a b d c : UInt8) (h : PrAt w bs bg g N s t) (T : Tabs w) (n0 : ¬ bs = 0) (n1 : ¬ bs = 1) (hn : t.bn = 3) (b0 : t.by4 0 = a.toNat) (b1 : t.by4 1 = b.toNat) (b2 : t.by4 2 = d.toNat) (a1 : 240 ≤ a.toNat) (a2 : a.toNat ≤ 244) (hb1 : lowR a.toNat ≤ b.toNat) (hb2 : (b.toNat : Int) ≤ highR a.toNat) (hd : 128 ≤ d.toNat ∧ d.toNat ≤ 191) (hg : 128 ≤ c.toNat ∧ c.toNat ≤ 191) :
    Calls Tryd.prog 101 #[.pointer (some ⟨bs, 12, none⟩), .int .u8 c.toNat] w (SPost bs bg g N w s { addT t 3 c.toNat with bn := 0 } (.tuple #[.int .i32 (letterR [a, b, d, c]), .int .i64 2])) := by
  have q := longR_val a.toNat
  have g1 := lowR_ge a.toNat
  have g2 := highR_le a.toNat
  refine lAddDone bs bg g N s t 3 c.toNat _ 4 w h (by simpa using hn) (by omega) (fun w' P K => ?_) (fun w' P K => ?_) (by omega)
  · obtain ⟨X, i, lo, hi, sz, F, e1, e2, e3, e4⟩ := (T.keep K (fun e => n0 e.symm) (fun e => n1 e.symm)).cls a (by omega) a2
    have p0 := byte_at P (i := 0) (by omega) ((upd_far _ _ (by omega)).trans b0)
    have p1 := byte_at P (i := 1) (by omega) ((upd_far _ _ (by omega)).trans b1)
    have p2 := byte_at P (i := 2) (by omega) ((upd_far _ _ (by omega)).trans b2)
    have p3 := byte_at P (i := 3) (by omega) (upd_self _ _ _)
    exact uFullYes bs 12 4 a.toNat X i lo hi sz 4 w' F e1 (by omega) (by omega) (by omega) p0
  · obtain ⟨X, i, lo, hi, sz, F, e1, e2, e3, e4⟩ := (T.keep K (fun e => n0 e.symm) (fun e => n1 e.symm)).cls a (by omega) a2
    have p0 := byte_at P (i := 0) (by omega) ((upd_far _ _ (by omega)).trans b0)
    have p1 := byte_at P (i := 1) (by omega) ((upd_far _ _ (by omega)).trans b1)
    have p2 := byte_at P (i := 2) (by omega) ((upd_far _ _ (by omega)).trans b2)
    have p3 := byte_at P (i := 3) (by omega) (upd_self _ _ _)
    have hv : letterR [a, b, d, c] = (a.toNat : Int) % 8 * 262144 + (b.toNat : Int) % 64 * 4096 + (d.toNat : Int) % 64 * 64 + (c.toNat : Int) % 64 := by show 64 * (64 * (64 * ((a.toNat : Int) - 240) + b.toNat - 128) + d.toNat - 128) + c.toNat - 128 = _; omega
    rw [hv]
    exact uDecodeOn bs 12 4 4 a.toNat w' _ _ _ (by omega) p0 (by omega) (uSlow4 bs 12 4 a.toNat b.toNat d.toNat c.toNat X i lo hi w' F (by omega) p0 p1 p2 p3 hd hg (by omega))
end
end Go.Proofs.YtknhohbepkapdaaDoor

/- The program's screen: goesOn, and bytes in an escape. -/
namespace Go.Proofs.YtknhohbepkapdaaDoor
open Go.RowKit Go.Lib
attribute [local go_sem ↓] Go.wp_at_zero Go.wp_at_succ
set_option maxHeartbeats 1000000 in
theorem sGoesOnRef (bs bg g N : Nat) (s : Rs) (t1 : Pt) (c : Int) (w : World)
    (hA : Calls Tryd.prog 101 #[.pointer (some ⟨bs, 12, none⟩), .int .u8 c] w (SPost bs bg g N w s t1 (.tuple #[.int .i32 0, .int .i64 0]))) :
    Calls Tryd.prog 84 #[.pointer (some ⟨bs, 0, none⟩), .int .u8 c] w (SPost bs bg g N w s t1 (.bool false)) := by
  have HA : Hid (Calls Tryd.prog 101 #[.pointer (some ⟨bs, 12, none⟩), .int .u8 c] w (SPost bs bg g N w s t1 (.tuple #[.int .i32 0, .int .i64 0]))) := hA
  clear hA
  go_enter Tryd.func84, Tryd.ntmps84
  go_wp2_with fail
  go_at_call 101
  refine HA.out.mono ?_
  rintro e wa ⟨rfl, P1, K1⟩
  have HP1 : Hid (PrAt wa bs bg g N s t1) := P1
  have HK1 : Hid (Keep (fun i => i = bs ∨ i = bg ∨ i = g) w wa) := K1
  clear P1 K1
  go_wp2_with fail
  go_ret
  exact ⟨rfl, HP1.out, HK1.out⟩
set_option maxHeartbeats 1000000 in
theorem sGoesOnOpen (bs bg g N : Nat) (s : Rs) (t1 : Pt) (c : Int) (w : World)
    (hA : Calls Tryd.prog 101 #[.pointer (some ⟨bs, 12, none⟩), .int .u8 c] w (SPost bs bg g N w s t1 (.tuple #[.int .i32 0, .int .i64 1]))) :
    Calls Tryd.prog 84 #[.pointer (some ⟨bs, 0, none⟩), .int .u8 c] w (SPost bs bg g N w s t1 (.bool true)) := by
  have HA : Hid (Calls Tryd.prog 101 #[.pointer (some ⟨bs, 12, none⟩), .int .u8 c] w (SPost bs bg g N w s t1 (.tuple #[.int .i32 0, .int .i64 1]))) := hA
  clear hA
  go_enter Tryd.func84, Tryd.ntmps84
  go_wp2_with fail
  go_at_call 101
  refine HA.out.mono ?_
  rintro e wa ⟨rfl, P1, K1⟩
  have HP1 : Hid (PrAt wa bs bg g N s t1) := P1
  have HK1 : Hid (Keep (fun i => i = bs ∨ i = bg ∨ i = g) w wa) := K1
  clear P1 K1
  go_wp2_with fail
  go_ret
  exact ⟨rfl, HP1.out, HK1.out⟩
set_option maxHeartbeats 1000000 in
theorem sGoesOnDone (bs bg g N : Nat) (s : Rs) (t1 : Pt) (c R : Int) (w : World) (ok : s.Ok)
    (hA : Calls Tryd.prog 101 #[.pointer (some ⟨bs, 12, none⟩), .int .u8 c] w (SPost bs bg g N w s t1 (.tuple #[.int .i32 R, .int .i64 2]))) :
    Calls Tryd.prog 84 #[.pointer (some ⟨bs, 0, none⟩), .int .u8 c] w (SPost bs bg g N w (putR s R) t1 (.bool true)) := by
  have HA : Hid (Calls Tryd.prog 101 #[.pointer (some ⟨bs, 12, none⟩), .int .u8 c] w (SPost bs bg g N w s t1 (.tuple #[.int .i32 R, .int .i64 2]))) := hA
  clear hA
  go_enter Tryd.func84, Tryd.ntmps84
  go_wp2_with fail
  go_at_call 101
  refine HA.out.mono ?_
  rintro e wa ⟨rfl, P1, K1⟩
  have HP1 : Hid (PrAt wa bs bg g N s t1) := P1
  have HK1 : Hid (Keep (fun i => i = bs ∨ i = bg ∨ i = g) w wa) := K1
  clear P1 K1
  go_wp2_with fail
  go_at_call 86
  refine (sPut bs bg g N s t1 R _ HP1.out ok).mono ?_
  rintro e wb ⟨rfl, P2, K2⟩
  go_wp2_with fail
  go_ret
  exact ⟨rfl, P2, HK1.out.trans K2 (fun _ _ h => h)⟩
/-- The sequence is empty. -/
def noT (t : Pt) : Pt := { t with mode := 2, nm := fun _ => 0, cn := 0, bad := false }
theorem PrAt.setNums {w : World} {bs bg g N : Nat} {s : Rs} {t : Pt} (h : PrAt w bs bg g N s t) : PrAt ((((((((((w.setCell ⟨bs, 17, none⟩ (.int .i64 0)).setCell ⟨bs, 18, none⟩ (.int .i64 0)).setCell ⟨bs, 19, none⟩ (.int .i64 0)).setCell ⟨bs, 20, none⟩ (.int .i64 0)).setCell ⟨bs, 21, none⟩ (.int .i64 0)).setCell ⟨bs, 22, none⟩ (.int .i64 0)).setCell ⟨bs, 23, none⟩ (.int .i64 0)).setCell ⟨bs, 24, none⟩ (.int .i64 0)).setCell ⟨bs, 25, none⟩ (.int .i64 0)).setCell ⟨bs, 26, none⟩ (.bool false)) bs bg g N s { t with nm := fun _ => 0, cn := 0, bad := false } := by
  have h0 := (((((((((h.setNum 0 (by omega) 0).setNum 1 (by omega) 0).setNum 2 (by omega) 0).setNum 3 (by omega) 0).setNum 4 (by omega) 0).setNum 5 (by omega) 0).setNum 6 (by omega) 0).setNum 7 (by omega) 0).setCn 0).setBad false
  exact ⟨h0.blk, h0.gr, h0.ne1, h0.ne2⟩
set_option maxHeartbeats 2000000 in
theorem sEsc91 (bs bg g N : Nat) (s : Rs) (t : Pt) (w : World) (h : PrAt w bs bg g N s t) :
    Calls Tryd.prog 61 #[.pointer (some ⟨bs, 0, none⟩), .int .u8 91] w (SPost bs bg g N w s (noT t) (.tuple #[])) := by
  have HP : Hid (PrAt w bs bg g N s t) := h
  have f11 := h.f11
  have f17 := h.f17
  have f18 := h.f18
  have f19 := h.f19
  have f20 := h.f20
  have f21 := h.f21
  have f22 := h.f22
  have f23 := h.f23
  have f24 := h.f24
  have f25 := h.f25
  have f26 := h.f26
  have fz := h.free
  clear h
  go_enter Tryd.func61, Tryd.ntmps61
  go_wp2_with fail
  go_end0
  exact ⟨rfl, (HP.out.setMode 2).setNums, ((((((((((((Keep.refl _ w).setCell ⟨bs, 11, none⟩ _ (fun _ => Or.inl rfl)).setCell ⟨bs, 17, none⟩ _ (fun _ => Or.inl rfl)).setCell ⟨bs, 18, none⟩ _ (fun _ => Or.inl rfl)).setCell ⟨bs, 19, none⟩ _ (fun _ => Or.inl rfl)).setCell ⟨bs, 20, none⟩ _ (fun _ => Or.inl rfl)).setCell ⟨bs, 21, none⟩ _ (fun _ => Or.inl rfl)).setCell ⟨bs, 22, none⟩ _ (fun _ => Or.inl rfl)).setCell ⟨bs, 23, none⟩ _ (fun _ => Or.inl rfl)).setCell ⟨bs, 24, none⟩ _ (fun _ => Or.inl rfl)).setCell ⟨bs, 25, none⟩ _ (fun _ => Or.inl rfl)).setCell ⟨bs, 26, none⟩ _ (fun _ => Or.inl rfl))⟩
theorem sEsc27 (bs bg g N : Nat) (s : Rs) (t : Pt) (w : World) (h : PrAt w bs bg g N s t) :
    Calls Tryd.prog 61 #[.pointer (some ⟨bs, 0, none⟩), .int .u8 27] w (SPost bs bg g N w s t (.tuple #[])) := by
  have HP : Hid (PrAt w bs bg g N s t) := h
  clear h
  go_enter Tryd.func61, Tryd.ntmps61
  go_wp2_with fail
  go_end0
  exact ⟨rfl, HP.out, Keep.refl _ _⟩
theorem sEscN (bs bg g N : Nat) (s : Rs) (t : Pt) (c : Int) (w : World) (h : PrAt w bs bg g N s t) (h1 : ¬ c = 91) (h2 : ¬ c = 27) :
    Calls Tryd.prog 61 #[.pointer (some ⟨bs, 0, none⟩), .int .u8 c] w (SPost bs bg g N w s { t with mode := 0 } (.tuple #[])) := by
  have HP : Hid (PrAt w bs bg g N s t) := h
  have f11 := h.f11
  have fz := h.free
  clear h
  go_enter Tryd.func61, Tryd.ntmps61
  go_wp2_with fail
  go_end0
  exact ⟨rfl, HP.out.setMode 0, (Keep.refl _ w).setCell ⟨bs, 11, none⟩ _ (fun _ => Or.inl rfl)⟩
end Go.Proofs.YtknhohbepkapdaaDoor
