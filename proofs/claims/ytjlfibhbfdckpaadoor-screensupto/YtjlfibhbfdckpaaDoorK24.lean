/- Texts of the proof, one behind the other: RfS. -/
import Derived.Test.YtjlfibhbfdckpaaDoorK05
import Derived.Test.YtjlfibhbfdckpaaDoorK19
/- The document's screen: erase. -/
namespace Go.Proofs.YtjlfibhbfdckpaaDoor
open Go.RowKit
attribute [local go_sem ↓] Go.wp_at_zero Go.wp_at_succ
set_option maxRecDepth 100000 in
set_option maxHeartbeats 8000000 in
theorem refEra2J (bs bc g cap N : Nat) (s : Rs) (w : World) (h : RefAt w bs bc g cap N s) (ok : s.Ok) :
    Calls Tryd.prog 76 #[.pointer (some ⟨bs, 0, none⟩), .int .i64 2, .bool true] w (RPost bs bc g w (eraR s 2 true) (.tuple #[])) := by
  have HR : Hid (RefAt w bs bc g cap N s) := h
  have Hok : Hid s.Ok := ok
  have HN : Hid (N = s.H * s.W) := h.cels.hN
  have w2 := ok.w2
  have hh2 := ok.h2
  have X0 := ok.x0
  have Y0 := ok.y0
  have nsg := h.ne2
  have lg := h.cels.glt
  clear h ok
  go_enter Tryd.func76, Tryd.ntmps76
  go_wp2_with fail
  go_at_call 75
  refine (refBack bs bc g cap N s _ HR.out).mono ?_
  rintro e wb ⟨rfl, hb2⟩
  have HRb : Hid (RefAt wb bs bc g cap N s) := HR.out.below hb2
  have Kb : Keep (fun i => i = bs ∨ i = bc ∨ i = g) w wb := Keep.below _ hb2
  clear hb2 HR
  go_wp2_with fail
  generalize hW3 : wb.alloc _ = w3
  have B3 : Below wb.heap.size wb w3 := by rw [← hW3]; exact (Below.refl _ _).alloc (Nat.le_refl _) _
  have P3 : PenAt w3 wb.heap.size 0 (backR s) := by rw [← hW3]; exact pen_new _ _ _
  have R3 : RefAt w3 bs bc g cap N { s with G := eraTo s 2 true 0 } := by
    have e : { s with G := eraTo s 2 true 0 } = s := by rw [era_none]
    rw [e]; exact HRb.out.below B3
  have K3 : Keep (fun i => i = bs ∨ i = bc ∨ i = g) w w3 := Kb.thenBelow B3
  have nbg : wb.heap.size ≠ g := by have := HRb.out.cels.glt; omega
  generalize wb.heap.size = Bp at *
  clear hW3 B3 HRb Kb
  go_loopw [7] (fun i w' => ∃ (y m : Nat), y ≤ s.H ∧ y * s.W = m ∧ i = .int .i64 y ∧ RefAt w' bs bc g cap N { s with G := eraTo s 2 true m } ∧ Keep (fun i => i = bs ∨ i = bc ∨ i = g) w w' ∧ PenAt w' Bp 0 (backR s)) (fun i _ => s.H - (intOf i).toNat)
  case atStart => exact ⟨0, 0, by omega, by simp, rfl, R3, K3, P3⟩
  case round =>
    clear R3 K3 P3
    obtain ⟨y, m0, hy, hm0, rfl, hR, hK, hP⟩ := hrel
    have f2 : wr.cell? ⟨bs, 2, none⟩ = some (.int .i64 s.H) := hR.f2
    have HR0 : Hid (RefAt wr bs bc g cap N { s with G := eraTo s 2 true m0 }) := hR
    have HP0 : Hid (PenAt wr Bp 0 (backR s)) := hP
    have Hm0 : Hid (y * s.W = m0) := hm0
    clear hR hP hm0
    by_cases hlt : y < s.H
    · go_wp2_with fail
      go_loopw [8] (fun i w' => ∃ (x m : Nat), x ≤ s.W ∧ y * s.W + x = m ∧ i = .int .i64 x ∧ RefAt w' bs bc g cap N { s with G := eraTo s 2 true m } ∧ Keep (fun i => i = bs ∨ i = bc ∨ i = g) w w' ∧ PenAt w' Bp 0 (backR s)) (fun i _ => s.W - (intOf i).toNat)
      case atStart => exact ⟨0, m0, by omega, by have := Hm0.out; omega, rfl, HR0.out, hK, HP0.out⟩
      case round =>
        clear HR0 HP0 f2 hK
        obtain ⟨x, m, hx, hm, rfl, hR, hK, hP⟩ := hrel
        have f1 : wr.cell? ⟨bs, 1, none⟩ = some (.int .i64 s.W) := hR.f1
        have f3 : wr.cell? ⟨bs, 3, none⟩ = some (.int .i64 s.x) := hR.f3
        have f4 : wr.cell? ⟨bs, 4, none⟩ = some (.int .i64 s.y) := hR.f4
        have HR1 : Hid (RefAt wr bs bc g cap N { s with G := eraTo s 2 true m }) := hR
        have HP1 : Hid (PenAt wr Bp 0 (backR s)) := hP
        have Hm : Hid (y * s.W + x = m) := hm
        clear hR hP hm
        by_cases hlx : x < s.W
        · rcases (by omega : (y : Int) < s.y ∨ ((y : Int) = s.y ∧ (x : Int) < s.x) ∨ ((y : Int) = s.y ∧ (x : Int) = s.x) ∨ ((y : Int) = s.y ∧ s.x < (x : Int)) ∨ s.y < (y : Int)) with a1 | ⟨a1, a2⟩ | ⟨a1, a2⟩ | ⟨a1, a2⟩ | a1
          · have c1 : ((y : Int) == s.y) = false := by simp; omega
            have hn : eraB 2 true s.x s.y x y = true := by first | (simp [eraB]; done) | (simp [eraB]; omega)
            have HE := era_yes Hok.out.wf 2 true hlx hn
            rw [Hm.out] at HE
            have HE' : Hid (EqOn s.W s.H (wrt (eraTo s 2 true m) (pt x y) (fun _ _ => blk (backR s))) (eraTo s 2 true (m + 1))) := HE
            clear HE hn
            go_wp2_with fail
            have f0 : wr.cell? ⟨bs, 0, none⟩ = some (.pointer (some ⟨bc, 0, none⟩)) := HR1.out.f0
            obtain ⟨p0, p1, p2, p3, p4⟩ := HP1.out
            have l1 := HR1.out.lt
            have lp := HP1.out.lt
            go_region_held3 (fun w' => w'.cell? ⟨bs, 0, none⟩ = some (.pointer (some ⟨bc, 0, none⟩)) ∧ w'.cell? ⟨Bp, 0, none⟩ = some (.int .i64 (backR s).f) ∧ w'.cell? ⟨Bp, 1, none⟩ = some (.int .i64 (backR s).b) ∧ w'.cell? ⟨Bp, 2, none⟩ = some (.bool (backR s).bo) ∧ w'.cell? ⟨Bp, 3, none⟩ = some (.bool (backR s).un) ∧ w'.cell? ⟨Bp, 4, none⟩ = some (.bool (backR s).re)) (simp [*])
              (first | (go_at_call 51; refine (refBlank (backR s) _).mono ?_; rintro e w5 ⟨rfl, hb5⟩; have e1 := hb5.cells l1; have e2 := hb5.cells lp; have HC5 : Hid (Cels w5 bc g cap s.W s.H N (eraTo s 2 true m)) := HR1.out.cels.below (below_drew' hb5)) | (go_at_call 92; refine (refSetW bc g cap s.W s.H N _ x y (blk (backR s)) _ HC5.out (era_wf Hok.out.wf _ _ _) hlx hlt).mono ?_; rintro e w6 ⟨rfl, C6, K6⟩; have s5 := hb5.size; have e3 := keep_cells K6 (Nat.lt_of_lt_of_le l1 s5) nsg; have e4 := keep_cells K6 (Nat.lt_of_lt_of_le lp s5) nbg))
            have hb5 : Below wr.heap.size wr w5 := below_drew' hb5
            have K7 : Keep (fun i => i = bs ∨ i = bc ∨ i = g) w w6 := (hK.thenBelow hb5).trans K6 (fun i _ hi => .inr (.inr hi))
            have P7 : PenAt w6 Bp 0 (backR s) := (HP1.out.same (hb5.block _ lp)).same (K6.block _ (Nat.lt_of_lt_of_le lp s5) nbg)
            have R7 : RefAt w6 bs bc g cap N { s with G := eraTo s 2 true (m + 1) } := HR1.out.cells { s with G := eraTo s 2 true (m + 1) } ((K6.block _ (Nat.lt_of_lt_of_le l1 s5) nsg).trans (hb5.block _ l1)) (C6.congr HE'.out) rfl HR1.out.ne2
            rename_i hS
            clear hS e1 e2 e3 e4 C6 K6 HC5 hb5 p0 p1 p2 p3 p4 f0
            go_wp2_with fail
            go_roundw
            case rel => exact ⟨x + 1, m + 1, by omega, by have := Hm.out; omega, by go_num, R7, K7, P7⟩
            case measure => simp [intOf]; omega
          · have c1 : ((y : Int) == s.y) = true := by simp [a1]
            have A1 : Hid ((y : Int) = s.y) := a1
            have a3 : (y : Int) ≤ s.y := by omega
            have a4 : s.y ≤ (y : Int) := by omega
            have hn : eraB 2 true s.x s.y x y = true := by first | (simp [eraB]; done) | (simp [eraB]; omega)
            clear a1
            have HE := era_yes Hok.out.wf 2 true hlx hn
            rw [Hm.out] at HE
            have HE' : Hid (EqOn s.W s.H (wrt (eraTo s 2 true m) (pt x y) (fun _ _ => blk (backR s))) (eraTo s 2 true (m + 1))) := HE
            clear HE hn
            go_wp2_with fail
            have f0 : wr.cell? ⟨bs, 0, none⟩ = some (.pointer (some ⟨bc, 0, none⟩)) := HR1.out.f0
            obtain ⟨p0, p1, p2, p3, p4⟩ := HP1.out
            have l1 := HR1.out.lt
            have lp := HP1.out.lt
            go_region_held3 (fun w' => w'.cell? ⟨bs, 0, none⟩ = some (.pointer (some ⟨bc, 0, none⟩)) ∧ w'.cell? ⟨Bp, 0, none⟩ = some (.int .i64 (backR s).f) ∧ w'.cell? ⟨Bp, 1, none⟩ = some (.int .i64 (backR s).b) ∧ w'.cell? ⟨Bp, 2, none⟩ = some (.bool (backR s).bo) ∧ w'.cell? ⟨Bp, 3, none⟩ = some (.bool (backR s).un) ∧ w'.cell? ⟨Bp, 4, none⟩ = some (.bool (backR s).re)) (simp [*])
              (first | (go_at_call 51; refine (refBlank (backR s) _).mono ?_; rintro e w5 ⟨rfl, hb5⟩; have e1 := hb5.cells l1; have e2 := hb5.cells lp; have HC5 : Hid (Cels w5 bc g cap s.W s.H N (eraTo s 2 true m)) := HR1.out.cels.below (below_drew' hb5)) | (go_at_call 92; refine (refSetW bc g cap s.W s.H N _ x y (blk (backR s)) _ HC5.out (era_wf Hok.out.wf _ _ _) hlx hlt).mono ?_; rintro e w6 ⟨rfl, C6, K6⟩; have s5 := hb5.size; have e3 := keep_cells K6 (Nat.lt_of_lt_of_le l1 s5) nsg; have e4 := keep_cells K6 (Nat.lt_of_lt_of_le lp s5) nbg))
            have hb5 : Below wr.heap.size wr w5 := below_drew' hb5
            have K7 : Keep (fun i => i = bs ∨ i = bc ∨ i = g) w w6 := (hK.thenBelow hb5).trans K6 (fun i _ hi => .inr (.inr hi))
            have P7 : PenAt w6 Bp 0 (backR s) := (HP1.out.same (hb5.block _ lp)).same (K6.block _ (Nat.lt_of_lt_of_le lp s5) nbg)
            have R7 : RefAt w6 bs bc g cap N { s with G := eraTo s 2 true (m + 1) } := HR1.out.cells { s with G := eraTo s 2 true (m + 1) } ((K6.block _ (Nat.lt_of_lt_of_le l1 s5) nsg).trans (hb5.block _ l1)) (C6.congr HE'.out) rfl HR1.out.ne2
            rename_i hS
            clear hS e1 e2 e3 e4 C6 K6 HC5 hb5 p0 p1 p2 p3 p4 f0
            go_wp2_with fail
            go_roundw
            case rel => exact ⟨x + 1, m + 1, by omega, by have := Hm.out; omega, by go_num, R7, K7, P7⟩
            case measure => simp [intOf]; omega
          · have c1 : ((y : Int) == s.y) = true := by simp [a1]
            have A1 : Hid ((y : Int) = s.y) := a1
            have a3 : (y : Int) ≤ s.y := by omega
            have a4 : s.y ≤ (y : Int) := by omega
            have a5 : (x : Int) ≤ s.x := by omega
            have a6 : s.x ≤ (x : Int) := by omega
            have hn : eraB 2 true s.x s.y x y = true := by first | (simp [eraB]; done) | (simp [eraB]; omega)
            clear a1 a2
            have HE := era_yes Hok.out.wf 2 true hlx hn
            rw [Hm.out] at HE
            have HE' : Hid (EqOn s.W s.H (wrt (eraTo s 2 true m) (pt x y) (fun _ _ => blk (backR s))) (eraTo s 2 true (m + 1))) := HE
            clear HE hn
            go_wp2_with fail
            have f0 : wr.cell? ⟨bs, 0, none⟩ = some (.pointer (some ⟨bc, 0, none⟩)) := HR1.out.f0
            obtain ⟨p0, p1, p2, p3, p4⟩ := HP1.out
            have l1 := HR1.out.lt
            have lp := HP1.out.lt
            go_region_held3 (fun w' => w'.cell? ⟨bs, 0, none⟩ = some (.pointer (some ⟨bc, 0, none⟩)) ∧ w'.cell? ⟨Bp, 0, none⟩ = some (.int .i64 (backR s).f) ∧ w'.cell? ⟨Bp, 1, none⟩ = some (.int .i64 (backR s).b) ∧ w'.cell? ⟨Bp, 2, none⟩ = some (.bool (backR s).bo) ∧ w'.cell? ⟨Bp, 3, none⟩ = some (.bool (backR s).un) ∧ w'.cell? ⟨Bp, 4, none⟩ = some (.bool (backR s).re)) (simp [*])
              (first | (go_at_call 51; refine (refBlank (backR s) _).mono ?_; rintro e w5 ⟨rfl, hb5⟩; have e1 := hb5.cells l1; have e2 := hb5.cells lp; have HC5 : Hid (Cels w5 bc g cap s.W s.H N (eraTo s 2 true m)) := HR1.out.cels.below (below_drew' hb5)) | (go_at_call 92; refine (refSetW bc g cap s.W s.H N _ x y (blk (backR s)) _ HC5.out (era_wf Hok.out.wf _ _ _) hlx hlt).mono ?_; rintro e w6 ⟨rfl, C6, K6⟩; have s5 := hb5.size; have e3 := keep_cells K6 (Nat.lt_of_lt_of_le l1 s5) nsg; have e4 := keep_cells K6 (Nat.lt_of_lt_of_le lp s5) nbg))
            have hb5 : Below wr.heap.size wr w5 := below_drew' hb5
            have K7 : Keep (fun i => i = bs ∨ i = bc ∨ i = g) w w6 := (hK.thenBelow hb5).trans K6 (fun i _ hi => .inr (.inr hi))
            have P7 : PenAt w6 Bp 0 (backR s) := (HP1.out.same (hb5.block _ lp)).same (K6.block _ (Nat.lt_of_lt_of_le lp s5) nbg)
            have R7 : RefAt w6 bs bc g cap N { s with G := eraTo s 2 true (m + 1) } := HR1.out.cells { s with G := eraTo s 2 true (m + 1) } ((K6.block _ (Nat.lt_of_lt_of_le l1 s5) nsg).trans (hb5.block _ l1)) (C6.congr HE'.out) rfl HR1.out.ne2
            rename_i hS
            clear hS e1 e2 e3 e4 C6 K6 HC5 hb5 p0 p1 p2 p3 p4 f0
            go_wp2_with fail
            go_roundw
            case rel => exact ⟨x + 1, m + 1, by omega, by have := Hm.out; omega, by go_num, R7, K7, P7⟩
            case measure => simp [intOf]; omega
          · have c1 : ((y : Int) == s.y) = true := by simp [a1]
            have A1 : Hid ((y : Int) = s.y) := a1
            have a3 : (y : Int) ≤ s.y := by omega
            have a4 : s.y ≤ (y : Int) := by omega
            have hn : eraB 2 true s.x s.y x y = true := by first | (simp [eraB]; done) | (simp [eraB]; omega)
            clear a1
            have HE := era_yes Hok.out.wf 2 true hlx hn
            rw [Hm.out] at HE
            have HE' : Hid (EqOn s.W s.H (wrt (eraTo s 2 true m) (pt x y) (fun _ _ => blk (backR s))) (eraTo s 2 true (m + 1))) := HE
            clear HE hn
            go_wp2_with fail
            have f0 : wr.cell? ⟨bs, 0, none⟩ = some (.pointer (some ⟨bc, 0, none⟩)) := HR1.out.f0
            obtain ⟨p0, p1, p2, p3, p4⟩ := HP1.out
            have l1 := HR1.out.lt
            have lp := HP1.out.lt
            go_region_held3 (fun w' => w'.cell? ⟨bs, 0, none⟩ = some (.pointer (some ⟨bc, 0, none⟩)) ∧ w'.cell? ⟨Bp, 0, none⟩ = some (.int .i64 (backR s).f) ∧ w'.cell? ⟨Bp, 1, none⟩ = some (.int .i64 (backR s).b) ∧ w'.cell? ⟨Bp, 2, none⟩ = some (.bool (backR s).bo) ∧ w'.cell? ⟨Bp, 3, none⟩ = some (.bool (backR s).un) ∧ w'.cell? ⟨Bp, 4, none⟩ = some (.bool (backR s).re)) (simp [*])
              (first | (go_at_call 51; refine (refBlank (backR s) _).mono ?_; rintro e w5 ⟨rfl, hb5⟩; have e1 := hb5.cells l1; have e2 := hb5.cells lp; have HC5 : Hid (Cels w5 bc g cap s.W s.H N (eraTo s 2 true m)) := HR1.out.cels.below (below_drew' hb5)) | (go_at_call 92; refine (refSetW bc g cap s.W s.H N _ x y (blk (backR s)) _ HC5.out (era_wf Hok.out.wf _ _ _) hlx hlt).mono ?_; rintro e w6 ⟨rfl, C6, K6⟩; have s5 := hb5.size; have e3 := keep_cells K6 (Nat.lt_of_lt_of_le l1 s5) nsg; have e4 := keep_cells K6 (Nat.lt_of_lt_of_le lp s5) nbg))
            have hb5 : Below wr.heap.size wr w5 := below_drew' hb5
            have K7 : Keep (fun i => i = bs ∨ i = bc ∨ i = g) w w6 := (hK.thenBelow hb5).trans K6 (fun i _ hi => .inr (.inr hi))
            have P7 : PenAt w6 Bp 0 (backR s) := (HP1.out.same (hb5.block _ lp)).same (K6.block _ (Nat.lt_of_lt_of_le lp s5) nbg)
            have R7 : RefAt w6 bs bc g cap N { s with G := eraTo s 2 true (m + 1) } := HR1.out.cells { s with G := eraTo s 2 true (m + 1) } ((K6.block _ (Nat.lt_of_lt_of_le l1 s5) nsg).trans (hb5.block _ l1)) (C6.congr HE'.out) rfl HR1.out.ne2
            rename_i hS
            clear hS e1 e2 e3 e4 C6 K6 HC5 hb5 p0 p1 p2 p3 p4 f0
            go_wp2_with fail
            go_roundw
            case rel => exact ⟨x + 1, m + 1, by omega, by have := Hm.out; omega, by go_num, R7, K7, P7⟩
            case measure => simp [intOf]; omega
          · have c1 : ((y : Int) == s.y) = false := by simp; omega
            have hn : eraB 2 true s.x s.y x y = true := by first | (simp [eraB]; done) | (simp [eraB]; omega)
            have HE := era_yes Hok.out.wf 2 true hlx hn
            rw [Hm.out] at HE
            have HE' : Hid (EqOn s.W s.H (wrt (eraTo s 2 true m) (pt x y) (fun _ _ => blk (backR s))) (eraTo s 2 true (m + 1))) := HE
            clear HE hn
            go_wp2_with fail
            have f0 : wr.cell? ⟨bs, 0, none⟩ = some (.pointer (some ⟨bc, 0, none⟩)) := HR1.out.f0
            obtain ⟨p0, p1, p2, p3, p4⟩ := HP1.out
            have l1 := HR1.out.lt
            have lp := HP1.out.lt
            go_region_held3 (fun w' => w'.cell? ⟨bs, 0, none⟩ = some (.pointer (some ⟨bc, 0, none⟩)) ∧ w'.cell? ⟨Bp, 0, none⟩ = some (.int .i64 (backR s).f) ∧ w'.cell? ⟨Bp, 1, none⟩ = some (.int .i64 (backR s).b) ∧ w'.cell? ⟨Bp, 2, none⟩ = some (.bool (backR s).bo) ∧ w'.cell? ⟨Bp, 3, none⟩ = some (.bool (backR s).un) ∧ w'.cell? ⟨Bp, 4, none⟩ = some (.bool (backR s).re)) (simp [*])
              (first | (go_at_call 51; refine (refBlank (backR s) _).mono ?_; rintro e w5 ⟨rfl, hb5⟩; have e1 := hb5.cells l1; have e2 := hb5.cells lp; have HC5 : Hid (Cels w5 bc g cap s.W s.H N (eraTo s 2 true m)) := HR1.out.cels.below (below_drew' hb5)) | (go_at_call 92; refine (refSetW bc g cap s.W s.H N _ x y (blk (backR s)) _ HC5.out (era_wf Hok.out.wf _ _ _) hlx hlt).mono ?_; rintro e w6 ⟨rfl, C6, K6⟩; have s5 := hb5.size; have e3 := keep_cells K6 (Nat.lt_of_lt_of_le l1 s5) nsg; have e4 := keep_cells K6 (Nat.lt_of_lt_of_le lp s5) nbg))
            have hb5 : Below wr.heap.size wr w5 := below_drew' hb5
            have K7 : Keep (fun i => i = bs ∨ i = bc ∨ i = g) w w6 := (hK.thenBelow hb5).trans K6 (fun i _ hi => .inr (.inr hi))
            have P7 : PenAt w6 Bp 0 (backR s) := (HP1.out.same (hb5.block _ lp)).same (K6.block _ (Nat.lt_of_lt_of_le lp s5) nbg)
            have R7 : RefAt w6 bs bc g cap N { s with G := eraTo s 2 true (m + 1) } := HR1.out.cells { s with G := eraTo s 2 true (m + 1) } ((K6.block _ (Nat.lt_of_lt_of_le l1 s5) nsg).trans (hb5.block _ l1)) (C6.congr HE'.out) rfl HR1.out.ne2
            rename_i hS
            clear hS e1 e2 e3 e4 C6 K6 HC5 hb5 p0 p1 p2 p3 p4 f0
            go_wp2_with fail
            go_roundw
            case rel => exact ⟨x + 1, m + 1, by omega, by have := Hm.out; omega, by go_num, R7, K7, P7⟩
            case measure => simp [intOf]; omega
        · obtain hxe : x = s.W := by omega
          go_wp2_with fail
          go_roundw
          case rel => exact ⟨y + 1, m, by omega, by rw [Nat.succ_mul, ← Hm.out, hxe], by go_num, HR1.out, hK, HP1.out⟩
          case measure => simp [intOf]; omega
    · have hye : Hid (y = s.H) := by show y = s.H; omega
      go_wp2_with fail
      go_end0
      have R9 : RefAt wr bs bc g cap N (eraR s 2 true) := by
        have := era_all Hok.out.wf 2 true
        have hmm : s.H * s.W = m0 := by rw [← Hm0.out, hye.out]
        rw [hmm] at this
        exact ⟨HR0.out.blk, HR0.out.cels.congr this, HR0.out.ne1, HR0.out.ne2⟩
      exact rpost R9 hK (.inl rfl)
set_option maxRecDepth 100000 in
set_option maxHeartbeats 8000000 in
theorem refEra2K (bs bc g cap N : Nat) (s : Rs) (w : World) (h : RefAt w bs bc g cap N s) (ok : s.Ok) :
    Calls Tryd.prog 76 #[.pointer (some ⟨bs, 0, none⟩), .int .i64 2, .bool false] w (RPost bs bc g w (eraR s 2 false) (.tuple #[])) := by
  have HR : Hid (RefAt w bs bc g cap N s) := h
  have Hok : Hid s.Ok := ok
  have HN : Hid (N = s.H * s.W) := h.cels.hN
  have w2 := ok.w2
  have hh2 := ok.h2
  have X0 := ok.x0
  have Y0 := ok.y0
  have nsg := h.ne2
  have lg := h.cels.glt
  clear h ok
  go_enter Tryd.func76, Tryd.ntmps76
  go_wp2_with fail
  go_at_call 75
  refine (refBack bs bc g cap N s _ HR.out).mono ?_
  rintro e wb ⟨rfl, hb2⟩
  have HRb : Hid (RefAt wb bs bc g cap N s) := HR.out.below hb2
  have Kb : Keep (fun i => i = bs ∨ i = bc ∨ i = g) w wb := Keep.below _ hb2
  clear hb2 HR
  go_wp2_with fail
  generalize hW3 : wb.alloc _ = w3
  have B3 : Below wb.heap.size wb w3 := by rw [← hW3]; exact (Below.refl _ _).alloc (Nat.le_refl _) _
  have P3 : PenAt w3 wb.heap.size 0 (backR s) := by rw [← hW3]; exact pen_new _ _ _
  have R3 : RefAt w3 bs bc g cap N { s with G := eraTo s 2 false 0 } := by
    have e : { s with G := eraTo s 2 false 0 } = s := by rw [era_none]
    rw [e]; exact HRb.out.below B3
  have K3 : Keep (fun i => i = bs ∨ i = bc ∨ i = g) w w3 := Kb.thenBelow B3
  have nbg : wb.heap.size ≠ g := by have := HRb.out.cels.glt; omega
  generalize wb.heap.size = Bp at *
  clear hW3 B3 HRb Kb
  go_loopw [7] (fun i w' => ∃ (y m : Nat), y ≤ s.H ∧ y * s.W = m ∧ i = .int .i64 y ∧ RefAt w' bs bc g cap N { s with G := eraTo s 2 false m } ∧ Keep (fun i => i = bs ∨ i = bc ∨ i = g) w w' ∧ PenAt w' Bp 0 (backR s)) (fun i _ => s.H - (intOf i).toNat)
  case atStart => exact ⟨0, 0, by omega, by simp, rfl, R3, K3, P3⟩
  case round =>
    clear R3 K3 P3
    obtain ⟨y, m0, hy, hm0, rfl, hR, hK, hP⟩ := hrel
    have f2 : wr.cell? ⟨bs, 2, none⟩ = some (.int .i64 s.H) := hR.f2
    have HR0 : Hid (RefAt wr bs bc g cap N { s with G := eraTo s 2 false m0 }) := hR
    have HP0 : Hid (PenAt wr Bp 0 (backR s)) := hP
    have Hm0 : Hid (y * s.W = m0) := hm0
    clear hR hP hm0
    by_cases hlt : y < s.H
    · go_wp2_with fail
      go_loopw [8] (fun i w' => ∃ (x m : Nat), x ≤ s.W ∧ y * s.W + x = m ∧ i = .int .i64 x ∧ RefAt w' bs bc g cap N { s with G := eraTo s 2 false m } ∧ Keep (fun i => i = bs ∨ i = bc ∨ i = g) w w' ∧ PenAt w' Bp 0 (backR s)) (fun i _ => s.W - (intOf i).toNat)
      case atStart => exact ⟨0, m0, by omega, by have := Hm0.out; omega, rfl, HR0.out, hK, HP0.out⟩
      case round =>
        clear HR0 HP0 f2 hK
        obtain ⟨x, m, hx, hm, rfl, hR, hK, hP⟩ := hrel
        have f1 : wr.cell? ⟨bs, 1, none⟩ = some (.int .i64 s.W) := hR.f1
        have f3 : wr.cell? ⟨bs, 3, none⟩ = some (.int .i64 s.x) := hR.f3
        have f4 : wr.cell? ⟨bs, 4, none⟩ = some (.int .i64 s.y) := hR.f4
        have HR1 : Hid (RefAt wr bs bc g cap N { s with G := eraTo s 2 false m }) := hR
        have HP1 : Hid (PenAt wr Bp 0 (backR s)) := hP
        have Hm : Hid (y * s.W + x = m) := hm
        clear hR hP hm
        by_cases hlx : x < s.W
        · rcases (by omega : (y : Int) < s.y ∨ ((y : Int) = s.y ∧ (x : Int) < s.x) ∨ ((y : Int) = s.y ∧ (x : Int) = s.x) ∨ ((y : Int) = s.y ∧ s.x < (x : Int)) ∨ s.y < (y : Int)) with a1 | ⟨a1, a2⟩ | ⟨a1, a2⟩ | ⟨a1, a2⟩ | a1
          · have c1 : ((y : Int) == s.y) = false := by simp; omega
            have hn : eraB 2 false s.x s.y x y = false := by first | (simp [eraB]; done) | (simp [eraB]; omega)
            have HE := era_no Hok.out.wf 2 false hlx hn
            rw [Hm.out] at HE
            have HE' : Hid (EqOn s.W s.H (eraTo s 2 false m) (eraTo s 2 false (m + 1))) := HE
            clear HE hn
            go_wp2_with fail
            go_roundw
            case rel => exact ⟨x + 1, m + 1, by omega, by have := Hm.out; omega, by go_num, ⟨HR1.out.blk, HR1.out.cels.congr HE'.out, HR1.out.ne1, HR1.out.ne2⟩, hK, HP1.out⟩
            case measure => simp [intOf]; omega
          · have c1 : ((y : Int) == s.y) = true := by simp [a1]
            have A1 : Hid ((y : Int) = s.y) := a1
            have a3 : (y : Int) ≤ s.y := by omega
            have a4 : s.y ≤ (y : Int) := by omega
            have hn : eraB 2 false s.x s.y x y = true := by first | (simp [eraB]; done) | (simp [eraB]; omega)
            clear a1
            have HE := era_yes Hok.out.wf 2 false hlx hn
            rw [Hm.out] at HE
            have HE' : Hid (EqOn s.W s.H (wrt (eraTo s 2 false m) (pt x y) (fun _ _ => blk (backR s))) (eraTo s 2 false (m + 1))) := HE
            clear HE hn
            go_wp2_with fail
            have f0 : wr.cell? ⟨bs, 0, none⟩ = some (.pointer (some ⟨bc, 0, none⟩)) := HR1.out.f0
            obtain ⟨p0, p1, p2, p3, p4⟩ := HP1.out
            have l1 := HR1.out.lt
            have lp := HP1.out.lt
            go_region_held3 (fun w' => w'.cell? ⟨bs, 0, none⟩ = some (.pointer (some ⟨bc, 0, none⟩)) ∧ w'.cell? ⟨Bp, 0, none⟩ = some (.int .i64 (backR s).f) ∧ w'.cell? ⟨Bp, 1, none⟩ = some (.int .i64 (backR s).b) ∧ w'.cell? ⟨Bp, 2, none⟩ = some (.bool (backR s).bo) ∧ w'.cell? ⟨Bp, 3, none⟩ = some (.bool (backR s).un) ∧ w'.cell? ⟨Bp, 4, none⟩ = some (.bool (backR s).re)) (simp [*])
              (first | (go_at_call 51; refine (refBlank (backR s) _).mono ?_; rintro e w5 ⟨rfl, hb5⟩; have e1 := hb5.cells l1; have e2 := hb5.cells lp; have HC5 : Hid (Cels w5 bc g cap s.W s.H N (eraTo s 2 false m)) := HR1.out.cels.below (below_drew' hb5)) | (go_at_call 92; refine (refSetW bc g cap s.W s.H N _ x y (blk (backR s)) _ HC5.out (era_wf Hok.out.wf _ _ _) hlx hlt).mono ?_; rintro e w6 ⟨rfl, C6, K6⟩; have s5 := hb5.size; have e3 := keep_cells K6 (Nat.lt_of_lt_of_le l1 s5) nsg; have e4 := keep_cells K6 (Nat.lt_of_lt_of_le lp s5) nbg))
            have hb5 : Below wr.heap.size wr w5 := below_drew' hb5
            have K7 : Keep (fun i => i = bs ∨ i = bc ∨ i = g) w w6 := (hK.thenBelow hb5).trans K6 (fun i _ hi => .inr (.inr hi))
            have P7 : PenAt w6 Bp 0 (backR s) := (HP1.out.same (hb5.block _ lp)).same (K6.block _ (Nat.lt_of_lt_of_le lp s5) nbg)
            have R7 : RefAt w6 bs bc g cap N { s with G := eraTo s 2 false (m + 1) } := HR1.out.cells { s with G := eraTo s 2 false (m + 1) } ((K6.block _ (Nat.lt_of_lt_of_le l1 s5) nsg).trans (hb5.block _ l1)) (C6.congr HE'.out) rfl HR1.out.ne2
            rename_i hS
            clear hS e1 e2 e3 e4 C6 K6 HC5 hb5 p0 p1 p2 p3 p4 f0
            go_wp2_with fail
            go_roundw
            case rel => exact ⟨x + 1, m + 1, by omega, by have := Hm.out; omega, by go_num, R7, K7, P7⟩
            case measure => simp [intOf]; omega
          · have c1 : ((y : Int) == s.y) = true := by simp [a1]
            have A1 : Hid ((y : Int) = s.y) := a1
            have a3 : (y : Int) ≤ s.y := by omega
            have a4 : s.y ≤ (y : Int) := by omega
            have a5 : (x : Int) ≤ s.x := by omega
            have a6 : s.x ≤ (x : Int) := by omega
            have hn : eraB 2 false s.x s.y x y = true := by first | (simp [eraB]; done) | (simp [eraB]; omega)
            clear a1 a2
            have HE := era_yes Hok.out.wf 2 false hlx hn
            rw [Hm.out] at HE
            have HE' : Hid (EqOn s.W s.H (wrt (eraTo s 2 false m) (pt x y) (fun _ _ => blk (backR s))) (eraTo s 2 false (m + 1))) := HE
            clear HE hn
            go_wp2_with fail
            have f0 : wr.cell? ⟨bs, 0, none⟩ = some (.pointer (some ⟨bc, 0, none⟩)) := HR1.out.f0
            obtain ⟨p0, p1, p2, p3, p4⟩ := HP1.out
            have l1 := HR1.out.lt
            have lp := HP1.out.lt
            go_region_held3 (fun w' => w'.cell? ⟨bs, 0, none⟩ = some (.pointer (some ⟨bc, 0, none⟩)) ∧ w'.cell? ⟨Bp, 0, none⟩ = some (.int .i64 (backR s).f) ∧ w'.cell? ⟨Bp, 1, none⟩ = some (.int .i64 (backR s).b) ∧ w'.cell? ⟨Bp, 2, none⟩ = some (.bool (backR s).bo) ∧ w'.cell? ⟨Bp, 3, none⟩ = some (.bool (backR s).un) ∧ w'.cell? ⟨Bp, 4, none⟩ = some (.bool (backR s).re)) (simp [*])
              (first | (go_at_call 51; refine (refBlank (backR s) _).mono ?_; rintro e w5 ⟨rfl, hb5⟩; have e1 := hb5.cells l1; have e2 := hb5.cells lp; have HC5 : Hid (Cels w5 bc g cap s.W s.H N (eraTo s 2 false m)) := HR1.out.cels.below (below_drew' hb5)) | (go_at_call 92; refine (refSetW bc g cap s.W s.H N _ x y (blk (backR s)) _ HC5.out (era_wf Hok.out.wf _ _ _) hlx hlt).mono ?_; rintro e w6 ⟨rfl, C6, K6⟩; have s5 := hb5.size; have e3 := keep_cells K6 (Nat.lt_of_lt_of_le l1 s5) nsg; have e4 := keep_cells K6 (Nat.lt_of_lt_of_le lp s5) nbg))
            have hb5 : Below wr.heap.size wr w5 := below_drew' hb5
            have K7 : Keep (fun i => i = bs ∨ i = bc ∨ i = g) w w6 := (hK.thenBelow hb5).trans K6 (fun i _ hi => .inr (.inr hi))
            have P7 : PenAt w6 Bp 0 (backR s) := (HP1.out.same (hb5.block _ lp)).same (K6.block _ (Nat.lt_of_lt_of_le lp s5) nbg)
            have R7 : RefAt w6 bs bc g cap N { s with G := eraTo s 2 false (m + 1) } := HR1.out.cells { s with G := eraTo s 2 false (m + 1) } ((K6.block _ (Nat.lt_of_lt_of_le l1 s5) nsg).trans (hb5.block _ l1)) (C6.congr HE'.out) rfl HR1.out.ne2
            rename_i hS
            clear hS e1 e2 e3 e4 C6 K6 HC5 hb5 p0 p1 p2 p3 p4 f0
            go_wp2_with fail
            go_roundw
            case rel => exact ⟨x + 1, m + 1, by omega, by have := Hm.out; omega, by go_num, R7, K7, P7⟩
            case measure => simp [intOf]; omega
          · have c1 : ((y : Int) == s.y) = true := by simp [a1]
            have A1 : Hid ((y : Int) = s.y) := a1
            have a3 : (y : Int) ≤ s.y := by omega
            have a4 : s.y ≤ (y : Int) := by omega
            have hn : eraB 2 false s.x s.y x y = true := by first | (simp [eraB]; done) | (simp [eraB]; omega)
            clear a1
            have HE := era_yes Hok.out.wf 2 false hlx hn
            rw [Hm.out] at HE
            have HE' : Hid (EqOn s.W s.H (wrt (eraTo s 2 false m) (pt x y) (fun _ _ => blk (backR s))) (eraTo s 2 false (m + 1))) := HE
            clear HE hn
            go_wp2_with fail
            have f0 : wr.cell? ⟨bs, 0, none⟩ = some (.pointer (some ⟨bc, 0, none⟩)) := HR1.out.f0
            obtain ⟨p0, p1, p2, p3, p4⟩ := HP1.out
            have l1 := HR1.out.lt
            have lp := HP1.out.lt
            go_region_held3 (fun w' => w'.cell? ⟨bs, 0, none⟩ = some (.pointer (some ⟨bc, 0, none⟩)) ∧ w'.cell? ⟨Bp, 0, none⟩ = some (.int .i64 (backR s).f) ∧ w'.cell? ⟨Bp, 1, none⟩ = some (.int .i64 (backR s).b) ∧ w'.cell? ⟨Bp, 2, none⟩ = some (.bool (backR s).bo) ∧ w'.cell? ⟨Bp, 3, none⟩ = some (.bool (backR s).un) ∧ w'.cell? ⟨Bp, 4, none⟩ = some (.bool (backR s).re)) (simp [*])
              (first | (go_at_call 51; refine (refBlank (backR s) _).mono ?_; rintro e w5 ⟨rfl, hb5⟩; have e1 := hb5.cells l1; have e2 := hb5.cells lp; have HC5 : Hid (Cels w5 bc g cap s.W s.H N (eraTo s 2 false m)) := HR1.out.cels.below (below_drew' hb5)) | (go_at_call 92; refine (refSetW bc g cap s.W s.H N _ x y (blk (backR s)) _ HC5.out (era_wf Hok.out.wf _ _ _) hlx hlt).mono ?_; rintro e w6 ⟨rfl, C6, K6⟩; have s5 := hb5.size; have e3 := keep_cells K6 (Nat.lt_of_lt_of_le l1 s5) nsg; have e4 := keep_cells K6 (Nat.lt_of_lt_of_le lp s5) nbg))
            have hb5 : Below wr.heap.size wr w5 := below_drew' hb5
            have K7 : Keep (fun i => i = bs ∨ i = bc ∨ i = g) w w6 := (hK.thenBelow hb5).trans K6 (fun i _ hi => .inr (.inr hi))
            have P7 : PenAt w6 Bp 0 (backR s) := (HP1.out.same (hb5.block _ lp)).same (K6.block _ (Nat.lt_of_lt_of_le lp s5) nbg)
            have R7 : RefAt w6 bs bc g cap N { s with G := eraTo s 2 false (m + 1) } := HR1.out.cells { s with G := eraTo s 2 false (m + 1) } ((K6.block _ (Nat.lt_of_lt_of_le l1 s5) nsg).trans (hb5.block _ l1)) (C6.congr HE'.out) rfl HR1.out.ne2
            rename_i hS
            clear hS e1 e2 e3 e4 C6 K6 HC5 hb5 p0 p1 p2 p3 p4 f0
            go_wp2_with fail
            go_roundw
            case rel => exact ⟨x + 1, m + 1, by omega, by have := Hm.out; omega, by go_num, R7, K7, P7⟩
            case measure => simp [intOf]; omega
          · have c1 : ((y : Int) == s.y) = false := by simp; omega
            have hn : eraB 2 false s.x s.y x y = false := by first | (simp [eraB]; done) | (simp [eraB]; omega)
            have HE := era_no Hok.out.wf 2 false hlx hn
            rw [Hm.out] at HE
            have HE' : Hid (EqOn s.W s.H (eraTo s 2 false m) (eraTo s 2 false (m + 1))) := HE
            clear HE hn
            go_wp2_with fail
            go_roundw
            case rel => exact ⟨x + 1, m + 1, by omega, by have := Hm.out; omega, by go_num, ⟨HR1.out.blk, HR1.out.cels.congr HE'.out, HR1.out.ne1, HR1.out.ne2⟩, hK, HP1.out⟩
            case measure => simp [intOf]; omega
        · obtain hxe : x = s.W := by omega
          go_wp2_with fail
          go_roundw
          case rel => exact ⟨y + 1, m, by omega, by rw [Nat.succ_mul, ← Hm.out, hxe], by go_num, HR1.out, hK, HP1.out⟩
          case measure => simp [intOf]; omega
    · have hye : Hid (y = s.H) := by show y = s.H; omega
      go_wp2_with fail
      go_end0
      have R9 : RefAt wr bs bc g cap N (eraR s 2 false) := by
        have := era_all Hok.out.wf 2 false
        have hmm : s.H * s.W = m0 := by rw [← Hm0.out, hye.out]
        rw [hmm] at this
        exact ⟨HR0.out.blk, HR0.out.cels.congr this, HR0.out.ne1, HR0.out.ne2⟩
      exact rpost R9 hK (.inl rfl)
end Go.Proofs.YtjlfibhbfdckpaaDoor
