/- Texts of the proof, one behind the other: RfT, RfU, RfW. -/
import Derived.Test.YtjlfibhbfdckpaaDoorK05
import Derived.Test.YtjlfibhbfdckpaaDoorK19
import Derived.Test.YtjlfibhbfdckpaaDoorK21
import Derived.Test.YtjlfibhbfdckpaaDoorK22
import Derived.Test.YtjlfibhbfdckpaaDoorK23
import Derived.Test.YtjlfibhbfdckpaaDoorK24
import Derived.Deep.DeepCutAuto
/- The document's screen: erase. -/
namespace Go.Proofs.YtjlfibhbfdckpaaDoor
open Go.RowKit
attribute [local go_sem ↓] Go.wp_at_zero Go.wp_at_succ
set_option maxRecDepth 100000 in
set_option maxHeartbeats 8000000 in
theorem refEraoJ (bs bc g cap N : Nat) (s : Rs) (w : World) (h : RefAt w bs bc g cap N s) (ok : s.Ok) (how : Int) (h0 : how ≠ 0) (h1 : how ≠ 1) (h2 : how ≠ 2) :
    Calls Tryd.prog 76 #[.pointer (some ⟨bs, 0, none⟩), .int .i64 how, .bool true] w (RPost bs bc g w (eraR s how true) (.tuple #[])) := by
  have b0 : (how == 0) = false := by simpa using h0
  have b1 : (how == 1) = false := by simpa using h1
  have b2 : (how == 2) = false := by simpa using h2
  have Hh : Hid (how ≠ 0 ∧ how ≠ 1 ∧ how ≠ 2) := ⟨h0, h1, h2⟩
  clear h0 h1 h2
  have HR : Hid (RefAt w bs bc g cap N s) := h
  have Hok : Hid s.Ok := ok
  have HN : Hid (N = s.H * s.W) := h.cels.hN
  have w2 := ok.w2
  have hh2 := ok.h2
  have X0 := ok.x0
  have Y0 := ok.y0
  have nsg := h.ne2
  have lg := h.cels.glt
  clear h ok
  go_enter Tryd.func76, Tryd.ntmps76
  go_wp2_with fail
  go_at_call 75
  refine (refBack bs bc g cap N s _ HR.out).mono ?_
  rintro e wb ⟨rfl, hb2⟩
  have HRb : Hid (RefAt wb bs bc g cap N s) := HR.out.below hb2
  have Kb : Keep (fun i => i = bs ∨ i = bc ∨ i = g) w wb := Keep.below _ hb2
  clear hb2 HR
  go_wp2_with fail
  generalize hW3 : wb.alloc _ = w3
  have B3 : Below wb.heap.size wb w3 := by rw [← hW3]; exact (Below.refl _ _).alloc (Nat.le_refl _) _
  have P3 : PenAt w3 wb.heap.size 0 (backR s) := by rw [← hW3]; exact pen_new _ _ _
  have R3 : RefAt w3 bs bc g cap N { s with G := eraTo s how true 0 } := by
    have e : { s with G := eraTo s how true 0 } = s := by rw [era_none]
    rw [e]; exact HRb.out.below B3
  have K3 : Keep (fun i => i = bs ∨ i = bc ∨ i = g) w w3 := Kb.thenBelow B3
  have nbg : wb.heap.size ≠ g := by have := HRb.out.cels.glt; omega
  generalize wb.heap.size = Bp at *
  clear hW3 B3 HRb Kb
  go_loopw [7] (fun i w' => ∃ (y m : Nat), y ≤ s.H ∧ y * s.W = m ∧ i = .int .i64 y ∧ RefAt w' bs bc g cap N { s with G := eraTo s how true m } ∧ Keep (fun i => i = bs ∨ i = bc ∨ i = g) w w' ∧ PenAt w' Bp 0 (backR s)) (fun i _ => s.H - (intOf i).toNat)
  case atStart => exact ⟨0, 0, by omega, by simp, rfl, R3, K3, P3⟩
  case round =>
    clear R3 K3 P3
    obtain ⟨y, m0, hy, hm0, rfl, hR, hK, hP⟩ := hrel
    have f2 : wr.cell? ⟨bs, 2, none⟩ = some (.int .i64 s.H) := hR.f2
    have HR0 : Hid (RefAt wr bs bc g cap N { s with G := eraTo s how true m0 }) := hR
    have HP0 : Hid (PenAt wr Bp 0 (backR s)) := hP
    have Hm0 : Hid (y * s.W = m0) := hm0
    clear hR hP hm0
    by_cases hlt : y < s.H
    · go_wp2_with fail
      go_loopw [8] (fun i w' => ∃ (x m : Nat), x ≤ s.W ∧ y * s.W + x = m ∧ i = .int .i64 x ∧ RefAt w' bs bc g cap N { s with G := eraTo s how true m } ∧ Keep (fun i => i = bs ∨ i = bc ∨ i = g) w w' ∧ PenAt w' Bp 0 (backR s)) (fun i _ => s.W - (intOf i).toNat)
      case atStart => exact ⟨0, m0, by omega, by have := Hm0.out; omega, rfl, HR0.out, hK, HP0.out⟩
      case round =>
        clear HR0 HP0 f2 hK
        obtain ⟨x, m, hx, hm, rfl, hR, hK, hP⟩ := hrel
        have f1 : wr.cell? ⟨bs, 1, none⟩ = some (.int .i64 s.W) := hR.f1
        have f3 : wr.cell? ⟨bs, 3, none⟩ = some (.int .i64 s.x) := hR.f3
        have f4 : wr.cell? ⟨bs, 4, none⟩ = some (.int .i64 s.y) := hR.f4
        have HR1 : Hid (RefAt wr bs bc g cap N { s with G := eraTo s how true m }) := hR
        have HP1 : Hid (PenAt wr Bp 0 (backR s)) := hP
        have Hm : Hid (y * s.W + x = m) := hm
        clear hR hP hm
        by_cases hlx : x < s.W
        · rcases (by omega : (y : Int) < s.y ∨ ((y : Int) = s.y ∧ (x : Int) < s.x) ∨ ((y : Int) = s.y ∧ (x : Int) = s.x) ∨ ((y : Int) = s.y ∧ s.x < (x : Int)) ∨ s.y < (y : Int)) with a1 | ⟨a1, a2⟩ | ⟨a1, a2⟩ | ⟨a1, a2⟩ | a1
          · have c1 : ((y : Int) == s.y) = false := by simp; omega
            have hn : eraB how true s.x s.y x y = false := by obtain ⟨q0, q1, q2⟩ := Hh.out; simp [eraB, q0, q1, q2]
            have HE := era_no Hok.out.wf how true hlx hn
            rw [Hm.out] at HE
            have HE' : Hid (EqOn s.W s.H (eraTo s how true m) (eraTo s how true (m + 1))) := HE
            clear HE hn
            go_wp2_with fail
            go_roundw
            case rel => exact ⟨x + 1, m + 1, by omega, by have := Hm.out; omega, by go_num, ⟨HR1.out.blk, HR1.out.cels.congr HE'.out, HR1.out.ne1, HR1.out.ne2⟩, hK, HP1.out⟩
            case measure => simp [intOf]; omega
          · have c1 : ((y : Int) == s.y) = true := by simp [a1]
            have A1 : Hid ((y : Int) = s.y) := a1
            have a3 : (y : Int) ≤ s.y := by omega
            have a4 : s.y ≤ (y : Int) := by omega
            have hn : eraB how true s.x s.y x y = false := by obtain ⟨q0, q1, q2⟩ := Hh.out; simp [eraB, q0, q1, q2]
            clear a1
            have HE := era_no Hok.out.wf how true hlx hn
            rw [Hm.out] at HE
            have HE' : Hid (EqOn s.W s.H (eraTo s how true m) (eraTo s how true (m + 1))) := HE
            clear HE hn
            go_wp2_with fail
            go_roundw
            case rel => exact ⟨x + 1, m + 1, by omega, by have := Hm.out; omega, by go_num, ⟨HR1.out.blk, HR1.out.cels.congr HE'.out, HR1.out.ne1, HR1.out.ne2⟩, hK, HP1.out⟩
            case measure => simp [intOf]; omega
          · have c1 : ((y : Int) == s.y) = true := by simp [a1]
            have A1 : Hid ((y : Int) = s.y) := a1
            have a3 : (y : Int) ≤ s.y := by omega
            have a4 : s.y ≤ (y : Int) := by omega
            have a5 : (x : Int) ≤ s.x := by omega
            have a6 : s.x ≤ (x : Int) := by omega
            have hn : eraB how true s.x s.y x y = false := by obtain ⟨q0, q1, q2⟩ := Hh.out; simp [eraB, q0, q1, q2]
            clear a1 a2
            have HE := era_no Hok.out.wf how true hlx hn
            rw [Hm.out] at HE
            have HE' : Hid (EqOn s.W s.H (eraTo s how true m) (eraTo s how true (m + 1))) := HE
            clear HE hn
            go_wp2_with fail
            go_roundw
            case rel => exact ⟨x + 1, m + 1, by omega, by have := Hm.out; omega, by go_num, ⟨HR1.out.blk, HR1.out.cels.congr HE'.out, HR1.out.ne1, HR1.out.ne2⟩, hK, HP1.out⟩
            case measure => simp [intOf]; omega
          · have c1 : ((y : Int) == s.y) = true := by simp [a1]
            have A1 : Hid ((y : Int) = s.y) := a1
            have a3 : (y : Int) ≤ s.y := by omega
            have a4 : s.y ≤ (y : Int) := by omega
            have hn : eraB how true s.x s.y x y = false := by obtain ⟨q0, q1, q2⟩ := Hh.out; simp [eraB, q0, q1, q2]
            clear a1
            have HE := era_no Hok.out.wf how true hlx hn
            rw [Hm.out] at HE
            have HE' : Hid (EqOn s.W s.H (eraTo s how true m) (eraTo s how true (m + 1))) := HE
            clear HE hn
            go_wp2_with fail
            go_roundw
            case rel => exact ⟨x + 1, m + 1, by omega, by have := Hm.out; omega, by go_num, ⟨HR1.out.blk, HR1.out.cels.congr HE'.out, HR1.out.ne1, HR1.out.ne2⟩, hK, HP1.out⟩
            case measure => simp [intOf]; omega
          · have c1 : ((y : Int) == s.y) = false := by simp; omega
            have hn : eraB how true s.x s.y x y = false := by obtain ⟨q0, q1, q2⟩ := Hh.out; simp [eraB, q0, q1, q2]
            have HE := era_no Hok.out.wf how true hlx hn
            rw [Hm.out] at HE
            have HE' : Hid (EqOn s.W s.H (eraTo s how true m) (eraTo s how true (m + 1))) := HE
            clear HE hn
            go_wp2_with fail
            go_roundw
            case rel => exact ⟨x + 1, m + 1, by omega, by have := Hm.out; omega, by go_num, ⟨HR1.out.blk, HR1.out.cels.congr HE'.out, HR1.out.ne1, HR1.out.ne2⟩, hK, HP1.out⟩
            case measure => simp [intOf]; omega
        · obtain hxe : x = s.W := by omega
          go_wp2_with fail
          go_roundw
          case rel => exact ⟨y + 1, m, by omega, by rw [Nat.succ_mul, ← Hm.out, hxe], by go_num, HR1.out, hK, HP1.out⟩
          case measure => simp [intOf]; omega
    · have hye : Hid (y = s.H) := by show y = s.H; omega
      go_wp2_with fail
      go_end0
      have R9 : RefAt wr bs bc g cap N (eraR s how true) := by
        have := era_all Hok.out.wf how true
        have hmm : s.H * s.W = m0 := by rw [← Hm0.out, hye.out]
        rw [hmm] at this
        exact ⟨HR0.out.blk, HR0.out.cels.congr this, HR0.out.ne1, HR0.out.ne2⟩
      exact rpost R9 hK (.inl rfl)
set_option maxRecDepth 100000 in
set_option maxHeartbeats 8000000 in
theorem refEraoK (bs bc g cap N : Nat) (s : Rs) (w : World) (h : RefAt w bs bc g cap N s) (ok : s.Ok) (how : Int) (h0 : how ≠ 0) (h1 : how ≠ 1) (h2 : how ≠ 2) :
    Calls Tryd.prog 76 #[.pointer (some ⟨bs, 0, none⟩), .int .i64 how, .bool false] w (RPost bs bc g w (eraR s how false) (.tuple #[])) := by
  have b0 : (how == 0) = false := by simpa using h0
  have b1 : (how == 1) = false := by simpa using h1
  have b2 : (how == 2) = false := by simpa using h2
  have Hh : Hid (how ≠ 0 ∧ how ≠ 1 ∧ how ≠ 2) := ⟨h0, h1, h2⟩
  clear h0 h1 h2
  have HR : Hid (RefAt w bs bc g cap N s) := h
  have Hok : Hid s.Ok := ok
  have HN : Hid (N = s.H * s.W) := h.cels.hN
  have w2 := ok.w2
  have hh2 := ok.h2
  have X0 := ok.x0
  have Y0 := ok.y0
  have nsg := h.ne2
  have lg := h.cels.glt
  clear h ok
  go_enter Tryd.func76, Tryd.ntmps76
  go_wp2_with fail
  go_at_call 75
  refine (refBack bs bc g cap N s _ HR.out).mono ?_
  rintro e wb ⟨rfl, hb2⟩
  have HRb : Hid (RefAt wb bs bc g cap N s) := HR.out.below hb2
  have Kb : Keep (fun i => i = bs ∨ i = bc ∨ i = g) w wb := Keep.below _ hb2
  clear hb2 HR
  go_wp2_with fail
  generalize hW3 : wb.alloc _ = w3
  have B3 : Below wb.heap.size wb w3 := by rw [← hW3]; exact (Below.refl _ _).alloc (Nat.le_refl _) _
  have P3 : PenAt w3 wb.heap.size 0 (backR s) := by rw [← hW3]; exact pen_new _ _ _
  have R3 : RefAt w3 bs bc g cap N { s with G := eraTo s how false 0 } := by
    have e : { s with G := eraTo s how false 0 } = s := by rw [era_none]
    rw [e]; exact HRb.out.below B3
  have K3 : Keep (fun i => i = bs ∨ i = bc ∨ i = g) w w3 := Kb.thenBelow B3
  have nbg : wb.heap.size ≠ g := by have := HRb.out.cels.glt; omega
  generalize wb.heap.size = Bp at *
  clear hW3 B3 HRb Kb
  go_loopw [7] (fun i w' => ∃ (y m : Nat), y ≤ s.H ∧ y * s.W = m ∧ i = .int .i64 y ∧ RefAt w' bs bc g cap N { s with G := eraTo s how false m } ∧ Keep (fun i => i = bs ∨ i = bc ∨ i = g) w w' ∧ PenAt w' Bp 0 (backR s)) (fun i _ => s.H - (intOf i).toNat)
  case atStart => exact ⟨0, 0, by omega, by simp, rfl, R3, K3, P3⟩
  case round =>
    clear R3 K3 P3
    obtain ⟨y, m0, hy, hm0, rfl, hR, hK, hP⟩ := hrel
    have f2 : wr.cell? ⟨bs, 2, none⟩ = some (.int .i64 s.H) := hR.f2
    have HR0 : Hid (RefAt wr bs bc g cap N { s with G := eraTo s how false m0 }) := hR
    have HP0 : Hid (PenAt wr Bp 0 (backR s)) := hP
    have Hm0 : Hid (y * s.W = m0) := hm0
    clear hR hP hm0
    by_cases hlt : y < s.H
    · go_wp2_with fail
      go_loopw [8] (fun i w' => ∃ (x m : Nat), x ≤ s.W ∧ y * s.W + x = m ∧ i = .int .i64 x ∧ RefAt w' bs bc g cap N { s with G := eraTo s how false m } ∧ Keep (fun i => i = bs ∨ i = bc ∨ i = g) w w' ∧ PenAt w' Bp 0 (backR s)) (fun i _ => s.W - (intOf i).toNat)
      case atStart => exact ⟨0, m0, by omega, by have := Hm0.out; omega, rfl, HR0.out, hK, HP0.out⟩
      case round =>
        clear HR0 HP0 f2 hK
        obtain ⟨x, m, hx, hm, rfl, hR, hK, hP⟩ := hrel
        have f1 : wr.cell? ⟨bs, 1, none⟩ = some (.int .i64 s.W) := hR.f1
        have f3 : wr.cell? ⟨bs, 3, none⟩ = some (.int .i64 s.x) := hR.f3
        have f4 : wr.cell? ⟨bs, 4, none⟩ = some (.int .i64 s.y) := hR.f4
        have HR1 : Hid (RefAt wr bs bc g cap N { s with G := eraTo s how false m }) := hR
        have HP1 : Hid (PenAt wr Bp 0 (backR s)) := hP
        have Hm : Hid (y * s.W + x = m) := hm
        clear hR hP hm
        by_cases hlx : x < s.W
        · rcases (by omega : (y : Int) < s.y ∨ ((y : Int) = s.y ∧ (x : Int) < s.x) ∨ ((y : Int) = s.y ∧ (x : Int) = s.x) ∨ ((y : Int) = s.y ∧ s.x < (x : Int)) ∨ s.y < (y : Int)) with a1 | ⟨a1, a2⟩ | ⟨a1, a2⟩ | ⟨a1, a2⟩ | a1
          · have c1 : ((y : Int) == s.y) = false := by simp; omega
            have hn : eraB how false s.x s.y x y = false := by obtain ⟨q0, q1, q2⟩ := Hh.out; simp [eraB, q0, q1, q2]
            have HE := era_no Hok.out.wf how false hlx hn
            rw [Hm.out] at HE
            have HE' : Hid (EqOn s.W s.H (eraTo s how false m) (eraTo s how false (m + 1))) := HE
            clear HE hn
            go_wp2_with fail
            go_roundw
            case rel => exact ⟨x + 1, m + 1, by omega, by have := Hm.out; omega, by go_num, ⟨HR1.out.blk, HR1.out.cels.congr HE'.out, HR1.out.ne1, HR1.out.ne2⟩, hK, HP1.out⟩
            case measure => simp [intOf]; omega
          · have c1 : ((y : Int) == s.y) = true := by simp [a1]
            have A1 : Hid ((y : Int) = s.y) := a1
            have a3 : (y : Int) ≤ s.y := by omega
            have a4 : s.y ≤ (y : Int) := by omega
            have hn : eraB how false s.x s.y x y = false := by obtain ⟨q0, q1, q2⟩ := Hh.out; simp [eraB, q0, q1, q2]
            clear a1
            have HE := era_no Hok.out.wf how false hlx hn
            rw [Hm.out] at HE
            have HE' : Hid (EqOn s.W s.H (eraTo s how false m) (eraTo s how false (m + 1))) := HE
            clear HE hn
            go_wp2_with fail
            go_roundw
            case rel => exact ⟨x + 1, m + 1, by omega, by have := Hm.out; omega, by go_num, ⟨HR1.out.blk, HR1.out.cels.congr HE'.out, HR1.out.ne1, HR1.out.ne2⟩, hK, HP1.out⟩
            case measure => simp [intOf]; omega
          · have c1 : ((y : Int) == s.y) = true := by simp [a1]
            have A1 : Hid ((y : Int) = s.y) := a1
            have a3 : (y : Int) ≤ s.y := by omega
            have a4 : s.y ≤ (y : Int) := by omega
            have a5 : (x : Int) ≤ s.x := by omega
            have a6 : s.x ≤ (x : Int) := by omega
            have hn : eraB how false s.x s.y x y = false := by obtain ⟨q0, q1, q2⟩ := Hh.out; simp [eraB, q0, q1, q2]
            clear a1 a2
            have HE := era_no Hok.out.wf how false hlx hn
            rw [Hm.out] at HE
            have HE' : Hid (EqOn s.W s.H (eraTo s how false m) (eraTo s how false (m + 1))) := HE
            clear HE hn
            go_wp2_with fail
            go_roundw
            case rel => exact ⟨x + 1, m + 1, by omega, by have := Hm.out; omega, by go_num, ⟨HR1.out.blk, HR1.out.cels.congr HE'.out, HR1.out.ne1, HR1.out.ne2⟩, hK, HP1.out⟩
            case measure => simp [intOf]; omega
          · have c1 : ((y : Int) == s.y) = true := by simp [a1]
            have A1 : Hid ((y : Int) = s.y) := a1
            have a3 : (y : Int) ≤ s.y := by omega
            have a4 : s.y ≤ (y : Int) := by omega
            have hn : eraB how false s.x s.y x y = false := by obtain ⟨q0, q1, q2⟩ := Hh.out; simp [eraB, q0, q1, q2]
            clear a1
            have HE := era_no Hok.out.wf how false hlx hn
            rw [Hm.out] at HE
            have HE' : Hid (EqOn s.W s.H (eraTo s how false m) (eraTo s how false (m + 1))) := HE
            clear HE hn
            go_wp2_with fail
            go_roundw
            case rel => exact ⟨x + 1, m + 1, by omega, by have := Hm.out; omega, by go_num, ⟨HR1.out.blk, HR1.out.cels.congr HE'.out, HR1.out.ne1, HR1.out.ne2⟩, hK, HP1.out⟩
            case measure => simp [intOf]; omega
          · have c1 : ((y : Int) == s.y) = false := by simp; omega
            have hn : eraB how false s.x s.y x y = false := by obtain ⟨q0, q1, q2⟩ := Hh.out; simp [eraB, q0, q1, q2]
            have HE := era_no Hok.out.wf how false hlx hn
            rw [Hm.out] at HE
            have HE' : Hid (EqOn s.W s.H (eraTo s how false m) (eraTo s how false (m + 1))) := HE
            clear HE hn
            go_wp2_with fail
            go_roundw
            case rel => exact ⟨x + 1, m + 1, by omega, by have := Hm.out; omega, by go_num, ⟨HR1.out.blk, HR1.out.cels.congr HE'.out, HR1.out.ne1, HR1.out.ne2⟩, hK, HP1.out⟩
            case measure => simp [intOf]; omega
        · obtain hxe : x = s.W := by omega
          go_wp2_with fail
          go_roundw
          case rel => exact ⟨y + 1, m, by omega, by rw [Nat.succ_mul, ← Hm.out, hxe], by go_num, HR1.out, hK, HP1.out⟩
          case measure => simp [intOf]; omega
    · have hye : Hid (y = s.H) := by show y = s.H; omega
      go_wp2_with fail
      go_end0
      have R9 : RefAt wr bs bc g cap N (eraR s how false) := by
        have := era_all Hok.out.wf how false
        have hmm : s.H * s.W = m0 := by rw [← Hm0.out, hye.out]
        rw [hmm] at this
        exact ⟨HR0.out.blk, HR0.out.cels.congr this, HR0.out.ne1, HR0.out.ne2⟩
      exact rpost R9 hK (.inl rfl)
end Go.Proofs.YtjlfibhbfdckpaaDoor

/- The document's screen: erase, all ways. -/
namespace Go.Proofs.YtjlfibhbfdckpaaDoor
theorem refEra (bs bc g cap N : Nat) (s : Rs) (how : Int) (all : Bool) (w : World) (h : RefAt w bs bc g cap N s) (ok : s.Ok) :
    Calls Tryd.prog 76 #[.pointer (some ⟨bs, 0, none⟩), .int .i64 how, .bool all] w (RPost bs bc g w (eraR s how all) (.tuple #[])) := by
  by_cases h0 : how = 0
  · subst h0
    cases all
    · exact refEra0K bs bc g cap N s w h ok
    · exact refEra0J bs bc g cap N s w h ok
  by_cases h1 : how = 1
  · subst h1
    cases all
    · exact refEra1K bs bc g cap N s w h ok
    · exact refEra1J bs bc g cap N s w h ok
  by_cases h2 : how = 2
  · subst h2
    cases all
    · exact refEra2K bs bc g cap N s w h ok
    · exact refEra2J bs bc g cap N s w h ok
  cases all
  · exact refEraoK bs bc g cap N s w h ok how h0 h1 h2
  · exact refEraoJ bs bc g cap N s w h ok how h0 h1 h2
end Go.Proofs.YtjlfibhbfdckpaaDoor

/- The document's screen: sequence. -/
namespace Go.Proofs.YtjlfibhbfdckpaaDoor
open Go.RowKit
attribute [local go_sem ↓] Go.wp_at_zero Go.wp_at_succ
set_option maxRecDepth 100000 in
set_option maxHeartbeats 4000000 in
theorem seqA (bs bc g cap N : Nat) (s : Rs) (b : ByteArray) (l : List Int) (w : World) (h : RefAt w bs bc g cap N s) (ok : s.Ok) (hb : b.size ≤ 100000000000) (hl : nums b = some l) (h8 : l.length ≤ 8) :
    Calls Tryd.prog 58 #[.pointer (some ⟨bs, 0, none⟩), .string b, .int .u8 65] w (RPost bs bc g w (doneR s l 65) (.tuple #[])) := by
  have Hl : Hid (nums b = some l) := hl
  have HD : Hid (doneR s l 65 = goesR s s.x (s.y - one1 (l.getD 0 0))) := by
    show doneR s l 65 = goesR s s.x (s.y - one1 (l.getD 0 0))
    simp [doneR]
  have Hok : Hid s.Ok := ok
  clear hl
  go_enter Tryd.func58, Tryd.ntmps58
  go_wp2_with fail
  go_at_call 74
  refine (refNumbers b _ hb).mono ?_
  rintro e w1 ⟨B1, hN⟩
  rw [Hl.out] at hN
  obtain ⟨v, rfl, hr, hsm⟩ := hN
  obtain ⟨q, hq⟩ : ∃ q, l.length = q := ⟨_, rfl⟩
  have hd8 : decide (l.length ≤ 8) = true := by simpa using h8
  rw [hd8]
  rw [hq] at hr
  obtain ⟨av, vc, rfl⟩ : ∃ av vc, v = .slice av q vc := by
    rcases hr.2 with ⟨rfl, h0⟩ | ⟨g', cap', cur, rfl, _⟩
    · exact ⟨none, 0, by rw [h0]⟩
    · exact ⟨_, _, rfl⟩
  have HR1 : Hid (RefAt w1 bs bc g cap N s) := h.below B1
  have K1 : Keep (fun i => i = bs ∨ i = bc ∨ i = g) w w1 := Keep.below _ B1
  have Hq : Hid (l.length = q) := hq
  have q8 : q ≤ 8 := by omega
  have key : ∀ i, i < q → ∃ g', av = some ⟨g', 0, none⟩ ∧ w1.cell? ⟨g', i, none⟩ = some (.int .i64 (l.getD i 0)) := by
    intro i hi
    obtain ⟨g', cap', e⟩ := row_slice hr (by omega)
    cases e
    exact ⟨g', rfl, irow_cell hr i (by omega)⟩
  have Key : Hid (∀ i, i < q → ∃ g', av = some ⟨g', 0, none⟩ ∧ w1.cell? ⟨g', i, none⟩ = some (.int .i64 (l.getD i 0))) := key
  have HRow : Hid (w1.ownsRow w.heap.size 3 1 (.slice av q vc) q (ivals l)) := hr
  have f0 : 0 ≤ l.getD 0 0 ∧ l.getD 0 0 ≤ 9999 := hsm 0
  have f1 : 0 ≤ l.getD 1 0 ∧ l.getD 1 0 ≤ 9999 := hsm 1
  clear key hr hsm hq hd8 h8 B1 h ok
  go_upto_if 31 with fail
  go_cut [8] (fun a wc => a = .int .i64 (l.getD 0 0) ∧ wc = w1)
  case first =>
    by_cases h1 : 0 < q
    · obtain ⟨g', rfl, c0⟩ := Key.out 0 h1
      have h1' : (0 : Int) < q := by omega
      go_wp2_with fail
      go_meet
      case rel => exact ⟨rfl, rfl⟩
    · have h1' : (q : Int) ≤ 0 := by omega
      have e0 : l.getD 0 0 = 0 := by
        rw [List.getD_eq_getElem?_getD, List.getElem?_eq_none (by have := Hq.out; omega)]; rfl
      have E0 : Hid (l.getD 0 0 = 0) := e0
      clear e0
      go_wp2_with fail
      go_meet
      case rel => exact ⟨by rw [E0.out], rfl⟩
  case rest =>
    obtain ⟨rfl, hwc⟩ := hcut
    replace hwc := hwc.symm
    subst hwc
    go_upto_if 37 with fail
    go_cut [9] (fun a wc => a = .int .i64 (l.getD 1 0) ∧ wc = w1)
    case first =>
      by_cases h1 : 1 < q
      · obtain ⟨g', rfl, c0⟩ := Key.out 1 h1
        have h1' : (1 : Int) < q := by omega
        go_wp2_with fail
        go_meet
        case rel => exact ⟨rfl, rfl⟩
      · have h1' : (q : Int) ≤ 1 := by omega
        have e0 : l.getD 1 0 = 0 := by
          rw [List.getD_eq_getElem?_getD, List.getElem?_eq_none (by have := Hq.out; omega)]; rfl
        have E0 : Hid (l.getD 1 0 = 0) := e0
        clear e0
        go_wp2_with fail
        go_meet
        case rel => exact ⟨by rw [E0.out], rfl⟩
    case rest =>
      obtain ⟨rfl, hwc⟩ := hcut
      replace hwc := hwc.symm
      subst hwc
      generalize hfe : l.getD 0 0 = first at *
      have Hfe : Hid (l.getD 0 0 = first) := hfe
      generalize hse : l.getD 1 0 = second at *
      have Hse : Hid (l.getD 1 0 = second) := hse
      clear hfe hse
      obtain ⟨f00, f01⟩ := f0
      obtain ⟨f10, f11⟩ := f1
      go_upto_if 43 with fail
      go_cut [10] (fun a wc => a = .int .i64 (one1 first) ∧ wc = w1)
      case first =>
        by_cases h1 : first = 0
        · subst h1
          go_wp2_with fail
          go_meet
          case rel => exact ⟨rfl, rfl⟩
        · have h1' : (first == 0) = false := by simpa using h1
          have E1 : Hid (one1 first = first) := by show one1 first = first; unfold one1; exact if_neg h1
          clear h1
          go_wp2_with fail
          go_meet
          case rel => exact ⟨by rw [E1.out], rfl⟩
      case rest =>
        obtain ⟨rfl, hwc⟩ := hcut
        replace hwc := hwc.symm
        subst hwc
        have n0 : 1 ≤ one1 first := by unfold one1; split <;> omega
        have n1 : one1 first ≤ 9999 := by unfold one1; split <;> omega
        generalize hne : one1 first = n at *
        have Hne : Hid (one1 first = n) := hne
        clear hne
        have f3 := HR1.out.f3
        have f4 := HR1.out.f4
        go_wp2_with fail
        go_at_call 75
        refine (refBack bs bc g cap N s _ HR1.out).mono ?_
        rintro e w2 ⟨rfl, hb2⟩
        have HR2 : Hid (RefAt w2 bs bc g cap N s) := HR1.out.below hb2
        have K2 : Keep (fun i => i = bs ∨ i = bc ∨ i = g) w w2 := K1.thenBelow hb2
        clear hb2 HR1 K1
        have x0 := Hok.out.x0
        have x1 := Hok.out.x1
        have y0 := Hok.out.y0
        have y1 := Hok.out.y1
        have w40 := Hok.out.w2
        have h20 := Hok.out.h2
        go_wp2_with fail
        have R3 := HR2.out.below ((Below.refl _ _).alloc (Nat.le_refl _) (.cells #[.int .i64 (backR s).f, .int .i64 (backR s).b, .bool (backR s).bo, .bool (backR s).un, .bool (backR s).re] 44))
        have K3 := K2.alloc (.cells #[.int .i64 (backR s).f, .int .i64 (backR s).b, .bool (backR s).bo, .bool (backR s).un, .bool (backR s).re] 44)
        go_at_call 35
        refine (refGoes bs bc g cap N s s.x (s.y - n) _ R3).mono ?_
        rintro e w5 ⟨rfl, R5, K5⟩
        have K6 : Keep (fun i => i = bs ∨ i = bc ∨ i = g) w w5 := K3.trans K5 (fun i _ hi => .inl hi)
        have R9 : RefAt w5 bs bc g cap N (doneR s l 65) := by rw [HD.out]; exact R5
        clear R3 K3 K5 R5 K2 HR2
        go_wp2_with fail
        go_end0
        exact rpost R9 K6 (.inl rfl)
set_option maxRecDepth 100000 in
set_option maxHeartbeats 4000000 in
theorem seqB (bs bc g cap N : Nat) (s : Rs) (b : ByteArray) (l : List Int) (w : World) (h : RefAt w bs bc g cap N s) (ok : s.Ok) (hb : b.size ≤ 100000000000) (hl : nums b = some l) (h8 : l.length ≤ 8) :
    Calls Tryd.prog 58 #[.pointer (some ⟨bs, 0, none⟩), .string b, .int .u8 66] w (RPost bs bc g w (doneR s l 66) (.tuple #[])) := by
  have Hl : Hid (nums b = some l) := hl
  have HD : Hid (doneR s l 66 = goesR s s.x (s.y + one1 (l.getD 0 0))) := by
    show doneR s l 66 = goesR s s.x (s.y + one1 (l.getD 0 0))
    simp [doneR]
  have Hok : Hid s.Ok := ok
  clear hl
  go_enter Tryd.func58, Tryd.ntmps58
  go_wp2_with fail
  go_at_call 74
  refine (refNumbers b _ hb).mono ?_
  rintro e w1 ⟨B1, hN⟩
  rw [Hl.out] at hN
  obtain ⟨v, rfl, hr, hsm⟩ := hN
  obtain ⟨q, hq⟩ : ∃ q, l.length = q := ⟨_, rfl⟩
  have hd8 : decide (l.length ≤ 8) = true := by simpa using h8
  rw [hd8]
  rw [hq] at hr
  obtain ⟨av, vc, rfl⟩ : ∃ av vc, v = .slice av q vc := by
    rcases hr.2 with ⟨rfl, h0⟩ | ⟨g', cap', cur, rfl, _⟩
    · exact ⟨none, 0, by rw [h0]⟩
    · exact ⟨_, _, rfl⟩
  have HR1 : Hid (RefAt w1 bs bc g cap N s) := h.below B1
  have K1 : Keep (fun i => i = bs ∨ i = bc ∨ i = g) w w1 := Keep.below _ B1
  have Hq : Hid (l.length = q) := hq
  have q8 : q ≤ 8 := by omega
  have key : ∀ i, i < q → ∃ g', av = some ⟨g', 0, none⟩ ∧ w1.cell? ⟨g', i, none⟩ = some (.int .i64 (l.getD i 0)) := by
    intro i hi
    obtain ⟨g', cap', e⟩ := row_slice hr (by omega)
    cases e
    exact ⟨g', rfl, irow_cell hr i (by omega)⟩
  have Key : Hid (∀ i, i < q → ∃ g', av = some ⟨g', 0, none⟩ ∧ w1.cell? ⟨g', i, none⟩ = some (.int .i64 (l.getD i 0))) := key
  have HRow : Hid (w1.ownsRow w.heap.size 3 1 (.slice av q vc) q (ivals l)) := hr
  have f0 : 0 ≤ l.getD 0 0 ∧ l.getD 0 0 ≤ 9999 := hsm 0
  have f1 : 0 ≤ l.getD 1 0 ∧ l.getD 1 0 ≤ 9999 := hsm 1
  clear key hr hsm hq hd8 h8 B1 h ok
  go_upto_if 31 with fail
  go_cut [8] (fun a wc => a = .int .i64 (l.getD 0 0) ∧ wc = w1)
  case first =>
    by_cases h1 : 0 < q
    · obtain ⟨g', rfl, c0⟩ := Key.out 0 h1
      have h1' : (0 : Int) < q := by omega
      go_wp2_with fail
      go_meet
      case rel => exact ⟨rfl, rfl⟩
    · have h1' : (q : Int) ≤ 0 := by omega
      have e0 : l.getD 0 0 = 0 := by
        rw [List.getD_eq_getElem?_getD, List.getElem?_eq_none (by have := Hq.out; omega)]; rfl
      have E0 : Hid (l.getD 0 0 = 0) := e0
      clear e0
      go_wp2_with fail
      go_meet
      case rel => exact ⟨by rw [E0.out], rfl⟩
  case rest =>
    obtain ⟨rfl, hwc⟩ := hcut
    replace hwc := hwc.symm
    subst hwc
    go_upto_if 37 with fail
    go_cut [9] (fun a wc => a = .int .i64 (l.getD 1 0) ∧ wc = w1)
    case first =>
      by_cases h1 : 1 < q
      · obtain ⟨g', rfl, c0⟩ := Key.out 1 h1
        have h1' : (1 : Int) < q := by omega
        go_wp2_with fail
        go_meet
        case rel => exact ⟨rfl, rfl⟩
      · have h1' : (q : Int) ≤ 1 := by omega
        have e0 : l.getD 1 0 = 0 := by
          rw [List.getD_eq_getElem?_getD, List.getElem?_eq_none (by have := Hq.out; omega)]; rfl
        have E0 : Hid (l.getD 1 0 = 0) := e0
        clear e0
        go_wp2_with fail
        go_meet
        case rel => exact ⟨by rw [E0.out], rfl⟩
    case rest =>
      obtain ⟨rfl, hwc⟩ := hcut
      replace hwc := hwc.symm
      subst hwc
      generalize hfe : l.getD 0 0 = first at *
      have Hfe : Hid (l.getD 0 0 = first) := hfe
      generalize hse : l.getD 1 0 = second at *
      have Hse : Hid (l.getD 1 0 = second) := hse
      clear hfe hse
      obtain ⟨f00, f01⟩ := f0
      obtain ⟨f10, f11⟩ := f1
      go_upto_if 43 with fail
      go_cut [10] (fun a wc => a = .int .i64 (one1 first) ∧ wc = w1)
      case first =>
        by_cases h1 : first = 0
        · subst h1
          go_wp2_with fail
          go_meet
          case rel => exact ⟨rfl, rfl⟩
        · have h1' : (first == 0) = false := by simpa using h1
          have E1 : Hid (one1 first = first) := by show one1 first = first; unfold one1; exact if_neg h1
          clear h1
          go_wp2_with fail
          go_meet
          case rel => exact ⟨by rw [E1.out], rfl⟩
      case rest =>
        obtain ⟨rfl, hwc⟩ := hcut
        replace hwc := hwc.symm
        subst hwc
        have n0 : 1 ≤ one1 first := by unfold one1; split <;> omega
        have n1 : one1 first ≤ 9999 := by unfold one1; split <;> omega
        generalize hne : one1 first = n at *
        have Hne : Hid (one1 first = n) := hne
        clear hne
        have f3 := HR1.out.f3
        have f4 := HR1.out.f4
        go_wp2_with fail
        go_at_call 75
        refine (refBack bs bc g cap N s _ HR1.out).mono ?_
        rintro e w2 ⟨rfl, hb2⟩
        have HR2 : Hid (RefAt w2 bs bc g cap N s) := HR1.out.below hb2
        have K2 : Keep (fun i => i = bs ∨ i = bc ∨ i = g) w w2 := K1.thenBelow hb2
        clear hb2 HR1 K1
        have x0 := Hok.out.x0
        have x1 := Hok.out.x1
        have y0 := Hok.out.y0
        have y1 := Hok.out.y1
        have w40 := Hok.out.w2
        have h20 := Hok.out.h2
        go_wp2_with fail
        have R3 := HR2.out.below ((Below.refl _ _).alloc (Nat.le_refl _) (.cells #[.int .i64 (backR s).f, .int .i64 (backR s).b, .bool (backR s).bo, .bool (backR s).un, .bool (backR s).re] 44))
        have K3 := K2.alloc (.cells #[.int .i64 (backR s).f, .int .i64 (backR s).b, .bool (backR s).bo, .bool (backR s).un, .bool (backR s).re] 44)
        go_at_call 35
        refine (refGoes bs bc g cap N s s.x (s.y + n) _ R3).mono ?_
        rintro e w5 ⟨rfl, R5, K5⟩
        have K6 : Keep (fun i => i = bs ∨ i = bc ∨ i = g) w w5 := K3.trans K5 (fun i _ hi => .inl hi)
        have R9 : RefAt w5 bs bc g cap N (doneR s l 66) := by rw [HD.out]; exact R5
        clear R3 K3 K5 R5 K2 HR2
        go_wp2_with fail
        go_end0
        exact rpost R9 K6 (.inl rfl)
set_option maxRecDepth 100000 in
set_option maxHeartbeats 4000000 in
theorem seqC (bs bc g cap N : Nat) (s : Rs) (b : ByteArray) (l : List Int) (w : World) (h : RefAt w bs bc g cap N s) (ok : s.Ok) (hb : b.size ≤ 100000000000) (hl : nums b = some l) (h8 : l.length ≤ 8) :
    Calls Tryd.prog 58 #[.pointer (some ⟨bs, 0, none⟩), .string b, .int .u8 67] w (RPost bs bc g w (doneR s l 67) (.tuple #[])) := by
  have Hl : Hid (nums b = some l) := hl
  have HD : Hid (doneR s l 67 = goesR s (s.x + one1 (l.getD 0 0)) s.y) := by
    show doneR s l 67 = goesR s (s.x + one1 (l.getD 0 0)) s.y
    simp [doneR]
  have Hok : Hid s.Ok := ok
  clear hl
  go_enter Tryd.func58, Tryd.ntmps58
  go_wp2_with fail
  go_at_call 74
  refine (refNumbers b _ hb).mono ?_
  rintro e w1 ⟨B1, hN⟩
  rw [Hl.out] at hN
  obtain ⟨v, rfl, hr, hsm⟩ := hN
  obtain ⟨q, hq⟩ : ∃ q, l.length = q := ⟨_, rfl⟩
  have hd8 : decide (l.length ≤ 8) = true := by simpa using h8
  rw [hd8]
  rw [hq] at hr
  obtain ⟨av, vc, rfl⟩ : ∃ av vc, v = .slice av q vc := by
    rcases hr.2 with ⟨rfl, h0⟩ | ⟨g', cap', cur, rfl, _⟩
    · exact ⟨none, 0, by rw [h0]⟩
    · exact ⟨_, _, rfl⟩
  have HR1 : Hid (RefAt w1 bs bc g cap N s) := h.below B1
  have K1 : Keep (fun i => i = bs ∨ i = bc ∨ i = g) w w1 := Keep.below _ B1
  have Hq : Hid (l.length = q) := hq
  have q8 : q ≤ 8 := by omega
  have key : ∀ i, i < q → ∃ g', av = some ⟨g', 0, none⟩ ∧ w1.cell? ⟨g', i, none⟩ = some (.int .i64 (l.getD i 0)) := by
    intro i hi
    obtain ⟨g', cap', e⟩ := row_slice hr (by omega)
    cases e
    exact ⟨g', rfl, irow_cell hr i (by omega)⟩
  have Key : Hid (∀ i, i < q → ∃ g', av = some ⟨g', 0, none⟩ ∧ w1.cell? ⟨g', i, none⟩ = some (.int .i64 (l.getD i 0))) := key
  have HRow : Hid (w1.ownsRow w.heap.size 3 1 (.slice av q vc) q (ivals l)) := hr
  have f0 : 0 ≤ l.getD 0 0 ∧ l.getD 0 0 ≤ 9999 := hsm 0
  have f1 : 0 ≤ l.getD 1 0 ∧ l.getD 1 0 ≤ 9999 := hsm 1
  clear key hr hsm hq hd8 h8 B1 h ok
  go_upto_if 31 with fail
  go_cut [8] (fun a wc => a = .int .i64 (l.getD 0 0) ∧ wc = w1)
  case first =>
    by_cases h1 : 0 < q
    · obtain ⟨g', rfl, c0⟩ := Key.out 0 h1
      have h1' : (0 : Int) < q := by omega
      go_wp2_with fail
      go_meet
      case rel => exact ⟨rfl, rfl⟩
    · have h1' : (q : Int) ≤ 0 := by omega
      have e0 : l.getD 0 0 = 0 := by
        rw [List.getD_eq_getElem?_getD, List.getElem?_eq_none (by have := Hq.out; omega)]; rfl
      have E0 : Hid (l.getD 0 0 = 0) := e0
      clear e0
      go_wp2_with fail
      go_meet
      case rel => exact ⟨by rw [E0.out], rfl⟩
  case rest =>
    obtain ⟨rfl, hwc⟩ := hcut
    replace hwc := hwc.symm
    subst hwc
    go_upto_if 37 with fail
    go_cut [9] (fun a wc => a = .int .i64 (l.getD 1 0) ∧ wc = w1)
    case first =>
      by_cases h1 : 1 < q
      · obtain ⟨g', rfl, c0⟩ := Key.out 1 h1
        have h1' : (1 : Int) < q := by omega
        go_wp2_with fail
        go_meet
        case rel => exact ⟨rfl, rfl⟩
      · have h1' : (q : Int) ≤ 1 := by omega
        have e0 : l.getD 1 0 = 0 := by
          rw [List.getD_eq_getElem?_getD, List.getElem?_eq_none (by have := Hq.out; omega)]; rfl
        have E0 : Hid (l.getD 1 0 = 0) := e0
        clear e0
        go_wp2_with fail
        go_meet
        case rel => exact ⟨by rw [E0.out], rfl⟩
    case rest =>
      obtain ⟨rfl, hwc⟩ := hcut
      replace hwc := hwc.symm
      subst hwc
      generalize hfe : l.getD 0 0 = first at *
      have Hfe : Hid (l.getD 0 0 = first) := hfe
      generalize hse : l.getD 1 0 = second at *
      have Hse : Hid (l.getD 1 0 = second) := hse
      clear hfe hse
      obtain ⟨f00, f01⟩ := f0
      obtain ⟨f10, f11⟩ := f1
      go_upto_if 43 with fail
      go_cut [10] (fun a wc => a = .int .i64 (one1 first) ∧ wc = w1)
      case first =>
        by_cases h1 : first = 0
        · subst h1
          go_wp2_with fail
          go_meet
          case rel => exact ⟨rfl, rfl⟩
        · have h1' : (first == 0) = false := by simpa using h1
          have E1 : Hid (one1 first = first) := by show one1 first = first; unfold one1; exact if_neg h1
          clear h1
          go_wp2_with fail
          go_meet
          case rel => exact ⟨by rw [E1.out], rfl⟩
      case rest =>
        obtain ⟨rfl, hwc⟩ := hcut
        replace hwc := hwc.symm
        subst hwc
        have n0 : 1 ≤ one1 first := by unfold one1; split <;> omega
        have n1 : one1 first ≤ 9999 := by unfold one1; split <;> omega
        generalize hne : one1 first = n at *
        have Hne : Hid (one1 first = n) := hne
        clear hne
        have f3 := HR1.out.f3
        have f4 := HR1.out.f4
        go_wp2_with fail
        go_at_call 75
        refine (refBack bs bc g cap N s _ HR1.out).mono ?_
        rintro e w2 ⟨rfl, hb2⟩
        have HR2 : Hid (RefAt w2 bs bc g cap N s) := HR1.out.below hb2
        have K2 : Keep (fun i => i = bs ∨ i = bc ∨ i = g) w w2 := K1.thenBelow hb2
        clear hb2 HR1 K1
        have x0 := Hok.out.x0
        have x1 := Hok.out.x1
        have y0 := Hok.out.y0
        have y1 := Hok.out.y1
        have w40 := Hok.out.w2
        have h20 := Hok.out.h2
        go_wp2_with fail
        have R3 := HR2.out.below ((Below.refl _ _).alloc (Nat.le_refl _) (.cells #[.int .i64 (backR s).f, .int .i64 (backR s).b, .bool (backR s).bo, .bool (backR s).un, .bool (backR s).re] 44))
        have K3 := K2.alloc (.cells #[.int .i64 (backR s).f, .int .i64 (backR s).b, .bool (backR s).bo, .bool (backR s).un, .bool (backR s).re] 44)
        go_at_call 35
        refine (refGoes bs bc g cap N s (s.x + n) s.y _ R3).mono ?_
        rintro e w5 ⟨rfl, R5, K5⟩
        have K6 : Keep (fun i => i = bs ∨ i = bc ∨ i = g) w w5 := K3.trans K5 (fun i _ hi => .inl hi)
        have R9 : RefAt w5 bs bc g cap N (doneR s l 67) := by rw [HD.out]; exact R5
        clear R3 K3 K5 R5 K2 HR2
        go_wp2_with fail
        go_end0
        exact rpost R9 K6 (.inl rfl)
end Go.Proofs.YtjlfibhbfdckpaaDoor
