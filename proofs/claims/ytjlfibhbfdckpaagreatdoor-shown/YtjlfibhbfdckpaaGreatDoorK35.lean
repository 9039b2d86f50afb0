/- Texts of the proof, one behind the other: FxD, FlA, FlB, FlC, FxG. -/
import Derived.Test.YtjlfibhbfdckpaaGreatDoorK08
import Derived.Test.YtjlfibhbfdckpaaGreatDoorK18
import Derived.Test.YtjlfibhbfdckpaaGreatDoorK32
import Derived.Test.YtjlfibhbfdckpaaGreatDoorK33
import Derived.Test.YtjlfibhbfdckpaaGreatDoorK34
import Derived.Shelf.SlicesE.Clone
import Derived.Deep.RegionWith
import Derived.Deep.WholeRow
/- Flush: mend. -/
namespace Go.Proofs.YtjlfibhbfdckpaaGreatDoor
open Go.RowKit
attribute [local go_sem ↓] Go.wp_at_zero Go.wp_at_succ
set_option maxHeartbeats 4000000 in
set_option maxRecDepth 100000 in
theorem qMend (m0 n1 bp po pc : Nat) (lb lc : Nat → Nat) (H : Nat) (P : Nat → Nat → Cel) (bs bg g N : Nat) (s : Rs) (l : List UInt8) (x y : Nat) (w : World) (h : PaM w m0 n1 bp po pc lb lc H P bs bg g N s l) (fl : s.Fl) (hP : PicOk s.W s.H P) (hx : x < s.W) (hy : y < s.H) (hb : ∀ a b, a < s.W → b < s.H → b * s.W + a < y * s.W + x → s.G a b = P a b) (hd : s.G x y ≠ P x y) (hlen : l.length ≤ 900000) :
    Calls Tryz.prog 178 #[.pointer (some ⟨bp, 0, none⟩), .int .i64 x, .int .i64 y] w fun e w' => e = .returned (.tuple #[]) ∧ PaM w' m0 n1 bp po pc lb lc H P bs bg g N (feedR s (mendL s P x y)) (l ++ mendL s P x y) ∧ Below m0 w w' := by
  have hms := mend_step fl hP.wf hP.pen hx hy hb hd
  have mW := hms.2.1
  have mH := hms.2.2.1
  have ml := hms.2.2.2.2.2
  clear hms
  have hn := hP.pen x y hx hy
  obtain ⟨t, pt, tie⟩ := h.ex
  have hyH : y < H := by rw [pt.hs]; exact hy
  have c0 := pt.c0
  have r0 := pt.pic.row y hyH
  obtain ⟨a0, a1, a2, a3, a4, a5, a6⟩ := pt.pic.cel y x hyH hx
  have hy' : (y : Int) < (H : Int) := by omega
  have hx' : (x : Int) < (s.W : Int) := by omega
  have HH : Hid (PaM w m0 n1 bp po pc lb lc H P bs bg g N s l) := h
  have HP : Hid (PtM w bp po pc lb lc H P bs bg g N s t) := pt
  have Hm : Hid (m0 ≤ w.heap.size) := by
    have := h.bd.le; have := h.bd.lt; have := h.p0
    show _ ≤ _
    omega
  have Hxy : Hid (x < s.W ∧ y < s.H) := ⟨hx, hy⟩
  have Hfl : Hid (s.Fl ∧ (P x y).n.Ok ∧ l.length ≤ 900000 ∧ (mendL s P x y).length ≤ 33 ∧ (feedR s (mendL s P x y)).W = s.W ∧ (feedR s (mendL s P x y)).H = s.H) := ⟨fl, hn, hlen, ml, mW, mH⟩
  obtain ⟨md, hmd⟩ : ∃ md, mendL s P x y = md := ⟨_, rfl⟩
  have Hmd : Hid (mendL s P x y = md) := hmd
  rw [hmd] at Hfl ⊢
  have hns : bp ≠ bs ∧ bp ≠ bg ∧ bp ≠ g ∧ bp < n1 ∧ bs < n1 ∧ bg < n1 ∧ g < n1 ∧ n1 ≤ w.heap.size := ⟨Ne.symm h.s0.2.2, Ne.symm h.g0.2.2, Ne.symm h.c0.2.2, h.bd.lt, h.s0.2.1, h.g0.2.1, h.c0.2.1, h.bd.le⟩
  have Hns : Hid (bp ≠ bs ∧ bp ≠ bg ∧ bp ≠ g ∧ bp < n1 ∧ bs < n1 ∧ bg < n1 ∧ g < n1 ∧ n1 ≤ w.heap.size) := hns
  clear h pt tie hP hb hd hlen ml mW mH hn fl hyH hx hy hmd hns
  go_enter Tryz.func178, Tryz.ntmps178
  go_upto_region 1 with fail
  have hA : ∃ wA M, w.alloc (.cells #[.int .i32 (P x y).r, .int .i64 (P x y).p, .int .i64 (P x y).n.f, .int .i64 (P x y).n.b, .bool (P x y).n.bo, .bool (P x y).n.un, .bool (P x y).n.re] 38) = wA ∧ w.heap.size = M ∧ Below w.heap.size w wA ∧ wA.heap[M]? = some (.cells #[.int .i32 (P x y).r, .int .i64 (P x y).p, .int .i64 (P x y).n.f, .int .i64 (P x y).n.b, .bool (P x y).n.bo, .bool (P x y).n.un, .bool (P x y).n.re] 38) ∧ wA.heap.size = M + 1 := ⟨_, _, rfl, rfl, (Below.refl _ _).alloc (Nat.le_refl _) _, heap_new _ _, by simp⟩
  obtain ⟨wA, M, hwA, hM, belA, bA, zA⟩ := hA
  rw [hwA]
  try rw [hM]
  have HA : Hid (Below w.heap.size w wA ∧ wA.heap[M]? = some (.cells #[.int .i32 (P x y).r, .int .i64 (P x y).p, .int .i64 (P x y).n.f, .int .i64 (P x y).n.b, .bool (P x y).n.bo, .bool (P x y).n.un, .bool (P x y).n.re] 38)) := ⟨belA, bA⟩
  have HM : Hid (w.heap.size = M) := hM
  have HnM : Hid (¬ (M = bp ∨ M = bs ∨ M = bg ∨ M = g)) := by
    obtain ⟨_, _, _, q4, q5, q6, q7, q8⟩ := Hns.out
    show ¬ _
    omega
  clear hwA belA bA a0 a1 a2 a3 a4 a5 a6 c0 r0 hM
  go_wp2_with fail
  go_at_call 202
  refine (qErasure bp po pc lb lc H P bs bg g N s t x y wA (HP.out.below HA.out.1) Hfl.out.1.ok Hxy.out.1 Hxy.out.2).mono ?_
  rintro e w1 ⟨rfl, hb1⟩
  have z1 : M < w1.heap.size := by have := hb1.size; omega
  have H1 : Hid (Below w.heap.size w w1 ∧ w1.heap[M]? = some (.cells #[.int .i32 (P x y).r, .int .i64 (P x y).p, .int .i64 (P x y).n.f, .int .i64 (P x y).n.b, .bool (P x y).n.bo, .bool (P x y).n.un, .bool (P x y).n.re] 38) ∧ PtM w1 bp po pc lb lc H P bs bg g N s t ∧ PaM w1 m0 n1 bp po pc lb lc H P bs bg g N s l) := by
    have b := HA.out.1.trans (hb1.mono HA.out.1.size)
    exact ⟨b, (hb1.block M (by omega)).trans HA.out.2, HP.out.below b, HH.out.below b⟩
  clear hb1 HA zA
  have c1 := H1.out.2.2.1.c1
  have zb := World.block_lt_of_cell? _ _ c1
  have p0 : w1.cell? ⟨M, 0, none⟩ = some (.int .i32 (P x y).r) := cell_of_block H1.out.2.1 0
  have p2 : w1.cell? ⟨M, 2, none⟩ = some (.int .i64 (P x y).n.f) := cell_of_block H1.out.2.1 2
  have p3 : w1.cell? ⟨M, 3, none⟩ = some (.int .i64 (P x y).n.b) := cell_of_block H1.out.2.1 3
  have p4 : w1.cell? ⟨M, 4, none⟩ = some (.bool (P x y).n.bo) := cell_of_block H1.out.2.1 4
  have p5 : w1.cell? ⟨M, 5, none⟩ = some (.bool (P x y).n.un) := cell_of_block H1.out.2.1 5
  have p6 : w1.cell? ⟨M, 6, none⟩ = some (.bool (P x y).n.re) := cell_of_block H1.out.2.1 6
  by_cases he : erasureL s P x y = []
  · rw [he]
    obtain ⟨rl, hrl⟩ : ∃ rl, routeL s ⟨x, y, (P x y).n, true⟩ = rl := ⟨_, rfl⟩
    obtain ⟨el, hel⟩ : ∃ el, encL (P x y).r = el := ⟨_, rfl⟩
    have Hdef : Hid (md = rl ++ el) := by
      show _ = _
      rw [← Hmd.out, ← hrl, ← hel]
      unfold mendL
      rw [if_pos he]
    have Hrl : Hid (routeL s ⟨x, y, (P x y).n, true⟩ = rl) := hrl
    have Hel : Hid (encL (P x y).r = el) := hel
    have HG : Hid (Gl.In ⟨x, y, (P x y).n, true⟩ s) := ⟨by show (0 : Int) ≤ x; omega, by show (x : Int) < s.W; have := Hxy.out.1; omega, by show (0 : Int) ≤ y; omega, by show (y : Int) < s.H; have := Hxy.out.2; omega, Hfl.out.2.1⟩
    have HW : Hid ((feedR s rl).W = s.W ∧ (feedR s rl).H = s.H ∧ l.length + rl.length ≤ 1000000) := by
      obtain ⟨p, e1, _, _, hl⟩ := route_leads Hfl.out.1 HG.out
      rw [Hrl.out] at e1 hl
      have := Hfl.out.2.2.1
      rw [e1]
      exact ⟨rfl, rfl, by omega⟩
    clear he hrl hel
    go_wp2_with fail
    go_region_held3 (fun w' => w'.cell? ⟨bp, 1, none⟩ = some (.pointer (some ⟨bs, 0, none⟩)) ∧ w'.cell? ⟨M, 2, none⟩ = some (.int .i64 (P x y).n.f) ∧ w'.cell? ⟨M, 3, none⟩ = some (.int .i64 (P x y).n.b) ∧ w'.cell? ⟨M, 4, none⟩ = some (.bool (P x y).n.bo) ∧ w'.cell? ⟨M, 5, none⟩ = some (.bool (P x y).n.un) ∧ w'.cell? ⟨M, 6, none⟩ = some (.bool (P x y).n.re)) (simp [*]) (first | (go_at_call 203; refine (qRoute bs bg g N s t ⟨x, y, (P x y).n, true⟩ _ (H1.out.2.2.1.scr.below (by first | exact Below.refl _ _ | exact (Below.refl _ _).drew)) Hfl.out.1 HG.out).mono ?_; rintro e w7 ⟨rfl, hb7⟩; rw [Hrl.out]; have hb8 := below_drew' hb7; have e4 := hb8.cells (b := bp) zb; have e5 := hb8.cells (b := M) z1; have HB8 : Hid (Below w1.heap.size w1 w7) := hb8; clear hb7 hb8) | (go_at_call 198; refine (qTell m0 n1 bp po pc lb lc H P bs bg g N s l rl _ (H1.out.2.2.2.below (by first | exact HB8.out | exact HB8.out.drew)) Hfl.out.1.ok HW.out.2.2 HW.out.1 HW.out.2.1).mono ?_; rintro e w9 ⟨rfl, P9, hb9, A9⟩; have bM9 : w9.heap[M]? = some (.cells #[.int .i32 (P x y).r, .int .i64 (P x y).p, .int .i64 (P x y).n.f, .int .i64 (P x y).n.b, .bool (P x y).n.bo, .bool (P x y).n.un, .bool (P x y).n.re] 38) := by { have b7 := (HB8.out.block M z1).trans H1.out.2.1; exact (A9 M _ _ _ b7 (by decide) HnM.out).trans b7 }; have c9 : w9.cell? ⟨bp, 1, none⟩ = some (.pointer (some ⟨bs, 0, none⟩)) := by { obtain ⟨t9, pt9, _⟩ := P9.ex; exact pt9.c1 }; have m2 : w9.cell? ⟨M, 2, none⟩ = some (.int .i64 (P x y).n.f) := cell_of_block bM9 2; have m3 : w9.cell? ⟨M, 3, none⟩ = some (.int .i64 (P x y).n.b) := cell_of_block bM9 3; have m4 : w9.cell? ⟨M, 4, none⟩ = some (.bool (P x y).n.bo) := cell_of_block bM9 4; have m5 : w9.cell? ⟨M, 5, none⟩ = some (.bool (P x y).n.un) := cell_of_block bM9 5; have m6 : w9.cell? ⟨M, 6, none⟩ = some (.bool (P x y).n.re) := cell_of_block bM9 6; have m0' : w9.cell? ⟨M, 0, none⟩ = some (.int .i32 (P x y).r) := cell_of_block bM9 0; have H9 : Hid (PaM w9 m0 n1 bp po pc lb lc H P bs bg g N (feedR s rl) (l ++ rl) ∧ Below m0 w w9) := ⟨P9, ((H1.out.1.trans (HB8.out.mono H1.out.1.size)).mono Hm.out).trans hb9⟩; clear P9 hb9 A9 bM9))
    all_goals
      clear p0 p2 p3 p4 p5 p6 c1 m2 m3 m4 m5 m6 c9
      go_wp2_with fail
      have hE : Value.string (Utf8.encode (P x y).r) = bstr el := by rw [← Hel.out]; simp [encL]
      rw [hE]
      go_at_call 198
      refine (qTell m0 n1 bp po pc lb lc H P bs bg g N (feedR s rl) (l ++ rl) el w9 H9.out.1 (feedOk rl Hfl.out.1.ok) (by have h1 := Hfl.out.2.2.1; have h2 := Hfl.out.2.2.2.1; rw [Hdef.out, List.length_append] at h2; rw [List.length_append]; omega) (by rw [← feed_app, ← Hdef.out, Hfl.out.2.2.2.2.1, HW.out.1]) (by rw [← feed_app, ← Hdef.out, Hfl.out.2.2.2.2.2, HW.out.2.1])).mono ?_
      rintro e wZ ⟨rfl, PZ, hbZ, _⟩
      rw [← feed_app, List.append_assoc, ← Hdef.out] at PZ
      have HZ : Hid (PaM wZ m0 n1 bp po pc lb lc H P bs bg g N (feedR s md) (l ++ md) ∧ Below m0 w wZ) := ⟨PZ, H9.out.2.trans hbZ⟩
      clear PZ hbZ
      go_wp2_with fail
      go_end0
      exact ⟨rfl, HZ.out⟩
  · obtain ⟨el, hel⟩ : ∃ el, erasureL s P x y = el := ⟨_, rfl⟩
    obtain ⟨er, her⟩ : ∃ er, eraserP s (P x y).n.b = er := ⟨_, rfl⟩
    obtain ⟨rl, hrl⟩ : ∃ rl, routeL s ⟨x, y, er, false⟩ = rl := ⟨_, rfl⟩
    have Hdef : Hid (md = rl ++ el) := by
      show _ = _
      rw [← Hmd.out, ← hrl, ← her, ← hel]
      unfold mendL
      rw [if_neg he]
    have Hrl : Hid (routeL s ⟨x, y, er, false⟩ = rl) := hrl
    have Her : Hid (eraserP s (P x y).n.b = er) := her
    have HG : Hid (Gl.In ⟨x, y, er, false⟩ s) := ⟨by show (0 : Int) ≤ x; omega, by show (x : Int) < s.W; have := Hxy.out.1; omega, by show (0 : Int) ≤ y; omega, by show (y : Int) < s.H; have := Hxy.out.2; omega, by rw [← Her.out]; exact ⟨Hfl.out.1.pen.1, Hfl.out.1.pen.2.1, Hfl.out.2.1.2.2.1, Hfl.out.2.1.2.2.2⟩⟩
    have HW : Hid ((feedR s rl).W = s.W ∧ (feedR s rl).H = s.H ∧ l.length + rl.length ≤ 1000000) := by
      obtain ⟨p, e1, _, _, hl⟩ := route_leads Hfl.out.1 HG.out
      rw [Hrl.out] at e1 hl
      have := Hfl.out.2.2.1
      rw [e1]
      exact ⟨rfl, rfl, by omega⟩
    rw [hel] at he ⊢
    have hne : el.isEmpty = false := by simpa using he
    clear he hrl hel her
    go_wp2_with fail
    go_region_held3 (fun w' => w'.cell? ⟨bp, 1, none⟩ = some (.pointer (some ⟨bs, 0, none⟩)) ∧ w'.cell? ⟨M, 3, none⟩ = some (.int .i64 (P x y).n.b)) (simp [*]) (first | (go_at_call 200; refine (qEraser bp po pc lb lc H P bs bg g N s t (P x y).n.b _ (H1.out.2.2.1.below (by first | exact Below.refl _ _ | exact (Below.refl _ _).drew))).mono ?_; rintro e w6 ⟨rfl, hb6⟩; rw [Her.out]; have hb8 := below_drew' hb6; have e6 := hb8.cells (b := bp) zb; have e7 := hb8.cells (b := M) z1; have HB6 : Hid (Below w1.heap.size w1 w6) := hb8; have z6 : bp < w6.heap.size ∧ M < w6.heap.size := by { have := hb8.size; omega }; clear hb6 hb8) | (go_at_call 203; refine (qRoute bs bg g N s t ⟨x, y, er, false⟩ _ (H1.out.2.2.1.scr.below (by first | exact HB6.out | exact HB6.out.drew)) Hfl.out.1 HG.out).mono ?_; rintro e w7 ⟨rfl, hb7⟩; rw [Hrl.out]; have e4 := hb7.cells (b := bp) z6.1; have e5 := hb7.cells (b := M) z6.2; have HB8 : Hid (Below w1.heap.size w1 w7) := HB6.out.trans (hb7.mono HB6.out.size); clear hb7) | (go_at_call 198; refine (qTell m0 n1 bp po pc lb lc H P bs bg g N s l rl _ (H1.out.2.2.2.below (by first | exact HB8.out | exact HB8.out.drew)) Hfl.out.1.ok HW.out.2.2 HW.out.1 HW.out.2.1).mono ?_; rintro e w9 ⟨rfl, P9, hb9, A9⟩; have bM9 : w9.heap[M]? = some (.cells #[.int .i32 (P x y).r, .int .i64 (P x y).p, .int .i64 (P x y).n.f, .int .i64 (P x y).n.b, .bool (P x y).n.bo, .bool (P x y).n.un, .bool (P x y).n.re] 38) := by { have b7 := (HB8.out.block M z1).trans H1.out.2.1; exact (A9 M _ _ _ b7 (by decide) HnM.out).trans b7 }; have c9 : w9.cell? ⟨bp, 1, none⟩ = some (.pointer (some ⟨bs, 0, none⟩)) := by { obtain ⟨t9, pt9, _⟩ := P9.ex; exact pt9.c1 }; have m3 : w9.cell? ⟨M, 3, none⟩ = some (.int .i64 (P x y).n.b) := cell_of_block bM9 3; have H9 : Hid (PaM w9 m0 n1 bp po pc lb lc H P bs bg g N (feedR s rl) (l ++ rl) ∧ Below m0 w w9) := ⟨P9, ((H1.out.1.trans (HB8.out.mono H1.out.1.size)).mono Hm.out).trans hb9⟩; clear P9 hb9 A9 bM9))
    all_goals
      clear p0 p2 p3 p4 p5 p6 c1 m3 c9 hne
      go_wp2_with fail
      go_at_call 198
      refine (qTell m0 n1 bp po pc lb lc H P bs bg g N (feedR s rl) (l ++ rl) el w9 H9.out.1 (feedOk rl Hfl.out.1.ok) (by have h1 := Hfl.out.2.2.1; have h2 := Hfl.out.2.2.2.1; rw [Hdef.out, List.length_append] at h2; rw [List.length_append]; omega) (by rw [← feed_app, ← Hdef.out, Hfl.out.2.2.2.2.1, HW.out.1]) (by rw [← feed_app, ← Hdef.out, Hfl.out.2.2.2.2.2, HW.out.2.1])).mono ?_
      rintro e wZ ⟨rfl, PZ, hbZ, _⟩
      rw [← feed_app, List.append_assoc, ← Hdef.out] at PZ
      have HZ : Hid (PaM wZ m0 n1 bp po pc lb lc H P bs bg g N (feedR s md) (l ++ md) ∧ Below m0 w wZ) := ⟨PZ, H9.out.2.trans hbZ⟩
      clear PZ hbZ
      go_wp2_with fail
      (try simp only [Exit.inBlock, Exit.then])
      exact bodyPost_ret (v := .tuple #[]) (results_none rfl _ _ _) rfl ⟨rfl, HZ.out⟩
end Go.Proofs.YtjlfibhbfdckpaaGreatDoor

/- Flush: Clone of a grid. -/
namespace Go.Proofs.YtjlfibhbfdckpaaGreatDoor
open Go.RowKit Go.Shelf
attribute [local go_sem ↓] Go.wp_at_zero Go.wp_at_succ
def clRen : Go.Shelf.Ren := ⟨fun | 41 => 214 | n => n, fun | 22 => 120 | 23 => 38 | 4 => 4 | n => n, fun | n => n⟩
theorem clLay : Go.Proofs.SlLaysE0.n41 Tryz.prog clRen := {
  mixed := by kernel_rfl
  f41 := ⟨Tryz.f214.name, by decide, Tryz.func214.trans (congrArg some (by kernel_rfl))⟩
  t4 := Tryz.underlying4
  a4 := Tryz.isAgg4
  z4 := Tryz.sizeOf4
  v4 := Tryz.zeroValue4
  t22 := Tryz.underlying120
  a22 := Tryz.isAgg120
  z22 := Tryz.sizeOf120
  v22 := Tryz.zeroValue120 }
theorem clone_cells (g n cap : Nat) (M : Nat → Cel) (w : World) (h : Flat w g n M) (hn : n ≤ 800) (h1 : 1 ≤ n) :
    Calls Tryz.prog 214 #[.slice (some ⟨g, 0, none⟩) n cap] w fun e w' => ∃ g' cap', e = .returned (.slice (some ⟨g', 0, none⟩) n cap') ∧ n ≤ cap' ∧ w.heap.size ≤ g' ∧ Flat w' g' n M ∧ Below w.heap.size w w' := by
  obtain ⟨i0, i1, i2, i3, i4⟩ := info_cell
  have hfl : (flat (rowOf M 0 n)).length = n * 7 := by rw [flat_length, rowOf_length]
  refine (Go.Proofs.AnyE.slices_Clone clLay i0 _ 7 40 i1 i2 i3 i4 rfl (by decide) Tryz.sizeOf38 g 0 n cap (flat (rowOf M 0 n)) w hfl (by unfold maxLen; omega) (by omega) ?_ ?_).mono ?_
  · intro j u hj
    obtain ⟨c, hc, hv⟩ := flat_get _ _ _ hj
    have hlt : j / 7 < n := by have := (List.getElem?_eq_some_iff.1 hc).1; rw [rowOf_length] at this; exact this
    rw [rowOf_at _ _ _ _ hlt] at hc
    obtain rfl : M (0 + j / 7) = c := by simpa using hc
    rw [Nat.zero_add] at hv
    obtain ⟨a0, a1, a2, a3, a4, a5, a6⟩ := h.cel (j / 7) hlt
    have hj7 : j = j / 7 * 7 + j % 7 := by omega
    rw [Nat.zero_add, hj7]
    have hm : j % 7 < 7 := Nat.mod_lt _ (by omega)
    generalize j % 7 = q at *
    match q, hm with
    | 0, _ => simpa using a0.trans hv
    | 1, _ => simpa using a1.trans hv
    | 2, _ => simpa using a2.trans hv
    | 3, _ => simpa using a3.trans hv
    | 4, _ => simpa using a4.trans hv
    | 5, _ => simpa using a5.trans hv
    | 6, _ => simpa using a6.trans hv
  · intro u hu
    obtain ⟨c, _, hc⟩ := List.mem_flatMap.1 hu
    exact one_vals c u hc
  · rintro e w' ⟨v', rfl, hown, _, hb⟩
    have hown' : w'.ownsRow w.heap.size 38 7 v' n (flat (rowOf M 0 n)) := hown
    obtain ⟨g', cap', rfl⟩ := row_slice hown' h1
    refine ⟨g', cap', rfl, ?_, (row_ge hown').1, ⟨fun i hi => row_cel hown' i (M i) (by rw [rowOf_at _ _ _ _ hi, Nat.zero_add]), row_free hown'⟩, hb⟩
    obtain ⟨_, h | ⟨_, _, _, hv, _, _, hn, _⟩⟩ := hown'
    · simp at h
    · simp at hv; omega
end Go.Proofs.YtjlfibhbfdckpaaGreatDoor

/- Flush: Clone of a grid and of a screen. -/
namespace Go.Proofs.YtjlfibhbfdckpaaGreatDoor
open Go.RowKit
attribute [local go_sem ↓] Go.wp_at_zero Go.wp_at_succ
set_option maxHeartbeats 4000000 in
theorem qGClone (bg g W H N : Nat) (G : Nat → Nat → Cel) (w : World) (h : GrAt w bg g W H N G) :
    Calls Tryz.prog 197 #[.pointer (some ⟨bg, 0, none⟩)] w fun e w' => ∃ bg' g', e = .returned (.pointer (some ⟨bg', 0, none⟩)) ∧ GrAt w' bg' g' W H N G ∧ Below w.heap.size w w' ∧ w.heap.size ≤ bg' ∧ w.heap.size ≤ g' := by
  obtain ⟨cp, hcp, c2⟩ := h.c2
  have c0 := h.c0
  have c1 := h.c1
  have zb := h.lt
  have HH : Hid (GrAt w bg g W H N G) := h
  have Hfin : Hid (∀ (w7 : World) (g' cap' : Nat), N ≤ cap' → w.heap.size ≤ g' → Flat w7 g' N (lin W G) → Below w.heap.size w w7 → GrAt (w7.alloc (.cells #[.int .i64 W, .int .i64 H, .slice (some ⟨g', 0, none⟩) N cap'] 166)) w7.heap.size g' W H N G ∧ Below w.heap.size w (w7.alloc (.cells #[.int .i64 W, .int .i64 H, .slice (some ⟨g', 0, none⟩) N cap'] 166))) := by
    intro w7 g' cap' h1 h2 h3 h4
    have hg' : g' < w7.heap.size := by
      have a1 := h.w1
      have a2 := h.h1
      have : 0 < N := by rw [h.hN]; exact Nat.mul_pos a2 a1
      exact (h3.cel 0 this).lt
    have f2 := h3.same (w' := w7.alloc (.cells #[.int .i64 W, .int .i64 H, .slice (some ⟨g', 0, none⟩) N cap'] 166)) (Below.heap_alloc _ _ _ hg')
    have f3 : Grid (w7.alloc (.cells #[.int .i64 W, .int .i64 H, .slice (some ⟨g', 0, none⟩) N cap'] 166)) g' W H (unlin W (lin W G)) := Flat.grid (by rw [← h.hN]; exact f2)
    refine ⟨GrAt.congr ⟨⟨cap', h1, heap_new _ _⟩, f3, h.hN, by omega, h.w1, h.w2, h.h1, h.h2⟩ ?_, h4.alloc h4.size _⟩
    intro x y hx hy
    exact lin_at G y hx
  clear h
  go_enter Tryz.func197, Tryz.ntmps197
  go_wp2_with fail
  go_region_held3 (fun w' => w'.cell? ⟨bg, 0, none⟩ = some (.int .i64 W) ∧ w'.cell? ⟨bg, 1, none⟩ = some (.int .i64 H) ∧ w'.cell? ⟨bg, 2, none⟩ = some (.slice (some ⟨g, 0, none⟩) N cp)) (simp [*]) (first | (go_at_call 214; refine (clone_cells g N cp (lin W G) _ (HH.out.flat.same (by first | rfl | simp)) HH.out.nle (by have := HH.out.w1; have := HH.out.h1; rw [HH.out.hN]; exact Nat.mul_pos HH.out.h1 HH.out.w1)).mono ?_; rintro e w7 ⟨g', cap', rfl, hcap, hg', hf, hb7⟩; have hb8 := below_drew' hb7; have e4 := hb8.cells (b := bg) zb; have ea : ∀ ob k, (World.alloc w7 ob).cell? ⟨bg, k, none⟩ = w7.cell? ⟨bg, k, none⟩ := fun ob k => cell_same (Below.heap_alloc w7 ob bg (Nat.lt_of_lt_of_le zb hb8.size)) _; have HF : Hid (N ≤ cap' ∧ w.heap.size ≤ g' ∧ Flat w7 g' N (lin W G) ∧ Below w.heap.size w w7) := ⟨hcap, hg', hf, hb8⟩; clear hb7 hb8 hf hg' hcap))
  all_goals
    go_wp2_with fail
    go_ret
    obtain ⟨x1, x2, x3, x4⟩ := HF.out
    obtain ⟨y1, y2⟩ := Hfin.out _ _ _ x1 x2 x3 x4
    exact ⟨_, _, rfl, y1, y2, x4.size, x2⟩
end Go.Proofs.YtjlfibhbfdckpaaGreatDoor

/- Flush: Clone of a screen. -/
namespace Go.Proofs.YtjlfibhbfdckpaaGreatDoor
open Go.RowKit
attribute [local go_sem ↓] Go.wp_at_zero Go.wp_at_succ
theorem scr_size : (Tryz.prog.info? 153).map (·.size) = some 27 := by kernel_rfl
theorem load_arr (w : World) (b : Nat) (c : Array Value) (n : Nat) (T : TypeId) (hb : w.heap[b]? = some (.cells c T)) (hn : c.size = n) : (loadCellsFrom ⟨b, 0, none⟩ 0 n #[]).run Tryz.prog w = .ok c w := by
  subst hn
  have := run_loadCells_list (P := Tryz.prog) w ⟨b, 0, none⟩ c.toList (fun j v hv => by
    have hadd : (⟨b, 0, none⟩ : Addr).add j = ⟨b, j, none⟩ := by unfold Addr.add; split <;> simp_all
    rw [hadd, cell_of_block hb]
    simpa using hv)
  simpa [loadCells] using this
theorem wpList_load_arr {P : Program} (w : World) {ops : Array Oper} {rest : List Oper} {o : Oper} {a : Act} {Q : Exit → Act → World → Prop}
    (hg : o.guard = none) (x : Operand) (t : TypeId) (hop : o.op = Op.load t x) (p v : Value) (hx : a.eval x = p) (hrun : (Instr.loadAt t p).run P w = .ok v w)
    (hK : wpList P ops Q rest (a.put o.dst v) w) : wpList P ops Q (o :: rest) a w := by
  refine wpList_plain hg fun K hK' => ?_
  unfold Oper.wp
  simp [execOp, hop, hx, hrun, Result.andThen]
  exact hK' _ _ hK
theorem wpList_store_arr {P : Program} (w w' : World) {ops : Array Oper} {rest : List Oper} {o : Oper} {a : Act} {Q : Exit → Act → World → Prop}
    (hg : o.guard = none) (x y : Operand) (t : TypeId) (hop : o.op = Op.store t x y) (p v : Value) (hx : a.eval x = p) (hy : a.eval y = v) (hrun : (Instr.storeAt t p v).run P w = .ok () w')
    (hK : ∀ u, wpList P ops Q rest (a.put o.dst u) w') : wpList P ops Q (o :: rest) a w := by
  refine wpList_plain hg fun K hK' => ?_
  unfold Oper.wp
  simp [execOp, hop, hx, hy, hrun, Result.andThen]
  exact hK' _ _ (hK _)
theorem pr_one (bg : Nat) (s : Rs) (t : Pt) : (prArr bg s t).all (·.oneCell') = true := by simp [Value.oneCell']
set_option maxHeartbeats 4000000 in
set_option maxRecDepth 100000 in
theorem qSClone (bs bg g N : Nat) (s : Rs) (t : Pt) (w : World) (h : PrAt w bs bg g N s t) :
    Calls Tryz.prog 175 #[.pointer (some ⟨bs, 0, none⟩)] w fun e w' => ∃ bs' bg' g', e = .returned (.pointer (some ⟨bs', 0, none⟩)) ∧ PrAt w' bs' bg' g' N s t ∧ Below w.heap.size w w' ∧ w.heap.size ≤ bs' ∧ w.heap.size ≤ bg' ∧ w.heap.size ≤ g' := by
  have HH : Hid (PrAt w bs bg g N s t) := h
  have hblk := h.blk
  have zb := h.lt
  have c0 : w.cell? ⟨bs, 0, none⟩ = some (.pointer (some ⟨bg, 0, none⟩)) := cell_of_block hblk 0
  obtain ⟨arr, harr⟩ : ∃ arr, prArr bg s t = arr := ⟨_, rfl⟩
  have hone := pr_one bg s t
  have hsz : (prArr bg s t).size = 27 := rfl
  rw [harr] at hone hsz hblk
  have hl := load_arr w bs arr 27 _ hblk hsz
  have hld : (Instr.loadAt 153 (.pointer (some ⟨bs, 0, none⟩))).run Tryz.prog w = .ok (.agg arr) w := by
    simp only [Instr.loadAt, Instr.sureAddr, Sem.run_bind, Sem.run_pure, Result.andThen, loadVar, Tryz.isAgg153, Tryz.sizeOf153, loadCells, hl, if_true]
  have hst := fun (c : Array Value) (hc : c.size = 27) => run_storeAt_new (P := Tryz.prog) w 153 c arr (by rw [hsz]; exact scr_size) (by rw [hc, hsz]) hone
  have Hld : Hid ((Instr.loadAt 153 (.pointer (some ⟨bs, 0, none⟩))).run Tryz.prog w = .ok (.agg arr) w) := hld
  have Hst : Hid (∀ (c : Array Value), c.size = 27 → (Instr.storeAt 153 (.pointer (some ⟨w.heap.size, 0, none⟩)) (.agg arr)).run Tryz.prog (w.alloc (.cells c 153)) = .ok () (w.alloc (.cells arr 153))) := hst
  have Harr : Hid (prArr bg s t = arr) := harr
  clear h hblk harr hone hl hld hst
  go_enter Tryz.func175, Tryz.ntmps175
  go_wp2_with (first | (refine wpList_load_arr _ rfl (.tmp 5) 153 rfl _ _ rfl Hld.out ?_) | (refine wpList_store_arr _ _ rfl (.tmp 3) (.tmp 6) 153 rfl _ _ rfl rfl (Hst.out _ rfl) (fun u => ?_)))
  have hA : ∃ wA M, w.alloc (.cells arr 153) = wA ∧ w.heap.size = M ∧ Below w.heap.size w wA ∧ wA.heap[M]? = some (.cells arr 153) ∧ wA.heap.size = M + 1 := ⟨_, _, rfl, rfl, (Below.refl _ _).alloc (Nat.le_refl _) _, heap_new _ _, by simp⟩
  obtain ⟨wA, M, hwA, hM, belA, bA, zA⟩ := hA
  rw [hwA, hM]
  have HA : Hid (Below w.heap.size w wA ∧ wA.heap[M]? = some (.cells (prArr bg s t) 153) ∧ PrAt wA bs bg g N s t) := ⟨belA, by rw [Harr.out]; exact bA, HH.out.below belA⟩
  have HM : Hid (w.heap.size = M) := hM
  clear hwA belA bA hM c0 Hld Hst Harr hsz
  go_at_call 197
  refine (qGClone bg g s.W s.H N s.G wA HA.out.2.2.gr).mono ?_
  rintro e w1 ⟨bg', g', rfl, gr, hb1, z1, z2⟩
  have hbM : w1.heap[M]? = some (.cells (prArr bg s t) 153) := (hb1.block M (by omega)).trans HA.out.2.1
  have f0 : w1.frozen? ⟨M, 0, none⟩ = false := frozen_of_block hbM 0
  have m0 : w1.cell? ⟨M, 0, none⟩ = some (.pointer (some ⟨bg, 0, none⟩)) := cell_of_block hbM 0
  have HF : Hid (PrAt (w1.setCell ⟨M, 0, none⟩ (.pointer (some ⟨bg', 0, none⟩))) M bg' g' N s t ∧ Below w.heap.size w (w1.setCell ⟨M, 0, none⟩ (.pointer (some ⟨bg', 0, none⟩)))) := by
    have k := (Keep.refl (fun i => i = M) w1).setCell ⟨M, 0, none⟩ (.pointer (some ⟨bg', 0, none⟩)) (fun _ => rfl)
    have hm := HM.out
    refine ⟨⟨heap_set_same hbM 0 _, gr.same (k.block _ gr.lt (by omega)) (k.block _ gr.glt (by omega)), by omega, by omega⟩, ?_⟩
    have hs1 := hb1.size
    exact (HA.out.1.trans (hb1.mono (by omega))).trans (k.toBelow (by omega) (fun i hi e => by omega))
  have hz1 : w.heap.size ≤ bg' ∧ w.heap.size ≤ g' := by have := HM.out; omega
  have Hz : Hid (w.heap.size ≤ bg' ∧ w.heap.size ≤ g') := hz1
  clear hb1 hbM gr z1 z2 hz1 zA
  go_wp2_with fail
  go_ret
  exact ⟨M, bg', g', rfl, HF.out.1, HF.out.2, Nat.le_of_eq HM.out, Hz.out.1, Hz.out.2⟩
end Go.Proofs.YtjlfibhbfdckpaaGreatDoor

/- Flush: repaint. -/
namespace Go.Proofs.YtjlfibhbfdckpaaGreatDoor
open Go.RowKit
attribute [local go_sem ↓] Go.wp_at_zero Go.wp_at_succ
theorem paintN_at (P : Nat → Nat → Cel) {W x : Nat} (y : Nat) (hx : x < W) (st : Rs × List UInt8) : paintN P W st (y * W + (x + 1)) = paintS P (paintN P W st (y * W + x)) x y := by
  have a : (y * W + x) % W = x := by rw [Nat.mul_comm, Nat.mul_add_mod, Nat.mod_eq_of_lt hx]
  have b : (y * W + x) / W = y := by rw [Nat.mul_comm, Nat.mul_add_div (by omega), Nat.div_eq_of_lt hx]; rfl
  rw [← Nat.add_assoc, paintN, a, b]
theorem painted_len {s : Rs} {P : Nat → Nat → Cel} {b0 : List UInt8} {i : Nat} {st : Rs × List UInt8} (h : Painted s P b0 i st) (hi : i ≤ 800) (hl : b0.length ≤ 100) : st.2.length ≤ 30000 := by
  obtain ⟨m, e, _, hm⟩ := h.told
  have := cnt_le (fun j => differsB s P (j % s.W) (j / s.W)) i
  rw [e, List.length_append]
  omega
set_option maxHeartbeats 8000000 in
set_option maxRecDepth 100000 in
theorem qRepaint (bs bg g N : Nat) (s : Rs) (t : Pt) (po pc : Nat) (lb lc : Nat → Nat) (H : Nat) (P : Nat → Nat → Cel) (n : Int) (w : World) (hp : PrAt w bs bg g N s t) (tie : Tie s.B t) (pic : PcM w po lb lc s.W H P) (hs : H = s.H) (hpc : H ≤ pc) (tab : Tabs w) (h2 : 2 ≤ w.heap.size) (fl : s.Fl) (hP : PicOk s.W s.H P) (na : -20 ≤ n) (nb : n ≤ 20) :
    Calls Tryz.prog 157 #[.pointer (some ⟨bs, 0, none⟩), .slice (some ⟨po, 0, none⟩) H pc, .int .i64 n] w fun e w' => e = .returned (bstr (repaintL s P n)) ∧ Below w.heap.size w w' := by
  have HH : Hid (PrAt w bs bg g N s t ∧ Tie s.B t ∧ PcM w po lb lc s.W H P ∧ H = s.H ∧ H ≤ pc ∧ Tabs w ∧ 2 ≤ w.heap.size ∧ s.Fl ∧ PicOk s.W s.H P) := ⟨hp, tie, pic, hs, hpc, tab, h2, fl, hP⟩
  have hH : H ≤ 20 := by have := fl.ok.h2; omega
  have hH1 : 1 ≤ H := by have := fl.ok.h1; omega
  have w1 := fl.ok.w1
  have w2 := fl.ok.w2
  have hmul : H * s.W ≤ 20 * 40 := Nat.mul_le_mul hH w2
  have Hpo : Hid (po < w.heap.size ∧ ∀ y, y < H → lb y < w.heap.size) := ⟨World.block_lt_of_cell? _ _ (pic.row 0 (by omega)), fun y hy => (pic.cel y 0 hy (by omega)).lt⟩
  obtain ⟨m0, hm0⟩ : ∃ m0, w.heap.size = m0 := ⟨_, rfl⟩
  have Hm0 : Hid (w.heap.size = m0) := hm0
  rw [hm0] at Hpo ⊢
  clear hp tie pic hs hpc tab h2 fl hP hm0
  go_enter Tryz.func157, Tryz.ntmps157
  go_wp2_with fail
  go_at_call 175
  refine (qSClone bs bg g N s t w HH.out.1).mono ?_
  rintro e w1' ⟨bs', bg', g', rfl, P1, hb1, z1, z2, z3⟩
  have H1 : Hid (PrAt w1' bs' bg' g' N s t ∧ Below w.heap.size w w1' ∧ w.heap.size ≤ bs' ∧ w.heap.size ≤ bg' ∧ w.heap.size ≤ g') := ⟨P1, hb1, z1, z2, z3⟩
  clear P1 hb1 z1 z2 z3
  go_upto_if 17 with fail
  have hB : ∃ wB bp, w1'.alloc (.cells #[.slice (some ⟨po, 0, none⟩) H pc, .pointer (some ⟨bs', 0, none⟩), .pointer none, .slice none 0 0] 194) = wB ∧ w1'.heap.size = bp ∧ wB.heap[bp]? = some (.cells #[.slice (some ⟨po, 0, none⟩) H pc, .pointer (some ⟨bs', 0, none⟩), .pointer none, .slice none 0 0] 194) ∧ Below w1'.heap.size w1' wB ∧ wB.heap.size = bp + 1 := ⟨_, _, rfl, rfl, heap_new _ _, (Below.refl _ _).alloc (Nat.le_refl _) _, by simp⟩
  obtain ⟨wB, bp, hwB, hbp, bB, belB, zB⟩ := hB
  rw [hwB]
  try rw [hbp]
  have HPa : Hid (PaM wB m0 (bp + 1) bp po pc lb lc H P bs' bg' g' N s [] ∧ Below m0 w wB) := by
    obtain ⟨q1, q2, q3, q4, q5⟩ := H1.out
    obtain ⟨r1, r2, r3, r4, r5, r6, r7, r8, r9⟩ := HH.out
    have hm := Hm0.out
    have k1 := q1.lt
    have k2 := q1.gr.lt
    have k3 := q1.gr.glt
    have bb : Below w.heap.size w wB := q2.trans (belB.mono q2.size)
    refine ⟨⟨⟨t, ⟨cell_of_block bB 0, cell_of_block bB 1, r3.below bb, r4, r5, q1.below belB⟩, r2⟩, ⟨⟨_, _, bB, .inl rfl, ⟨by simp [Lib.byteCells], .inl ⟨rfl, rfl⟩⟩, by simp⟩, by omega, by omega⟩, r6.below bb, by omega, Hpo.out.1, Hpo.out.2, by omega, by omega, by omega, by have := q2.size; omega⟩, by rw [← hm]; exact bb⟩
  obtain ⟨sg, hsg⟩ : ∃ sg, beginS s n = sg := ⟨_, rfl⟩
  have Hsg : Hid (beginS s n = sg) := hsg
  have HsF : Hid (sg.1.Fl ∧ sg.1.W = s.W ∧ sg.1.H = s.H ∧ sg.2.length ≤ 10) := by
    obtain ⟨r1, r2, r3, r4, r5, r6, r7, r8, r9⟩ := HH.out
    show _ ∧ _
    rw [← hsg]
    unfold beginS
    by_cases h0 : n = 0
    · rw [if_pos h0]; exact ⟨r8, rfl, rfl, by simp⟩
    · rw [if_neg h0]
      have e := scrolled r8 h0 (n := n) (by omega) (by omega)
      exact ⟨scrolled_fl r8 h0 (by omega) (by omega), by show (feedR s (scrollL s n)).W = _; rw [e], by show (feedR s (scrollL s n)).H = _; rw [e], scroll_len r8 (by omega) (by omega)⟩
  have HPt : Hid (∀ i, i ≤ H * s.W → Painted sg.1 P sg.2 i (paintN P s.W sg i)) := by
    obtain ⟨r1, r2, r3, r4, r5, r6, r7, r8, r9⟩ := HH.out
    obtain ⟨f1, f2, f3, f4⟩ := HsF.out
    intro i hi
    have := paint_inv f1 (P := P) (by rw [f2, f3]; exact r9) sg.2 i (by rw [f2, f3, ← r4]; exact hi)
    rw [f2] at this
    exact this
  clear hwB hbp bB belB zB H1 hsg
  go_cut [] (fun wc => PaM wc m0 (bp + 1) bp po pc lb lc H P bs' bg' g' N sg.1 sg.2 ∧ Below m0 w wc)
  case first =>
    by_cases h0 : n = 0
    · have e0 : sg = (s, []) := by rw [← Hsg.out]; unfold beginS; rw [if_pos h0]
      have He0 : Hid (sg = (s, [])) := e0
      clear e0
      subst h0
      go_wp2_with fail
      go_meet
      case rel => rw [He0.out]; exact HPa.out
    · have e0 : sg = (feedR s (scrollL s n), scrollL s n) := by rw [← Hsg.out]; unfold beginS; rw [if_neg h0]
      have He0 : Hid (sg = (feedR s (scrollL s n), scrollL s n)) := e0
      have hb0 : (n != 0) = true := by simpa using h0
      clear e0
      go_wp2_with fail
      go_at_call 176
      refine (qScroll m0 (bp + 1) bp po pc lb lc H P bs' bg' g' N s [] n wB HPa.out.1 HH.out.2.2.2.2.2.2.2.1 h0 (by omega) (by omega) (by simp)).mono ?_
      rintro e wS ⟨rfl, PS, hbS⟩
      have HS : Hid (PaM wS m0 (bp + 1) bp po pc lb lc H P bs' bg' g' N sg.1 sg.2 ∧ Below m0 w wS) := by
        rw [List.nil_append] at PS
        show _ ∧ _
        rw [He0.out]
        exact ⟨PS, HPa.out.2.trans hbS⟩
      clear PS hbS
      go_wp2_with fail
      go_meet
      case rel => exact HS.out
  case rest =>
    have HC : Hid (PaM wc m0 (bp + 1) bp po pc lb lc H P bs' bg' g' N sg.1 sg.2 ∧ Below m0 w wc) := hcut
    clear hcut HPa
    go_wp2_with fail
    go_loopw [23] (fun vi wr => ∃ y : Nat, vi = .int .i64 y ∧ y ≤ H ∧ PaM wr m0 (bp + 1) bp po pc lb lc H P bs' bg' g' N (paintN P s.W sg (y * s.W)).1 (paintN P s.W sg (y * s.W)).2 ∧ Below m0 w wr) (fun vi _ => H - (intOf vi).toNat)
    case atStart => exact ⟨0, rfl, Nat.zero_le _, by rw [Nat.zero_mul]; exact HC.out.1, HC.out.2⟩
    case round =>
      obtain ⟨y, rfl, hy, hpa, hbw⟩ := hrel
      have HB : Hid (PaM wr m0 (bp + 1) bp po pc lb lc H P bs' bg' g' N (paintN P s.W sg (y * s.W)).1 (paintN P s.W sg (y * s.W)).2 ∧ Below m0 w wr) := ⟨hpa, hbw⟩
      clear hpa hbw HC
      by_cases hc : y < H
      · have hc' : (y : Int) < (H : Int) := by omega
        have hyW : y * s.W + s.W ≤ H * s.W := by rw [← Nat.succ_mul]; exact Nat.mul_le_mul_right _ hc
        have r0 : wr.cell? ⟨po, y, none⟩ = some (.slice (some ⟨lb y, 0, none⟩) s.W (lc y)) := by
          obtain ⟨tq, pq, _⟩ := HB.out.1.ex
          have := pq.pic.row y hc
          rw [(HPt.out (y * s.W) (by omega)).W, HsF.out.2.1] at this
          exact this
        have Hy : Hid (y < H ∧ y * s.W + s.W ≤ H * s.W) := ⟨hc, hyW⟩
        clear hc hyW hy
        go_wp2_with fail
        go_loopw [30] (fun vi wi => ∃ x : Nat, vi = .int .i64 x ∧ x ≤ s.W ∧ PaM wi m0 (bp + 1) bp po pc lb lc H P bs' bg' g' N (paintN P s.W sg (y * s.W + x)).1 (paintN P s.W sg (y * s.W + x)).2 ∧ Below m0 w wi) (fun vi _ => s.W - (intOf vi).toNat)
        case atStart => exact ⟨0, rfl, Nat.zero_le _, HB.out.1, HB.out.2⟩
        case round =>
          obtain ⟨x, rfl, hx, hpa, hbi⟩ := hrel
          have HBi : Hid (PaM wr m0 (bp + 1) bp po pc lb lc H P bs' bg' g' N (paintN P s.W sg (y * s.W + x)).1 (paintN P s.W sg (y * s.W + x)).2 ∧ Below m0 w wr) := ⟨hpa, hbi⟩
          clear hpa hbi r0
          by_cases hxc : x < s.W
          · have hxc' : (x : Int) < (s.W : Int) := by omega
            have Hx : Hid (x < s.W) := hxc
            have Hst : Hid (paintN P s.W sg (y * s.W + (x + 1)) = paintS P (paintN P s.W sg (y * s.W + x)) x y) := paintN_at P y hxc sg
            have HPn := HPt.out (y * s.W + x) (by have := Hy.out.2; omega)
            obtain ⟨st, hst⟩ : ∃ st, paintN P s.W sg (y * s.W + x) = st := ⟨_, rfl⟩
            rw [hst] at Hst HBi HPn
            have HPn2 : Hid (Painted sg.1 P sg.2 (y * s.W + x) st) := HPn
            have HWH : Hid (st.1.W = s.W ∧ st.1.H = s.H ∧ st.2.length ≤ 30000) := ⟨HPn.W.trans HsF.out.2.1, HPn.H.trans HsF.out.2.2.1, painted_len HPn (by have := Hy.out.2; omega) (by have := HsF.out.2.2.2; omega)⟩
            clear hst HPn hxc hx
            go_wp2_with fail
            go_at_call 177
            obtain ⟨tq, pq, _⟩ := HBi.out.1.ex
            refine (qDiffers bp po pc lb lc H P bs' bg' g' N st.1 tq x y wr pq (by rw [HWH.out.1]; exact Hx.out) (by rw [HWH.out.2.1, ← HH.out.2.2.2.1]; exact Hy.out.1)).mono ?_
            clear pq
            rintro e w7 ⟨rfl, hb7⟩
            have H7 : Hid (PaM w7 m0 (bp + 1) bp po pc lb lc H P bs' bg' g' N st.1 st.2 ∧ Below m0 w w7) := ⟨HBi.out.1.below hb7, HBi.out.2.trans (hb7.mono (by have := HBi.out.1.bd.le; have := HBi.out.1.p0; omega))⟩
            clear hb7
            cases hd : differsB st.1 P x y with
            | false =>
              have Hn : Hid (paintN P s.W sg (y * s.W + (x + 1)) = st) := by
                show _ = _
                rw [Hst.out]; unfold paintS; rw [if_neg (by rw [hd]; decide)]
              clear hd
              go_wp2_with fail
              go_roundw
              case rel => exact ⟨x + 1, by go_num, by have := Hx.out; omega, by rw [Hn.out]; exact H7.out.1, H7.out.2⟩
              case measure => simp [intOf]; have := Hx.out; omega
            | true =>
              have Hn : Hid (paintN P s.W sg (y * s.W + (x + 1)) = (feedR st.1 (mendL st.1 P x y), st.2 ++ mendL st.1 P x y)) := by
                show _ = _
                rw [Hst.out]; unfold paintS; rw [if_pos hd]
              have Hd : Hid (st.1.G x y ≠ P x y) := differs_iff.1 hd
              clear hd
              go_wp2_with fail
              go_at_call 178
              refine (qMend m0 (bp + 1) bp po pc lb lc H P bs' bg' g' N st.1 st.2 x y w7 H7.out.1 HPn2.out.fl (by rw [HWH.out.1, HWH.out.2.1]; exact HH.out.2.2.2.2.2.2.2.2) (by rw [HWH.out.1]; exact Hx.out) (by rw [HWH.out.2.1, ← HH.out.2.2.2.1]; exact Hy.out.1) (fun a b ha hb hlt => HPn2.out.done a b (by rw [HsF.out.2.1, ← HWH.out.1]; exact ha) (by rw [HsF.out.2.2.1, ← HWH.out.2.1]; exact hb) (by rw [HsF.out.2.1]; rw [HWH.out.1] at hlt; exact hlt)) Hd.out (by have := HWH.out.2.2; omega)).mono ?_
              rintro e w8 ⟨rfl, P8, hb8⟩
              have H8 : Hid (PaM w8 m0 (bp + 1) bp po pc lb lc H P bs' bg' g' N (feedR st.1 (mendL st.1 P x y)) (st.2 ++ mendL st.1 P x y) ∧ Below m0 w w8) := ⟨P8, H7.out.2.trans hb8⟩
              clear P8 hb8
              go_wp2_with fail
              go_roundw
              case rel => exact ⟨x + 1, by go_num, by have := Hx.out; omega, by rw [Hn.out]; exact H8.out.1, H8.out.2⟩
              case measure => simp [intOf]; have := Hx.out; omega
          · have hxc' : ¬ ((x : Int) < (s.W : Int)) := by omega
            have ex : x = s.W := by omega
            have Hex : Hid (x = s.W) := ex
            clear ex hxc hx
            go_wp2_with fail
            go_roundw
            case rel => exact ⟨y + 1, by go_num, by have := Hy.out.1; omega, by rw [Nat.succ_mul, ← Hex.out]; rw [← Hex.out] at HBi; exact HBi.out.1, HBi.out.2⟩
            case measure => simp [intOf]; have := Hy.out.1; omega
      · have hc' : ¬ ((y : Int) < (H : Int)) := by omega
        have ey : y = H := by omega
        have Hey : Hid (y = H) := ey
        clear ey hc hy
        go_wp2_with fail
        go_at_call 179
        refine (qString bp (bp + 1) _ _ _ wr HB.out.1.bd).mono ?_
        rintro e wz ⟨rfl, hbz⟩
        have HZ : Hid (Below m0 w wz) := HB.out.2.trans (hbz.mono (by have := HB.out.1.p0; omega))
        have HR : Hid (repaintL s P n = (paintN P s.W sg (y * s.W)).2) := by
          show _ = _
          unfold repaintL
          rw [Hsg.out, Hey.out, HH.out.2.2.2.1]
        rw [← HR.out]
        clear hbz
        go_wp2_with fail
        go_ret
        exact ⟨rfl, HZ.out⟩
end Go.Proofs.YtjlfibhbfdckpaaGreatDoor
