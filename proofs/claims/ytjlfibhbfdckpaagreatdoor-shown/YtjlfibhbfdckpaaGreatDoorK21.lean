/- Texts of the proof, one behind the other: FwJ, FwK, FwL, FwM, FwN. -/
import Derived.Test.YtjlfibhbfdckpaaGreatDoorK07
import Derived.Test.YtjlfibhbfdckpaaGreatDoorK20
import Derived.RegionTactic
import Derived.BigRegion
import Derived.Deep.RegionLaw
import Derived.Deep.AppendLies
/- Flush: ways: Len, Less, Swap, Push, Pop. -/
namespace Go.Proofs.YtjlfibhbfdckpaaGreatDoor
open Go.RowKit
attribute [local go_sem ↓] Go.wp_at_zero Go.wp_at_succ
structure HpAt (w : World) (bo base g cap : Nat) (L : List Wy) : Prop where
  box : w.heap[bo]? = some (.cells #[.slice (some ⟨g, 0, none⟩) L.length cap] 240)
  row : WRow w base g L.length cap L
  ne : g ≠ bo
  hb : base ≤ bo
section
variable {w w' : World} {bo base g cap : Nat} {L : List Wy}
theorem HpAt.lt (h : HpAt w bo base g cap L) : bo < w.heap.size := (Array.getElem?_eq_some_iff.1 h.box).1
theorem HpAt.glt (h : HpAt w bo base g cap L) : g < w.heap.size := by
  obtain ⟨cur, hg, _⟩ := wrow_cur h.row
  exact (Array.getElem?_eq_some_iff.1 hg).1
theorem HpAt.same (h : HpAt w bo base g cap L) (h1 : w'.heap[bo]? = w.heap[bo]?) (h2 : w'.heap[g]? = w.heap[g]?) : HpAt w' bo base g cap L :=
  ⟨h1.trans h.box, orow_same h.row (fun i hi => by obtain rfl : g = i := by simpa [Value.ownBlock] using hi
                                                   exact h2), h.ne, h.hb⟩
theorem HpAt.keep {F : Nat → Prop} (h : HpAt w bo base g cap L) (k : Keep F w w') (h1 : ¬ F bo) (h2 : ¬ F g) : HpAt w' bo base g cap L := h.same (k.block _ h.lt h1) (k.block _ h.glt h2)
theorem HpAt.c0 (h : HpAt w bo base g cap L) : w.cell? ⟨bo, 0, none⟩ = some (.slice (some ⟨g, 0, none⟩) L.length cap) := cell_of_block h.box 0
end
theorem qLen (a : Option Addr) (n c : Nat) (w : World) : Calls Tryz.prog 281 #[.slice a n c] w fun e w' => e = .returned (.int .i64 n) ∧ w' = w := by
  go_enter Tryz.func281, Tryz.ntmps281
  go_wp2
  go_ret
  exact ⟨rfl, rfl⟩
set_option maxHeartbeats 1000000 in
theorem qLess (g cap base n : Nat) (L : List Wy) (i j : Nat) (w : World) (h : WRow w base g n cap L) (hi : i < n) (hj : j < n) :
    Calls Tryz.prog 282 #[.slice (some ⟨g, 0, none⟩) n cap, .int .i64 i, .int .i64 j] w fun e w' => e = .returned (.bool (decide ((gW L i).b.length < (gW L j).b.length))) ∧ ∃ q, w' = w.drewN q := by
  have ci : w.cell? ⟨g, i * 10, none⟩ = some (bstr (gW L i).b) := wrow_range h hi 0 _ rfl
  have cj : w.cell? ⟨g, j * 10, none⟩ = some (bstr (gW L j).b) := wrow_range h hj 0 _ rfl
  have hi' : (i : Int) < (n : Int) := by omega
  have hj' : (j : Int) < (n : Int) := by omega
  clear h
  go_enter Tryz.func282, Tryz.ntmps282
  go_wp2_with fail
  go_quiet (fail)
  go_wp2_with fail
  go_ret
  exact ⟨rfl, nq, rfl⟩
theorem winfo : (Tryz.prog.info? 237).map (·.size) = some 10 := by kernel_rfl
theorem wcells {w : World} {g k : Nat} {v : Wy} (h : w.rangeAt g k v.vals) : w.cell? ⟨g, k, none⟩ = some (bstr v.b) ∧ w.cell? ⟨g, k + 1, none⟩ = some (.int .i64 v.k) ∧ w.cell? ⟨g, k + 2, none⟩ = some (.int .i64 v.e.x) ∧ w.cell? ⟨g, k + 3, none⟩ = some (.int .i64 v.e.y) ∧ w.cell? ⟨g, k + 4, none⟩ = some (.bool v.e.pend) ∧ w.cell? ⟨g, k + 5, none⟩ = some (.int .i64 v.e.pen.f) ∧ w.cell? ⟨g, k + 6, none⟩ = some (.int .i64 v.e.pen.b) ∧ w.cell? ⟨g, k + 7, none⟩ = some (.bool v.e.pen.bo) ∧ w.cell? ⟨g, k + 8, none⟩ = some (.bool v.e.pen.un) ∧ w.cell? ⟨g, k + 9, none⟩ = some (.bool v.e.pen.re) :=
  ⟨h 0 _ rfl, h 1 _ rfl, h 2 _ rfl, h 3 _ rfl, h 4 _ rfl, h 5 _ rfl, h 6 _ rfl, h 7 _ rfl, h 8 _ rfl, h 9 _ rfl⟩
theorem wfree {w : World} {base g n cap : Nat} {L : List Wy} (h : WRow w base g n cap L) : ∀ o, w.frozen? ⟨g, o, none⟩ = false := by
  obtain ⟨cur, hg, _⟩ := wrow_cur h
  exact frozen_of_block hg
/-- A way is written. -/
abbrev put10 (w : World) (g o : Nat) (v : Wy) : World := ((((((((((w.setCell ⟨g, o, none⟩ (.string ⟨v.b.toArray⟩)).setCell ⟨g, o + 1, none⟩ (.int .i64 v.k)).setCell ⟨g, o + 2, none⟩ (.int .i64 v.e.x)).setCell ⟨g, o + 3, none⟩ (.int .i64 v.e.y)).setCell ⟨g, o + 4, none⟩ (.bool v.e.pend)).setCell ⟨g, o + 5, none⟩ (.int .i64 v.e.pen.f)).setCell ⟨g, o + 6, none⟩ (.int .i64 v.e.pen.b)).setCell ⟨g, o + 7, none⟩ (.bool v.e.pen.bo)).setCell ⟨g, o + 8, none⟩ (.bool v.e.pen.un)).setCell ⟨g, o + 9, none⟩ (.bool v.e.pen.re))
theorem put10_eq (w : World) (g o : Nat) (v : Wy) : put10 w g o v = w.setCells g o v.vals := by
  simp only [World.setCells, Nat.add_assoc, Nat.reduceAdd]
theorem put10_row {w : World} {base g n cap : Nat} {L : List Wy} (h : WRow w base g n cap L) {k : Nat} (hk : k < n) (v : Wy) : WRow (put10 w g (k * 10) v) base g n cap (L.set k v) := by
  rw [put10_eq]; exact wrow_set h hk v
theorem put10_keep {F : Nat → Prop} {a w : World} (h : Keep F a w) (g o : Nat) (v : Wy) (hF : F g) : Keep F a (put10 w g o v) := by
  rw [put10_eq]; exact Keep.setCells g (fun _ => hF) _ _ h
theorem swap_row {w : World} {base g n cap : Nat} {L : List Wy} (h : WRow w base g n cap L) {i j : Nat} (hi : i < n) (hj : j < n) : WRow (put10 (put10 w g (i * 10) (gW L j)) g (j * 10) (gW L i)).drew base g n cap (swL L i j) := by
  have h2 := put10_row (put10_row h hi (gW L j)) hj (gW L i)
  have h3 : ((L.set i (gW L j)).set j (gW L i)) = swL L i j := rfl
  rw [h3] at h2
  revert h2
  generalize put10 (put10 w g (i * 10) (gW L j)) g (j * 10) (gW L i) = W
  intro h2
  exact orow_same h2 (fun _ _ => rfl)
theorem swap_keep (w : World) (g i j : Nat) (u v : Wy) : Keep (fun k => k = g) w (put10 (put10 w g i u) g j v).drew :=
  (put10_keep (put10_keep (Keep.refl (fun k => k = g) w) g i u rfl) g j v rfl).drew
set_option maxHeartbeats 4000000 in
theorem swapSame (g cap base n : Nat) (L : List Wy) (i : Nat) (w : World) (h : WRow w base g n cap L) (hi : i < n) :
    Calls Tryz.prog 285 #[.slice (some ⟨g, 0, none⟩) n cap, .int .i64 i, .int .i64 i] w fun e w' => e = .returned (.tuple #[]) ∧ WRow w' base g n cap (swL L i i) ∧ Keep (fun k => k = g) w w' := by
  obtain ⟨a0, a1, a2, a3, a4, a5, a6, a7, a8, a9⟩ := wcells (wrow_range h hi)
  have fz := wfree h
  have hi' : (i : Int) < (n : Int) := by omega
  have HW : Hid (WRow (put10 (put10 w g (i * 10) (gW L i)) g (i * 10) (gW L i)).drew base g n cap (swL L i i)) := swap_row h hi hi
  have HK : Hid (Keep (fun k => k = g) w (put10 (put10 w g (i * 10) (gW L i)) g (i * 10) (gW L i)).drew) := swap_keep w g _ _ _ _
  clear h
  go_enter Tryz.func285, Tryz.ntmps285
  go_wp2_with fail
  go_region
  all_goals
    go_wp2_with fail
    go_end0
    exact ⟨rfl, HW.out, HK.out⟩
set_option maxHeartbeats 4000000 in
theorem swapOther (g cap base n : Nat) (L : List Wy) (i j : Nat) (w : World) (h : WRow w base g n cap L) (hi : i < n) (hj : j < n) (hne : i ≠ j) :
    Calls Tryz.prog 285 #[.slice (some ⟨g, 0, none⟩) n cap, .int .i64 i, .int .i64 j] w fun e w' => e = .returned (.tuple #[]) ∧ WRow w' base g n cap (swL L i j) ∧ Keep (fun k => k = g) w w' := by
  obtain ⟨a0, a1, a2, a3, a4, a5, a6, a7, a8, a9⟩ := wcells (wrow_range h hi)
  obtain ⟨b0, b1, b2, b3, b4, b5, b6, b7, b8, b9⟩ := wcells (wrow_range h hj)
  have fz := wfree h
  have hi' : (i : Int) < (n : Int) := by omega
  have hj' : (j : Int) < (n : Int) := by omega
  have n1 : ¬ i * 10 = j * 10 := by omega
  have n2 : ∀ d, d < 10 → ¬ i * 10 = j * 10 + d := by omega
  have n3 : ∀ c, c < 10 → ¬ i * 10 + c = j * 10 := by omega
  have n4 : ∀ c d, c < 10 → d < 10 → ¬ i * 10 + c = j * 10 + d := by omega
  have m1 : ¬ j * 10 = i * 10 := by omega
  have m2 : ∀ d, d < 10 → ¬ j * 10 = i * 10 + d := by omega
  have m3 : ∀ c, c < 10 → ¬ j * 10 + c = i * 10 := by omega
  have m4 : ∀ c d, c < 10 → d < 10 → ¬ j * 10 + c = i * 10 + d := by omega
  have HW : Hid (WRow (put10 (put10 w g (i * 10) (gW L j)) g (j * 10) (gW L i)).drew base g n cap (swL L i j)) := swap_row h hi hj
  have HK : Hid (Keep (fun k => k = g) w (put10 (put10 w g (i * 10) (gW L j)) g (j * 10) (gW L i)).drew) := swap_keep w g _ _ _ _
  clear h
  go_enter Tryz.func285, Tryz.ntmps285
  go_wp2_with fail
  go_region
  all_goals
    go_wp2_with fail
    go_end0
    exact ⟨rfl, HW.out, HK.out⟩
theorem qSwap (g cap base n : Nat) (L : List Wy) (i j : Nat) (w : World) (h : WRow w base g n cap L) (hi : i < n) (hj : j < n) :
    Calls Tryz.prog 285 #[.slice (some ⟨g, 0, none⟩) n cap, .int .i64 i, .int .i64 j] w fun e w' => e = .returned (.tuple #[]) ∧ WRow w' base g n cap (swL L i j) ∧ Keep (fun k => k = g) w w' := by
  by_cases e : i = j
  · subst e; exact swapSame g cap base n L i w h hi
  · exact swapOther g cap base n L i j w h hi hj e
end Go.Proofs.YtjlfibhbfdckpaaGreatDoor

/- Flush: ways: Pop, Push. -/
namespace Go.Proofs.YtjlfibhbfdckpaaGreatDoor
open Go.RowKit
attribute [local go_sem ↓] Go.wp_at_zero Go.wp_at_succ
theorem winfo_zero : (Tryz.prog.info? 237).bind (·.zero) = some (Wy.agg ⟨[], 0, ⟨0, 0, false, ⟨0, 0, false, false, false⟩⟩⟩) := by kernel_rfl
theorem winfo_bytes : (Tryz.prog.info? 237).map (·.bytes) = some 72 := by kernel_rfl
theorem info_way : ∃ (i : TypeInfo), Tryz.prog.info? 237 = some i ∧ i.zero = some (Wy.agg ⟨[], 0, ⟨0, 0, false, ⟨0, 0, false, false, false⟩⟩⟩) ∧ i.size = 10 ∧ i.bytes = 72 := by
  have h1 := winfo_zero
  have h2 := winfo
  have h3 := winfo_bytes
  cases h : Tryz.prog.info? 237 with
  | none => rw [h] at h2; simp at h2
  | some i => rw [h] at h1 h2 h3; exact ⟨i, rfl, by simpa using h1, by simpa using h2, by simpa using h3⟩
theorem wassert (v : Wy) (w : World) : (Instr.typeAssert (.iface 237 v.agg) 20 237 false).run Tryz.prog w = .ok v.agg w := by kernel_rfl
theorem hp_pop {w : World} {bo base g cap n : Nat} {L : List Wy} (h : HpAt w bo base g cap L) (hn : L.length = n + 1) (o : Obj) : HpAt ((w.setCell ⟨bo, 0, none⟩ (.slice (some ⟨g, 0, none⟩) n cap)).alloc o) bo base g cap (L.take n) := by
  have hl : (L.take n).length = n := by rw [List.length_take]; omega
  have hs : (w.setCell ⟨bo, 0, none⟩ (.slice (some ⟨g, 0, none⟩) n cap)).heap.size = w.heap.size := by simp [World.setCell]
  refine ⟨?_, ?_, h.ne, h.hb⟩
  · rw [heap_next _ _ (by rw [hs]; exact h.lt), hl]; exact heap_set_same h.box 0 _
  · have hr := wrow_take h.row (m := n) (by omega)
    rw [hl]
    refine orow_same hr (fun i hi => ?_)
    obtain rfl : g = i := by simpa [Value.ownBlock] using hi
    rw [heap_next _ _ (by rw [hs]; exact h.glt)]
    exact Below.heap_setCell _ _ _ _ h.ne
set_option maxHeartbeats 2000000 in
theorem qPopM (bo base g cap : Nat) (L : List Wy) (w : World) (h : HpAt w bo base g cap L) (hn : 1 ≤ L.length) (hz : L.length ≤ 100000) :
    Calls Tryz.prog 283 #[.pointer (some ⟨bo, 0, none⟩)] w fun e w' => e = .returned (.iface 237 (gW L (L.length - 1)).agg) ∧ HpAt w' bo base g cap (L.take (L.length - 1)) ∧ Keep (fun i => i = bo) w w' := by
  have hlt := h.lt
  have hglt := h.glt
  have c0 := h.c0
  have fz : ∀ o, w.frozen? ⟨bo, o, none⟩ = false := frozen_of_block h.box
  have HH : Hid (HpAt w bo base g cap L) := h
  obtain ⟨n, hn'⟩ : ∃ n, L.length = n + 1 := ⟨L.length - 1, by omega⟩
  have e1 : L.length - 1 = n := by omega
  rw [e1]
  rw [hn'] at c0
  have hr := h.row
  rw [hn'] at hr
  obtain ⟨a0, a1, a2, a3, a4, a5, a6, a7, a8, a9⟩ := wcells (wrow_range hr (k := n) (by omega))
  have hcap : n + 1 ≤ cap := by obtain ⟨_, _, _, q, _⟩ := wrow_cur hr; exact q
  have hnz : n ≤ 100000 := by omega
  have HL : Hid (L.length = n + 1) := hn'
  clear h hr hn' e1 hn hz
  go_enter Tryz.func283, Tryz.ntmps283
  go_wp2_with fail
  go_ret
  exact ⟨rfl, hp_pop HH.out HL.out _, ((Keep.refl (fun i => i = bo) w).setCell _ _ (fun _ => rfl)).alloc _⟩
theorem hp_push {w W w7 : World} {bo base g cap g7 cap7 : Nat} {L : List Wy} {v : Wy} (h : HpAt w bo base g cap L) (hW : w.heap.size ≤ W.heap.size) (hb : w7.heap[bo]? = some (.cells #[.slice (some ⟨g, 0, none⟩) L.length cap] 240)) (hK : Keep (fun i => i = bo ∨ i = g) w W) (hg : W.grownBy w7 (some g)) (hr : w7.ownsRow base 237 10 (.slice (some ⟨g7, 0, none⟩) (L.length + 1) cap7) (L.length + 1) (wflat L ++ v.vals)) (ho : some g = some g7 ∨ g7 = W.heap.size) :
    HpAt (w7.setCell ⟨bo, 0, none⟩ (.slice (some ⟨g7, 0, none⟩) (L.length + 1) cap7)) bo base g7 cap7 (L ++ [v]) ∧ Keep (fun i => i = bo ∨ i = g) w (w7.setCell ⟨bo, 0, none⟩ (.slice (some ⟨g7, 0, none⟩) (L.length + 1) cap7)) ∧ (g7 = g ∨ w.heap.size ≤ g7) := by
  have hl := h.lt
  have hg7 : g7 ≠ bo := by
    rcases ho with e | e
    · cases e; exact h.ne
    · omega
  refine ⟨⟨?_, ?_, hg7, h.hb⟩, (hK.grown hg (fun k hk _ => by cases hk; exact .inr rfl)).setCell _ _ (fun _ => .inl rfl), ?_⟩
  · rw [List.length_append]; exact heap_set_same hb 0 _
  · have e : wflat L ++ v.vals = wflat (L ++ [v]) := by rw [wflat_app, wflat_cons]; simp [wflat]
    rw [e] at hr
    rw [List.length_append]
    refine orow_same hr (fun i hi => ?_)
    obtain rfl : g7 = i := by simpa [Value.ownBlock] using hi
    exact Below.heap_setCell _ _ _ _ hg7
  · rcases ho with e | e
    · cases e; exact .inl rfl
    · exact .inr (by omega)
set_option maxHeartbeats 2000000 in
theorem qPushM (bo base g cap : Nat) (L : List Wy) (v : Wy) (w : World) (h : HpAt w bo base g cap L) (hz : L.length ≤ 100000) :
    Calls Tryz.prog 284 #[.pointer (some ⟨bo, 0, none⟩), .iface 237 v.agg] w fun e w' => ∃ g' cap', e = .returned (.tuple #[]) ∧ HpAt w' bo base g' cap' (L ++ [v]) ∧ Keep (fun i => i = bo ∨ i = g) w w' ∧ (g' = g ∨ w.heap.size ≤ g') := by
  obtain ⟨ti, i1, i2, i3, i4⟩ := info_way
  have hta := wassert v
  have hlt := h.lt
  have hbs := h.hb
  have c0 := h.c0
  have fr : ∀ o, w.frozen? ⟨bo, o, none⟩ = false := frozen_of_block h.box
  have HH : Hid (HpAt w bo base g cap L) := h
  have Hrow : Hid (w.ownsRow base 237 10 (.slice (some ⟨g, 0, none⟩) L.length cap) L.length (wflat L)) := h.row
  clear h
  go_enter Tryz.func284, Tryz.ntmps284
  go_wp2_with fail
  go_region_law (refine step_append_lies _ (by rfl) (.tmp 7) (.tmp 10) 240 (by rfl) base 237 ti _ 10 72 Tryz.underlying240 i1 i2 i3 i4 rfl (by decide) (.slice (some ⟨g, 0, none⟩) L.length cap) L.length (wflat L) (by simp [Act.eval]) (orow_same Hrow.out (fun i hi => Below.heap_alloc w _ _ (Hrow.out.lt i hi).2)) ⟨w.heap.size, 0, none⟩ 1 1 v.vals (by simp [Act.eval]) rfl (World.news_of_block (heap_new w _)) (wvals_one v) (by decide) (by unfold maxLen; omega) (by omega) (by simp; omega) _ rfl ?_; intro g7 cap7 w7 hr7 hg7 ho7 hl7; have hbk : w7.heap[bo]? = some (.cells #[.slice (some ⟨g, 0, none⟩) L.length cap] 240) := (hg7.block _ (by simp; omega) (fun e => HH.out.ne (by simpa [Value.ownBlock] using e.symm))).trans ((Below.heap_alloc w _ _ hlt).trans HH.out.box); have c7 : w7.cell? ⟨bo, 0, none⟩ = some (.slice (some ⟨g, 0, none⟩) L.length cap) := cell_of_block hbk 0; have f7 : w7.frozen? ⟨bo, 0, none⟩ = false := frozen_of_block hbk 0)
  all_goals
    obtain ⟨T8, K8, O8⟩ := hp_push (W := (w.alloc (.cells #[.string ⟨v.b.toArray⟩, .int .i64 v.k, .int .i64 v.e.x, .int .i64 v.e.y, .bool v.e.pend, .int .i64 v.e.pen.f, .int .i64 v.e.pen.b, .bool v.e.pen.bo, .bool v.e.pen.un, .bool v.e.pen.re] 237)).drew) HH.out (by simp) hbk ((Keep.refl _ w).alloc _).drew hg7 hr7 ho7
    have HT8 : Hid (HpAt (w7.setCell ⟨bo, 0, none⟩ (.slice (some ⟨g7, 0, none⟩) (L.length + 1) cap7)) bo base g7 cap7 (L ++ [v])) := T8
    have HK8 : Hid (Keep (fun i => i = bo ∨ i = g) w (w7.setCell ⟨bo, 0, none⟩ (.slice (some ⟨g7, 0, none⟩) (L.length + 1) cap7))) := K8
    have HO8 : Hid (g7 = g ∨ w.heap.size ≤ g7) := O8
    clear T8 K8 O8 hg7 hr7 ho7
    go_wp2_with fail
    go_end0
    exact ⟨g7, cap7, rfl, HT8.out, HK8.out, HO8.out⟩
end Go.Proofs.YtjlfibhbfdckpaaGreatDoor

/- Flush: the methods of ways, through an interface. -/
namespace Go.Proofs.YtjlfibhbfdckpaaGreatDoor
open Go.RowKit
attribute [local go_sem ↓] Go.wp_at_zero Go.wp_at_succ
abbrev hpV (bo : Nat) : Value := .iface 238 (.pointer (some ⟨bo, 0, none⟩))
theorem mfind_Len : ((Tryz.prog.info? 238).bind (fun i => i.methods.find? (·.name == "Len"))).map (fun m => (m.path.toList, m.func)) = some ([], some (281, false)) := by kernel_rfl
theorem mfind_Less : ((Tryz.prog.info? 238).bind (fun i => i.methods.find? (·.name == "Less"))).map (fun m => (m.path.toList, m.func)) = some ([], some (282, false)) := by kernel_rfl
theorem mfind_Swap : ((Tryz.prog.info? 238).bind (fun i => i.methods.find? (·.name == "Swap"))).map (fun m => (m.path.toList, m.func)) = some ([], some (285, false)) := by kernel_rfl
theorem method_val {name : String} {f : Nat} (hm : ((Tryz.prog.info? 238).bind (fun i => i.methods.find? (·.name == name))).map (fun m => (m.path.toList, m.func)) = some ([], some (f, false))) {w : World} {bo : Nat} {a : Option Addr} {n c : Nat} (hc : w.cell? ⟨bo, 0, none⟩ = some (.slice a n c)) (fuel : Nat) :
    (method (fuel + 1) 238 (.pointer (some ⟨bo, 0, none⟩)) name).run Tryz.prog w = .ok (f, .slice a n c) w := by
  cases hi : Tryz.prog.info? 238 with
  | none => rw [hi] at hm; simp at hm
  | some i =>
    rw [hi] at hm
    simp only [Option.bind_some] at hm
    cases hf : i.methods.find? (·.name == name) with
    | none => rw [hf] at hm; simp at hm
    | some m =>
      rw [hf] at hm
      simp at hm
      obtain ⟨h1, h2⟩ := hm
      have hu := Tryz.underlying238
      unfold method
      simp [Sem.run_bind, typeInfo, hi, hf, h1, h2, follow, receiverAt, run_underlying hu, Place.get, Sem.run_pure]
      have e : Sem.run Tryz.prog (Builtin.ssaWrapNilChk_ #[238] 238 #[Value.pointer (some { block := bo, off := 0 }), strVal "", strVal ((name.splitOn ".").getLast?.getD name)]) w = .ok (.pointer (some ⟨bo, 0, none⟩)) w := rfl
      rw [e]
      go_simp
end Go.Proofs.YtjlfibhbfdckpaaGreatDoor

/- Flush: the heap: down. -/
namespace Go.Proofs.YtjlfibhbfdckpaaGreatDoor
open Go.RowKit
attribute [local go_sem ↓] Go.wp_at_zero Go.wp_at_succ
/-- The methods, as the walk meets them. -/
theorem HpAt.mLen {w : World} {bo base g cap : Nat} {L : List Wy} (h : HpAt w bo base g cap L) : Sem.run Tryz.prog (method 404 238 (.pointer (some ⟨bo, 0, none⟩)) "Len") w = .ok (281, .slice (some ⟨g, 0, none⟩) L.length cap) w := method_val mfind_Len h.c0 403
theorem HpAt.mLess {w : World} {bo base g cap : Nat} {L : List Wy} (h : HpAt w bo base g cap L) : Sem.run Tryz.prog (method 404 238 (.pointer (some ⟨bo, 0, none⟩)) "Less") w = .ok (282, .slice (some ⟨g, 0, none⟩) L.length cap) w := method_val mfind_Less h.c0 403
theorem HpAt.mSwap {w : World} {bo base g cap : Nat} {L : List Wy} (h : HpAt w bo base g cap L) : Sem.run Tryz.prog (method 404 238 (.pointer (some ⟨bo, 0, none⟩)) "Swap") w = .ok (285, .slice (some ⟨g, 0, none⟩) L.length cap) w := method_val mfind_Swap h.c0 403
theorem HpAt.swap {w w' : World} {bo base g cap i j : Nat} {L : List Wy} (h : HpAt w bo base g cap L) (hr : WRow w' base g L.length cap (swL L i j)) (k : Keep (fun x => x = g) w w') : HpAt w' bo base g cap (swL L i j) :=
  ⟨by rw [sw_len]; exact (k.block _ h.lt (fun e => h.ne e.symm)).trans h.box, by rw [sw_len]; exact hr, h.ne, h.hb⟩
theorem HpAt.drewN {w : World} {bo base g cap : Nat} {L : List Wy} (h : HpAt w bo base g cap L) (n : Nat) : HpAt (w.drewN n) bo base g cap L := h.same rfl rfl
section
variable {W : World} {bo base g cap : Nat} {K : List Wy} {A B : Int}
theorem lessT (h : HpAt W bo base g cap K) (a b : Nat) (hA : A = a) (hB : B = b) (ha : a < K.length) (hb : b < K.length) (hl : (gW K a).b.length < (gW K b).b.length) :
    Calls Tryz.prog 282 #[.slice (some ⟨g, 0, none⟩) K.length cap, .int .i64 A, .int .i64 B] W fun e w' => e = .returned (.bool true) ∧ ∃ q, w' = W.drewN q := by
  subst hA hB
  have := qLess g cap base K.length K a b W h.row ha hb
  rw [decide_eq_true hl] at this
  exact this
theorem lessF (h : HpAt W bo base g cap K) (a b : Nat) (hA : A = a) (hB : B = b) (ha : a < K.length) (hb : b < K.length) (hl : ¬ (gW K a).b.length < (gW K b).b.length) :
    Calls Tryz.prog 282 #[.slice (some ⟨g, 0, none⟩) K.length cap, .int .i64 A, .int .i64 B] W fun e w' => e = .returned (.bool false) ∧ ∃ q, w' = W.drewN q := by
  subst hA hB
  have := qLess g cap base K.length K a b W h.row ha hb
  rw [decide_eq_false hl] at this
  exact this
theorem swapAt (h : HpAt W bo base g cap K) (a b : Nat) (hA : A = a) (hB : B = b) (ha : a < K.length) (hb : b < K.length) :
    Calls Tryz.prog 285 #[.slice (some ⟨g, 0, none⟩) K.length cap, .int .i64 A, .int .i64 B] W fun e w' => e = .returned (.tuple #[]) ∧ HpAt w' bo base g cap (swL K a b) ∧ Keep (fun x => x = g) W w' := by
  subst hA hB
  refine (qSwap g cap base K.length K a b W h.row ha hb).mono ?_
  rintro e w' ⟨he, hr, hk⟩
  exact ⟨he, h.swap hr hk, hk⟩
end
theorem down_stop {K : List Wy} {i n : Nat} (h : ¬ (2 * i + 1 < n ∧ (gW K (lessC K i n)).b.length < (gW K i).b.length)) : downL K i n = K := by rw [downL, dif_neg h]
theorem down_go {K : List Wy} {i n : Nat} (h : 2 * i + 1 < n ∧ (gW K (lessC K i n)).b.length < (gW K i).b.length) : downL K i n = downL (swL K i (lessC K i n)) (lessC K i n) n := by rw [downL, dif_pos h]
def DnPost (bo base g cap : Nat) (L : List Wy) (w : World) (e : Ending) (w' : World) : Prop := (∃ b, e = .returned (.bool b)) ∧ HpAt w' bo base g cap L ∧ Keep (fun x => x = g) w w'
set_option maxHeartbeats 4000000 in
set_option maxRecDepth 100000 in
theorem qDown (bo base g cap n : Nat) (L : List Wy) (w : World) (h : HpAt w bo base g cap L) (hn : n ≤ L.length) (hz : L.length ≤ 100000) :
    Calls Tryz.prog 237 #[hpV bo, .int .i64 0, .int .i64 n] w (DnPost bo base g cap (downL L 0 n) w) := by
  have HH : Hid (HpAt w bo base g cap L) := h
  clear h
  go_enter Tryz.func237, Tryz.ntmps237
  go_wp2_with fail
  go_loopw [7] (fun vi wr => ∃ (i : Nat) (K : List Wy), vi = .int .i64 i ∧ i ≤ n ∧ HpAt wr bo base g cap K ∧ K.length = L.length ∧ downL K i n = downL L 0 n ∧ Keep (fun x => x = g) w wr) (fun vi _ => n - (intOf vi).toNat)
  case atStart => exact ⟨0, L, rfl, Nat.zero_le _, HH.out, rfl, rfl, Keep.refl _ _⟩
  case round =>
    obtain ⟨i, K, rfl, hin, hK, hlen, hdn, hkp⟩ := hrel
    have HK : Hid (HpAt wr bo base g cap K) := hK
    have Hdn : Hid (downL K i n = downL L 0 n) := hdn
    have Hkp : Hid (Keep (fun x => x = g) w wr) := hkp
    have Hlen : Hid (K.length = L.length) := hlen
    have hl1 : K.length ≤ 100000 := by omega
    have hl2 : n ≤ K.length := by omega
    clear hK hdn hkp hlen HH
    by_cases c1 : 2 * i + 1 < n
    · have ml := HK.out.mLess
      by_cases c2 : 2 * i + 2 < n
      · have c2' : (2 * (i : Int) + 1 + 1 < (n : Int)) := by omega
        by_cases l2 : (gW K (2 * i + 2)).b.length < (gW K (2 * i + 1)).b.length
        · have HJ : Hid (lessC K i n = 2 * i + 2) := by show lessC K i n = _; unfold lessC; rw [if_pos ⟨c2, l2⟩]
          have Hl2 : Hid ((gW K (2 * i + 2)).b.length < (gW K (2 * i + 1)).b.length) := l2
          clear l2
          go_wp2_with fail
          go_at_call 282
          refine (lessT HK.out (2 * i + 2) (2 * i + 1) (by omega) (by omega) (by omega) (by omega) Hl2.out).mono ?_
          rintro e w1 ⟨rfl, q1, rfl⟩
          have ml2 := (HK.out.drewN q1).mLess
          by_cases l3 : (gW K (2 * i + 2)).b.length < (gW K i).b.length
          · have Hl3 : Hid ((gW K (2 * i + 2)).b.length < (gW K i).b.length) := l3
            clear l3
            go_wp2_with fail
            go_at_call 282
            refine (lessT (HK.out.drewN q1) (2 * i + 2) i (by omega) rfl (by omega) (by omega) Hl3.out).mono ?_
            rintro e w2 ⟨rfl, q2, rfl⟩
            have ms := (HK.out.drewN (q1 + q2)).mSwap
            go_wp2_with fail
            go_at_call 285
            refine (swapAt (HK.out.drewN (q1 + q2)) i (2 * i + 2) rfl (by omega) (by omega) (by omega)).mono ?_
            rintro e w3 ⟨rfl, h3, k3⟩
            have H3 : Hid (HpAt w3 bo base g cap (swL K i (2 * i + 2))) := h3
            have K3 : Hid (Keep (fun x => x = g) w w3) := (Hkp.out.drewN (q1 + q2)).trans k3 (fun _ _ e => e)
            clear h3 k3
            go_wp2_with fail
            go_roundw
            case rel => exact ⟨2 * i + 2, swL K i (2 * i + 2), by go_num, by omega, H3.out, by rw [sw_len]; exact Hlen.out, by rw [← Hdn.out, down_go ⟨c1, by rw [HJ.out]; exact Hl3.out⟩, HJ.out], K3.out⟩
            case measure => simp [intOf]; omega
          · have Hl3 : Hid (¬ (gW K (2 * i + 2)).b.length < (gW K i).b.length) := l3
            clear l3
            go_wp2_with fail
            go_at_call 282
            refine (lessF (HK.out.drewN q1) (2 * i + 2) i (by omega) rfl (by omega) (by omega) Hl3.out).mono ?_
            rintro e w2 ⟨rfl, q2, rfl⟩
            go_wp2_with fail
            go_ret
            refine ⟨⟨_, rfl⟩, ?_, Hkp.out.drewN (q1 + q2)⟩
            rw [← Hdn.out, down_stop (fun q => Hl3.out (by have := q.2; rw [HJ.out] at this; exact this))]
            exact HK.out.drewN (q1 + q2)
        · have HJ : Hid (lessC K i n = 2 * i + 1) := by show lessC K i n = _; unfold lessC; rw [if_neg (fun q => l2 q.2)]
          have Hl2 : Hid (¬ (gW K (2 * i + 2)).b.length < (gW K (2 * i + 1)).b.length) := l2
          clear l2
          go_wp2_with fail
          go_at_call 282
          refine (lessF HK.out (2 * i + 2) (2 * i + 1) (by omega) (by omega) (by omega) (by omega) Hl2.out).mono ?_
          rintro e w1 ⟨rfl, q1, rfl⟩
          have ml2 := (HK.out.drewN q1).mLess
          by_cases l3 : (gW K (2 * i + 1)).b.length < (gW K i).b.length
          · have Hl3 : Hid ((gW K (2 * i + 1)).b.length < (gW K i).b.length) := l3
            clear l3
            go_wp2_with fail
            go_at_call 282
            refine (lessT (HK.out.drewN q1) (2 * i + 1) i (by omega) rfl (by omega) (by omega) Hl3.out).mono ?_
            rintro e w2 ⟨rfl, q2, rfl⟩
            have ms := (HK.out.drewN (q1 + q2)).mSwap
            go_wp2_with fail
            go_at_call 285
            refine (swapAt (HK.out.drewN (q1 + q2)) i (2 * i + 1) rfl (by omega) (by omega) (by omega)).mono ?_
            rintro e w3 ⟨rfl, h3, k3⟩
            have H3 : Hid (HpAt w3 bo base g cap (swL K i (2 * i + 1))) := h3
            have K3 : Hid (Keep (fun x => x = g) w w3) := (Hkp.out.drewN (q1 + q2)).trans k3 (fun _ _ e => e)
            clear h3 k3
            go_wp2_with fail
            go_roundw
            case rel => exact ⟨2 * i + 1, swL K i (2 * i + 1), by go_num, by omega, H3.out, by rw [sw_len]; exact Hlen.out, by rw [← Hdn.out, down_go ⟨c1, by rw [HJ.out]; exact Hl3.out⟩, HJ.out], K3.out⟩
            case measure => simp [intOf]; omega
          · have Hl3 : Hid (¬ (gW K (2 * i + 1)).b.length < (gW K i).b.length) := l3
            clear l3
            go_wp2_with fail
            go_at_call 282
            refine (lessF (HK.out.drewN q1) (2 * i + 1) i (by omega) rfl (by omega) (by omega) Hl3.out).mono ?_
            rintro e w2 ⟨rfl, q2, rfl⟩
            go_wp2_with fail
            go_ret
            refine ⟨⟨_, rfl⟩, ?_, Hkp.out.drewN (q1 + q2)⟩
            rw [← Hdn.out, down_stop (fun q => Hl3.out (by have := q.2; rw [HJ.out] at this; exact this))]
            exact HK.out.drewN (q1 + q2)
      · have c2' : ¬ (2 * (i : Int) + 1 + 1 < (n : Int)) := by omega
        have HJ : Hid (lessC K i n = 2 * i + 1) := by show lessC K i n = _; unfold lessC; rw [if_neg (fun q => c2 q.1)]
        by_cases l3 : (gW K (2 * i + 1)).b.length < (gW K i).b.length
        · have Hl3 : Hid ((gW K (2 * i + 1)).b.length < (gW K i).b.length) := l3
          clear l3
          go_wp2_with fail
          go_at_call 282
          refine (lessT HK.out (2 * i + 1) i (by omega) rfl (by omega) (by omega) Hl3.out).mono ?_
          rintro e w2 ⟨rfl, q2, rfl⟩
          have ms := (HK.out.drewN q2).mSwap
          go_wp2_with fail
          go_at_call 285
          refine (swapAt (HK.out.drewN q2) i (2 * i + 1) rfl (by omega) (by omega) (by omega)).mono ?_
          rintro e w3 ⟨rfl, h3, k3⟩
          have H3 : Hid (HpAt w3 bo base g cap (swL K i (2 * i + 1))) := h3
          have K3 : Hid (Keep (fun x => x = g) w w3) := (Hkp.out.drewN q2).trans k3 (fun _ _ e => e)
          clear h3 k3
          go_wp2_with fail
          go_roundw
          case rel => exact ⟨2 * i + 1, swL K i (2 * i + 1), by go_num, by omega, H3.out, by rw [sw_len]; exact Hlen.out, by rw [← Hdn.out, down_go ⟨c1, by rw [HJ.out]; exact Hl3.out⟩, HJ.out], K3.out⟩
          case measure => simp [intOf]; omega
        · have Hl3 : Hid (¬ (gW K (2 * i + 1)).b.length < (gW K i).b.length) := l3
          clear l3
          go_wp2_with fail
          go_at_call 282
          refine (lessF HK.out (2 * i + 1) i (by omega) rfl (by omega) (by omega) Hl3.out).mono ?_
          rintro e w2 ⟨rfl, q2, rfl⟩
          go_wp2_with fail
          go_ret
          refine ⟨⟨_, rfl⟩, ?_, Hkp.out.drewN q2⟩
          rw [← Hdn.out, down_stop (fun q => Hl3.out (by have := q.2; rw [HJ.out] at this; exact this))]
          exact HK.out.drewN q2
    · go_wp2_with fail
      go_ret
      refine ⟨⟨_, rfl⟩, ?_, Hkp.out⟩
      rw [← Hdn.out, down_stop (fun q => c1 q.1)]
      exact HK.out
end Go.Proofs.YtjlfibhbfdckpaaGreatDoor

/- Flush: the heap: up, Pop, Push. -/
namespace Go.Proofs.YtjlfibhbfdckpaaGreatDoor
open Go.RowKit
attribute [local go_sem ↓] Go.wp_at_zero Go.wp_at_succ
theorem up_stop {K : List Wy} {j : Nat} (h : ¬ (j ≠ 0 ∧ (gW K j).b.length < (gW K ((j - 1) / 2)).b.length)) : upL K j = K := by rw [upL, dif_neg h]
theorem up_go {K : List Wy} {j : Nat} (h : j ≠ 0 ∧ (gW K j).b.length < (gW K ((j - 1) / 2)).b.length) : upL K j = upL (swL K ((j - 1) / 2) j) ((j - 1) / 2) := by rw [upL, dif_pos h]
theorem up_rel {K L : List Wy} {m j0 : Nat} (hl : (gW K (m + 1)).b.length < (gW K (m / 2)).b.length) (h : upL K (m + 1) = upL L j0) : upL (swL K (m / 2) (m + 1)) (m / 2) = upL L j0 := by
  have e : (m + 1 - 1) / 2 = m / 2 := by omega
  have := up_go (K := K) (j := m + 1) ⟨by omega, by rw [e]; exact hl⟩
  rw [e] at this
  rw [← this, h]
theorem mPop (bo : Nat) (w : World) : Sem.run Tryz.prog (method 404 238 (.pointer (some ⟨bo, 0, none⟩)) "Pop") w = .ok (283, .pointer (some ⟨bo, 0, none⟩)) w := by kernel_rfl
theorem mPush (bo : Nat) (w : World) : Sem.run Tryz.prog (method 404 238 (.pointer (some ⟨bo, 0, none⟩)) "Push") w = .ok (284, .pointer (some ⟨bo, 0, none⟩)) w := by kernel_rfl
set_option maxHeartbeats 4000000 in
set_option maxRecDepth 100000 in
theorem qUp (bo base g cap j0 : Nat) (L : List Wy) (w : World) (h : HpAt w bo base g cap L) (hj : j0 < L.length) (hz : L.length ≤ 100000) :
    Calls Tryz.prog 242 #[hpV bo, .int .i64 j0] w fun e w' => e = .returned (.tuple #[]) ∧ HpAt w' bo base g cap (upL L j0) ∧ Keep (fun x => x = g) w w' := by
  have HH : Hid (HpAt w bo base g cap L) := h
  clear h
  go_enter Tryz.func242, Tryz.ntmps242
  go_wp2_with fail
  go_loopw [1] (fun vj wr => ∃ (j : Nat) (K : List Wy), vj = .int .i64 j ∧ j < L.length ∧ HpAt wr bo base g cap K ∧ K.length = L.length ∧ upL K j = upL L j0 ∧ Keep (fun x => x = g) w wr) (fun vj _ => (intOf vj).toNat)
  case atStart => exact ⟨j0, L, rfl, hj, HH.out, rfl, rfl, Keep.refl _ _⟩
  case round =>
    obtain ⟨j, K, rfl, hjl, hK, hlen, hup, hkp⟩ := hrel
    have HK : Hid (HpAt wr bo base g cap K) := hK
    have Hup : Hid (upL K j = upL L j0) := hup
    have Hkp : Hid (Keep (fun x => x = g) w wr) := hkp
    have Hlen : Hid (K.length = L.length) := hlen
    have hl1 : K.length ≤ 100000 := by omega
    have hl2 : j < K.length := by omega
    clear hK hup hkp hlen HH
    by_cases c1 : j = 0
    · subst c1
      go_wp2_with fail
      go_end0
      refine ⟨rfl, ?_, Hkp.out⟩
      rw [← Hup.out, up_stop (fun q => q.1 rfl)]
      exact HK.out
    · obtain ⟨m, rfl⟩ : ∃ m, j = m + 1 := ⟨j - 1, by omega⟩
      have e1 : ((m + 1 : Nat) : Int) - 1 = (m : Int) := by omega
      have ml := HK.out.mLess
      have hne : ¬ ((m : Int) / 2 = (m : Int) + 1) := by omega
      have hbe : ((m : Int) / 2 == (m : Int) + 1) = false := by simp; omega
      have e2 : (m + 1 - 1) / 2 = m / 2 := by omega
      by_cases l2 : (gW K (m + 1)).b.length < (gW K (m / 2)).b.length
      · have Hl2 : Hid ((gW K (m + 1)).b.length < (gW K (m / 2)).b.length) := l2
        clear l2 e2
        go_wp2_with fail
        go_at_call 282
        refine (lessT HK.out (m + 1) (m / 2) (by omega) (by omega) (by omega) (by omega) Hl2.out).mono ?_
        rintro e w1 ⟨rfl, q1, rfl⟩
        have ms := (HK.out.drewN q1).mSwap
        go_wp2_with fail
        go_at_call 285
        refine (swapAt (HK.out.drewN q1) (m / 2) (m + 1) (by omega) (by omega) (by omega) (by omega)).mono ?_
        rintro e w3 ⟨rfl, h3, k3⟩
        have H3 : Hid (HpAt w3 bo base g cap (swL K (m / 2) (m + 1))) := h3
        have K3 : Hid (Keep (fun x => x = g) w w3) := (Hkp.out.drewN q1).trans k3 (fun _ _ e => e)
        clear h3 k3
        go_wp2_with fail
        go_roundw
        case rel => exact ⟨m / 2, swL K (m / 2) (m + 1), by go_num, by omega, H3.out, by rw [sw_len]; exact Hlen.out, up_rel Hl2.out Hup.out, K3.out⟩
        case measure => simp [intOf]; omega
      · have Hl2 : Hid (¬ (gW K (m + 1)).b.length < (gW K (m / 2)).b.length) := l2
        have HE2 : Hid ((m + 1 - 1) / 2 = m / 2) := e2
        clear l2 e2
        go_wp2_with fail
        go_at_call 282
        refine (lessF HK.out (m + 1) (m / 2) (by omega) (by omega) (by omega) (by omega) Hl2.out).mono ?_
        rintro e w1 ⟨rfl, q1, rfl⟩
        go_wp2_with fail
        go_end0
        refine ⟨rfl, ?_, Hkp.out.drewN q1⟩
        rw [← Hup.out, up_stop (fun q => Hl2.out (by have := q.2; rw [HE2.out] at this; exact this))]
        exact HK.out.drewN q1
set_option maxHeartbeats 2000000 in
set_option maxRecDepth 100000 in
theorem qHPop (bo base g cap : Nat) (L : List Wy) (w : World) (h : HpAt w bo base g cap L) (hne : L ≠ []) (hz : L.length ≤ 100000) :
    Calls Tryz.prog 223 #[hpV bo] w fun e w' => e = .returned (.iface 237 (popW L).agg) ∧ HpAt w' bo base g cap (popR L) ∧ Keep (fun i => i = bo ∨ i = g) w w' := by
  have HH : Hid (HpAt w bo base g cap L) := h
  have ml := h.mLen
  have ms := h.mSwap
  have hl : 1 ≤ L.length := List.length_pos_iff.2 hne
  have mp := mPop bo
  have e1 : ((L.length - 1 : Nat) : Int) = (L.length : Int) - 1 := by omega
  have HE : Hid (((L.length - 1 : Nat) : Int) = (L.length : Int) - 1) := e1
  clear h hne e1
  go_enter Tryz.func223, Tryz.ntmps223
  go_wp2_with (go_at_call 281; refine (qLen _ _ _ _).mono ?_; rintro e w' ⟨rfl, hw'⟩; replace hw' := hw'.symm; subst hw')
  go_at_call 285
  refine (swapAt HH.out 0 (L.length - 1) (by omega) (by omega) (by omega) (by omega)).mono ?_
  rintro e w1 ⟨rfl, h1, k1⟩
  have H1 : Hid (HpAt w1 bo base g cap (swL L 0 (L.length - 1))) := h1
  have K1 : Hid (Keep (fun x => x = g) w w1) := k1
  clear h1 k1 ml ms
  go_wp2_with fail
  go_at_call 237
  have hd := qDown bo base g cap (L.length - 1) (swL L 0 (L.length - 1)) w1 H1.out (by rw [sw_len]; omega) (by rw [sw_len]; omega)
  rw [HE.out] at hd
  refine hd.mono ?_
  rintro e w2 ⟨⟨b2, rfl⟩, h2, k2⟩
  have H2 : Hid (HpAt w2 bo base g cap (popD L)) := h2
  have K2 : Hid (Keep (fun x => x = g) w w2) := K1.out.trans k2 (fun _ _ e => e)
  clear h2 k2 hd
  go_wp2_with fail
  go_at_call 283
  have hpl : (popD L).length = L.length := (popD_perm (by intro e; rw [e] at hl; simp at hl)).length_eq
  refine (qPopM bo base g cap (popD L) w2 H2.out (by omega) (by omega)).mono ?_
  rintro e w3 ⟨rfl, h3, k3⟩
  rw [hpl] at h3 ⊢
  have H3 : Hid (HpAt w3 bo base g cap (popR L)) := h3
  have K3 : Hid (Keep (fun i => i = bo ∨ i = g) w w3) := (K2.out.mono (fun i e => .inr e)).trans k3 (fun _ _ e => .inl e)
  clear h3 k3 hpl
  go_wp2_with fail
  go_ret
  exact ⟨rfl, H3.out, K3.out⟩
set_option maxHeartbeats 2000000 in
set_option maxRecDepth 100000 in
theorem qHPush (bo base g cap : Nat) (L : List Wy) (v : Wy) (w : World) (h : HpAt w bo base g cap L) (hz : L.length < 100000) :
    Calls Tryz.prog 227 #[hpV bo, .iface 237 v.agg] w fun e w' => ∃ g' cap', e = .returned (.tuple #[]) ∧ HpAt w' bo base g' cap' (pushW L v) ∧ Keep (fun i => i = bo ∨ i = g) w w' ∧ (g' = g ∨ w.heap.size ≤ g') := by
  have HH : Hid (HpAt w bo base g cap L) := h
  have mp := mPush bo
  clear h
  go_enter Tryz.func227, Tryz.ntmps227
  go_wp2_with fail
  go_at_call 284
  refine (qPushM bo base g cap L v w HH.out (by omega)).mono ?_
  rintro e w1 ⟨g1, cap1, rfl, h1, k1, o1⟩
  have H1 : Hid (HpAt w1 bo base g1 cap1 (L ++ [v])) := h1
  have K1 : Hid (Keep (fun i => i = bo ∨ i = g) w w1) := k1
  have O1 : Hid (g1 = g ∨ w.heap.size ≤ g1) := o1
  have ml := h1.mLen
  clear h1 k1 o1
  have hl : (L ++ [v]).length = L.length + 1 := by simp
  rw [hl] at ml
  go_wp2_with (go_at_call 281; refine (qLen _ _ _ _).mono ?_; rintro e w' ⟨rfl, hw'⟩; replace hw' := hw'.symm; subst hw')
  go_at_call 242
  refine (qUp bo base g1 cap1 L.length (L ++ [v]) _ H1.out (by omega) (by omega)).mono ?_
  rintro e w2 ⟨rfl, h2, k2⟩
  have H2 : Hid (HpAt w2 bo base g1 cap1 (pushW L v)) := h2
  have K2 : Hid (Keep (fun i => i = bo ∨ i = g) w w2) := K1.out.trans k2 (fun i hi e => by
    rcases O1.out with q | q
    · exact .inr (e.trans q)
    · omega)
  clear h2 k2
  go_wp2_with fail
  go_end0
  exact ⟨g1, cap1, rfl, H2.out, K2.out, O1.out⟩
end Go.Proofs.YtjlfibhbfdckpaaGreatDoor
