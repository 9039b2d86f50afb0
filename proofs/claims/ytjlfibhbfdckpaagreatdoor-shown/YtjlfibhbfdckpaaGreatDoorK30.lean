/- Texts of the proof, one behind the other: FwR. -/
import Derived.Test.YtjlfibhbfdckpaaGreatDoorK29
/- Flush: route: what lies in memory in its loop. -/
namespace Go.Proofs.YtjlfibhbfdckpaaGreatDoor
open Go.RowKit Go.Maps
open Wd (wd)
attribute [local go_sem ↓] Go.wp_at_zero Go.wp_at_succ
/-- A way is written into a block of its own. -/
abbrev putW (w : World) (D : Nat) (v : Wy) : World := ((((((((((w.setCell ⟨D, 0, none⟩ (.string ⟨v.b.toArray⟩)).setCell ⟨D, 1, none⟩ (.int .i64 v.k)).setCell ⟨D, 2, none⟩ (.int .i64 v.e.x)).setCell ⟨D, 3, none⟩ (.int .i64 v.e.y)).setCell ⟨D, 4, none⟩ (.bool v.e.pend)).setCell ⟨D, 5, none⟩ (.int .i64 v.e.pen.f)).setCell ⟨D, 6, none⟩ (.int .i64 v.e.pen.b)).setCell ⟨D, 7, none⟩ (.bool v.e.pen.bo)).setCell ⟨D, 8, none⟩ (.bool v.e.pen.un)).setCell ⟨D, 9, none⟩ (.bool v.e.pen.re))
theorem set10 (a0 a1 a2 a3 a4 a5 a6 a7 a8 a9 x0 x1 x2 x3 x4 x5 x6 x7 x8 x9 : Value) : ((((((((((#[a0, a1, a2, a3, a4, a5, a6, a7, a8, a9] : Array Value).setIfInBounds 0 x0).setIfInBounds 1 x1).setIfInBounds 2 x2).setIfInBounds 3 x3).setIfInBounds 4 x4).setIfInBounds 5 x5).setIfInBounds 6 x6).setIfInBounds 7 x7).setIfInBounds 8 x8).setIfInBounds 9 x9 = #[x0, x1, x2, x3, x4, x5, x6, x7, x8, x9] := by simp
theorem putW_heap {w : World} {D : Nat} {a0 a1 a2 a3 a4 a5 a6 a7 a8 a9 : Value} {T : TypeId} (v : Wy) (h : w.heap[D]? = some (.cells #[a0, a1, a2, a3, a4, a5, a6, a7, a8, a9] T)) : (putW w D v).heap[D]? = some (.cells (wyArr v) T) := by
  have h8 := heap_set_same (heap_set_same (heap_set_same (heap_set_same (heap_set_same (heap_set_same (heap_set_same (heap_set_same (heap_set_same (heap_set_same h 0 (.string ⟨v.b.toArray⟩)) 1 (.int .i64 v.k)) 2 (.int .i64 v.e.x)) 3 (.int .i64 v.e.y)) 4 (.bool v.e.pend)) 5 (.int .i64 v.e.pen.f)) 6 (.int .i64 v.e.pen.b)) 7 (.bool v.e.pen.bo)) 8 (.bool v.e.pen.un)) 9 (.bool v.e.pen.re)
  rw [set10] at h8
  exact h8
theorem putW_keep {F : Nat → Prop} {a w : World} (h : Keep F a w) (D : Nat) (v : Wy) (hF : D < a.heap.size → F D) : Keep F a (putW w D v) :=
  (((((((((h.setCell ⟨D, 0, none⟩ _ hF).setCell ⟨D, 1, none⟩ _ hF).setCell ⟨D, 2, none⟩ _ hF).setCell ⟨D, 3, none⟩ _ hF).setCell ⟨D, 4, none⟩ _ hF).setCell ⟨D, 5, none⟩ _ hF).setCell ⟨D, 6, none⟩ _ hF).setCell ⟨D, 7, none⟩ _ hF).setCell ⟨D, 8, none⟩ _ hF).setCell ⟨D, 9, none⟩ _ hF
theorem HpAt.gb {w : World} {bo base g cap : Nat} {L : List Wy} (h : HpAt w bo base g cap L) : base ≤ g := by
  obtain ⟨_, _, _, _, _, q⟩ := wrow_cur h.row
  exact q
/-- The memory of route's loop. -/
structure RtAt (w0 w : World) (gl : Gl) (p0 : Sp) (M P D base bo bm g cap : Nat) (kn : List Sp) (o : List Wy) : Prop where
  hM : w.heap[M]? = some (.cells (glArr gl) 211)
  hP : w.heap[P]? = some (.cells (spArr p0) 235)
  hD : w.heap[D]? = some (.cells (wyArr (straightW gl)) 237)
  mb : M < base
  pb : P < base
  db : D < base
  wb : w0.heap.size ≤ base
  hp : HpAt w bo base g cap o
  bb : base ≤ bm
  no : bm ≠ bo
  ng : bm ≠ g
  set : w.ownsMap Tryz.prog 235 unitElem bm kn.length (spSet kn)
  bel : Below w0.heap.size w0 w
section
variable {w0 w w' : World} {gl : Gl} {p0 : Sp} {M P D base bo bm g cap : Nat} {kn : List Sp} {o : List Wy}
theorem RtAt.ml (h : RtAt w0 w gl p0 M P D base bo bm g cap kn o) : bm < w.heap.size := by
  obtain ⟨es, c, hb, _⟩ := h.set
  exact (Array.getElem?_eq_some_iff.1 hb).1
theorem RtAt.bl (h : RtAt w0 w gl p0 M P D base bo bm g cap kn o) : base ≤ w.heap.size := Nat.le_trans h.bb (Nat.le_of_lt h.ml)
theorem omap_same {D' : DataW Unit} {n : Nat} (h : w.ownsMap Tryz.prog 235 unitElem bm n D') (e : w'.heap[bm]? = w.heap[bm]?) : w'.ownsMap Tryz.prog 235 unitElem bm n D' := by
  obtain ⟨es, c, hb, r⟩ := h
  exact ⟨es, c, e.trans hb, r⟩
theorem RtAt.below (h : RtAt w0 w gl p0 M P D base bo bm g cap kn o) (b : Below w.heap.size w w') : RtAt w0 w' gl p0 M P D base bo bm g cap kn o :=
  have hl := h.bl
  ⟨(b.block M (Nat.lt_of_lt_of_le h.mb hl)).trans h.hM, (b.block P (Nat.lt_of_lt_of_le h.pb hl)).trans h.hP, (b.block D (Nat.lt_of_lt_of_le h.db hl)).trans h.hD, h.mb, h.pb, h.db, h.wb, h.hp.same (b.block _ h.hp.lt) (b.block _ h.hp.glt), h.bb, h.no, h.ng, omap_same h.set (b.block _ h.ml), h.bel.trans (b.mono (Nat.le_trans h.wb hl))⟩
theorem RtAt.pushed (h : RtAt w0 w gl p0 M P D base bo bm g cap kn o) {g' cap' : Nat} {o' : List Wy} (q : HpAt w' bo base g' cap' o') (k : Keep (fun i => i = bo ∨ i = g) w w') (og : g' = g ∨ w.heap.size ≤ g') : RtAt w0 w' gl p0 M P D base bo bm g' cap' kn o' := by
  have hl := h.bl
  have gb := h.hp.gb
  have ob := h.hp.hb
  have far : ∀ {i : Nat}, i < base → w'.heap[i]? = w.heap[i]? := fun {i} hi => k.block i (Nat.lt_of_lt_of_le hi hl) (by omega)
  have ml := h.ml
  refine ⟨(far h.mb).trans h.hM, (far h.pb).trans h.hP, (far h.db).trans h.hD, h.mb, h.pb, h.db, h.wb, q, h.bb, h.no, ?_, omap_same h.set (k.block bm ml ?_), ?_⟩
  · rcases og with e | e
    · rw [e]; exact h.ng
    · omega
  · rintro (e | e)
    · exact h.no e
    · exact h.ng e
  · exact h.bel.trans (k.toBelow (Nat.le_trans h.wb hl) (fun i hi => by have := h.wb; omega))
theorem RtAt.known (h : RtAt w0 w gl p0 M P D base bo bm g cap kn o) {p : Sp} (hg : w.grownBy w' (some bm)) (q : w'.ownsMap Tryz.prog 235 unitElem bm (kn.length + 1) ((spSet kn).put (spKey p) (.agg []))) : RtAt w0 w' gl p0 M P D base bo bm g cap (kn ++ [p]) o := by
  have hl := h.bl
  have bb := h.bb
  have k : Keep (fun i => i = bm) w w' := Keep.grown (Keep.refl _ w) hg (fun i e _ => by injection e with e; exact e.symm)
  have far : ∀ {i : Nat}, i < base → w'.heap[i]? = w.heap[i]? := fun {i} hi => k.block i (Nat.lt_of_lt_of_le hi hl) (by omega)
  refine ⟨(far h.mb).trans h.hM, (far h.pb).trans h.hP, (far h.db).trans h.hD, h.mb, h.pb, h.db, h.wb, h.hp.keep k (fun e => h.no e.symm) (fun e => h.ng e.symm), h.bb, h.no, h.ng, ?_, ?_⟩
  · rw [spSet_snoc, List.length_append]; exact q
  · exact h.bel.trans (k.toBelow (Nat.le_trans h.wb hl) (fun i hi => by have := h.wb; omega))
/-- The start of the loop. -/
theorem rt_start {wE : World} (hM : wE.heap[M]? = some (.cells (glArr gl) 211)) (hP : wE.heap[P]? = some (.cells (spArr p0) 235)) (hD : wE.heap[D]? = some (.cells (wyArr (straightW gl)) 237)) (hb : Below w0.heap.size w0 wE) (u v : Wy) :
    RtAt w0 (((wE.alloc (.cells #[.string ⟨u.b.toArray⟩, .int .i64 u.k, .int .i64 u.e.x, .int .i64 u.e.y, .bool u.e.pend, .int .i64 u.e.pen.f, .int .i64 u.e.pen.b, .bool u.e.pen.bo, .bool u.e.pen.un, .bool u.e.pen.re, .string ⟨v.b.toArray⟩, .int .i64 v.k, .int .i64 v.e.x, .int .i64 v.e.y, .bool v.e.pend, .int .i64 v.e.pen.f, .int .i64 v.e.pen.b, .bool v.e.pen.bo, .bool v.e.pen.un, .bool v.e.pen.re] 237)).alloc (.cells #[.slice (some ⟨wE.heap.size, 0, none⟩) 2 2] 240)).alloc (.map #[] 0)) gl p0 M P D wE.heap.size (wE.heap.size + 1) (wE.heap.size + 2) wE.heap.size 2 [] [u, v] := by
  have m1 := (Array.getElem?_eq_some_iff.1 hM).1
  have p1 := (Array.getElem?_eq_some_iff.1 hP).1
  have d1 := (Array.getElem?_eq_some_iff.1 hD).1
  obtain ⟨a1, e1⟩ : ∃ a, wE.alloc (.cells #[.string ⟨u.b.toArray⟩, .int .i64 u.k, .int .i64 u.e.x, .int .i64 u.e.y, .bool u.e.pend, .int .i64 u.e.pen.f, .int .i64 u.e.pen.b, .bool u.e.pen.bo, .bool u.e.pen.un, .bool u.e.pen.re, .string ⟨v.b.toArray⟩, .int .i64 v.k, .int .i64 v.e.x, .int .i64 v.e.y, .bool v.e.pend, .int .i64 v.e.pen.f, .int .i64 v.e.pen.b, .bool v.e.pen.bo, .bool v.e.pen.un, .bool v.e.pen.re] 237) = a := ⟨_, rfl⟩
  have z1 : a1.heap.size = wE.heap.size + 1 := by rw [← e1]; simp
  have b1 : Below wE.heap.size wE a1 := e1 ▸ (Below.refl _ _).alloc (Nat.le_refl _) _
  have r1 : WRow a1 wE.heap.size wE.heap.size 2 2 [u, v] := by
    refine ⟨by simp [wflat], .inr ⟨wE.heap.size, 2, _, rfl, Nat.le_refl _, e1 ▸ heap_new wE _, Nat.le_refl _, by unfold maxLen; omega, rfl, ?_⟩⟩
    simp [wflat, bstr]
  rw [e1]
  clear e1
  obtain ⟨a2, e2⟩ : ∃ a, a1.alloc (.cells #[.slice (some ⟨wE.heap.size, 0, none⟩) 2 2] 240) = a := ⟨_, rfl⟩
  have z2 : a2.heap.size = wE.heap.size + 2 := by rw [← e2]; simp; omega
  have b2 : Below a1.heap.size a1 a2 := e2 ▸ (Below.refl _ _).alloc (Nat.le_refl _) _
  have r2 : a2.heap[wE.heap.size + 1]? = some (.cells #[.slice (some ⟨wE.heap.size, 0, none⟩) 2 2] 240) := by rw [← e2, ← z1]; exact heap_new a1 _
  rw [e2]
  clear e2
  have b3 : Below a2.heap.size a2 (a2.alloc (.map #[] 0)) := (Below.refl _ _).alloc (Nat.le_refl _) _
  have bb : Below wE.heap.size wE (a2.alloc (.map #[] 0)) := (b1.trans (b2.mono (by omega))).trans (b3.mono (by omega))
  have mm := World.ownsMap_made a2 Tryz.prog 235 (unitElem (H := Unit))
  rw [z2] at mm
  refine ⟨(bb.block M m1).trans hM, (bb.block P p1).trans hP, (bb.block D d1).trans hD, m1, p1, d1, hb.size, ⟨(b3.block _ (by omega)).trans r2, ?_, by omega, by omega⟩, by omega, by omega, by omega, mm, hb.trans (bb.mono hb.size)⟩
  exact orow_same r1 (fun i e => by
    have e : wE.heap.size = i := by injection e
    rw [← e]
    exact (b3.block _ (by omega)).trans (b2.block _ (by omega)))
end
theorem routeN_le {s : Rs} (ok : s.Ok) : routeN s ≤ 25602 := by
  have h1 := ok.w2
  have h2 := ok.h2
  have : s.H * s.W ≤ 20 * 40 := Nat.mul_le_mul (by omega) (by omega)
  unfold routeN
  omega
theorem str_take (b : List UInt8) (k : Nat) (hk : k ≤ b.length) (w : World) : (Instr.slice 9 (.string ⟨b.toArray⟩) none (some (.int .i64 k)) none).run Tryz.prog w = .ok (.string ⟨(b.take k).toArray⟩) w := by
  refine (run_slice_string_h w 9 ⟨b.toArray⟩ Tryz.underlying9 .i64 (k : Int) (by omega) (by show (k : Int) ≤ (b.length : Int); omega)).trans ?_
  have : (⟨b.toArray⟩ : ByteArray).extract 0 (k : Int).toNat = ⟨(b.take k).toArray⟩ := by
    apply ByteArray.ext
    simp [ByteArray.data_extract]
  rw [this]
theorem str_drop (b : List UInt8) (k : Nat) (hk : k ≤ b.length) (w : World) : (Instr.slice 9 (.string ⟨b.toArray⟩) (some (.int .i64 k)) none none).run Tryz.prog w = .ok (.string ⟨(b.drop k).toArray⟩) w := by
  refine (run_slice_string_l w 9 ⟨b.toArray⟩ Tryz.underlying9 .i64 (k : Int) (by omega) (by show (k : Int) ≤ (b.length : Int); omega)).trans ?_
  have : (⟨b.toArray⟩ : ByteArray).extract (k : Int).toNat (⟨b.toArray⟩ : ByteArray).size = ⟨(b.drop k).toArray⟩ := by
    have hz : (⟨b.toArray⟩ : ByteArray).size = b.length := rfl
    apply ByteArray.ext
    rw [hz]
    simp [ByteArray.data_extract]
    exact List.take_of_length_le (by rw [List.length_drop]; omega)
  rw [this]
theorem onWay_fits {s : Rs} {gl : Gl} (fl : s.Fl) (hg : gl.In s) {p : Sp} (h : OnWay s gl p) : p.Fits := by
  have a := h.1
  have b1 := fl.ok.w2
  have b2 := fl.ok.h2
  have x0 := a.x0
  have x1 := a.x1
  have y0 := a.y0
  have y1 := a.y1
  have pn : p.pen.Ok := by
    rcases h.2 with e | e
    · rw [e]; exact fl.pen
    · rw [e]; exact hg.pen
  obtain ⟨c1, c2, c3, c4⟩ := pn
  exact fits_of ⟨by omega, by omega⟩ ⟨by omega, by omega⟩ ⟨by omega, by omega⟩ ⟨by omega, by omega⟩
theorem gW_get {L : List Wy} {j : Nat} (hj : j < L.length) : gW L j = L[j] := by simp [gW, List.getD, hj]
theorem pushAll_snoc {n : Nat} {v : Wy} {L : List Wy} {j : Nat} (o : List Wy) (hj : j < L.length) : pushAll n v (L.take (j + 1)) o = if (thenW v (gW L j)).b.length < n then pushW (pushAll n v (L.take j) o) (thenW v (gW L j)) else pushAll n v (L.take j) o := by
  unfold pushAll
  rw [List.take_succ_eq_append_getElem hj, List.foldl_append, gW_get hj]
  rfl
theorem steps_short {s : Rs} {f : Sp} {g : Gl} (ok : s.Ok) (hf : f.In s) (hg : g.In s) : ∀ st ∈ stepsW s f g, st.b.length ≤ 100 := by
  have b1 := ok.w2
  have b2 := ok.h2
  have x0 := hf.x0
  have x1 := hf.x1
  have y0 := hf.y0
  have y1 := hf.y1
  have gx0 := hg.x0
  have gx1 := hg.x1
  have gy0 := hg.y0
  have gy1 := hg.y1
  intro st hst
  unfold stepsW againW at hst
  simp only [List.mem_append, List.mem_cons, List.not_mem_nil, or_false] at hst
  rcases hst with (((h | h) | h) | h) | h
  · rcases h with h | h | h <;> subst h <;> simp
  · split at h
    · simp only [List.mem_cons, List.not_mem_nil, or_false] at h
      subst h; simp
    · cases h
  · split at h
    · cases h
    · simp only [List.mem_cons, List.not_mem_nil, or_false] at h
      subst h
      exact Nat.le_trans (along_len (by omega) (by omega) _ _) (by omega)
  · split at h
    · cases h
    · simp only [List.mem_cons, List.not_mem_nil, or_false] at h
      subst h
      exact Nat.le_trans (along_len (by omega) (by omega) _ _) (by omega)
  · split at h
    · split at h
      · cases h
      · simp only [List.mem_cons, List.not_mem_nil, or_false] at h
        subst h
        exact Nat.le_trans (enc_len _) (by omega)
    · cases h
theorem unit_zero (w : World) : (zeroValue 244).run Tryz.prog w = .ok (.agg #[]) w := by kernel_rfl
end Go.Proofs.YtjlfibhbfdckpaaGreatDoor
