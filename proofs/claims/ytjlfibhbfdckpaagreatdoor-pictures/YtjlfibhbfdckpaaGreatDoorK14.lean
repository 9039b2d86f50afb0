/- Texts of the proof, one behind the other: DkS. -/
import Derived.Test.YtjlfibhbfdckpaaGreatDoorK13
/- The program's desk: seen, half, Cell. -/
namespace Go.Proofs.YtjlfibhbfdckpaaGreatDoor
open Go.RowKit
attribute [local go_sem ↓] Go.wp_at_zero Go.wp_at_succ
open Classical in
noncomputable def rkOf (M : Mm) (L : List Wn) (rk : Int → Nat) (K : Nat) (p : Value) : Nat := if h : ∃ v ∈ L, p = M.ptr v.n then K - rk h.choose.n else 0
theorem DkAt.b_inj {w : World} {M : Mm} {L : List Wn} {last : Int} {N : Nat} {s : Rs} {t : Pt} (h : DkAt w M L last N s t) {u v : Wn} (hu : u ∈ L) (hv : v ∈ L) (e : M.b u.n = M.b v.n) : u.n = v.n := by
  have := h.inj (.win u.n 0) (.win v.n 0) (M.b u.n) ⟨by omega, u, hu, rfl⟩ ⟨by omega, v, hv, rfl⟩ rfl (by rw [e]; rfl)
  injection this
theorem rkOf_at {w : World} {M : Mm} {L : List Wn} {last : Int} {N : Nat} {s : Rs} {t : Pt} (h : DkAt w M L last N s t) (rk : Int → Nat) (K : Nat) {v : Wn} (hv : v ∈ L) : rkOf M L rk K (M.ptr v.n) = K - rk v.n := by
  have hex : ∃ u ∈ L, M.ptr v.n = M.ptr u.n := ⟨v, hv, rfl⟩
  unfold rkOf
  rw [dif_pos hex]
  obtain ⟨h1, h2⟩ := hex.choose_spec
  have e : M.b v.n = M.b hex.choose.n := by simpa using h2
  have := h.b_inj hv h1 e
  exact congrArg (fun n => K - rk n) this.symm
set_option maxHeartbeats 2000000 in
theorem dSeen {M : Mm} {L : List Wn} {last : Int} {N : Nat} {s : Rs} {t : Pt} {rk : Int → Nat} {K : Nat} (T : Tree L rk K) (ok : DOk L last) (w : World) (h : DkAt w M L last N s t) (r : Wn) (hr : r ∈ L) (hr0 : r.n = 0) (x y : Nat) (hx : x < r.W) (hy : y < r.H) :
    Calls Tryz.prog 104 #[.pointer (some ⟨M.t 1, 0, none⟩), .int .i64 x, .int .i64 y] w fun e w' => ∃ (v : Wn) (a b : Nat), v ∈ L ∧ a < v.W ∧ b < v.H ∧ ownP L K r x y = (v, (a : Int), (b : Int)) ∧ e = .returned (.tuple #[M.ptr v.n, (v.G a b).agg]) ∧ Below w.heap.size w w' := by
  have HD : Hid (DkAt w M L last N s t) := h
  have HT : Hid (Tree L rk K) := T
  have Hok : Hid (DOk L last) := ok
  have d0 := h.d0
  have d0' : ∀ o, (w.alloc o).cell? ⟨M.t 1, 0, none⟩ = some (M.ptr 0) := fun o => by rw [((Below.refl w.heap.size w).alloc (Nat.le_refl _) o).cell (p := ⟨M.t 1, 0, none⟩) (h.lt (own_top M L 1 (by omega)))]; exact d0
  have Hr0 : Hid (M.ptr 0 = M.ptr r.n) := by rw [hr0]; rfl
  clear h T ok
  go_enter Tryz.func104, Tryz.ntmps104
  go_wp2_with fail
  have hb0 : Below w.heap.size w (w.alloc (.cells #[.int .i32 0, .int .i64 0, .int .i64 0, .int .i64 0, .bool false, .bool false, .bool false] 38)) := (Below.refl _ _).alloc (Nat.le_refl _) _
  have hc0 : CelAt (w.alloc (.cells #[.int .i32 0, .int .i64 0, .int .i64 0, .int .i64 0, .bool false, .bool false, .bool false] 38)) w.heap.size 0 ⟨0, 0, Pn.plain⟩ := by
    have := heap_new w (.cells #[.int .i32 0, .int .i64 0, .int .i64 0, .int .i64 0, .bool false, .bool false, .bool false] 38)
    refine ⟨?_, ?_, ?_, ?_, ?_, ?_, ?_⟩ <;> rw [cell_of_block this] <;> rfl
  have hf0 := frozen_of_block (heap_new w (.cells #[.int .i32 0, .int .i64 0, .int .i64 0, .int .i64 0, .bool false, .bool false, .bool false] 38))
  go_loopw [8, 1, 2] (fun p sx sy wr => ∃ (v : Wn) (a b f : Nat), v ∈ L ∧ a < v.W ∧ b < v.H ∧ K ≤ rk v.n + f ∧ p = M.ptr v.n ∧ sx = .int .i64 a ∧ sy = .int .i64 b ∧ ownP L f v a b = ownP L K r x y ∧ Below w.heap.size w wr ∧ CelAt wr w.heap.size 0 ⟨0, 0, Pn.plain⟩ ∧ (∀ o, wr.frozen? ⟨w.heap.size, o, none⟩ = false)) (fun p _ _ _ => rkOf M L rk K p)
  case atStart => exact ⟨r, x, y, K, hr, hx, hy, by omega, Hr0.out, rfl, rfl, rfl, hb0, hc0, hf0⟩
  case round =>
    obtain ⟨v, a, b, f, hv, ha, hb, hk, rfl, rfl, rfl, ho, hB, hC, hF⟩ := hrel
    have D1 : DkAt wr M L last N s t := HD.out.below hB
    have HD1 : Hid (DkAt wr M L last N s t) := D1
    have hV := D1.win v hv
    have hw2 := hV.gr.w2
    have hh2 := hV.gr.h2
    have Hs := HT.out.ownSucc hv hk a b
    have hup := wUpper M v (kids L v.n) (M.b v.n) (M.c v.n) (M.g v.n) (M.pp v.par) (M.s v.n) a b wr hV (fun u hu => ⟨_, _, _, D1.win u (mem_kids.1 hu).1⟩) (fun u hu => Hok.out.pl u (mem_kids.1 hu).1) (by omega)
    change Calls _ _ _ _ (fun e w' => e = .returned (.pointer ((nextP L v.n a b).map (fun u => ⟨M.b u.n, 0, none⟩))) ∧ Below wr.heap.size wr w') at hup
    have hbl : w.heap.size < wr.heap.size := hC.lt
    cases hn : nextP L v.n a b with
    | none =>
      rw [hn] at hup Hs
      have Hup : Hid (Calls Tryz.prog 145 #[.pointer (some ⟨M.b v.n, 0, none⟩), .int .i64 a, .int .i64 b] wr fun e w' => e = .returned (.pointer none) ∧ Below wr.heap.size wr w') := hup
      have f5 := hV.f5
      have Ho : Hid (ownP L K r x y = (v, (a : Int), (b : Int))) := by rw [← ho]; exact Hs
      clear hup Hs ho D1
      go_wp2_with fail
      go_at_call 145
      refine Hup.out.mono ?_
      rintro e w2 ⟨rfl, hb2⟩
      have f5' := (hb2.cell (p := ⟨M.b v.n, 5, none⟩) hV.lt).trans f5
      have G2 := hV.gr.below hb2
      have HG2 : Hid (GrAt w2 (M.c v.n) (M.g v.n) v.W v.H (v.H * v.W) v.G) := G2
      have C2 := hC.below hb2 hbl
      have F2 := fun o => (hb2.marks hbl o).trans (hF o)
      have B2 : Below w.heap.size w w2 := hB.trans (hb2.mono hB.size)
      have HV : Hid (WinV wr v (M.b v.n) (M.c v.n) (M.g v.n) (M.pp v.par) (M.s v.n) (M.ptrs (kids L v.n))) := hV
      have hbl2 : w.heap.size < w2.heap.size := C2.lt
      clear hV f5 G2 hC hF hB hb2 Hup
      go_wp2_with fail
      go_at_call 146
      refine (pCell _ _ _ _ _ _ _ _ _ HG2.out ha hb).mono ?_
      rintro e w3 ⟨rfl, hb3⟩
      have C3 := C2.below hb3 hbl2
      have F3 := fun o => (hb3.marks hbl2 o).trans (F2 o)
      have B3 : Below w.heap.size w w3 := B2.trans (hb3.mono B2.size)
      obtain ⟨t0, t1, t2, t3, t4, t5, t6⟩ := C3
      clear C2 F2 hb3
      go_wp2_with fail
      have C4 := put7_at (c := v.G a b) (show CelAt w3 w.heap.size 0 ⟨0, 0, Pn.plain⟩ from ⟨t0, t1, t2, t3, t4, t5, t6⟩)
      have B4 : Below w.heap.size w (put7 w3 w.heap.size 0 (v.G a b)) := ((Keep.below (fun i => i = w.heap.size) B3).put7 w.heap.size 0 (v.G a b) (fun h => rfl)).toBelow (Nat.le_refl _) (fun i hi => by omega)
      change bodyPost _ _ _ _ _ (put7 w3 w.heap.size 0 (v.G a b))
      generalize put7 w3 w.heap.size 0 (v.G a b) = w4 at *
      obtain ⟨q0, q1, q2, q3, q4, q5, q6⟩ := C4
      refine bodyPost_ret (v := .tuple #[M.ptr v.n, (v.G a b).agg]) ?_ rfl ⟨v, a, b, hv, ha, hb, Ho.out, rfl, B4⟩
      simp [results, Tryz.results104, go_sem, q0, q1, q2, q3, q4, q5, q6]
    | some u =>
      obtain ⟨hu, hp, hsh, hin⟩ := nextP_some hn
      rw [hn] at hup Hs
      have Hup : Hid (Calls Tryz.prog 145 #[.pointer (some ⟨M.b v.n, 0, none⟩), .int .i64 a, .int .i64 b] wr fun e w' => e = .returned (M.ptr u.n) ∧ Below wr.heap.size wr w') := hup
      obtain ⟨i1, i2, i3, i4⟩ := inG_iff.1 hin
      obtain ⟨a', ha'⟩ := Int.eq_ofNat_of_zero_le i1
      obtain ⟨b', hb'⟩ := Int.eq_ofNat_of_zero_le i3
      have hU := D1.win u hu
      have f2 := hU.f2
      have f3 := hU.f3
      have hrk := (HT.out.up u hu (by have := HT.out.pos hv; omega)).2
      rw [hp] at hrk
      have hle := HT.out.le u hu
      have Hn1 : Hid (K ≤ rk u.n + (f - 1)) := by show K ≤ rk u.n + (f - 1); omega
      have Ho : Hid (ownP L (f - 1) u (a' : Int) (b' : Int) = ownP L K r x y) := by show _ = _; rw [← ho, ← ha', ← hb']; exact Hs.symm
      have Hm : Hid (rkOf M L rk K (M.ptr u.n) < rkOf M L rk K (M.ptr v.n)) := by show _ < _; rw [rkOf_at D1 rk K hu, rkOf_at D1 rk K hv]; omega
      have Hl : Hid (a' < u.W ∧ b' < u.H) := by show _ ∧ _; omega
      have la : a' ≤ 40 := by have := hU.gr.w2; omega
      have lb : b' ≤ 40 := by have := hU.gr.h2; omega
      have HU : Hid (WinV wr u (M.b u.n) (M.c u.n) (M.g u.n) (M.pp u.par) (M.s u.n) (M.ptrs (kids L u.n))) := hU
      clear hup Hs ho D1 hV hin hn i1 i2 i3 i4 hrk hle hk hU
      go_wp2_with fail
      go_at_call 145
      refine Hup.out.mono ?_
      rintro e w2 ⟨rfl, hb2⟩
      have g2 := (hb2.cell (p := ⟨M.b u.n, 2, none⟩) HU.out.lt).trans f2
      have g3 := (hb2.cell (p := ⟨M.b u.n, 3, none⟩) HU.out.lt).trans f3
      have C2 := hC.below hb2 hbl
      have F2 := fun o => (hb2.marks hbl o).trans (hF o)
      have B2 : Below w.heap.size w w2 := hB.trans (hb2.mono hB.size)
      clear f2 f3 hC hF hB hb2 Hup
      go_wp2_with fail
      go_quiet (fail)
      go_wp2_with fail
      exact ⟨⟨u, a', b', f - 1, hu, Hl.out.1, Hl.out.2, Hn1.out, rfl, rfl, rfl, Ho.out, B2.trans (below_any _ w2 nq), C2, F2⟩, Hm.out⟩
theorem dHas {M : Mm} {L : List Wn} {last : Int} {N : Nat} {s : Rs} {t : Pt} (w : World) (h : DkAt w M L last N s t) (r : Wn) (hr : r ∈ L) (hr0 : r.n = 0) (x y : Int) :
    Calls Tryz.prog 42 #[.pointer (some ⟨M.t 1, 0, none⟩), .int .i64 x, .int .i64 y] w fun e w' => e = .returned (.bool (inG r.W r.H x y)) ∧ w' = w := by
  have hV := h.win r hr
  rw [hr0] at hV
  have d0 := h.d0
  have f5 := hV.f5
  have HG : Hid (GrAt w (M.c 0) (M.g 0) r.W r.H (r.H * r.W) r.G) := hV.gr
  clear hV h
  go_enter Tryz.func42, Tryz.ntmps42
  go_wp2_with (first | (go_at_call 103; refine (pHas _ _ _ _ _ _ _ _ _ HG.out).mono ?_; rintro e w' ⟨rfl, hw'⟩; replace hw' := hw'.symm; subst hw'))
  go_ret
  exact ⟨rfl, rfl⟩
end Go.Proofs.YtjlfibhbfdckpaaGreatDoor
