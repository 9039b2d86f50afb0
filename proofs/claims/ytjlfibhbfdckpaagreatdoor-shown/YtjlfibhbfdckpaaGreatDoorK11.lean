/- Texts of the proof, one behind the other: DkG, DkH, Gr6. -/
import Derived.Test.YtjlfibhbfdckpaaGreatDoorK01
import Derived.Test.YtjlfibhbfdckpaaGreatDoorK06
import Derived.Test.YtjlfibhbfdckpaaGreatDoorK10
import Derived.Deep.RegionWith
/- The program's desk: Create. -/
namespace Go.Proofs.YtjlfibhbfdckpaaGreatDoor
open Go.RowKit
attribute [local go_sem ↓] Go.wp_at_zero Go.wp_at_succ
/-- Where all lies when a window more is there. -/
def Mm.more (M : Mm) (n p : Int) (b c g : Nat) (sp : Value) : Mm := ⟨M.t, updI' M.b n b, updI' M.c n c, updI' M.g n g, updI' (updI' M.s p sp) n (.slice none 0 0)⟩
theorem create_dk {M : Mm} {L : List Wn} {last : Int} {N : Nat} {s : Rs} {t : Pt} {w wd : World} (ok : DOk L last) (h : DkAt w M L last N s t) {v : Wn} (hv : v ∈ L) (x y : Int) (W H c g nb gs cap : Nat)
    (lc : w.heap.size ≤ c) (lg : w.heap.size ≤ g) (c1 : c < nb) (c2 : g < nb) (c3 : c ≠ g)
    (hnb : wd.heap[nb]? = some (.cells (winArr ⟨last + 1, v.n, x, y, true, W, H, fun _ _ => blk Pn.plain⟩ (some ⟨M.b v.n, 0, none⟩) c (.slice none 0 0)) 131)) (hgr : GrAt wd c g W H (H * W) (fun _ _ => blk Pn.plain))
    (hd : wd.heap[M.t 1]? = some (.cells #[M.ptr 0, .int .i64 (last + 1), .pointer (some ⟨M.t 2, 0, none⟩)] 133))
    (hbv : wd.heap[M.b v.n]? = some (.cells (winArr v (M.pp v.par) (M.c v.n) (.slice (some ⟨gs, 0, none⟩) ((M.ptrs (kids L v.n)).length + 1) cap)) 131))
    (hrow : wd.ownsRow 2 111 1 (.slice (some ⟨gs, 0, none⟩) ((M.ptrs (kids L v.n)).length + 1) cap) ((M.ptrs (kids L v.n)).length + 1) (M.ptrs (kids L v.n) ++ [.pointer (some ⟨nb, 0, none⟩)]))
    (hgs : (M.s v.n).ownBlock = some gs ∨ nb < gs)
    (hkeep : ∀ i, M.own L i → i ≠ M.t 1 → i ≠ M.b v.n → (M.s v.n).ownBlock ≠ some i → wd.heap[i]? = w.heap[i]?) :
    DkAt wd (M.more (last + 1) v.n nb c g (.slice (some ⟨gs, 0, none⟩) ((M.ptrs (kids L v.n)).length + 1) cap)) (L ++ [⟨last + 1, v.n, x, y, true, W, H, fun _ _ => blk Pn.plain⟩]) (last + 1) N s t ∧
    ∀ i, (M.more (last + 1) v.n nb c g (.slice (some ⟨gs, 0, none⟩) ((M.ptrs (kids L v.n)).length + 1) cap)).own (L ++ [⟨last + 1, v.n, x, y, true, W, H, fun _ _ => blk Pn.plain⟩]) i → M.own L i ∨ w.heap.size ≤ i := by
  obtain ⟨rk, K, T⟩ := ok.tree
  obtain ⟨nw, hnw⟩ : ∃ nw : Wn, nw = ⟨last + 1, v.n, x, y, true, W, H, fun _ _ => blk Pn.plain⟩ := ⟨_, rfl⟩
  have hnn : nw.n = last + 1 := by rw [hnw]
  have hnp : nw.par = v.n := by rw [hnw]
  rw [← hnw] at hnb ⊢
  have hle : ∀ u ∈ L, u.n ≠ last + 1 := fun u hu => by have := ok.le u hu; omega
  have hpl : ∀ u ∈ L, u.par ≠ last + 1 := fun u hu e => by
    have h0 := T.pos hv
    have h1 := ok.le v hv
    obtain ⟨⟨q, hq, hqn⟩, _⟩ := T.up u hu (by omega)
    exact hle q hq (by omega)
  have h0l : (0 : Int) ≠ last + 1 := by have := T.pos hv; have := ok.le v hv; omega
  have hvn := hle v hv
  have hold : ∀ p : Pl, p.ok (L ++ [nw]) → ¬ ((∃ k, p = .win (last + 1) k) ∨ (p = .win v.n 3 ∧ nb < gs)) → p.ok L ∧ (M.more (last + 1) v.n nb c g (.slice (some ⟨gs, 0, none⟩) ((M.ptrs (kids L v.n)).length + 1) cap)).blk p = M.blk p := by
    intro p hp hf
    cases p with
    | top k => exact ⟨hp, rfl⟩
    | win n k =>
      obtain ⟨hk, u, hu, hun⟩ := hp
      have hn : n ≠ last + 1 := fun e => hf (.inl ⟨k, by rw [e]⟩)
      have huL : u ∈ L := by
        rcases List.mem_append.1 hu with hu | hu
        · exact hu
        · obtain rfl : u = nw := by simpa using hu
          exact absurd (hun.symm.trans hnn) hn
      refine ⟨⟨hk, u, huL, hun⟩, ?_⟩
      match k, hk with
      | 0, _ => simp [Mm.blk, Mm.more, updI'_other _ _ hn]
      | 1, _ => simp [Mm.blk, Mm.more, updI'_other _ _ hn]
      | 2, _ => simp [Mm.blk, Mm.more, updI'_other _ _ hn]
      | 3, _ =>
        show (updI' (updI' M.s v.n _) (last + 1) _ n).ownBlock = (M.s n).ownBlock
        rw [updI'_other _ _ hn]
        by_cases e : n = v.n
        · subst e
          rw [updI'_same]
          have hng : ¬ nb < gs := fun hlt => hf (.inr ⟨rfl, hlt⟩)
          rcases hgs with h1 | h1
          · exact h1.symm
          · exact absurd h1 hng
        · rw [updI'_other _ _ e]
  have hfr : ∀ (p : Pl) (i : Nat), p.ok (L ++ [nw]) → ((∃ k, p = .win (last + 1) k) ∨ (p = .win v.n 3 ∧ nb < gs)) → (M.more (last + 1) v.n nb c g (.slice (some ⟨gs, 0, none⟩) ((M.ptrs (kids L v.n)).length + 1) cap)).blk p = some i → w.heap.size ≤ i ∧ ((p = .win (last + 1) 0 ∧ i = nb) ∨ (p = .win (last + 1) 1 ∧ i = c) ∨ (p = .win (last + 1) 2 ∧ i = g) ∨ (p = .win v.n 3 ∧ i = gs ∧ nb < gs)) := by
    rintro p i hp (⟨k, rfl⟩ | ⟨rfl, hlt⟩) e
    · have hk : k < 4 := hp.1
      match k, hk with
      | 0, _ => obtain rfl : nb = i := by simpa [Mm.blk, Mm.more, updI'_same] using e
                exact ⟨by omega, .inl ⟨rfl, rfl⟩⟩
      | 1, _ => obtain rfl : c = i := by simpa [Mm.blk, Mm.more, updI'_same] using e
                exact ⟨by omega, .inr (.inl ⟨rfl, rfl⟩)⟩
      | 2, _ => obtain rfl : g = i := by simpa [Mm.blk, Mm.more, updI'_same] using e
                exact ⟨by omega, .inr (.inr (.inl ⟨rfl, rfl⟩))⟩
      | 3, _ => simp [Mm.blk, Mm.more, updI'_same, Value.ownBlock] at e
    · obtain rfl : gs = i := by
        have : (updI' (updI' M.s v.n (.slice (some ⟨gs, 0, none⟩) ((M.ptrs (kids L v.n)).length + 1) cap)) (last + 1) (.slice none 0 0) v.n).ownBlock = some i := e
        rw [updI'_other _ _ hvn, updI'_same] at this
        simpa [Value.ownBlock] using this
      exact ⟨by omega, .inr (.inr (.inr ⟨rfl, rfl, hlt⟩))⟩
  have hown : ∀ i, (M.more (last + 1) v.n nb c g (.slice (some ⟨gs, 0, none⟩) ((M.ptrs (kids L v.n)).length + 1) cap)).own (L ++ [nw]) i → M.own L i ∨ w.heap.size ≤ i :=
    fun i hi => own_of w.heap.size _ hold (fun p i hp hf e => (hfr p i hp hf e).1) hi
  have hinj := inj_of h.inj w.heap.size (fun i hi => h.lt hi) _ hold (fun p i hp hf e => (hfr p i hp hf e).1) (fun p q i hp hq fp fq e1 e2 => by
    rcases (hfr p i hp fp e1).2 with ⟨rfl, r1⟩ | ⟨rfl, r1⟩ | ⟨rfl, r1⟩ | ⟨rfl, r1, r3⟩ <;>
      rcases (hfr q i hq fq e2).2 with ⟨rfl, r2⟩ | ⟨rfl, r2⟩ | ⟨rfl, r2⟩ | ⟨rfl, r2, r4⟩ <;> first | rfl | (exfalso; omega))
  refine ⟨⟨?_, ?_, ?_, ?_, hinj, ?_⟩, hown⟩
  · have hne := h.ne (p := .top 0) (q := .top 1) (by show 0 < 5; omega) (by show 1 < 5; omega) rfl rfl (by simp)
    have hn2 := h.ne (p := .top 0) (q := .win v.n 0) (by show 0 < 5; omega) ⟨by omega, v, hv, rfl⟩ rfl rfl (by simp)
    exact (hkeep _ (own_top M L 0 (by omega)) hne hn2 (fun e => by have := h.inj (.top 0) (.win v.n 3) (M.t 0) (by show 0 < 5; omega) ⟨by omega, v, hv, rfl⟩ rfl e; simp at this)).trans h.b0
  · rw [show (M.more (last + 1) v.n nb c g (.slice (some ⟨gs, 0, none⟩) ((M.ptrs (kids L v.n)).length + 1) cap)).ptr 0 = M.ptr 0 by simp [Mm.ptr, Mm.more, updI'_other _ _ h0l]]
    exact hd
  · have hk : ∀ k, 2 ≤ k → k < 5 → wd.heap[M.t k]? = w.heap[M.t k]? := fun k k2 k5 => by
      have hne := h.ne (p := .top k) (q := .top 1) k5 (by show 1 < 5; omega) rfl rfl (by simp; omega)
      have hn2 := h.ne (p := .top k) (q := .win v.n 0) k5 ⟨by omega, v, hv, rfl⟩ rfl rfl (by simp)
      exact hkeep _ (own_top M L k k5) hne hn2 (fun e => by have := h.inj (.top k) (.win v.n 3) (M.t k) k5 ⟨by omega, v, hv, rfl⟩ rfl e; simp at this)
    exact h.scr.same (hk 2 (by omega) (by omega)) (hk 3 (by omega) (by omega)) (hk 4 (by omega) (by omega))
  · intro u hu
    rw [kids_append, hnp]
    have hptr : ∀ l : List Wn, (∀ a ∈ l, a ∈ L) → (M.more (last + 1) v.n nb c g (.slice (some ⟨gs, 0, none⟩) ((M.ptrs (kids L v.n)).length + 1) cap)).ptrs l = M.ptrs l := fun l hl => by
      refine List.map_congr_left fun a ha => ?_
      simp [Mm.ptr, Mm.more, updI'_other _ _ (hle a (hl a ha))]
    have hkL : ∀ n, ∀ a ∈ kids L n, a ∈ L := fun n a ha => (mem_kids.1 ha).1
    rcases List.mem_append.1 hu with hu | hu
    · have hun := hle u hu
      have hpp : (M.more (last + 1) v.n nb c g (.slice (some ⟨gs, 0, none⟩) ((M.ptrs (kids L v.n)).length + 1) cap)).pp u.par = M.pp u.par := by
        simp [Mm.pp, Mm.more, updI'_other _ _ (hpl u hu)]
      by_cases e : u.n = v.n
      · obtain rfl := nd_inj T.nd hu hv e
        rw [if_pos rfl]
        rw [show (M.more (last + 1) u.n nb c g (.slice (some ⟨gs, 0, none⟩) ((M.ptrs (kids L u.n)).length + 1) cap)).ptrs (kids L u.n ++ [nw]) = M.ptrs (kids L u.n) ++ [.pointer (some ⟨nb, 0, none⟩)] by
          have := hptr (kids L u.n) (hkL _)
          unfold Mm.ptrs at this ⊢
          rw [List.map_append, this]
          simp [Mm.ptr, Mm.more, hnn, updI'_same]]
        rw [hpp]
        have hw := h.win u hu
        have k1 : wd.heap[M.c u.n]? = w.heap[M.c u.n]? := by
          have n1 := h.ne (p := .win u.n 1) (q := .top 1) ⟨by omega, u, hu, rfl⟩ (by show 1 < 5; omega) rfl rfl (by simp)
          have n2 := h.ne (p := .win u.n 1) (q := .win u.n 0) ⟨by omega, u, hu, rfl⟩ ⟨by omega, u, hu, rfl⟩ rfl rfl (by simp)
          exact hkeep _ (own_c M hu) n1 n2 (fun e => by have := h.inj (.win u.n 1) (.win u.n 3) _ ⟨by omega, u, hu, rfl⟩ ⟨by omega, u, hu, rfl⟩ rfl e; simp at this)
        have k2 : wd.heap[M.g u.n]? = w.heap[M.g u.n]? := by
          have n1 := h.ne (p := .win u.n 2) (q := .top 1) ⟨by omega, u, hu, rfl⟩ (by show 1 < 5; omega) rfl rfl (by simp)
          have n2 := h.ne (p := .win u.n 2) (q := .win u.n 0) ⟨by omega, u, hu, rfl⟩ ⟨by omega, u, hu, rfl⟩ rfl rfl (by simp)
          exact hkeep _ (own_g M hu) n1 n2 (fun e => by have := h.inj (.win u.n 2) (.win u.n 3) _ ⟨by omega, u, hu, rfl⟩ ⟨by omega, u, hu, rfl⟩ rfl e; simp at this)
        have q1 : (M.more (last + 1) u.n nb c g (.slice (some ⟨gs, 0, none⟩) ((M.ptrs (kids L u.n)).length + 1) cap)).b u.n = M.b u.n := updI'_other _ _ hun
        have q2 : (M.more (last + 1) u.n nb c g (.slice (some ⟨gs, 0, none⟩) ((M.ptrs (kids L u.n)).length + 1) cap)).c u.n = M.c u.n := updI'_other _ _ hun
        have q3 : (M.more (last + 1) u.n nb c g (.slice (some ⟨gs, 0, none⟩) ((M.ptrs (kids L u.n)).length + 1) cap)).g u.n = M.g u.n := updI'_other _ _ hun
        have q4 : (M.more (last + 1) u.n nb c g (.slice (some ⟨gs, 0, none⟩) ((M.ptrs (kids L u.n)).length + 1) cap)).s u.n = .slice (some ⟨gs, 0, none⟩) ((M.ptrs (kids L u.n)).length + 1) cap := (updI'_other _ _ hun).trans (updI'_same _ _ _)
        rw [q1, q2, q3, q4]
        exact ⟨hbv, hw.gr.same k1 k2, hw.wf, by simpa using hrow⟩
      · rw [if_neg (fun e' => e e'.symm), List.append_nil, hptr _ (hkL _), hpp]
        have hw := h.win u hu
        have kk : ∀ k i, k < 4 → M.blk (.win u.n k) = some i → wd.heap[i]? = w.heap[i]? := fun k i hk hb => by
          have n1 := h.ne (p := .win u.n k) (q := .top 1) ⟨hk, u, hu, rfl⟩ (by show 1 < 5; omega) hb rfl (by simp)
          have n2 := h.ne (p := .win u.n k) (q := .win v.n 0) ⟨hk, u, hu, rfl⟩ ⟨by omega, v, hv, rfl⟩ hb rfl (by simp [e])
          exact hkeep i ⟨.win u.n k, ⟨hk, u, hu, rfl⟩, hb⟩ n1 n2 (fun e' => by have := h.inj (.win u.n k) (.win v.n 3) _ ⟨hk, u, hu, rfl⟩ ⟨by omega, v, hv, rfl⟩ hb e'; simp [e] at this)
        have q1 : (M.more (last + 1) v.n nb c g (.slice (some ⟨gs, 0, none⟩) ((M.ptrs (kids L v.n)).length + 1) cap)).b u.n = M.b u.n := updI'_other _ _ hun
        have q2 : (M.more (last + 1) v.n nb c g (.slice (some ⟨gs, 0, none⟩) ((M.ptrs (kids L v.n)).length + 1) cap)).c u.n = M.c u.n := updI'_other _ _ hun
        have q3 : (M.more (last + 1) v.n nb c g (.slice (some ⟨gs, 0, none⟩) ((M.ptrs (kids L v.n)).length + 1) cap)).g u.n = M.g u.n := updI'_other _ _ hun
        have q4 : (M.more (last + 1) v.n nb c g (.slice (some ⟨gs, 0, none⟩) ((M.ptrs (kids L v.n)).length + 1) cap)).s u.n = M.s u.n := (updI'_other _ _ hun).trans (updI'_other _ _ e)
        rw [q1, q2, q3, q4]
        exact hw.same (kk 0 _ (by omega) rfl) (kk 1 _ (by omega) rfl) (kk 2 _ (by omega) rfl) (fun i hi => kk 3 i (by omega) hi)
    · obtain rfl : u = nw := by simpa using hu
      have hnk : kids L u.n = [] := by
        refine List.eq_nil_iff_forall_not_mem.2 (fun a ha => ?_)
        obtain ⟨haL, hap⟩ := mem_kids.1 ha
        exact hpl a haL (hap.trans hnn)
      rw [hnk, if_neg (by omega), hnn, hnp]
      have q1 : (M.more (last + 1) v.n nb c g (.slice (some ⟨gs, 0, none⟩) ((M.ptrs (kids L v.n)).length + 1) cap)).b (last + 1) = nb := updI'_same _ _ _
      have q2 : (M.more (last + 1) v.n nb c g (.slice (some ⟨gs, 0, none⟩) ((M.ptrs (kids L v.n)).length + 1) cap)).c (last + 1) = c := updI'_same _ _ _
      have q3 : (M.more (last + 1) v.n nb c g (.slice (some ⟨gs, 0, none⟩) ((M.ptrs (kids L v.n)).length + 1) cap)).g (last + 1) = g := updI'_same _ _ _
      have q4 : (M.more (last + 1) v.n nb c g (.slice (some ⟨gs, 0, none⟩) ((M.ptrs (kids L v.n)).length + 1) cap)).s (last + 1) = .slice none 0 0 := updI'_same _ _ _
      have q5 : (M.more (last + 1) v.n nb c g (.slice (some ⟨gs, 0, none⟩) ((M.ptrs (kids L v.n)).length + 1) cap)).pp v.n = some ⟨M.b v.n, 0, none⟩ := by
        have := T.pos hv
        simp [Mm.pp, Mm.more, updI'_other _ _ hvn]
        omega
      rw [q1, q2, q3, q4, q5]
      subst hnw
      exact ⟨hnb, hgr, wf_plain _ _, World.ownsRow_nil _ _ _ _⟩
  · intro i hi
    rcases hown i hi with h1 | h1
    · exact h.two i h1
    · have := h.two _ (own_top M L 0 (by omega))
      have := h.lt (own_top M L 0 (by omega))
      omega
set_option maxHeartbeats 1000000 in
theorem dCreate {M : Mm} {L : List Wn} {last : Int} {N : Nat} {s : Rs} {t : Pt} (ok : DOk L last) (w : World) (h : DkAt w M L last N s t) (v : Wn) (hv : v ∈ L) (x y : Int) (W H : Nat) (w1 : 1 ≤ W) (w2 : W ≤ 40) (h1 : 1 ≤ H) (h2 : H ≤ 20) (hlast : last < 9223372036854775807) :
    Calls Tryz.prog 110 #[.pointer (some ⟨M.t 1, 0, none⟩), M.ptr v.n, .int .i64 x, .int .i64 y, .int .i64 W, .int .i64 H] w fun e w' => ∃ M', e = .returned (.int .i64 (last + 1)) ∧ DkAt w' M' (L ++ [⟨last + 1, v.n, x, y, true, W, H, fun _ _ => blk Pn.plain⟩]) (last + 1) N s t ∧ M'.t = M.t ∧ Keep (M.own L) w w' ∧ ∀ i, M'.own (L ++ [⟨last + 1, v.n, x, y, true, W, H, fun _ _ => blk Pn.plain⟩]) i → M.own L i ∨ w.heap.size ≤ i := by
  have HD : Hid (DkAt w M L last N s t) := h
  have Hok : Hid (DOk L last) := ok
  have d1 := h.d1
  have z1 := frozen_of_block h.b1
  have dl : M.t 1 < w.heap.size := h.lt (own_top M L 1 (by omega))
  have hl0 : -1 ≤ last := by obtain ⟨rk, K, T⟩ := ok.tree; have := T.pos hv; have := ok.le v hv; omega
  clear h ok
  have K1 : Keep (M.own L) w (w.setCell ⟨M.t 1, 1, none⟩ (.int .i64 (last + 1))) := (Keep.refl _ w).setCell _ _ (fun _ => own_top M L 1 (by omega))
  have B1 : (w.setCell ⟨M.t 1, 1, none⟩ (.int .i64 (last + 1))).heap[M.t 1]? = some (.cells #[M.ptr 0, .int .i64 (last + 1), .pointer (some ⟨M.t 2, 0, none⟩)] 133) := set_block HD.out.b1 _
  have O1 : ∀ i, i ≠ M.t 1 → (w.setCell ⟨M.t 1, 1, none⟩ (.int .i64 (last + 1))).heap[i]? = w.heap[i]? := fun i hi => Below.heap_setCell _ _ _ _ hi
  have e1 : (w.setCell ⟨M.t 1, 1, none⟩ (.int .i64 (last + 1))).cell? ⟨M.t 1, 1, none⟩ = some (.int .i64 (last + 1)) := cell_of_block B1 1
  have s1 : (w.setCell ⟨M.t 1, 1, none⟩ (.int .i64 (last + 1))).heap.size = w.heap.size := set_size _ _ _
  go_enter Tryz.func110, Tryz.ntmps110
  go_wp2_with fail
  generalize w.setCell ⟨M.t 1, 1, none⟩ (.int .i64 (last + 1)) = wa at *
  have dl' : M.t 1 < wa.heap.size := by omega
  go_region_with (first | (go_at_call 108; refine (pNew W H _ w1 w2 h1 h2).mono ?_; rintro e wb ⟨c, g, rfl, G1, b1, lc, lg⟩; have hB : Below wa.heap.size wa wb := ⟨b1.os, b1.tape, b1.output, b1.size, b1.block⟩; have e2 := (hB.cell (p := ⟨M.t 1, 1, none⟩) dl').trans e1;  have HG : Hid (GrAt wb c g W H (H * W) (fun _ _ => blk Pn.plain)) := G1; have gl := G1.lt; have ggl := G1.glt; have lc' : wa.heap.size ≤ c := lc; have lg' : wa.heap.size ≤ g := lg; clear G1 b1))
  all_goals
    go_wp2_with fail
    have hsz := hB.size
    have hbk : Below wb.heap.size wb (wb.alloc (.cells (winArr ⟨last + 1, v.n, x, y, true, W, H, fun _ _ => blk Pn.plain⟩ none c (.slice none 0 0)) 131)) := (Below.refl _ _).alloc (Nat.le_refl _) _
    have NB : (wb.alloc (.cells (winArr ⟨last + 1, v.n, x, y, true, W, H, fun _ _ => blk Pn.plain⟩ none c (.slice none 0 0)) 131)).heap[wb.heap.size]? = some (.cells (winArr ⟨last + 1, v.n, x, y, true, W, H, fun _ _ => blk Pn.plain⟩ none c (.slice none 0 0)) 131) := heap_new wb _
    have sc : (wb.alloc (.cells (winArr ⟨last + 1, v.n, x, y, true, W, H, fun _ _ => blk Pn.plain⟩ none c (.slice none 0 0)) 131)).heap.size = wb.heap.size + 1 := by simp
    change Calls _ _ _ (wb.alloc (.cells (winArr ⟨last + 1, v.n, x, y, true, W, H, fun _ _ => blk Pn.plain⟩ none c (.slice none 0 0)) 131)) _
    generalize wb.alloc (.cells (winArr ⟨last + 1, v.n, x, y, true, W, H, fun _ _ => blk Pn.plain⟩ none c (.slice none 0 0)) 131) = wc at *
    have hBc : Below wa.heap.size wa wc := hB.trans (hbk.mono hsz)
    have OLD : ∀ i, M.own L i → i ≠ M.t 1 → wc.heap[i]? = w.heap[i]? := fun i hi hne => (hBc.block i (by have := HD.out.lt hi; omega)).trans (O1 i hne)
    have hd := (hBc.block _ dl').trans B1
    have HG2 : Hid (GrAt wc c g W H (H * W) (fun _ _ => blk Pn.plain)) := HG.out.below hbk
    have hcg := HG.out.ne
    have hwv := HD.out.win v hv
    have bvl := hwv.lt
    have nb1 := HD.out.ne (p := .win v.n 0) (q := .top 1) ⟨by omega, v, hv, rfl⟩ (by show 1 < 5; omega) rfl rfl (by simp)
    have V1 : wc.heap[M.b v.n]? = some (.cells (winArr v (M.pp v.par) (M.c v.n) (M.s v.n)) 131) := (OLD _ (own_b M hv) nb1).trans hwv.blk
    have R1 : wc.ownsRow 2 111 1 (M.s v.n) (M.ptrs (kids L v.n)).length (M.ptrs (kids L v.n)) := ownsRow_same hwv.row (fun i hi => OLD i (own_s M hv hi) (HD.out.ne (p := .win v.n 3) (q := .top 1) ⟨by omega, v, hv, rfl⟩ (by show 1 < 5; omega) hi rfl (by simp)))
    have hsl : ∀ i, (M.s v.n).ownBlock = some i → i < w.heap.size := fun i hi => HD.out.lt (own_s M hv hi)
    have hs0 : (M.s v.n).ownBlock ≠ some (M.b v.n) := fun e => by have := HD.out.inj (.win v.n 3) (.win v.n 0) _ ⟨by omega, v, hv, rfl⟩ ⟨by omega, v, hv, rfl⟩ e rfl; simp at this
    have hkl : (M.ptrs (kids L v.n)).length ≤ 100 := by rw [M.ptrs_len]; have := Hok.out.len; have : (kids L v.n).length ≤ L.length := List.length_filter_le _ _; omega
    go_at_call 150
    refine (wEnter ⟨last + 1, v.n, x, y, true, W, H, fun _ _ => blk Pn.plain⟩ v wb.heap.size (M.b v.n) c (M.c v.n) none (M.pp v.par) (.slice none 0 0) (M.s v.n) (M.ptrs (kids L v.n)) wc NB V1 R1 (by omega) (fun e => by have := hsl _ e; omega) hs0 hkl (by omega)).mono ?_
    rintro e wd ⟨gs, cap, rfl, U5, V5, R5, K5, hgs⟩
    have cn : wd.cell? ⟨wb.heap.size, 0, none⟩ = some (.int .i64 (last + 1)) := cell_of_block U5 0
    have gsl : (M.s v.n).ownBlock = some gs ∨ wb.heap.size < gs := hgs.imp id (fun h => by omega)
    have HK : Hid (∀ i, M.own L i → i ≠ M.t 1 → i ≠ M.b v.n → (M.s v.n).ownBlock ≠ some i → wd.heap[i]? = w.heap[i]?) := fun i hi n1 n2 n3 => (K5.block i (by have := HD.out.lt hi; omega) (by rintro (e | e | e); (have := HD.out.lt hi; omega); exact n2 e; exact n3 e)).trans (OLD i hi n1)
    have hd5 : wd.heap[M.t 1]? = some (.cells #[M.ptr 0, .int .i64 (last + 1), .pointer (some ⟨M.t 2, 0, none⟩)] 133) := (K5.block _ (by omega) (by rintro (e | e | e); omega; exact nb1 e.symm; exact HD.out.ne (p := .win v.n 3) (q := .top 1) ⟨by omega, v, hv, rfl⟩ (by show 1 < 5; omega) e rfl (by simp) rfl)).trans hd
    have hc5 : GrAt wd c g W H (H * W) (fun _ _ => blk Pn.plain) := HG2.out.same (K5.block _ (by omega) (by rintro (e | e | e); omega; omega; (have := hsl _ e; omega))) (K5.block _ (by omega) (by rintro (e | e | e); omega; omega; (have := hsl _ e; omega)))
    obtain ⟨F1, F2⟩ := create_dk Hok.out HD.out hv x y W H c g wb.heap.size gs cap (by omega) (by omega) gl ggl hcg U5 hc5 hd5 V5 R5 gsl HK.out
    have HF1 : Hid (DkAt wd (M.more (last + 1) v.n wb.heap.size c g (.slice (some ⟨gs, 0, none⟩) ((M.ptrs (kids L v.n)).length + 1) cap)) (L ++ [⟨last + 1, v.n, x, y, true, W, H, fun _ _ => blk Pn.plain⟩]) (last + 1) N s t) := F1
    have HF2 : Hid (∀ i, (M.more (last + 1) v.n wb.heap.size c g (.slice (some ⟨gs, 0, none⟩) ((M.ptrs (kids L v.n)).length + 1) cap)).own (L ++ [⟨last + 1, v.n, x, y, true, W, H, fun _ _ => blk Pn.plain⟩]) i → M.own L i ∨ w.heap.size ≤ i) := F2
    have KK : Keep (M.own L) w wd := (K1.trans (Keep.below (M.own L) hBc) (fun _ _ h => h)).trans K5 (fun i hi h => by
      rcases h with e | e | e
      · omega
      · rw [e]; exact own_b M hv
      · exact own_s M hv e)
    clear U5 V5 R5 K5 hd5 hc5 F1 F2 hgs gsl NB V1 R1 hd OLD HK hBc hbk hwv
    go_wp2_with fail
    go_ret
    exact ⟨_, rfl, HF1.out, rfl, KK, HF2.out⟩
end Go.Proofs.YtjlfibhbfdckpaaGreatDoor

/- The program's calls: find, which places may be, Create. -/
namespace Go.Proofs.YtjlfibhbfdckpaaGreatDoor
open Go.RowKit
attribute [local go_sem ↓] Go.wp_at_zero Go.wp_at_succ
/-- May something lie at a place? -/
def placeB (x y : Int) : Bool := Wd.inB x (-1000) 1000 && Wd.inB y (-1000) 1000
theorem placeB_iff {x y : Int} : placeB x y = true ↔ -1000 ≤ x ∧ x ≤ 1000 ∧ -1000 ≤ y ∧ y ≤ 1000 := by simp [placeB, Wd.inB, and_assoc]
/-- Is there such a window? -/
def hasN (L : List Wn) (n : Int) : Bool := L.any (fun v => decide (v.n = n))
theorem hasN_iff {L : List Wn} {n : Int} : hasN L n = true ↔ ∃ v ∈ L, v.n = n := by simp [hasN]
def Mm.fnd (M : Mm) (L : List Wn) (n : Int) : Option Addr := if hasN L n = true then some ⟨M.b n, 0, none⟩ else none
theorem Mm.fnd_in (M : Mm) {L : List Wn} {v : Wn} (hv : v ∈ L) : M.fnd L v.n = some ⟨M.b v.n, 0, none⟩ := if_pos (hasN_iff.2 ⟨v, hv, rfl⟩)
theorem Mm.fnd_no (M : Mm) {L : List Wn} {n : Int} (h : hasN L n = false) : M.fnd L n = none := if_neg (by simp [h])
theorem pPlace (x y : Int) (w : World) :
    Calls Tryz.prog 76 #[.int .i64 x, .int .i64 y] w fun e w' => e = .returned (.bool (placeB x y)) ∧ w' = w := by
  cases h1 : Wd.inB x (-1000) 1000 <;> cases h2 : Wd.inB y (-1000) 1000
  all_goals
    go_enter Tryz.func76, Tryz.ntmps76
    go_wp2_with (first | (go_at_call 107; refine (pWithin _ _ _ _).mono ?_; rintro e w' ⟨rfl, hw'⟩; replace hw' := hw'.symm; subst hw'))
    go_ret
    exact ⟨by simp [placeB, h1, h2], rfl⟩
section
variable {M : Mm} {L : List Wn} {last : Int} {N : Nat} {s : Rs} {t : Pt}
theorem dWindow (ok : DOk L last) (w : World) (h : DkAt w M L last N s t) (n : Int) :
    Calls Tryz.prog 131 #[.pointer (some ⟨M.t 1, 0, none⟩), .int .i64 n] w fun e w' => e = .returned (.pointer (M.fnd L n)) ∧ w' = w := by
  obtain ⟨rk, K, T⟩ := ok.tree
  obtain ⟨r, hr, hr0, _⟩ := T.rootIn
  have hf := wFind T n w h K r hr (by omega)
  rw [hr0] at hf
  have e : (if hasP L K 0 n = true then some (⟨M.b n, 0, none⟩ : Addr) else none) = M.fnd L n := by
    unfold Mm.fnd
    by_cases hh : hasN L n = true
    · rw [if_pos hh, if_pos ((T.hasRoot n).2 (hasN_iff.1 hh))]
    · rw [if_neg hh, if_neg (fun h' => hh (hasN_iff.2 ((T.hasRoot n).1 h')))]
  rw [e] at hf
  have Hf : Hid (Calls Tryz.prog 167 #[M.ptr 0, .int .i64 n] w fun e w' => e = .returned (.pointer (M.fnd L n)) ∧ w' = w) := hf
  have d0 := h.d0
  clear hf e h
  go_enter Tryz.func131, Tryz.ntmps131
  go_wp2_with (first | (go_at_call 167; refine (Hf.out).mono ?_; rintro e w' ⟨rfl, hw'⟩; replace hw' := hw'.symm; subst hw'))
  go_ret
  exact ⟨rfl, rfl⟩
theorem kFind (ok : DOk L last) (w : World) (h : DkAt w M L last N s t) (n : Int) :
    Calls Tryz.prog 75 #[.pointer (some ⟨M.t 0, 0, none⟩), .int .i64 n] w fun e w' => e = .returned (.pointer (M.fnd L n)) ∧ w' = w := by
  have c0 := h.c0
  have HD : Hid (DkAt w M L last N s t) := h
  clear h
  go_enter Tryz.func75, Tryz.ntmps75
  go_wp2_with (first | (go_at_call 41; refine (kNone _ HD.out).mono ?_; rintro e w' ⟨rfl, hw'⟩; replace hw' := hw'.symm; subst hw') | (go_at_call 131; refine (dWindow ok _ HD.out _).mono ?_; rintro e w' ⟨rfl, hw'⟩; replace hw' := hw'.symm; subst hw'))
  go_ret
  exact ⟨rfl, rfl⟩
theorem dFull (ok : DOk L last) (w : World) (h : DkAt w M L last N s t) :
    Calls Tryz.prog 109 #[.pointer (some ⟨M.t 1, 0, none⟩)] w fun e w' => e = .returned (.bool (decide (16 ≤ L.length))) ∧ w' = w := by
  obtain ⟨rk, K, T⟩ := ok.tree
  obtain ⟨r, hr, hr0, _⟩ := T.rootIn
  have hf := wCount T w h ok.len K r hr (by omega)
  rw [hr0, T.count] at hf
  have Hf : Hid (Calls Tryz.prog 149 #[M.ptr 0] w fun e w' => e = .returned (.int .i64 (L.length : Int)) ∧ w' = w) := hf
  have d0 := h.d0
  have hl := ok.len
  clear hf h
  by_cases hc : 16 ≤ L.length
  · have hd : (16 : Int) ≤ (L.length : Int) := by omega
    go_enter Tryz.func109, Tryz.ntmps109
    go_wp2_with (first | (go_at_call 149; refine (Hf.out).mono ?_; rintro e w' ⟨rfl, hw'⟩; replace hw' := hw'.symm; subst hw'))
    go_ret
    exact ⟨by simp [hc], rfl⟩
  · have hd : ¬ (16 : Int) ≤ (L.length : Int) := by omega
    go_enter Tryz.func109, Tryz.ntmps109
    go_wp2_with (first | (go_at_call 149; refine (Hf.out).mono ?_; rintro e w' ⟨rfl, hw'⟩; replace hw' := hw'.symm; subst hw'))
    go_ret
    exact ⟨by simp [hc]; omega, rfl⟩
set_option maxHeartbeats 1000000 in
theorem kCreate (ok : DOk L last) (w : World) (h : DkAt w M L last N s t) (v : Wn) (hv : v ∈ L) (x y : Int) (W H : Nat) (w1 : 1 ≤ W) (w2 : W ≤ 40) (h1 : 1 ≤ H) (h2 : H ≤ 20) (hp : placeB x y = true) (hlen : L.length < 16) (hlast : last < 9223372036854775807) :
    Calls Tryz.prog 48 #[.pointer (some ⟨M.t 0, 0, none⟩), .int .i64 v.n, .int .i64 x, .int .i64 y, .int .i64 W, .int .i64 H] w fun e w' => ∃ M', e = .returned (.tuple #[.int .i64 (last + 1), .int .i64 0]) ∧ DkAt w' M' (L ++ [⟨last + 1, v.n, x, y, true, W, H, fun _ _ => blk Pn.plain⟩]) (last + 1) N s t ∧ M'.t = M.t ∧ Keep (M.own L) w w' ∧ ∀ i, M'.own (L ++ [⟨last + 1, v.n, x, y, true, W, H, fun _ _ => blk Pn.plain⟩]) i → M.own L i ∨ w.heap.size ≤ i := by
  have c0 := h.c0
  have HD : Hid (DkAt w M L last N s t) := h
  have hs : sizeB W H = true := sizeB_iff.2 (by omega)
  have hf := M.fnd_in hv
  have hnf : decide (16 ≤ L.length) = false := by simp; omega
  clear h
  go_enter Tryz.func48, Tryz.ntmps48
  go_wp2_with (first | (go_at_call 75; refine (kFind ok _ HD.out _).mono ?_; rintro e w' ⟨rfl, hw'⟩; replace hw' := hw'.symm; subst hw') | (go_at_call 76; refine (pPlace _ _ _).mono ?_; rintro e w' ⟨rfl, hw'⟩; replace hw' := hw'.symm; subst hw') | (go_at_call 46; refine (pMayBe _ _ _).mono ?_; rintro e w' ⟨rfl, hw'⟩; replace hw' := hw'.symm; subst hw') | (go_at_call 109; refine (dFull ok _ HD.out).mono ?_; rintro e w' ⟨rfl, hw'⟩; replace hw' := hw'.symm; subst hw'))
  go_at_call 110
  refine (dCreate ok _ HD.out v hv x y W H w1 w2 h1 h2 hlast).mono ?_
  rintro e wa ⟨M', rfl, D1, ht, K1, O1⟩
  have HD1 : Hid (DkAt wa M' (L ++ [⟨last + 1, v.n, x, y, true, W, H, fun _ _ => blk Pn.plain⟩]) (last + 1) N s t) := D1
  clear D1
  go_wp2_with fail
  go_ret2
  exact ⟨M', rfl, HD1.out, ht, K1, O1⟩
end
end Go.Proofs.YtjlfibhbfdckpaaGreatDoor

/- Texts in windows: plain mathematics. -/
namespace Go.Proofs.YtjlfibhbfdckpaaGreatDoor
open Wd (wd)
/-- The letters of a text as they are written, from a byte on. -/
def runesG (s : ByteArray) : Nat → Nat → List Int
  | 0, _ => []
  | f + 1, pos => if pos < s.size then (if wd ((Utf8.decode s pos).1 : Int) = 0 then 65533 else ((Utf8.decode s pos).1 : Int)) :: runesG s f (pos + (Utf8.decode s pos).2) else []
/-- They are written one behind the other. -/
def writeAll (W H : Nat) (y : Int) (p : Pn) : Int → List Int → (Nat → Nat → Cel) → Nat → Nat → Cel
  | _, [], G => G
  | x, r :: l, G => writeAll W H y p (x + wd r) l (writeG W H G x y r p)
theorem setG_out {W H : Nat} {G : Nat → Nat → Cel} {x y : Int} (h : inG W H x y = false) (k : Cel) : setG W H G x y k = G := by
  unfold setG; rw [if_neg (by simp [h])]
theorem inG_y {W H : Nat} {x y : Int} (hy : ¬ (0 ≤ y ∧ y < H)) : inG W H x y = false := by
  rw [Bool.eq_false_iff]; intro h; obtain ⟨_, _, a, b⟩ := inG_iff.1 h; exact hy ⟨a, b⟩
theorem writeG_out {W H : Nat} {G : Nat → Nat → Cel} {x y : Int} (hy : ¬ (0 ≤ y ∧ y < H)) (r : Int) (p : Pn) : writeG W H G x y r p = G := by
  unfold writeG
  split
  · exact setG_out (inG_y hy) _
  · rw [if_neg (by rw [inG_y hy]; simp), setG_out (inG_y hy), setG_out (inG_y hy)]
theorem writeAll_out {W H : Nat} {y : Int} (hy : ¬ (0 ≤ y ∧ y < H)) (p : Pn) (l : List Int) : ∀ (x : Int) (G : Nat → Nat → Cel), writeAll W H y p x l G = G := by
  induction l with
  | nil => intro x G; rfl
  | cons r l ih => intro x G; unfold writeAll; rw [writeG_out hy, ih]
theorem Wf.write {W H : Nat} {G : Nat → Nat → Cel} (h : Wf W H G) (x y : Int) (r : Int) (p : Pn) (hr : wd r = 1 ∨ wd r = 2) : Wf W H (writeG W H G x y r p) := by
  by_cases h1 : wd r = 1
  · unfold writeG; rw [if_pos h1]; exact h.set _ _ _ rfl h1
  · by_cases hin : inG W H x y = true ∧ inG W H (x + 1) y = true
    · obtain ⟨a, b, c, d⟩ := inG_iff.1 hin.1
      obtain ⟨a2, b2, _, _⟩ := inG_iff.1 hin.2
      obtain ⟨x, rfl⟩ := Int.eq_ofNat_of_zero_le a
      obtain ⟨y, rfl⟩ := Int.eq_ofNat_of_zero_le c
      have h2 : wd r = 2 := by omega
      exact (h.wide (by omega) r p h2).congr (writeG_two h (by omega) (by omega) r p h2).symm
    · unfold writeG; rw [if_neg h1, if_neg hin]; exact (h.setBlk _ _ _).setBlk _ _ _
theorem setG_congr {W H : Nat} {G K : Nat → Nat → Cel} (e : EqOn W H G K) (x y : Int) (k : Cel) : EqOn W H (setG W H G x y k) (setG W H K x y k) := by
  cases hin : inG W H x y with
  | false => rw [setG_out hin, setG_out hin]; exact e
  | true =>
    obtain ⟨a, b, c, d⟩ := inG_iff.1 hin
    obtain ⟨x, rfl⟩ := Int.eq_ofNat_of_zero_le a
    obtain ⟨y, rfl⟩ := Int.eq_ofNat_of_zero_le c
    intro u w hu hw
    unfold setG
    rw [if_pos hin, if_pos hin]
    simp only [Int.toNat_natCast]
    rw [← e x y (by omega) (by omega)]
    by_cases p1 : (G x y).p = 1
    · rw [if_pos p1, if_pos p1]; exact (e.upd _ _ _).upd _ _ _ u w hu hw
    · rw [if_neg p1, if_neg p1]
      by_cases p2 : (G x y).p = 2
      · rw [if_pos p2, if_pos p2]; exact (e.upd _ _ _).upd _ _ _ u w hu hw
      · rw [if_neg p2, if_neg p2]; exact e.upd _ _ _ u w hu hw
theorem writeG_congr {W H : Nat} {G K : Nat → Nat → Cel} (e : EqOn W H G K) (x y : Int) (r : Int) (p : Pn) : EqOn W H (writeG W H G x y r p) (writeG W H K x y r p) := by
  unfold writeG
  split
  · exact setG_congr e _ _ _
  · have h2 := setG_congr (setG_congr e x y (blk p)) (x + 1) y (blk p)
    split
    · exact (h2.upd _ _ _).upd _ _ _
    · exact h2
theorem writeAll_congr {W H : Nat} {y : Int} {p : Pn} : ∀ (l : List Int) (x : Int) {G K : Nat → Nat → Cel}, EqOn W H G K → EqOn W H (writeAll W H y p x l G) (writeAll W H y p x l K)
  | [], _, _, _, e => e
  | r :: l, x, _, _, e => writeAll_congr l _ (writeG_congr e x y r p)
theorem Wf.writeAll {W H : Nat} {y : Int} {p : Pn} : ∀ (l : List Int) (x : Int) {G : Nat → Nat → Cel}, Wf W H G → (∀ r ∈ l, wd r = 1 ∨ wd r = 2) → Wf W H (Go.Proofs.YtjlfibhbfdckpaaGreatDoor.writeAll W H y p x l G)
  | [], _, _, hG, _ => hG
  | r :: l, x, _, hG, hl => Wf.writeAll l _ (hG.write x y r p (hl r List.mem_cons_self)) (fun q hq => hl q (List.mem_cons_of_mem _ hq))
end Go.Proofs.YtjlfibhbfdckpaaGreatDoor
