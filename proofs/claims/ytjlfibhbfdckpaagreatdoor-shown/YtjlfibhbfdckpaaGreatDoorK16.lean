/- Texts of the proof, one behind the other: DkAA, DkAB, FpJ, PxB, LaA. -/
import Derived.Test.YtjlfibhbfdckpaaGreatDoorK06
import Derived.Test.YtjlfibhbfdckpaaGreatDoorK14
import Derived.Test.YtjlfibhbfdckpaaGreatDoorK15
/- The program's desk: Resize. -/
namespace Go.Proofs.YtjlfibhbfdckpaaGreatDoor
open Go.RowKit
attribute [local go_sem ↓] Go.wp_at_zero Go.wp_at_succ
/-- What a call leaves; the screen may be another one. -/
def DPostG (M : Mm) (L L' : List Wn) (last' : Int) (s' : Rs) (t' : Pt) (w : World) (r : Value) (e : Ending) (w' : World) : Prop :=
  ∃ M' N', e = .returned r ∧ DkAt w' M' L' last' N' s' t' ∧ M'.t 0 = M.t 0 ∧ Keep (M.own L) w w' ∧ ∀ i, M'.own L' i → M.own L i ∨ w.heap.size ≤ i
def Mm.setT (M : Mm) (g : Nat) : Mm := { M with t := fun k => if k = 4 then g else M.t k }
section
variable {M : Mm} {L : List Wn} {last : Int} {N : Nat} {s : Rs} {t : Pt}
theorem DPost.toG {L' : List Wn} {last' : Int} {w w' : World} {r : Value} {e : Ending} (h : DPost M L L' last' N s t w r e w') : DPostG M L L' last' s t w r e w' := by
  obtain ⟨M', e, D, ht, K, O⟩ := h
  exact ⟨M', N, e, D, by rw [ht], K, O⟩
theorem setT_blk {g : Nat} {p : Pl} (hp : p ≠ .top 4) : (M.setT g).blk p = M.blk p := by
  cases p with
  | top k =>
    show some (if k = 4 then g else M.t k) = some (M.t k)
    rw [if_neg (fun e => hp (by rw [e]))]
  | win m k =>
    match k with
    | 0 => rfl
    | 1 => rfl
    | 2 => rfl
    | k + 3 => rfl
theorem DkAt.rescreen {w w' : World} {g' N' : Nat} {s' : Rs} {t' : Pt} (h : DkAt w M L last N s t) (hp : PrAt w' (M.t 2) (M.t 3) g' N' s' t') (hk : Keep (fun i => i = M.t 2 ∨ i = M.t 3 ∨ i = M.t 4) w w') (hg : g' = M.t 4 ∨ w.heap.size ≤ g') (r : Value) :
    DPostG M L L last s' t' w r (.returned r) w' := by
  have kp : ∀ (p : Pl) (i : Nat), p.ok L → M.blk p = some i → p ≠ .top 2 → p ≠ .top 3 → p ≠ .top 4 → w'.heap[i]? = w.heap[i]? := fun p i hp e n1 n2 n3 => hk.block i (h.lt ⟨p, hp, e⟩) (by
    rintro (e' | e' | e')
    · exact h.ne (p := p) (q := .top 2) hp (show 2 < 5 by omega) e rfl n1 e'
    · exact h.ne (p := p) (q := .top 3) hp (show 3 < 5 by omega) e rfl n2 e'
    · exact h.ne (p := p) (q := .top 4) hp (show 4 < 5 by omega) e rfl n3 e')
  have hown : ∀ i, (M.setT g').own L i → M.own L i ∨ w.heap.size ≤ i := fun i ⟨p, hp', e⟩ => by
    by_cases e4 : p = .top 4
    · subst e4
      obtain rfl : g' = i := by simpa [Mm.blk, Mm.setT] using e
      rcases hg with rfl | hg
      · exact .inl (own_top M L 4 (by omega))
      · exact .inr hg
    · exact .inl ⟨p, hp', by rw [← setT_blk e4]; exact e⟩
  have h0 := h.two _ (own_top M L 0 (by omega))
  have h1 := h.lt (own_top M L 0 (by omega))
  refine ⟨M.setT g', N', rfl, ⟨(kp (.top 0) _ (show 0 < 5 by omega) rfl (by simp) (by simp) (by simp)).trans h.b0, (kp (.top 1) _ (show 1 < 5 by omega) rfl (by simp) (by simp) (by simp)).trans h.b1, hp, ?_, ?_, ?_⟩, rfl, ?_, hown⟩
  · intro u hu
    exact (h.win u hu).same (kp (.win u.n 0) _ ⟨by omega, u, hu, rfl⟩ rfl (by simp) (by simp) (by simp)) (kp (.win u.n 1) _ ⟨by omega, u, hu, rfl⟩ rfl (by simp) (by simp) (by simp)) (kp (.win u.n 2) _ ⟨by omega, u, hu, rfl⟩ rfl (by simp) (by simp) (by simp)) (fun i hi => kp (.win u.n 3) i ⟨by omega, u, hu, rfl⟩ hi (by simp) (by simp) (by simp))
  · rcases hg with e | hg
    · have : M.setT g' = M := by
        unfold Mm.setT
        have : (fun k => if k = 4 then g' else M.t k) = M.t := by funext k; split; (rename_i e'; rw [e', e]); rfl
        rw [this]
      rw [this]; exact h.inj
    · exact inj_of h.inj w.heap.size (fun i hi => h.lt hi) (fun p => p = .top 4) (fun p hp' hn => ⟨hp', setT_blk hn⟩) (fun p i _ e hb => by
        subst e
        obtain rfl : g' = i := by simpa [Mm.blk, Mm.setT] using hb
        exact hg) (fun p q i _ _ e1 e2 _ _ => by rw [e1, e2])
  · intro i hi
    rcases hown i hi with e | e
    · exact h.two i e
    · omega
  · exact hk.mono (fun i e => by rcases e with rfl | rfl | rfl; exact own_top M L 2 (by omega); exact own_top M L 3 (by omega); exact own_top M L 4 (by omega))
/-- One call behind another. -/
theorem DPostG.after {M1 : Mm} {L1 L2 : List Wn} {last2 : Int} {s2 : Rs} {t2 : Pt} {w w1 w2 : World} {r : Value} {e : Ending} (ht : M1.t 0 = M.t 0) (K : Keep (M.own L) w w1) (O : ∀ i, M1.own L1 i → M.own L i ∨ w.heap.size ≤ i) (h : DPostG M1 L1 L2 last2 s2 t2 w1 r e w2) : DPostG M L L2 last2 s2 t2 w r e w2 := by
  obtain ⟨M', N', e, D, ht', K', O'⟩ := h
  refine ⟨M', N', e, D, ht'.trans ht, K.trans K' (fun i hi ho => ?_), fun i hi => ?_⟩
  · rcases O i ho with a | a
    · exact a
    · omega
  · rcases O' i hi with a | a
    · exact O i a
    · exact .inr (Nat.le_trans K.size a)
theorem dShape (ok : DOk L last) (w : World) (h : DkAt w M L last N s t) (v : Wn) (hv : v ∈ L) (W' H' : Nat) (w1 : 1 ≤ W') (w2 : W' ≤ 40) (h1 : 1 ≤ H') (h2 : H' ≤ 20) :
    Calls Tryz.prog 114 #[M.ptr v.n, .int .i64 W', .int .i64 H'] w (DPost M L (updL L v.n (fun u => { u with W := W', H := H', G := sizedG v.W v.H W' v.G })) last N s t w (.tuple #[])) := by
  have hw := wShape v (M.b v.n) (M.c v.n) (M.g v.n) (M.pp v.par) (M.s v.n) (M.ptrs (kids L v.n)) W' H' w (h.win v hv) w1 w2 h1 h2
  refine hw.mono ?_
  rintro e wa ⟨g', rfl, G1, K1, hg⟩
  exact h.shape ok hv W' H' g' _ (h.win v hv).wf.sized G1 K1 hg _
set_option maxHeartbeats 1000000 in
theorem dResize (ok : DOk L last) (w : World) (h : DkAt w M L last N s t) (hs : s.Ok) (v : Wn) (hv : v ∈ L) (hv0 : v.n = 0) (W' H' : Nat) (w1 : 1 ≤ W') (w2 : W' ≤ 40) (h1 : 1 ≤ H') (h2 : H' ≤ 20) :
    Calls Tryz.prog 57 #[.pointer (some ⟨M.t 1, 0, none⟩), .int .i64 W', .int .i64 H'] w (DPostG M L (updL L v.n (fun u => { u with W := W', H := H', G := sizedG v.W v.H W' v.G })) last (resizeR s W' H') t w (.tuple #[])) := by
  have HD : Hid (DkAt w M L last N s t) := h
  have Hs : Hid s.Ok := hs
  have d0 := h.d0
  have d2 := h.d2
  rw [← hv0] at d0
  clear h hs hv0
  have Hsh : Hid (Calls Tryz.prog 114 #[M.ptr v.n, .int .i64 W', .int .i64 H'] w (DPost M L (updL L v.n (fun u => { u with W := W', H := H', G := sizedG v.W v.H W' v.G })) last N s t w (.tuple #[]))) := dShape ok w HD.out v hv W' H' w1 w2 h1 h2
  go_enter Tryz.func57, Tryz.ntmps57
  go_wp2_with fail
  go_at_call 114
  refine Hsh.out.mono ?_
  rintro e wa ⟨M1, rfl, D1, ht, K1, O1⟩
  have HD1 : Hid (DkAt wa M1 (updL L v.n (fun u => { u with W := W', H := H', G := sizedG v.W v.H W' v.G })) last N s t) := D1
  have HK1 : Hid (Keep (M.own L) w wa) := K1
  have HO1 : Hid (∀ i, M1.own (updL L v.n (fun u => { u with W := W', H := H', G := sizedG v.W v.H W' v.G })) i → M.own L i ∨ w.heap.size ≤ i) := O1
  have Ht : Hid (M1.t = M.t) := ht
  clear D1 K1 O1 ht d0 d2
  have d2 := HD1.out.d2
  rw [Ht.out] at d2
  go_wp2_with fail
  go_at_call 59
  refine (sResize (M.t 2) (M1.t 3) (M1.t 4) N s t W' H' _ (by rw [← Ht.out]; exact HD1.out.scr) Hs.out w1 w2 h1 h2).mono ?_
  rintro e wb ⟨g', N', rfl, P2, K2, hg⟩
  have HP : Hid (DPostG M L (updL L v.n (fun u => { u with W := W', H := H', G := sizedG v.W v.H W' v.G })) last (resizeR s W' H') t w (.tuple #[]) (.returned (.tuple #[])) wb) := by
    rw [← Ht.out] at P2 K2
    exact DPostG.after (by rw [Ht.out]) HK1.out HO1.out (HD1.out.rescreen P2 K2 hg (.tuple #[]))
  clear P2 K2 hg d2
  go_wp2_with fail
  go_end0
  exact HP.out
theorem kResize (ok : DOk L last) (w : World) (h : DkAt w M L last N s t) (hs : s.Ok) (v : Wn) (hv : v ∈ L) (hv0 : v.n = 0) (W' H' : Nat) (hz : sizeB W' H' = true) :
    Calls Tryz.prog 18 #[.pointer (some ⟨M.t 0, 0, none⟩), .int .i64 W', .int .i64 H'] w (DPostG M L (updL L v.n (fun u => { u with W := W', H := H', G := sizedG v.W v.H W' v.G })) last (resizeR s W' H') t w (.int .i64 0)) := by
  have HD : Hid (DkAt w M L last N s t) := h
  have Hs : Hid s.Ok := hs
  have c0 := h.c0
  have hz' := sizeB_iff.1 hz
  clear h hs
  go_enter Tryz.func18, Tryz.ntmps18
  go_wp2_with (first | (go_at_call 41; refine (kNone _ HD.out).mono ?_; rintro e w' ⟨rfl, hw'⟩; replace hw' := hw'.symm; subst hw') | (go_at_call 46; refine (pMayBe _ _ _).mono ?_; rintro e w' ⟨rfl, hw'⟩; replace hw' := hw'.symm; subst hw'))
  go_at_call 57
  refine (dResize ok _ HD.out Hs.out v hv hv0 W' H' (by omega) (by omega) (by omega) (by omega)).mono ?_
  rintro e wa ⟨M', N', rfl, D, ht, K, O⟩
  have HP : Hid (DPostG M L (updL L v.n (fun u => { u with W := W', H := H', G := sizedG v.W v.H W' v.G })) last (resizeR s W' H') t w (.int .i64 0) (.returned (.int .i64 0)) wa) := ⟨M', N', rfl, D, ht, K, O⟩
  clear D K O ht
  go_wp2_with fail
  go_ret
  exact HP.out
end
end Go.Proofs.YtjlfibhbfdckpaaGreatDoor

/- Desks, plain: what each call keeps. -/
namespace Go.Proofs.YtjlfibhbfdckpaaGreatDoor
open Go.RowKit
section
variable {L : List Wn} {last : Int}
theorem sub_up' (nd : (L.map Wn.n).Nodup) {o : Int} {u : Wn} (hu : u ∈ L) (hne : u.n ≠ o) : Sub L o u.n ↔ Sub L o u.par := by
  constructor
  · intro h
    rcases h.last with e | ⟨v, hv, e, hs⟩
    · exact absurd e hne
    · obtain rfl := nd_inj nd hv hu e
      exact hs
  · exact fun h => .step hu h
theorem nd_filtN (nd : (L.map Wn.n).Nodup) (n : Int) : ((filtN L n).map Wn.n).Nodup := List.Nodup.sublist (List.Sublist.map _ List.filter_sublist) nd
theorem filtN_len (nd : (L.map Wn.n).Nodup) {v : Wn} (hv : v ∈ L) : (filtN L v.n).length + 1 = L.length := by
  obtain ⟨j, h1, _, h3⟩ := idx_of nd hv
  have hl : j < L.length := (List.getElem?_eq_some_iff.1 h1).1
  rw [h3, List.length_eraseIdx, if_pos hl]
  omega
theorem filtN_head {r : Wn} {t : List Wn} {n : Int} (h : L = r :: t) (hr : r.n ≠ n) : filtN L n = r :: filtN t n := by
  rw [h]
  unfold filtN
  rw [List.filter_cons_of_pos (by simpa using hr)]
theorem ok_top (ok : DOk L last) {v q : Wn} (hv : v ∈ L) (hv0 : v.n ≠ 0) (hq : q ∈ L) (hns : ¬ Sub L v.n q.n) : DOk (topL L v q.n) last := by
  obtain ⟨rk, K, T⟩ := ok.tree
  classical
  have mem : ∀ u, u ∈ topL L v q.n → (u ∈ L ∧ u.n ≠ v.n) ∨ u = { v with par := q.n } := fun u hu => by
    rcases List.mem_append.1 hu with h | h
    · exact .inl (mem_filtN.1 h)
    · exact .inr (by simpa using h)
  have hq0 := T.pos hq
  refine ⟨⟨fun m => if Sub L v.n m then rk m + rk q.n + 1 else rk m, K + rk q.n + 1, ?_, ?_, ?_, ?_⟩, ?_, ?_, ?_⟩
  · obtain ⟨r, t, e, h0, h1, h2⟩ := T.head
    refine ⟨r, filtN t v.n ++ [{ v with par := q.n }], ?_, h0, h1, fun u hu => ?_⟩
    · show filtN L v.n ++ _ = _
      rw [filtN_head e (by rw [h0]; exact fun e => hv0 e.symm)]; rfl
    · rcases List.mem_append.1 hu with hu | hu
      · exact h2 u (mem_filtN.1 hu).1
      · obtain rfl : u = { v with par := q.n } := by simpa using hu
        exact ⟨by show 1 ≤ v.n; have := T.pos hv; omega, hq0⟩
  · show ((filtN L v.n ++ [{ v with par := q.n }]).map Wn.n).Nodup
    rw [List.map_append, List.nodup_append]
    refine ⟨nd_filtN T.nd _, by simp, fun a ha b hb e => ?_⟩
    obtain ⟨u, hu, rfl⟩ := List.mem_map.1 ha
    obtain rfl : b = v.n := by simpa using hb
    exact (mem_filtN.1 hu).2 e
  · intro u hu hp
    have hin : ∀ x, x ∈ L → ∃ y ∈ topL L v q.n, y.n = x.n := fun x hx => by
      by_cases e : x.n = v.n
      · exact ⟨{ v with par := q.n }, List.mem_append.2 (.inr (by simp)), e.symm⟩
      · exact ⟨x, List.mem_append.2 (.inl (mem_filtN.2 ⟨hx, e⟩)), rfl⟩
    rcases mem u hu with ⟨huL, hne⟩ | rfl
    · obtain ⟨⟨x, hx, hxn⟩, hr⟩ := T.up u huL hp
      obtain ⟨y, hy, hyn⟩ := hin x hx
      refine ⟨⟨y, hy, hyn.trans hxn⟩, ?_⟩
      have := sub_up' T.nd huL hne
      by_cases hs : Sub L v.n u.n
      · show (if Sub L v.n u.par then _ else _) < (if Sub L v.n u.n then _ else _)
        rw [if_pos (this.1 hs), if_pos hs]; omega
      · show (if Sub L v.n u.par then _ else _) < (if Sub L v.n u.n then _ else _)
        rw [if_neg (fun h => hs (this.2 h)), if_neg hs]; exact hr
    · obtain ⟨y, hy, hyn⟩ := hin q hq
      refine ⟨⟨y, hy, hyn⟩, ?_⟩
      show (if Sub L v.n q.n then rk q.n + rk q.n + 1 else rk q.n) < (if Sub L v.n v.n then rk v.n + rk q.n + 1 else rk v.n)
      rw [if_neg hns, if_pos .refl]
      omega
  · intro u hu
    have key : ∀ x ∈ L, (if Sub L v.n x.n then rk x.n + rk q.n + 1 else rk x.n) ≤ K + rk q.n + 1 := fun x hx => by
      have := T.le x hx
      split <;> omega
    rcases mem u hu with ⟨huL, _⟩ | rfl
    · exact key u huL
    · exact key v hv
  · intro u hu
    rcases mem u hu with ⟨huL, _⟩ | rfl
    · exact ok.le u huL
    · exact ok.le v hv
  · show (filtN L v.n ++ [_]).length ≤ 16
    have := filtN_len T.nd hv
    have := ok.len
    rw [List.length_append]
    simp
    omega
  · intro u hu
    rcases mem u hu with ⟨huL, _⟩ | rfl
    · exact ok.pl u huL
    · exact ok.pl v hv
theorem par_ns (ok : DOk L last) {v q : Wn} (hv : v ∈ L) (hq : q ∈ L) (hp : v.par = q.n) : ¬ Sub L v.n q.n := by
  obtain ⟨rk, K, T⟩ := ok.tree
  intro hs
  have h1 := (Sub.rank T (T.pos hv) hs).1
  have h2 := (T.up v hv (by rw [hp]; exact T.pos hq)).2
  rw [hp] at h2
  omega
theorem ok_bot (ok : DOk L last) {v : Wn} (hv : v ∈ L) (hv0 : v.n ≠ 0) : DOk (botL L v) last := by
  obtain ⟨rk, K, T⟩ := ok.tree
  obtain ⟨r, t, e, h0, h1, h2⟩ := T.head
  have hf : filtN L v.n = r :: filtN t v.n := filtN_head e (by rw [h0]; exact fun e => hv0 e.symm)
  have hb : botL L v = r :: v :: filtN t v.n := by unfold botL; rw [hf]
  have hmem : ∀ u, u ∈ botL L v ↔ u ∈ L := fun u => by
    rw [mem_botL, mem_filtN]
    constructor
    · rintro (rfl | ⟨h, _⟩)
      · exact hv
      · exact h
    · intro h
      by_cases e : u.n = v.n
      · exact .inl (nd_inj T.nd h hv e)
      · exact .inr ⟨h, e⟩
  refine ⟨⟨rk, K, ?_, ?_, ?_, ?_⟩, ?_, ?_, ?_⟩
  · refine ⟨r, v :: filtN t v.n, hb, h0, h1, fun u hu => ?_⟩
    rcases List.mem_cons.1 hu with rfl | hu
    · rw [e] at hv
      rcases List.mem_cons.1 hv with rfl | hv
      · exact absurd h0 hv0
      · exact h2 u hv
    · exact h2 u (mem_filtN.1 hu).1
  · rw [hb]
    have nd := nd_filtN T.nd v.n
    rw [hf] at nd
    simp only [List.map_cons, List.nodup_cons, List.mem_cons, List.mem_map] at nd ⊢
    refine ⟨?_, ?_, nd.2⟩
    · rintro (e | h)
      · exact hv0 (e.symm.trans h0)
      · exact nd.1 h
    · rintro ⟨u, hu, e⟩
      exact (mem_filtN.1 hu).2 e
  · intro u hu hp
    obtain ⟨⟨x, hx, hxn⟩, hr⟩ := T.up u ((hmem u).1 hu) hp
    exact ⟨⟨x, (hmem x).2 hx, hxn⟩, hr⟩
  · exact fun u hu => T.le u ((hmem u).1 hu)
  · exact fun u hu => ok.le u ((hmem u).1 hu)
  · rw [botL_botM, botM_len]
    have := filtN_len T.nd hv
    have := ok.len
    omega
  · exact fun u hu => ok.pl u ((hmem u).1 hu)
theorem root_ns (ok : DOk L last) {v : Wn} (hv : v ∈ L) (hv0 : v.n ≠ 0) : ¬ Sub L v.n 0 := by
  obtain ⟨rk, K, T⟩ := ok.tree
  intro hs
  obtain ⟨r, hr, h0, hp⟩ := T.rootIn
  rw [← h0] at hs
  have := (sub_up' T.nd hr (by rw [h0]; exact fun e => hv0 e.symm)).1 hs
  rw [hp] at this
  have := (Sub.rank T (T.pos hv) this).2
  omega
theorem ok_del (ok : DOk L last) {v : Wn} (hv : v ∈ L) (hv0 : v.n ≠ 0) : DOk (delL L v.n) last := by
  obtain ⟨rk, K, T⟩ := ok.tree
  have sub : (delL L v.n).Sublist L := List.filter_sublist
  refine ⟨⟨rk, K, ?_, ?_, ?_, ?_⟩, ?_, ?_, ?_⟩
  · obtain ⟨r, t, e, h0, h1, h2⟩ := T.head
    refine ⟨r, t.filter (fun u => !(@decide (Sub L v.n u.n) (Classical.propDecidable _))), ?_, h0, h1, fun u hu => h2 u (List.mem_filter.1 hu).1⟩
    have hr : r ∈ delL L v.n := mem_delL.2 ⟨by rw [e]; exact List.mem_cons_self, by rw [h0]; exact root_ns ok hv hv0⟩
    unfold delL
    conv => lhs; rw [show L.filter (fun u => !(@decide (Sub L v.n u.n) (Classical.propDecidable _))) = (r :: t).filter (fun u => !(@decide (Sub L v.n u.n) (Classical.propDecidable _))) from congrArg (List.filter _) e]
    rw [List.filter_cons_of_pos]
    simpa using (mem_delL.1 hr).2
  · exact List.Nodup.sublist (List.Sublist.map _ sub) T.nd
  · intro u hu hp
    obtain ⟨huL, hun⟩ := mem_delL.1 hu
    obtain ⟨⟨x, hx, hxn⟩, hr⟩ := T.up u huL hp
    refine ⟨⟨x, mem_delL.2 ⟨hx, fun hs => hun (.step huL (by rw [← hxn]; exact hs))⟩, hxn⟩, hr⟩
  · exact fun u hu => T.le u (sub.subset hu)
  · exact fun u hu => ok.le u (sub.subset hu)
  · exact Nat.le_trans sub.length_le ok.len
  · exact fun u hu => ok.pl u (sub.subset hu)
end
end Go.Proofs.YtjlfibhbfdckpaaGreatDoor

/- Flush: pens of windows' cells are those that may be: plain. -/
namespace Go.Proofs.YtjlfibhbfdckpaaGreatDoor
open Wd (wd)
/-- Pens that may be. -/
def Pens (W H : Nat) (G : Nat → Nat → Cel) : Prop := ∀ a b, a < W → b < H → (G a b).n.Ok
def PensOk (L : List Wn) : Prop := ∀ v ∈ L, Pens v.W v.H v.G
theorem plain_ok : Pn.plain.Ok := by unfold Pn.Ok Pn.plain; decide
theorem penB_ok {p : Pn} (h : penB p = true) : p.Ok := penB_iff.1 h
theorem pens_plain (W H : Nat) : Pens W H (fun _ _ => blk Pn.plain) := fun _ _ _ _ => plain_ok
section
variable {W H : Nat} {G : Nat → Nat → Cel}
theorem Pens.upd (h : Pens W H G) (x y : Nat) {c : Cel} (hc : c.n.Ok) : Pens W H (upd G x y c) := fun a b ha hb => by
  unfold Go.Proofs.YtjlfibhbfdckpaaGreatDoor.upd
  split
  · exact hc
  · exact h a b ha hb
theorem Pens.set (h : Pens W H G) (x y : Int) {c : Cel} (hc : c.n.Ok) : Pens W H (setG W H G x y c) := by
  unfold setG
  split
  · rename_i hin
    have hin := inG_iff.1 hin
    have h1 : (G x.toNat y.toNat).n.Ok := h _ _ (by omega) (by omega)
    split
    · exact (h.upd _ _ (by rw [blk_n]; exact h1)).upd _ _ hc
    · split
      · exact (h.upd _ _ (by rw [blk_n]; exact h1)).upd _ _ hc
      · exact h.upd _ _ hc
  · exact h
theorem Pens.write (h : Pens W H G) (x y r : Int) {p : Pn} (hp : p.Ok) : Pens W H (writeG W H G x y r p) := by
  unfold writeG
  split
  · exact h.set x y hp
  · have h2 := (h.set x y (c := blk p) (by rw [blk_n]; exact hp)).set (x + 1) y (c := blk p) (by rw [blk_n]; exact hp)
    split
    · exact (h2.upd _ _ hp).upd _ _ hp
    · exact h2
theorem Pens.writeAll {y : Int} {p : Pn} (hp : p.Ok) : ∀ (l : List Int) (x : Int) {G : Nat → Nat → Cel}, Pens W H G → Pens W H (Go.Proofs.YtjlfibhbfdckpaaGreatDoor.writeAll W H y p x l G)
  | [], _, _, h => h
  | r :: l, x, _, h => Pens.writeAll hp l (x + wd r) (h.write x y r hp)
theorem Pens.wrt (h : Pens W H G) (P : Nat → Nat → Bool) {v : Nat → Nat → Cel} (hv : ∀ a b, a < W → b < H → P a b = true → (v a b).n.Ok) : Pens W H (wrt G P v) := fun a b ha hb => by
  unfold Go.Proofs.YtjlfibhbfdckpaaGreatDoor.wrt
  split
  · rename_i hP; exact hv a b ha hb hP
  · split
    · rw [blk_n]; exact h a b ha hb
    · exact h a b ha hb
theorem Pens.fill (h : Pens W H G) (x y ww hh : Int) {p : Pn} (hp : p.Ok) : ∀ j, Pens W H (fillJ W x y ww hh p G j) := by
  intro j
  induction j with
  | zero => exact h
  | succ j ih =>
    unfold fillJ
    split
    · exact ih.wrt _ (fun a b _ _ _ => by rw [blk_n]; exact hp)
    · exact ih
theorem Pens.scroll (h : Pens W H G) (top bot n : Int) (ht : 0 ≤ top) (hb : bot < H) {p : Pn} (hp : p.Ok) : Pens W H (scrollG top bot n p G) := fun a b ha hb' => by
  unfold scrollG
  split
  · split
    · exact h _ _ ha (by omega)
    · rw [blk_n]; exact hp
  · exact h _ _ ha hb'
theorem Pens.sized (h : Pens W H G) (W' H' : Nat) : Pens W' H' (sizedG W H W' G) := fun a b _ _ => by
  have h1 : ((if a < W ∧ b < H then G a b else blk Pn.plain) : Cel).n.Ok := by
    split
    · rename_i hc; exact h a b hc.1 hc.2
    · exact plain_ok
  unfold sizedG lastG
  simp only []
  generalize (if a < W ∧ b < H then G a b else blk Pn.plain) = c at h1 ⊢
  split
  · rw [blk_n]; exact h1
  · exact h1
end
section
variable {L : List Wn}
theorem PensOk.upd (h : PensOk L) (n : Int) {f : Wn → Wn} (hf : ∀ u ∈ L, u.n = n → Pens (f u).W (f u).H (f u).G) : PensOk (updL L n f) := by
  intro v hv
  unfold updL at hv
  obtain ⟨u, hu, rfl⟩ := List.mem_map.1 hv
  split
  · rename_i e; exact hf u hu e
  · exact h u hu
theorem PensOk.filt (h : PensOk L) (p : Wn → Bool) : PensOk (L.filter p) := fun v hv => h v (List.mem_filter.1 hv).1
theorem PensOk.del (h : PensOk L) (n : Int) : PensOk (delL L n) := h.filt _
theorem PensOk.app (h : PensOk L) {v : Wn} (hv : Pens v.W v.H v.G) : PensOk (L ++ [v]) := fun u hu => by
  rcases List.mem_append.1 hu with hu | hu
  · exact h u hu
  · obtain rfl : u = v := by simpa using hu
    exact hv
theorem PensOk.top (h : PensOk L) {v : Wn} (hv : v ∈ L) (p : Int) : PensOk (topL L v p) := PensOk.app (h.filt _) (h v hv)
theorem PensOk.bot (h : PensOk L) {v : Wn} (hv : v ∈ L) : PensOk (botL L v) := by
  have h1 : PensOk (filtN L v.n) := h.filt _
  unfold botL
  split
  · intro u hu
    obtain rfl : u = v := by simpa using hu
    exact h _ hv
  · rename_i r t e
    rw [e] at h1
    intro u hu
    rcases List.mem_cons.1 hu with rfl | hu
    · exact h1 _ List.mem_cons_self
    · rcases List.mem_cons.1 hu with rfl | hu
      · exact h _ hv
      · exact h1 u (List.mem_cons_of_mem _ hu)
theorem pensOk_root (W H : Nat) : PensOk [rootW W H] := fun v hv => by
  obtain rfl : v = rootW W H := by simpa using hv
  exact pens_plain W H
end
/-- The root is of a size. -/
def Fits (L : List Wn) (W H : Nat) : Prop := ∀ r ∈ L, r.n = 0 → r.W = W ∧ r.H = H
section
variable {L : List Wn} {W H : Nat}
theorem Fits.upd (h : Fits L W H) (n : Int) {f : Wn → Wn} (hf : ∀ u ∈ L, u.n = n → (f u).n = 0 → u.n = 0 ∧ (f u).W = u.W ∧ (f u).H = u.H) : Fits (updL L n f) W H := by
  intro v hv
  unfold updL at hv
  obtain ⟨u, hu, rfl⟩ := List.mem_map.1 hv
  split
  · rename_i e
    intro h0
    obtain ⟨a, b, c⟩ := hf u hu e h0
    rw [b, c]
    exact h u hu a
  · exact h u hu
theorem Fits.filt (h : Fits L W H) (p : Wn → Bool) : Fits (L.filter p) W H := fun v hv => h v (List.mem_filter.1 hv).1
theorem Fits.del (h : Fits L W H) (n : Int) : Fits (delL L n) W H := h.filt _
theorem Fits.app (h : Fits L W H) {v : Wn} (hv : v.n = 0 → v.W = W ∧ v.H = H) : Fits (L ++ [v]) W H := fun u hu => by
  rcases List.mem_append.1 hu with hu | hu
  · exact h u hu
  · obtain rfl : u = v := by simpa using hu
    exact hv
theorem Fits.top (h : Fits L W H) {v : Wn} (hv : v ∈ L) (p : Int) : Fits (topL L v p) W H := Fits.app (h.filt _) (h v hv)
theorem Fits.bot (h : Fits L W H) {v : Wn} (hv : v ∈ L) : Fits (botL L v) W H := by
  have h1 : Fits (filtN L v.n) W H := h.filt _
  unfold botL
  split
  · intro u hu
    obtain rfl : u = v := by simpa using hu
    exact h _ hv
  · rename_i r t e
    rw [e] at h1
    intro u hu
    rcases List.mem_cons.1 hu with rfl | hu
    · exact h1 _ List.mem_cons_self
    · rcases List.mem_cons.1 hu with rfl | hu
      · exact h _ hv
      · exact h1 u (List.mem_cons_of_mem _ hu)
end
theorem resizeR_fl {s : Rs} (h : s.Fl) {W H : Nat} (w1 : 1 ≤ W) (w2 : W ≤ 40) (h1 : 1 ≤ H) (h2 : H ≤ 20) : (resizeR s W H).Fl :=
  ⟨resizeR_ok h.ok w1 w2 h1 h2, h.B, rfl, rfl, h.pen⟩
theorem newR_fl {W H : Nat} (w1 : 1 ≤ W) (w2 : W ≤ 40) (h1 : 1 ≤ H) (h2 : H ≤ 20) : (newR W H).Fl :=
  ⟨newR_ok w1 w2 h1 h2, rfl, rfl, rfl, plain_ok⟩
/-- What a resize makes of a screen. -/
def rszR (x y : Int) (s : Rs) : Rs := if sizeB x y = true then resizeR s x.toNat y.toNat else s
theorem DkAt.winsOk {w : World} {M : Mm} {L : List Wn} {last : Int} {N : Nat} {s : Rs} {t : Pt} (h : DkAt w M L last N s t) (p : PensOk L) : WinsOk L := fun v hv => ⟨(h.win v hv).wf, p v hv⟩
end Go.Proofs.YtjlfibhbfdckpaaGreatDoor

/- The program's calls alone, and what each keeps. -/
namespace Go.Proofs.YtjlfibhbfdckpaaGreatDoor
open Go.RowKit
section
variable {L : List Wn} {last : Int}
theorem at_of' (ok : DOk L last) (n : Int) : (∃ v ∈ L, v.n = n ∧ ∃ j, j < L.length ∧ L[j]? = some v ∧ (∀ i u, i < j → L[i]? = some u → u.n ≠ n) ∧ filtN L n = L.eraseIdx j ∧ (j = 0 ↔ n = 0)) ∨ hasN L n = false := by
  obtain ⟨rk, K, T⟩ := ok.tree
  by_cases h : hasN L n = true
  · left
    obtain ⟨v, hv, rfl⟩ := hasN_iff.1 h
    obtain ⟨j, h1, h2, h3⟩ := idx_of T.nd hv
    refine ⟨v, hv, rfl, j, (List.getElem?_eq_some_iff.1 h1).1, h1, h2, h3, ?_⟩
    obtain ⟨r, T', e, e1, e2, e3⟩ := T.head
    constructor
    · rintro rfl
      rw [e] at h1
      obtain rfl : r = v := by simpa using h1
      exact e1
    · intro h0
      by_cases hj : j = 0
      · exact hj
      · exact absurd (e1.trans h0.symm) (h2 0 r (by omega) (by rw [e]; rfl))
  · right; simpa using h
theorem child_ok' (ok : DOk L last) {n : Int} (he : childE L n = 0) : ∃ v ∈ L, v.n = n ∧ v.n ≠ 0 ∧ v.par ≠ -1 ∧ (∃ o ∈ L, v.par = o.n ∧ v.n ≠ o.n) ∧ ∃ j : Nat, j ≠ 0 ∧ L[j]? = some v ∧ ∀ (i : Nat) (u : Wn), i < j → L[i]? = some u → u.n ≠ v.n := by
  obtain ⟨rk, K, T⟩ := ok.tree
  unfold childE at he
  rcases at_of' ok n with ⟨v, hv, rfl, j, hjl, hj, hne, _, h0⟩ | hn
  · have hh : hasN L v.n = true := hasN_iff.2 ⟨v, hv, rfl⟩
    rw [if_neg (by simp [hh])] at he
    have e0 : v.n ≠ 0 := fun e => by rw [if_pos e] at he; omega
    have hp : v.par ≠ -1 := fun e => e0 ((T.zero hv).2 e)
    have hp0 : 0 ≤ v.par := by rcases T.parNot hv with e | e <;> omega
    obtain ⟨⟨o, ho, hon⟩, hr⟩ := T.up v hv hp0
    refine ⟨v, hv, rfl, e0, hp, ⟨o, ho, hon.symm, fun e => ?_⟩, j, fun e => e0 (h0.1 e), hj, hne⟩
    rw [hon] at e
    rw [e] at hr
    omega
  · rw [if_pos hn] at he; omega
theorem has_ok' (ok : DOk L last) {n : Int} (he : hasN L n = true) : ∃ v ∈ L, v.n = n ∧ ∃ j : Nat, L[j]? = some v ∧ ∀ (i : Nat) (u : Wn), i < j → L[i]? = some u → u.n ≠ v.n := by
  rcases at_of' ok n with ⟨v, hv, rfl, j, hjl, hj, hne, _, h0⟩ | hn
  · exact ⟨v, hv, rfl, j, hj, hne⟩
  · rw [hn] at he; simp at he
theorem Calls.below' {f : Nat} {a : Array Value} {w : World} {r : Value} (h : Calls Tryz.prog f a w fun e w' => e = .returned r ∧ w' = w) : Calls Tryz.prog f a w fun e w' => e = .returned r ∧ Below w.heap.size w w' :=
  h.mono (by rintro e w' ⟨rfl, rfl⟩; exact ⟨rfl, Below.refl _ _⟩)
end
/-- One step of the program's desk: c is the error. -/
structure Tx (fx : Nat) (a : Option Addr → Array Value) (L : List Wn) (last : Int) (L' : List Wn) (last' : Int) (r : Value) (c : Int) (f : Rs → Rs) : Prop where
  ok : DOk L' last'
  le : last ≤ last' ∧ last' ≤ last + 1
  pens : PensOk L → PensOk L'
  fit : ∀ s : Rs, Fits L s.W s.H → Fits L' (f s).W (f s).H
  fl : ∀ s : Rs, s.Fl → (f s).Fl
  so : ∀ s : Rs, s.Ok → (f s).Ok
  err : c ≠ 0 → L' = L ∧ last' = last
  x : ∀ (w : World) (M : Mm) (N : Nat) (s : Rs) (t : Pt), s.Ok → DkAt w M L last N s t → Calls Tryz.prog fx (a (some ⟨M.t 0, 0, none⟩)) w (DPostG M L L' last' (f s) t w r)
section
variable {L : List Wn} {last : Int}
theorem Tx.no {fx : Nat} {a : Option Addr → Array Value} {r : Value} {c : Int} (ok : DOk L last)
    (hx : ∀ (w : World) (M : Mm) (N : Nat) (s : Rs) (t : Pt), DkAt w M L last N s t → Calls Tryz.prog fx (a (some ⟨M.t 0, 0, none⟩)) w fun e w' => e = .returned r ∧ Below w.heap.size w w') : Tx fx a L last L last r c id :=
  ⟨ok, ⟨Int.le_refl _, by omega⟩, id, fun _ h => h, fun _ h => h, fun _ h => h, fun _ => ⟨rfl, rfl⟩, fun w M N s t _ h => (hx w M N s t h).mono (by rintro e w' ⟨rfl, b⟩; exact (DPost.stay h b).toG)⟩
theorem Tx.yes {fx : Nat} {a : Option Addr → Array Value} {r : Value} {L' : List Wn} {last' : Int} (ok : DOk L' last') (le : last ≤ last' ∧ last' ≤ last + 1) (pens : PensOk L → PensOk L') (fit : ∀ W H : Nat, Fits L W H → Fits L' W H)
    (hx : ∀ (w : World) (M : Mm) (N : Nat) (s : Rs) (t : Pt), DkAt w M L last N s t → Calls Tryz.prog fx (a (some ⟨M.t 0, 0, none⟩)) w (DPost M L L' last' N s t w r)) : Tx fx a L last L' last' r 0 id :=
  ⟨ok, le, pens, fun _ h => fit _ _ h, fun _ h => h, fun _ h => h, fun h => absurd rfl h, fun w M N s t _ h => (hx w M N s t h).mono (fun _ _ p => p.toG)⟩
theorem txShow (ok : DOk L last) (n : Int) (b : Bool) : ∃ L' c, Tx 53 (fun p => #[.pointer p, .int .i64 n, .bool b]) L last L' last (.int .i64 c) c id := by
  by_cases he : childE L n = 0
  · obtain ⟨v, hv, rfl, v0, hp, _, j, j0, hj, hne⟩ := child_ok' ok he
    exact ⟨updL L v.n (fun u => { u with sh := b }), 0, .yes (ok_updL ok (fun _ _ e => e) (fun _ _ _ => rfl) (fun u hu _ => ok.pl u hu)) ⟨Int.le_refl _, by omega⟩ (fun p => p.upd _ (fun u hu _ => p u hu)) (fun _ _ q => q.upd _ (fun _ _ _ e => ⟨e, rfl, rfl⟩)) (fun w M N s t h => kShow ok w h v hv hp b)⟩
  · exact ⟨L, _, .no ok (fun w M N s t h => Calls.below' (kShowNo ok w h n b he))⟩
theorem txMove (ok : DOk L last) (n x y : Int) : ∃ L' c, Tx 50 (fun p => #[.pointer p, .int .i64 n, .int .i64 x, .int .i64 y]) L last L' last (.int .i64 c) c id := by
  by_cases he : childE L n = 0
  · obtain ⟨v, hv, rfl, v0, hp, _, j, j0, hj, hne⟩ := child_ok' ok he
    cases hpl : placeB x y with
    | true => exact ⟨updL L v.n (fun u => { u with x := x, y := y }), 0, .yes (ok_updL ok (fun _ _ e => e) (fun _ _ _ => rfl) (fun u hu _ => placeB_iff.1 hpl)) ⟨Int.le_refl _, by omega⟩ (fun p => p.upd _ (fun u hu _ => p u hu)) (fun _ _ q => q.upd _ (fun _ _ _ e => ⟨e, rfl, rfl⟩)) (fun w M N s t h => kMove ok w h v hv hp x y hpl)⟩
    | false => exact ⟨L, 4, .no ok (fun w M N s t h => Calls.below' (kMoveOff ok w h v hv hp x y hpl))⟩
  · exact ⟨L, _, .no ok (fun w M N s t h => Calls.below' (kMoveNo ok w h n x y he))⟩
theorem txShape (ok : DOk L last) (n x y : Int) : ∃ L' c, Tx 51 (fun p => #[.pointer p, .int .i64 n, .int .i64 x, .int .i64 y]) L last L' last (.int .i64 c) c id := by
  by_cases he : childE L n = 0
  · obtain ⟨v, hv, rfl, v0, hp, _, j, j0, hj, hne⟩ := child_ok' ok he
    cases hpl : sizeB x y with
    | true =>
      obtain ⟨a1, a2, a3, a4⟩ := sizeB_iff.1 hpl
      obtain ⟨x, rfl⟩ := Int.eq_ofNat_of_zero_le (show 0 ≤ x by omega)
      obtain ⟨y, rfl⟩ := Int.eq_ofNat_of_zero_le (show 0 ≤ y by omega)
      exact ⟨updL L v.n (fun u => { u with W := x, H := y, G := sizedG v.W v.H x v.G }), 0, .yes (ok_updL ok (fun _ _ e => e) (fun _ _ _ => rfl) (fun u hu _ => ok.pl u hu)) ⟨Int.le_refl _, by omega⟩ (fun p => p.upd _ (fun u hu _ => (p v hv).sized x y)) (fun _ _ q => q.upd _ (fun u hu e0 e => absurd (e0.symm.trans e) v0)) (fun w M N s t h => kShape ok w h v hv hp x y hpl)⟩
    | false => exact ⟨L, 3, .no ok (fun w M N s t h => Calls.below' (kShapeOff ok w h v hv hp x y hpl))⟩
  · exact ⟨L, _, .no ok (fun w M N s t h => Calls.below' (kShapeNo ok w h n x y he))⟩
theorem txRaise (ok : DOk L last) (n : Int) (b : Bool) : ∃ L' c, Tx 52 (fun p => #[.pointer p, .int .i64 n, .bool b]) L last L' last (.int .i64 c) c id := by
  by_cases he : childE L n = 0
  · obtain ⟨v, hv, rfl, v0, hp, ⟨o, ho, hpo, hvo⟩, j, j0, hj, hne⟩ := child_ok' ok he
    cases b with
    | true =>
      refine ⟨topL L v o.n, 0, .yes (ok_top ok hv v0 ho (par_ns ok hv ho hpo)) ⟨Int.le_refl _, by omega⟩ (fun p => p.top hv _) (fun _ _ q => q.top hv _) (fun w M N s t h => kRaise ok w h v hv hp true _ (dRaiseUp ok w h v o hv ho hpo hvo))⟩
    | false => exact ⟨botL L v, 0, .yes (ok_bot ok hv v0) ⟨Int.le_refl _, by omega⟩ (fun p => p.bot hv) (fun _ _ q => q.bot hv) (fun w M N s t h => kRaise ok w h v hv hp false _ (dRaiseLow ok w h v o hv ho hpo hvo))⟩
  · exact ⟨L, _, .no ok (fun w M N s t h => Calls.below' (kRaiseNo ok w h n b he))⟩
theorem txDelete (ok : DOk L last) (n : Int) : ∃ L' c, Tx 49 (fun p => #[.pointer p, .int .i64 n]) L last L' last (.int .i64 c) c id := by
  by_cases he : childE L n = 0
  · obtain ⟨v, hv, rfl, v0, hp, ⟨o, ho, hpo, hvo⟩, j, j0, hj, hne⟩ := child_ok' ok he
    exact ⟨delL L v.n, 0, .yes (ok_del ok hv v0) ⟨Int.le_refl _, by omega⟩ (fun p => p.del _) (fun _ _ q => q.del _) (fun w M N s t h => kDelete ok w h v o hv ho hpo hvo hp)⟩
  · exact ⟨L, _, .no ok (fun w M N s t h => Calls.below' (kDeleteNo ok w h n he))⟩
theorem txGive (ok : DOk L last) (n m : Int) : ∃ L' c, Tx 54 (fun p => #[.pointer p, .int .i64 n, .int .i64 m]) L last L' last (.int .i64 c) c id := by
  obtain ⟨rk, K, T⟩ := ok.tree
  cases hm : hasN L m with
  | false => exact ⟨L, 1, .no ok (fun w M N s t h => Calls.below' (kGiveNone ok w h n m hm))⟩
  | true =>
    obtain ⟨q, hq, rfl, k, hk, hnk⟩ := has_ok' ok hm
    by_cases he : childE L n = 0
    · obtain ⟨v, hv, rfl, v0, hp, ⟨o, ho, hpo, hvo⟩, j, j0, hj, hne⟩ := child_ok' ok he
      by_cases hs : Sub L v.n q.n
      · exact ⟨L, 5, .no ok (fun w M N s t h => Calls.below' (kGiveLoop T ok w h v q hv hq hp hs))⟩
      · exact ⟨topL L v q.n, 0, .yes (ok_top ok hv v0 hq hs) ⟨Int.le_refl _, by omega⟩ (fun p => p.top hv _) (fun _ _ q => q.top hv _) (fun w M N s t h => kGive T ok w h v o q hv ho hq hpo hvo hs)⟩
    · exact ⟨L, _, .no ok (fun w M N s t h => Calls.below' (kGiveNo ok w h n q hq he))⟩
theorem txCreateYes (ok : DOk L last) (l0 : 0 ≤ last) (hl : last < 9223372036854775807) (v : Wn) (hv : v ∈ L) (x y : Int) (W H : Nat) (hpl : placeB x y = true) (hs : sizeB W H = true) (hlen : L.length < 16) :
    Tx 48 (fun p => #[.pointer p, .int .i64 v.n, .int .i64 x, .int .i64 y, .int .i64 W, .int .i64 H]) L last (L ++ [⟨last + 1, v.n, x, y, true, W, H, fun _ _ => blk Pn.plain⟩]) (last + 1) (.tuple #[.int .i64 (last + 1), .int .i64 0]) 0 id := by
  obtain ⟨rk, K, T⟩ := ok.tree
  obtain ⟨j, hj, hne, _⟩ := idx_of T.nd hv
  have hz := sizeB_iff.1 hs
  exact .yes (ok_create ok hv hlen x y W H _ (placeB_iff.1 hpl) true) ⟨by omega, Int.le_refl _⟩ (fun p => p.app (pens_plain W H)) (fun _ _ q => q.app (fun e => absurd e (by show ¬ last + 1 = 0; omega))) (fun w M N s t h => kCreate ok w h v hv x y W H (by omega) (by omega) (by omega) (by omega) hpl hlen hl)
theorem txCreate (ok : DOk L last) (l0 : 0 ≤ last) (hl : last < 9223372036854775807) (n x y W H : Int) : ∃ L' last' a c, Tx 48 (fun p => #[.pointer p, .int .i64 n, .int .i64 x, .int .i64 y, .int .i64 W, .int .i64 H]) L last L' last' (.tuple #[.int .i64 a, .int .i64 c]) c id := by
  by_cases he : createE L n x y W H = 0
  · unfold createE at he
    cases hn : hasN L n with
    | false => rw [if_pos hn] at he; omega
    | true =>
      rw [if_neg (by simp [hn])] at he
      cases hp : placeB x y with
      | false => rw [if_pos hp] at he; omega
      | true =>
        rw [if_neg (by simp [hp])] at he
        cases hs : sizeB W H with
        | false => rw [if_pos hs] at he; omega
        | true =>
          rw [if_neg (by simp [hs])] at he
          by_cases h16 : 16 ≤ L.length
          · rw [if_pos h16] at he; omega
          · obtain ⟨v, hv, rfl, _⟩ := has_ok' ok hn
            obtain ⟨a1, a2, a3, a4⟩ := sizeB_iff.1 hs
            obtain ⟨W, rfl⟩ := Int.eq_ofNat_of_zero_le (show 0 ≤ W by omega)
            obtain ⟨H, rfl⟩ := Int.eq_ofNat_of_zero_le (show 0 ≤ H by omega)
            exact ⟨_, _, _, _, txCreateYes ok l0 hl v hv x y W H hp hs (by omega)⟩
  · exact ⟨L, last, _, _, .no ok (fun w M N s t h => Calls.below' (kCreateNo ok w h n x y W H he))⟩
theorem txWriteYes (ok : DOk L last) (v : Wn) (hv : v ∈ L) (x y : Int) (hpl : placeB x y = true) (b : ByteArray) (hb : b.size ≤ 200) (p : Pn) (hpn : penB p = true) :
    Tx 31 (fun q => #[.pointer q, .int .i64 v.n, .int .i64 x, .int .i64 y, .string b, p.agg]) L last (updL L v.n (fun u => { u with G := writeAll v.W v.H y p x (runesG b b.size 0) v.G })) last (.int .i64 0) 0 id := by
  obtain ⟨rk, K, T⟩ := ok.tree
  obtain ⟨j, hj, hne, _⟩ := idx_of T.nd hv
  exact .yes (ok_updL ok (fun _ _ e => e) (fun _ _ _ => rfl) (fun u hu _ => ok.pl u hu)) ⟨Int.le_refl _, by omega⟩ (fun q => q.upd _ (fun u hu e => by rw [nd_inj T.nd hu hv e]; exact Pens.writeAll (penB_ok hpn) _ _ (q v hv))) (fun _ _ q => q.upd _ (fun _ _ _ e => ⟨e, rfl, rfl⟩)) (fun w M N s t h => kWrite ok w h v hv x y hpl b hb p hpn)
theorem txWrite (ok : DOk L last) (n x y : Int) (b : ByteArray) (p : Pn) : ∃ L' c, Tx 31 (fun q => #[.pointer q, .int .i64 n, .int .i64 x, .int .i64 y, .string b, p.agg]) L last L' last (.int .i64 c) c id := by
  by_cases he : writeE L n x y b p = 0
  · unfold writeE at he
    cases hn : hasN L n with
    | false => rw [if_pos hn] at he; omega
    | true =>
      rw [if_neg (by simp [hn])] at he
      cases hp : placeB x y with
      | false => rw [if_pos hp] at he; omega
      | true =>
        rw [if_neg (by simp [hp])] at he
        by_cases hb : 200 < b.size
        · rw [if_pos hb] at he; omega
        · rw [if_neg hb] at he
          cases hpn : penB p with
          | false => rw [if_pos hpn] at he; omega
          | true =>
            obtain ⟨v, hv, rfl, _⟩ := has_ok' ok hn
            exact ⟨_, _, txWriteYes ok v hv x y hp b (by omega) p hpn⟩
  · exact ⟨L, _, .no ok (fun w M N s t h => kWriteNo ok w h n x y b p he)⟩
theorem txFill (ok : DOk L last) (n x y ww hh : Int) (p : Pn) : ∃ L' c, Tx 33 (fun q => #[.pointer q, .int .i64 n, .int .i64 x, .int .i64 y, .int .i64 ww, .int .i64 hh, p.agg]) L last L' last (.int .i64 c) c id := by
  by_cases he : fillE L n x y ww hh p = 0
  · unfold fillE at he
    cases hn : hasN L n with
    | false => rw [if_pos hn] at he; omega
    | true =>
      rw [if_neg (by simp [hn])] at he
      cases hp : placeB x y with
      | false => rw [if_pos hp] at he; omega
      | true =>
        rw [if_neg (by simp [hp])] at he
        cases hr : rectB ww hh with
        | false => rw [if_pos hr] at he; omega
        | true =>
          rw [if_neg (by simp [hr])] at he
          cases hpn : penB p with
          | false => rw [if_pos hpn] at he; omega
          | true =>
            obtain ⟨v, hv, rfl, j, hj, hne⟩ := has_ok' ok hn
            exact ⟨updL L v.n (fun u => { u with G := fillJ v.W x y ww hh p v.G v.H }), _, .yes (ok_updL ok (fun _ _ e => e) (fun _ _ _ => rfl) (fun u hu _ => ok.pl u hu)) ⟨Int.le_refl _, by omega⟩ (fun q => q.upd _ (fun u hu e => by obtain ⟨rk, K, T⟩ := ok.tree; rw [nd_inj T.nd hu hv e]; exact (q v hv).fill x y ww hh (penB_ok hpn) _)) (fun _ _ q => q.upd _ (fun _ _ _ e => ⟨e, rfl, rfl⟩)) (fun w M N s t h => kFill ok w h v hv x y ww hh p hp hr hpn)⟩
  · exact ⟨L, _, .no ok (fun w M N s t h => kFillNo ok w h n x y ww hh p he)⟩
theorem txScroll (ok : DOk L last) (n k : Int) : ∃ L' c, Tx 35 (fun q => #[.pointer q, .int .i64 n, .int .i64 k]) L last L' last (.int .i64 c) c id := by
  cases hn : hasN L n with
  | false => exact ⟨L, 1, .no ok (fun w M N s t h => Calls.below' (kScrollNo ok w h n k hn))⟩
  | true =>
    obtain ⟨v, hv, rfl, j, hj, hne⟩ := has_ok' ok hn
    exact ⟨updL L v.n (fun u => { u with G := scrollG 0 ((v.H : Int) - 1) k Pn.plain v.G }), _, .yes (ok_updL ok (fun _ _ e => e) (fun _ _ _ => rfl) (fun u hu _ => ok.pl u hu)) ⟨Int.le_refl _, by omega⟩ (fun q => q.upd _ (fun u hu e => by obtain ⟨rk, K, T⟩ := ok.tree; rw [nd_inj T.nd hu hv e]; exact (q v hv).scroll 0 _ k (by omega) (by omega) plain_ok)) (fun _ _ q => q.upd _ (fun _ _ _ e => ⟨e, rfl, rfl⟩)) (fun w M N s t h => kScroll ok w h v hv k)⟩
end
end Go.Proofs.YtjlfibhbfdckpaaGreatDoor

/- Laid: three windows: plain mathematics. -/
namespace Go.Proofs.YtjlfibhbfdckpaaGreatDoor
open Wd (wd)
def oneW (x y : Int) : Wn := ⟨1, 0, x, y, true, 6, 3, fun _ _ => blk Pn.plain⟩
def twoW (v z : Int) (G : Nat → Nat → Cel) : Wn := ⟨2, 1, v, z, true, 4, 2, G⟩
def laidL (x y v z : Int) (G : Nat → Nat → Cel) : List Wn := [rootW 10 5, oneW x y, twoW v z G]
def laidRk (n : Int) : Nat := n.toNat
/-- What is to be seen. -/
def wantC (x y v z : Int) (l : List Int) (p : Pn) (k i : Int) : Cel :=
  if (x ≤ k ∧ k < x + 6 ∧ y ≤ i ∧ i < y + 3) ∧ i = y + z + 1 ∧ 0 ≤ k - x - v ∧ k - x - v < l.length then ⟨l.getD (k - x - v).toNat 0, 0, p⟩ else blk Pn.plain
/-- What the innermost window holds. -/
def lineG (l : List Int) (p : Pn) : Nat → Nat → Cel := fun a b => if b = 1 ∧ a < l.length then ⟨l.getD a 0, 0, p⟩ else blk Pn.plain
end Go.Proofs.YtjlfibhbfdckpaaGreatDoor
