/- Texts of the proof, one behind the other: PuP, DkAA, DkAB, FpJ. -/
import Derived.Test.YtjlfibhbfdckpaaGreatDoorK07
import Derived.Test.YtjlfibhbfdckpaaGreatDoorK09
import Derived.Test.YtjlfibhbfdckpaaGreatDoorK12
import Derived.Test.YtjlfibhbfdckpaaGreatDoorK18
import Derived.Deep.RegionWith
/- The program's screen: Resize. -/
namespace Go.Proofs.YtjlfibhbfdckpaaGreatDoor
open Go.RowKit
attribute [local go_sem ↓] Go.wp_at_zero Go.wp_at_succ
set_option maxHeartbeats 1000000 in
theorem sResize (bs bg g N : Nat) (s : Rs) (t : Pt) (W H : Nat) (w : World) (h : PrAt w bs bg g N s t) (ok : s.Ok) (w1 : 1 ≤ W) (w2 : W ≤ 40) (h1 : 1 ≤ H) (h2 : H ≤ 20) :
    Calls Tryz.prog 59 #[.pointer (some ⟨bs, 0, none⟩), .int .i64 W, .int .i64 H] w (PPost bs bg g w (resizeR s W H) t (.tuple #[])) := by
  have HP : Hid (PrAt w bs bg g N s t) := h
  have Hok : Hid s.Ok := ok
  have c0 := h.f0
  clear h ok
  go_enter Tryz.func59, Tryz.ntmps59
  go_wp2_with fail
  go_at_call 119
  refine (pSize bg g s.W s.H N W H s.G _ HP.out.gr Hok.out.wf w1 w2 h1 h2).mono ?_
  rintro e wa ⟨g1, rfl, G1, K1, hg1⟩
  have hlt := HP.out.lt
  have hne : bs ≠ bg ∧ bs ≠ g := ⟨HP.out.ne1, HP.out.ne2⟩
  have HP1 : Hid (PrAt wa bs bg g1 (H * W) { s with W := W, H := H, G := sizedG s.W s.H W s.G } t) := HP.out.cells _ (K1.block _ hlt (by omega)) G1 rfl (by omega)
  have HK1 : Hid (Keep (fun i => i = bs ∨ i = bg ∨ i = g) w wa) := K1.mono (fun _ h => Or.inr h)
  clear G1 K1 HP c0
  have c9 := HP1.out.f9
  have c10 := HP1.out.f10
  have fz := HP1.out.free
  go_wp2_with fail
  have HP2 : Hid (PrAt ((wa.setCell ⟨bs, 9, none⟩ (.int .i64 0)).setCell ⟨bs, 10, none⟩ (.int .i64 ((H : Int) - 1))) bs bg g1 (H * W) { s with W := W, H := H, top := 0, bot := (H : Int) - 1, G := sizedG s.W s.H W s.G } t) := (HP1.out.setTop 0).setBot _
  have HK2 : Hid (Keep (fun i => i = bs ∨ i = bg ∨ i = g) w ((wa.setCell ⟨bs, 9, none⟩ (.int .i64 0)).setCell ⟨bs, 10, none⟩ (.int .i64 ((H : Int) - 1)))) := (HK1.out.setCell ⟨bs, 9, none⟩ _ (fun _ => Or.inl rfl)).setCell ⟨bs, 10, none⟩ _ (fun _ => Or.inl rfl)
  generalize (wa.setCell ⟨bs, 9, none⟩ (.int .i64 0)).setCell ⟨bs, 10, none⟩ (.int .i64 ((H : Int) - 1)) = wb at *
  clear HP1 HK1 c9 c10 fz
  have c1 : wb.cell? ⟨bs, 1, none⟩ = some (.int .i64 s.x) := HP2.out.f1
  have c2 : wb.cell? ⟨bs, 2, none⟩ = some (.int .i64 s.y) := HP2.out.f2
  go_region_with (first | (go_at_call 120; refine (sGoTo bs bg g1 (H * W) { s with W := W, H := H, top := 0, bot := (H : Int) - 1, G := sizedG s.W s.H W s.G } t s.x s.y _ HP2.out.drew).mono ?_; rintro e w5 ⟨rfl, R5, K5⟩))
  all_goals
    go_end0
    refine ⟨g1, H * W, rfl, R5, (HK2.out.drew).trans K5 (fun i hi h => by omega), Or.inr hg1⟩
end Go.Proofs.YtjlfibhbfdckpaaGreatDoor

/- The program's desk: Resize. -/
namespace Go.Proofs.YtjlfibhbfdckpaaGreatDoor
open Go.RowKit
attribute [local go_sem ↓] Go.wp_at_zero Go.wp_at_succ
/-- What a call leaves; the screen may be another one. -/
def DPostG (M : Mm) (L L' : List Wn) (last' : Int) (s' : Rs) (t' : Pt) (w : World) (r : Value) (e : Ending) (w' : World) : Prop :=
  ∃ M' N', e = .returned r ∧ DkAt w' M' L' last' N' s' t' ∧ M'.t 0 = M.t 0 ∧ Keep (M.own L) w w' ∧ ∀ i, M'.own L' i → M.own L i ∨ w.heap.size ≤ i
def Mm.setT (M : Mm) (g : Nat) : Mm := { M with t := fun k => if k = 4 then g else M.t k }
section
variable {M : Mm} {L : List Wn} {last : Int} {N : Nat} {s : Rs} {t : Pt}
theorem DPost.toG {L' : List Wn} {last' : Int} {w w' : World} {r : Value} {e : Ending} (h : DPost M L L' last' N s t w r e w') : DPostG M L L' last' s t w r e w' := by
  obtain ⟨M', e, D, ht, K, O⟩ := h
  exact ⟨M', N, e, D, by rw [ht], K, O⟩
theorem setT_blk {g : Nat} {p : Pl} (hp : p ≠ .top 4) : (M.setT g).blk p = M.blk p := by
  cases p with
  | top k =>
    show some (if k = 4 then g else M.t k) = some (M.t k)
    rw [if_neg (fun e => hp (by rw [e]))]
  | win m k =>
    match k with
    | 0 => rfl
    | 1 => rfl
    | 2 => rfl
    | k + 3 => rfl
theorem DkAt.rescreen {w w' : World} {g' N' : Nat} {s' : Rs} {t' : Pt} (h : DkAt w M L last N s t) (hp : PrAt w' (M.t 2) (M.t 3) g' N' s' t') (hk : Keep (fun i => i = M.t 2 ∨ i = M.t 3 ∨ i = M.t 4) w w') (hg : g' = M.t 4 ∨ w.heap.size ≤ g') (r : Value) :
    DPostG M L L last s' t' w r (.returned r) w' := by
  have kp : ∀ (p : Pl) (i : Nat), p.ok L → M.blk p = some i → p ≠ .top 2 → p ≠ .top 3 → p ≠ .top 4 → w'.heap[i]? = w.heap[i]? := fun p i hp e n1 n2 n3 => hk.block i (h.lt ⟨p, hp, e⟩) (by
    rintro (e' | e' | e')
    · exact h.ne (p := p) (q := .top 2) hp (show 2 < 5 by omega) e rfl n1 e'
    · exact h.ne (p := p) (q := .top 3) hp (show 3 < 5 by omega) e rfl n2 e'
    · exact h.ne (p := p) (q := .top 4) hp (show 4 < 5 by omega) e rfl n3 e')
  have hown : ∀ i, (M.setT g').own L i → M.own L i ∨ w.heap.size ≤ i := fun i ⟨p, hp', e⟩ => by
    by_cases e4 : p = .top 4
    · subst e4
      obtain rfl : g' = i := by simpa [Mm.blk, Mm.setT] using e
      rcases hg with rfl | hg
      · exact .inl (own_top M L 4 (by omega))
      · exact .inr hg
    · exact .inl ⟨p, hp', by rw [← setT_blk e4]; exact e⟩
  have h0 := h.two _ (own_top M L 0 (by omega))
  have h1 := h.lt (own_top M L 0 (by omega))
  refine ⟨M.setT g', N', rfl, ⟨(kp (.top 0) _ (show 0 < 5 by omega) rfl (by simp) (by simp) (by simp)).trans h.b0, (kp (.top 1) _ (show 1 < 5 by omega) rfl (by simp) (by simp) (by simp)).trans h.b1, hp, ?_, ?_, ?_⟩, rfl, ?_, hown⟩
  · intro u hu
    exact (h.win u hu).same (kp (.win u.n 0) _ ⟨by omega, u, hu, rfl⟩ rfl (by simp) (by simp) (by simp)) (kp (.win u.n 1) _ ⟨by omega, u, hu, rfl⟩ rfl (by simp) (by simp) (by simp)) (kp (.win u.n 2) _ ⟨by omega, u, hu, rfl⟩ rfl (by simp) (by simp) (by simp)) (fun i hi => kp (.win u.n 3) i ⟨by omega, u, hu, rfl⟩ hi (by simp) (by simp) (by simp))
  · rcases hg with e | hg
    · have : M.setT g' = M := by
        unfold Mm.setT
        have : (fun k => if k = 4 then g' else M.t k) = M.t := by funext k; split; (rename_i e'; rw [e', e]); rfl
        rw [this]
      rw [this]; exact h.inj
    · exact inj_of h.inj w.heap.size (fun i hi => h.lt hi) (fun p => p = .top 4) (fun p hp' hn => ⟨hp', setT_blk hn⟩) (fun p i _ e hb => by
        subst e
        obtain rfl : g' = i := by simpa [Mm.blk, Mm.setT] using hb
        exact hg) (fun p q i _ _ e1 e2 _ _ => by rw [e1, e2])
  · intro i hi
    rcases hown i hi with e | e
    · exact h.two i e
    · omega
  · exact hk.mono (fun i e => by rcases e with rfl | rfl | rfl; exact own_top M L 2 (by omega); exact own_top M L 3 (by omega); exact own_top M L 4 (by omega))
/-- One call behind another. -/
theorem DPostG.after {M1 : Mm} {L1 L2 : List Wn} {last2 : Int} {s2 : Rs} {t2 : Pt} {w w1 w2 : World} {r : Value} {e : Ending} (ht : M1.t 0 = M.t 0) (K : Keep (M.own L) w w1) (O : ∀ i, M1.own L1 i → M.own L i ∨ w.heap.size ≤ i) (h : DPostG M1 L1 L2 last2 s2 t2 w1 r e w2) : DPostG M L L2 last2 s2 t2 w r e w2 := by
  obtain ⟨M', N', e, D, ht', K', O'⟩ := h
  refine ⟨M', N', e, D, ht'.trans ht, K.trans K' (fun i hi ho => ?_), fun i hi => ?_⟩
  · rcases O i ho with a | a
    · exact a
    · omega
  · rcases O' i hi with a | a
    · exact O i a
    · exact .inr (Nat.le_trans K.size a)
theorem dShape (ok : DOk L last) (w : World) (h : DkAt w M L last N s t) (v : Wn) (hv : v ∈ L) (W' H' : Nat) (w1 : 1 ≤ W') (w2 : W' ≤ 40) (h1 : 1 ≤ H') (h2 : H' ≤ 20) :
    Calls Tryz.prog 114 #[M.ptr v.n, .int .i64 W', .int .i64 H'] w (DPost M L (updL L v.n (fun u => { u with W := W', H := H', G := sizedG v.W v.H W' v.G })) last N s t w (.tuple #[])) := by
  have hw := wShape v (M.b v.n) (M.c v.n) (M.g v.n) (M.pp v.par) (M.s v.n) (M.ptrs (kids L v.n)) W' H' w (h.win v hv) w1 w2 h1 h2
  refine hw.mono ?_
  rintro e wa ⟨g', rfl, G1, K1, hg⟩
  exact h.shape ok hv W' H' g' _ (h.win v hv).wf.sized G1 K1 hg _
set_option maxHeartbeats 1000000 in
theorem dResize (ok : DOk L last) (w : World) (h : DkAt w M L last N s t) (hs : s.Ok) (v : Wn) (hv : v ∈ L) (hv0 : v.n = 0) (W' H' : Nat) (w1 : 1 ≤ W') (w2 : W' ≤ 40) (h1 : 1 ≤ H') (h2 : H' ≤ 20) :
    Calls Tryz.prog 57 #[.pointer (some ⟨M.t 1, 0, none⟩), .int .i64 W', .int .i64 H'] w (DPostG M L (updL L v.n (fun u => { u with W := W', H := H', G := sizedG v.W v.H W' v.G })) last (resizeR s W' H') t w (.tuple #[])) := by
  have HD : Hid (DkAt w M L last N s t) := h
  have Hs : Hid s.Ok := hs
  have d0 := h.d0
  have d2 := h.d2
  rw [← hv0] at d0
  clear h hs hv0
  have Hsh : Hid (Calls Tryz.prog 114 #[M.ptr v.n, .int .i64 W', .int .i64 H'] w (DPost M L (updL L v.n (fun u => { u with W := W', H := H', G := sizedG v.W v.H W' v.G })) last N s t w (.tuple #[]))) := dShape ok w HD.out v hv W' H' w1 w2 h1 h2
  go_enter Tryz.func57, Tryz.ntmps57
  go_wp2_with fail
  go_at_call 114
  refine Hsh.out.mono ?_
  rintro e wa ⟨M1, rfl, D1, ht, K1, O1⟩
  have HD1 : Hid (DkAt wa M1 (updL L v.n (fun u => { u with W := W', H := H', G := sizedG v.W v.H W' v.G })) last N s t) := D1
  have HK1 : Hid (Keep (M.own L) w wa) := K1
  have HO1 : Hid (∀ i, M1.own (updL L v.n (fun u => { u with W := W', H := H', G := sizedG v.W v.H W' v.G })) i → M.own L i ∨ w.heap.size ≤ i) := O1
  have Ht : Hid (M1.t = M.t) := ht
  clear D1 K1 O1 ht d0 d2
  have d2 := HD1.out.d2
  rw [Ht.out] at d2
  go_wp2_with fail
  go_at_call 59
  refine (sResize (M.t 2) (M1.t 3) (M1.t 4) N s t W' H' _ (by rw [← Ht.out]; exact HD1.out.scr) Hs.out w1 w2 h1 h2).mono ?_
  rintro e wb ⟨g', N', rfl, P2, K2, hg⟩
  have HP : Hid (DPostG M L (updL L v.n (fun u => { u with W := W', H := H', G := sizedG v.W v.H W' v.G })) last (resizeR s W' H') t w (.tuple #[]) (.returned (.tuple #[])) wb) := by
    rw [← Ht.out] at P2 K2
    exact DPostG.after (by rw [Ht.out]) HK1.out HO1.out (HD1.out.rescreen P2 K2 hg (.tuple #[]))
  clear P2 K2 hg d2
  go_wp2_with fail
  go_end0
  exact HP.out
theorem kResize (ok : DOk L last) (w : World) (h : DkAt w M L last N s t) (hs : s.Ok) (v : Wn) (hv : v ∈ L) (hv0 : v.n = 0) (W' H' : Nat) (hz : sizeB W' H' = true) :
    Calls Tryz.prog 18 #[.pointer (some ⟨M.t 0, 0, none⟩), .int .i64 W', .int .i64 H'] w (DPostG M L (updL L v.n (fun u => { u with W := W', H := H', G := sizedG v.W v.H W' v.G })) last (resizeR s W' H') t w (.int .i64 0)) := by
  have HD : Hid (DkAt w M L last N s t) := h
  have Hs : Hid s.Ok := hs
  have c0 := h.c0
  have hz' := sizeB_iff.1 hz
  clear h hs
  go_enter Tryz.func18, Tryz.ntmps18
  go_wp2_with (first | (go_at_call 41; refine (kNone _ HD.out).mono ?_; rintro e w' ⟨rfl, hw'⟩; replace hw' := hw'.symm; subst hw') | (go_at_call 46; refine (pMayBe _ _ _).mono ?_; rintro e w' ⟨rfl, hw'⟩; replace hw' := hw'.symm; subst hw'))
  go_at_call 57
  refine (dResize ok _ HD.out Hs.out v hv hv0 W' H' (by omega) (by omega) (by omega) (by omega)).mono ?_
  rintro e wa ⟨M', N', rfl, D, ht, K, O⟩
  have HP : Hid (DPostG M L (updL L v.n (fun u => { u with W := W', H := H', G := sizedG v.W v.H W' v.G })) last (resizeR s W' H') t w (.int .i64 0) (.returned (.int .i64 0)) wa) := ⟨M', N', rfl, D, ht, K, O⟩
  clear D K O ht
  go_wp2_with fail
  go_ret
  exact HP.out
theorem kResizeNo (w : World) (h : DkAt w M L last N s t) (x y : Int) (hz : sizeB x y = false) :
    Calls Tryz.prog 18 #[.pointer (some ⟨M.t 0, 0, none⟩), .int .i64 x, .int .i64 y] w fun e w' => e = .returned (.int .i64 3) ∧ w' = w := by
  have HD : Hid (DkAt w M L last N s t) := h
  clear h
  go_enter Tryz.func18, Tryz.ntmps18
  go_wp2_with (first | (go_at_call 41; refine (kNone _ HD.out).mono ?_; rintro e w' ⟨rfl, hw'⟩; replace hw' := hw'.symm; subst hw') | (go_at_call 46; refine (pMayBe _ _ _).mono ?_; rintro e w' ⟨rfl, hw'⟩; replace hw' := hw'.symm; subst hw'))
  go_ret
  exact ⟨rfl, rfl⟩
end
end Go.Proofs.YtjlfibhbfdckpaaGreatDoor

/- Desks, plain: what each call keeps. -/
namespace Go.Proofs.YtjlfibhbfdckpaaGreatDoor
open Go.RowKit
section
variable {L : List Wn} {last : Int}
theorem sub_up' (nd : (L.map Wn.n).Nodup) {o : Int} {u : Wn} (hu : u ∈ L) (hne : u.n ≠ o) : Sub L o u.n ↔ Sub L o u.par := by
  constructor
  · intro h
    rcases h.last with e | ⟨v, hv, e, hs⟩
    · exact absurd e hne
    · obtain rfl := nd_inj nd hv hu e
      exact hs
  · exact fun h => .step hu h
theorem filtN_nums (n : Int) : (filtN L n).map Wn.n = (L.map Wn.n).filter (fun m => decide (m ≠ n)) := by
  unfold filtN
  rw [List.filter_map]
  rfl
theorem nd_filtN (nd : (L.map Wn.n).Nodup) (n : Int) : ((filtN L n).map Wn.n).Nodup := List.Nodup.sublist (List.Sublist.map _ List.filter_sublist) nd
theorem filtN_len (nd : (L.map Wn.n).Nodup) {v : Wn} (hv : v ∈ L) : (filtN L v.n).length + 1 = L.length := by
  obtain ⟨j, h1, _, h3⟩ := idx_of nd hv
  have hl : j < L.length := (List.getElem?_eq_some_iff.1 h1).1
  rw [h3, List.length_eraseIdx, if_pos hl]
  omega
theorem filtN_head {r : Wn} {t : List Wn} {n : Int} (h : L = r :: t) (hr : r.n ≠ n) : filtN L n = r :: filtN t n := by
  rw [h]
  unfold filtN
  rw [List.filter_cons_of_pos (by simpa using hr)]
theorem ok_top (ok : DOk L last) {v q : Wn} (hv : v ∈ L) (hv0 : v.n ≠ 0) (hq : q ∈ L) (hns : ¬ Sub L v.n q.n) : DOk (topL L v q.n) last := by
  obtain ⟨rk, K, T⟩ := ok.tree
  classical
  have mem : ∀ u, u ∈ topL L v q.n → (u ∈ L ∧ u.n ≠ v.n) ∨ u = { v with par := q.n } := fun u hu => by
    rcases List.mem_append.1 hu with h | h
    · exact .inl (mem_filtN.1 h)
    · exact .inr (by simpa using h)
  have hq0 := T.pos hq
  refine ⟨⟨fun m => if Sub L v.n m then rk m + rk q.n + 1 else rk m, K + rk q.n + 1, ?_, ?_, ?_, ?_⟩, ?_, ?_, ?_⟩
  · obtain ⟨r, t, e, h0, h1, h2⟩ := T.head
    refine ⟨r, filtN t v.n ++ [{ v with par := q.n }], ?_, h0, h1, fun u hu => ?_⟩
    · show filtN L v.n ++ _ = _
      rw [filtN_head e (by rw [h0]; exact fun e => hv0 e.symm)]; rfl
    · rcases List.mem_append.1 hu with hu | hu
      · exact h2 u (mem_filtN.1 hu).1
      · obtain rfl : u = { v with par := q.n } := by simpa using hu
        exact ⟨by show 1 ≤ v.n; have := T.pos hv; omega, hq0⟩
  · show ((filtN L v.n ++ [{ v with par := q.n }]).map Wn.n).Nodup
    rw [List.map_append, List.nodup_append]
    refine ⟨nd_filtN T.nd _, by simp, fun a ha b hb e => ?_⟩
    obtain ⟨u, hu, rfl⟩ := List.mem_map.1 ha
    obtain rfl : b = v.n := by simpa using hb
    exact (mem_filtN.1 hu).2 e
  · intro u hu hp
    have hin : ∀ x, x ∈ L → ∃ y ∈ topL L v q.n, y.n = x.n := fun x hx => by
      by_cases e : x.n = v.n
      · exact ⟨{ v with par := q.n }, List.mem_append.2 (.inr (by simp)), e.symm⟩
      · exact ⟨x, List.mem_append.2 (.inl (mem_filtN.2 ⟨hx, e⟩)), rfl⟩
    rcases mem u hu with ⟨huL, hne⟩ | rfl
    · obtain ⟨⟨x, hx, hxn⟩, hr⟩ := T.up u huL hp
      obtain ⟨y, hy, hyn⟩ := hin x hx
      refine ⟨⟨y, hy, hyn.trans hxn⟩, ?_⟩
      have := sub_up' T.nd huL hne
      by_cases hs : Sub L v.n u.n
      · show (if Sub L v.n u.par then _ else _) < (if Sub L v.n u.n then _ else _)
        rw [if_pos (this.1 hs), if_pos hs]; omega
      · show (if Sub L v.n u.par then _ else _) < (if Sub L v.n u.n then _ else _)
        rw [if_neg (fun h => hs (this.2 h)), if_neg hs]; exact hr
    · obtain ⟨y, hy, hyn⟩ := hin q hq
      refine ⟨⟨y, hy, hyn⟩, ?_⟩
      show (if Sub L v.n q.n then rk q.n + rk q.n + 1 else rk q.n) < (if Sub L v.n v.n then rk v.n + rk q.n + 1 else rk v.n)
      rw [if_neg hns, if_pos .refl]
      omega
  · intro u hu
    have key : ∀ x ∈ L, (if Sub L v.n x.n then rk x.n + rk q.n + 1 else rk x.n) ≤ K + rk q.n + 1 := fun x hx => by
      have := T.le x hx
      split <;> omega
    rcases mem u hu with ⟨huL, _⟩ | rfl
    · exact key u huL
    · exact key v hv
  · intro u hu
    rcases mem u hu with ⟨huL, _⟩ | rfl
    · exact ok.le u huL
    · exact ok.le v hv
  · show (filtN L v.n ++ [_]).length ≤ 16
    have := filtN_len T.nd hv
    have := ok.len
    rw [List.length_append]
    simp
    omega
  · intro u hu
    rcases mem u hu with ⟨huL, _⟩ | rfl
    · exact ok.pl u huL
    · exact ok.pl v hv
theorem par_ns (ok : DOk L last) {v q : Wn} (hv : v ∈ L) (hq : q ∈ L) (hp : v.par = q.n) : ¬ Sub L v.n q.n := by
  obtain ⟨rk, K, T⟩ := ok.tree
  intro hs
  have h1 := (Sub.rank T (T.pos hv) hs).1
  have h2 := (T.up v hv (by rw [hp]; exact T.pos hq)).2
  rw [hp] at h2
  omega
theorem ok_bot (ok : DOk L last) {v : Wn} (hv : v ∈ L) (hv0 : v.n ≠ 0) : DOk (botL L v) last := by
  obtain ⟨rk, K, T⟩ := ok.tree
  obtain ⟨r, t, e, h0, h1, h2⟩ := T.head
  have hf : filtN L v.n = r :: filtN t v.n := filtN_head e (by rw [h0]; exact fun e => hv0 e.symm)
  have hb : botL L v = r :: v :: filtN t v.n := by unfold botL; rw [hf]
  have hmem : ∀ u, u ∈ botL L v ↔ u ∈ L := fun u => by
    rw [mem_botL, mem_filtN]
    constructor
    · rintro (rfl | ⟨h, _⟩)
      · exact hv
      · exact h
    · intro h
      by_cases e : u.n = v.n
      · exact .inl (nd_inj T.nd h hv e)
      · exact .inr ⟨h, e⟩
  refine ⟨⟨rk, K, ?_, ?_, ?_, ?_⟩, ?_, ?_, ?_⟩
  · refine ⟨r, v :: filtN t v.n, hb, h0, h1, fun u hu => ?_⟩
    rcases List.mem_cons.1 hu with rfl | hu
    · rw [e] at hv
      rcases List.mem_cons.1 hv with rfl | hv
      · exact absurd h0 hv0
      · exact h2 u hv
    · exact h2 u (mem_filtN.1 hu).1
  · rw [hb]
    have nd := nd_filtN T.nd v.n
    rw [hf] at nd
    simp only [List.map_cons, List.nodup_cons, List.mem_cons, List.mem_map] at nd ⊢
    refine ⟨?_, ?_, nd.2⟩
    · rintro (e | h)
      · exact hv0 (e.symm.trans h0)
      · exact nd.1 h
    · rintro ⟨u, hu, e⟩
      exact (mem_filtN.1 hu).2 e
  · intro u hu hp
    obtain ⟨⟨x, hx, hxn⟩, hr⟩ := T.up u ((hmem u).1 hu) hp
    exact ⟨⟨x, (hmem x).2 hx, hxn⟩, hr⟩
  · exact fun u hu => T.le u ((hmem u).1 hu)
  · exact fun u hu => ok.le u ((hmem u).1 hu)
  · rw [botL_botM, botM_len]
    have := filtN_len T.nd hv
    have := ok.len
    omega
  · exact fun u hu => ok.pl u ((hmem u).1 hu)
theorem root_ns (ok : DOk L last) {v : Wn} (hv : v ∈ L) (hv0 : v.n ≠ 0) : ¬ Sub L v.n 0 := by
  obtain ⟨rk, K, T⟩ := ok.tree
  intro hs
  obtain ⟨r, hr, h0, hp⟩ := T.rootIn
  rw [← h0] at hs
  have := (sub_up' T.nd hr (by rw [h0]; exact fun e => hv0 e.symm)).1 hs
  rw [hp] at this
  have := (Sub.rank T (T.pos hv) this).2
  omega
theorem ok_del (ok : DOk L last) {v : Wn} (hv : v ∈ L) (hv0 : v.n ≠ 0) : DOk (delL L v.n) last := by
  obtain ⟨rk, K, T⟩ := ok.tree
  have sub : (delL L v.n).Sublist L := List.filter_sublist
  refine ⟨⟨rk, K, ?_, ?_, ?_, ?_⟩, ?_, ?_, ?_⟩
  · obtain ⟨r, t, e, h0, h1, h2⟩ := T.head
    refine ⟨r, t.filter (fun u => !(@decide (Sub L v.n u.n) (Classical.propDecidable _))), ?_, h0, h1, fun u hu => h2 u (List.mem_filter.1 hu).1⟩
    have hr : r ∈ delL L v.n := mem_delL.2 ⟨by rw [e]; exact List.mem_cons_self, by rw [h0]; exact root_ns ok hv hv0⟩
    unfold delL
    conv => lhs; rw [show L.filter (fun u => !(@decide (Sub L v.n u.n) (Classical.propDecidable _))) = (r :: t).filter (fun u => !(@decide (Sub L v.n u.n) (Classical.propDecidable _))) from congrArg (List.filter _) e]
    rw [List.filter_cons_of_pos]
    simpa using (mem_delL.1 hr).2
  · exact List.Nodup.sublist (List.Sublist.map _ sub) T.nd
  · intro u hu hp
    obtain ⟨huL, hun⟩ := mem_delL.1 hu
    obtain ⟨⟨x, hx, hxn⟩, hr⟩ := T.up u huL hp
    refine ⟨⟨x, mem_delL.2 ⟨hx, fun hs => hun (.step huL (by rw [← hxn]; exact hs))⟩, hxn⟩, hr⟩
  · exact fun u hu => T.le u (sub.subset hu)
  · exact fun u hu => ok.le u (sub.subset hu)
  · exact Nat.le_trans sub.length_le ok.len
  · exact fun u hu => ok.pl u (sub.subset hu)
end
end Go.Proofs.YtjlfibhbfdckpaaGreatDoor

/- Flush: pens of windows' cells are those that may be: plain. -/
namespace Go.Proofs.YtjlfibhbfdckpaaGreatDoor
open Wd (wd)
/-- Pens that may be. -/
def Pens (W H : Nat) (G : Nat → Nat → Cel) : Prop := ∀ a b, a < W → b < H → (G a b).n.Ok
def PensOk (L : List Wn) : Prop := ∀ v ∈ L, Pens v.W v.H v.G
theorem plain_ok : Pn.plain.Ok := by unfold Pn.Ok Pn.plain; decide
theorem penB_ok {p : Pn} (h : penB p = true) : p.Ok := penB_iff.1 h
theorem pens_plain (W H : Nat) : Pens W H (fun _ _ => blk Pn.plain) := fun _ _ _ _ => plain_ok
section
variable {W H : Nat} {G : Nat → Nat → Cel}
theorem Pens.upd (h : Pens W H G) (x y : Nat) {c : Cel} (hc : c.n.Ok) : Pens W H (upd G x y c) := fun a b ha hb => by
  unfold Go.Proofs.YtjlfibhbfdckpaaGreatDoor.upd
  split
  · exact hc
  · exact h a b ha hb
theorem Pens.set (h : Pens W H G) (x y : Int) {c : Cel} (hc : c.n.Ok) : Pens W H (setG W H G x y c) := by
  unfold setG
  split
  · rename_i hin
    have hin := inG_iff.1 hin
    have h1 : (G x.toNat y.toNat).n.Ok := h _ _ (by omega) (by omega)
    split
    · exact (h.upd _ _ (by rw [blk_n]; exact h1)).upd _ _ hc
    · split
      · exact (h.upd _ _ (by rw [blk_n]; exact h1)).upd _ _ hc
      · exact h.upd _ _ hc
  · exact h
theorem Pens.write (h : Pens W H G) (x y r : Int) {p : Pn} (hp : p.Ok) : Pens W H (writeG W H G x y r p) := by
  unfold writeG
  split
  · exact h.set x y hp
  · have h2 := (h.set x y (c := blk p) (by rw [blk_n]; exact hp)).set (x + 1) y (c := blk p) (by rw [blk_n]; exact hp)
    split
    · exact (h2.upd _ _ hp).upd _ _ hp
    · exact h2
theorem Pens.writeAll {y : Int} {p : Pn} (hp : p.Ok) : ∀ (l : List Int) (x : Int) {G : Nat → Nat → Cel}, Pens W H G → Pens W H (Go.Proofs.YtjlfibhbfdckpaaGreatDoor.writeAll W H y p x l G)
  | [], _, _, h => h
  | r :: l, x, _, h => Pens.writeAll hp l (x + wd r) (h.write x y r hp)
theorem Pens.wrt (h : Pens W H G) (P : Nat → Nat → Bool) {v : Nat → Nat → Cel} (hv : ∀ a b, a < W → b < H → P a b = true → (v a b).n.Ok) : Pens W H (wrt G P v) := fun a b ha hb => by
  unfold Go.Proofs.YtjlfibhbfdckpaaGreatDoor.wrt
  split
  · rename_i hP; exact hv a b ha hb hP
  · split
    · rw [blk_n]; exact h a b ha hb
    · exact h a b ha hb
theorem Pens.fill (h : Pens W H G) (x y ww hh : Int) {p : Pn} (hp : p.Ok) : ∀ j, Pens W H (fillJ W x y ww hh p G j) := by
  intro j
  induction j with
  | zero => exact h
  | succ j ih =>
    unfold fillJ
    split
    · exact ih.wrt _ (fun a b _ _ _ => by rw [blk_n]; exact hp)
    · exact ih
theorem Pens.scroll (h : Pens W H G) (top bot n : Int) (ht : 0 ≤ top) (hb : bot < H) {p : Pn} (hp : p.Ok) : Pens W H (scrollG top bot n p G) := fun a b ha hb' => by
  unfold scrollG
  split
  · split
    · exact h _ _ ha (by omega)
    · rw [blk_n]; exact hp
  · exact h _ _ ha hb'
theorem Pens.sized (h : Pens W H G) (W' H' : Nat) : Pens W' H' (sizedG W H W' G) := fun a b _ _ => by
  have h1 : ((if a < W ∧ b < H then G a b else blk Pn.plain) : Cel).n.Ok := by
    split
    · rename_i hc; exact h a b hc.1 hc.2
    · exact plain_ok
  unfold sizedG lastG
  simp only []
  generalize (if a < W ∧ b < H then G a b else blk Pn.plain) = c at h1 ⊢
  split
  · rw [blk_n]; exact h1
  · exact h1
end
section
variable {L : List Wn}
theorem PensOk.upd (h : PensOk L) (n : Int) {f : Wn → Wn} (hf : ∀ u ∈ L, u.n = n → Pens (f u).W (f u).H (f u).G) : PensOk (updL L n f) := by
  intro v hv
  unfold updL at hv
  obtain ⟨u, hu, rfl⟩ := List.mem_map.1 hv
  split
  · rename_i e; exact hf u hu e
  · exact h u hu
theorem PensOk.filt (h : PensOk L) (p : Wn → Bool) : PensOk (L.filter p) := fun v hv => h v (List.mem_filter.1 hv).1
theorem PensOk.del (h : PensOk L) (n : Int) : PensOk (delL L n) := h.filt _
theorem PensOk.app (h : PensOk L) {v : Wn} (hv : Pens v.W v.H v.G) : PensOk (L ++ [v]) := fun u hu => by
  rcases List.mem_append.1 hu with hu | hu
  · exact h u hu
  · obtain rfl : u = v := by simpa using hu
    exact hv
theorem PensOk.top (h : PensOk L) {v : Wn} (hv : v ∈ L) (p : Int) : PensOk (topL L v p) := PensOk.app (h.filt _) (h v hv)
theorem PensOk.bot (h : PensOk L) {v : Wn} (hv : v ∈ L) : PensOk (botL L v) := by
  have h1 : PensOk (filtN L v.n) := h.filt _
  unfold botL
  split
  · intro u hu
    obtain rfl : u = v := by simpa using hu
    exact h _ hv
  · rename_i r t e
    rw [e] at h1
    intro u hu
    rcases List.mem_cons.1 hu with rfl | hu
    · exact h1 _ List.mem_cons_self
    · rcases List.mem_cons.1 hu with rfl | hu
      · exact h _ hv
      · exact h1 u (List.mem_cons_of_mem _ hu)
theorem pensOk_root (W H : Nat) : PensOk [rootW W H] := fun v hv => by
  obtain rfl : v = rootW W H := by simpa using hv
  exact pens_plain W H
end
/-- The root is of a size. -/
def Fits (L : List Wn) (W H : Nat) : Prop := ∀ r ∈ L, r.n = 0 → r.W = W ∧ r.H = H
section
variable {L : List Wn} {W H : Nat}
theorem Fits.upd (h : Fits L W H) (n : Int) {f : Wn → Wn} (hf : ∀ u ∈ L, u.n = n → (f u).n = 0 → u.n = 0 ∧ (f u).W = u.W ∧ (f u).H = u.H) : Fits (updL L n f) W H := by
  intro v hv
  unfold updL at hv
  obtain ⟨u, hu, rfl⟩ := List.mem_map.1 hv
  split
  · rename_i e
    intro h0
    obtain ⟨a, b, c⟩ := hf u hu e h0
    rw [b, c]
    exact h u hu a
  · exact h u hu
theorem Fits.filt (h : Fits L W H) (p : Wn → Bool) : Fits (L.filter p) W H := fun v hv => h v (List.mem_filter.1 hv).1
theorem Fits.del (h : Fits L W H) (n : Int) : Fits (delL L n) W H := h.filt _
theorem Fits.app (h : Fits L W H) {v : Wn} (hv : v.n = 0 → v.W = W ∧ v.H = H) : Fits (L ++ [v]) W H := fun u hu => by
  rcases List.mem_append.1 hu with hu | hu
  · exact h u hu
  · obtain rfl : u = v := by simpa using hu
    exact hv
theorem Fits.top (h : Fits L W H) {v : Wn} (hv : v ∈ L) (p : Int) : Fits (topL L v p) W H := Fits.app (h.filt _) (h v hv)
theorem Fits.bot (h : Fits L W H) {v : Wn} (hv : v ∈ L) : Fits (botL L v) W H := by
  have h1 : Fits (filtN L v.n) W H := h.filt _
  unfold botL
  split
  · intro u hu
    obtain rfl : u = v := by simpa using hu
    exact h _ hv
  · rename_i r t e
    rw [e] at h1
    intro u hu
    rcases List.mem_cons.1 hu with rfl | hu
    · exact h1 _ List.mem_cons_self
    · rcases List.mem_cons.1 hu with rfl | hu
      · exact h _ hv
      · exact h1 u (List.mem_cons_of_mem _ hu)
end
theorem resizeR_fl {s : Rs} (h : s.Fl) {W H : Nat} (w1 : 1 ≤ W) (w2 : W ≤ 40) (h1 : 1 ≤ H) (h2 : H ≤ 20) : (resizeR s W H).Fl :=
  ⟨resizeR_ok h.ok w1 w2 h1 h2, h.B, rfl, rfl, h.pen⟩
theorem newR_fl {W H : Nat} (w1 : 1 ≤ W) (w2 : W ≤ 40) (h1 : 1 ≤ H) (h2 : H ≤ 20) : (newR W H).Fl :=
  ⟨newR_ok w1 w2 h1 h2, rfl, rfl, rfl, plain_ok⟩
/-- What a resize makes of a screen. -/
def rszR (x y : Int) (s : Rs) : Rs := if sizeB x y = true then resizeR s x.toNat y.toNat else s
theorem DkAt.winsOk {w : World} {M : Mm} {L : List Wn} {last : Int} {N : Nat} {s : Rs} {t : Pt} (h : DkAt w M L last N s t) (p : PensOk L) : WinsOk L := fun v hv => ⟨(h.win v hv).wf, p v hv⟩
end Go.Proofs.YtjlfibhbfdckpaaGreatDoor
