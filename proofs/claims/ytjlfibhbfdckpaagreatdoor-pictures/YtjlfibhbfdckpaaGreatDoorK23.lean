/- Texts of the proof, one behind the other: DkAA, DkAB, RfA, Ap. -/
import Derived.Test.YtjlfibhbfdckpaaGreatDoorK02
import Derived.Test.YtjlfibhbfdckpaaGreatDoorK22
import Derived.Test.YtjlfibhbfdckpaaGreatDoorChecked
import Derived.WalkSpells
import Derived.WalkLawsBesides
import Derived.Deep.RegionHeld3
import Derived.Deep.DrawnRows
import Derived.BigRegion
import Derived.Deep.QuietTactic
import Derived.BigQuiet
import Derived.Deep.RegionLaw
import Derived.Deep.AppendLies
import Derived.Test.YtjlfibhbfdckpaaGreatDoorProg
/- The program's desk: Resize. -/
namespace Go.Proofs.YtjlfibhbfdckpaaGreatDoor
open Go.RowKit
attribute [local go_sem ↓] Go.wp_at_zero Go.wp_at_succ
/-- What a call leaves; the screen may be another one. -/
def DPostG (M : Mm) (L L' : List Wn) (last' : Int) (s' : Rs) (t' : Pt) (w : World) (r : Value) (e : Ending) (w' : World) : Prop :=
  ∃ M' N', e = .returned r ∧ DkAt w' M' L' last' N' s' t' ∧ M'.t 0 = M.t 0 ∧ Keep (M.own L) w w' ∧ ∀ i, M'.own L' i → M.own L i ∨ w.heap.size ≤ i
def Mm.setT (M : Mm) (g : Nat) : Mm := { M with t := fun k => if k = 4 then g else M.t k }
section
variable {M : Mm} {L : List Wn} {last : Int} {N : Nat} {s : Rs} {t : Pt}
theorem DPost.toG {L' : List Wn} {last' : Int} {w w' : World} {r : Value} {e : Ending} (h : DPost M L L' last' N s t w r e w') : DPostG M L L' last' s t w r e w' := by
  obtain ⟨M', e, D, ht, K, O⟩ := h
  exact ⟨M', N, e, D, by rw [ht], K, O⟩
theorem setT_blk {g : Nat} {p : Pl} (hp : p ≠ .top 4) : (M.setT g).blk p = M.blk p := by
  cases p with
  | top k =>
    show some (if k = 4 then g else M.t k) = some (M.t k)
    rw [if_neg (fun e => hp (by rw [e]))]
  | win m k =>
    match k with
    | 0 => rfl
    | 1 => rfl
    | 2 => rfl
    | k + 3 => rfl
theorem DkAt.rescreen {w w' : World} {g' N' : Nat} {s' : Rs} {t' : Pt} (h : DkAt w M L last N s t) (hp : PrAt w' (M.t 2) (M.t 3) g' N' s' t') (hk : Keep (fun i => i = M.t 2 ∨ i = M.t 3 ∨ i = M.t 4) w w') (hg : g' = M.t 4 ∨ w.heap.size ≤ g') (r : Value) :
    DPostG M L L last s' t' w r (.returned r) w' := by
  have kp : ∀ (p : Pl) (i : Nat), p.ok L → M.blk p = some i → p ≠ .top 2 → p ≠ .top 3 → p ≠ .top 4 → w'.heap[i]? = w.heap[i]? := fun p i hp e n1 n2 n3 => hk.block i (h.lt ⟨p, hp, e⟩) (by
    rintro (e' | e' | e')
    · exact h.ne (p := p) (q := .top 2) hp (show 2 < 5 by omega) e rfl n1 e'
    · exact h.ne (p := p) (q := .top 3) hp (show 3 < 5 by omega) e rfl n2 e'
    · exact h.ne (p := p) (q := .top 4) hp (show 4 < 5 by omega) e rfl n3 e')
  have hown : ∀ i, (M.setT g').own L i → M.own L i ∨ w.heap.size ≤ i := fun i ⟨p, hp', e⟩ => by
    by_cases e4 : p = .top 4
    · subst e4
      obtain rfl : g' = i := by simpa [Mm.blk, Mm.setT] using e
      rcases hg with rfl | hg
      · exact .inl (own_top M L 4 (by omega))
      · exact .inr hg
    · exact .inl ⟨p, hp', by rw [← setT_blk e4]; exact e⟩
  have h0 := h.two _ (own_top M L 0 (by omega))
  have h1 := h.lt (own_top M L 0 (by omega))
  refine ⟨M.setT g', N', rfl, ⟨(kp (.top 0) _ (show 0 < 5 by omega) rfl (by simp) (by simp) (by simp)).trans h.b0, (kp (.top 1) _ (show 1 < 5 by omega) rfl (by simp) (by simp) (by simp)).trans h.b1, hp, ?_, ?_, ?_⟩, rfl, ?_, hown⟩
  · intro u hu
    exact (h.win u hu).same (kp (.win u.n 0) _ ⟨by omega, u, hu, rfl⟩ rfl (by simp) (by simp) (by simp)) (kp (.win u.n 1) _ ⟨by omega, u, hu, rfl⟩ rfl (by simp) (by simp) (by simp)) (kp (.win u.n 2) _ ⟨by omega, u, hu, rfl⟩ rfl (by simp) (by simp) (by simp)) (fun i hi => kp (.win u.n 3) i ⟨by omega, u, hu, rfl⟩ hi (by simp) (by simp) (by simp))
  · rcases hg with e | hg
    · have : M.setT g' = M := by
        unfold Mm.setT
        have : (fun k => if k = 4 then g' else M.t k) = M.t := by funext k; split; (rename_i e'; rw [e', e]); rfl
        rw [this]
      rw [this]; exact h.inj
    · exact inj_of h.inj w.heap.size (fun i hi => h.lt hi) (fun p => p = .top 4) (fun p hp' hn => ⟨hp', setT_blk hn⟩) (fun p i _ e hb => by
        subst e
        obtain rfl : g' = i := by simpa [Mm.blk, Mm.setT] using hb
        exact hg) (fun p q i _ _ e1 e2 _ _ => by rw [e1, e2])
  · intro i hi
    rcases hown i hi with e | e
    · exact h.two i e
    · omega
  · exact hk.mono (fun i e => by rcases e with rfl | rfl | rfl; exact own_top M L 2 (by omega); exact own_top M L 3 (by omega); exact own_top M L 4 (by omega))
/-- One call behind another. -/
theorem DPostG.after {M1 : Mm} {L1 L2 : List Wn} {last2 : Int} {s2 : Rs} {t2 : Pt} {w w1 w2 : World} {r : Value} {e : Ending} (ht : M1.t 0 = M.t 0) (K : Keep (M.own L) w w1) (O : ∀ i, M1.own L1 i → M.own L i ∨ w.heap.size ≤ i) (h : DPostG M1 L1 L2 last2 s2 t2 w1 r e w2) : DPostG M L L2 last2 s2 t2 w r e w2 := by
  obtain ⟨M', N', e, D, ht', K', O'⟩ := h
  refine ⟨M', N', e, D, ht'.trans ht, K.trans K' (fun i hi ho => ?_), fun i hi => ?_⟩
  · rcases O i ho with a | a
    · exact a
    · omega
  · rcases O' i hi with a | a
    · exact O i a
    · exact .inr (Nat.le_trans K.size a)
theorem dShape (ok : DOk L last) (w : World) (h : DkAt w M L last N s t) (v : Wn) (hv : v ∈ L) (W' H' : Nat) (w1 : 1 ≤ W') (w2 : W' ≤ 40) (h1 : 1 ≤ H') (h2 : H' ≤ 20) :
    Calls Tryz.prog 114 #[M.ptr v.n, .int .i64 W', .int .i64 H'] w (DPost M L (updL L v.n (fun u => { u with W := W', H := H', G := sizedG v.W v.H W' v.G })) last N s t w (.tuple #[])) := by
  have hw := wShape v (M.b v.n) (M.c v.n) (M.g v.n) (M.pp v.par) (M.s v.n) (M.ptrs (kids L v.n)) W' H' w (h.win v hv) w1 w2 h1 h2
  refine hw.mono ?_
  rintro e wa ⟨g', rfl, G1, K1, hg⟩
  exact h.shape ok hv W' H' g' _ (h.win v hv).wf.sized G1 K1 hg _
set_option maxHeartbeats 1000000 in
theorem dResize (ok : DOk L last) (w : World) (h : DkAt w M L last N s t) (hs : s.Ok) (v : Wn) (hv : v ∈ L) (hv0 : v.n = 0) (W' H' : Nat) (w1 : 1 ≤ W') (w2 : W' ≤ 40) (h1 : 1 ≤ H') (h2 : H' ≤ 20) :
    Calls Tryz.prog 57 #[.pointer (some ⟨M.t 1, 0, none⟩), .int .i64 W', .int .i64 H'] w (DPostG M L (updL L v.n (fun u => { u with W := W', H := H', G := sizedG v.W v.H W' v.G })) last (resizeR s W' H') t w (.tuple #[])) := by
  have HD : Hid (DkAt w M L last N s t) := h
  have Hs : Hid s.Ok := hs
  have d0 := h.d0
  have d2 := h.d2
  rw [← hv0] at d0
  clear h hs hv0
  have Hsh : Hid (Calls Tryz.prog 114 #[M.ptr v.n, .int .i64 W', .int .i64 H'] w (DPost M L (updL L v.n (fun u => { u with W := W', H := H', G := sizedG v.W v.H W' v.G })) last N s t w (.tuple #[]))) := dShape ok w HD.out v hv W' H' w1 w2 h1 h2
  go_enter Tryz.func57, Tryz.ntmps57
  go_wp2_with fail
  go_at_call 114
  refine Hsh.out.mono ?_
  rintro e wa ⟨M1, rfl, D1, ht, K1, O1⟩
  have HD1 : Hid (DkAt wa M1 (updL L v.n (fun u => { u with W := W', H := H', G := sizedG v.W v.H W' v.G })) last N s t) := D1
  have HK1 : Hid (Keep (M.own L) w wa) := K1
  have HO1 : Hid (∀ i, M1.own (updL L v.n (fun u => { u with W := W', H := H', G := sizedG v.W v.H W' v.G })) i → M.own L i ∨ w.heap.size ≤ i) := O1
  have Ht : Hid (M1.t = M.t) := ht
  clear D1 K1 O1 ht d0 d2
  have d2 := HD1.out.d2
  rw [Ht.out] at d2
  go_wp2_with fail
  go_at_call 59
  refine (sResize (M.t 2) (M1.t 3) (M1.t 4) N s t W' H' _ (by rw [← Ht.out]; exact HD1.out.scr) Hs.out w1 w2 h1 h2).mono ?_
  rintro e wb ⟨g', N', rfl, P2, K2, hg⟩
  have HP : Hid (DPostG M L (updL L v.n (fun u => { u with W := W', H := H', G := sizedG v.W v.H W' v.G })) last (resizeR s W' H') t w (.tuple #[]) (.returned (.tuple #[])) wb) := by
    rw [← Ht.out] at P2 K2
    exact DPostG.after (by rw [Ht.out]) HK1.out HO1.out (HD1.out.rescreen P2 K2 hg (.tuple #[]))
  clear P2 K2 hg d2
  go_wp2_with fail
  go_end0
  exact HP.out
theorem kResize (ok : DOk L last) (w : World) (h : DkAt w M L last N s t) (hs : s.Ok) (v : Wn) (hv : v ∈ L) (hv0 : v.n = 0) (W' H' : Nat) (hz : sizeB W' H' = true) :
    Calls Tryz.prog 18 #[.pointer (some ⟨M.t 0, 0, none⟩), .int .i64 W', .int .i64 H'] w (DPostG M L (updL L v.n (fun u => { u with W := W', H := H', G := sizedG v.W v.H W' v.G })) last (resizeR s W' H') t w (.int .i64 0)) := by
  have HD : Hid (DkAt w M L last N s t) := h
  have Hs : Hid s.Ok := hs
  have c0 := h.c0
  have hz' := sizeB_iff.1 hz
  clear h hs
  go_enter Tryz.func18, Tryz.ntmps18
  go_wp2_with (first | (go_at_call 41; refine (kNone _ HD.out).mono ?_; rintro e w' ⟨rfl, hw'⟩; replace hw' := hw'.symm; subst hw') | (go_at_call 46; refine (pMayBe _ _ _).mono ?_; rintro e w' ⟨rfl, hw'⟩; replace hw' := hw'.symm; subst hw'))
  go_at_call 57
  refine (dResize ok _ HD.out Hs.out v hv hv0 W' H' (by omega) (by omega) (by omega) (by omega)).mono ?_
  rintro e wa ⟨M', N', rfl, D, ht, K, O⟩
  have HP : Hid (DPostG M L (updL L v.n (fun u => { u with W := W', H := H', G := sizedG v.W v.H W' v.G })) last (resizeR s W' H') t w (.int .i64 0) (.returned (.int .i64 0)) wa) := ⟨M', N', rfl, D, ht, K, O⟩
  clear D K O ht
  go_wp2_with fail
  go_ret
  exact HP.out
theorem kResizeNo (w : World) (h : DkAt w M L last N s t) (x y : Int) (hz : sizeB x y = false) :
    Calls Tryz.prog 18 #[.pointer (some ⟨M.t 0, 0, none⟩), .int .i64 x, .int .i64 y] w fun e w' => e = .returned (.int .i64 3) ∧ w' = w := by
  have HD : Hid (DkAt w M L last N s t) := h
  clear h
  go_enter Tryz.func18, Tryz.ntmps18
  go_wp2_with (first | (go_at_call 41; refine (kNone _ HD.out).mono ?_; rintro e w' ⟨rfl, hw'⟩; replace hw' := hw'.symm; subst hw') | (go_at_call 46; refine (pMayBe _ _ _).mono ?_; rintro e w' ⟨rfl, hw'⟩; replace hw' := hw'.symm; subst hw'))
  go_ret
  exact ⟨rfl, rfl⟩
end
end Go.Proofs.YtjlfibhbfdckpaaGreatDoor

/- Desks, plain: what each call keeps. -/
namespace Go.Proofs.YtjlfibhbfdckpaaGreatDoor
open Go.RowKit
section
variable {L : List Wn} {last : Int}
theorem sub_up' (nd : (L.map Wn.n).Nodup) {o : Int} {u : Wn} (hu : u ∈ L) (hne : u.n ≠ o) : Sub L o u.n ↔ Sub L o u.par := by
  constructor
  · intro h
    rcases h.last with e | ⟨v, hv, e, hs⟩
    · exact absurd e hne
    · obtain rfl := nd_inj nd hv hu e
      exact hs
  · exact fun h => .step hu h
theorem filtN_nums (n : Int) : (filtN L n).map Wn.n = (L.map Wn.n).filter (fun m => decide (m ≠ n)) := by
  unfold filtN
  rw [List.filter_map]
  rfl
theorem nd_filtN (nd : (L.map Wn.n).Nodup) (n : Int) : ((filtN L n).map Wn.n).Nodup := List.Nodup.sublist (List.Sublist.map _ List.filter_sublist) nd
theorem filtN_len (nd : (L.map Wn.n).Nodup) {v : Wn} (hv : v ∈ L) : (filtN L v.n).length + 1 = L.length := by
  obtain ⟨j, h1, _, h3⟩ := idx_of nd hv
  have hl : j < L.length := (List.getElem?_eq_some_iff.1 h1).1
  rw [h3, List.length_eraseIdx, if_pos hl]
  omega
theorem filtN_head {r : Wn} {t : List Wn} {n : Int} (h : L = r :: t) (hr : r.n ≠ n) : filtN L n = r :: filtN t n := by
  rw [h]
  unfold filtN
  rw [List.filter_cons_of_pos (by simpa using hr)]
theorem ok_top (ok : DOk L last) {v q : Wn} (hv : v ∈ L) (hv0 : v.n ≠ 0) (hq : q ∈ L) (hns : ¬ Sub L v.n q.n) : DOk (topL L v q.n) last := by
  obtain ⟨rk, K, T⟩ := ok.tree
  classical
  have mem : ∀ u, u ∈ topL L v q.n → (u ∈ L ∧ u.n ≠ v.n) ∨ u = { v with par := q.n } := fun u hu => by
    rcases List.mem_append.1 hu with h | h
    · exact .inl (mem_filtN.1 h)
    · exact .inr (by simpa using h)
  have hq0 := T.pos hq
  refine ⟨⟨fun m => if Sub L v.n m then rk m + rk q.n + 1 else rk m, K + rk q.n + 1, ?_, ?_, ?_, ?_⟩, ?_, ?_, ?_⟩
  · obtain ⟨r, t, e, h0, h1, h2⟩ := T.head
    refine ⟨r, filtN t v.n ++ [{ v with par := q.n }], ?_, h0, h1, fun u hu => ?_⟩
    · show filtN L v.n ++ _ = _
      rw [filtN_head e (by rw [h0]; exact fun e => hv0 e.symm)]; rfl
    · rcases List.mem_append.1 hu with hu | hu
      · exact h2 u (mem_filtN.1 hu).1
      · obtain rfl : u = { v with par := q.n } := by simpa using hu
        exact ⟨by show 1 ≤ v.n; have := T.pos hv; omega, hq0⟩
  · show ((filtN L v.n ++ [{ v with par := q.n }]).map Wn.n).Nodup
    rw [List.map_append, List.nodup_append]
    refine ⟨nd_filtN T.nd _, by simp, fun a ha b hb e => ?_⟩
    obtain ⟨u, hu, rfl⟩ := List.mem_map.1 ha
    obtain rfl : b = v.n := by simpa using hb
    exact (mem_filtN.1 hu).2 e
  · intro u hu hp
    have hin : ∀ x, x ∈ L → ∃ y ∈ topL L v q.n, y.n = x.n := fun x hx => by
      by_cases e : x.n = v.n
      · exact ⟨{ v with par := q.n }, List.mem_append.2 (.inr (by simp)), e.symm⟩
      · exact ⟨x, List.mem_append.2 (.inl (mem_filtN.2 ⟨hx, e⟩)), rfl⟩
    rcases mem u hu with ⟨huL, hne⟩ | rfl
    · obtain ⟨⟨x, hx, hxn⟩, hr⟩ := T.up u huL hp
      obtain ⟨y, hy, hyn⟩ := hin x hx
      refine ⟨⟨y, hy, hyn.trans hxn⟩, ?_⟩
      have := sub_up' T.nd huL hne
      by_cases hs : Sub L v.n u.n
      · show (if Sub L v.n u.par then _ else _) < (if Sub L v.n u.n then _ else _)
        rw [if_pos (this.1 hs), if_pos hs]; omega
      · show (if Sub L v.n u.par then _ else _) < (if Sub L v.n u.n then _ else _)
        rw [if_neg (fun h => hs (this.2 h)), if_neg hs]; exact hr
    · obtain ⟨y, hy, hyn⟩ := hin q hq
      refine ⟨⟨y, hy, hyn⟩, ?_⟩
      show (if Sub L v.n q.n then rk q.n + rk q.n + 1 else rk q.n) < (if Sub L v.n v.n then rk v.n + rk q.n + 1 else rk v.n)
      rw [if_neg hns, if_pos .refl]
      omega
  · intro u hu
    have key : ∀ x ∈ L, (if Sub L v.n x.n then rk x.n + rk q.n + 1 else rk x.n) ≤ K + rk q.n + 1 := fun x hx => by
      have := T.le x hx
      split <;> omega
    rcases mem u hu with ⟨huL, _⟩ | rfl
    · exact key u huL
    · exact key v hv
  · intro u hu
    rcases mem u hu with ⟨huL, _⟩ | rfl
    · exact ok.le u huL
    · exact ok.le v hv
  · show (filtN L v.n ++ [_]).length ≤ 16
    have := filtN_len T.nd hv
    have := ok.len
    rw [List.length_append]
    simp
    omega
  · intro u hu
    rcases mem u hu with ⟨huL, _⟩ | rfl
    · exact ok.pl u huL
    · exact ok.pl v hv
theorem par_ns (ok : DOk L last) {v q : Wn} (hv : v ∈ L) (hq : q ∈ L) (hp : v.par = q.n) : ¬ Sub L v.n q.n := by
  obtain ⟨rk, K, T⟩ := ok.tree
  intro hs
  have h1 := (Sub.rank T (T.pos hv) hs).1
  have h2 := (T.up v hv (by rw [hp]; exact T.pos hq)).2
  rw [hp] at h2
  omega
theorem ok_bot (ok : DOk L last) {v : Wn} (hv : v ∈ L) (hv0 : v.n ≠ 0) : DOk (botL L v) last := by
  obtain ⟨rk, K, T⟩ := ok.tree
  obtain ⟨r, t, e, h0, h1, h2⟩ := T.head
  have hf : filtN L v.n = r :: filtN t v.n := filtN_head e (by rw [h0]; exact fun e => hv0 e.symm)
  have hb : botL L v = r :: v :: filtN t v.n := by unfold botL; rw [hf]
  have hmem : ∀ u, u ∈ botL L v ↔ u ∈ L := fun u => by
    rw [mem_botL, mem_filtN]
    constructor
    · rintro (rfl | ⟨h, _⟩)
      · exact hv
      · exact h
    · intro h
      by_cases e : u.n = v.n
      · exact .inl (nd_inj T.nd h hv e)
      · exact .inr ⟨h, e⟩
  refine ⟨⟨rk, K, ?_, ?_, ?_, ?_⟩, ?_, ?_, ?_⟩
  · refine ⟨r, v :: filtN t v.n, hb, h0, h1, fun u hu => ?_⟩
    rcases List.mem_cons.1 hu with rfl | hu
    · rw [e] at hv
      rcases List.mem_cons.1 hv with rfl | hv
      · exact absurd h0 hv0
      · exact h2 u hv
    · exact h2 u (mem_filtN.1 hu).1
  · rw [hb]
    have nd := nd_filtN T.nd v.n
    rw [hf] at nd
    simp only [List.map_cons, List.nodup_cons, List.mem_cons, List.mem_map] at nd ⊢
    refine ⟨?_, ?_, nd.2⟩
    · rintro (e | h)
      · exact hv0 (e.symm.trans h0)
      · exact nd.1 h
    · rintro ⟨u, hu, e⟩
      exact (mem_filtN.1 hu).2 e
  · intro u hu hp
    obtain ⟨⟨x, hx, hxn⟩, hr⟩ := T.up u ((hmem u).1 hu) hp
    exact ⟨⟨x, (hmem x).2 hx, hxn⟩, hr⟩
  · exact fun u hu => T.le u ((hmem u).1 hu)
  · exact fun u hu => ok.le u ((hmem u).1 hu)
  · rw [botL_botM, botM_len]
    have := filtN_len T.nd hv
    have := ok.len
    omega
  · exact fun u hu => ok.pl u ((hmem u).1 hu)
theorem root_ns (ok : DOk L last) {v : Wn} (hv : v ∈ L) (hv0 : v.n ≠ 0) : ¬ Sub L v.n 0 := by
  obtain ⟨rk, K, T⟩ := ok.tree
  intro hs
  obtain ⟨r, hr, h0, hp⟩ := T.rootIn
  rw [← h0] at hs
  have := (sub_up' T.nd hr (by rw [h0]; exact fun e => hv0 e.symm)).1 hs
  rw [hp] at this
  have := (Sub.rank T (T.pos hv) this).2
  omega
theorem ok_del (ok : DOk L last) {v : Wn} (hv : v ∈ L) (hv0 : v.n ≠ 0) : DOk (delL L v.n) last := by
  obtain ⟨rk, K, T⟩ := ok.tree
  have sub : (delL L v.n).Sublist L := List.filter_sublist
  refine ⟨⟨rk, K, ?_, ?_, ?_, ?_⟩, ?_, ?_, ?_⟩
  · obtain ⟨r, t, e, h0, h1, h2⟩ := T.head
    refine ⟨r, t.filter (fun u => !(@decide (Sub L v.n u.n) (Classical.propDecidable _))), ?_, h0, h1, fun u hu => h2 u (List.mem_filter.1 hu).1⟩
    have hr : r ∈ delL L v.n := mem_delL.2 ⟨by rw [e]; exact List.mem_cons_self, by rw [h0]; exact root_ns ok hv hv0⟩
    unfold delL
    conv => lhs; rw [show L.filter (fun u => !(@decide (Sub L v.n u.n) (Classical.propDecidable _))) = (r :: t).filter (fun u => !(@decide (Sub L v.n u.n) (Classical.propDecidable _))) from congrArg (List.filter _) e]
    rw [List.filter_cons_of_pos]
    simpa using (mem_delL.1 hr).2
  · exact List.Nodup.sublist (List.Sublist.map _ sub) T.nd
  · intro u hu hp
    obtain ⟨huL, hun⟩ := mem_delL.1 hu
    obtain ⟨⟨x, hx, hxn⟩, hr⟩ := T.up u huL hp
    refine ⟨⟨x, mem_delL.2 ⟨hx, fun hs => hun (.step huL (by rw [← hxn]; exact hs))⟩, hxn⟩, hr⟩
  · exact fun u hu => T.le u (sub.subset hu)
  · exact fun u hu => ok.le u (sub.subset hu)
  · exact Nat.le_trans sub.length_le ok.len
  · exact fun u hu => ok.pl u (sub.subset hu)
end
end Go.Proofs.YtjlfibhbfdckpaaGreatDoor

/- The document's cells: blank, in, at. -/
namespace Go.Proofs.YtjlfibhbfdckpaaGreatDoor
open Go.RowKit
attribute [local go_sem ↓] Go.wp_at_zero Go.wp_at_succ
theorem refBlank (n : Pn) (w : World) :
    Calls Tryz.prog 95 #[n.agg] w fun e w' => e = .returned (blk n).agg ∧ Below w.heap.size w w' := by
  go_enter Tryz.func95, Tryz.ntmps95
  go_wp2
  exact bodyPost_ret (v := (blk n).agg) (by simp [results, Tryz.results95, go_sem, blk]) rfl ⟨rfl, ((Below.refl _ _).alloc (Nat.le_refl _) _).alloc (by simp) _⟩
set_option maxHeartbeats 1000000 in
theorem refIn (bc W H : Nat) (x y : Int) (w : World)
    (h0 : w.cell? ⟨bc, 0, none⟩ = some (.int .i64 W)) (h1 : w.cell? ⟨bc, 1, none⟩ = some (.int .i64 H)) :
    Calls Tryz.prog 92 #[.pointer (some ⟨bc, 0, none⟩), .int .i64 x, .int .i64 y] w fun e w' => e = .returned (.bool (inG W H x y)) ∧ w' = w := by
  rcases (by omega : x < 0 ∨ (0 ≤ x ∧ x < W) ∨ (0 ≤ x ∧ (W : Int) ≤ x)) with a1 | ⟨a1, a2⟩ | ⟨a1, a2⟩
  all_goals rcases (by omega : y < 0 ∨ (0 ≤ y ∧ y < H) ∨ (0 ≤ y ∧ (H : Int) ≤ y)) with b1 | ⟨b1, b2⟩ | ⟨b1, b2⟩
  all_goals
    go_enter Tryz.func92, Tryz.ntmps92
    go_wp2
    go_ret
    exact ⟨by simp [inG]; omega, rfl⟩
set_option maxHeartbeats 1000000 in
theorem refAt (bc g cap W H N : Nat) (G : Nat → Nat → Cel) (x y : Int) (w : World) (h : Cels w bc g cap W H N G) (x0 : 0 ≤ x) (x1 : x < W) (y0 : 0 ≤ y) (y1 : y < H) :
    Calls Tryz.prog 94 #[.pointer (some ⟨bc, 0, none⟩), .int .i64 x, .int .i64 y] w fun e w' => e = .returned (G x.toNat y.toNat).agg ∧ Below w.heap.size w w' := by
  obtain ⟨x, rfl⟩ := Int.eq_ofNat_of_zero_le x0
  obtain ⟨y, rfl⟩ := Int.eq_ofNat_of_zero_le y0
  simp only [Int.toNat_natCast]
  have hl : y * W + x < N := by rw [h.hN]; exact place_lt (by omega) (by omega)
  have hlen := h.nle
  have h0 := h.c0
  have h2 := h.c2
  have hc := h.grid.cel x y (by omega) (by omega)
  obtain ⟨i, hi⟩ : ∃ i, y * W + x = i := ⟨_, rfl⟩
  obtain ⟨m, hm⟩ : ∃ m, y * W = m := ⟨_, rfl⟩
  rw [hi] at hl hc
  rw [hm] at hi
  generalize G x y = c at *
  clear h
  have hw1 : IntKind.i64.wrap ((y : Int) * (W : Int)) = (m : Int) := by rw [← Int.natCast_mul, hm]; exact wrap_id _ (by omega) (by omega)
  have hw2 : IntKind.i64.wrap ((m : Int) + (x : Int)) = (i : Int) := by rw [wrap_id _ (by omega) (by omega)]; omega
  have hi1 : (0 : Int) ≤ (i : Int) := by omega
  have hi2 : (i : Int) < (N : Int) := by omega
  clear hm hi
  obtain ⟨c0, c1, c2, c3, c4, c5, c6⟩ := hc
  have n1 := World.new_ne w _ h0
  have n2 := World.new_ne w _ c0
  go_enter Tryz.func94, Tryz.ntmps94
  go_wp2
  go_region_held3 (fun w' => w'.cell? ⟨bc, 0, none⟩ = some (.int .i64 W) ∧ w'.cell? ⟨bc, 2, none⟩ = some (.slice (some ⟨g, 0, none⟩) N cap) ∧ w'.cell? ⟨g, i * 7, none⟩ = some (.int .i32 c.r) ∧ w'.cell? ⟨g, i * 7 + 1, none⟩ = some (.int .i64 c.p) ∧ w'.cell? ⟨g, i * 7 + 2, none⟩ = some (.int .i64 c.n.f) ∧ w'.cell? ⟨g, i * 7 + 3, none⟩ = some (.int .i64 c.n.b) ∧ w'.cell? ⟨g, i * 7 + 4, none⟩ = some (.bool c.n.bo) ∧ w'.cell? ⟨g, i * 7 + 5, none⟩ = some (.bool c.n.un) ∧ w'.cell? ⟨g, i * 7 + 6, none⟩ = some (.bool c.n.re)) (go_keep) (fail)
  go_wp2
  exact bodyPost_ret (v := c.agg) (by simp [results, Tryz.results94, go_sem]) rfl ⟨rfl, ((Below.refl _ _).alloc (Nat.le_refl _) _).drew⟩
end Go.Proofs.YtjlfibhbfdckpaaGreatDoor

/- Cells are appended. -/
namespace Go.Proofs.YtjlfibhbfdckpaaGreatDoor
open Go.RowKit
theorem info_zero : (Tryz.prog.info? 38).bind (·.zero) = some (Cel.agg ⟨0, 0, Pn.plain⟩) := by kernel_rfl
theorem info_size : (Tryz.prog.info? 38).map (·.size) = some 7 := by kernel_rfl
theorem info_bytes : (Tryz.prog.info? 38).map (·.bytes) = some 40 := by kernel_rfl
theorem info_cell : ∃ i : TypeInfo, Tryz.prog.info? 38 = some i ∧ i.zero = some (Cel.agg ⟨0, 0, Pn.plain⟩) ∧ i.size = 7 ∧ i.bytes = 40 := by
  have h1 := info_zero
  have h2 := info_size
  have h3 := info_bytes
  cases h : Tryz.prog.info? 38 with
  | none => rw [h] at h2; simp at h2
  | some i => rw [h] at h1 h2 h3; exact ⟨i, rfl, by simpa using h1, by simpa using h2, by simpa using h3⟩
abbrev celArr (c : Cel) : Array Value := #[.int .i32 c.r, .int .i64 c.p, .int .i64 c.n.f, .int .i64 c.n.b, .bool c.n.bo, .bool c.n.un, .bool c.n.re]
theorem step_append_cel {ops : Array Oper} {o : Oper} {a : Act} {K : Act → World → Prop} {Q : Exit → Act → World → Prop} {E : Prop} (w : World) (hgd : o.guard = none) (s x : Operand)
    (ho : o.op = .call { callee := .builtin .append, args := #[s, x], argTypes := #[120, 120] }) (base : Nat) (v : Value) (L : List Cel) (c : Cel) (k : Nat) (hk : L.length = k) (hs : a.eval s = v)
    (hown : w.ownsRow base 38 7 v k (flat L)) (b : Nat) (hx : a.eval x = .slice (some ⟨b, 0, none⟩) 1 1) (hb : w.heap[b]? = some (.cells (celArr c) 38)) (hL : k ≤ 1000) (hbase : base ≤ w.heap.size)
    (h : ∀ g cap w', w'.ownsRow base 38 7 (.slice (some ⟨g, 0, none⟩) (k + 1) cap) (k + 1) (flat (L ++ [c])) → w.grownBy w' v.ownBlock → (v.ownBlock = some g ∨ g = w.heap.size) → g < w'.heap.size → K (a.put o.dst (.slice (some ⟨g, 0, none⟩) (k + 1) cap)) w') :
    if Region.wanted o (yielded ops a.tmps) = true then Oper.wp Tryz.prog o a w K Q else E := by
  obtain ⟨ti, i1, i2, i3, i4⟩ := info_cell
  refine step_append_lies w hgd s x 120 ho base 38 ti _ 7 40 Tryz.underlying120 i1 i2 i3 i4 rfl (by decide) v k (flat L) hs hown ⟨b, 0, none⟩ 1 1 c.vals hx rfl (World.news_of_block hb) (one_vals c) (by decide) (by unfold maxLen; omega) (by omega) hbase w.heap.size rfl ?_
  intro g cap w' h1 h2 h3 h4
  rw [← flat_one c, ← flat_append] at h1
  exact h g cap w' h1 h2 h3 h4
theorem list_append_cel {ops : Array Oper} {rest : List Oper} {o : Oper} {a : Act} {Q : Exit → Act → World → Prop} (w : World) (hgd : o.guard = none) (s x : Operand)
    (ho : o.op = .call { callee := .builtin .append, args := #[s, x], argTypes := #[120, 120] }) (base : Nat) (v : Value) (L : List Cel) (c : Cel) (k : Nat) (hk : L.length = k) (hs : a.eval s = v)
    (hown : w.ownsRow base 38 7 v k (flat L)) (b : Nat) (hx : a.eval x = .slice (some ⟨b, 0, none⟩) 1 1) (hb : w.heap[b]? = some (.cells (celArr c) 38)) (hL : k ≤ 1000) (hbase : base ≤ w.heap.size)
    (h : ∀ g cap w', w'.ownsRow base 38 7 (.slice (some ⟨g, 0, none⟩) (k + 1) cap) (k + 1) (flat (L ++ [c])) → w.grownBy w' v.ownBlock → (v.ownBlock = some g ∨ g = w.heap.size) → g < w'.heap.size → wpList Tryz.prog ops Q rest (a.put o.dst (.slice (some ⟨g, 0, none⟩) (k + 1) cap)) w') :
    wpList Tryz.prog ops Q (o :: rest) a w := by
  obtain ⟨ti, i1, i2, i3, i4⟩ := info_cell
  refine wpList_append_lies w hgd s x 120 ho base 38 ti _ 7 40 Tryz.underlying120 i1 i2 i3 i4 rfl (by decide) v k (flat L) hs hown ⟨b, 0, none⟩ 1 1 c.vals hx rfl (World.news_of_block hb) (one_vals c) (by decide) (by unfold maxLen; omega) (by omega) hbase w.heap.size rfl ?_
  intro g cap w' h1 h2 h3 h4
  rw [← flat_one c, ← flat_append] at h1
  exact h g cap w' h1 h2 h3 h4
end Go.Proofs.YtjlfibhbfdckpaaGreatDoor
