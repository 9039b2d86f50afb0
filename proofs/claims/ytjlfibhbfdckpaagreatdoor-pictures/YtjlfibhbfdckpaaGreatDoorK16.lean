/- Texts of the proof, one behind the other: DkU, DkV. -/
import Derived.Test.YtjlfibhbfdckpaaGreatDoorK15
/- A window is changed where it lies: plain, and in memory. Show, Move, Write. -/
namespace Go.Proofs.YtjlfibhbfdckpaaGreatDoor
open Go.RowKit
open Wd (wd)
attribute [local go_sem ↓] Go.wp_at_zero Go.wp_at_succ
def updL (L : List Wn) (n : Int) (f : Wn → Wn) : List Wn := L.map (fun u => if u.n = n then f u else u)
section
variable {L : List Wn} {n : Int} {f : Wn → Wn}
theorem updL_nums (hn : ∀ u ∈ L, u.n = n → (f u).n = n) : (updL L n f).map Wn.n = L.map Wn.n := by
  unfold updL
  rw [List.map_map]
  refine List.map_congr_left fun u hu => ?_
  simp only [Function.comp]
  split
  · rename_i e; rw [hn u hu e, e]
  · rfl
theorem kids_updL (hp : ∀ u ∈ L, u.n = n → (f u).par = u.par) (m : Int) : kids (updL L n f) m = (kids L m).map (fun u => if u.n = n then f u else u) := by
  induction L with
  | nil => rfl
  | cons a t ih =>
    have ih' := ih (fun u hu => hp u (List.mem_cons_of_mem _ hu))
    have ha : (if a.n = n then f a else a).par = a.par := by
      split
      · exact hp a List.mem_cons_self ‹_›
      · rfl
    unfold kids updL at ih' ⊢
    rw [List.map_cons]
    by_cases hc : a.par = m
    · rw [List.filter_cons_of_pos (by simpa [ha] using hc), List.filter_cons_of_pos (by simpa using hc), List.map_cons, ih']
    · rw [List.filter_cons_of_neg (by simpa [ha] using hc), List.filter_cons_of_neg (by simpa using hc), ih']
theorem mem_updL {v : Wn} (hv : v ∈ L) (hv' : v.n = n) (u : Wn) (hu : u ∈ updL L n f) (nd : (L.map Wn.n).Nodup) : u = f v ∨ (u ∈ L ∧ u.n ≠ n) := by
  obtain ⟨a, ha, e⟩ := List.mem_map.1 hu
  split at e
  · rename_i h1
    obtain rfl := nd_inj nd ha hv (h1.trans hv'.symm)
    exact .inl e.symm
  · rename_i h1; exact .inr (e ▸ ⟨ha, h1⟩)
theorem ok_updL {last : Int} (ok : DOk L last) (hn : ∀ u ∈ L, u.n = n → (f u).n = n) (hp : ∀ u ∈ L, u.n = n → (f u).par = u.par) (hx : ∀ u ∈ L, u.n = n → -1000 ≤ (f u).x ∧ (f u).x ≤ 1000 ∧ -1000 ≤ (f u).y ∧ (f u).y ≤ 1000) : DOk (updL L n f) last := by
  obtain ⟨rk, K, T⟩ := ok.tree
  have hin : ∀ u ∈ updL L n f, ∃ a ∈ L, u.n = a.n ∧ u.par = a.par ∧ (u = a ∨ (a.n = n ∧ u = f a)) := by
    intro u hu
    obtain ⟨a, ha, e⟩ := List.mem_map.1 hu
    split at e
    · rename_i h1; exact ⟨a, ha, by rw [← e, hn a ha h1, h1], by rw [← e, hp a ha h1], .inr ⟨h1, e.symm⟩⟩
    · exact ⟨a, ha, by rw [e], by rw [e], .inl e.symm⟩
  have hout : ∀ a ∈ L, ∃ u ∈ updL L n f, u.n = a.n := by
    intro a ha
    refine ⟨_, List.mem_map.2 ⟨a, ha, rfl⟩, ?_⟩
    split
    · rename_i h1; rw [hn a ha h1, h1]
    · rfl
  refine ⟨⟨rk, K, ?_, ?_, ?_, ?_⟩, ?_, ?_, ?_⟩
  · obtain ⟨r, t, rfl, h0, h1, h2⟩ := T.head
    refine ⟨if r.n = n then f r else r, updL t n f, rfl, ?_, ?_, ?_⟩
    · split
      · rename_i e; rw [hn r List.mem_cons_self e, ← e]; exact h0
      · exact h0
    · split
      · rename_i e; rw [hp r List.mem_cons_self e]; exact h1
      · exact h1
    · intro u hu
      obtain ⟨a, ha, e⟩ := List.mem_map.1 hu
      have := h2 a ha
      split at e
      · rename_i h1; rw [← e, hn a (List.mem_cons_of_mem _ ha) h1, hp a (List.mem_cons_of_mem _ ha) h1]; omega
      · rw [← e]; exact this
  · rw [updL_nums hn]; exact T.nd
  · intro u hu hpos
    obtain ⟨a, ha, e1, e2, _⟩ := hin u hu
    rw [e2] at hpos ⊢
    rw [e1]
    obtain ⟨⟨b, hb, hbn⟩, hr⟩ := T.up a ha hpos
    obtain ⟨c, hc, hcn⟩ := hout b hb
    exact ⟨⟨c, hc, hcn.trans hbn⟩, hr⟩
  · intro u hu
    obtain ⟨a, ha, e1, _⟩ := hin u hu
    rw [e1]; exact T.le a ha
  · intro u hu
    obtain ⟨a, ha, e1, _⟩ := hin u hu
    rw [e1]; exact ok.le a ha
  · unfold updL; rw [List.length_map]; exact ok.len
  · intro u hu
    obtain ⟨a, ha, _, _, rfl | ⟨h1, rfl⟩⟩ := hin u hu
    · exact ok.pl _ ha
    · exact hx a ha h1
end
theorem DkAt.upd {w w' : World} {M : Mm} {L : List Wn} {last : Int} {N : Nat} {s : Rs} {t : Pt} (h : DkAt w M L last N s t) (ok : DOk L last) {v : Wn} (hv : v ∈ L) (f : Wn → Wn) (hfn : (f v).n = v.n) (hfp : (f v).par = v.par)
    (hk : ∀ i, M.own L i → i ≠ M.b v.n → i ≠ M.c v.n → i ≠ M.g v.n → w'.heap[i]? = w.heap[i]?)
    (hw : WinV w' (f v) (M.b v.n) (M.c v.n) (M.g v.n) (M.pp v.par) (M.s v.n) (M.ptrs (kids L v.n))) : DkAt w' M (updL L v.n f) last N s t ∧ (∀ i, M.own (updL L v.n f) i ↔ M.own L i) := by
  obtain ⟨rk, K, T⟩ := ok.tree
  have hnn : ∀ u ∈ L, u.n = v.n → (f u).n = v.n := fun u hu e => by obtain rfl := nd_inj T.nd hu hv e; exact hfn
  have hpp : ∀ u ∈ L, u.n = v.n → (f u).par = u.par := fun u hu e => by obtain rfl := nd_inj T.nd hu hv e; exact hfp
  have hokP : ∀ p : Pl, p.ok (updL L v.n f) ↔ p.ok L := by
    intro p
    cases p with
    | top k => exact Iff.rfl
    | win m k =>
      have e := updL_nums hnn
      have h1 : (∃ u ∈ updL L v.n f, u.n = m) ↔ m ∈ (updL L v.n f).map Wn.n := by simp
      have h2 : (∃ u ∈ L, u.n = m) ↔ m ∈ L.map Wn.n := by simp
      show _ ∧ _ ↔ _ ∧ _
      rw [h1, h2, e]
  have hown : ∀ i, M.own (updL L v.n f) i ↔ M.own L i := fun i => ⟨fun ⟨p, a, b⟩ => ⟨p, (hokP p).1 a, b⟩, fun ⟨p, a, b⟩ => ⟨p, (hokP p).2 a, b⟩⟩
  have hptr : ∀ m, M.ptrs (kids (updL L v.n f) m) = M.ptrs (kids L m) := by
    intro m
    rw [kids_updL hpp]
    unfold Mm.ptrs
    rw [List.map_map]
    refine List.map_congr_left fun u hu => ?_
    simp only [Function.comp]
    split
    · rename_i e; rw [hnn u (mem_kids.1 hu).1 e, e]
    · rfl
  have nt : ∀ k, k < 5 → w'.heap[M.t k]? = w.heap[M.t k]? := fun k hk5 => hk _ (own_top M L k hk5)
    (h.ne (p := .top k) (q := .win v.n 0) hk5 ⟨by omega, v, hv, rfl⟩ rfl rfl (by simp)) (h.ne (p := .top k) (q := .win v.n 1) hk5 ⟨by omega, v, hv, rfl⟩ rfl rfl (by simp)) (h.ne (p := .top k) (q := .win v.n 2) hk5 ⟨by omega, v, hv, rfl⟩ rfl rfl (by simp))
  refine ⟨⟨(nt 0 (by omega)).trans h.b0, (nt 1 (by omega)).trans h.b1, h.scr.same (nt 2 (by omega)) (nt 3 (by omega)) (nt 4 (by omega)), ?_, fun p q i hp hq => h.inj p q i ((hokP p).1 hp) ((hokP q).1 hq), fun i hi => h.two i ((hown i).1 hi)⟩, hown⟩
  intro u hu
  rcases mem_updL hv rfl u hu T.nd with rfl | ⟨huL, hne⟩
  · rw [hfn, hfp, hptr]; exact hw
  · rw [hptr]
    have kk : ∀ k i, k < 4 → M.blk (.win u.n k) = some i → w'.heap[i]? = w.heap[i]? := fun k i hk4 hb =>
      hk i ⟨.win u.n k, ⟨hk4, u, huL, rfl⟩, hb⟩ (h.ne (p := .win u.n k) (q := .win v.n 0) ⟨hk4, u, huL, rfl⟩ ⟨by omega, v, hv, rfl⟩ hb rfl (by simp [hne])) (h.ne (p := .win u.n k) (q := .win v.n 1) ⟨hk4, u, huL, rfl⟩ ⟨by omega, v, hv, rfl⟩ hb rfl (by simp [hne])) (h.ne (p := .win u.n k) (q := .win v.n 2) ⟨hk4, u, huL, rfl⟩ ⟨by omega, v, hv, rfl⟩ hb rfl (by simp [hne]))
    exact (h.win u huL).same (kk 0 _ (by omega) rfl) (kk 1 _ (by omega) rfl) (kk 2 _ (by omega) rfl) (fun i hi => kk 3 i (by omega) hi)
/-- What a call that keeps the desk one leaves. -/
def DPost (M : Mm) (L L' : List Wn) (last' : Int) (N : Nat) (s : Rs) (t : Pt) (w : World) (r : Value) (e : Ending) (w' : World) : Prop :=
  ∃ M', e = .returned r ∧ DkAt w' M' L' last' N s t ∧ M'.t = M.t ∧ Keep (M.own L) w w' ∧ ∀ i, M'.own L' i → M.own L i ∨ w.heap.size ≤ i
section
variable {M : Mm} {L : List Wn} {last : Int} {N : Nat} {s : Rs} {t : Pt}
theorem DkAt.ne_bg {w : World} (h : DkAt w M L last N s t) {v : Wn} (hv : v ∈ L) : M.b v.n ≠ M.g v.n := h.ne (p := .win v.n 0) (q := .win v.n 2) ⟨by omega, v, hv, rfl⟩ ⟨by omega, v, hv, rfl⟩ rfl rfl (by simp)
theorem DkAt.ne_bc {w : World} (h : DkAt w M L last N s t) {v : Wn} (hv : v ∈ L) : M.b v.n ≠ M.c v.n := h.ne (p := .win v.n 0) (q := .win v.n 1) ⟨by omega, v, hv, rfl⟩ ⟨by omega, v, hv, rfl⟩ rfl rfl (by simp)
theorem DkAt.ne_sg {w : World} (h : DkAt w M L last N s t) {v : Wn} (hv : v ∈ L) : (M.s v.n).ownBlock ≠ some (M.g v.n) := fun e => by
  have := h.inj (.win v.n 3) (.win v.n 2) _ ⟨by omega, v, hv, rfl⟩ ⟨by omega, v, hv, rfl⟩ e rfl; simp at this
theorem DkAt.ne_sb {w : World} (h : DkAt w M L last N s t) {v : Wn} (hv : v ∈ L) : (M.s v.n).ownBlock ≠ some (M.b v.n) := fun e => by
  have := h.inj (.win v.n 3) (.win v.n 0) _ ⟨by omega, v, hv, rfl⟩ ⟨by omega, v, hv, rfl⟩ e rfl; simp at this
/-- A window's block is another one now. -/
theorem DkAt.setB {w w' : World} (h : DkAt w M L last N s t) (ok : DOk L last) {v : Wn} (hv : v ∈ L) (f : Wn → Wn) (hfn : (f v).n = v.n) (hfp : (f v).par = v.par) (hG : (f v).W = v.W ∧ (f v).H = v.H ∧ (f v).G = v.G)
    (hb : w'.heap[M.b v.n]? = some (.cells (winArr (f v) (M.pp v.par) (M.c v.n) (M.s v.n)) 131)) (hk : Keep (fun i => i = M.b v.n) w w') (r : Value) : DPost M L (updL L v.n f) last N s t w r (.returned r) w' := by
  have hV := h.win v hv
  have hw : WinV w' (f v) (M.b v.n) (M.c v.n) (M.g v.n) (M.pp v.par) (M.s v.n) (M.ptrs (kids L v.n)) := by
    refine ⟨hb, ?_, ?_, ownsRow_same hV.row (fun i hi => hk.block i (ownsRow_lt hV.row hi).1 (fun e => h.ne_sb hv (by rw [hi, e])))⟩
    · rw [hG.1, hG.2.1, hG.2.2]; exact hV.gr.same (hk.block _ hV.gr.lt (fun e => h.ne_bc hv e.symm)) (hk.block _ hV.gr.glt (fun e => h.ne_bg hv e.symm))
    · rw [hG.1, hG.2.1, hG.2.2]; exact hV.wf
  obtain ⟨D, O⟩ := h.upd ok hv f hfn hfp (fun i hi n1 _ _ => hk.block i (h.lt hi) n1) hw
  exact ⟨M, rfl, D, rfl, hk.mono (fun i e => e ▸ own_b M hv), fun i hi => .inl ((O i).1 hi)⟩
theorem DkAt.setG {w w' : World} (h : DkAt w M L last N s t) (ok : DOk L last) {v : Wn} (hv : v ∈ L) (G : Nat → Nat → Cel) (hwf : Wf v.W v.H G)
    (hg : GrAt w' (M.c v.n) (M.g v.n) v.W v.H (v.H * v.W) G) (hk : Keep (fun i => i = M.g v.n) w w') (r : Value) : DPost M L (updL L v.n (fun u => { u with G := G })) last N s t w r (.returned r) w' := by
  have hV := h.win v hv
  have hw : WinV w' { v with G := G } (M.b v.n) (M.c v.n) (M.g v.n) (M.pp v.par) (M.s v.n) (M.ptrs (kids L v.n)) :=
    ⟨(hk.block _ hV.lt (h.ne_bg hv)).trans hV.blk, hg, hwf, ownsRow_same hV.row (fun i hi => hk.block i (ownsRow_lt hV.row hi).1 (fun e => h.ne_sg hv (by rw [hi, e])))⟩
  obtain ⟨D, O⟩ := h.upd ok hv (fun u => { u with G := G }) rfl rfl (fun i hi _ _ n3 => hk.block i (h.lt hi) n3) hw
  exact ⟨M, rfl, D, rfl, hk.mono (fun i e => e ▸ own_g M hv), fun i hi => .inl ((O i).1 hi)⟩
end
end Go.Proofs.YtjlfibhbfdckpaaGreatDoor

/- The program's calls: Show, Move, Write. -/
namespace Go.Proofs.YtjlfibhbfdckpaaGreatDoor
open Go.RowKit
open Wd (wd)
attribute [local go_sem ↓] Go.wp_at_zero Go.wp_at_succ
/-- May a pen be? -/
def penB (p : Pn) : Bool := Wd.inB p.f 0 8 && Wd.inB p.b 0 8
theorem penB_iff {p : Pn} : penB p = true ↔ 0 ≤ p.f ∧ p.f ≤ 8 ∧ 0 ≤ p.b ∧ p.b ≤ 8 := by simp [penB, Wd.inB, and_assoc]
set_option maxHeartbeats 1000000 in
theorem pPen (p : Pn) (w : World) :
    Calls Tryz.prog 77 #[p.agg] w fun e w' => e = .returned (.bool (penB p)) ∧ Below w.heap.size w w' := by
  cases h1 : Wd.inB p.f 0 8 <;> cases h2 : Wd.inB p.b 0 8
  all_goals
    go_enter Tryz.func77, Tryz.ntmps77
    go_wp2_with (first | (go_at_call 107; refine (pWithin _ _ _ _).mono ?_; rintro e w' ⟨rfl, hw'⟩; replace hw' := hw'.symm; subst hw'))
    go_ret
    exact ⟨by simp [penB, h1, h2], (Below.refl _ _).alloc (Nat.le_refl _) _⟩
section
variable {M : Mm} {L : List Wn} {last : Int} {N : Nat} {s : Rs} {t : Pt}
theorem wIsRoot (v : Wn) (bn cn gn : Nat) (pp : Option Addr) (sv : Value) (ks : List Value) (w : World) (h : WinV w v bn cn gn pp sv ks) :
    Calls Tryz.prog 151 #[.pointer (some ⟨bn, 0, none⟩)] w fun e w' => e = .returned (.bool pp.isNone) ∧ w' = w := by
  have f1 := h.f1
  clear h
  go_enter Tryz.func151, Tryz.ntmps151
  go_wp2_with fail
  go_ret
  exact ⟨rfl, rfl⟩
theorem kBelow (ok : DOk L last) (w : World) (h : DkAt w M L last N s t) (v : Wn) (hv : v ∈ L) (hp : v.par ≠ -1) :
    Calls Tryz.prog 111 #[.pointer (some ⟨M.t 0, 0, none⟩), .int .i64 v.n] w fun e w' => e = .returned (.tuple #[M.ptr v.n, .int .i64 0]) ∧ w' = w := by
  have HD : Hid (DkAt w M L last N s t) := h
  have hf := M.fnd_in hv
  have hpp : (M.pp v.par).isNone = false := by simp [Mm.pp, hp]
  clear h
  go_enter Tryz.func111, Tryz.ntmps111
  go_wp2_with (first | (go_at_call 75; refine (kFind ok _ HD.out _).mono ?_; rintro e w' ⟨rfl, hw'⟩; replace hw' := hw'.symm; subst hw') | (go_at_call 151; refine (wIsRoot v _ _ _ _ _ _ _ (HD.out.win v hv)).mono ?_; rintro e w' ⟨rfl, hw'⟩; replace hw' := hw'.symm; subst hw'))
  go_ret2
  exact ⟨rfl, rfl⟩
theorem wShow (v : Wn) (bn cn gn : Nat) (pp : Option Addr) (sv : Value) (ks : List Value) (b : Bool) (w : World) (h : WinV w v bn cn gn pp sv ks) :
    Calls Tryz.prog 116 #[.pointer (some ⟨bn, 0, none⟩), .bool b] w fun e w' => e = .returned (.tuple #[]) ∧ w'.heap[bn]? = some (.cells (winArr { v with sh := b } pp cn sv) 131) ∧ Keep (fun i => i = bn) w w' := by
  have f4 := h.f4
  have fz := h.free
  have HV : Hid (WinV w v bn cn gn pp sv ks) := h
  clear h
  go_enter Tryz.func116, Tryz.ntmps116
  go_wp2_with fail
  go_end0
  exact ⟨rfl, set_block HV.out.blk _, (Keep.refl _ _).setCell _ _ (fun _ => rfl)⟩
set_option maxHeartbeats 1000000 in
theorem kShow (ok : DOk L last) (w : World) (h : DkAt w M L last N s t) (v : Wn) (hv : v ∈ L) (hp : v.par ≠ -1) (b : Bool) :
    Calls Tryz.prog 53 #[.pointer (some ⟨M.t 0, 0, none⟩), .int .i64 v.n, .bool b] w (DPost M L (updL L v.n (fun u => { u with sh := b })) last N s t w (.int .i64 0)) := by
  have HD : Hid (DkAt w M L last N s t) := h
  clear h
  go_enter Tryz.func53, Tryz.ntmps53
  go_wp2_with (first | (go_at_call 111; refine (kBelow ok _ HD.out v hv hp).mono ?_; rintro e w' ⟨rfl, hw'⟩; replace hw' := hw'.symm; subst hw'))
  go_at_call 116
  refine (wShow v _ _ _ _ _ _ b _ (HD.out.win v hv)).mono ?_
  rintro e wa ⟨rfl, hb, hk⟩
  have HP : Hid (DPost M L (updL L v.n (fun u => { u with sh := b })) last N s t w (.int .i64 0) (.returned (.int .i64 0)) wa) := HD.out.setB ok hv _ rfl rfl ⟨rfl, rfl, rfl⟩ hb hk _
  clear hb hk HD
  go_wp2_with fail
  go_ret
  exact HP.out
set_option maxHeartbeats 1000000 in
theorem wMove (v : Wn) (bn cn gn : Nat) (pp : Option Addr) (sv : Value) (ks : List Value) (x y : Int) (w : World) (h : WinV w v bn cn gn pp sv ks) :
    Calls Tryz.prog 113 #[.pointer (some ⟨bn, 0, none⟩), .int .i64 x, .int .i64 y] w fun e w' => e = .returned (.tuple #[]) ∧ w'.heap[bn]? = some (.cells (winArr { v with x := x, y := y } pp cn sv) 131) ∧ Keep (fun i => i = bn) w w' := by
  have f2 := h.f2
  have f3 := h.f3
  have fz := h.free
  have HV : Hid (WinV w v bn cn gn pp sv ks) := h
  clear h
  go_enter Tryz.func113, Tryz.ntmps113
  go_wp2_with fail
  go_end0
  exact ⟨rfl, set_block (set_block HV.out.blk _) _, ((Keep.refl (fun i => i = bn) w).setCell ⟨bn, 2, none⟩ _ (fun _ => rfl)).setCell ⟨bn, 3, none⟩ _ (fun _ => rfl)⟩
set_option maxHeartbeats 1000000 in
theorem kMove (ok : DOk L last) (w : World) (h : DkAt w M L last N s t) (v : Wn) (hv : v ∈ L) (hp : v.par ≠ -1) (x y : Int) (hpl : placeB x y = true) :
    Calls Tryz.prog 50 #[.pointer (some ⟨M.t 0, 0, none⟩), .int .i64 v.n, .int .i64 x, .int .i64 y] w (DPost M L (updL L v.n (fun u => { u with x := x, y := y })) last N s t w (.int .i64 0)) := by
  have HD : Hid (DkAt w M L last N s t) := h
  clear h
  go_enter Tryz.func50, Tryz.ntmps50
  go_wp2_with (first | (go_at_call 111; refine (kBelow ok _ HD.out v hv hp).mono ?_; rintro e w' ⟨rfl, hw'⟩; replace hw' := hw'.symm; subst hw') | (go_at_call 76; refine (pPlace _ _ _).mono ?_; rintro e w' ⟨rfl, hw'⟩; replace hw' := hw'.symm; subst hw'))
  go_at_call 113
  refine (wMove v _ _ _ _ _ _ x y _ (HD.out.win v hv)).mono ?_
  rintro e wa ⟨rfl, hb, hk⟩
  have HP : Hid (DPost M L (updL L v.n (fun u => { u with x := x, y := y })) last N s t w (.int .i64 0) (.returned (.int .i64 0)) wa) := HD.out.setB ok hv _ rfl rfl ⟨rfl, rfl, rfl⟩ hb hk _
  clear hb hk HD
  go_wp2_with fail
  go_ret
  exact HP.out
set_option maxHeartbeats 1000000 in
theorem kWrite (ok : DOk L last) (w : World) (h : DkAt w M L last N s t) (v : Wn) (hv : v ∈ L) (x y : Int) (hpl : placeB x y = true) (b : ByteArray) (hb : b.size ≤ 200) (p : Pn) (hpn : penB p = true) :
    Calls Tryz.prog 31 #[.pointer (some ⟨M.t 0, 0, none⟩), .int .i64 v.n, .int .i64 x, .int .i64 y, .string b, p.agg] w (DPost M L (updL L v.n (fun u => { u with G := writeAll v.W v.H y p x (runesG b b.size 0) v.G })) last N s t w (.int .i64 0)) := by
  have HD : Hid (DkAt w M L last N s t) := h
  have hf := M.fnd_in hv
  have hx := placeB_iff.1 hpl
  have hb' : ¬ (200 : Int) < (b.size : Int) := by omega
  clear h
  go_enter Tryz.func31, Tryz.ntmps31
  go_wp2_with (first | (go_at_call 75; fail))
  have hb1 : Below w.heap.size w (w.alloc (.cells #[.int .i64 p.f, .int .i64 p.b, .bool p.bo, .bool p.un, .bool p.re] 33)) := (Below.refl _ _).alloc (Nat.le_refl _) _
  have P1 := pen_new w p 33
  generalize w.alloc (.cells #[.int .i64 p.f, .int .i64 p.b, .bool p.bo, .bool p.un, .bool p.re] 33) = wa at *
  have HDa : Hid (DkAt wa M L last N s t) := HD.out.below hb1
  have P1l := P1.lt
  obtain ⟨p0, p1, p2, p3, p4⟩ := id P1
  go_wp2_with (first | (go_at_call 75; refine (kFind ok _ HDa.out _).mono ?_; rintro e w' ⟨rfl, hw'⟩; replace hw' := hw'.symm; subst hw') | (go_at_call 76; refine (pPlace _ _ _).mono ?_; rintro e w' ⟨rfl, hw'⟩; replace hw' := hw'.symm; subst hw'))
  go_at_call 77
  refine (pPen p _).mono ?_
  rintro e wb ⟨rfl, hbb⟩
  have HDb : Hid (DkAt wb M L last N s t) := HDa.out.below hbb
  have P2 := P1.same (hbb.block _ P1l)
  have K2 : Hid (Below w.heap.size w wb) := hb1.trans (hbb.mono hb1.size)
  clear p0 p1 p2 p3 p4 P1 hbb HDa hb1
  obtain ⟨p0, p1, p2, p3, p4⟩ := P2
  go_wp2_with fail
  go_at_call 78
  refine (wWrite v _ _ _ _ _ _ x y b p _ (HDb.out.win v hv) (HDb.out.ne_bg hv) (HDb.out.ne_sg hv) (by omega) hb).mono ?_
  rintro e wc ⟨rfl, G1, K1⟩
  have HP : Hid (DPost M L (updL L v.n (fun u => { u with G := writeAll v.W v.H y p x (runesG b b.size 0) v.G })) last N s t w (.int .i64 0) (.returned (.int .i64 0)) wc) := by
    obtain ⟨M', e1, D1, t1, k1, o1⟩ := HDb.out.setG ok hv _ ((HDb.out.win v hv).wf.writeAll _ x (runesG_ok b b.size 0)) G1 K1 (.int .i64 0)
    exact ⟨M', e1, D1, t1, (Keep.below _ K2.out).trans k1 (fun _ _ h => h), fun i hi => (o1 i hi).imp id (fun h => by have := K2.out.size; omega)⟩
  clear G1 K1 HDb K2 p0 p1 p2 p3 p4
  go_wp2_with fail
  go_ret
  exact HP.out
end
end Go.Proofs.YtjlfibhbfdckpaaGreatDoor
