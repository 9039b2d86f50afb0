/- Texts of the proof, one behind the other: DkI, DkR, DkQ, DkK. -/
import Derived.Test.YtjlfibhbfdckpaaGreatDoorK13
import Derived.Shelf.Spec.SlicesInsert
/- slices.Insert at the front, where there is room. -/
namespace Go.Proofs.YtjlfibhbfdckpaaGreatDoor
open Go.RowKit Go.Lib Go.Sort Go.Shelf
attribute [local go_sem ↓] Go.wp_at_zero Go.wp_at_succ
set_option maxHeartbeats 4000000 in
set_option maxRecDepth 100000 in
theorem sInsertA (b n c vb : Nat) (cs : List Value) (u : Value) (w : World) (hi : 0 < n) (hroom : n + 1 ≤ c) (hc63 : c ≤ 9223372036854775807) (hvb : vb ≠ b)
    (hcl : cs.length = n)
    (hcs : ∀ j v, cs[j]? = some v → w.cell? ⟨b, j, none⟩ = some v) (hsp : ∀ j, j < n + 1 → (w.cell? ⟨b, j, none⟩).isSome = true) (hfz : ∀ j, j < n + 1 → w.frozen? ⟨b, j, none⟩ = false)
    (hvs : w.cell? ⟨vb, 0, none⟩ = some u) (h1c : ∀ v ∈ cs, v.oneCell' = true) (h1v : u.oneCell' = true)
    (tA tB : TypeId) (kA kB : Nat) (hsa : w.shape? vb = some (tA, kA)) (hsb : w.shape? b = some (tB, kB)) (hkB : kB ≠ 0) (hfa : w.frozen? ⟨vb, 0, none⟩ = false) (hfe : w.frozen? ⟨vb, kA, none⟩ = false) :
    Calls Tryz.prog 153 #[.slice (some ⟨b, 0, none⟩) n c, .int .i64 0, .slice (some ⟨vb, 0, none⟩) 1 1] w fun e w' =>
      e = .returned (.slice (some ⟨b, 0, none⟩) (n + 1) c) ∧ w' = (w.drew.setCells b 1 cs).setCells b 0 [u] := by
  have mixed : Tryz.prog.follows Departure.mixedOrders = true := by kernel_rfl
  have hw1 : IntKind.i64.wrap 1 = 1 := by decide
  have hb2 : ¬ (c = 1) := by omega
  have hb3 : (1 : Int) ≤ (n : Int) + 1 := by omega
  have hb6 : ¬ (c = 0) := by omega
  have hb7 : (0 : Int) ≤ (n : Int) + 1 := by omega
  have hb5 : (1 : Int).toNat = 1 := rfl
  have hz2 : ¬ ((0 : Int) = (n : Int)) := by omega
  have hsz : (Tryz.prog.info? 111).map (·.size) = some 1 := by
    obtain ⟨i0, hi0, h0, h1, h2⟩ := info_parts ptrInfo
    rw [hi0]; simp [h1]
  have hov : ∀ lb cb, (callFunc 172 #[.slice (some ⟨vb, 0, none⟩) 1 1, .slice (some ⟨b, 1, none⟩) lb cb]).run Tryz.prog w = .ok (.value (.bool false)) w := fun lb cb => by
    rw [run_callFunc_extern Tryz.func172 (by kernel_rfl) (by kernel_rfl) (by kernel_rfl) (e := Extern.SlicesOverlaps.overlaps #[129, 129] #[4]) (by kernel_rfl),
      Lib.run_overlaps_apart w 129 4 111 Tryz.underlying129 1 Tryz.sizeOf111 ⟨vb, 0, none⟩ ⟨b, 1, none⟩ 1 1 lb cb hvb tA tB kA kB hsa hsb hkB hfa hfe]
    rfl
  have hcp1 : ∀ ty dc sc, (Builtin.copy_ #[129, 129] ty #[.slice (some ⟨b, 1, none⟩) n dc, .slice (some ⟨b, 0, none⟩) (n + 1) sc]).run Tryz.prog w.drew = .ok (goInt cs.length) (w.drew.setCells b 1 cs) := fun ty dc sc =>
    run_copy_cells w.drew _ _ ty 111 b 1 n dc ⟨b, 0, none⟩ (n + 1) sc cs Tryz.underlying129 hsz (by rw [hcl]; simp only [Nat.min_def]; split <;> omega)
      (fun j v hj => by rw [Addr.add_lit, Nat.zero_add]; exact hcs j v hj)
      (fun j hj => hsp (1 + j) (by omega)) (fun j hj => hfz (1 + j) (by omega)) h1c
  obtain ⟨W1, hW1⟩ : ∃ W1, W1 = w.drew.setCells b 1 cs := ⟨_, rfl⟩
  have hsp1 : ∀ k, k < n + 1 → (W1.cell? ⟨b, k, none⟩).isSome = true := fun k hk => by
    rw [hW1]
    exact isSome_setCells b cs 1 w.drew (fun j hj => hsp (1 + j) (by omega)) _ (hsp k hk)
  have hcp2 : ∀ (W : World), (∀ x, W.cell? x = W1.cell? x) → (∀ x, W.frozen? x = W1.frozen? x) → ∀ ty dc, (Builtin.copy_ #[129, 129] ty #[.slice (some ⟨b, 0, none⟩) (n + 1) dc, .slice (some ⟨vb, 0, none⟩) 1 1]).run Tryz.prog W = .ok (goInt [u].length) (W.setCells b 0 [u]) := fun W hWc hWf ty dc =>
    run_copy_cells W _ _ ty 111 b 0 (n + 1) dc ⟨vb, 0, none⟩ 1 1 [u] Tryz.underlying129 hsz (by simp only [List.length_cons, List.length_nil, Nat.min_def]; split <;> omega)
      (fun j v hj => by
        rw [Addr.add_lit, hWc, hW1, World.cell?_setCells_out b _ _ _ _ (fun h _ => absurd h hvb)]
        match j, hj with
        | 0, hj => obtain rfl : u = v := by simpa using hj
                   exact hvs)
      (fun j hj => by rw [hWc, Nat.zero_add]; exact hsp1 _ (by simp at hj; omega)) (fun j hj => by rw [hWf, hW1, World.frozen?_setCells, Nat.zero_add]; exact hfz _ (by simp at hj; omega)) (by simpa using h1v)
  rw [← hW1] at hcp1
  go_enter Tryz.func153, Tryz.ntmps153
  go_wp2_with (simp only [hov])
  go_region_law_o (refine step_copy_runI rfl _ _ 129 129 rfl _ _ (by simp [Act.eval, Act.put]) (by simp [Act.eval, Act.put]) (hcp1 _ _ _) ?_)
  go_wp2_with (at_builtin; refine wpList_copy_runI _ rfl _ _ 129 129 rfl _ _ rfl rfl (hcp2 _ (fun _ => rfl) (fun _ => rfl) _ _) ?_)
  go_ret
  first | exact ⟨rfl, rfl⟩ | exact ⟨rfl, by rw [hW1]⟩
/-- A row with room takes a pointer at its front. -/
theorem sInsert1 (ib cap n b : Nat) (ads : List (Option Addr)) (u : Value) (hu : u.oneCell' = true) (w : World) (hrow : w.ownsRow 2 111 1 (.slice (some ⟨ib, 0, none⟩) n cap) n (ads.map Value.pointer)) (hn : 0 < n) (hroom : n + 1 ≤ cap) (hb : w.heap[b]? = some (.cells #[u] 111)) (hne : b ≠ ib) :
    Calls Tryz.prog 153 #[.slice (some ⟨ib, 0, none⟩) n cap, .int .i64 0, .slice (some ⟨b, 0, none⟩) 1 1] w fun e w' => e = .returned (.slice (some ⟨ib, 0, none⟩) (n + 1) cap) ∧ w'.ownsRow 2 111 1 (.slice (some ⟨ib, 0, none⟩) (n + 1) cap) (n + 1) (u :: ads.map Value.pointer) ∧ Keep (fun i => i = ib) w w' := by
  obtain ⟨hl, hc⟩ := hrow
  rcases hc with ⟨h0, _⟩ | ⟨g, cap', cur, hv, hbb, hg, hnc, hm, hs, ht⟩
  · simp at h0
  obtain ⟨rfl, rfl⟩ : ib = g ∧ cap = cap' := by simpa using hv
  rw [Nat.mul_one] at hs ht
  have hal : (ads.map Value.pointer).length = n := by rw [hl]; omega
  have hcell : ∀ k, k < n → cur[k]? = (ads.map Value.pointer)[k]? := fun k hk => by
    rw [← ht, List.getElem?_take_of_lt hk, Array.getElem?_toList]
  refine (sInsertA ib n cap b (ads.map Value.pointer) u w hn hroom hm hne hal (fun j v hj => ?_) (fun j hj => ?_) (fun j _ => frozen_of_block hg j) (cell_of_block hb 0) (by simp [Value.oneCell']) hu 111 111 1 cap ?_ ?_ (by omega) (frozen_of_block hb 0) (frozen_of_block hb 1)).mono ?_
  · have hj' : j < n := by rw [← hal]; exact (List.getElem?_eq_some_iff.1 hj).1
    rw [cell_of_block hg, hcell j hj', hj]
  · rw [cell_of_block hg, Array.getElem?_eq_getElem (by omega)]; rfl
  · unfold World.shape?; rw [hb]; rfl
  · unfold World.shape?; rw [hg, ← hs]
  rintro e w' ⟨rfl, rfl⟩
  obtain ⟨cur1, k1, k2, k3⟩ := setCells_block (ads.map Value.pointer) 1 w.drew cur hg (by rw [hal]; omega)
  obtain ⟨cur2, l1, l2, l3⟩ := setCells_block [u] 0 (w.drew.setCells ib 1 (ads.map Value.pointer)) cur1 k1 (by simp; omega)
  refine ⟨rfl, ⟨by rw [List.length_cons, hal]; omega, .inr ⟨ib, cap, cur2, rfl, hbb, l1, hroom, hm, by omega, ?_⟩⟩, ?_⟩
  · rw [l3, k3, Nat.mul_one]
    have e1 : (cur1.toList.take 0 ++ [u] ++ cur1.toList.drop (0 + [u].length)) = u :: cur1.toList.drop 1 := rfl
    rw [← k3, e1, k3, List.take_succ_cons]
    congr 1
    have ht1 : (cur.toList.take 1).length = 1 := by simp; omega
    rw [List.append_assoc, List.drop_append_of_le_length (by omega), List.drop_of_length_le (by omega), List.nil_append, List.take_left' hal]
  · exact Keep.setCells (F := fun i => i = ib) ib (fun _ => rfl) _ 0 (Keep.setCells (F := fun i => i = ib) ib (fun _ => rfl) _ 1 (Keep.refl (fun i => i = ib) w).drew)
end Go.Proofs.YtjlfibhbfdckpaaGreatDoor

/- slices.Insert into a parent that has no window left; Raise; the calls Raise, Give. -/
namespace Go.Proofs.YtjlfibhbfdckpaaGreatDoor
open Go.RowKit
attribute [local go_sem ↓] Go.wp_at_zero Go.wp_at_succ
set_option maxHeartbeats 1000000 in
theorem sInsert0 (ib cap b : Nat) (u : Value) (hu : u.oneCell' = true) (w : World) (hrow : w.ownsRow 2 111 1 (.slice (some ⟨ib, 0, none⟩) 0 cap) 0 []) (hb : w.heap[b]? = some (.cells #[u] 111)) (h2 : 2 ≤ w.heap.size) :
    Calls Tryz.prog 153 #[.slice (some ⟨ib, 0, none⟩) 0 cap, .int .i64 0, .slice (some ⟨b, 0, none⟩) 1 1] w fun e w' => ∃ g cap', e = .returned (.slice (some ⟨g, 0, none⟩) 1 cap') ∧ w'.ownsRow 2 111 1 (.slice (some ⟨g, 0, none⟩) 1 cap') 1 [u] ∧ Keep (fun i => i = ib) w w' ∧ (g = ib ∨ w.heap.size ≤ g) := by
  have hcap : cap ≤ 9223372036854775807 := by
    rcases hrow.2 with ⟨h0, _⟩ | ⟨g, c, cur, e, _, _, _, hm, _⟩
    · simp at h0
    · obtain ⟨_, rfl⟩ : ib = g ∧ cap = c := by simpa using e
      exact hm
  have Hrow : Hid (w.ownsRow 2 111 1 (.slice (some ⟨ib, 0, none⟩) 0 cap) 0 []) := hrow
  have Hb : Hid (w.heap[b]? = some (.cells #[u] 111)) := hb
  clear hrow hb
  go_enter Tryz.func153, Tryz.ntmps153
  go_wp2_with ((at_builtin; refine list_append_ptr _ (by rfl) (.tmp 23) (.tmp 24) (by rfl) (.slice (some ⟨ib, 0, none⟩) 0 cap) [] u 0 rfl (by rfl) Hrow.out b (by rfl) Hb.out hu (by omega) h2 ?_; intro g7 cap7 w7 hr7 hg7 ho7 hl7))
  go_ret
  refine ⟨g7, cap7, rfl, hr7, ⟨hg7.os, hg7.tape, hg7.output, hg7.size, fun k hk hF => hg7.block k hk (fun e => hF (by simpa [Value.ownBlock] using e))⟩, ?_⟩
  rcases ho7 with h | h
  · exact .inl (by have : ib = g7 := by simpa [Value.ownBlock] using h
                   exact this.symm)
  · exact .inr (by omega)
theorem sInsert (ib cap n b : Nat) (ads : List (Option Addr)) (u : Value) (hu : u.oneCell' = true) (w : World) (hrow : w.ownsRow 2 111 1 (.slice (some ⟨ib, 0, none⟩) n cap) n (ads.map Value.pointer)) (hroom : n + 1 ≤ cap) (hb : w.heap[b]? = some (.cells #[u] 111)) (hne : b ≠ ib) (h2 : 2 ≤ w.heap.size) :
    Calls Tryz.prog 153 #[.slice (some ⟨ib, 0, none⟩) n cap, .int .i64 0, .slice (some ⟨b, 0, none⟩) 1 1] w fun e w' => ∃ g cap', e = .returned (.slice (some ⟨g, 0, none⟩) (n + 1 : Nat) cap') ∧ w'.ownsRow 2 111 1 (.slice (some ⟨g, 0, none⟩) (n + 1) cap') (n + 1) (u :: ads.map Value.pointer) ∧ Keep (fun i => i = ib) w w' ∧ (g = ib ∨ w.heap.size ≤ g) := by
  by_cases hn : n = 0
  · subst hn
    have h0 : ads = [] := by have := hrow.1; simpa using this
    subst h0
    exact sInsert0 ib cap b u hu w hrow hb h2
  · refine (sInsert1 ib cap n b ads u hu w hrow (by omega) hroom hb hne).mono ?_
    rintro e w' ⟨rfl, r, k⟩
    exact ⟨ib, cap, rfl, r, k, .inl rfl⟩
/-- A window is taken out, and laid right behind the root. -/
def botL (L : List Wn) (v : Wn) : List Wn := match filtN L v.n with | [] => [v] | r :: t => r :: v :: t
section
variable {M : Mm} {L : List Wn} {last : Int} {N : Nat} {s : Rs} {t : Pt}
theorem mem_botL {v u : Wn} : u ∈ botL L v ↔ u = v ∨ u ∈ filtN L v.n := by
  unfold botL
  split
  · rename_i e; rw [e]; simp
  · rename_i r t e; rw [e]; simp only [List.mem_cons]; exact or_left_comm
theorem kids_botL {v : Wn} {m : Int} (h : v.par ≠ m) : kids (botL L v) m = kids (filtN L v.n) m := by
  unfold botL
  split
  · rename_i e; rw [e]; simp [kids, h]
  · rename_i r t e
    rw [e]
    unfold kids
    by_cases hr : r.par = m
    · rw [List.filter_cons_of_pos (by simpa using hr), List.filter_cons_of_neg (by simpa using h), List.filter_cons_of_pos (by simpa using hr)]
    · rw [List.filter_cons_of_neg (by simpa using hr), List.filter_cons_of_neg (by simpa using h), List.filter_cons_of_neg (by simpa using hr)]
theorem kids_botL1 {v : Wn} {m : Int} (hm : v.par = m) (h0 : ∀ r T, L = r :: T → r.par ≠ m) (hv : ∀ r T, L = r :: T → r.n ≠ v.n) : kids (botL L v) m = v :: kids (filtN L v.n) m := by
  unfold botL
  split
  · rename_i e; rw [e]; simp [kids, hm]
  · rename_i r t e
    rw [e]
    have hr : r.par ≠ m := by
      cases L with
      | nil => simp [filtN] at e
      | cons a T =>
        have h1 : filtN (a :: T) v.n = a :: filtN T v.n := List.filter_cons_of_pos (by simpa using hv a T rfl)
        rw [h1] at e
        obtain rfl : a = r := by injection e
        exact h0 a T rfl
    unfold kids
    rw [List.filter_cons_of_neg (by simpa using hr), List.filter_cons_of_pos (by simpa using hm), List.filter_cons_of_neg (by simpa using hr)]
theorem low_fin (ok : DOk L last) {w w1 w3 : World} (h : DkAt w M L last N s t) (v o : Wn) (hv : v ∈ L) (ho : o ∈ L) (hp : v.par = o.n) (hvo : v.n ≠ o.n) (ib cap n g cap' : Nat) (hroot : ∀ r T, L = r :: T → r.par ≠ o.n ∧ r.n ≠ v.n) (hib : (M.s o.n).ownBlock = some ib)
    (D1 : DkAt w1 (M.setS o.n (.slice (some ⟨ib, 0, none⟩) n cap)) (filtN L v.n) last N s t) (V1 : WinV w1 v (M.b v.n) (M.c v.n) (M.g v.n) (M.pp v.par) (M.s v.n) (M.ptrs (kids L v.n))) (O1 : WinV w1 o (M.b o.n) (M.c o.n) (M.g o.n) (M.pp o.par) (.slice (some ⟨ib, 0, none⟩) n cap) (M.ptrs (kids (filtN L v.n) o.n))) (K1 : Keep (M.own L) w w1)
    (R3 : w3.ownsRow 2 111 1 (.slice (some ⟨g, 0, none⟩) (n + 1) cap') (n + 1) (M.ptr v.n :: M.ptrs (kids (filtN L v.n) o.n))) (K3 : Keep (fun i => i = ib) w1 w3) (hg : g = ib ∨ w1.heap.size < g) :
    DPost M L (botL L v) last N s t w (.tuple #[]) (.returned (.tuple #[])) (w3.setCell ⟨M.b o.n, 6, none⟩ (.slice (some ⟨g, 0, none⟩) (n + 1) cap')) := by
  obtain ⟨rk, K, T⟩ := ok.tree
  have hso : (Value.slice (some ⟨ib, 0, none⟩) n cap).ownBlock = (M.s o.n).ownBlock := by rw [hib]; rfl
  have hblk := setS_blk (M := M) hso
  have ho1 : o ∈ filtN L v.n := mem_filtN.2 ⟨ho, fun e => hvo e.symm⟩
  have lo := O1.lt
  have hz := K1.size
  have n2 : ib ≠ M.b o.n := fun e => by
    have := h.inj (.win o.n 3) (.win o.n 0) ib ⟨by omega, o, ho, rfl⟩ ⟨by omega, o, ho, rfl⟩ hib (by rw [e]; rfl); simp at this
  have hgo : g ≠ M.b o.n := by rcases hg with e | e; (rw [e]; exact n2); omega
  have O3 : w3.heap[M.b o.n]? = some (.cells (winArr o (M.pp o.par) (M.c o.n) (.slice (some ⟨ib, 0, none⟩) n cap)) 131) := (K3.block _ lo (fun e => n2 e.symm)).trans O1.blk
  have k4 : ∀ i, i < w1.heap.size → i ≠ M.b o.n → i ≠ ib → (w3.setCell ⟨M.b o.n, 6, none⟩ (.slice (some ⟨g, 0, none⟩) (n + 1) cap')).heap[i]? = w1.heap[i]? := fun i hi e1 e2 => (Below.heap_setCell _ _ _ _ e1).trans (K3.block i hi e2)
  have kk : ∀ (u : Wn) (k i : Nat), u ∈ L → k < 4 → M.blk (.win u.n k) = some i → ¬ (u.n = o.n ∧ (k = 0 ∨ k = 3)) → (w3.setCell ⟨M.b o.n, 6, none⟩ (.slice (some ⟨g, 0, none⟩) (n + 1) cap')).heap[i]? = w1.heap[i]? := fun u k i hu hk hb hn =>
    k4 i (Nat.lt_of_lt_of_le (h.lt ⟨.win u.n k, ⟨hk, u, hu, rfl⟩, hb⟩) hz) (fun e => by
      have := h.inj (.win u.n k) (.win o.n 0) i ⟨hk, u, hu, rfl⟩ ⟨by omega, o, ho, rfl⟩ hb (by rw [e]; rfl)
      injection this with e1 e2; exact hn ⟨e1, .inl e2⟩) (fun e => by
      have := h.inj (.win u.n k) (.win o.n 3) i ⟨hk, u, hu, rfl⟩ ⟨by omega, o, ho, rfl⟩ hb (by rw [e]; exact hib)
      injection this with e1 e2; exact hn ⟨e1, .inr e2⟩)
  have h0 := h.two _ (own_top M L 0 (by omega))
  have h1 := h.lt (own_top M L 0 (by omega))
  have hkv : kids (botL L v) v.n = kids L v.n := by
    rw [kids_botL (by rw [hp]; exact fun e => hvo e.symm), kids_filtN]
    refine filtN_none (fun u hu e => ?_)
    obtain rfl := nd_inj T.nd (mem_kids.1 hu).1 hv e
    exact hvo ((mem_kids.1 hu).2.symm.trans hp)
  have hvs : (M.setS o.n (.slice (some ⟨ib, 0, none⟩) n cap)).s v.n = M.s v.n := updI'_other _ _ hvo
  have J := D1.join (L := L) (L' := botL L v) (v' := v) (q := o) (sp := .slice (some ⟨g, 0, none⟩) (n + 1) cap') ho1
    (fun a ha b hb e => nd_inj T.nd (mem_filtN.1 ha).1 (mem_filtN.1 hb).1 e)
    (fun u => mem_botL) (fun m hm => kids_botL (by rw [hp]; exact fun e => hm e.symm)) (fun u hu => (mem_filtN.1 hu).2)
    (fun p q' i hp' hq' e1 e2 => h.inj p q' i hp' hq' (by rw [← hblk]; exact e1) (by rw [← hblk]; exact e2))
    (fun n => ⟨fun ⟨u, hu, e⟩ => by
        by_cases e' : n = v.n
        · exact .inl e'
        · exact .inr ⟨u, mem_filtN.2 ⟨hu, by rw [e]; exact e'⟩, e⟩,
      fun hh => by
        rcases hh with e | ⟨u, hu, e⟩
        · exact ⟨v, hv, e.symm⟩
        · exact ⟨u, (mem_filtN.1 hu).1, e⟩⟩)
    (fun i ⟨p, hp', e⟩ => Nat.lt_of_lt_of_le (h.lt ⟨p, hp', by rw [← hblk]; exact e⟩) hz)
    (fun i ⟨p, hp', e⟩ => h.two i ⟨p, hp', by rw [← hblk]; exact e⟩)
    (by
      show WinV _ v (M.b v.n) (M.c v.n) (M.g v.n) (M.pp v.par) ((M.setS o.n (.slice (some ⟨ib, 0, none⟩) n cap)).s v.n) (M.ptrs (kids (botL L v) v.n))
      rw [hvs, hkv]
      exact V1.same (kk v 0 _ hv (by omega) rfl (fun hc => hvo hc.1)) (kk v 1 _ hv (by omega) rfl (fun hc => hvo hc.1)) (kk v 2 _ hv (by omega) rfl (fun hc => hvo hc.1)) (fun i hi => kk v 3 i hv (by omega) hi (fun hc => hvo hc.1)))
    (by
      show WinV _ o (M.b o.n) (M.c o.n) (M.g o.n) (M.pp o.par) _ (M.ptrs (kids (botL L v) o.n))
      rw [kids_botL1 hp (fun r T e => (hroot r T e).1) (fun r T e => (hroot r T e).2)]
      have hln : (M.ptrs (kids (filtN L v.n) o.n)).length = n := by
        rcases O1.row.2 with ⟨e, _⟩ | ⟨g, c, cur, e, _⟩
        · simp at e
        · obtain ⟨_, h2, _⟩ : ib = g ∧ n = _ ∧ cap = c := by simpa using e
          exact h2.symm
      have R3 : w3.ownsRow 2 111 1 (.slice (some ⟨g, 0, none⟩) (n + 1) cap') (M.ptrs (v :: kids (filtN L v.n) o.n)).length (M.ptrs (v :: kids (filtN L v.n) o.n)) := by
        rw [show (M.ptrs (v :: kids (filtN L v.n) o.n)).length = n + 1 by rw [M.ptrs_len, List.length_cons, ← M.ptrs_len, hln]]
        exact R3
      exact ⟨set_block O3 _, O1.gr.same (kk o 1 _ ho (by omega) rfl (by omega)) (kk o 2 _ ho (by omega) rfl (by omega)), O1.wf, ownsRow_same R3 (fun i hi => Below.heap_setCell _ _ _ _ (fun e => hgo ((show g = i from (by simpa [Value.ownBlock] using hi)).trans e)))⟩)
    (by
      show _ = (updI' M.s o.n _ o.n).ownBlock ∨ _
      rw [updI'_same]
      rcases hg with rfl | e
      · exact .inl rfl
      · exact .inr (fun i hi => by have : g = i := by simpa [Value.ownBlock] using hi
                                   omega))
    (fun i hi e1 e2 => by
      have e2' : (updI' M.s o.n (.slice (some ⟨ib, 0, none⟩) n cap) o.n).ownBlock ≠ some i := e2
      rw [updI'_same] at e2'
      exact k4 i (D1.lt hi) e1 (fun e => e2' (by rw [e]; rfl)))
    (by omega)
  obtain ⟨JD, JO⟩ := J
  refine ⟨_, rfl, JD, rfl, ?_, fun i hi => ?_⟩
  · refine (K1.trans K3 (fun i hi hF => ?_)).setCell _ _ (fun _ => own_b M ho)
    rw [hF]; exact own_s M ho hib
  · rcases JO i hi with ⟨p, hp', e⟩ | e
    · exact .inl ⟨p, hp', by rw [← hblk]; exact e⟩
    · exact .inr (by omega)
set_option maxHeartbeats 2000000 in
theorem dRaiseLow (ok : DOk L last) (w : World) (h : DkAt w M L last N s t) (v o : Wn) (hv : v ∈ L) (ho : o ∈ L) (hp : v.par = o.n) (hvo : v.n ≠ o.n) :
    Calls Tryz.prog 115 #[M.ptr v.n, .bool false] w (DPost M L (botL L v) last N s t w (.tuple #[])) := by
  obtain ⟨rk, K, T⟩ := ok.tree
  have HD : Hid (DkAt w M L last N s t) := h
  have hsom : ∃ ib, (M.s o.n).ownBlock = some ib := by
    have hrow := (h.win o ho).row
    rcases hrow.2 with ⟨_, h0⟩ | ⟨g, cap, cur, e, _⟩
    · have h1 : (kids L o.n).length = 0 := by rw [M.ptrs_len] at h0; exact h0
      have : v ∈ kids L o.n := mem_kids.2 ⟨hv, hp⟩
      rw [List.length_eq_zero_iff.1 h1] at this; simp at this
    · exact ⟨g, by rw [e]; rfl⟩
  obtain ⟨ib, hib⟩ := hsom
  have hon : o.n ≠ -1 := by have := T.pos ho; omega
  have hroot : ∀ r T', L = r :: T' → r.par ≠ o.n ∧ r.n ≠ v.n := fun r T' e => by
    obtain ⟨r', T'', e', h1, h2, h3⟩ := T.head
    rw [e] at e'
    obtain ⟨rfl, rfl⟩ : r = r' ∧ T' = T'' := by simpa using e'
    have := T.pos ho
    refine ⟨by omega, fun e2 => ?_⟩
    have hvr : v = r := nd_inj T.nd hv (by rw [e]; simp) e2.symm
    rw [hvr] at hp
    omega
  have HT : Hid (Tree L rk K) := T
  clear h T
  go_enter Tryz.func115, Tryz.ntmps115
  go_wp2_with fail
  go_at_call 152
  refine (dLeave ok _ HD.out v o hv ho hp hvo).mono ?_
  rintro e w1 ⟨sp, rfl, D1, V1, K1, hso, ib', cap, hsp, hroom⟩
  have ho1 : o ∈ filtN L v.n := mem_filtN.2 ⟨ho, fun e => hvo e.symm⟩
  have hO := D1.win o ho1
  change WinV w1 o (M.b o.n) (M.c o.n) (M.g o.n) (M.pp o.par) (updI' M.s o.n sp o.n) (M.ptrs (kids (filtN L v.n) o.n)) at hO
  rw [updI'_same] at hO
  obtain rfl : ib = ib' := by rw [hib, hsp] at hso; simpa [Value.ownBlock] using hso.symm
  obtain ⟨n, hn⟩ : ∃ n, (kids L o.n).length - 1 = n := ⟨_, rfl⟩
  have hkp : 0 < (kids L o.n).length := List.length_pos_of_mem (mem_kids.2 ⟨hv, hp⟩)
  rw [hn] at hsp
  subst hsp
  have hn1 : n + 1 ≤ cap := by omega
  have hptr : M.ptrs (kids (filtN L v.n) o.n) = ((kids (filtN L v.n) o.n).map (fun u => some (⟨M.b u.n, 0, none⟩ : Addr))).map Value.pointer := by simp [Mm.ptrs, Mm.ptr, Function.comp_def]
  have hrl : (M.ptrs (kids (filtN L v.n) o.n)).length = n := by
    have := hO.row.2
    rcases this with ⟨e, _⟩ | ⟨g, c, cur, e, _⟩
    · simp at e
    · obtain ⟨_, h2, _⟩ : ib = g ∧ n = _ ∧ cap = c := by simpa using e
      exact h2.symm
  have f1 := V1.f1
  rw [show M.pp v.par = some ⟨M.b o.n, 0, none⟩ by rw [hp]; unfold Mm.pp; rw [if_neg hon]] at f1
  have f6 := hO.f6
  have ff := hO.free
  have lv := V1.lt
  have lo := hO.lt
  have n1 : ib ≠ M.b v.n := fun e => by
    have := HD.out.inj (.win o.n 3) (.win v.n 0) ib ⟨by omega, o, ho, rfl⟩ ⟨by omega, v, hv, rfl⟩ hib (by rw [e]; rfl); simp at this
  have n2 : ib ≠ M.b o.n := fun e => by
    have := HD.out.inj (.win o.n 3) (.win o.n 0) ib ⟨by omega, o, ho, rfl⟩ ⟨by omega, o, ho, rfl⟩ hib (by rw [e]; rfl); simp at this
  have h0 := HD.out.two _ (own_top M L 0 (by omega))
  have h1 := HD.out.lt (own_top M L 0 (by omega))
  have hz := K1.size
  have hW2 : 2 ≤ w1.heap.size := by omega
  have hbA : ∀ x, Below w1.heap.size w1 (w1.alloc x) := fun x => (Below.refl _ _).alloc (Nat.le_refl _) _
  have f1' : ∀ x, (w1.alloc x).cell? ⟨M.b v.n, 1, none⟩ = some (.pointer (some ⟨M.b o.n, 0, none⟩)) := fun x => ((hbA x).cell (p := ⟨M.b v.n, 1, none⟩) lv).trans f1
  have f6' : ∀ x, (w1.alloc x).cell? ⟨M.b o.n, 6, none⟩ = some (.slice (some ⟨ib, 0, none⟩) n cap) := fun x => ((hbA x).cell (p := ⟨M.b o.n, 6, none⟩) lo).trans f6
  have Hins : Hid (Calls Tryz.prog 153 #[.slice (some ⟨ib, 0, none⟩) n cap, .int .i64 0, .slice (some ⟨w1.heap.size, 0, none⟩) 1 1] (w1.alloc (.cells #[M.ptr v.n] 111)).drew fun e w' => ∃ g cap', e = .returned (.slice (some ⟨g, 0, none⟩) (n + 1 : Nat) cap') ∧ w'.ownsRow 2 111 1 (.slice (some ⟨g, 0, none⟩) (n + 1 : Nat) cap') (n + 1) (M.ptr v.n :: M.ptrs (kids (filtN L v.n) o.n)) ∧ Keep (fun i => i = ib) w1 w' ∧ (g = ib ∨ w1.heap.size < g)) := by
    have hr : (w1.alloc (.cells #[M.ptr v.n] 111)).drew.ownsRow 2 111 1 (.slice (some ⟨ib, 0, none⟩) n cap) n (((kids (filtN L v.n) o.n).map (fun u => some (⟨M.b u.n, 0, none⟩ : Addr))).map Value.pointer) := by
      rw [← hptr]
      have := hO.row
      rw [hrl] at this
      exact ownsRow_same this (fun i hi => (hbA _).block i (ownsRow_lt hO.row hi).1)
    refine (sInsert ib cap n w1.heap.size _ (M.ptr v.n) rfl _ hr hn1 (heap_new w1 _) (fun e => by have := (ownsRow_lt hO.row (i := ib) rfl).1; omega) (by show 2 ≤ (w1.alloc _).heap.size; first | (simp; omega) | simp)).mono ?_
    rintro e w' ⟨g, cap', rfl, r, k, hg⟩
    refine ⟨g, cap', rfl, by rw [hptr]; exact r, ?_, hg.imp id (fun hh => by have hh' : (w1.alloc (.cells #[M.ptr v.n] 111)).heap.size ≤ g := hh; simp at hh'; omega)⟩
    exact ((Keep.below (fun i => i = ib) (hbA _)).trans ⟨k.os, k.tape, k.output, k.size, k.block⟩ (fun _ _ hh => hh))
  have HL1 : Hid (DkAt w1 (M.setS o.n (.slice (some ⟨ib, 0, none⟩) n cap)) (filtN L v.n) last N s t) := D1
  have HV1 : Hid (WinV w1 v (M.b v.n) (M.c v.n) (M.g v.n) (M.pp v.par) (M.s v.n) (M.ptrs (kids L v.n))) := V1
  have HO1 : Hid (WinV w1 o (M.b o.n) (M.c o.n) (M.g o.n) (M.pp o.par) (.slice (some ⟨ib, 0, none⟩) n cap) (M.ptrs (kids (filtN L v.n) o.n))) := hO
  have HK1 : Hid (Keep (M.own L) w w1) := K1
  clear D1 V1 K1 hO hbA
  go_wp2_with fail
  go_region_with (first | (go_at_call 153; refine Hins.out.mono ?_; rintro e w3 ⟨g, cap', rfl, R3, K3, hg3⟩; have HR3 : Hid (w3.ownsRow 2 111 1 (.slice (some ⟨g, 0, none⟩) (n + 1 : Nat) cap') (n + 1) (M.ptr v.n :: M.ptrs (kids (filtN L v.n) o.n))) := R3; have HK3 : Hid (Keep (fun i => i = ib) w1 w3) := K3; have Hg3 : Hid (g = ib ∨ w1.heap.size < g) := hg3; have O3 : w3.heap[M.b o.n]? = some (.cells (winArr o (M.pp o.par) (M.c o.n) (.slice (some ⟨ib, 0, none⟩) n cap)) 131) := (K3.block _ lo (fun e => n2 e.symm)).trans HO1.out.blk; have HO3 : Hid (w3.heap[M.b o.n]? = some (.cells (winArr o (M.pp o.par) (M.c o.n) (.slice (some ⟨ib, 0, none⟩) n cap)) 131)) := O3; have g1 : w3.cell? ⟨M.b v.n, 1, none⟩ = some (.pointer (some ⟨M.b o.n, 0, none⟩)) := (cell_same (K3.block _ lv (fun e => n1 e.symm)) 1).trans f1; have g6 : w3.cell? ⟨M.b o.n, 6, none⟩ = some (.slice (some ⟨ib, 0, none⟩) n cap) := cell_of_block O3 6; have gf : w3.frozen? ⟨M.b o.n, 6, none⟩ = false := frozen_of_block O3 6; clear R3 K3 hg3 O3))
  all_goals
    go_wp2_with fail
    go_end0
    exact low_fin ok HD.out v o hv ho hp hvo ib cap n g cap' hroot hib HL1.out HV1.out HO1.out HK1.out HR3.out HK3.out Hg3.out
end
end Go.Proofs.YtjlfibhbfdckpaaGreatDoor

/- The calls: Raise, Give. -/
namespace Go.Proofs.YtjlfibhbfdckpaaGreatDoor
open Go.RowKit
attribute [local go_sem ↓] Go.wp_at_zero Go.wp_at_succ
section
variable {M : Mm} {L : List Wn} {last : Int} {N : Nat} {s : Rs} {t : Pt}
theorem DPost.ret {L' : List Wn} {last' : Int} {w w' : World} {r r' : Value} {e : Ending} (h : DPost M L L' last' N s t w r e w') : e = .returned r ∧ DPost M L L' last' N s t w r' (.returned r') w' := by
  obtain ⟨M', e, D, t', K, O⟩ := h
  exact ⟨e, M', rfl, D, t', K, O⟩
set_option maxHeartbeats 1000000 in
theorem kRaise (ok : DOk L last) (w : World) (h : DkAt w M L last N s t) (v : Wn) (hv : v ∈ L) (hp : v.par ≠ -1) (up : Bool) (L' : List Wn) (hr : Calls Tryz.prog 115 #[M.ptr v.n, .bool up] w (DPost M L L' last N s t w (.tuple #[]))) :
    Calls Tryz.prog 52 #[.pointer (some ⟨M.t 0, 0, none⟩), .int .i64 v.n, .bool up] w (DPost M L L' last N s t w (.int .i64 0)) := by
  have HD : Hid (DkAt w M L last N s t) := h
  have Hr : Hid (Calls Tryz.prog 115 #[M.ptr v.n, .bool up] w (DPost M L L' last N s t w (.tuple #[]))) := hr
  clear h hr
  go_enter Tryz.func52, Tryz.ntmps52
  go_wp2_with (first | (go_at_call 111; refine (kBelow ok _ HD.out v hv hp).mono ?_; rintro e w' ⟨rfl, hw'⟩; replace hw' := hw'.symm; subst hw'))
  go_at_call 115
  refine Hr.out.mono ?_
  rintro e w1 hl
  obtain ⟨rfl, HP⟩ := hl.ret (r' := .int .i64 0)
  have HP1 : Hid (DPost M L L' last N s t w (.int .i64 0) (.returned (.int .i64 0)) w1) := HP
  clear hl HP
  go_wp2_with fail
  go_ret
  exact HP1.out
set_option maxHeartbeats 1000000 in
theorem kGive {rk : Int → Nat} {K : Nat} (T : Tree L rk K) (ok : DOk L last) (w : World) (h : DkAt w M L last N s t) (v o q : Wn) (hv : v ∈ L) (ho : o ∈ L) (hq : q ∈ L) (hp : v.par = o.n) (hvo : v.n ≠ o.n) (hns : ¬ Sub L v.n q.n) :
    Calls Tryz.prog 54 #[.pointer (some ⟨M.t 0, 0, none⟩), .int .i64 v.n, .int .i64 q.n] w (DPost M L (topL L v q.n) last N s t w (.int .i64 0)) := by
  have HD : Hid (DkAt w M L last N s t) := h
  have hf := M.fnd_in hq
  have hp1 : v.par ≠ -1 := by have := T.pos ho; omega
  have hvq : v.n ≠ q.n := fun e => hns (e ▸ .refl)
  have Hvq : Hid (v.n ≠ q.n) := hvq
  have Hlies : Hid (Calls Tryz.prog 117 #[M.ptr q.n, M.ptr v.n] w fun e w' => e = .returned (.bool false) ∧ w' = w) := wLies T w h q v hq hv false (by simp [hns])
  clear h hvq
  go_enter Tryz.func54, Tryz.ntmps54
  go_wp2_with (first | (go_at_call 75; refine (kFind ok _ HD.out _).mono ?_; rintro e w' ⟨rfl, hw'⟩; replace hw' := hw'.symm; subst hw') | (go_at_call 111; refine (kBelow ok _ HD.out v hv hp1).mono ?_; rintro e w' ⟨rfl, hw'⟩; replace hw' := hw'.symm; subst hw') | (go_at_call 117; refine (Hlies.out).mono ?_; rintro e w' ⟨rfl, hw'⟩; replace hw' := hw'.symm; subst hw'))
  go_at_call 118
  refine (dGive ok _ HD.out v o q hv ho hq hp hvo Hvq.out).mono ?_
  rintro e w1 hl
  obtain ⟨rfl, HP⟩ := hl.ret (r' := .int .i64 0)
  have HP1 : Hid (DPost M L (topL L v q.n) last N s t w (.int .i64 0) (.returned (.int .i64 0)) w1) := HP
  clear hl HP
  go_wp2_with fail
  go_ret
  exact HP1.out
end
end Go.Proofs.YtjlfibhbfdckpaaGreatDoor

/- The program's calls that fail. -/
namespace Go.Proofs.YtjlfibhbfdckpaaGreatDoor
open Go.RowKit
attribute [local go_sem ↓] Go.wp_at_zero Go.wp_at_succ
/-- The error of a call that asks for a window that is not the root. -/
def childE (L : List Wn) (n : Int) : Int := if hasN L n = false then 1 else if n = 0 then 2 else 0
section
variable {M : Mm} {L : List Wn} {last : Int} {N : Nat} {s : Rs} {t : Pt}
theorem DPost.stay {w w' : World} {r : Value} (h : DkAt w M L last N s t) (hb : Below w.heap.size w w') : DPost M L L last N s t w r (.returned r) w' :=
  ⟨M, rfl, h.below hb, rfl, Keep.below _ hb, fun _ hi => .inl hi⟩
theorem kBelowNo (ok : DOk L last) (w : World) (h : DkAt w M L last N s t) (n : Int) (he : childE L n ≠ 0) :
    Calls Tryz.prog 111 #[.pointer (some ⟨M.t 0, 0, none⟩), .int .i64 n] w fun e w' => e = .returned (.tuple #[.pointer none, .int .i64 (childE L n)]) ∧ w' = w := by
  have HD : Hid (DkAt w M L last N s t) := h
  unfold childE at he ⊢
  by_cases h1 : hasN L n = false
  · rw [if_pos h1]
    have hf : M.fnd L n = none := by unfold Mm.fnd; rw [if_neg (by simp [h1])]
    clear h he
    go_enter Tryz.func111, Tryz.ntmps111
    go_wp2_with (first | (go_at_call 75; refine (kFind ok _ HD.out _).mono ?_; rintro e w' ⟨rfl, hw'⟩; replace hw' := hw'.symm; subst hw'))
    go_ret2
    exact ⟨rfl, rfl⟩
  · rw [if_neg h1] at he ⊢
    by_cases h2 : n = 0
    · rw [if_pos h2]
      obtain ⟨rk, K, T⟩ := ok.tree
      obtain ⟨r, hr, hr0, hrp⟩ := T.rootIn
      obtain rfl : n = r.n := by rw [hr0]; exact h2
      have hf := M.fnd_in hr
      have hpp : (M.pp r.par).isNone = true := by simp [Mm.pp, hrp]
      clear h he T hrp h2 hr0 h1
      go_enter Tryz.func111, Tryz.ntmps111
      go_wp2_with (first | (go_at_call 75; refine (kFind ok _ HD.out _).mono ?_; rintro e w' ⟨rfl, hw'⟩; replace hw' := hw'.symm; subst hw') | (go_at_call 151; refine (wIsRoot r _ _ _ _ _ _ _ (HD.out.win r hr)).mono ?_; rintro e w' ⟨rfl, hw'⟩; replace hw' := hw'.symm; subst hw'))
      go_ret2
      exact ⟨rfl, rfl⟩
    · rw [if_neg h2] at he; omega
theorem kShowNo (ok : DOk L last) (w : World) (h : DkAt w M L last N s t) (n : Int) (b : Bool) (he : childE L n ≠ 0) :
    Calls Tryz.prog 53 #[.pointer (some ⟨M.t 0, 0, none⟩), .int .i64 n, .bool b] w fun e w' => e = .returned (.int .i64 (childE L n)) ∧ w' = w := by
  have HD : Hid (DkAt w M L last N s t) := h
  have hk := kBelowNo ok w h n he
  have Hk : Hid (Calls Tryz.prog 111 #[.pointer (some ⟨M.t 0, 0, none⟩), .int .i64 n] w fun e w' => e = .returned (.tuple #[.pointer none, .int .i64 (childE L n)]) ∧ w' = w) := hk
  clear h hk
  generalize childE L n = er at *
  go_enter Tryz.func53, Tryz.ntmps53
  go_wp2_with (first | (go_at_call 111; refine (Hk.out).mono ?_; rintro e w' ⟨rfl, hw'⟩; replace hw' := hw'.symm; subst hw'))
  go_ret
  exact ⟨rfl, rfl⟩
theorem kMoveNo (ok : DOk L last) (w : World) (h : DkAt w M L last N s t) (n x y : Int) (he : childE L n ≠ 0) :
    Calls Tryz.prog 50 #[.pointer (some ⟨M.t 0, 0, none⟩), .int .i64 n, .int .i64 x, .int .i64 y] w fun e w' => e = .returned (.int .i64 (childE L n)) ∧ w' = w := by
  have HD : Hid (DkAt w M L last N s t) := h
  have hk := kBelowNo ok w h n he
  have Hk : Hid (Calls Tryz.prog 111 #[.pointer (some ⟨M.t 0, 0, none⟩), .int .i64 n] w fun e w' => e = .returned (.tuple #[.pointer none, .int .i64 (childE L n)]) ∧ w' = w) := hk
  clear h hk
  generalize childE L n = er at *
  go_enter Tryz.func50, Tryz.ntmps50
  go_wp2_with (first | (go_at_call 111; refine (Hk.out).mono ?_; rintro e w' ⟨rfl, hw'⟩; replace hw' := hw'.symm; subst hw'))
  go_ret
  exact ⟨rfl, rfl⟩
theorem kMoveOff (ok : DOk L last) (w : World) (h : DkAt w M L last N s t) (v : Wn) (hv : v ∈ L) (hp : v.par ≠ -1) (x y : Int) (hpl : placeB x y = false) :
    Calls Tryz.prog 50 #[.pointer (some ⟨M.t 0, 0, none⟩), .int .i64 v.n, .int .i64 x, .int .i64 y] w fun e w' => e = .returned (.int .i64 4) ∧ w' = w := by
  have HD : Hid (DkAt w M L last N s t) := h
  clear h
  go_enter Tryz.func50, Tryz.ntmps50
  go_wp2_with (first | (go_at_call 111; refine (kBelow ok _ HD.out v hv hp).mono ?_; rintro e w' ⟨rfl, hw'⟩; replace hw' := hw'.symm; subst hw') | (go_at_call 76; refine (pPlace _ _ _).mono ?_; rintro e w' ⟨rfl, hw'⟩; replace hw' := hw'.symm; subst hw'))
  go_ret
  exact ⟨rfl, rfl⟩
theorem kRaiseNo (ok : DOk L last) (w : World) (h : DkAt w M L last N s t) (n : Int) (b : Bool) (he : childE L n ≠ 0) :
    Calls Tryz.prog 52 #[.pointer (some ⟨M.t 0, 0, none⟩), .int .i64 n, .bool b] w fun e w' => e = .returned (.int .i64 (childE L n)) ∧ w' = w := by
  have HD : Hid (DkAt w M L last N s t) := h
  have hk := kBelowNo ok w h n he
  have Hk : Hid (Calls Tryz.prog 111 #[.pointer (some ⟨M.t 0, 0, none⟩), .int .i64 n] w fun e w' => e = .returned (.tuple #[.pointer none, .int .i64 (childE L n)]) ∧ w' = w) := hk
  clear h hk
  generalize childE L n = er at *
  go_enter Tryz.func52, Tryz.ntmps52
  go_wp2_with (first | (go_at_call 111; refine (Hk.out).mono ?_; rintro e w' ⟨rfl, hw'⟩; replace hw' := hw'.symm; subst hw'))
  go_ret
  exact ⟨rfl, rfl⟩
theorem kGiveNone (ok : DOk L last) (w : World) (h : DkAt w M L last N s t) (n m : Int) (hm : hasN L m = false) :
    Calls Tryz.prog 54 #[.pointer (some ⟨M.t 0, 0, none⟩), .int .i64 n, .int .i64 m] w fun e w' => e = .returned (.int .i64 1) ∧ w' = w := by
  have HD : Hid (DkAt w M L last N s t) := h
  have hf := M.fnd_no hm
  clear h
  go_enter Tryz.func54, Tryz.ntmps54
  go_wp2_with (first | (go_at_call 75; refine (kFind ok _ HD.out _).mono ?_; rintro e w' ⟨rfl, hw'⟩; replace hw' := hw'.symm; subst hw'))
  go_ret
  exact ⟨rfl, rfl⟩
theorem kGiveNo (ok : DOk L last) (w : World) (h : DkAt w M L last N s t) (n : Int) (q : Wn) (hq : q ∈ L) (he : childE L n ≠ 0) :
    Calls Tryz.prog 54 #[.pointer (some ⟨M.t 0, 0, none⟩), .int .i64 n, .int .i64 q.n] w fun e w' => e = .returned (.int .i64 (childE L n)) ∧ w' = w := by
  have hf := M.fnd_in hq
  have HD : Hid (DkAt w M L last N s t) := h
  have hk := kBelowNo ok w h n he
  have Hk : Hid (Calls Tryz.prog 111 #[.pointer (some ⟨M.t 0, 0, none⟩), .int .i64 n] w fun e w' => e = .returned (.tuple #[.pointer none, .int .i64 (childE L n)]) ∧ w' = w) := hk
  clear h hk
  generalize childE L n = er at *
  go_enter Tryz.func54, Tryz.ntmps54
  go_wp2_with (first | (go_at_call 75; refine (kFind ok _ HD.out _).mono ?_; rintro e w' ⟨rfl, hw'⟩; replace hw' := hw'.symm; subst hw') | (go_at_call 111; refine (Hk.out).mono ?_; rintro e w' ⟨rfl, hw'⟩; replace hw' := hw'.symm; subst hw'))
  go_ret
  exact ⟨rfl, rfl⟩
theorem kGiveLoop {rk : Int → Nat} {K : Nat} (T : Tree L rk K) (ok : DOk L last) (w : World) (h : DkAt w M L last N s t) (v q : Wn) (hv : v ∈ L) (hq : q ∈ L) (hp : v.par ≠ -1) (hns : Sub L v.n q.n) :
    Calls Tryz.prog 54 #[.pointer (some ⟨M.t 0, 0, none⟩), .int .i64 v.n, .int .i64 q.n] w fun e w' => e = .returned (.int .i64 5) ∧ w' = w := by
  have HD : Hid (DkAt w M L last N s t) := h
  have hf := M.fnd_in hq
  have Hlies : Hid (Calls Tryz.prog 117 #[M.ptr q.n, M.ptr v.n] w fun e w' => e = .returned (.bool true) ∧ w' = w) := wLies T w h q v hq hv true (by simp [hns])
  clear h
  go_enter Tryz.func54, Tryz.ntmps54
  go_wp2_with (first | (go_at_call 75; refine (kFind ok _ HD.out _).mono ?_; rintro e w' ⟨rfl, hw'⟩; replace hw' := hw'.symm; subst hw') | (go_at_call 111; refine (kBelow ok _ HD.out v hv hp).mono ?_; rintro e w' ⟨rfl, hw'⟩; replace hw' := hw'.symm; subst hw') | (go_at_call 117; refine (Hlies.out).mono ?_; rintro e w' ⟨rfl, hw'⟩; replace hw' := hw'.symm; subst hw'))
  go_ret
  exact ⟨rfl, rfl⟩
/-- What is wrong with a new window. -/
def createE (L : List Wn) (n x y W H : Int) : Int := if hasN L n = false then 1 else if placeB x y = false then 4 else if sizeB W H = false then 3 else if 16 ≤ L.length then 6 else 0
theorem kCreateNo (ok : DOk L last) (w : World) (h : DkAt w M L last N s t) (n x y W H : Int) (he : createE L n x y W H ≠ 0) :
    Calls Tryz.prog 48 #[.pointer (some ⟨M.t 0, 0, none⟩), .int .i64 n, .int .i64 x, .int .i64 y, .int .i64 W, .int .i64 H] w fun e w' => e = .returned (.tuple #[.int .i64 0, .int .i64 (createE L n x y W H)]) ∧ w' = w := by
  have c0 := h.c0
  have HD : Hid (DkAt w M L last N s t) := h
  clear h
  unfold createE at he ⊢
  by_cases h1 : hasN L n = false
  · rw [if_pos h1]
    have hf := M.fnd_no h1
    clear he
    go_enter Tryz.func48, Tryz.ntmps48
    go_wp2_with (first | (go_at_call 75; refine (kFind ok _ HD.out _).mono ?_; rintro e w' ⟨rfl, hw'⟩; replace hw' := hw'.symm; subst hw'))
    go_ret2
    exact ⟨rfl, rfl⟩
  rw [if_neg h1] at he ⊢
  obtain ⟨v, hv, rfl⟩ := hasN_iff.1 (by simpa using h1)
  have hf := M.fnd_in hv
  clear h1
  by_cases h2 : placeB x y = false
  · rw [if_pos h2]
    clear he
    go_enter Tryz.func48, Tryz.ntmps48
    go_wp2_with (first | (go_at_call 75; refine (kFind ok _ HD.out _).mono ?_; rintro e w' ⟨rfl, hw'⟩; replace hw' := hw'.symm; subst hw') | (go_at_call 76; refine (pPlace _ _ _).mono ?_; rintro e w' ⟨rfl, hw'⟩; replace hw' := hw'.symm; subst hw'))
    go_ret2
    exact ⟨rfl, rfl⟩
  rw [if_neg h2] at he ⊢
  have h2' : placeB x y = true := by simpa using h2
  clear h2
  by_cases h3 : sizeB W H = false
  · rw [if_pos h3]
    clear he
    go_enter Tryz.func48, Tryz.ntmps48
    go_wp2_with (first | (go_at_call 75; refine (kFind ok _ HD.out _).mono ?_; rintro e w' ⟨rfl, hw'⟩; replace hw' := hw'.symm; subst hw') | (go_at_call 76; refine (pPlace _ _ _).mono ?_; rintro e w' ⟨rfl, hw'⟩; replace hw' := hw'.symm; subst hw') | (go_at_call 46; refine (pMayBe _ _ _).mono ?_; rintro e w' ⟨rfl, hw'⟩; replace hw' := hw'.symm; subst hw'))
    go_ret2
    exact ⟨rfl, rfl⟩
  rw [if_neg h3] at he ⊢
  have h3' : sizeB W H = true := by simpa using h3
  clear h3
  by_cases h4 : 16 ≤ L.length
  · rw [if_pos h4]
    have hnf : decide (16 ≤ L.length) = true := by simpa using h4
    clear he h4
    go_enter Tryz.func48, Tryz.ntmps48
    go_wp2_with (first | (go_at_call 75; refine (kFind ok _ HD.out _).mono ?_; rintro e w' ⟨rfl, hw'⟩; replace hw' := hw'.symm; subst hw') | (go_at_call 76; refine (pPlace _ _ _).mono ?_; rintro e w' ⟨rfl, hw'⟩; replace hw' := hw'.symm; subst hw') | (go_at_call 46; refine (pMayBe _ _ _).mono ?_; rintro e w' ⟨rfl, hw'⟩; replace hw' := hw'.symm; subst hw') | (go_at_call 109; refine (dFull ok _ HD.out).mono ?_; rintro e w' ⟨rfl, hw'⟩; replace hw' := hw'.symm; subst hw'))
    go_ret2
    exact ⟨rfl, rfl⟩
  · rw [if_neg h4] at he; omega
end
end Go.Proofs.YtjlfibhbfdckpaaGreatDoor
