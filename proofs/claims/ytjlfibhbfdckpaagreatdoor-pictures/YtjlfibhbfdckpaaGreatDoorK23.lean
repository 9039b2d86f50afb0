/- Texts of the proof, one behind the other: DkI. -/
import Derived.Test.YtjlfibhbfdckpaaGreatDoorK21
import Derived.Shelf.Spec.SlicesInsert
/- slices.Insert at the front, where there is room. -/
namespace Go.Proofs.YtjlfibhbfdckpaaGreatDoor
open Go.RowKit Go.Lib Go.Sort Go.Shelf
attribute [local go_sem ↓] Go.wp_at_zero Go.wp_at_succ
set_option maxHeartbeats 4000000 in
set_option maxRecDepth 100000 in
theorem sInsertA (b n c vb : Nat) (cs : List Value) (u : Value) (w : World) (hi : 0 < n) (hroom : n + 1 ≤ c) (hc63 : c ≤ 9223372036854775807) (hvb : vb ≠ b)
    (hcl : cs.length = n)
    (hcs : ∀ j v, cs[j]? = some v → w.cell? ⟨b, j, none⟩ = some v) (hsp : ∀ j, j < n + 1 → (w.cell? ⟨b, j, none⟩).isSome = true) (hfz : ∀ j, j < n + 1 → w.frozen? ⟨b, j, none⟩ = false)
    (hvs : w.cell? ⟨vb, 0, none⟩ = some u) (h1c : ∀ v ∈ cs, v.oneCell' = true) (h1v : u.oneCell' = true)
    (tA tB : TypeId) (kA kB : Nat) (hsa : w.shape? vb = some (tA, kA)) (hsb : w.shape? b = some (tB, kB)) (hkB : kB ≠ 0) (hfa : w.frozen? ⟨vb, 0, none⟩ = false) (hfe : w.frozen? ⟨vb, kA, none⟩ = false) :
    Calls Tryz.prog 153 #[.slice (some ⟨b, 0, none⟩) n c, .int .i64 0, .slice (some ⟨vb, 0, none⟩) 1 1] w fun e w' =>
      e = .returned (.slice (some ⟨b, 0, none⟩) (n + 1) c) ∧ w' = (w.drew.setCells b 1 cs).setCells b 0 [u] := by
  have mixed : Tryz.prog.follows Departure.mixedOrders = true := by kernel_rfl
  have hw1 : IntKind.i64.wrap 1 = 1 := by decide
  have hb2 : ¬ (c = 1) := by omega
  have hb3 : (1 : Int) ≤ (n : Int) + 1 := by omega
  have hb6 : ¬ (c = 0) := by omega
  have hb7 : (0 : Int) ≤ (n : Int) + 1 := by omega
  have hb5 : (1 : Int).toNat = 1 := rfl
  have hz2 : ¬ ((0 : Int) = (n : Int)) := by omega
  have hsz : (Tryz.prog.info? 111).map (·.size) = some 1 := by
    obtain ⟨i0, hi0, h0, h1, h2⟩ := info_parts ptrInfo
    rw [hi0]; simp [h1]
  have hov : ∀ lb cb, (callFunc 172 #[.slice (some ⟨vb, 0, none⟩) 1 1, .slice (some ⟨b, 1, none⟩) lb cb]).run Tryz.prog w = .ok (.value (.bool false)) w := fun lb cb => by
    rw [run_callFunc_extern Tryz.func172 (by kernel_rfl) (by kernel_rfl) (by kernel_rfl) (e := Extern.SlicesOverlaps.overlaps #[129, 129] #[4]) (by kernel_rfl),
      Lib.run_overlaps_apart w 129 4 111 Tryz.underlying129 1 Tryz.sizeOf111 ⟨vb, 0, none⟩ ⟨b, 1, none⟩ 1 1 lb cb hvb tA tB kA kB hsa hsb hkB hfa hfe]
    rfl
  have hcp1 : ∀ ty dc sc, (Builtin.copy_ #[129, 129] ty #[.slice (some ⟨b, 1, none⟩) n dc, .slice (some ⟨b, 0, none⟩) (n + 1) sc]).run Tryz.prog w.drew = .ok (goInt cs.length) (w.drew.setCells b 1 cs) := fun ty dc sc =>
    run_copy_cells w.drew _ _ ty 111 b 1 n dc ⟨b, 0, none⟩ (n + 1) sc cs Tryz.underlying129 hsz (by rw [hcl]; simp only [Nat.min_def]; split <;> omega)
      (fun j v hj => by rw [Addr.add_lit, Nat.zero_add]; exact hcs j v hj)
      (fun j hj => hsp (1 + j) (by omega)) (fun j hj => hfz (1 + j) (by omega)) h1c
  obtain ⟨W1, hW1⟩ : ∃ W1, W1 = w.drew.setCells b 1 cs := ⟨_, rfl⟩
  have hsp1 : ∀ k, k < n + 1 → (W1.cell? ⟨b, k, none⟩).isSome = true := fun k hk => by
    rw [hW1]
    exact isSome_setCells b cs 1 w.drew (fun j hj => hsp (1 + j) (by omega)) _ (hsp k hk)
  have hcp2 : ∀ (W : World), (∀ x, W.cell? x = W1.cell? x) → (∀ x, W.frozen? x = W1.frozen? x) → ∀ ty dc, (Builtin.copy_ #[129, 129] ty #[.slice (some ⟨b, 0, none⟩) (n + 1) dc, .slice (some ⟨vb, 0, none⟩) 1 1]).run Tryz.prog W = .ok (goInt [u].length) (W.setCells b 0 [u]) := fun W hWc hWf ty dc =>
    run_copy_cells W _ _ ty 111 b 0 (n + 1) dc ⟨vb, 0, none⟩ 1 1 [u] Tryz.underlying129 hsz (by simp only [List.length_cons, List.length_nil, Nat.min_def]; split <;> omega)
      (fun j v hj => by
        rw [Addr.add_lit, hWc, hW1, World.cell?_setCells_out b _ _ _ _ (fun h _ => absurd h hvb)]
        match j, hj with
        | 0, hj => obtain rfl : u = v := by simpa using hj
                   exact hvs)
      (fun j hj => by rw [hWc, Nat.zero_add]; exact hsp1 _ (by simp at hj; omega)) (fun j hj => by rw [hWf, hW1, World.frozen?_setCells, Nat.zero_add]; exact hfz _ (by simp at hj; omega)) (by simpa using h1v)
  rw [← hW1] at hcp1
  go_enter Tryz.func153, Tryz.ntmps153
  go_wp2_with (simp only [hov])
  go_region_law_o (refine step_copy_runI rfl _ _ 129 129 rfl _ _ (by simp [Act.eval, Act.put]) (by simp [Act.eval, Act.put]) (hcp1 _ _ _) ?_)
  go_wp2_with (at_builtin; refine wpList_copy_runI _ rfl _ _ 129 129 rfl _ _ rfl rfl (hcp2 _ (fun _ => rfl) (fun _ => rfl) _ _) ?_)
  go_ret
  first | exact ⟨rfl, rfl⟩ | exact ⟨rfl, by rw [hW1]⟩
/-- A row with room takes a pointer at its front. -/
theorem sInsert1 (ib cap n b : Nat) (ads : List (Option Addr)) (u : Value) (hu : u.oneCell' = true) (w : World) (hrow : w.ownsRow 2 111 1 (.slice (some ⟨ib, 0, none⟩) n cap) n (ads.map Value.pointer)) (hn : 0 < n) (hroom : n + 1 ≤ cap) (hb : w.heap[b]? = some (.cells #[u] 111)) (hne : b ≠ ib) :
    Calls Tryz.prog 153 #[.slice (some ⟨ib, 0, none⟩) n cap, .int .i64 0, .slice (some ⟨b, 0, none⟩) 1 1] w fun e w' => e = .returned (.slice (some ⟨ib, 0, none⟩) (n + 1) cap) ∧ w'.ownsRow 2 111 1 (.slice (some ⟨ib, 0, none⟩) (n + 1) cap) (n + 1) (u :: ads.map Value.pointer) ∧ Keep (fun i => i = ib) w w' := by
  obtain ⟨hl, hc⟩ := hrow
  rcases hc with ⟨h0, _⟩ | ⟨g, cap', cur, hv, hbb, hg, hnc, hm, hs, ht⟩
  · simp at h0
  obtain ⟨rfl, rfl⟩ : ib = g ∧ cap = cap' := by simpa using hv
  rw [Nat.mul_one] at hs ht
  have hal : (ads.map Value.pointer).length = n := by rw [hl]; omega
  have hcell : ∀ k, k < n → cur[k]? = (ads.map Value.pointer)[k]? := fun k hk => by
    rw [← ht, List.getElem?_take_of_lt hk, Array.getElem?_toList]
  refine (sInsertA ib n cap b (ads.map Value.pointer) u w hn hroom hm hne hal (fun j v hj => ?_) (fun j hj => ?_) (fun j _ => frozen_of_block hg j) (cell_of_block hb 0) (by simp [Value.oneCell']) hu 111 111 1 cap ?_ ?_ (by omega) (frozen_of_block hb 0) (frozen_of_block hb 1)).mono ?_
  · have hj' : j < n := by rw [← hal]; exact (List.getElem?_eq_some_iff.1 hj).1
    rw [cell_of_block hg, hcell j hj', hj]
  · rw [cell_of_block hg, Array.getElem?_eq_getElem (by omega)]; rfl
  · unfold World.shape?; rw [hb]; rfl
  · unfold World.shape?; rw [hg, ← hs]
  rintro e w' ⟨rfl, rfl⟩
  obtain ⟨cur1, k1, k2, k3⟩ := setCells_block (ads.map Value.pointer) 1 w.drew cur hg (by rw [hal]; omega)
  obtain ⟨cur2, l1, l2, l3⟩ := setCells_block [u] 0 (w.drew.setCells ib 1 (ads.map Value.pointer)) cur1 k1 (by simp; omega)
  refine ⟨rfl, ⟨by rw [List.length_cons, hal]; omega, .inr ⟨ib, cap, cur2, rfl, hbb, l1, hroom, hm, by omega, ?_⟩⟩, ?_⟩
  · rw [l3, k3, Nat.mul_one]
    have e1 : (cur1.toList.take 0 ++ [u] ++ cur1.toList.drop (0 + [u].length)) = u :: cur1.toList.drop 1 := rfl
    rw [← k3, e1, k3, List.take_succ_cons]
    congr 1
    have ht1 : (cur.toList.take 1).length = 1 := by simp; omega
    rw [List.append_assoc, List.drop_append_of_le_length (by omega), List.drop_of_length_le (by omega), List.nil_append, List.take_left' hal]
  · exact Keep.setCells (F := fun i => i = ib) ib (fun _ => rfl) _ 0 (Keep.setCells (F := fun i => i = ib) ib (fun _ => rfl) _ 1 (Keep.refl (fun i => i = ib) w).drew)
end Go.Proofs.YtjlfibhbfdckpaaGreatDoor
