/- Texts of the proof, one behind the other: DkL, DkW, DkX, DkY, DkZ. -/
import Derived.Test.YtjlfibhbfdckpaaGreatDoorK12
import Derived.Shelf.SlicesE.Delete
import Derived.Lib.RowBridge
/- The program's desk: slices.Index, slices.Delete at windows; leave. -/
namespace Go.Proofs.YtjlfibhbfdckpaaGreatDoor
open Go.RowKit Go.Lib Go.Sort Go.Shelf
attribute [local go_sem ↓] Go.wp_at_zero Go.wp_at_succ
def delRen : Go.Shelf.Ren := ⟨fun | 45 => 171 | n => n, fun | 22 => 129 | 23 => 111 | 3 => 3 | 4 => 4 | 0 => 0 | n => n, fun | n => n⟩
theorem delLay : Go.Proofs.SlLaysE.n45 Tryz.prog delRen := {
  mixed := by kernel_rfl
  f45 := ⟨Tryz.f171.name, by decide, Tryz.func171.trans (congrArg some (by kernel_rfl))⟩
  t0 := Tryz.underlying0
  a0 := Tryz.isAgg0
  z0 := Tryz.sizeOf0
  v0 := Tryz.zeroValue0
  t3 := Tryz.underlying3
  a3 := Tryz.isAgg3
  z3 := Tryz.sizeOf3
  v3 := Tryz.zeroValue3
  t4 := Tryz.underlying4
  a4 := Tryz.isAgg4
  z4 := Tryz.sizeOf4
  v4 := Tryz.zeroValue4
  t22 := Tryz.underlying129
  a22 := Tryz.isAgg129
  z22 := Tryz.sizeOf129
  v22 := Tryz.zeroValue129
  a23 := Tryz.isAgg111
  z23 := Tryz.sizeOf111 }
theorem setCells_block {b : Nat} {e : TypeId} : ∀ (vs : List Value) (o : Nat) (w : World) (cur : Array Value), w.heap[b]? = some (.cells cur e) → o + vs.length ≤ cur.size →
    ∃ cur' : Array Value, (w.setCells b o vs).heap[b]? = some (.cells cur' e) ∧ cur'.size = cur.size ∧ cur'.toList = cur.toList.take o ++ vs ++ cur.toList.drop (o + vs.length) := by
  intro vs
  induction vs with
  | nil => intro o w cur h _; exact ⟨cur, h, rfl, by simp⟩
  | cons v r ih =>
    intro o w cur h hl
    simp only [List.length_cons] at hl
    obtain ⟨cur', h1, h2, h3⟩ := ih (o + 1) (w.setCell ⟨b, o, none⟩ v) (cur.setIfInBounds o v) (set_block h v) (by simp; omega)
    refine ⟨cur', h1, by rw [h2]; simp, ?_⟩
    rw [h3, Array.toList_setIfInBounds, List.length_cons]
    have e1 : (cur.toList.set o v).take (o + 1) = cur.toList.take o ++ [v] := by
      rw [List.take_add_one, List.take_set_of_le (by omega), List.getElem?_set_self (by simp; omega)]
      rfl
    have e2 : (cur.toList.set o v).drop (o + 1 + r.length) = cur.toList.drop (o + (r.length + 1)) := by
      rw [List.drop_set_of_lt (by omega)]
      congr 1
      omega
    rw [e1, e2]
    simp
theorem sDelete (ib cap j : Nat) (ads : List (Option Addr)) (w : World) (hrow : w.ownsRow 2 111 1 (.slice (some ⟨ib, 0, none⟩) ads.length cap) ads.length (ads.map Value.pointer)) (hj : j < ads.length) :
    Calls Tryz.prog 171 #[.slice (some ⟨ib, 0, none⟩) ads.length cap, .int .i64 j, .int .i64 (j + 1)] w fun e w' => e = .returned (.slice (some ⟨ib, 0, none⟩) (ads.length - 1) cap) ∧ w'.ownsRow 2 111 1 (.slice (some ⟨ib, 0, none⟩) (ads.length - 1) cap) (ads.length - 1) ((ads.eraseIdx j).map Value.pointer) ∧ Keep (fun i => i = ib) w w' := by
  obtain ⟨hl, hc⟩ := hrow
  rcases hc with ⟨h0, _⟩ | ⟨g, cap', cur, hv, hb, hg, hn, hm, hs, ht⟩
  · simp at h0
  · obtain ⟨rfl, rfl⟩ : ib = g ∧ cap = cap' := by simpa using hv
    obtain ⟨ti, i1, i2, i3, i4⟩ := info_parts ptrInfo
    rw [Nat.mul_one] at hs ht
    have hcell : ∀ k, k < ads.length → cur[k]? = (ads.map Value.pointer)[k]? := fun k hk => by
      rw [← ht, List.getElem?_take_of_lt hk, Array.getElem?_toList]
    have hH : Holds Value.pointer w ib 0 ads.toArray := by
      intro k hk
      have hk' : k < ads.length := by simpa using hk
      rw [Nat.zero_add, cell_of_block hg, hcell k hk', frozen_of_block hg]
      simp [hk']
    have hd := AnyE.slices_Delete delLay Value.pointer (fun _ => rfl) none (fun w => Tryz.zeroValue111 w) ti i1 i3 ib 0 cap j (j + 1) ads.toArray w hH (by simpa using hn) hm (by omega) (by simp; omega)
    rw [show delRen.f 45 = 171 from rfl, List.size_toArray, show ((j + 1 : Nat) : Int) = (j : Int) + 1 by omega] at hd
    refine hd.mono ?_
    rintro e w' ⟨rfl, q, rfl⟩
    have hys : (ads.take j ++ ads.drop (j + 1) ++ List.replicate (j + 1 - j) none).length = ads.toArray.size := by simp; omega
    have hW := putRow_eq_setCells Value.pointer w ib 0 ads.toArray (ads.take j ++ ads.drop (j + 1) ++ List.replicate (j + 1 - j) none) q hH hys
    rw [show ads.toArray.toList = ads from rfl, hW]
    have hlen : ((ads.take j ++ ads.drop (j + 1) ++ List.replicate (j + 1 - j) none).map Value.pointer).length = ads.length := by simp; omega
    obtain ⟨cur', k1, k2, k3⟩ := setCells_block ((ads.take j ++ ads.drop (j + 1) ++ List.replicate (j + 1 - j) none).map Value.pointer) 0 (w.drewN q) cur hg (by rw [hlen]; omega)
    refine ⟨by simp, ⟨?_, .inr ⟨ib, cap, cur', rfl, hb, k1, by omega, hm, by omega, ?_⟩⟩, ?_⟩
    · rw [List.length_map, List.length_eraseIdx_of_lt hj]; omega
    · rw [k3, List.eraseIdx_eq_take_drop_succ, Nat.mul_one]
      have hx : ((ads.take j ++ ads.drop (j + 1)).map Value.pointer).length = ads.length - 1 := by simp; omega
      rw [List.map_append (l₁ := ads.take j ++ ads.drop (j + 1))]
      simp only [List.take_zero, List.nil_append, List.append_assoc]
      rw [← hx, List.take_left' rfl]
    · exact Keep.setCells (F := fun i => i = ib) ib (fun _ => rfl) _ 0 ((Keep.refl (fun i => i = ib) w).drewN q)
set_option maxHeartbeats 1000000 in
theorem sIndex (ib cap j bv : Nat) (bs : List Nat) (w : World) (hj : bs[j]? = some bv) (hne : ∀ i b, i < j → bs[i]? = some b → b ≠ bv) (hcap : bs.length ≤ cap) (hmax : cap ≤ 9223372036854775807) (hc : ∀ i b, bs[i]? = some b → w.cell? ⟨ib, i, none⟩ = some (.pointer (some ⟨b, 0, none⟩))) (hb : ∀ b ∈ bs, ∃ C, w.heap[b]? = some (.cells C 131)) :
    Calls Tryz.prog 170 #[.slice (some ⟨ib, 0, none⟩) bs.length cap, .pointer (some ⟨bv, 0, none⟩)] w fun e w' => e = .returned (.int .i64 j) ∧ w' = w := by
  have hjl : j < bs.length := (List.getElem?_eq_some_iff.1 hj).1
  have Hj : Hid (bs[j]? = some bv) := hj
  have Hne : Hid (∀ i b, i < j → bs[i]? = some b → b ≠ bv) := hne
  have Hc : Hid (∀ i b, bs[i]? = some b → w.cell? ⟨ib, i, none⟩ = some (.pointer (some ⟨b, 0, none⟩))) := hc
  have Hb : Hid (∀ b ∈ bs, ∃ C, w.heap[b]? = some (.cells C 131)) := hb
  clear hj hne hc hb
  go_enter Tryz.func170, Tryz.ntmps170
  go_wp2_with fail
  go_loopw [8] (fun i wr => ∃ k : Nat, k ≤ j ∧ i = .int .i64 k ∧ wr = w) (fun i _ => bs.length - (RowKit.intOf i).toNat)
  case atStart => exact ⟨0, by omega, rfl, rfl⟩
  case round =>
    obtain ⟨k, hk, rfl, rfl⟩ := hrel
    have hkl : k < bs.length := by omega
    obtain ⟨b, hbk⟩ : ∃ b, bs[k]? = some b := ⟨_, List.getElem?_eq_getElem hkl⟩
    have hcell := Hc.out k b hbk
    by_cases he : k = j
    · subst he
      obtain rfl : b = bv := by have := Hj.out; rw [hbk] at this; simpa using this
      have heq := ptr_same ⟨b, 0, none⟩ wr
      clear hbk
      go_wp2_with fail
      go_ret
      exact ⟨rfl, rfl⟩
    · have hkj : k < j := by omega
      obtain ⟨C1, h1⟩ := Hb.out b (List.mem_of_getElem? hbk)
      obtain ⟨C2, h2⟩ := Hb.out bv (List.mem_of_getElem? Hj.out)
      have heq := ptr_other (a := ⟨bv, 0, none⟩) (b := ⟨b, 0, none⟩) wr (by intro e; injection e with e1; exact Hne.out k b hkj hbk e1.symm) h2 h1
      clear hbk h1 h2
      go_wp2_with fail
      go_roundw
      case rel => exact ⟨k + 1, by omega, by simp, trivial⟩
      case measure => simp [RowKit.intOf]; omega
theorem eraseIdx_map' {α β : Type} (f : α → β) (l : List α) (j : Nat) : (l.map f).eraseIdx j = (l.eraseIdx j).map f := by
  rw [List.eraseIdx_eq_take_drop_succ, List.eraseIdx_eq_take_drop_succ, List.map_append, List.map_take, List.map_drop]
abbrev ptrOf (b : Nat) : Value := .pointer (some ⟨b, 0, none⟩)
set_option maxHeartbeats 1000000 in
theorem wLeave (u v : Wn) (bu bv cu cv ib cap j : Nat) (pv : Option Addr) (su : Value) (bs : List Nat) (w : World) (hU : w.heap[bu]? = some (.cells (winArr u (some ⟨bv, 0, none⟩) cu su) 131)) (hV : w.heap[bv]? = some (.cells (winArr v pv cv (.slice (some ⟨ib, 0, none⟩) bs.length cap)) 131))
    (hrow : w.ownsRow 2 111 1 (.slice (some ⟨ib, 0, none⟩) bs.length cap) bs.length (bs.map ptrOf)) (hj : bs[j]? = some bu) (hne : ∀ i b, i < j → bs[i]? = some b → b ≠ bu) (hb : ∀ b ∈ bs, ∃ C, w.heap[b]? = some (.cells C 131)) (n2 : ib ≠ bu) (n3 : ib ≠ bv) (hk : bs.length ≤ 100) :
    Calls Tryz.prog 152 #[.pointer (some ⟨bu, 0, none⟩)] w fun e w' => e = .returned (.tuple #[]) ∧ w'.heap[bv]? = some (.cells (winArr v pv cv (.slice (some ⟨ib, 0, none⟩) (bs.length - 1) cap)) 131) ∧ w'.ownsRow 2 111 1 (.slice (some ⟨ib, 0, none⟩) (bs.length - 1) cap) (bs.length - 1) ((bs.eraseIdx j).map ptrOf) ∧ Keep (fun i => i = bv ∨ i = ib) w w' := by
  have hjl : j < bs.length := (List.getElem?_eq_some_iff.1 hj).1
  have lu : bu < w.heap.size := (Array.getElem?_eq_some_iff.1 hU).1
  have lv : bv < w.heap.size := (Array.getElem?_eq_some_iff.1 hV).1
  have c1 : w.cell? ⟨bu, 1, none⟩ = some (.pointer (some ⟨bv, 0, none⟩)) := cell_of_block hU 1
  have c6 : w.cell? ⟨bv, 6, none⟩ = some (.slice (some ⟨ib, 0, none⟩) bs.length cap) := cell_of_block hV 6
  have f6 : w.frozen? ⟨bv, 6, none⟩ = false := frozen_of_block hV 6
  have Hidx : Hid (Calls Tryz.prog 170 #[.slice (some ⟨ib, 0, none⟩) bs.length cap, .pointer (some ⟨bu, 0, none⟩)] w fun e w' => e = .returned (.int .i64 j) ∧ w' = w) := by
    have ho := hrow
    rcases ho.2 with ⟨h0, _⟩ | ⟨g, cap', cur, hv, _, hg, hn, hm, hs, ht⟩
    · simp at h0
    · obtain ⟨rfl, rfl⟩ : ib = g ∧ cap = cap' := by simpa using hv
      refine sIndex ib cap j bu bs w hj hne hn hm (fun i b hib => ?_) hb
      rw [Nat.mul_one] at ht
      have hil : i < bs.length := (List.getElem?_eq_some_iff.1 hib).1
      rw [cell_of_block hg, ← Array.getElem?_toList, ← List.getElem?_take_of_lt hil, ht]
      simp [hib]
  have Hdel : Hid (∀ W : World, W.ownsRow 2 111 1 (.slice (some ⟨ib, 0, none⟩) bs.length cap) bs.length (bs.map ptrOf) → Calls Tryz.prog 171 #[.slice (some ⟨ib, 0, none⟩) bs.length cap, .int .i64 j, .int .i64 (j + 1)] W fun e w' => e = .returned (.slice (some ⟨ib, 0, none⟩) (bs.length - 1) cap) ∧ w'.ownsRow 2 111 1 (.slice (some ⟨ib, 0, none⟩) (bs.length - 1) cap) (bs.length - 1) ((bs.eraseIdx j).map ptrOf) ∧ Keep (fun i => i = ib) W w') := by
    intro W hW
    have := sDelete ib cap j (bs.map (fun b => some ⟨b, 0, none⟩)) W (by simpa [Function.comp_def] using hW) (by simpa using hjl)
    simp only [List.length_map, eraseIdx_map', List.map_map, Function.comp_def] at this
    exact this
  have HU : Hid (w.heap[bu]? = some (.cells (winArr u (some ⟨bv, 0, none⟩) cu su) 131)) := hU
  have HV : Hid (w.heap[bv]? = some (.cells (winArr v pv cv (.slice (some ⟨ib, 0, none⟩) bs.length cap)) 131)) := hV
  have Hrow : Hid (w.ownsRow 2 111 1 (.slice (some ⟨ib, 0, none⟩) bs.length cap) bs.length (bs.map ptrOf)) := hrow
  have hwj : IntKind.i64.wrap ((j : Int) + 1) = (j : Int) + 1 := wrap_id _ (by omega) (by omega)
  clear hU hV hrow hj hne hb
  go_enter Tryz.func152, Tryz.ntmps152
  go_wp2_with (first | (go_at_call 170; refine (Hidx.out).mono ?_; rintro e w' ⟨rfl, hw'⟩; replace hw' := hw'.symm; subst hw'))
  go_region_with (first | (go_at_call 171; refine (Hdel.out w.drew (ownsRow_same (w' := w.drew) Hrow.out (fun _ _ => rfl))).mono ?_; rintro e wb ⟨rfl, R2, K2⟩; have HR : Hid (wb.ownsRow 2 111 1 (.slice (some ⟨ib, 0, none⟩) (bs.length - 1) cap) (bs.length - 1) ((bs.eraseIdx j).map ptrOf)) := R2; have V2 : wb.heap[bv]? = some (.cells (winArr v pv cv (.slice (some ⟨ib, 0, none⟩) bs.length cap)) 131) := (K2.block _ lv (fun e => n3 e.symm)).trans HV.out; have U2 : wb.heap[bu]? = some (.cells (winArr u (some ⟨bv, 0, none⟩) cu su) 131) := (K2.block _ lu (fun e => n2 e.symm)).trans HU.out; have d1 : wb.cell? ⟨bu, 1, none⟩ = some (.pointer (some ⟨bv, 0, none⟩)) := cell_of_block U2 1; have d6 : wb.cell? ⟨bv, 6, none⟩ = some (.slice (some ⟨ib, 0, none⟩) bs.length cap) := cell_of_block V2 6; have e6 : wb.frozen? ⟨bv, 6, none⟩ = false := frozen_of_block V2 6; have HV2 : Hid (wb.heap[bv]? = some (.cells (winArr v pv cv (.slice (some ⟨ib, 0, none⟩) bs.length cap)) 131)) := V2; have HK : Hid (Keep (fun i => i = ib) w wb) := ⟨K2.os, K2.tape, K2.output, K2.size, K2.block⟩; clear R2 V2 U2 K2))
  all_goals
    go_wp2_with fail
    go_end0
    refine ⟨rfl, set_block HV2.out _, ownsRow_same HR.out (fun i hi => Below.heap_setCell _ _ _ _ (fun e => n3 ((show ib = i from (by simpa [Value.ownBlock] using hi)).trans e))), ?_⟩
    exact (HK.out.mono (fun i h => Or.inr h)).setCell ⟨bv, 6, none⟩ _ (fun _ => Or.inl rfl)
end Go.Proofs.YtjlfibhbfdckpaaGreatDoor

/- A window leaves its parent, and comes into another: in memory. -/
namespace Go.Proofs.YtjlfibhbfdckpaaGreatDoor
open Go.RowKit
attribute [local go_sem ↓] Go.wp_at_zero Go.wp_at_succ
def filtN (L : List Wn) (n : Int) : List Wn := L.filter (fun u => decide (u.n ≠ n))
theorem mem_filtN {L : List Wn} {n : Int} {u : Wn} : u ∈ filtN L n ↔ u ∈ L ∧ u.n ≠ n := by simp [filtN]
theorem kids_filtN (L : List Wn) (n m : Int) : kids (filtN L n) m = filtN (kids L m) n := by
  unfold kids filtN
  rw [List.filter_filter, List.filter_filter]
  refine List.filter_congr fun u _ => ?_
  rw [Bool.and_comm]
theorem filtN_none {L : List Wn} {n : Int} (h : ∀ u ∈ L, u.n ≠ n) : filtN L n = L := List.filter_eq_self.2 (fun u hu => by simpa using h u hu)
/-- Where a window stands among others of different numbers. -/
theorem idx_of {l : List Wn} (nd : (l.map Wn.n).Nodup) {v : Wn} (hv : v ∈ l) : ∃ j, l[j]? = some v ∧ (∀ i u, i < j → l[i]? = some u → u.n ≠ v.n) ∧ filtN l v.n = l.eraseIdx j := by
  induction l with
  | nil => simp at hv
  | cons a t ih =>
    rw [List.map_cons, List.nodup_cons] at nd
    by_cases e : a.n = v.n
    · have : a = v := by
        rcases List.mem_cons.1 hv with rfl | h
        · rfl
        · exact absurd (List.mem_map.2 ⟨v, h, e.symm⟩) nd.1
      subst this
      refine ⟨0, rfl, fun i u hi => by omega, ?_⟩
      unfold filtN
      rw [List.filter_cons_of_neg (by simp)]
      exact filtN_none (fun u hu eu => nd.1 (List.mem_map.2 ⟨u, hu, eu⟩))
    · have hv' : v ∈ t := by
        rcases List.mem_cons.1 hv with rfl | h
        · exact absurd rfl e
        · exact h
      obtain ⟨j, h1, h2, h3⟩ := ih nd.2 hv'
      refine ⟨j + 1, h1, fun i u hi hu => ?_, ?_⟩
      · cases i with
        | zero => obtain rfl : a = u := by simpa using hu
                  exact e
        | succ i => exact h2 i u (by omega) hu
      · unfold filtN at h3 ⊢
        rw [List.filter_cons_of_pos (by simpa using e), h3]
        rfl
def Mm.setS (M : Mm) (n : Int) (v : Value) : Mm := { M with s := updI' M.s n v }
section
variable {M : Mm} {L : List Wn} {last : Int} {N : Nat} {s : Rs} {t : Pt}
theorem setS_blk {n : Int} {sp : Value} (h : sp.ownBlock = (M.s n).ownBlock) (p : Pl) : (M.setS n sp).blk p = M.blk p := by
  cases p with
  | top k => rfl
  | win m k =>
    match k with
    | 0 => rfl
    | 1 => rfl
    | 2 => rfl
    | k + 3 =>
      show (updI' M.s n sp m).ownBlock = (M.s m).ownBlock
      by_cases e : m = n
      · subst e; rw [updI'_same]; exact h
      · rw [updI'_other _ _ e]
theorem own_sub {L1 : List Wn} (hs : ∀ u ∈ L1, u ∈ L) {i : Nat} (h : M.own L1 i) : M.own L i := by
  obtain ⟨p, hp, e⟩ := h
  refine ⟨p, ?_, e⟩
  cases p with
  | top k => exact hp
  | win n k => obtain ⟨a, u, hu, b⟩ := hp; exact ⟨a, u, hs u hu, b⟩
theorem inj_sub {L1 : List Wn} (hs : ∀ u ∈ L1, u ∈ L) (h : M.inj L) : M.inj L1 := by
  have ok : ∀ p : Pl, p.ok L1 → p.ok L := fun p hp => by
    cases p with
    | top k => exact hp
    | win n k => obtain ⟨a, u, hu, b⟩ := hp; exact ⟨a, u, hs u hu, b⟩
  exact fun p q i hp hq => h p q i (ok p hp) (ok q hq)
theorem ptrs_eq (M : Mm) (l : List Wn) : M.ptrs l = (l.map (fun u => M.b u.n)).map ptrOf := by simp [Mm.ptrs, ptrOf, Function.comp_def]
/-- What leave leaves. -/
def LPost (M : Mm) (L : List Wn) (last : Int) (N : Nat) (s : Rs) (t : Pt) (w : World) (v o : Wn) (e : Ending) (w' : World) : Prop :=
  ∃ sp, e = .returned (.tuple #[]) ∧ DkAt w' (M.setS o.n sp) (filtN L v.n) last N s t ∧ WinV w' v (M.b v.n) (M.c v.n) (M.g v.n) (M.pp v.par) (M.s v.n) (M.ptrs (kids L v.n)) ∧ Keep (M.own L) w w' ∧ sp.ownBlock = (M.s o.n).ownBlock ∧ ∃ ib cap, sp = .slice (some ⟨ib, 0, none⟩) ((kids L o.n).length - 1) cap ∧ (kids L o.n).length ≤ cap
set_option maxHeartbeats 1000000 in
theorem dLeave (ok : DOk L last) (w : World) (h : DkAt w M L last N s t) (v o : Wn) (hv : v ∈ L) (ho : o ∈ L) (hp : v.par = o.n) (hvo : v.n ≠ o.n) :
    Calls Tryz.prog 152 #[M.ptr v.n] w (LPost M L last N s t w v o) := by
  obtain ⟨rk, K, T⟩ := ok.tree
  have hvk : v ∈ kids L o.n := mem_kids.2 ⟨hv, hp⟩
  obtain ⟨j, hj, hjm, hje⟩ := idx_of (nd_kids T.nd o.n) hvk
  have hV := h.win v hv
  have hO := h.win o ho
  have hon := T.pos ho
  rw [show M.pp v.par = some ⟨M.b o.n, 0, none⟩ by rw [hp]; unfold Mm.pp; rw [if_neg (by omega)]] at hV
  have hlen : (kids L o.n).length ≤ L.length := List.length_filter_le _ _
  have hl16 := ok.len
  have hkl : ∀ u ∈ kids L o.n, u ∈ L := fun u hu => (mem_kids.1 hu).1
  -- the row is there
  have hrow := hO.row
  rw [ptrs_eq] at hrow
  obtain ⟨ib, cap, hsv⟩ : ∃ ib cap, M.s o.n = .slice (some ⟨ib, 0, none⟩) (kids L o.n).length cap := by
    rcases hrow.2 with ⟨_, h0⟩ | ⟨g, cap, cur, e, _⟩
    · have : (kids L o.n).length = 0 := by simpa using h0
      rw [List.length_eq_zero_iff.1 this] at hvk; simp at hvk
    · exact ⟨g, cap, by simpa using e⟩
  have hib : (M.s o.n).ownBlock = some ib := by rw [hsv]; rfl
  have hroom : (kids L o.n).length ≤ cap := by
    rcases hrow.2 with ⟨e, _⟩ | ⟨g, cap', cur, e, _, _, hn, _⟩
    · rw [hsv] at e; simp at e
    · rw [hsv] at e
      obtain ⟨_, rfl⟩ : ib = g ∧ cap = cap' := by simpa using e
      simpa using hn
  have hbl : ((kids L o.n).map (fun u => M.b u.n)).length = (kids L o.n).length := by simp
  have n2 : ib ≠ M.b v.n := fun e => by
    have := h.inj (.win o.n 3) (.win v.n 0) ib ⟨by omega, o, ho, rfl⟩ ⟨by omega, v, hv, rfl⟩ hib (by rw [e]; rfl); simp at this
  have n3 : ib ≠ M.b o.n := fun e => by
    have := h.inj (.win o.n 3) (.win o.n 0) ib ⟨by omega, o, ho, rfl⟩ ⟨by omega, o, ho, rfl⟩ hib (by rw [e]; rfl); simp at this
  have hw := wLeave v o (M.b v.n) (M.b o.n) (M.c v.n) (M.c o.n) ib cap j (M.pp o.par) (M.s v.n) ((kids L o.n).map (fun u => M.b u.n)) w hV.blk (by rw [hbl, ← hsv]; exact hO.blk)
    (by rw [hbl, ← hsv]; simpa using hrow) (by simp [hj]) (fun i b hi hb => by
      obtain ⟨u, hu, rfl⟩ : ∃ u, (kids L o.n)[i]? = some u ∧ M.b u.n = b := by simpa using hb
      exact fun e => hjm i u hi hu (h.b_inj (hkl u (List.mem_of_getElem? hu)) hv e))
    (fun b hb => by
      obtain ⟨u, hu, rfl⟩ := List.mem_map.1 hb
      exact ⟨_, (h.win u (hkl u hu)).blk⟩) n2 n3 (by rw [hbl]; omega)
  refine hw.mono ?_
  rintro e w' ⟨rfl, B', R', K'⟩
  rw [hbl] at B' R'
  have hek : (((kids L o.n).map (fun u => M.b u.n)).eraseIdx j).map ptrOf = M.ptrs (kids (filtN L v.n) o.n) := by
    rw [kids_filtN, hje, ptrs_eq, eraseIdx_map']
  rw [hek] at R'
  have hlk : (M.ptrs (kids (filtN L v.n) o.n)).length = (kids L o.n).length - 1 := by
    rw [M.ptrs_len, kids_filtN, hje, List.length_eraseIdx_of_lt ((List.getElem?_eq_some_iff.1 hj).1)]
  have hsub : ∀ u ∈ filtN L v.n, u ∈ L := fun u hu => (mem_filtN.1 hu).1
  have hso : (Value.slice (some ⟨ib, 0, none⟩) ((kids L o.n).length - 1) cap).ownBlock = (M.s o.n).ownBlock := by rw [hib]; rfl
  have hkk : ∀ i, M.own L i → i ≠ M.b o.n → i ≠ ib → w'.heap[i]? = w.heap[i]? := fun i hi e1 e2 => K'.block i (h.lt hi) (by rintro (e | e); exact e1 e; exact e2 e)
  have kk : ∀ (u : Wn) (k i : Nat), u ∈ L → k < 4 → M.blk (.win u.n k) = some i → ¬ (u.n = o.n ∧ (k = 0 ∨ k = 3)) → w'.heap[i]? = w.heap[i]? := fun u k i hu hk hb hn =>
    hkk i ⟨.win u.n k, ⟨hk, u, hu, rfl⟩, hb⟩ (fun e => by
      have := h.inj (.win u.n k) (.win o.n 0) i ⟨hk, u, hu, rfl⟩ ⟨by omega, o, ho, rfl⟩ hb (by rw [e]; rfl)
      injection this with e1 e2; exact hn ⟨e1, .inl e2⟩) (fun e => by
      have := h.inj (.win u.n k) (.win o.n 3) i ⟨hk, u, hu, rfl⟩ ⟨by omega, o, ho, rfl⟩ hb (by rw [e]; exact hib)
      injection this with e1 e2; exact hn ⟨e1, .inr e2⟩)
  have kt : ∀ k, k < 5 → w'.heap[M.t k]? = w.heap[M.t k]? := fun k hk => hkk _ (own_top M L k hk) (h.ne (p := .top k) (q := .win o.n 0) hk ⟨by omega, o, ho, rfl⟩ rfl rfl (by simp)) (h.ne (p := .top k) (q := .win o.n 3) hk ⟨by omega, o, ho, rfl⟩ rfl hib (by simp))
  refine ⟨.slice (some ⟨ib, 0, none⟩) ((kids L o.n).length - 1) cap, rfl, ⟨(kt 0 (by omega)).trans h.b0, (kt 1 (by omega)).trans h.b1, h.scr.same (kt 2 (by omega)) (kt 3 (by omega)) (kt 4 (by omega)), ?_, ?_, ?_⟩, ?_, ?_, hso, ib, cap, rfl, hroom⟩
  · intro u hu
    have huL := hsub u hu
    show WinV w' u (M.b u.n) (M.c u.n) (M.g u.n) (M.pp u.par) (updI' M.s o.n _ u.n) (M.ptrs (kids (filtN L v.n) u.n))
    have hU := h.win u huL
    by_cases e : u.n = o.n
    · obtain rfl := nd_inj T.nd huL ho e
      rw [updI'_same]
      refine ⟨B', hU.gr.same (kk u 1 _ huL (by omega) rfl (by omega)) (kk u 2 _ huL (by omega) rfl (by omega)), hU.wf, ?_⟩
      rw [hlk]; exact R'
    · rw [updI'_other _ _ e]
      have hke : kids (filtN L v.n) u.n = kids L u.n := by
        rw [kids_filtN]
        refine filtN_none (fun a ha ea => e ?_)
        obtain rfl := nd_inj T.nd (mem_kids.1 ha).1 hv ea
        rw [← (mem_kids.1 ha).2, hp]
      rw [hke]
      exact hU.same (kk u 0 _ huL (by omega) rfl (fun hc => e hc.1)) (kk u 1 _ huL (by omega) rfl (fun hc => e hc.1)) (kk u 2 _ huL (by omega) rfl (fun hc => e hc.1)) (fun i hi => kk u 3 i huL (by omega) hi (fun hc => e hc.1))
  · intro p q i hp' hq' e1 e2
    rw [setS_blk hso] at e1 e2
    exact inj_sub hsub h.inj p q i hp' hq' e1 e2
  · rintro i ⟨p, hp', e⟩
    rw [setS_blk hso] at e
    exact h.two i (own_sub hsub ⟨p, hp', e⟩)
  · have hV' := h.win v hv
    exact hV'.same (kk v 0 _ hv (by omega) rfl (fun hc => hvo hc.1)) (kk v 1 _ hv (by omega) rfl (fun hc => hvo hc.1)) (kk v 2 _ hv (by omega) rfl (fun hc => hvo hc.1)) (fun i hi => kk v 3 i hv (by omega) hi (fun hc => hvo hc.1))
  · exact K'.mono (fun i hi => by
      rcases hi with rfl | rfl
      · exact own_b M ho
      · exact own_s M ho hib)
end
end Go.Proofs.YtjlfibhbfdckpaaGreatDoor

/- A window comes into a parent: in memory. Give. -/
namespace Go.Proofs.YtjlfibhbfdckpaaGreatDoor
open Go.RowKit
attribute [local go_sem ↓] Go.wp_at_zero Go.wp_at_succ
section
variable {M : Mm} {last : Int} {N : Nat} {s : Rs} {t : Pt}
/-- A window, out of the list, comes into it: its parent's row is another one. -/
theorem DkAt.join {w1 w2 : World} {L L1 L' : List Wn} (h : DkAt w1 M L1 last N s t) {v' q : Wn} {sp : Value} (hq : q ∈ L1) (nd1 : ∀ u ∈ L1, ∀ u' ∈ L1, u.n = u'.n → u = u')
    (hmem : ∀ u, u ∈ L' ↔ u = v' ∨ u ∈ L1) (hk : ∀ m, m ≠ q.n → kids L' m = kids L1 m) (hvn : ∀ u ∈ L1, u.n ≠ v'.n)
    (hinj : M.inj L) (hnum : ∀ n, (∃ u ∈ L, u.n = n) ↔ (n = v'.n ∨ ∃ u ∈ L1, u.n = n)) (hlt : ∀ i, M.own L i → i < w1.heap.size) (htwo : ∀ i, M.own L i → 2 ≤ i)
    (hwv : WinV w2 v' (M.b v'.n) (M.c v'.n) (M.g v'.n) (M.pp v'.par) (M.s v'.n) (M.ptrs (kids L' v'.n)))
    (hwq : WinV w2 q (M.b q.n) (M.c q.n) (M.g q.n) (M.pp q.par) sp (M.ptrs (kids L' q.n)))
    (hsp : sp.ownBlock = (M.s q.n).ownBlock ∨ ∀ i, sp.ownBlock = some i → w1.heap.size ≤ i)
    (hkeep : ∀ i, M.own L1 i → i ≠ M.b q.n → (M.s q.n).ownBlock ≠ some i → w2.heap[i]? = w1.heap[i]?) (_hb2 : 2 ≤ w1.heap.size) :
    DkAt w2 (M.setS q.n sp) L' last N s t ∧ ∀ i, (M.setS q.n sp).own L' i → M.own L i ∨ w1.heap.size ≤ i := by
  have hvq : v'.n ≠ q.n := fun e => hvn q hq e.symm
  have hokL : ∀ p : Pl, p.ok L' → p.ok L := fun p hp => by
    cases p with
    | top k => exact hp
    | win n k =>
      obtain ⟨a, u, hu, b⟩ := hp
      refine ⟨a, (hnum n).2 ?_⟩
      rcases (hmem u).1 hu with rfl | hu
      · exact .inl b.symm
      · exact .inr ⟨u, hu, b⟩
  have hold : ∀ p : Pl, p.ok L' → ¬ (p = .win q.n 3 ∧ sp.ownBlock ≠ (M.s q.n).ownBlock) → p.ok L ∧ (M.setS q.n sp).blk p = M.blk p := fun p hp hf => by
    refine ⟨hokL p hp, ?_⟩
    by_cases e : sp.ownBlock = (M.s q.n).ownBlock
    · exact setS_blk e p
    · cases p with
      | top k => rfl
      | win m k =>
        have hk4 : k < 4 := hp.1
        match k, hk4 with
        | 0, _ => rfl
        | 1, _ => rfl
        | 2, _ => rfl
        | 3, _ =>
          show (updI' M.s q.n sp m).ownBlock = (M.s m).ownBlock
          by_cases em : m = q.n
          · subst em; exact absurd ⟨rfl, e⟩ hf
          · rw [updI'_other _ _ em]
  have hfr : ∀ (p : Pl) (i : Nat), p.ok L' → (p = .win q.n 3 ∧ sp.ownBlock ≠ (M.s q.n).ownBlock) → (M.setS q.n sp).blk p = some i → w1.heap.size ≤ i := by
    rintro p i hp ⟨rfl, hne⟩ e
    have e' : (updI' M.s q.n sp q.n).ownBlock = some i := e
    rw [updI'_same] at e'
    rcases hsp with h1 | h1
    · exact absurd h1 hne
    · exact h1 i e'
  have hown : ∀ i, (M.setS q.n sp).own L' i → M.own L i ∨ w1.heap.size ≤ i := fun i hi => own_of w1.heap.size _ hold hfr hi
  have hI := inj_of hinj w1.heap.size hlt _ hold hfr (fun p q' i _ _ fp fq _ _ => fp.1.trans fq.1.symm)
  have kt : ∀ k, k < 5 → w2.heap[M.t k]? = w1.heap[M.t k]? := fun k hk5 => hkeep _ (own_top M L1 k hk5) (h.ne (p := .top k) (q := .win q.n 0) hk5 ⟨by omega, q, hq, rfl⟩ rfl rfl (by simp)) (fun e => by
    have := h.inj (.top k) (.win q.n 3) _ hk5 ⟨by omega, q, hq, rfl⟩ rfl e; simp at this)
  refine ⟨⟨(kt 0 (by omega)).trans h.b0, (kt 1 (by omega)).trans h.b1, h.scr.same (kt 2 (by omega)) (kt 3 (by omega)) (kt 4 (by omega)), ?_, hI, ?_⟩, hown⟩
  · intro u hu
    show WinV w2 u (M.b u.n) (M.c u.n) (M.g u.n) (M.pp u.par) (updI' M.s q.n sp u.n) (M.ptrs (kids L' u.n))
    rcases (hmem u).1 hu with rfl | hu1
    · rw [updI'_other _ _ hvq]; exact hwv
    · by_cases e : u.n = q.n
      · obtain rfl := nd1 u hu1 q hq e
        rw [updI'_same]; exact hwq
      · rw [updI'_other _ _ e, hk _ e]
        have kk : ∀ k i, k < 4 → M.blk (.win u.n k) = some i → w2.heap[i]? = w1.heap[i]? := fun k i hk4 hb =>
          hkeep i ⟨.win u.n k, ⟨hk4, u, hu1, rfl⟩, hb⟩ (h.ne (p := .win u.n k) (q := .win q.n 0) ⟨hk4, u, hu1, rfl⟩ ⟨by omega, q, hq, rfl⟩ hb rfl (by simp [e])) (fun e' => by
            have := h.inj (.win u.n k) (.win q.n 3) _ ⟨hk4, u, hu1, rfl⟩ ⟨by omega, q, hq, rfl⟩ hb e'; simp [e] at this)
        exact (h.win u hu1).same (kk 0 _ (by omega) rfl) (kk 1 _ (by omega) rfl) (kk 2 _ (by omega) rfl) (fun i hi => kk 3 i (by omega) hi)
  · intro i hi
    rcases hown i hi with h1 | h1
    · exact htwo i h1
    · omega
end
end Go.Proofs.YtjlfibhbfdckpaaGreatDoor

/- The program's window: Give. -/
namespace Go.Proofs.YtjlfibhbfdckpaaGreatDoor
open Go.RowKit
attribute [local go_sem ↓] Go.wp_at_zero Go.wp_at_succ
/-- A window is taken out, and laid on top in a parent. -/
def topL (L : List Wn) (v : Wn) (p : Int) : List Wn := filtN L v.n ++ [{ v with par := p }]
section
variable {M : Mm} {L : List Wn} {last : Int} {N : Nat} {s : Rs} {t : Pt}
set_option maxHeartbeats 1000000 in
/-- Behind leave: enter. -/
theorem dEnter (ok : DOk L last) (w w1 : World) (h : DkAt w M L last N s t) (v o q : Wn) (hv : v ∈ L) (_ho : o ∈ L) (hq : q ∈ L) (hp : v.par = o.n) (hvo : v.n ≠ o.n) (hvq : v.n ≠ q.n) (hl : LPost M L last N s t w v o (.returned (.tuple #[])) w1) :
    Calls Tryz.prog 150 #[M.ptr v.n, M.ptr q.n] w1 (DPost M L (topL L v q.n) last N s t w (.tuple #[])) := by
  obtain ⟨sp, _, D1, V1, K1, hso, _⟩ := hl
  obtain ⟨rk, K, T⟩ := ok.tree
  have hblk := setS_blk (M := M) hso
  have hq1 : q ∈ filtN L v.n := mem_filtN.2 ⟨hq, fun e => hvq e.symm⟩
  have hQ := D1.win q hq1
  change WinV w1 q (M.b q.n) (M.c q.n) (M.g q.n) (M.pp q.par) (updI' M.s o.n sp q.n) (M.ptrs (kids (filtN L v.n) q.n)) at hQ
  obtain ⟨sq, hsq⟩ : ∃ sq, updI' M.s o.n sp q.n = sq := ⟨_, rfl⟩
  rw [hsq] at hQ
  have hsqo : sq.ownBlock = (M.s q.n).ownBlock := by
    rw [← hsq]
    by_cases e : q.n = o.n
    · rw [e, updI'_same]; exact hso
    · rw [updI'_other _ _ e]
  have hqp : q.n ≠ -1 := by have := T.pos hq; omega
  have n1 : M.b v.n ≠ M.b q.n := h.ne (p := .win v.n 0) (q := .win q.n 0) ⟨by omega, v, hv, rfl⟩ ⟨by omega, q, hq, rfl⟩ rfl rfl (by simp [hvq])
  have n2 : sq.ownBlock ≠ some (M.b v.n) := fun e => by
    rw [hsqo] at e
    have := h.inj (.win q.n 3) (.win v.n 0) _ ⟨by omega, q, hq, rfl⟩ ⟨by omega, v, hv, rfl⟩ e rfl; simp at this
  have n3 : sq.ownBlock ≠ some (M.b q.n) := fun e => by
    rw [hsqo] at e
    have := h.inj (.win q.n 3) (.win q.n 0) _ ⟨by omega, q, hq, rfl⟩ ⟨by omega, q, hq, rfl⟩ e rfl; simp at this
  have hlen : (M.ptrs (kids (filtN L v.n) q.n)).length ≤ 100 := by
    rw [M.ptrs_len]
    have a1 : (kids (filtN L v.n) q.n).length ≤ (filtN L v.n).length := List.length_filter_le _ _
    have a2 : (filtN L v.n).length ≤ L.length := List.length_filter_le _ _
    have := ok.len
    omega
  have h0 := h.two _ (own_top M L 0 (by omega))
  have h1 := h.lt (own_top M L 0 (by omega))
  have hz := K1.size
  refine (wEnter v q (M.b v.n) (M.b q.n) (M.c v.n) (M.c q.n) (M.pp v.par) (M.pp q.par) (M.s v.n) sq (M.ptrs (kids (filtN L v.n) q.n)) w1 V1.blk hQ.blk hQ.row n1 n2 n3 hlen (by omega)).mono ?_
  rintro e w2 ⟨gs, cap, rfl, U5, V5, R5, K5, hgs⟩
  have hkq : kids (topL L v q.n) q.n = kids (filtN L v.n) q.n ++ [{ v with par := q.n }] := by
    unfold topL; rw [kids_append, if_pos rfl]
  have hko : ∀ m, m ≠ q.n → kids (topL L v q.n) m = kids (filtN L v.n) m := fun m hm => by
    unfold topL; rw [kids_append, if_neg (fun e => hm e.symm), List.append_nil]
  have hkv : kids (topL L v q.n) v.n = kids L v.n := by
    rw [hko _ hvq, kids_filtN]
    refine filtN_none (fun u hu e => ?_)
    obtain rfl := nd_inj T.nd (mem_kids.1 hu).1 hv e
    exact hvo ((mem_kids.1 hu).2.symm.trans hp)
  have kv : ∀ k i, k < 4 → k ≠ 0 → M.blk (.win v.n k) = some i → w2.heap[i]? = w1.heap[i]? := fun k i hk hk0 hb => by
    have hown : M.own L i := ⟨.win v.n k, ⟨hk, v, hv, rfl⟩, hb⟩
    refine K5.block i (Nat.lt_of_lt_of_le (h.lt hown) hz) ?_
    rintro (e | e | e)
    · exact h.ne (p := .win v.n k) (q := .win v.n 0) ⟨hk, v, hv, rfl⟩ ⟨by omega, v, hv, rfl⟩ hb rfl (by simp [hk0]) e
    · exact h.ne (p := .win v.n k) (q := .win q.n 0) ⟨hk, v, hv, rfl⟩ ⟨by omega, q, hq, rfl⟩ hb rfl (by simp [hvq]) e
    · rw [hsqo] at e
      have := h.inj (.win v.n k) (.win q.n 3) _ ⟨hk, v, hv, rfl⟩ ⟨by omega, q, hq, rfl⟩ hb e; simp [hvq] at this
  have kq : ∀ k i, (k = 1 ∨ k = 2) → M.blk (.win q.n k) = some i → w2.heap[i]? = w1.heap[i]? := fun k i hk hb => by
    have hk4 : k < 4 := by omega
    have hown : M.own L i := ⟨.win q.n k, ⟨hk4, q, hq, rfl⟩, hb⟩
    refine K5.block i (Nat.lt_of_lt_of_le (h.lt hown) hz) ?_
    rintro (e | e | e)
    · exact h.ne (p := .win q.n k) (q := .win v.n 0) ⟨hk4, q, hq, rfl⟩ ⟨by omega, v, hv, rfl⟩ hb rfl (by simp; omega) e
    · exact h.ne (p := .win q.n k) (q := .win q.n 0) ⟨hk4, q, hq, rfl⟩ ⟨by omega, q, hq, rfl⟩ hb rfl (by simp; omega) e
    · rw [hsqo] at e
      have := h.inj (.win q.n k) (.win q.n 3) _ ⟨hk4, q, hq, rfl⟩ ⟨by omega, q, hq, rfl⟩ hb e; simp at this; omega
  have hvs : (M.setS o.n sp).s v.n = M.s v.n := updI'_other _ _ hvo
  have J := D1.join (L := L) (L' := topL L v q.n) (v' := { v with par := q.n }) (q := q) (sp := .slice (some ⟨gs, 0, none⟩) ((M.ptrs (kids (filtN L v.n) q.n)).length + 1) cap) hq1
    (fun a ha b hb e => nd_inj T.nd (mem_filtN.1 ha).1 (mem_filtN.1 hb).1 e)
    (fun u => by unfold topL; rw [List.mem_append]; simp [or_comm])
    hko (fun u hu => (mem_filtN.1 hu).2)
    (fun p q' i hp' hq' e1 e2 => h.inj p q' i hp' hq' (by rw [← hblk]; exact e1) (by rw [← hblk]; exact e2))
    (fun n => ⟨fun ⟨u, hu, e⟩ => by
        by_cases e' : n = v.n
        · exact .inl e'
        · exact .inr ⟨u, mem_filtN.2 ⟨hu, by rw [e]; exact e'⟩, e⟩,
      fun hh => by
        rcases hh with e | ⟨u, hu, e⟩
        · exact ⟨v, hv, e.symm⟩
        · exact ⟨u, (mem_filtN.1 hu).1, e⟩⟩)
    (fun i ⟨p, hp', e⟩ => Nat.lt_of_lt_of_le (h.lt ⟨p, hp', by rw [← hblk]; exact e⟩) hz)
    (fun i ⟨p, hp', e⟩ => h.two i ⟨p, hp', by rw [← hblk]; exact e⟩)
    (by
      show WinV w2 { v with par := q.n } (M.b v.n) (M.c v.n) (M.g v.n) (M.pp q.n) ((M.setS o.n sp).s v.n) (M.ptrs (kids (topL L v q.n) v.n))
      rw [hvs, hkv, show M.pp q.n = some ⟨M.b q.n, 0, none⟩ by unfold Mm.pp; rw [if_neg hqp]]
      exact ⟨U5, V1.gr.same (kv 1 _ (by omega) (by omega) rfl) (kv 2 _ (by omega) (by omega) rfl), V1.wf, ownsRow_same V1.row (fun i hi => kv 3 i (by omega) (by omega) hi)⟩)
    (by
      show WinV w2 q (M.b q.n) (M.c q.n) (M.g q.n) (M.pp q.par) _ (M.ptrs (kids (topL L v q.n) q.n))
      have hpe : M.ptrs (kids (topL L v q.n) q.n) = M.ptrs (kids (filtN L v.n) q.n) ++ [M.ptr v.n] := by rw [hkq]; simp [Mm.ptrs]
      rw [hpe]
      exact ⟨V5, hQ.gr.same (kq 1 _ (.inl rfl) rfl) (kq 2 _ (.inr rfl) rfl), hQ.wf, by simpa using R5⟩)
    (by
      show _ = (updI' M.s o.n sp q.n).ownBlock ∨ _
      rw [hsq]
      rcases hgs with e | e
      · exact .inl (by rw [e]; rfl)
      · exact .inr (fun i hi => by have : gs = i := by simpa [Value.ownBlock] using hi
                                   omega))
    (fun i hi e1 e2 => by
      have e2' : (updI' M.s o.n sp q.n).ownBlock ≠ some i := e2
      rw [hsq] at e2'
      refine K5.block i (D1.lt hi) ?_
      rintro (e | e | e)
      · obtain ⟨p, hp', hb⟩ := hi
        rw [hblk] at hb
        cases p with
        | top k => exact h.ne (p := .top k) (q := .win v.n 0) hp' ⟨by omega, v, hv, rfl⟩ hb rfl (by simp) e
        | win n k =>
          obtain ⟨hk, u, hu, hun⟩ := hp'
          exact h.ne (p := .win n k) (q := .win v.n 0) ⟨hk, u, (mem_filtN.1 hu).1, hun⟩ ⟨by omega, v, hv, rfl⟩ hb rfl (fun e' => by
            injection e' with a _; exact (mem_filtN.1 hu).2 (hun.trans a)) e
      · exact e1 e
      · exact e2' e)
    (by omega)
  obtain ⟨JD, JO⟩ := J
  refine ⟨_, rfl, JD, rfl, K1.trans K5 (fun i hi hF => ?_), fun i hi => ?_⟩
  · rcases hF with rfl | rfl | e
    · exact own_b M hv
    · exact own_b M hq
    · rw [hsqo] at e; exact own_s M hq e
  · rcases JO i hi with ⟨p, hp', e⟩ | e
    · exact .inl ⟨p, hp', by rw [← hblk]; exact e⟩
    · exact .inr (by omega)
end
end Go.Proofs.YtjlfibhbfdckpaaGreatDoor

/- The program's window: Raise, Give; IsOrLiesIn; the calls. -/
namespace Go.Proofs.YtjlfibhbfdckpaaGreatDoor
open Go.RowKit
attribute [local go_sem ↓] Go.wp_at_zero Go.wp_at_succ
section
variable {M : Mm} {L : List Wn} {last : Int} {N : Nat} {s : Rs} {t : Pt}
set_option maxHeartbeats 1000000 in
theorem dRaiseUp (ok : DOk L last) (w : World) (h : DkAt w M L last N s t) (v o : Wn) (hv : v ∈ L) (ho : o ∈ L) (hp : v.par = o.n) (hvo : v.n ≠ o.n) :
    Calls Tryz.prog 115 #[M.ptr v.n, .bool true] w (DPost M L (topL L v o.n) last N s t w (.tuple #[])) := by
  have HD : Hid (DkAt w M L last N s t) := h
  clear h
  go_enter Tryz.func115, Tryz.ntmps115
  go_wp2_with fail
  go_at_call 152
  refine (dLeave ok _ HD.out v o hv ho hp hvo).mono ?_
  rintro e w1 hl
  have hl' := hl
  obtain ⟨sp, rfl, D1, V1, K1, hso, _⟩ := hl
  have f1 := V1.f1
  have hon : o.n ≠ -1 := by obtain ⟨rk, K, T⟩ := ok.tree; have := T.pos ho; omega
  rw [show M.pp v.par = some ⟨M.b o.n, 0, none⟩ by rw [hp]; unfold Mm.pp; rw [if_neg hon]] at f1
  have HL : Hid (LPost M L last N s t w v o (.returned (.tuple #[])) w1) := hl'
  clear hl' D1 V1 K1 hso
  go_wp2_with fail
  go_at_call 150
  refine (dEnter ok w w1 HD.out v o o hv ho ho hp hvo hvo HL.out).mono ?_
  rintro e w2 ⟨M', rfl, D2, t2, K2, O2⟩
  have HP : Hid (DPost M L (topL L v o.n) last N s t w (.tuple #[]) (.returned (.tuple #[])) w2) := ⟨M', rfl, D2, t2, K2, O2⟩
  clear D2 K2 O2 f1
  go_wp2_with fail
  exact bodyPost_ret (results_none rfl _ _ _) rfl HP.out
set_option maxHeartbeats 1000000 in
theorem dGive (ok : DOk L last) (w : World) (h : DkAt w M L last N s t) (v o q : Wn) (hv : v ∈ L) (ho : o ∈ L) (hq : q ∈ L) (hp : v.par = o.n) (hvo : v.n ≠ o.n) (hvq : v.n ≠ q.n) :
    Calls Tryz.prog 118 #[M.ptr v.n, M.ptr q.n] w (DPost M L (topL L v q.n) last N s t w (.tuple #[])) := by
  have HD : Hid (DkAt w M L last N s t) := h
  clear h
  go_enter Tryz.func118, Tryz.ntmps118
  go_wp2_with fail
  go_at_call 152
  refine (dLeave ok _ HD.out v o hv ho hp hvo).mono ?_
  rintro e w1 hl
  have he : e = .returned (.tuple #[]) := by obtain ⟨_, e, _⟩ := hl; exact e
  subst he
  have HL : Hid (LPost M L last N s t w v o (.returned (.tuple #[])) w1) := hl
  clear hl
  go_wp2_with fail
  go_at_call 150
  refine (dEnter ok w w1 HD.out v o q hv ho hq hp hvo hvq HL.out).mono ?_
  rintro e w2 ⟨M', rfl, D2, t2, K2, O2⟩
  have HP : Hid (DPost M L (topL L v q.n) last N s t w (.tuple #[]) (.returned (.tuple #[])) w2) := ⟨M', rfl, D2, t2, K2, O2⟩
  clear D2 K2 O2
  go_wp2_with fail
  go_end0
  exact HP.out
open Classical in
noncomputable def upM (M : Mm) (L : List Wn) (rk : Int → Nat) (p : Value) : Nat := if h : ∃ v ∈ L, p = M.ptr v.n then 1 + rk h.choose.n else 0
theorem upM_at {w : World} (h : DkAt w M L last N s t) (rk : Int → Nat) {v : Wn} (hv : v ∈ L) : upM M L rk (M.ptr v.n) = 1 + rk v.n := by
  have hex : ∃ u ∈ L, M.ptr v.n = M.ptr u.n := ⟨v, hv, rfl⟩
  unfold upM
  rw [dif_pos hex]
  obtain ⟨h1, h2⟩ := hex.choose_spec
  have e : M.b v.n = M.b hex.choose.n := by simpa using h2
  have := h.b_inj hv h1 e
  exact congrArg (fun n => 1 + rk n) this.symm
theorem upM_nil (rk : Int → Nat) : upM M L rk (.pointer none) = 0 := by
  unfold upM
  rw [dif_neg (by rintro ⟨v, _, e⟩; simp at e)]
theorem Sub.up {rk : Int → Nat} {K : Nat} (T : Tree L rk K) {v u : Wn} (hu : u ∈ L) (hne : u.n ≠ v.n) : Sub L v.n u.n ↔ Sub L v.n u.par := by
  constructor
  · intro h
    rcases h.last with e | ⟨x, hx, e, hs⟩
    · exact absurd e hne
    · obtain rfl := nd_inj T.nd hx hu e
      exact hs
  · exact fun h => .step hu h
set_option maxHeartbeats 1000000 in
/-- The way up: is one of them it? -/
theorem wLies {rk : Int → Nat} {K : Nat} (T : Tree L rk K) (w : World) (h : DkAt w M L last N s t) (q v : Wn) (hq : q ∈ L) (hv : v ∈ L) (b : Bool) (hb : b = true ↔ Sub L v.n q.n) :
    Calls Tryz.prog 117 #[M.ptr q.n, M.ptr v.n] w fun e w' => e = .returned (.bool b) ∧ w' = w := by
  have HD : Hid (DkAt w M L last N s t) := h
  have HT : Hid (Tree L rk K) := T
  have Hb : Hid (b = true ↔ Sub L v.n q.n) := hb
  have hv0 := T.pos hv
  clear h T hb
  go_enter Tryz.func117, Tryz.ntmps117
  go_wp2_with fail
  go_loopw [5] (fun p wr => ((p = .pointer none ∧ b = false) ∨ ∃ u ∈ L, p = M.ptr u.n ∧ (b = true ↔ Sub L v.n u.n)) ∧ wr = w) (fun p _ => upM M L rk p)
  case atStart => exact ⟨.inr ⟨q, hq, rfl, Hb.out⟩, rfl⟩
  case round =>
    obtain ⟨hr, rfl⟩ := hrel
    rcases hr with ⟨rfl, rfl⟩ | ⟨u, hu, rfl, hns⟩
    · go_wp2_with fail
      go_ret
      exact ⟨rfl, rfl⟩
    · have Hns : Hid (b = true ↔ Sub L v.n u.n) := hns
      have hU := HD.out.win u hu
      have f1 := hU.f1
      clear hns hU
      by_cases he : u.n = v.n
      · obtain rfl : b = true := Hns.out.2 (by rw [he]; exact .refl)
        have heq := ptr_same ⟨M.b u.n, 0, none⟩ wr
        rw [← he]
        clear he
        go_wp2_with fail
        go_ret
        exact ⟨rfl, rfl⟩
      · have hne : M.b u.n ≠ M.b v.n := fun e => he (HD.out.b_inj hu hv e)
        have heq := ptr_other (a := ⟨M.b u.n, 0, none⟩) (b := ⟨M.b v.n, 0, none⟩) wr (by intro e; injection e with e1; exact hne e1) (HD.out.win u hu).blk (HD.out.win v hv).blk
        have hup := Sub.up HT.out hu he
        rcases HT.out.parNot hu with hp | hp
        · have hbf : b = false := by
            rw [Bool.eq_false_iff]
            intro hbt
            have := hup.1 (Hns.out.1 hbt)
            rw [hp] at this
            have := (Sub.rank HT.out hv0 this).2
            omega
          subst hbf
          rw [show M.pp u.par = none by rw [hp]; rfl] at f1
          have Hm : Hid (upM M L rk (.pointer none) < upM M L rk (M.ptr u.n)) := by show _ < _; rw [upM_nil, upM_at HD.out rk hu]; omega
          clear hup
          go_wp2_with fail
          go_roundw
          case rel => exact ⟨.inl ⟨rfl, trivial⟩, trivial⟩
          case measure => exact Hm.out
        · obtain ⟨⟨x, hx, hxn⟩, hrk⟩ := HT.out.up u hu hp
          rw [show M.pp u.par = some ⟨M.b x.n, 0, none⟩ by rw [← hxn]; unfold Mm.pp; rw [if_neg (by have := HT.out.pos hx; omega)]] at f1
          have Hx : Hid (b = true ↔ Sub L v.n x.n) := by show b = true ↔ Sub L v.n x.n; rw [hxn, ← hup]; exact Hns.out
          have Hm : Hid (upM M L rk (M.ptr x.n) < upM M L rk (M.ptr u.n)) := by show _ < _; rw [upM_at HD.out rk hu, upM_at HD.out rk hx, hxn]; omega
          clear hup hxn
          go_wp2_with fail
          go_roundw
          case rel => exact ⟨.inr ⟨x, hx, rfl, Hx.out⟩, trivial⟩
          case measure => exact Hm.out
end
end Go.Proofs.YtjlfibhbfdckpaaGreatDoor
