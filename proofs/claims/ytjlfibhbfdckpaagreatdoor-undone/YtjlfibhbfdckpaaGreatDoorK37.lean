/- Texts of the proof, one behind the other: FxA, FxB, FwW, FwX, FxC. -/
import Derived.Test.YtjlfibhbfdckpaaGreatDoorK06
import Derived.Test.YtjlfibhbfdckpaaGreatDoorK23
import Derived.Test.YtjlfibhbfdckpaaGreatDoorK32
import Derived.Test.YtjlfibhbfdckpaaGreatDoorK36
import Derived.Lib.Builder
import Derived.Lib.AppendStr
import Derived.Lib.UnsafeStr
/- Flush: a strings.Builder that lies within the painter. -/
namespace Go.Proofs.YtjlfibhbfdckpaaGreatDoor
open Go.RowKit
attribute [local go_sem ↓] Go.wp_at_zero Go.wp_at_succ
/-- What was told so far: the builder's two cells are the painter's last; from n1 on its bytes lie. -/
structure BdAt (w : World) (bp n1 : Nat) (c0 c1 : Value) (l : List UInt8) : Prop where
  ex : ∃ ap v, w.heap[bp]? = some (.cells #[c0, c1, ap, v] 194) ∧ (ap = .pointer none ∨ ap = .pointer (some ⟨bp, 2, none⟩)) ∧ w.ownsRow n1 5 1 v l.length (Lib.byteCells l) ∧ (v = .slice none 0 0 ↔ l = [])
  lt : bp < n1
  le : n1 ≤ w.heap.size
/-- Blocks of other cells than bytes stay, but for some. -/
def Alien (F : Nat → Prop) (w w' : World) : Prop := ∀ (i : Nat) (cs : Array Value) (T : TypeId) (fr : Nat × Nat), w.heap[i]? = some (.cells cs T fr) → T ≠ 5 → ¬ F i → w'.heap[i]? = w.heap[i]?
theorem bdSize : (Tryz.prog.info? 192).map (·.size) = some 2 := by kernel_rfl
theorem blies : liesAt Tryz.prog Tryz.prog.depth 194 (4 / Tryz.prog.cellsOf 194) 2 192 1 = true := by kernel_rfl
theorem u8info : (Tryz.prog.info? 5).map (fun i => (i.zero, i.size, i.bytes)) = some (some (.int .u8 0), 1, 1) := by kernel_rfl
theorem u8cells : Tryz.prog.cellsOf 5 = 1 := by kernel_rfl
set_option maxHeartbeats 1000000 in
set_option maxRecDepth 100000 in
theorem qCheckUsed (bp : Nat) (w : World) (h0 : w.cell? ⟨bp, 2, none⟩ = some (.pointer (some ⟨bp, 2, none⟩))) :
    Calls Tryz.prog 231 #[.pointer (some ⟨bp, 2, none⟩)] w fun e w' => e = .returned (.tuple #[]) ∧ w' = w := by
  obtain ⟨j, hj, _⟩ := Option.map_eq_some_iff.1 bdSize
  go_enter Tryz.func231, Tryz.ntmps231
  go_wp2_with fail
  rw [Lib.run_neq_ptr_same w _ Tryz.underlying190 hj]
  go_wp2_with fail
  go_end0
  exact ⟨rfl, rfl⟩
set_option maxHeartbeats 1000000 in
set_option maxRecDepth 100000 in
theorem qCheckFresh (bp : Nat) (w : World) (h0 : w.cell? ⟨bp, 2, none⟩ = some (.pointer none)) (hsh : w.shape? bp = some (194, 4)) (hfz : w.frozen? ⟨bp, 2, none⟩ = false) :
    Calls Tryz.prog 231 #[.pointer (some ⟨bp, 2, none⟩)] w fun e w' => e = .returned (.tuple #[]) ∧ w' = w.setCell ⟨bp, 2, none⟩ (.pointer (some ⟨bp, 2, none⟩)) := by
  obtain ⟨j, hj, hjs⟩ := Option.map_eq_some_iff.1 bdSize
  go_enter Tryz.func231, Tryz.ntmps231
  go_wp2_with fail
  rw [Lib.run_to_unsafe w ⟨bp, 2, none⟩ Tryz.underlying190 Tryz.underlying274 hj (by rw [hjs]; decide) hsh (show 2 < 4 by decide)]
  simp only [Result.andThen]
  rw [Oper.upon_value]
  go_wp2_with fail
  rw [run_callFunc_extern Tryz.func244 (by kernel_rfl) (by kernel_rfl) (by kernel_rfl) (e := Extern.AbiNoEscape.same) (by kernel_rfl)]
  rw [Lib.run_noEscape]
  simp only [Result.andThen]
  rw [Oper.upon_value]
  go_wp2_with fail
  rw [Lib.run_from_unsafe w ⟨bp, 2, none⟩ Tryz.underlying274 Tryz.underlying190 hj hsh blies]
  simp only [Result.andThen]
  rw [Oper.upon_value]
  go_wp2_with fail
  go_end0
  exact ⟨rfl, rfl⟩
theorem qCheck (bp n1 : Nat) (c0 c1 : Value) (l : List UInt8) (w : World) (h : BdAt w bp n1 c0 c1 l) :
    Calls Tryz.prog 231 #[.pointer (some ⟨bp, 2, none⟩)] w fun e w' => e = .returned (.tuple #[]) ∧ (∃ v, w'.heap[bp]? = some (.cells #[c0, c1, .pointer (some ⟨bp, 2, none⟩), v] 194) ∧ w'.ownsRow n1 5 1 v l.length (Lib.byteCells l) ∧ (v = .slice none 0 0 ↔ l = [])) ∧ Keep (fun i => i = bp) w w' := by
  obtain ⟨ap, v, hb, ha, hr, hl⟩ := h.ex
  rcases ha with rfl | rfl
  · refine (qCheckFresh bp w (cell_of_block hb 2) (by simp [World.shape?, hb]) (frozen_of_block hb 2)).mono ?_
    rintro e w' ⟨rfl, rfl⟩
    have k := (Keep.refl (fun i => i = bp) w).setCell ⟨bp, 2, none⟩ (.pointer (some ⟨bp, 2, none⟩)) (fun _ => rfl)
    refine ⟨rfl, ⟨v, heap_set_same hb 2 _, orow_same hr (fun i hi => k.block i (hr.lt i hi).2 ?_), hl⟩, k⟩
    have := (hr.lt i hi).1
    have := h.lt
    omega
  · refine (qCheckUsed bp w (cell_of_block hb 2)).mono ?_
    rintro e w' ⟨rfl, rfl⟩
    exact ⟨rfl, ⟨v, hb, hr, hl⟩, Keep.refl _ _⟩
set_option maxHeartbeats 2000000 in
set_option maxRecDepth 100000 in
theorem qWrites (bp n1 : Nat) (c0 c1 : Value) (l b : List UInt8) (w : World) (h : BdAt w bp n1 c0 c1 l) (hlen : l.length + b.length ≤ 1000000) :
    Calls Tryz.prog 215 #[.pointer (some ⟨bp, 2, none⟩), bstr b] w fun e w' => e = .returned (.tuple #[.int .i64 b.length, .nilIface]) ∧ BdAt w' bp n1 c0 c1 (l ++ b) ∧ Keep (fun i => i = bp ∨ n1 ≤ i) w w' ∧ Alien (fun i => i = bp) w w' := by
  obtain ⟨i0, hi, hz⟩ := Option.map_eq_some_iff.1 u8info
  have hz0 : i0.zero = some (.int .u8 0) := (Prod.mk.inj hz).1
  have hz1 : i0.size = 1 := (Prod.mk.inj (Prod.mk.inj hz).2).1
  have hz2 : i0.bytes = 1 := (Prod.mk.inj (Prod.mk.inj hz).2).2
  have HH : Hid (BdAt w bp n1 c0 c1 l) := h
  have hlt := h.lt
  have hle := h.le
  have hbz : (⟨b.toArray⟩ : ByteArray).size = b.length := rfl
  clear h hz
  go_enter Tryz.func215, Tryz.ntmps215
  go_wp2_with fail
  go_at_call 231
  refine (qCheck bp n1 c0 c1 l w HH.out).mono ?_
  rintro e w1 ⟨rfl, ⟨v, hbk, hown, hv⟩, hk⟩
  have hs1 := hk.size
  have HK1 : Hid (Keep (fun i => i = bp) w w1) := hk
  have Hv : Hid (v = .slice none 0 0 ↔ l = []) := hv
  have d2 : w1.cell? ⟨bp, 2, none⟩ = some (.pointer (some ⟨bp, 2, none⟩)) := cell_of_block hbk 2
  have d3 : w1.cell? ⟨bp, 3, none⟩ = some v := cell_of_block hbk 3
  clear hk hv
  go_wp2_with (at_builtin; refine Lib.wpList_append_own_string _ rfl _ _ 177 9 rfl n1 5 i0 Tryz.underlying177 Tryz.underlying9 hi hz0 hz1 hz2 _ _ _ rfl hown ⟨b.toArray⟩ rfl ?c3 ?c4 ?c5 ?_)
  case c3 => unfold maxLen; omega
  case c4 => omega
  case c5 => omega
  intro v' w2 hown' hgrow hnil
  have hbp1 : bp < w1.heap.size := by omega
  have hne : v.ownBlock ≠ some bp := fun e => by have := (hown.lt bp e).1; omega
  have hb2 : w2.heap[bp]? = some (.cells #[c0, c1, .pointer (some ⟨bp, 2, none⟩), v] 194) := (hgrow.block bp hbp1 (fun e => hne e.symm)).trans hbk
  have e3 : w2.cell? ⟨bp, 3, none⟩ = some v := cell_of_block hb2 3
  have f3 : w2.frozen? ⟨bp, 3, none⟩ = false := frozen_of_block hb2 3
  have hk3 := (Keep.refl (fun i => i = bp) w2).setCell ⟨bp, 3, none⟩ v' (fun _ => rfl)
  have hrow' : w2.ownsRow n1 5 1 v' (l ++ b).length (Lib.byteCells (l ++ b)) := by
    rw [Lib.byteCells_append, List.length_append]
    exact hown'
  have HP : Hid (BdAt (w2.setCell ⟨bp, 3, none⟩ v') bp n1 c0 c1 (l ++ b) ∧ Keep (fun i => i = bp ∨ n1 ≤ i) w (w2.setCell ⟨bp, 3, none⟩ v') ∧ Alien (fun i => i = bp) w (w2.setCell ⟨bp, 3, none⟩ v')) := by
    refine ⟨⟨⟨_, v', heap_set_same hb2 3 _, .inr rfl, orow_same hrow' (fun i hi => hk3.block i (hrow'.lt i hi).2 ?_), ?_⟩, hlt, ?_⟩, ?_, ?_⟩
    · have := (hrow'.lt i hi).1; omega
    · rw [hnil, Hv.out, List.append_eq_nil_iff]
    · have := hgrow.size; have := hk3.size; omega
    · refine ((HK1.out.mono (fun i hi => .inl hi)).grown hgrow (fun k hk _ => .inr (hown.lt k hk).1)).trans hk3 (fun i _ hi => .inl hi)
    · intro i cs T fr hi hT hF
      have hi0 : i < w.heap.size := (Array.getElem?_eq_some_iff.1 hi).1
      have b1 := HK1.out.block i hi0 hF
      have b2 := hgrow.block i (by omega) (fun e => Lib.ownBlock_ne hown (b1.trans hi) hT e.symm)
      have hs2 := hgrow.size
      exact (hk3.block i (by omega) hF).trans (b2.trans b1)
  obtain ⟨ao, n', cap, rfl⟩ : ∃ ao n' cap, v' = .slice ao n' cap := by
    rcases hown'.2 with ⟨hv, _⟩ | ⟨g, cap, cur, hv, _⟩
    · exact ⟨_, _, _, hv⟩
    · exact ⟨_, _, _, hv⟩
  clear hrow' hown' hgrow hnil hk3 hown
  go_wp2_with fail
  go_ret2
  exact ⟨rfl, HP.out⟩
set_option maxHeartbeats 2000000 in
set_option maxRecDepth 100000 in
theorem qString (bp n1 : Nat) (c0 c1 : Value) (l : List UInt8) (w : World) (h : BdAt w bp n1 c0 c1 l) :
    Calls Tryz.prog 179 #[.pointer (some ⟨bp, 2, none⟩)] w fun e w' => e = .returned (bstr l) ∧ Below n1 w w' := by
  obtain ⟨ap, v, hb, ha, hown, hl⟩ := h.ex
  have hUS := fun (W : World) (q : Option Addr) => Lib.run_unsafeString_none (P := Tryz.prog) W 212 3 9 q
  by_cases h0 : l = []
  · subst h0
    obtain rfl := hl.2 rfl
    have c1 : w.drew.cell? ⟨bp, 3, none⟩ = some (.slice none 0 0) := cell_of_block hb 3
    have hSD : (Builtin.unsafeSliceData_ #[177] 212 #[.slice none 0 0]).run Tryz.prog w.drew = .ok (.pointer none) w.drew := rfl
    clear hown hl ha h hb
    go_enter Tryz.func179, Tryz.ntmps179
    go_wp2_with fail
    go_region
    all_goals (go_wp2_with fail; go_ret; exact ⟨rfl, Below.drew (Below.refl n1 w)⟩)
  · have hl0 : l.length ≠ 0 := by simpa using h0
    obtain ⟨g, cap, cur, rfl, hbg, hg, hnc, hcm, hcs, htake⟩ : ∃ g cap cur, v = .slice (some ⟨g, 0, none⟩) l.length cap ∧ n1 ≤ g ∧ w.heap[g]? = some (.cells cur 5 (0, 0)) ∧ l.length ≤ cap ∧ cap ≤ maxLen ∧ cur.size = cap * 1 ∧ cur.toList.take (l.length * 1) = Lib.byteCells l := by
      rcases hown.2 with ⟨_, hz⟩ | ⟨g, cap, cur, hv, r⟩
      · exact absurd hz hl0
      · exact ⟨g, cap, cur, hv, r⟩
    have c1 : w.drew.cell? ⟨bp, 3, none⟩ = some (.slice (some ⟨g, 0, none⟩) l.length cap) := cell_of_block hb 3
    have hSD : (Builtin.unsafeSliceData_ #[177] 212 #[.slice (some ⟨g, 0, none⟩) l.length cap]).run Tryz.prog w.drew = .ok (.pointer (some ⟨g, 0, none⟩)) w.drew :=
      Lib.run_unsafeSliceData_row _ _ _ _ _ _ (by omega)
    have hUS : (Builtin.unsafeString_ #[212, 3] 9 #[.pointer (some ⟨g, 0, none⟩), .int .i64 l.length]).run Tryz.prog w.drew = .ok (.string ⟨l.toArray⟩) (w.drew.freeze ⟨g, 0, none⟩ l.length) := by
      refine Lib.run_unsafeString_row w.drew 212 3 9 5 Tryz.underlying212 u8cells g cur.size (by have hg' : w.drew.heap[g]? = some (.cells cur 5 (0, 0)) := hg; simp [World.shape?, hg']) l h0 (by omega) (by unfold maxLen at hcm; omega) ?_
      intro j x hx
      have := hown.cells (g := g) rfl j (.int .u8 x.toNat) (by simp [Lib.byteCells, hx])
      exact this
    clear hown hl ha h hb hg htake hcs hcm hnc hl0 h0
    go_enter Tryz.func179, Tryz.ntmps179
    go_wp2_with fail
    go_region
    all_goals (go_wp2_with fail; go_ret; exact ⟨rfl, Lib.below_freeze (Below.drew (Below.refl n1 w)) (p := ⟨g, 0, none⟩) hbg _⟩)
end Go.Proofs.YtjlfibhbfdckpaaGreatDoor

/- Flush: the painter whole; tell. -/
namespace Go.Proofs.YtjlfibhbfdckpaaGreatDoor
open Go.RowKit
attribute [local go_sem ↓] Go.wp_at_zero Go.wp_at_succ
/-- The painter, its screen (a copy of its own) and what it told: all that it changes lies from m0 on; its bytes from n1 on. -/
structure PaM (w : World) (m0 n1 bp po pc : Nat) (lb lc : Nat → Nat) (H : Nat) (P : Nat → Nat → Cel) (bs bg g N : Nat) (s : Rs) (l : List UInt8) : Prop where
  ex : ∃ t, PtM w bp po pc lb lc H P bs bg g N s t ∧ Tie s.B t
  bd : BdAt w bp n1 (.slice (some ⟨po, 0, none⟩) H pc) (.pointer (some ⟨bs, 0, none⟩)) l
  tab : Tabs w
  m2 : 2 ≤ m0
  po0 : po < m0
  lb0 : ∀ y, y < H → lb y < m0
  s0 : m0 ≤ bs ∧ bs < n1 ∧ bs ≠ bp
  g0 : m0 ≤ bg ∧ bg < n1 ∧ bg ≠ bp
  c0 : m0 ≤ g ∧ g < n1 ∧ g ≠ bp
  p0 : m0 ≤ bp
section
variable {w w' : World} {m0 n1 bp po pc : Nat} {lb lc : Nat → Nat} {H : Nat} {P : Nat → Nat → Cel} {bs bg g N : Nat} {s : Rs} {l : List UInt8}
theorem BdAt.keep {c0 c1 : Value} {F : Nat → Prop} (h : BdAt w bp n1 c0 c1 l) (k : Keep F w w') (hp : ¬ F bp) (hn : ∀ i, n1 ≤ i → ¬ F i) : BdAt w' bp n1 c0 c1 l := by
  obtain ⟨ap, v, hb, ha, hr, hl⟩ := h.ex
  have := h.lt
  have := h.le
  have := k.size
  exact ⟨⟨ap, v, (k.block bp (by omega) hp).trans hb, ha, orow_same hr (fun i hi => k.block i (hr.lt i hi).2 (hn i (hr.lt i hi).1)), hl⟩, h.lt, by omega⟩
theorem PaM.below (h : PaM w m0 n1 bp po pc lb lc H P bs bg g N s l) (hb : Below w.heap.size w w') : PaM w' m0 n1 bp po pc lb lc H P bs bg g N s l := by
  obtain ⟨t, pt, tie⟩ := h.ex
  exact ⟨⟨t, pt.below hb, tie⟩, h.bd.keep (Keep.below (fun _ => False) hb) (fun f => f) (fun _ _ f => f), h.tab.below hb, h.m2, h.po0, h.lb0, h.s0, h.g0, h.c0, h.p0⟩
theorem PcM.keep {W : Nat} {F : Nat → Prop} (h : PcM w po lb lc W H P) (k : Keep F w w') (hp : ¬ F po) (hl : ∀ y, y < H → ¬ F (lb y)) : PcM w' po lb lc W H P :=
  h.far (fun i hi hc => k.block i hi (by
    rcases hc with rfl | ⟨y, hy, rfl⟩
    · exact hp
    · exact hl y hy))
end
set_option maxHeartbeats 4000000 in
theorem qTell (m0 n1 bp po pc : Nat) (lb lc : Nat → Nat) (H : Nat) (P : Nat → Nat → Cel) (bs bg g N : Nat) (s : Rs) (l b : List UInt8) (w : World) (h : PaM w m0 n1 bp po pc lb lc H P bs bg g N s l) (ok : s.Ok) (hlen : l.length + b.length ≤ 1000000) (eW : (feedR s b).W = s.W) (eH : (feedR s b).H = s.H) :
    Calls Tryz.prog 198 #[.pointer (some ⟨bp, 0, none⟩), bstr b] w fun e w' => e = .returned (.tuple #[]) ∧ PaM w' m0 n1 bp po pc lb lc H P bs bg g N (feedR s b) (l ++ b) ∧ Below m0 w w' ∧ Alien (fun i => i = bp ∨ i = bs ∨ i = bg ∨ i = g) w w' := by
  have HH : Hid (PaM w m0 n1 bp po pc lb lc H P bs bg g N s l) := h
  have Hok : Hid (s.Ok ∧ l.length + b.length ≤ 1000000 ∧ (feedR s b).W = s.W ∧ (feedR s b).H = s.H) := ⟨ok, hlen, eW, eH⟩
  clear h ok hlen eW eH
  go_enter Tryz.func198, Tryz.ntmps198
  go_wp2_with fail
  go_at_call 215
  refine (qWrites bp n1 _ _ l b w HH.out.bd Hok.out.2.1).mono ?_
  rintro e w1 ⟨rfl, B1, K1, A1⟩
  have hm : n1 ≤ w.heap.size ∧ bp < n1 := ⟨HH.out.bd.le, HH.out.bd.lt⟩
  have H1 : Hid (∃ t, PtM w1 bp po pc lb lc H P bs bg g N s t ∧ Tie s.B t) := by
    obtain ⟨t, pt, tie⟩ := HH.out.ex
    obtain ⟨ap, v, hb, _⟩ := B1.ex
    have s0 := HH.out.s0
    have g0 := HH.out.g0
    have c0 := HH.out.c0
    have p0 := HH.out.p0
    have po0 := HH.out.po0
    refine ⟨t, ⟨cell_of_block hb 0, cell_of_block hb 1, pt.pic.keep K1 (by omega) (fun y hy => by have := HH.out.lb0 y hy; omega), pt.hs, pt.hpc, pt.scr.same (K1.block _ pt.scr.lt (by omega)) (K1.block _ pt.scr.gr.lt (by omega)) (K1.block _ pt.scr.gr.glt (by omega))⟩, tie⟩
  have T1 : Hid (Tabs w1) := by
    have := HH.out.m2
    have := HH.out.p0
    exact HH.out.tab.keep K1 (by omega) (by omega)
  have HB1 : Hid (BdAt w1 bp n1 (.slice (some ⟨po, 0, none⟩) H pc) (.pointer (some ⟨bs, 0, none⟩)) (l ++ b)) := B1
  have HK1 : Hid (Keep (fun i => i = bp ∨ n1 ≤ i) w w1) := K1
  have c1 : w1.cell? ⟨bp, 1, none⟩ = some (.pointer (some ⟨bs, 0, none⟩)) := by
    obtain ⟨t, pt, _⟩ := H1.out
    exact pt.c1
  have HA1 : Hid (Alien (fun i => i = bp) w w1) := A1
  clear B1 K1 hm A1
  go_wp2_with fail
  go_at_call 62
  obtain ⟨t, pt, tie⟩ := H1.out
  have s0 := HH.out.s0
  have g0 := HH.out.g0
  have k0 := HH.out.c0
  have m2 := HH.out.m2
  have p0 := HH.out.p0
  have po0 := HH.out.po0
  have n1l := HB1.out.lt
  refine (sFeed bs bg g N s t ⟨b.toArray⟩ w1 pt.scr Hok.out.1 T1.out tie (by omega) (by omega) (by omega) (by omega) (by omega) (by omega) (by have := Hok.out.2.1; show b.length ≤ _; omega)).mono ?_
  rintro e w2 ⟨rfl, ⟨t2, P2, tie2⟩, K2⟩
  have e2 : feedR s (⟨b.toArray⟩ : ByteArray).data.toList = feedR s b := by simp
  rw [e2] at P2 tie2
  have HF : Hid (PaM w2 m0 n1 bp po pc lb lc H P bs bg g N (feedR s b) (l ++ b) ∧ Below m0 w w2 ∧ Alien (fun i => i = bp ∨ i = bs ∨ i = bg ∨ i = g) w w2) := by
    have hb2 := HB1.out.keep K2 (by omega) (fun i hi => by omega)
    obtain ⟨ap, v, hbk, _⟩ := hb2.ex
    have hlb := HH.out.lb0
    refine ⟨⟨⟨t2, ⟨cell_of_block hbk 0, cell_of_block hbk 1, ?_, by rw [Hok.out.2.2.2]; exact pt.hs, pt.hpc, P2⟩, tie2⟩, hb2, T1.out.keep K2 (by omega) (by omega), m2, po0, hlb, s0, g0, k0, p0⟩, ?_, ?_⟩
    · rw [Hok.out.2.2.1]
      exact pt.pic.keep K2 (by omega) (fun y hy => by have := hlb y hy; omega)
    · have hle := HH.out.bd.le
      exact (HK1.out.toBelow (by omega) (fun i hi => by omega)).trans (K2.toBelow (by have := HK1.out.size; omega) (fun i hi => by omega))
    · intro i cs T fr hi hT hF
      have b1 := HA1.out i cs T fr hi hT (fun e => hF (.inl e))
      have hi0 : i < w.heap.size := (Array.getElem?_eq_some_iff.1 hi).1
      have hs := HK1.out.size
      exact (K2.block i (by omega) (fun e => hF (.inr e))).trans b1
  clear P2 K2 tie2 pt tie
  go_wp2_with fail
  go_end0
  exact ⟨rfl, HF.out⟩
end Go.Proofs.YtjlfibhbfdckpaaGreatDoor

/- Flush: isAll: have lines no other cell than this one. -/
namespace Go.Proofs.YtjlfibhbfdckpaaGreatDoor
open Go.RowKit
attribute [local go_sem ↓] Go.wp_at_zero Go.wp_at_succ
/-- Is a line all of one cell? -/
def oneB (P : Nat → Nat → Cel) (W : Nat) (c : Cel) (y : Nat) : Bool := (P 0 y).eqB c && decide (W ≤ alikeN P W 0 y)
theorem all_upto {f : Nat → Bool} {n k : Nat} (hk : k < n) (hf : f k = false) : (List.range n).all f = false := by
  cases h : (List.range n).all f with
  | false => rfl
  | true =>
    have := List.all_eq_true.1 h k (List.mem_range.2 hk)
    rw [hf] at this; cases this
theorem all_true {f : Nat → Bool} {n : Nat} (h : ∀ i, i < n → f i = true) : (List.range n).all f = true := List.all_eq_true.2 (fun i hi => h i (List.mem_range.1 hi))
theorem CelAt.drewN {w : World} {g o : Nat} {c : Cel} (h : CelAt w g o c) (n : Nat) : CelAt (w.drewN n) g o c := h.same rfl
set_option maxHeartbeats 4000000 in
theorem qIsAll (po off y0 n pc : Nat) (lb lc : Nat → Nat) (W H : Nat) (P : Nat → Nat → Cel) (c : Cel) (w : World) (h : PcM w po lb lc W H P) (hn : y0 + n = H) (hW : 1 ≤ W) (hW2 : W ≤ 1000) (hH : H ≤ 1000) (hoff : n = 0 ∨ off = y0) :
    Calls Tryz.prog 220 #[.slice (some ⟨po, off, none⟩) n pc, c.agg] w fun e w' => e = .returned (.bool (isAllB P W H y0 c)) ∧ Below w.heap.size w w' := by
  have HH : Hid (PcM w po lb lc W H P) := h
  have Hall : Hid (isAllB P W H y0 c = (List.range n).all (fun i => oneB P W c (y0 + i))) := by
    show isAllB P W H y0 c = _
    unfold isAllB
    rw [show H - y0 = n by omega]
    rfl
  clear h
  have Hoff : Hid (n = 0 ∨ off = y0) := hoff
  clear hoff
  obtain ⟨M, hM⟩ : ∃ M, w.heap.size = M := ⟨_, rfl⟩
  have HM : Hid (w.heap.size = M) := hM
  go_enter Tryz.func220, Tryz.ntmps220
  go_wp2_with fail
  have hA : ∃ wA, w.alloc (.cells #[.int .i32 c.r, .int .i64 c.p, .int .i64 c.n.f, .int .i64 c.n.b, .bool c.n.bo, .bool c.n.un, .bool c.n.re] 38) = wA ∧ Below w.heap.size w wA ∧ CelAt wA M 0 c ∧ wA.heap.size = M + 1 := by
    subst hM
    exact ⟨_, rfl, (Below.refl _ _).alloc (Nat.le_refl _) _, cel_new' w c c.p rfl _, by simp⟩
  obtain ⟨wA, hwA, belA, cA, zA⟩ := hA
  rw [hwA]
  have HA : Hid (Below w.heap.size w wA ∧ PcM wA po lb lc W H P) := ⟨belA, HH.out.below belA⟩
  have HcA : Hid (CelAt wA M 0 c) := cA
  clear hwA belA cA HH
  go_loopw [9] (fun vi wr => ∃ k : Nat, vi = .int .i64 k ∧ k ≤ n ∧ (∀ i, i < k → oneB P W c (y0 + i) = true) ∧ Below wA.heap.size wA wr) (fun vi _ => n - (intOf vi).toNat)
  case atStart => exact ⟨0, rfl, Nat.zero_le _, fun i hi => absurd hi (Nat.not_lt_zero _), Below.refl _ _⟩
  case round =>
    obtain ⟨k, rfl, hk, hr, hbw⟩ := hrel
    have HB : Hid (Below wA.heap.size wA wr) := hbw
    have HW : Hid (Below w.heap.size w wr ∧ PcM wr po lb lc W H P) := ⟨HA.out.1.trans (hbw.mono HA.out.1.size), HA.out.2.below hbw⟩
    have HcW : Hid (CelAt wr M 0 c) := HcA.out.below hbw (by omega)
    clear hbw HA HcA
    have Hr : Hid (∀ i, i < k → oneB P W c (y0 + i) = true) := hr
    clear hr
    by_cases hc : k < n
    · have hoff2 : y0 = off := by have := Hoff.out; omega
      subst hoff2
      have hc' : (k : Int) < (n : Int) := by omega
      have hW0 : (0 : Int) < (W : Int) := by omega
      have r0 := HW.out.2.row (y0 + k) (by omega)
      obtain ⟨a0, a1, a2, a3, a4, a5, a6⟩ := HW.out.2.cel (y0 + k) 0 (by omega) hW
      obtain ⟨b0, b1, b2, b3, b4, b5, b6⟩ := HcW.out
      have hne := fun w => cel_neq (P 0 (y0 + k)) c w
      simp only [Nat.zero_mul, Nat.zero_add] at a0 a1 a2 a3 a4 a5 a6 b0 b1 b2 b3 b4 b5 b6
      have HL : Hid (∀ q, Calls Tryz.prog 219 #[.slice (some ⟨lb (y0 + k), 0, none⟩) W (lc (y0 + k))] (wr.drewN q) fun e w' => e = .returned (.int .i64 (alikeN P W 0 (y0 + k) : Nat)) ∧ ∃ m, w' = (wr.drewN q).drewN m) := fun q => qAlike (lb (y0 + k)) 0 W (lc (y0 + k)) (fun i => P i (y0 + k)) (wr.drewN q) (fun i hi => by rw [Nat.zero_add]; exact (HW.out.2.cel (y0 + k) i (by omega) hi).drewN q) (by omega)
      have hal : alikeN P W 0 (y0 + k) ≤ W := by have := run_le (fun i => (P i (y0 + k)).eqB (P 0 (y0 + k))) (W - 0) 0; exact this
      obtain ⟨al, hal2⟩ : ∃ al, alikeN P W 0 (y0 + k) = al := ⟨_, rfl⟩
      have Hone : Hid (oneB P W c (y0 + k) = ((P 0 (y0 + k)).eqB c && decide (W ≤ al))) := by rw [← hal2]; rfl
      rw [hal2] at hal HL
      clear hal2
      cases he : (P 0 (y0 + k)).eqB c with
      | false =>
        have He : Hid (oneB P W c (y0 + k) = false) := by
          show _ = _
          rw [Hone.out, he]; rfl
        simp only [he, Bool.not_false] at hne
        clear he
        go_wp2_with fail
        go_quiet ((go_at_call 219; exact Calls.quiet_of (HL.out _)))
        go_wp2_with fail
        go_ret
        exact ⟨by rw [Hall.out, all_upto hc He.out]; rfl, by first | exact below_n HW.out.1 _ | (rw [← HM.out]; exact below_n HW.out.1 _)⟩
      | true =>
        simp only [he, Bool.not_true] at hne
        by_cases hl : al < W
        · have hl' : (al : Int) < (W : Int) := by omega
          have He : Hid (oneB P W c (y0 + k) = false) := by
            show _ = _
            rw [Hone.out, he, decide_eq_false (by omega)]; rfl
          clear he hl hal
          have hWn : 0 < W := hW
          go_wp2_with fail
          go_quiet ((go_at_call 219; exact Calls.quiet_of (HL.out _)))
          go_wp2_with fail
          go_ret
          exact ⟨by rw [Hall.out, all_upto hc He.out]; rfl, by first | exact below_n HW.out.1 _ | (rw [← HM.out]; exact below_n HW.out.1 _)⟩
        · have hl' : ¬ ((al : Int) < (W : Int)) := by omega
          have He : Hid (oneB P W c (y0 + k) = true) := by
            show _ = _
            rw [Hone.out, he, decide_eq_true (by omega)]; rfl
          clear he hl hal
          have hWn : 0 < W := hW
          go_wp2_with fail
          go_quiet ((go_at_call 219; exact Calls.quiet_of (HL.out _)))
          go_wp2_with fail
          go_roundw
          case rel => exact ⟨k + 1, by go_num, by omega, fun i hi => by
            by_cases e : i < k
            · exact Hr.out i e
            · rw [show i = k by omega]; exact He.out, below_n HB.out _⟩
          case measure => simp [intOf]; omega
    · have ek : k = n := by omega
      have Hek : Hid (k = n) := ek
      have hc' : ¬ ((k : Int) < (n : Int)) := by omega
      clear ek
      go_wp2_with fail
      go_ret
      exact ⟨by rw [Hall.out, all_true (fun i hi => Hr.out i (by rw [Hek.out]; exact hi))]; rfl, by first | exact HW.out.1 | (rw [← HM.out]; exact HW.out.1)⟩
end Go.Proofs.YtjlfibhbfdckpaaGreatDoor

/- Flush: eraser. -/
namespace Go.Proofs.YtjlfibhbfdckpaaGreatDoor
open Go.RowKit
attribute [local go_sem ↓] Go.wp_at_zero Go.wp_at_succ
theorem state_pen (s : Rs) (gb : Bool) (w : World) : (Instr.field 59 (stAgg s.W s.H s.x s.y s.pend s.pen s.top s.bot gb) 5).run Tryz.prog w = .ok s.pen.agg w := by kernel_rfl
set_option maxHeartbeats 4000000 in
set_option maxRecDepth 100000 in
theorem qEraser (bp po pc : Nat) (lb lc : Nat → Nat) (H : Nat) (P : Nat → Nat → Cel) (bs bg g N : Nat) (s : Rs) (t : Pt) (b : Int) (w : World) (h : PtM w bp po pc lb lc H P bs bg g N s t) :
    Calls Tryz.prog 200 #[.pointer (some ⟨bp, 0, none⟩), .int .i64 b] w fun e w' => e = .returned (eraserP s b).agg ∧ Below w.heap.size w w' := by
  have HH : Hid (PtM w bp po pc lb lc H P bs bg g N s t) := h
  have c1 := h.c1
  have zb := World.block_lt_of_cell? _ _ h.c0
  obtain ⟨M, hM⟩ : ∃ M, w.heap.size = M := ⟨_, rfl⟩
  have HM : Hid (w.heap.size = M) := hM
  clear h
  go_enter Tryz.func200, Tryz.ntmps200
  go_upto_region 1 with fail
  have hA : ∃ wA, w.alloc (.cells #[.int .i64 0, .int .i64 0, .bool false, .bool false, .bool false] 33) = wA ∧ Below w.heap.size w wA ∧ wA.heap[M]? = some (.cells #[.int .i64 0, .int .i64 0, .bool false, .bool false, .bool false] 33) ∧ wA.heap.size = M + 1 := by
    subst hM
    exact ⟨_, rfl, (Below.refl _ _).alloc (Nat.le_refl _) _, heap_new _ _, by simp⟩
  obtain ⟨wA, hwA, belA, bA, zA⟩ := hA
  rw [hwA]
  have c1' : wA.cell? ⟨bp, 1, none⟩ = some (.pointer (some ⟨bs, 0, none⟩)) := (belA.cells (b := bp) zb 1).trans c1
  have HPA : Hid (PrAt wA bs bg g N s t) := HH.out.scr.below belA
  have HA : Hid (Below w.heap.size w wA) := belA
  have HbA : Hid (wA.heap[M]? = some (.cells #[.int .i64 0, .int .i64 0, .bool false, .bool false, .bool false] 33)) := bA
  clear hwA belA bA c1
  go_wp2_with fail
  go_at_call 63
  refine (sState bs bg g N s t wA HPA.out).mono ?_
  rintro e w1 ⟨rfl, hb1⟩
  have HB1 : Hid (Below w.heap.size w w1) := HA.out.trans (hb1.mono HA.out.size)
  have b1 : w1.heap[M]? = some (.cells #[.int .i64 0, .int .i64 0, .bool false, .bool false, .bool false] 33) := (hb1.block M (by omega)).trans HbA.out
  have z1 : M < w1.heap.size := by have := hb1.size; omega
  clear hb1 HPA HA HbA c1'
  generalize (decide (t.mode = 0) && decide (t.bn = 0)) = gb at *
  have Hb1 : Hid (w1.heap[M]? = some (.cells #[.int .i64 0, .int .i64 0, .bool false, .bool false, .bool false] 33)) := b1
  clear b1
  have hsp := state_pen s gb
  go_upto_region 2 with fail
  have hB : ∃ wB D, w1.alloc (.cells #[.int .i64 s.pen.f, .int .i64 s.pen.b, .bool s.pen.bo, .bool s.pen.un, .bool s.pen.re] 33) = wB ∧ w1.heap.size = D ∧ Below w.heap.size w wB ∧ wB.heap[M]? = some (.cells #[.int .i64 0, .int .i64 0, .bool false, .bool false, .bool false] 33) ∧ wB.heap[D]? = some (.cells #[.int .i64 s.pen.f, .int .i64 s.pen.b, .bool s.pen.bo, .bool s.pen.un, .bool s.pen.re] 33) := ⟨_, _, rfl, rfl, HB1.out.alloc HB1.out.size _, (heap_next _ _ z1).trans Hb1.out, heap_new _ _⟩
  obtain ⟨wB, D, hwB, hD, belB, bM, bD⟩ := hB
  rw [hwB, hD]
  have hMD : M < D := by omega
  have fr : ∀ o, wB.frozen? ⟨D, o, none⟩ = false := frozen_of_block bD
  have k1 : wB.cell? ⟨D, 1, none⟩ = some (.int .i64 s.pen.b) := cell_of_block bD 1
  have HB : Hid (Below w.heap.size w wB ∧ wB.heap[M]? = some (.cells #[.int .i64 0, .int .i64 0, .bool false, .bool false, .bool false] 33) ∧ wB.heap[D]? = some (.cells #[.int .i64 s.pen.f, .int .i64 s.pen.b, .bool s.pen.bo, .bool s.pen.un, .bool s.pen.re] 33)) := ⟨belB, bM, bD⟩
  clear hwB hD belB bM bD HB1 Hb1 z1
  go_upto_region 3 with fail
  have hC : ∃ wC, wB.setCell ⟨D, 1, none⟩ (.int .i64 b) = wC ∧ Below w.heap.size w wC ∧ wC.heap[M]? = some (.cells #[.int .i64 0, .int .i64 0, .bool false, .bool false, .bool false] 33) ∧ wC.heap[D]? = some (.cells #[.int .i64 s.pen.f, .int .i64 b, .bool s.pen.bo, .bool s.pen.un, .bool s.pen.re] 33) := by
    have k := (Keep.refl (fun i => i = D) wB).setCell ⟨D, 1, none⟩ (.int .i64 b) (fun _ => rfl)
    have zM := (Array.getElem?_eq_some_iff.1 HB.out.2.1).1
    refine ⟨_, rfl, HB.out.1.trans (k.toBelow HB.out.1.size (fun i hi e => by have := HM.out; omega)), (k.block M zM (by omega)).trans HB.out.2.1, ?_⟩
    have := heap_set_same HB.out.2.2 1 (.int .i64 b)
    exact this
  obtain ⟨wC, hwC, belC, bM, bD⟩ := hC
  rw [hwC]
  have HC : Hid (Below w.heap.size w wC ∧ wC.heap[M]? = some (.cells #[.int .i64 0, .int .i64 0, .bool false, .bool false, .bool false] 33)) := ⟨belC, bM⟩
  clear fr k1
  have fr : ∀ o, wC.frozen? ⟨M, o, none⟩ = false := frozen_of_block bM
  have d0 : wC.cell? ⟨D, 0, none⟩ = some (.int .i64 s.pen.f) := cell_of_block bD 0
  have d1 : wC.cell? ⟨D, 1, none⟩ = some (.int .i64 b) := cell_of_block bD 1
  have d2 : wC.cell? ⟨D, 2, none⟩ = some (.bool s.pen.bo) := cell_of_block bD 2
  have d3 : wC.cell? ⟨D, 3, none⟩ = some (.bool s.pen.un) := cell_of_block bD 3
  have d4 : wC.cell? ⟨D, 4, none⟩ = some (.bool s.pen.re) := cell_of_block bD 4
  have k0 : wC.cell? ⟨M, 0, none⟩ = some (.int .i64 0) := cell_of_block bM 0
  have k1 : wC.cell? ⟨M, 1, none⟩ = some (.int .i64 0) := cell_of_block bM 1
  have k2 : wC.cell? ⟨M, 2, none⟩ = some (.bool false) := cell_of_block bM 2
  have k3 : wC.cell? ⟨M, 3, none⟩ = some (.bool false) := cell_of_block bM 3
  have k4 : wC.cell? ⟨M, 4, none⟩ = some (.bool false) := cell_of_block bM 4
  clear hwC belC bM bD HB
  go_wp2_with fail
  have hE : ∃ wE, ((((wC.setCell ⟨M, 0, none⟩ (.int .i64 s.pen.f)).setCell ⟨M, 1, none⟩ (.int .i64 b)).setCell ⟨M, 2, none⟩ (.bool s.pen.bo)).setCell ⟨M, 3, none⟩ (.bool s.pen.un)).setCell ⟨M, 4, none⟩ (.bool s.pen.re) = wE ∧ Below w.heap.size w wE ∧ wE.heap[M]? = some (.cells #[.int .i64 s.pen.f, .int .i64 b, .bool s.pen.bo, .bool s.pen.un, .bool s.pen.re] 33) := by
    have k := (((((Keep.refl (fun i => i = M) wC).setCell ⟨M, 0, none⟩ (.int .i64 s.pen.f) (fun _ => rfl)).setCell ⟨M, 1, none⟩ (.int .i64 b) (fun _ => rfl)).setCell ⟨M, 2, none⟩ (.bool s.pen.bo) (fun _ => rfl)).setCell ⟨M, 3, none⟩ (.bool s.pen.un) (fun _ => rfl)).setCell ⟨M, 4, none⟩ (.bool s.pen.re) (fun _ => rfl)
    refine ⟨_, rfl, HC.out.1.trans (k.toBelow HC.out.1.size (fun i hi e => by have := HM.out; omega)), ?_⟩
    have := heap_set_same (heap_set_same (heap_set_same (heap_set_same (heap_set_same HC.out.2 0 (.int .i64 s.pen.f)) 1 (.int .i64 b)) 2 (.bool s.pen.bo)) 3 (.bool s.pen.un)) 4 (.bool s.pen.re)
    exact this
  obtain ⟨wE, hwE, belE, bE⟩ := hE
  rw [hwE]
  clear hwE k0 k1 k2 k3 k4 d0 d1 d2 d3 d4 fr
  have k0 : wE.cell? ⟨M, 0, none⟩ = some (.int .i64 s.pen.f) := cell_of_block bE 0
  have k1 : wE.cell? ⟨M, 1, none⟩ = some (.int .i64 b) := cell_of_block bE 1
  have k2 : wE.cell? ⟨M, 2, none⟩ = some (.bool s.pen.bo) := cell_of_block bE 2
  have k3 : wE.cell? ⟨M, 3, none⟩ = some (.bool s.pen.un) := cell_of_block bE 3
  have k4 : wE.cell? ⟨M, 4, none⟩ = some (.bool s.pen.re) := cell_of_block bE 4
  clear bE
  exact bodyPost_ret (v := (.agg #[.int .i64 s.pen.f, .int .i64 b, .bool s.pen.bo, .bool s.pen.un, .bool s.pen.re])) (by simp [results, Tryz.results200, go_sem, k0, k1, k2, k3, k4]) rfl ⟨rfl, belE⟩
end Go.Proofs.YtjlfibhbfdckpaaGreatDoor

/- Flush: scroll. -/
namespace Go.Proofs.YtjlfibhbfdckpaaGreatDoor
open Go.RowKit
attribute [local go_sem ↓] Go.wp_at_zero Go.wp_at_succ
theorem eraser_ok {s : Rs} (h : s.Fl) {b : Int} (h0 : 0 ≤ b) (h1 : b ≤ 8) : (eraserP s b).Ok := ⟨h.pen.1, h.pen.2.1, h0, h1⟩
set_option maxHeartbeats 4000000 in
set_option maxRecDepth 100000 in
theorem qScroll (m0 n1 bp po pc : Nat) (lb lc : Nat → Nat) (H : Nat) (P : Nat → Nat → Cel) (bs bg g N : Nat) (s : Rs) (l : List UInt8) (n : Int) (w : World) (h : PaM w m0 n1 bp po pc lb lc H P bs bg g N s l) (fl : s.Fl) (n0 : n ≠ 0) (na : -100 < n) (nb : n < 100) (hlen : l.length ≤ 900000) :
    Calls Tryz.prog 176 #[.pointer (some ⟨bp, 0, none⟩), .int .i64 n] w fun e w' => e = .returned (.tuple #[]) ∧ PaM w' m0 n1 bp po pc lb lc H P bs bg g N (feedR s (scrollL s n)) (l ++ scrollL s n) ∧ Below m0 w w' := by
  have HH : Hid (PaM w m0 n1 bp po pc lb lc H P bs bg g N s l) := h
  have hsl := scroll_len fl na nb
  have hdef : scrollL s n = penL s.pen (eraserP s 0) ++ alongL n 83 84 := rfl
  have hok := eraser_ok fl (b := 0) (by omega) (by omega)
  have hf1 := feed_pen fl.B hok
  have hf2 := scrolled fl n0 na nb
  obtain ⟨t, pt, tie⟩ := h.ex
  have Hm : Hid (m0 ≤ w.heap.size) := by
    have := h.bd.le; have := h.bd.lt; have := h.p0
    show _ ≤ _
    omega
  have c1 := pt.c1
  have HP : Hid (PtM w bp po pc lb lc H P bs bg g N s t) := pt
  obtain ⟨pl, hpl⟩ : ∃ pl, penL s.pen (eraserP s 0) = pl := ⟨_, rfl⟩
  obtain ⟨al, hal⟩ : ∃ al, alongL n 83 84 = al := ⟨_, rfl⟩
  rw [hdef, hpl, hal] at hsl hf2
  rw [hpl] at hf1
  rw [hdef, hpl, hal]
  have Hpl : Hid (penL s.pen (eraserP s 0) = pl) := hpl
  have Hal : Hid (alongL n 83 84 = al) := hal
  have Hl : Hid (pl.length + al.length ≤ 10 ∧ l.length ≤ 900000) := ⟨by rw [List.length_append] at hsl; exact hsl, hlen⟩
  have Hf1 : Hid (feedR s pl = { s with pen := eraserP s 0 }) := hf1
  have Hf2 : Hid (feedR s (pl ++ al) = { s with pen := eraserP s 0, G := scrollG s.top s.bot n Pn.plain s.G }) := hf2
  have Hok : Hid (s.Fl ∧ (eraserP s 0).Ok) := ⟨fl, hok⟩
  clear h hsl hdef hok hf1 hf2 pt tie hpl hal hlen fl
  go_enter Tryz.func176, Tryz.ntmps176
  go_wp2_with fail
  go_at_call 63
  refine (sState bs bg g N s t w HP.out.scr).mono ?_
  rintro e w1 ⟨rfl, hb1⟩
  generalize (decide (t.mode = 0) && decide (t.bn = 0)) = gb at *
  have hsp := state_pen s gb
  have HB1 : Hid (Below w.heap.size w w1) := hb1
  clear hb1 c1
  go_wp2_with fail
  go_at_call 200
  refine (qEraser bp po pc lb lc H P bs bg g N s t 0 w1 (HP.out.below HB1.out)).mono ?_
  rintro e w2 ⟨rfl, hb2⟩
  have HB2 : Hid (Below w.heap.size w w2) := HB1.out.trans (hb2.mono HB1.out.size)
  clear hb2 HB1 hsp
  go_wp2_with fail
  go_at_call 199
  refine (qPenChange s.pen (eraserP s 0) w2 Hok.out.2).mono ?_
  rw [Hpl.out]
  rintro e w3 ⟨rfl, hb3⟩
  have HB3 : Hid (Below w.heap.size w w3) := HB2.out.trans (hb3.mono HB2.out.size)
  clear hb3 HB2
  go_wp2_with fail
  go_at_call 198
  refine (qTell m0 n1 bp po pc lb lc H P bs bg g N s l pl w3 (HH.out.below HB3.out) Hok.out.1.ok (by have := Hl.out; omega) (by rw [Hf1.out]) (by rw [Hf1.out])).mono ?_
  rintro e w4 ⟨rfl, P4, hb4, _⟩
  have HP4 : Hid (PaM w4 m0 n1 bp po pc lb lc H P bs bg g N (feedR s pl) (l ++ pl) ∧ Below m0 w w4) := ⟨P4, (HB3.out.mono Hm.out).trans hb4⟩
  clear P4 hb4 HB3
  go_wp2_with fail
  go_at_call 201
  refine (qAlong n 83 84 w4 na nb).mono ?_
  rw [Hal.out]
  rintro e w5 ⟨rfl, hb5⟩
  have HP5 : Hid (PaM w5 m0 n1 bp po pc lb lc H P bs bg g N (feedR s pl) (l ++ pl) ∧ Below m0 w w5) := ⟨HP4.out.1.below hb5, HP4.out.2.trans (hb5.mono (by
    have := HP4.out.1.bd.le; have := HP4.out.1.bd.lt; have := HP4.out.1.p0; omega))⟩
  clear hb5 HP4
  go_wp2_with fail
  go_at_call 198
  refine (qTell m0 n1 bp po pc lb lc H P bs bg g N (feedR s pl) (l ++ pl) al w5 HP5.out.1 (feedOk pl Hok.out.1.ok) (by have := Hl.out; rw [List.length_append]; omega) (by rw [← feed_app, Hf2.out, Hf1.out]) (by rw [← feed_app, Hf2.out, Hf1.out])).mono ?_
  rintro e w6 ⟨rfl, P6, hb6, _⟩
  rw [← feed_app, List.append_assoc] at P6
  have HP6 : Hid (PaM w6 m0 n1 bp po pc lb lc H P bs bg g N (feedR s (pl ++ al)) (l ++ (pl ++ al)) ∧ Below m0 w w6) := ⟨P6, HP5.out.2.trans hb6⟩
  clear P6 hb6
  go_wp2_with fail
  go_end0
  exact ⟨rfl, HP6.out⟩
end Go.Proofs.YtjlfibhbfdckpaaGreatDoor
