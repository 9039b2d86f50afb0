/- Texts of the proof, one behind the other: PuL, PuM, PuN, FwO. -/
import Derived.Test.YtjlfibhbfdckpaaGreatDoorK10
import Derived.Test.YtjlfibhbfdckpaaGreatDoorK21
import Derived.Test.YtjlfibhbfdckpaaGreatDoorK27
import Derived.Deep.RegionHeld3
/- The program's screen: a byte comes, behind those of a letter; Feed. -/
namespace Go.Proofs.YtjlfibhbfdckpaaGreatDoor
open Go.RowKit Go.Lib
attribute [local go_sem ↓] Go.wp_at_zero Go.wp_at_succ
section
variable {w : World} {bs bg g N : Nat} {s : Rs} {t : Pt}
theorem addT_far (t : Pt) (c : Int) {n i : Nat} (h : i ≠ n) : (addT t n c).by4 i = t.by4 i := if_neg h
theorem addT_self (t : Pt) (n : Nat) (c : Int) : (addT t n c).by4 n = c := if_pos rfl
theorem sLet1 (a c : UInt8) (h : PrAt w bs bg g N s t) (ok : s.Ok) (T : Tabs w) (hm : t.mode = 0) (hn : t.bn = 1) (b0 : t.by4 0 = a.toNat) (a1 : 194 ≤ a.toNat) (a2 : a.toNat ≤ 244) (n0 : ¬ bs = 0) (n1 : ¬ bs = 1) (m0 : ¬ bg = 0) (m1 : ¬ bg = 1) (k0 : ¬ g = 0) (k1 : ¬ g = 1) :
    Calls Tryz.prog 161 #[.pointer (some ⟨bs, 0, none⟩), .int .u8 c.toNat] w (TPost bs bg g N w (letR s a [] c)) := by
  have hne : ¬ t.bn = 0 := by omega
  have q := longR_val a.toNat
  unfold letR
  cases hg : goesOnB (a :: []) c.toNat with
  | false =>
    rw [if_pos rfl]
    exact sGroundR { addT t 1 c.toNat with bn := 0 } c ((h.noB _).noO) ((ok.setB _).odd) T rfl hne hm rfl (sGoesOnRef bs bg g N _ _ c.toNat w (lAdd2bad a c ((h.noB _).noO) T n0 n1 hn b0 a1 a2 hg)) n0 n1 m0 m1 k0 k1
  | true =>
    rw [if_neg (by decide)]
    have hlo : lowR a.toNat ≤ c.toNat := by simp [goesOnB] at hg; exact hg.1
    have hhi : (c.toNat : Int) ≤ highR a.toNat := by simp [goesOnB] at hg; exact hg.2
    by_cases hl : longR a.toNat = 2
    · rw [if_pos (show longR a.toNat = ((([] : List UInt8).length + 2 : Nat) : Int) from hl)]
      exact call_tp (sGrOn bs bg g N { s with B := ⟨#[]⟩ } _ t _ c.toNat w (h.noB _) hne (sGoesOnDone bs bg g N { s with B := ⟨#[]⟩ } _ c.toNat _ w (ok.setB _) (lAdd2done a c (h.noB _) T n0 n1 hn b0 a1 a2 hg hl))) rfl rfl rfl rfl (by rw [put_B]; exact tie0 hm rfl)
    · rw [if_neg (show ¬ longR a.toNat = ((([] : List UInt8).length + 2 : Nat) : Int) from hl)]
      exact call_tp (sGrOn bs bg g N s _ t _ c.toNat w h hne (sGoesOnOpen bs bg g N s _ c.toNat w (lAdd2open a c h T n0 n1 hn b0 a1 a2 hg hl))) rfl rfl rfl rfl (.inr (.inr (.inr (.inr (.inl ⟨a, c, rfl, hm, by show (1 : Int) + 1 = 2; rfl, (addT_far _ _ (by decide)).trans b0, addT_self _ _ _, by omega, a2, hlo, hhi⟩)))))
theorem sLet2 (a b c : UInt8) (h : PrAt w bs bg g N s t) (ok : s.Ok) (T : Tabs w) (hm : t.mode = 0) (hn : t.bn = 2) (b0 : t.by4 0 = a.toNat) (b1 : t.by4 1 = b.toNat) (a1 : 224 ≤ a.toNat) (a2 : a.toNat ≤ 244) (hb1 : lowR a.toNat ≤ b.toNat) (hb2 : (b.toNat : Int) ≤ highR a.toNat) (n0 : ¬ bs = 0) (n1 : ¬ bs = 1) (m0 : ¬ bg = 0) (m1 : ¬ bg = 1) (k0 : ¬ g = 0) (k1 : ¬ g = 1) :
    Calls Tryz.prog 161 #[.pointer (some ⟨bs, 0, none⟩), .int .u8 c.toNat] w (TPost bs bg g N w (letR s a [b] c)) := by
  have hne : ¬ t.bn = 0 := by omega
  have q := longR_val a.toNat
  have gdef : goesOnB (a :: [b]) c.toNat = (decide (128 ≤ (c.toNat : Int)) && decide ((c.toNat : Int) ≤ 191)) := rfl
  unfold letR
  cases hg : goesOnB (a :: [b]) c.toNat with
  | false =>
    rw [if_pos rfl]
    have hgn : c.toNat < 128 ∨ 191 < c.toNat := by rw [gdef] at hg; simp at hg; omega
    exact sGroundR { addT t 2 c.toNat with bn := 0 } c ((h.noB _).noO) ((ok.setB _).odd) T rfl hne hm rfl (sGoesOnRef bs bg g N _ _ c.toNat w (lAdd3bad a b c ((h.noB _).noO) T n0 n1 hn b0 b1 a1 a2 hb1 hb2 hgn)) n0 n1 m0 m1 k0 k1
  | true =>
    rw [if_neg (by decide)]
    have hgy : 128 ≤ c.toNat ∧ c.toNat ≤ 191 := by rw [gdef] at hg; simp at hg; omega
    by_cases hl : longR a.toNat = 3
    · rw [if_pos (show longR a.toNat = ((([b] : List UInt8).length + 2 : Nat) : Int) from hl)]
      exact call_tp (sGrOn bs bg g N { s with B := ⟨#[]⟩ } _ t _ c.toNat w (h.noB _) hne (sGoesOnDone bs bg g N { s with B := ⟨#[]⟩ } _ c.toNat _ w (ok.setB _) (lAdd3done a b c (h.noB _) T n0 n1 hn b0 b1 a1 a2 hb1 hb2 hgy hl))) rfl rfl rfl rfl (by rw [put_B]; exact tie0 hm rfl)
    · rw [if_neg (show ¬ longR a.toNat = ((([b] : List UInt8).length + 2 : Nat) : Int) from hl)]
      exact call_tp (sGrOn bs bg g N s _ t _ c.toNat w h hne (sGoesOnOpen bs bg g N s _ c.toNat w (lAdd3open a b c h T n0 n1 hn b0 b1 a1 a2 hb1 hb2 hgy hl))) rfl rfl rfl rfl (.inr (.inr (.inr (.inr (.inr ⟨a, b, c, rfl, hm, by show (2 : Int) + 1 = 3; rfl, (addT_far _ _ (by decide)).trans b0, (addT_far _ _ (by decide)).trans b1, addT_self _ _ _, by omega, a2, hb1, hb2, hgy.1, hgy.2⟩)))))
theorem sLet3 (a b d c : UInt8) (h : PrAt w bs bg g N s t) (ok : s.Ok) (T : Tabs w) (hm : t.mode = 0) (hn : t.bn = 3) (b0 : t.by4 0 = a.toNat) (b1 : t.by4 1 = b.toNat) (b2 : t.by4 2 = d.toNat) (a1 : 240 ≤ a.toNat) (a2 : a.toNat ≤ 244) (hb1 : lowR a.toNat ≤ b.toNat) (hb2 : (b.toNat : Int) ≤ highR a.toNat) (hd : 128 ≤ d.toNat ∧ d.toNat ≤ 191) (n0 : ¬ bs = 0) (n1 : ¬ bs = 1) (m0 : ¬ bg = 0) (m1 : ¬ bg = 1) (k0 : ¬ g = 0) (k1 : ¬ g = 1) :
    Calls Tryz.prog 161 #[.pointer (some ⟨bs, 0, none⟩), .int .u8 c.toNat] w (TPost bs bg g N w (letR s a [b, d] c)) := by
  have hne : ¬ t.bn = 0 := by omega
  have q := longR_val a.toNat
  have gdef : goesOnB (a :: [b, d]) c.toNat = (decide (128 ≤ (c.toNat : Int)) && decide ((c.toNat : Int) ≤ 191)) := rfl
  unfold letR
  cases hg : goesOnB (a :: [b, d]) c.toNat with
  | false =>
    rw [if_pos rfl]
    have hgn : c.toNat < 128 ∨ 191 < c.toNat := by rw [gdef] at hg; simp at hg; omega
    exact sGroundR { addT t 3 c.toNat with bn := 0 } c ((h.noB _).noO) ((ok.setB _).odd) T rfl hne hm rfl (sGoesOnRef bs bg g N _ _ c.toNat w (lAdd4bad a b d c ((h.noB _).noO) T n0 n1 hn b0 b1 b2 a1 a2 hb1 hb2 hd hgn)) n0 n1 m0 m1 k0 k1
  | true =>
    rw [if_neg (by decide)]
    have hgy : 128 ≤ c.toNat ∧ c.toNat ≤ 191 := by rw [gdef] at hg; simp at hg; omega
    have hl : longR a.toNat = 4 := by omega
    rw [if_pos (show longR a.toNat = ((([b, d] : List UInt8).length + 2 : Nat) : Int) from hl)]
    exact call_tp (sGrOn bs bg g N { s with B := ⟨#[]⟩ } _ t _ c.toNat w (h.noB _) hne (sGoesOnDone bs bg g N { s with B := ⟨#[]⟩ } _ c.toNat _ w (ok.setB _) (lAdd4done a b d c (h.noB _) T n0 n1 hn b0 b1 b2 a1 a2 hb1 hb2 hd hgy))) rfl rfl rfl rfl (by rw [put_B]; exact tie0 hm rfl)
theorem sTake (c : UInt8) (h : PrAt w bs bg g N s t) (ok : s.Ok) (T : Tabs w) (tie : Tie s.B t) (n0 : ¬ bs = 0) (n1 : ¬ bs = 1) (m0 : ¬ bg = 0) (m1 : ¬ bg = 1) (k0 : ¬ g = 0) (k1 : ¬ g = 1) :
    Calls Tryz.prog 125 #[.pointer (some ⟨bs, 0, none⟩), .int .u8 c.toNat] w (TPost bs bg g N w (oneR s c)) := by
  unfold oneR
  rcases tie with ⟨e, hm, h0⟩ | ⟨e, hm, h0⟩ | ⟨l, e, hm, h0, hs⟩ | ⟨a, e, hm, h0, b0, a1, a2⟩ | ⟨a, b, e, hm, h0, b0, b1, a1, a2, l1, l2⟩ | ⟨a, b, d, e, hm, h0, b0, b1, b2, a1, a2, l1, l2, d1, d2⟩
  · rw [e]
    exact sTakeG bs bg g N s _ t c.toNat w h hm (sGroundE c h ok T e hm h0 n0 n1 m0 m1 k0 k1)
  · rw [e]
    exact sTakeE bs bg g N s _ t c.toNat w h hm (sEscB c h e hm h0)
  · rw [e]
    exact sTakeS bs bg g N s _ t c.toNat w h hm (sSeqB l c h ok hm h0 hs)
  · have hne : a ≠ 27 := fun q => by rw [q] at a1; exact absurd a1 (by decide)
    rw [e]
    show Calls _ _ _ _ (TPost bs bg g N w (if a = 27 then _ else letR s a [] c))
    rw [if_neg hne]
    exact sTakeG bs bg g N s _ t c.toNat w h hm (sLet1 a c h ok T hm h0 b0 a1 a2 n0 n1 m0 m1 k0 k1)
  · have hne : a ≠ 27 := fun q => by rw [q] at a1; exact absurd a1 (by decide)
    rw [e]
    show Calls _ _ _ _ (TPost bs bg g N w (if a = 27 then _ else letR s a [b] c))
    rw [if_neg hne]
    exact sTakeG bs bg g N s _ t c.toNat w h hm (sLet2 a b c h ok T hm h0 b0 b1 a1 a2 l1 l2 n0 n1 m0 m1 k0 k1)
  · have hne : a ≠ 27 := fun q => by rw [q] at a1; exact absurd a1 (by decide)
    rw [e]
    show Calls _ _ _ _ (TPost bs bg g N w (if a = 27 then _ else letR s a [b, d] c))
    rw [if_neg hne]
    exact sTakeG bs bg g N s _ t c.toNat w h hm (sLet3 a b d c h ok T hm h0 b0 b1 b2 a1 a2 l1 l2 ⟨d1, d2⟩ n0 n1 m0 m1 k0 k1)
end
end Go.Proofs.YtjlfibhbfdckpaaGreatDoor

/- The program's screen: Feed. -/
namespace Go.Proofs.YtjlfibhbfdckpaaGreatDoor
open Go.RowKit
attribute [local go_sem ↓] Go.wp_at_zero Go.wp_at_succ
set_option maxHeartbeats 2000000 in
theorem sFeed (bs bg g N : Nat) (s : Rs) (t : Pt) (b : ByteArray) (w : World) (h : PrAt w bs bg g N s t) (ok : s.Ok) (T : Tabs w) (tie : Tie s.B t) (n0 : ¬ bs = 0) (n1 : ¬ bs = 1) (m0 : ¬ bg = 0) (m1 : ¬ bg = 1) (k0 : ¬ g = 0) (k1 : ¬ g = 1) (hb : b.size ≤ 9223372036854775807) :
    Calls Tryz.prog 62 #[.pointer (some ⟨bs, 0, none⟩), .string b] w (TPost bs bg g N w (feedR s b.data.toList)) := by
  have HP : Hid (∃ t, PrAt w bs bg g N s t ∧ Tie s.B t) := ⟨t, h, tie⟩
  have Hok : Hid s.Ok := ok
  have HT : Hid (Tabs w) := T
  clear h ok tie T
  go_enter Tryz.func62, Tryz.ntmps62
  go_wp2_with fail
  go_loopw [7] (fun i w' => ∃ k : Nat, k ≤ b.size ∧ i = .int .i64 k ∧ (∃ t, PrAt w' bs bg g N (feedR s (b.data.toList.take k)) t ∧ Tie (feedR s (b.data.toList.take k)).B t) ∧ Keep (fun i => i = bs ∨ i = bg ∨ i = g) w w' ∧ (feedR s (b.data.toList.take k)).Ok) (fun i _ => b.size - (intOf i).toNat)
  case atStart => exact ⟨0, by omega, rfl, HP.out, Keep.refl _ _, Hok.out⟩
  case round =>
    obtain ⟨k, hk, rfl, hR, hK, hO⟩ := hrel
    have HR5 : Hid (∃ t, PrAt wr bs bg g N (feedR s (b.data.toList.take k)) t ∧ Tie (feedR s (b.data.toList.take k)).B t) := hR
    have HO5 : Hid (feedR s (b.data.toList.take k)).Ok := hO
    have HK5 : Hid (Keep (fun i => i = bs ∨ i = bg ∨ i = g) w wr) := hK
    clear hR hO hK HP Hok
    by_cases hlt : k < b.size
    · have hnx : feedR s (b.data.toList.take (k + 1)) = oneR (feedR s (b.data.toList.take k)) b[k] := by
        unfold feedR
        rw [take_snoc b k hlt, List.foldl_append]; rfl
      have Hnx : Hid (feedR s (b.data.toList.take (k + 1)) = oneR (feedR s (b.data.toList.take k)) b[k]) := hnx
      clear hnx
      have hlt' : (k : Int) < (b.size : Int) := by omega
      go_wp2_with fail
      go_at_call 125
      obtain ⟨t5, P5, T5⟩ := HR5.out
      refine (sTake b[k] P5 HO5.out (HT.out.keep HK5.out (by omega) (by omega)) T5 n0 n1 m0 m1 k0 k1).mono ?_
      rintro e w6 ⟨rfl, R6, K6⟩
      have HR6 : Hid (∃ t, PrAt w6 bs bg g N (feedR s (b.data.toList.take (k + 1))) t ∧ Tie (feedR s (b.data.toList.take (k + 1))).B t) := by
        show ∃ t, PrAt w6 bs bg g N (feedR s (b.data.toList.take (k + 1))) t ∧ Tie (feedR s (b.data.toList.take (k + 1))).B t
        rw [Hnx.out]; exact R6
      have HK6 : Hid (Keep (fun i => i = bs ∨ i = bg ∨ i = g) w w6) := HK5.out.trans K6 (fun _ _ h => h)
      have HO6 : Hid (feedR s (b.data.toList.take (k + 1))).Ok := by show (feedR s (b.data.toList.take (k + 1))).Ok; rw [Hnx.out]; exact HO5.out.one _
      clear R6 K6 P5 T5
      go_wp2_with fail
      exact ⟨⟨k + 1, by omega, by simp, HR6.out, HK6.out, HO6.out⟩, by simp only [intOf]; omega⟩
    · have hke : Hid (b.data.toList.take k = b.data.toList) := List.take_of_length_le (by show b.size ≤ k; omega)
      have hlt' : (b.size : Int) ≤ (k : Int) := by omega
      go_wp2_with fail
      go_end0
      have q := HR5.out
      rw [hke.out] at q
      exact ⟨rfl, q, HK5.out⟩
end Go.Proofs.YtjlfibhbfdckpaaGreatDoor

/- The program's screen: New, Has, Cell, State, Resize. -/
namespace Go.Proofs.YtjlfibhbfdckpaaGreatDoor
open Go.RowKit
attribute [local go_sem ↓] Go.wp_at_zero Go.wp_at_succ
theorem sHas (bs bg g N : Nat) (s : Rs) (t : Pt) (x y : Int) (w : World) (h : PrAt w bs bg g N s t) :
    Calls Tryz.prog 121 #[.pointer (some ⟨bs, 0, none⟩), .int .i64 x, .int .i64 y] w fun e w' => e = .returned (.bool (inG s.W s.H x y)) ∧ w' = w := by
  have HP : Hid (PrAt w bs bg g N s t) := h
  have c0 := h.f0
  clear h
  go_enter Tryz.func121, Tryz.ntmps121
  go_wp2_with (first | (go_at_call 103; refine (pHas bg g s.W s.H N s.G x y _ HP.out.gr).mono ?_; rintro e w' ⟨rfl, hw'⟩; replace hw' := hw'.symm; subst hw'))
  go_ret
  exact ⟨rfl, rfl⟩
set_option maxHeartbeats 1000000 in
theorem sCell (bs bg g N : Nat) (s : Rs) (t : Pt) (x y : Nat) (w : World) (h : PrAt w bs bg g N s t) (hx : x < s.W) (hy : y < s.H) :
    Calls Tryz.prog 122 #[.pointer (some ⟨bs, 0, none⟩), .int .i64 x, .int .i64 y] w fun e w' => e = .returned (s.G x y).agg ∧ Below w.heap.size w w' := by
  have HP : Hid (PrAt w bs bg g N s t) := h
  have c0 := h.f0
  have l := h.lt
  clear h
  go_enter Tryz.func122, Tryz.ntmps122
  go_wp2_with fail
  go_at_call 146
  refine (pCell bg g s.W s.H N s.G x y _ (HP.out.gr.below ((Below.refl _ _).alloc (Nat.le_refl _) _)) hx hy).mono ?_
  rintro e w2 ⟨rfl, hb2⟩
  have hz : w.heap.size < w2.heap.size := by have := hb2.size; simp at this; omega
  have hc := hb2.cells (b := w.heap.size) (by simp)
  have hf := hb2.marks (b := w.heap.size) (by simp)
  have hB : Below w.heap.size w w2 := ((Below.refl _ _).alloc (Nat.le_refl _) _).trans (hb2.mono (by simp))
  clear hb2
  go_wp2_with fail
  exact bodyPost_ret (v := (s.G x y).agg) (by simp [results, Tryz.results122, go_sem, hc]) rfl ⟨rfl, ((Keep.below (fun i => i = w.heap.size) hB).put7 w.heap.size 0 (s.G x y) (fun _ => rfl)).toBelow (Nat.le_refl _) (fun i hi => by omega)⟩
end Go.Proofs.YtjlfibhbfdckpaaGreatDoor

/- Flush: again. -/
namespace Go.Proofs.YtjlfibhbfdckpaaGreatDoor
open Go.RowKit
open Wd (wd)
attribute [local go_sem ↓] Go.wp_at_zero Go.wp_at_succ
/-- A new row of ways, or none. -/
def NewWays (w : World) (L : List Wy) (e : Ending) (w' : World) : Prop := ∃ v, e = .returned v ∧ w'.ownsRow w.heap.size 237 10 v L.length (wflat L) ∧ Below w.heap.size w w'
theorem enc_ba (r : Int) : (⟨(encL r).toArray⟩ : ByteArray) = Utf8.encode r := by unfold encL; simp
abbrev spArr (p : Sp) : Array Value := #[.int .i64 p.x, .int .i64 p.y, .bool p.pend, .int .i64 p.pen.f, .int .i64 p.pen.b, .bool p.pen.bo, .bool p.pen.un, .bool p.pen.re]
/-- A spot is written. -/
abbrev put8 (w : World) (D : Nat) (p : Sp) : World := ((((((((w.setCell ⟨D, 0, none⟩ (.int .i64 p.x)).setCell ⟨D, 1, none⟩ (.int .i64 p.y)).setCell ⟨D, 2, none⟩ (.bool p.pend)).setCell ⟨D, 3, none⟩ (.int .i64 p.pen.f)).setCell ⟨D, 4, none⟩ (.int .i64 p.pen.b)).setCell ⟨D, 5, none⟩ (.bool p.pen.bo)).setCell ⟨D, 6, none⟩ (.bool p.pen.un)).setCell ⟨D, 7, none⟩ (.bool p.pen.re))
theorem set8 (a0 a1 a2 a3 a4 a5 a6 a7 x0 x1 x2 x3 x4 x5 x6 x7 : Value) : ((((((((#[a0, a1, a2, a3, a4, a5, a6, a7] : Array Value).setIfInBounds 0 x0).setIfInBounds 1 x1).setIfInBounds 2 x2).setIfInBounds 3 x3).setIfInBounds 4 x4).setIfInBounds 5 x5).setIfInBounds 6 x6).setIfInBounds 7 x7 = #[x0, x1, x2, x3, x4, x5, x6, x7] := by simp
theorem put8_heap {w : World} {D : Nat} {a0 a1 a2 a3 a4 a5 a6 a7 : Value} {T : TypeId} (p : Sp) (h : w.heap[D]? = some (.cells #[a0, a1, a2, a3, a4, a5, a6, a7] T)) : (put8 w D p).heap[D]? = some (.cells (spArr p) T) := by
  have h8 := heap_set_same (heap_set_same (heap_set_same (heap_set_same (heap_set_same (heap_set_same (heap_set_same (heap_set_same h 0 (.int .i64 p.x)) 1 (.int .i64 p.y)) 2 (.bool p.pend)) 3 (.int .i64 p.pen.f)) 4 (.int .i64 p.pen.b)) 5 (.bool p.pen.bo)) 6 (.bool p.pen.un)) 7 (.bool p.pen.re)
  rw [set8] at h8
  exact h8
theorem put8_keep {F : Nat → Prop} {a w : World} (h : Keep F a w) (D : Nat) (p : Sp) (hF : D < a.heap.size → F D) : Keep F a (put8 w D p) :=
  (((((((h.setCell ⟨D, 0, none⟩ _ hF).setCell ⟨D, 1, none⟩ _ hF).setCell ⟨D, 2, none⟩ _ hF).setCell ⟨D, 3, none⟩ _ hF).setCell ⟨D, 4, none⟩ _ hF).setCell ⟨D, 5, none⟩ _ hF).setCell ⟨D, 6, none⟩ _ hF).setCell ⟨D, 7, none⟩ _ hF
theorem one_row (w : World) (v : Wy) (B : Nat) (hB : B ≤ w.heap.size) : (w.alloc (.cells #[.string ⟨v.b.toArray⟩, .int .i64 v.k, .int .i64 v.e.x, .int .i64 v.e.y, .bool v.e.pend, .int .i64 v.e.pen.f, .int .i64 v.e.pen.b, .bool v.e.pen.bo, .bool v.e.pen.un, .bool v.e.pen.re] 237)).ownsRow B 237 10 (.slice (some ⟨w.heap.size, 0, none⟩) 1 1) [v].length (wflat [v]) :=
  ⟨rfl, .inr ⟨w.heap.size, 1, _, rfl, hB, heap_new _ _, Nat.le_refl _, by decide, rfl, rfl⟩⟩
theorem below_on {w wC w5 wE : World} (h : Below w.heap.size w5 wE) (h1 : Below w.heap.size w wC) (h2 : Below wC.heap.size wC w5) : Below w.heap.size w wE :=
  (h1.trans (h2.mono h1.size)).trans h
theorem PrAt.keepC {wC w5 wE : World} {bs bg g N C : Nat} {s : Rs} {t : Pt} (h : PrAt w5 bs bg g N s t) (k : Keep (fun i => i = C + 1) w5 wE) (hC : PrAt wC bs bg g N s t) (zC : wC.heap.size = C + 1) : PrAt wE bs bg g N s t := by
  have l1 := hC.lt
  have l2 := hC.gr.lt
  have l3 := hC.gr.glt
  exact h.same (k.block _ h.lt (by omega)) (k.block _ h.gr.lt (by omega)) (k.block _ h.gr.glt (by omega))
set_option maxHeartbeats 4000000 in
theorem qAgain (bs bg g N : Nat) (s : Rs) (t : Pt) (f : Sp) (w : World) (h : PrAt w bs bg g N s t) (ok : s.Ok) (hf : f.In s) :
    Calls Tryz.prog 241 #[.pointer (some ⟨bs, 0, none⟩), f.agg] w (NewWays w (againW s f)) := by
  have HP : Hid (PrAt w bs bg g N s t) := h
  have y0 := hf.y0
  have y1 : f.y ≤ 1000 := by have := hf.y1; have := ok.h2; omega
  obtain ⟨M, hM⟩ : ∃ M, w.heap.size = M := ⟨_, rfl⟩
  have HM : Hid (w.heap.size = M) := hM
  clear h
  go_enter Tryz.func241, Tryz.ntmps241
  go_wp2_with fail
  have hA : ∃ wA, w.alloc (.cells (spArr f) 235) = wA ∧ wA.heap.size = M + 1 ∧ wA.heap[M]? = some (.cells (spArr f) 235) ∧ Below w.heap.size w wA := by
    subst hM
    exact ⟨_, rfl, by simp, heap_new _ _, (Below.refl _ _).alloc (Nat.le_refl _) _⟩
  obtain ⟨wA, hwA, zA, bA, belA⟩ := hA
  rw [hwA]
  have HbA : Hid (wA.heap[M]? = some (.cells (spArr f) 235)) := bA
  have HbelA : Hid (Below w.heap.size w wA) := belA
  clear hwA bA belA
  go_at_call 238
  refine (qLanding f wA y0 y1).mono ?_
  rintro e w1 ⟨rfl, hb1⟩
  have HB1 : Hid (Below w.heap.size w w1) := HbelA.out.trans (hb1.mono (by have := HM.out; omega))
  have Hb1 : Hid (w1.heap[M]? = some (.cells (spArr f) 235)) := (hb1.block M (by omega)).trans HbA.out
  have z1 : M < w1.heap.size := by have := hb1.size; omega
  have HP1 : Hid (PrAt w1 bs bg g N s t) := HP.out.below HB1.out
  clear hb1 HbA HbelA
  cases hin : inG s.W s.H f.lx f.ly with
  | false =>
    have e : againW s f = [] := by unfold againW; rw [if_neg (by rw [hin]; decide)]
    go_wp2_with (go_at_call 121; refine (sHas bs bg g N s t _ _ _ HP1.out).mono ?_; rintro e w' ⟨rfl, hw'⟩; replace hw' := hw'.symm; subst hw')
    go_ret
    refine ⟨.slice none 0 0, rfl, ?_, HB1.out⟩
    rw [e]
    exact World.ownsRow_nil _ _ _ _
  | true =>
    obtain ⟨a0, a1, b0, b1⟩ := inG_iff.1 hin
    have HCell : Hid (Calls Tryz.prog 122 #[.pointer (some ⟨bs, 0, none⟩), .int .i64 f.lx, .int .i64 f.ly] w1 fun e w' => e = .returned (s.G f.lx.toNat f.ly.toNat).agg ∧ Below w1.heap.size w1 w') := by
      have := sCell bs bg g N s t f.lx.toNat f.ly.toNat w1 HP1.out (by omega) (by omega)
      rw [Int.toNat_of_nonneg a0, Int.toNat_of_nonneg b0] at this
      exact this
    have hag : againW s f = if (s.G f.lx.toNat f.ly.toNat).p = 2 ∨ (s.G f.lx.toNat f.ly.toNat).n.eqB f.pen = false then [] else [⟨encL (s.G f.lx.toNat f.ly.toNat).r, 0, nextS s f f.lx f.ly (wd (s.G f.lx.toNat f.ly.toNat).r)⟩] := by unfold againW; rw [if_pos hin]
    have HAG : Hid _ := hag
    clear hag
    go_wp2_with (go_at_call 121; refine (sHas bs bg g N s t _ _ _ HP1.out).mono ?_; rintro e w' ⟨rfl, hw'⟩; replace hw' := hw'.symm; subst hw')
    go_at_call 122
    refine HCell.out.mono ?_
    rintro e w2 ⟨rfl, hb2⟩
    have HB2 : Hid (Below w.heap.size w w2) := HB1.out.trans (hb2.mono (HB1.out.size))
    have Hb2 : Hid (w2.heap[M]? = some (.cells (spArr f) 235)) := (hb2.block M z1).trans Hb1.out
    have z2 : M < w2.heap.size := Nat.lt_of_lt_of_le z1 hb2.size
    have HP2 : Hid (PrAt w2 bs bg g N s t) := HP1.out.below hb2
    clear hb2 HCell HB1 Hb1 HP1
    generalize s.G f.lx.toNat f.ly.toNat = c at *
    obtain ⟨C, hC⟩ : ∃ C, w2.heap.size = C := ⟨_, rfl⟩
    have hA2 : ∃ wC, w2.alloc (.cells #[.int .i32 c.r, .int .i64 c.p, .int .i64 c.n.f, .int .i64 c.n.b, .bool c.n.bo, .bool c.n.un, .bool c.n.re] 38) = wC ∧ wC.heap.size = C + 1 ∧ wC.heap[M]? = some (.cells (spArr f) 235) ∧ wC.heap[C]? = some (.cells #[.int .i32 c.r, .int .i64 c.p, .int .i64 c.n.f, .int .i64 c.n.b, .bool c.n.bo, .bool c.n.un, .bool c.n.re] 38) ∧ Below w.heap.size w wC ∧ PrAt wC bs bg g N s t := by
      refine ⟨_, rfl, by simp [hC], ?_, ?_, HB2.out.alloc HB2.out.size _, HP2.out.below ((Below.refl _ _).alloc (Nat.le_refl _) _)⟩
      · rw [heap_next _ _ z2]; exact Hb2.out
      · rw [← hC]; exact heap_new _ _
    obtain ⟨wC, hwC, zC, bM, bC, belC, PC⟩ := hA2
    have HBC : Hid (Below w.heap.size w wC) := belC
    have HPC : Hid (PrAt wC bs bg g N s t) := PC
    have HbM : Hid (wC.heap[M]? = some (.cells (spArr f) 235)) := bM
    have HbC : Hid (wC.heap[C]? = some (.cells #[.int .i32 c.r, .int .i64 c.p, .int .i64 c.n.f, .int .i64 c.n.b, .bool c.n.bo, .bool c.n.un, .bool c.n.re] 38)) := bC
    have m0 := cell_of_block bM 0
    have m1 := cell_of_block bM 1
    have m2 := cell_of_block bM 2
    have m3 := cell_of_block bM 3
    have m4 := cell_of_block bM 4
    have m5 := cell_of_block bM 5
    have m6 := cell_of_block bM 6
    have m7 := cell_of_block bM 7
    have k0 := cell_of_block bC 0
    have k1 := cell_of_block bC 1
    have k2 := cell_of_block bC 2
    have k3 := cell_of_block bC 3
    have k4 := cell_of_block bC 4
    have k5 := cell_of_block bC 5
    have k6 := cell_of_block bC 6
    simp only [List.getElem?_toArray, List.getElem?_cons_zero, List.getElem?_cons_succ] at m0 m1 m2 m3 m4 m5 m6 m7 k0 k1 k2 k3 k4 k5 k6
    have hpe := fun w => pen_neq c.n f.pen w
    clear belC PC bM bC Hb2 HP2
    have HwC : Hid (w2.alloc (.cells #[.int .i32 c.r, .int .i64 c.p, .int .i64 c.n.f, .int .i64 c.n.b, .bool c.n.bo, .bool c.n.un, .bool c.n.re] 38) = wC) := hwC
    by_cases hp2 : c.p = 2
    · have HE : Hid (againW s f = []) := by show againW s f = []; rw [HAG.out, if_pos (.inl hp2)]
      go_wp2_with fail
      go_ret
      refine ⟨.slice none 0 0, rfl, ?_, HB2.out.alloc HB2.out.size _⟩
      rw [HE.out]
      exact World.ownsRow_nil _ _ _ _
    · cases hq : c.n.eqB f.pen with
      | false =>
        have HE : Hid (againW s f = []) := by show againW s f = []; rw [HAG.out, if_pos (.inr hq)]
        simp only [hq, Bool.not_false] at hpe
        go_wp2_with fail
        go_ret
        refine ⟨.slice none 0 0, rfl, ?_, HBC.out⟩
        rw [HE.out]
        exact World.ownsRow_nil _ _ _ _
      | true =>
        have HE : Hid (againW s f = [⟨encL c.r, 0, nextS s f f.lx f.ly (wd c.r)⟩]) := by show againW s f = _; rw [HAG.out, if_neg (by rintro (q | q); exact hp2 q; rw [hq] at q; cases q)]
        simp only [hq, Bool.not_true] at hpe
        have w01 : 0 ≤ wd c.r ∧ wd c.r ≤ 2 := by rcases Wd.wd_cases c.r with q | q | q <;> omega
        have w2' := ok.w2
        go_wp2_with fail
        have HPD : Hid (PrAt wC.drew bs bg g N s t) := HPC.out.drew
        have zM : M < C + 1 := by omega
        have zM1 : M < C := by omega
        have nM1 : ¬ M = C + 1 := by omega
        have nM2 : ¬ C + 1 = M := by omega
        have hw1 : IntKind.i64.wrap (f.lx + wd c.r) = f.lx + wd c.r := wrap_id _ (by omega) (by omega)
        go_region_held3 (fun w' => w'.cell? ⟨M, 0, none⟩ = some (.int .i64 f.x) ∧ w'.cell? ⟨M, 1, none⟩ = some (.int .i64 f.y) ∧ w'.cell? ⟨M, 2, none⟩ = some (.bool f.pend) ∧ w'.cell? ⟨M, 3, none⟩ = some (.int .i64 f.pen.f) ∧ w'.cell? ⟨M, 4, none⟩ = some (.int .i64 f.pen.b) ∧ w'.cell? ⟨M, 5, none⟩ = some (.bool f.pen.bo) ∧ w'.cell? ⟨M, 6, none⟩ = some (.bool f.pen.un) ∧ w'.cell? ⟨M, 7, none⟩ = some (.bool f.pen.re) ∧ w'.cell? ⟨C, 0, none⟩ = some (.int .i32 c.r)) (simp [*, cell_old, World.cell?_setCell_far]) (first | (go_at_call 129; refine (Wd.lettersWidth _ _).mono ?_; rintro e w' ⟨rfl, hw'⟩; subst hw') | (go_at_call 239; refine (qMoved f _ _ _).mono ?_; rintro e w5 ⟨rfl, hb5⟩; have hb6 := below_drew' hb5; have e1 := hb6.cells (b := M) (by first | omega | (simp; omega)); have e2 := hb6.cells (b := C) (by first | omega | (simp; omega)); have HB6 : Hid (Below wC.heap.size wC w5) := (by first | exact hb6 | exact ((Below.refl _ _).alloc (Nat.le_refl _) _).trans (hb6.mono (by simp))); have z6 : C < w5.heap.size := (by have := HB6.out.size; omega); have z7 : M < w5.heap.size := (by omega); (first | (have e3 := hb6.cells (b := C + 1) (by simp; omega); have e4 := hb6.marks (b := C + 1) (by simp; omega); have HD : Hid (w5.heap[C + 1]? = some (.cells #[.int .i64 0, .int .i64 0, .bool false, .int .i64 0, .int .i64 0, .bool false, .bool false, .bool false] 235)) := (hb6.block (C + 1) (by simp; omega)).trans (heap_top _ _ (by omega))) | skip); clear hb5))
        all_goals
          first
            | (have hd := HD.out
               obtain ⟨wE, hwE⟩ : ∃ wE, put8 w5 (C + 1) (f.move (f.lx + wd c.r) f.ly) = wE := ⟨_, rfl⟩
               have E1 : wE.heap[C + 1]? = some (.cells (spArr (f.move (f.lx + wd c.r) f.ly)) 235) := hwE ▸ put8_heap _ hd
               have E2 : wE.heap[C]? = some (.cells #[.int .i32 c.r, .int .i64 c.p, .int .i64 c.n.f, .int .i64 c.n.b, .bool c.n.bo, .bool c.n.un, .bool c.n.re] 38) := hwE ▸ ((put8_keep (Keep.refl (fun i => i = C + 1) w5) (C + 1) (f.move (f.lx + wd c.r) f.ly) (fun _ => rfl)).block C z6 (by omega)).trans ((HB6.out.block C (by omega)).trans HbC.out)
               have E3 : Below w.heap.size w wE := hwE ▸ below_on ((put8_keep (Keep.refl (fun i => i = C + 1) w5) (C + 1) (f.move (f.lx + wd c.r) f.ly) (fun _ => rfl)).toBelow (B := w.heap.size) (by omega) (fun i hi e => by have := HM.out; omega)) HBC.out HB6.out
               have E4 : PrAt wE bs bg g N s t := hwE ▸ (HPC.out.below HB6.out).keepC (put8_keep (Keep.refl (fun i => i = C + 1) w5) (C + 1) (f.move (f.lx + wd c.r) f.ly) (fun _ => rfl)) HPC.out zC
               unfold put8 at hwE
               rw [hwE]
               obtain ⟨D, hD⟩ : ∃ D, C + 1 = D := ⟨_, rfl⟩
               have hCD : C < D := by omega
               rw [hD] at E1 ⊢
               clear hwE hD hd HD e3 e4)
            | (obtain ⟨wE, hwE⟩ : ∃ wE, w5.alloc (.cells (spArr (f.move (f.lx + wd c.r) f.ly)) 235) = wE := ⟨_, rfl⟩
               have E1 : wE.heap[w5.heap.size]? = some (.cells (spArr (f.move (f.lx + wd c.r) f.ly)) 235) := hwE ▸ heap_new _ _
               have E2 : wE.heap[C]? = some (.cells #[.int .i32 c.r, .int .i64 c.p, .int .i64 c.n.f, .int .i64 c.n.b, .bool c.n.bo, .bool c.n.un, .bool c.n.re] 38) := hwE ▸ (heap_next _ _ z6).trans ((HB6.out.block C (by omega)).trans HbC.out)
               have E3 : Below w.heap.size w wE := hwE ▸ (HBC.out.trans (HB6.out.mono HBC.out.size)).alloc (Nat.le_trans HBC.out.size HB6.out.size) _
               have E4 : PrAt wE bs bg g N s t := hwE ▸ (HPC.out.below HB6.out).below ((Below.refl _ _).alloc (Nat.le_refl _) _)
               rw [hwE]
               obtain ⟨D, hD⟩ : ∃ D, w5.heap.size = D := ⟨_, rfl⟩
               have hCD : C < D := by omega
               rw [hD] at E1 ⊢
               clear hwE hD)
          clear m0 m1 m2 m3 m4 m5 m6 m7 k0 k1 k2 k3 k4 k5 k6 hpe hw1 e1 e2 hwC
          have d0 : wE.cell? ⟨D, 0, none⟩ = some (.int .i64 (f.lx + wd c.r)) := cell_of_block E1 0
          have d1 : wE.cell? ⟨D, 1, none⟩ = some (.int .i64 f.ly) := cell_of_block E1 1
          have d2 : wE.cell? ⟨D, 2, none⟩ = some (.bool false) := cell_of_block E1 2
          have d3 : wE.cell? ⟨D, 3, none⟩ = some (.int .i64 f.pen.f) := cell_of_block E1 3
          have d4 : wE.cell? ⟨D, 4, none⟩ = some (.int .i64 f.pen.b) := cell_of_block E1 4
          have d5 : wE.cell? ⟨D, 5, none⟩ = some (.bool f.pen.bo) := cell_of_block E1 5
          have d6 : wE.cell? ⟨D, 6, none⟩ = some (.bool f.pen.un) := cell_of_block E1 6
          have d7 : wE.cell? ⟨D, 7, none⟩ = some (.bool f.pen.re) := cell_of_block E1 7
          have fD : ∀ o, wE.frozen? ⟨D, o, none⟩ = false := frozen_of_block E1
          have kc : wE.cell? ⟨C, 0, none⟩ = some (.int .i32 c.r) := cell_of_block E2 0
          have nCD : ¬ C = D := by omega
          have nDC : ¬ D = C := by omega
          have HE3 : Hid (Below w.heap.size w wE) := E3
          have HE4 : Hid (PrAt wE bs bg g N s t) := E4
          clear E1 E2 E3 E4
          cases hin2 : inG s.W s.H (f.lx + wd c.r) f.ly with
          | true =>
            have HN : Hid (nextS s f f.lx f.ly (wd c.r) = ⟨f.lx + wd c.r, f.ly, false, f.pen⟩) := by show nextS s f f.lx f.ly (wd c.r) = _; unfold nextS; rw [if_pos hin2]
            go_wp2_with (go_at_call 121; refine (sHas bs bg g N s t _ _ _ HE4.out).mono ?_; rintro e w' ⟨rfl, hw'⟩; replace hw' := hw'.symm; subst hw')
            go_ret
            refine ⟨.slice (some ⟨wE.heap.size, 0, none⟩) 1 1, rfl, ?_, HE3.out.alloc HE3.out.size _⟩
            rw [HE.out, HN.out]
            have ho := one_row wE ⟨encL c.r, 0, ⟨f.lx + wd c.r, f.ly, false, f.pen⟩⟩ w.heap.size HE3.out.size
            rw [enc_ba] at ho
            exact ho
          | false =>
            have HN : Hid (nextS s f f.lx f.ly (wd c.r) = ⟨f.lx + wd c.r - 1, f.ly, true, f.pen⟩) := by show nextS s f f.lx f.ly (wd c.r) = _; unfold nextS; rw [if_neg (by rw [hin2]; decide)]
            go_wp2_with (go_at_call 121; refine (sHas bs bg g N s t _ _ _ HE4.out).mono ?_; rintro e w' ⟨rfl, hw'⟩; replace hw' := hw'.symm; subst hw')
            go_ret
            have hbl : Below w.heap.size w ((wE.setCell ⟨D, 0, none⟩ (.int .i64 (f.lx + wd c.r - 1))).setCell ⟨D, 2, none⟩ (.bool true)) := (HE3.out.setCell (by show w.heap.size ≤ D; have := HM.out; omega) _).setCell (by show w.heap.size ≤ D; have := HM.out; omega) _
            have ho := one_row ((wE.setCell ⟨D, 0, none⟩ (.int .i64 (f.lx + wd c.r - 1))).setCell ⟨D, 2, none⟩ (.bool true)) ⟨encL c.r, 0, ⟨f.lx + wd c.r - 1, f.ly, true, f.pen⟩⟩ w.heap.size hbl.size
            have hsz : ((wE.setCell ⟨D, 0, none⟩ (.int .i64 (f.lx + wd c.r - 1))).setCell ⟨D, 2, none⟩ (.bool true)).heap.size = wE.heap.size := by simp [World.setCell]
            refine ⟨.slice (some ⟨wE.heap.size, 0, none⟩) 1 1, rfl, ?_, hbl.alloc hbl.size _⟩
            rw [HE.out, HN.out]
            rw [enc_ba, hsz] at ho
            exact ho
end Go.Proofs.YtjlfibhbfdckpaaGreatDoor
