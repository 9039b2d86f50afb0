/- Texts of the proof, one behind the other: FpI, PgA, PgB, PgC, PgD, PgE, WdWalks. -/
import Derived.Test.YtjlfibhbfdckpaaGreatDoorK01
import Derived.Test.YtjlfibhbfdckpaaGreatDoorK05
import Derived.Test.YtjlfibhbfdckpaaGreatDoorChecked
import Derived.WalkSpells
import Derived.WalkLawsBesides
import Derived.Deep.RegionHeld3
import Derived.Deep.DrawnRows
import Derived.BigQuiet
import Derived.WalkKit
/- Flush: the picture is one: halves beside their other halves, pens that may be: plain. -/
namespace Go.Proofs.YtjlfibhbfdckpaaGreatDoor
open Wd (wd)
section
variable {L : List Wn} {rk : Int → Nat} {K : Nat}
theorem pown_sub (T : Tree L rk K) : ∀ (f : Nat) (v : Wn) (x y : Int), v ∈ L → K ≤ rk v.n + f → Sub L v.n (ownP L f v x y).1.n := by
  intro f
  induction f with
  | zero => intro v x y _ _; exact .refl
  | succ f ih =>
    intro v x y hv hk
    rw [T.ownSucc hv hk]
    cases hn : nextP L v.n x y with
    | none => exact .refl
    | some u =>
      obtain ⟨hu, hp, _, _⟩ := nextP_some hn
      have := (T.up u hu (by have := T.pos hv; omega)).2
      rw [hp] at this
      have h1 := ih u (x - u.x) (y - u.y) hu (by omega)
      have h2 : Sub L v.n u.n := .step hu (by rw [hp]; exact .refl)
      exact h2.trans h1
/-- Where a window lies does not hang on the place at which it is seen. -/
theorem own_off (T : Tree L rk K) : ∀ (f : Nat) (v : Wn) (x y x' y' : Int), v ∈ L → K ≤ rk v.n + f → (ownP L f v x y).1.n = (ownP L f v x' y').1.n →
    (ownP L f v x y).2.1 - x = (ownP L f v x' y').2.1 - x' ∧ (ownP L f v x y).2.2 - y = (ownP L f v x' y').2.2 - y' := by
  intro f
  induction f with
  | zero => intro v x y x' y' _ _ _; exact ⟨by show x - x = x' - x'; omega, by show y - y = y' - y'; omega⟩
  | succ f ih =>
    intro v x y x' y' hv hk he
    have hv0 := T.pos hv
    have hup : ∀ {a b : Int} {u : Wn}, nextP L v.n a b = some u → u ∈ L ∧ u.par = v.n ∧ rk v.n < rk u.n := fun {a b u} q => by
      obtain ⟨hu, hp, _, _⟩ := nextP_some q
      have := (T.up u hu (by omega)).2
      rw [hp] at this
      exact ⟨hu, hp, this⟩
    rw [T.ownSucc hv hk] at he ⊢
    rw [T.ownSucc hv hk] at he ⊢
    cases hn : nextP L v.n x y with
    | none =>
      rw [hn] at he
      cases hn' : nextP L v.n x' y' with
      | none => exact ⟨by show x - x = x' - x'; omega, by show y - y = y' - y'; omega⟩
      | some u' =>
        rw [hn'] at he
        obtain ⟨hu, hp, hr⟩ := hup hn'
        have hs := (pown_sub T f u' (x' - u'.x) (y' - u'.y) hu (by omega)).rank T (T.pos hu)
        have he' : v.n = (ownP L f u' (x' - u'.x) (y' - u'.y)).1.n := he
        rw [← he'] at hs
        omega
    | some u =>
      rw [hn] at he
      obtain ⟨hu, hp, hr⟩ := hup hn
      cases hn' : nextP L v.n x' y' with
      | none =>
        rw [hn'] at he
        have hs := (pown_sub T f u (x - u.x) (y - u.y) hu (by omega)).rank T (T.pos hu)
        have he' : (ownP L f u (x - u.x) (y - u.y)).1.n = v.n := he
        rw [he'] at hs
        omega
      | some u' =>
        rw [hn'] at he
        obtain ⟨hu', hp', hr'⟩ := hup hn'
        have he' : (ownP L f u (x - u.x) (y - u.y)).1.n = (ownP L f u' (x' - u'.x) (y' - u'.y)).1.n := he
        have hs := pown_sub T f u (x - u.x) (y - u.y) hu (by omega)
        have hs' := pown_sub T f u' (x' - u'.x) (y' - u'.y) hu' (by omega)
        rw [← he'] at hs'
        have hne : ∀ {a b : Wn}, a ∈ L → b ∈ L → a.par = v.n → b.par = v.n → rk v.n < rk a.n → Sub L a.n b.n → a = b := by
          intro a b ha hb hap hbp har hab
          rcases hab.last with e | ⟨c, hc, e, hac⟩
          · exact (nd_inj T.nd hb ha e).symm
          · have : c = b := nd_inj T.nd hc hb e
            rw [this, hbp] at hac
            have := (hac.rank T (T.pos ha)).1
            omega
        have huu : u = u' := by
          rcases Sub.chain T hs hs' with q | q
          · exact hne hu hu' hp hp' hr q
          · exact (hne hu' hu hp' hp hr' q).symm
        subst huu
        have := ih u (x - u.x) (y - u.y) (x' - u.x) (y' - u.y) hu (by omega) he'
        show (ownP L f u (x - u.x) (y - u.y)).2.1 - x = (ownP L f u (x' - u.x) (y' - u.y)).2.1 - x' ∧ (ownP L f u (x - u.x) (y - u.y)).2.2 - y = (ownP L f u (x' - u.x) (y' - u.y)).2.2 - y'
        omega
/-- Windows' cells. -/
def WinsOk (L : List Wn) : Prop := ∀ v ∈ L, PicOk v.W v.H v.G
theorem pic_ok (T : Tree L rk K) (hw : WinsOk L) {r : Wn} (hr : r ∈ L) : PicOk r.W r.H (fun x y => picP L K r x y) := by
  have hK : K ≤ rk r.n + K := by omega
  have fact : ∀ x y : Nat, x < r.W → y < r.H → ∃ o : Wn, ∃ a b : Nat, o ∈ L ∧ a < o.W ∧ b < o.H ∧ ownP L K r x y = (o, (a : Int), (b : Int)) := by
    intro x y hx hy
    obtain ⟨h1, h2⟩ := T.ownIn K r x y hr hK (inG_iff.2 (by omega))
    obtain ⟨a0, a1, b0, b1⟩ := inG_iff.1 h2
    refine ⟨_, (ownP L K r x y).2.1.toNat, (ownP L K r x y).2.2.toNat, h1, by omega, by omega, ?_⟩
    have e1 : ((ownP L K r x y).2.1.toNat : Int) = (ownP L K r x y).2.1 := by omega
    have e2 : ((ownP L K r x y).2.2.toNat : Int) = (ownP L K r x y).2.2 := by omega
    rw [e1, e2]
  have val : ∀ x y : Nat, ∀ {o : Wn} {a b : Nat}, ownP L K r x y = (o, (a : Int), (b : Int)) → picP L K r x y = if (o.G a b).p = 1 then halfP L K r o (o.G a b) ((x : Int) + 1) y else if (o.G a b).p = 2 then halfP L K r o (o.G a b) ((x : Int) - 1) y else o.G a b := by
    intro x y o a b e
    unfold picP
    rw [e]
    simp only [Int.toNat_natCast]
  -- a half that is seen with its other half
  have half : ∀ (x y x' : Nat) {o : Wn} {a b : Nat}, x < r.W → y < r.H → ownP L K r x y = (o, (a : Int), (b : Int)) → o ∈ L → inG r.W r.H x' y = true → (ownP L K r x' y).1.n = o.n → ownP L K r x' y = (o, (a : Int) + (x' - x), (b : Int)) := by
    intro x y x' o a b hx hy e ho hin hn
    have hx' : x' < r.W := by have := inG_iff.1 hin; omega
    obtain ⟨o', a', b', ho', _, _, e'⟩ := fact x' y hx' hy
    rw [e'] at hn
    have heq : o' = o := nd_inj T.nd ho' ho hn
    subst heq
    have := own_off T K r x y x' y hr hK (by rw [e, e'])
    rw [e, e'] at this
    rw [e']
    have h1 : (a' : Int) = (a : Int) + (x' - x) := by have := this.1; simp only at this; omega
    have h2 : (b' : Int) = (b : Int) := by have := this.2; simp only at this; omega
    rw [h1, h2]
  have blanks : ∀ (c : Cel), (blk c.n).p = 0 ∧ wd (blk c.n).r = 1 := fun c => ⟨rfl, wd_32⟩
  refine ⟨⟨fun x y hx hy => ?_, fun x y hx hy hp => ?_, fun x y hx hy hp => ?_⟩, fun x y hx hy => ?_⟩
  · obtain ⟨o, a, b, ho, ha, hb, e⟩ := fact x y hx hy
    have W := (hw o ho).wf
    rw [val x y e]
    rcases W.part a b ha hb with ⟨p, q⟩ | ⟨p, q⟩ | ⟨p, q⟩
    · rw [if_neg (by rw [p]; decide), if_neg (by rw [p]; decide)]; exact .inl ⟨p, q⟩
    · rw [if_pos p]; unfold halfP; split
      · exact .inr (.inl ⟨p, q⟩)
      · exact .inl (blanks _)
    · rw [if_neg (by rw [p]; decide), if_pos p]; unfold halfP; split
      · exact .inr (.inr ⟨p, q⟩)
      · exact .inl (blanks _)
  · obtain ⟨o, a, b, ho, ha, hb, e⟩ := fact x y hx hy
    have W := (hw o ho).wf
    rw [val x y e] at hp ⊢
    rcases W.part a b ha hb with ⟨p, q⟩ | ⟨p, q⟩ | ⟨p, q⟩
    · rw [if_neg (by rw [p]; decide), if_neg (by rw [p]; decide), p] at hp; exact absurd hp (by decide)
    · rw [if_pos p] at hp ⊢
      unfold halfP at hp ⊢
      split at hp
      · rename_i hc
        rw [if_pos hc]
        obtain ⟨ht1, ht2⟩ := W.head a b ha hb p
        have hin := hc.1
        have hx1 : x + 1 < r.W := by have := inG_iff.1 hin; omega
        have e2 := half x y (x + 1) hx hy e ho (inG_iff.2 (by omega)) hc.2
        have e3 : ownP L K r ((x + 1 : Nat) : Int) y = (o, ((a + 1 : Nat) : Int), (b : Int)) := by
          rw [e2]; congr 1; congr 1; omega
        refine ⟨hx1, ?_⟩
        rw [val (x + 1) y e3, ht2]
        rw [if_neg (by simp), if_pos rfl]
        unfold halfP
        have hb' : ((x + 1 : Nat) : Int) - 1 = (x : Int) := by omega
        rw [hb', if_pos ⟨inG_iff.2 (by omega), by rw [e]⟩]
      · exact absurd (show (0 : Int) = 1 from hp) (by decide)
    · rw [if_neg (by rw [p]; decide), if_pos p] at hp
      unfold halfP at hp
      split at hp
      · rw [p] at hp; exact absurd hp (by decide)
      · exact absurd (show (0 : Int) = 1 from hp) (by decide)
  · obtain ⟨o, a, b, ho, ha, hb, e⟩ := fact x y hx hy
    have W := (hw o ho).wf
    rw [val x y e] at hp ⊢
    rcases W.part a b ha hb with ⟨p, q⟩ | ⟨p, q⟩ | ⟨p, q⟩
    · rw [if_neg (by rw [p]; decide), if_neg (by rw [p]; decide), p] at hp; exact absurd hp (by decide)
    · rw [if_pos p] at hp
      unfold halfP at hp
      split at hp
      · rw [p] at hp; exact absurd hp (by decide)
      · exact absurd (show (0 : Int) = 2 from hp) (by decide)
    · rw [if_neg (by rw [p]; decide), if_pos p] at hp ⊢
      unfold halfP at hp ⊢
      split at hp
      · rename_i hc
        rw [if_pos hc]
        obtain ⟨ht1, ht2⟩ := W.tail a b ha hb p
        have hin := hc.1
        have hx1 : 1 ≤ x := by have := inG_iff.1 hin; omega
        have ex : ((x - 1 : Nat) : Int) = (x : Int) - 1 := by omega
        have e2 := half x y (x - 1) hx hy e ho (inG_iff.2 (by omega)) (by rw [ex]; exact hc.2)
        have e3 : ownP L K r ((x - 1 : Nat) : Int) y = (o, ((a - 1 : Nat) : Int), (b : Int)) := by
          rw [e2]; congr 1; congr 1; omega
        refine ⟨hx1, ?_⟩
        rw [val (x - 1) y e3, ht2]
        rw [if_pos rfl]
        unfold halfP
        have hb' : ((x - 1 : Nat) : Int) + 1 = (x : Int) := by omega
        rw [hb', if_pos ⟨inG_iff.2 (by omega), by rw [e]⟩]
      · exact absurd (show (0 : Int) = 2 from hp) (by decide)
  · obtain ⟨o, a, b, ho, ha, hb, e⟩ := fact x y hx hy
    have hn := (hw o ho).pen a b ha hb
    rw [val x y e]
    split
    · unfold halfP; split
      · exact hn
      · exact hn
    · split
      · unfold halfP; split
        · exact hn
        · exact hn
      · exact hn
end
end Go.Proofs.YtjlfibhbfdckpaaGreatDoor

/- The program's bounds. -/
namespace Go.Proofs.YtjlfibhbfdckpaaGreatDoor
open Go.RowKit
def leastI (a b : Int) : Int := if b < a then b else a
def greatestI (a b : Int) : Int := if a < b then b else a
def betweenI (n lo hi : Int) : Int := greatestI lo (leastI n hi)
theorem pLeast (a b : Int) (w : World) :
    Calls Tryz.prog 138 #[.int .i64 a, .int .i64 b] w fun e w' => e = .returned (.int .i64 (leastI a b)) ∧ w' = w := by
  by_cases h : b < a
  · rw [show leastI a b = b from if_pos h]
    go_enter Tryz.func138, Tryz.ntmps138
    go_wp2
    go_ret
    exact ⟨rfl, rfl⟩
  · rw [show leastI a b = a from if_neg h]
    go_enter Tryz.func138, Tryz.ntmps138
    go_wp2
    go_ret
    exact ⟨rfl, rfl⟩
theorem pGreatest (a b : Int) (w : World) :
    Calls Tryz.prog 139 #[.int .i64 a, .int .i64 b] w fun e w' => e = .returned (.int .i64 (greatestI a b)) ∧ w' = w := by
  by_cases h : a < b
  · rw [show greatestI a b = b from if_pos h]
    go_enter Tryz.func139, Tryz.ntmps139
    go_wp2
    go_ret
    exact ⟨rfl, rfl⟩
  · rw [show greatestI a b = a from if_neg h]
    go_enter Tryz.func139, Tryz.ntmps139
    go_wp2
    go_ret
    exact ⟨rfl, rfl⟩
theorem pBetween (n lo hi : Int) (w : World) :
    Calls Tryz.prog 156 #[.int .i64 n, .int .i64 lo, .int .i64 hi] w fun e w' => e = .returned (.int .i64 (betweenI n lo hi)) ∧ w' = w := by
  go_enter Tryz.func156, Tryz.ntmps156
  go_wp2_with (first | (go_at_call 138; refine (pLeast _ _ _).mono ?_; rintro e w' ⟨rfl, rfl⟩) | (go_at_call 139; refine (pGreatest _ _ _).mono ?_; rintro e w' ⟨rfl, rfl⟩))
  go_ret
  exact ⟨rfl, rfl⟩
theorem pWithin (n a b : Int) (w : World) :
    Calls Tryz.prog 107 #[.int .i64 n, .int .i64 a, .int .i64 b] w fun e w' => e = .returned (.bool (Wd.inB n a b)) ∧ w' = w := by
  by_cases h1 : a ≤ n <;> by_cases h2 : n ≤ b
  all_goals
    go_enter Tryz.func107, Tryz.ntmps107
    go_wp2
    go_ret
    exact ⟨by simp [Wd.inB, h1, h2], rfl⟩
theorem pWithinByte (n a b : Int) (w : World) :
    Calls Tryz.prog 181 #[.int .u8 n, .int .u8 a, .int .u8 b] w fun e w' => e = .returned (.bool (Wd.inB n a b)) ∧ w' = w := by
  by_cases h1 : a ≤ n <;> by_cases h2 : n ≤ b
  all_goals
    go_enter Tryz.func181, Tryz.ntmps181
    go_wp2
    go_ret
    exact ⟨by simp [Wd.inB, h1, h2], rfl⟩
end Go.Proofs.YtjlfibhbfdckpaaGreatDoor

/- The program's rows of cells: Blank, fill. -/
namespace Go.Proofs.YtjlfibhbfdckpaaGreatDoor
open Go.RowKit
attribute [local go_sem ↓] Go.wp_at_zero Go.wp_at_succ
/-- n cells lie in block g, one behind the other. -/
structure Flat (w : World) (g n : Nat) (L : Nat → Cel) : Prop where
  cel : ∀ i, i < n → CelAt w g (i * 7) (L i)
  free : ∀ o, w.frozen? ⟨g, o, none⟩ = false
def updF (L : Nat → Cel) (i : Nat) (c : Cel) : Nat → Cel := fun j => if j = i then c else L j
theorem Flat.same {w w' : World} {g n : Nat} {L : Nat → Cel} (h : Flat w g n L) (hb : w'.heap[g]? = w.heap[g]?) : Flat w' g n L :=
  ⟨fun i hi => (h.cel i hi).same hb, fun o => by rw [frozen_same hb]; exact h.free o⟩
theorem Flat.congr {w : World} {g n : Nat} {L M : Nat → Cel} (h : Flat w g n L) (e : ∀ i, i < n → L i = M i) : Flat w g n M :=
  ⟨fun i hi => by rw [← e i hi]; exact h.cel i hi, h.free⟩
theorem Flat.put {w : World} {g n : Nat} {L : Nat → Cel} (h : Flat w g n L) {i : Nat} (hi : i < n) (c : Cel) : Flat (put7 w g (i * 7) c) g n (updF L i c) := by
  refine ⟨fun j hj => ?_, fun o => ?_⟩
  · unfold updF
    by_cases e : j = i
    · subst e; rw [if_pos rfl]; exact put7_at (h.cel _ hj)
    · rw [if_neg e]
      have := h.cel j hj
      simp only [CelAt] at this ⊢
      rw [put7_far (by omega), put7_far (by omega), put7_far (by omega), put7_far (by omega), put7_far (by omega), put7_far (by omega), put7_far (by omega)]
      exact this
  · unfold put7; simp only [set_frozen]; exact h.free o
theorem Flat.lt {w : World} {g n : Nat} {L : Nat → Cel} (h : Flat w g n L) (hn : 0 < n) : g < w.heap.size := (h.cel 0 hn).lt
def fillF (L : Nat → Cel) (a k : Nat) (p : Pn) : Nat → Cel := fun i => if a ≤ i ∧ i < a + k then blk p else L i
theorem pBlank (n : Pn) (w : World) :
    Calls Tryz.prog 147 #[n.agg] w fun e w' => e = .returned (blk n).agg ∧ Below w.heap.size w w' := by
  go_enter Tryz.func147, Tryz.ntmps147
  go_wp2
  exact bodyPost_ret (v := (blk n).agg) (by simp [results, Tryz.results147, go_sem, blk]) rfl ⟨rfl, ((Below.refl _ _).alloc (Nat.le_refl _) _).alloc (by simp) _⟩
set_option maxHeartbeats 2000000 in
theorem pFill (g n a k cap : Nat) (av : Option Addr) (L : Nat → Cel) (p : Pn) (w : World) (h : Flat w g n L) (hav : 0 < k → av = some ⟨g, a * 7, none⟩) (hk : a + k ≤ n) (hn : n ≤ 800) (hn0 : 0 < n) :
    Calls Tryz.prog 148 #[.slice av k cap, p.agg] w fun e w' => e = .returned (.tuple #[]) ∧ Flat w' g n (fillF L a k p) ∧ Keep (fun i => i = g) w w' := by
  have HF : Hid (Flat w g n L) := h
  have gb := h.lt hn0
  have Hav : Hid (0 < k → av = some ⟨g, a * 7, none⟩) := hav
  clear h hav
  go_enter Tryz.func148, Tryz.ntmps148
  go_wp2_with fail
  have hb0 : Below w.heap.size w (w.alloc (.cells #[.int .i64 p.f, .int .i64 p.b, .bool p.bo, .bool p.un, .bool p.re] 33)) := (Below.refl _ _).alloc (Nat.le_refl _) _
  go_loopw [7] (fun i w' => ∃ j : Nat, j ≤ k ∧ i = .int .i64 j ∧ Flat w' g n (fillF L a j p) ∧ Keep (fun i => i = g) w w' ∧ PenAt w' w.heap.size 0 p) (fun i _ => k - (intOf i).toNat)
  case atStart => exact ⟨0, by omega, rfl, (HF.out.same (hb0.block _ gb)).congr (fun i _ => by unfold fillF; rw [if_neg (by omega)]), Keep.below _ hb0, pen_new _ _ _⟩
  case round =>
    obtain ⟨j, hj, rfl, hF, hK, hP⟩ := hrel
    have HF1 : Hid (Flat wr g n (fillF L a j p)) := hF
    by_cases hlt : j < k
    · have hav := Hav.out (by omega)
      subst hav
      obtain ⟨p0, p1, p2, p3, p4⟩ := hP
      have hlt' : (j : Int) < (k : Int) := by omega
      have Hoff : Hid ((a + j) * 7 = a * 7 + j * 7) := by show (a + j) * 7 = a * 7 + j * 7; omega
      clear hF HF
      obtain ⟨ao, hao⟩ : ∃ ao, a * 7 = ao := ⟨_, rfl⟩
      rw [hao]
      rw [hao] at Hoff
      go_wp2_with fail
      go_at_call 147
      refine (pBlank p _).mono ?_
      rintro e w3 ⟨rfl, hb3⟩
      have F3 : Flat w3 g n (fillF L a j p) := HF1.out.same (hb3.block _ (HF1.out.lt hn0))
      have P3 : PenAt w3 w.heap.size 0 p := PenAt.same ⟨p0, p1, p2, p3, p4⟩ (hb3.block _ (PenAt.lt ⟨p0, p1, p2, p3, p4⟩))
      have K3 := hK.thenBelow hb3
      have tg := F3.cel (a + j) (by omega)
      rw [Hoff.out] at tg
      obtain ⟨t0, t1, t2, t3, t4, t5, t6⟩ := tg
      have fr := F3.free
      have HF3 : Hid (Flat w3 g n (fillF L a j p)) := F3
      clear F3 hb3 p0 p1 p2 p3 p4 HF1 hK
      go_wp2_with fail
      have R := HF3.out.put (i := a + j) (by omega) (blk p)
      rw [Hoff.out] at R
      have P4 := P3.same (put7_other w3 g (ao + j * 7) w.heap.size (blk p) (by omega))
      have K4 := K3.put7 g (ao + j * 7) (blk p) (fun _ => rfl)
      generalize hW : put7 w3 g (ao + j * 7) (blk p) = w4 at *
      unfold put7 at hW
      rw [hW]
      refine ⟨⟨j + 1, by omega, by simp, R.congr (fun i _ => ?_), K4, P4⟩, by simp only [intOf]; omega⟩
      unfold updF fillF
      by_cases e1 : i = a + j
      · subst e1; rw [if_pos rfl, if_pos (by omega)]
      · rw [if_neg e1]
        by_cases e2 : a ≤ i ∧ i < a + j
        · rw [if_pos e2, if_pos (by omega)]
        · rw [if_neg e2, if_neg (by omega)]
    · have hjk : j = k := by omega
      subst hjk
      go_wp2_with fail
      go_end0
      exact ⟨rfl, hF, hK⟩
end Go.Proofs.YtjlfibhbfdckpaaGreatDoor

/- The program's rows of cells: cut. -/
namespace Go.Proofs.YtjlfibhbfdckpaaGreatDoor
open Go.RowKit
attribute [local go_sem ↓] Go.wp_at_zero Go.wp_at_succ
def cutF (L : Nat → Cel) (a k c : Nat) : Nat → Cel :=
  if 1 ≤ c ∧ c + 1 ≤ k ∧ (L (a + c)).p = 2 then updF (updF L (a + c - 1) (blk (L (a + c - 1)).n)) (a + c) (blk (L (a + c)).n) else L
set_option maxHeartbeats 2000000 in
theorem pCut (g n a k cap c : Nat) (L : Nat → Cel) (w : World) (h : Flat w g n L) (hk : a + k ≤ n) (hc : c ≤ k) (hn : n ≤ 800) (hk0 : 0 < k) :
    Calls Tryz.prog 174 #[.slice (some ⟨g, a * 7, none⟩) k cap, .int .i64 c] w fun e w' => e = .returned (.tuple #[]) ∧ Flat w' g n (cutF L a k c) ∧ Keep (fun i => i = g) w w' := by
  have HF : Hid (Flat w g n L) := h
  have HK : Hid (Keep (fun i => i = g) w w) := Keep.refl _ _
  clear h
  by_cases h1 : Wd.inB c 1 (k - 1) = true
  · have h1' := h1
    simp [Wd.inB] at h1'
    obtain ⟨l1, l2⟩ := h1'
    obtain ⟨d, rfl⟩ : ∃ d, c = d + 1 := ⟨c - 1, by omega⟩
    have c1 := HF.out.cel (a + d) (by omega)
    have c2 := HF.out.cel (a + (d + 1)) (by omega)
    have fr := HF.out.free
    obtain ⟨ao, hao⟩ : ∃ ao, a * 7 = ao := ⟨_, rfl⟩
    rw [show (a + d) * 7 = ao + d * 7 by omega] at c1
    rw [show (a + (d + 1)) * 7 = ao + (d + 1) * 7 by omega] at c2
    rw [hao]
    obtain ⟨x0, x1, x2, x3, x4, x5, x6⟩ := c1
    obtain ⟨y0, y1, y2, y3, y4, y5, y6⟩ := c2
    have Hao : Hid (a * 7 = ao) := hao
    clear hao
    have hlt : ((d : Int) + 1) < k := by omega
    by_cases h2 : (L (a + (d + 1))).p = 2
    · rw [h2] at y1
      go_enter Tryz.func174, Tryz.ntmps174
      go_wp2_with fail
      go_at_call 107
      refine (pWithin _ _ _ _).mono ?_
      rintro e w' ⟨rfl, hw'⟩
      replace hw' := hw'.symm
      subst hw'
      go_wp2_with fail
      go_at_call 147
      refine (pBlank (L (a + d)).n _).mono ?_
      rintro e w3 ⟨rfl, hb3⟩
      have gb := HF.out.lt (by omega)
      have F3 : Flat w3 g n L := HF.out.same (hb3.block _ gb)
      have K3 := HK.out.thenBelow hb3
      clear x0 x1 x2 x3 x4 x5 x6 y0 y1 y2 y3 y4 y5 y6 fr HF HK
      have c1 := F3.cel (a + d) (by omega)
      have c2 := F3.cel (a + (d + 1)) (by omega)
      have fr := F3.free
      rw [show (a + d) * 7 = ao + d * 7 by have := Hao.out; omega] at c1
      rw [show (a + (d + 1)) * 7 = ao + (d + 1) * 7 by have := Hao.out; omega] at c2
      obtain ⟨x0, x1, x2, x3, x4, x5, x6⟩ := c1
      obtain ⟨y0, y1, y2, y3, y4, y5, y6⟩ := c2
      have HF3 : Hid (Flat w3 g n L) := F3
      clear F3 hb3
      go_wp2_with fail
      have R := HF3.out.put (i := a + d) (by omega) (blk (L (a + d)).n)
      rw [show (a + d) * 7 = ao + d * 7 by have := Hao.out; omega] at R
      have K4 := K3.put7 g (ao + d * 7) (blk (L (a + d)).n) (fun _ => rfl)
      generalize hW : put7 w3 g (ao + d * 7) (blk (L (a + d)).n) = w4 at *
      unfold put7 at hW
      rw [hW]
      clear hW x0 x1 x2 x3 x4 x5 x6 y0 y1 y2 y3 y4 y5 y6 fr HF3 K3
      go_at_call 147
      refine (pBlank (L (a + (d + 1))).n _).mono ?_
      rintro e w5 ⟨rfl, hb5⟩
      have F5 : Flat w5 g n _ := R.same (hb5.block _ (R.lt (by omega)))
      have K5 := K4.thenBelow hb5
      have c2 := F5.cel (a + (d + 1)) (by omega)
      have fr := F5.free
      rw [show (a + (d + 1)) * 7 = ao + (d + 1) * 7 by have := Hao.out; omega] at c2
      obtain ⟨y0, y1, y2, y3, y4, y5, y6⟩ := c2
      have HF5 : Hid (Flat w5 g n (updF L (a + d) (blk (L (a + d)).n))) := F5
      clear F5 hb5 R K4
      go_wp2_with fail
      have R := HF5.out.put (i := a + (d + 1)) (by omega) (blk (L (a + (d + 1))).n)
      rw [show (a + (d + 1)) * 7 = ao + (d + 1) * 7 by have := Hao.out; omega] at R
      have K6 := K5.put7 g (ao + (d + 1) * 7) (blk (L (a + (d + 1))).n) (fun _ => rfl)
      generalize hW : put7 w5 g (ao + (d + 1) * 7) (blk (L (a + (d + 1))).n) = w6 at *
      unfold put7 at hW
      rw [hW]
      go_end0
      refine ⟨rfl, ?_, K6⟩
      unfold cutF
      rw [if_pos ⟨by omega, by omega, h2⟩, show a + (d + 1) - 1 = a + d by omega]
      exact R
    · have h2' : ¬ (L (a + (d + 1))).p = 2 := h2
      go_enter Tryz.func174, Tryz.ntmps174
      go_wp2_with fail
      go_at_call 107
      refine (pWithin _ _ _ _).mono ?_
      rintro e w' ⟨rfl, hw'⟩
      replace hw' := hw'.symm
      subst hw'
      go_wp2_with fail
      refine bodyPost_ret (v := .tuple #[]) (by simp [results, Tryz.results174, go_sem]) rfl ⟨rfl, ?_, HK.out⟩
      unfold cutF
      rw [if_neg (fun h => h2 h.2.2)]
      exact HF.out
  · go_enter Tryz.func174, Tryz.ntmps174
    go_wp2_with fail
    go_at_call 107
    refine (pWithin _ _ _ _).mono ?_
    rintro e w' ⟨rfl, hw'⟩
    replace hw' := hw'.symm
    subst hw'
    rw [show Wd.inB (c : Int) 1 (k - 1) = false by simpa using h1]
    go_wp2_with fail
    refine bodyPost_ret (v := .tuple #[]) (by simp [results, Tryz.results174, go_sem]) rfl ⟨rfl, ?_, HK.out⟩
    unfold cutF
    rw [if_neg (fun h => h1 (by simp [Wd.inB]; omega))]
    exact HF.out
end Go.Proofs.YtjlfibhbfdckpaaGreatDoor

/- The program's grid: what it is in memory; Width, Height, Has, line, part, Cell. -/
namespace Go.Proofs.YtjlfibhbfdckpaaGreatDoor
open Go.RowKit
attribute [local go_sem ↓] Go.wp_at_zero Go.wp_at_succ
def lin (W : Nat) (G : Nat → Nat → Cel) : Nat → Cel := fun i => G (i % W) (i / W)
def unlin (W : Nat) (L : Nat → Cel) : Nat → Nat → Cel := fun x y => L (y * W + x)
theorem lin_at {W : Nat} (G : Nat → Nat → Cel) {x : Nat} (y : Nat) (hx : x < W) : lin W G (y * W + x) = G x y := by
  unfold lin
  have a : (y * W + x) % W = x := by rw [Nat.mul_comm, Nat.mul_add_mod, Nat.mod_eq_of_lt hx]
  have b : (y * W + x) / W = y := by rw [Nat.mul_comm, Nat.mul_add_div (by omega), Nat.div_eq_of_lt hx]; rfl
  rw [a, b]
theorem Grid.flat {w : World} {g W H : Nat} {G : Nat → Nat → Cel} (h : Grid w g W H G) (hW : 0 < W) : Flat w g (H * W) (lin W G) := by
  refine ⟨fun i hi => ?_, h.free⟩
  have a := h.cel (i % W) (i / W) (Nat.mod_lt _ hW) ((Nat.div_lt_iff_lt_mul hW).2 hi)
  rw [Nat.mul_comm (i / W), Nat.div_add_mod] at a
  exact a
theorem Flat.grid {w : World} {g W H : Nat} {L : Nat → Cel} (h : Flat w g (H * W) L) : Grid w g W H (unlin W L) :=
  ⟨fun _ _ hx hy => h.cel _ (place_lt hx hy), h.free⟩
/-- The program's grid: a struct of three cells in block bg, the cells in block g. -/
structure GrAt (w : World) (bg g W H N : Nat) (G : Nat → Nat → Cel) : Prop where
  blk : ∃ cp, N ≤ cp ∧ w.heap[bg]? = some (.cells #[.int .i64 W, .int .i64 H, .slice (some ⟨g, 0, none⟩) N cp] 166)
  grid : Grid w g W H G
  hN : N = H * W
  ne : bg ≠ g
  w1 : 1 ≤ W
  w2 : W ≤ 40
  h1 : 1 ≤ H
  h2 : H ≤ 20
theorem GrAt.nle {w : World} {bg g W H N : Nat} {G : Nat → Nat → Cel} (h : GrAt w bg g W H N G) : N ≤ 800 := by
  rw [h.hN]; exact Nat.mul_le_mul h.h2 h.w2
theorem GrAt.lt {w : World} {bg g W H N : Nat} {G : Nat → Nat → Cel} (h : GrAt w bg g W H N G) : bg < w.heap.size := by obtain ⟨cp, _, e⟩ := h.blk; exact (Array.getElem?_eq_some_iff.1 e).1
theorem GrAt.glt {w : World} {bg g W H N : Nat} {G : Nat → Nat → Cel} (h : GrAt w bg g W H N G) : g < w.heap.size := (h.grid.cel 0 0 h.w1 h.h1).lt
theorem GrAt.same {w w' : World} {bg g W H N : Nat} {G : Nat → Nat → Cel} (h : GrAt w bg g W H N G) (h1 : w'.heap[bg]? = w.heap[bg]?) (h2 : w'.heap[g]? = w.heap[g]?) : GrAt w' bg g W H N G :=
  ⟨by rw [h1]; exact h.blk, h.grid.same h2, h.hN, h.ne, h.w1, h.w2, h.h1, h.h2⟩
theorem GrAt.below {w w' : World} {bg g W H N : Nat} {G : Nat → Nat → Cel} (h : GrAt w bg g W H N G) (hb : Below w.heap.size w w') : GrAt w' bg g W H N G :=
  h.same (hb.block _ h.lt) (hb.block _ h.glt)
theorem GrAt.c0 {w : World} {bg g W H N : Nat} {G : Nat → Nat → Cel} (h : GrAt w bg g W H N G) : w.cell? ⟨bg, 0, none⟩ = some (.int .i64 W) := by obtain ⟨cp, _, e⟩ := h.blk; rw [cell_of_block e]; rfl
theorem GrAt.c1 {w : World} {bg g W H N : Nat} {G : Nat → Nat → Cel} (h : GrAt w bg g W H N G) : w.cell? ⟨bg, 1, none⟩ = some (.int .i64 H) := by obtain ⟨cp, _, e⟩ := h.blk; rw [cell_of_block e]; rfl
theorem GrAt.c2 {w : World} {bg g W H N : Nat} {G : Nat → Nat → Cel} (h : GrAt w bg g W H N G) : ∃ cp, N ≤ cp ∧ w.cell? ⟨bg, 2, none⟩ = some (.slice (some ⟨g, 0, none⟩) N cp) := by obtain ⟨cp, hc, e⟩ := h.blk; exact ⟨cp, hc, by rw [cell_of_block e]; rfl⟩
theorem GrAt.congr {w : World} {bg g W H N : Nat} {G K : Nat → Nat → Cel} (h : GrAt w bg g W H N G) (e : EqOn W H G K) : GrAt w bg g W H N K :=
  ⟨h.blk, ⟨fun x y hx hy => by rw [← e x y hx hy]; exact h.grid.cel x y hx hy, h.grid.free⟩, h.hN, h.ne, h.w1, h.w2, h.h1, h.h2⟩
/-- The cells are others now, the grid the same. -/
theorem GrAt.with {w w' : World} {bg g W H N : Nat} {G K : Nat → Nat → Cel} {L : Nat → Cel} (h : GrAt w bg g W H N G) (f : Flat w' g N L) (k : Keep (fun i => i = g) w w') (e : EqOn W H (unlin W L) K) : GrAt w' bg g W H N K := by
  have f' := f
  rw [h.hN] at f'
  exact GrAt.congr ⟨by rw [k.block _ h.lt h.ne]; exact h.blk, f'.grid, h.hN, h.ne, h.w1, h.w2, h.h1, h.h2⟩ e
theorem GrAt.flat {w : World} {bg g W H N : Nat} {G : Nat → Nat → Cel} (h : GrAt w bg g W H N G) : Flat w g N (lin W G) := by
  rw [h.hN]; exact h.grid.flat h.w1
theorem below_drewN (w : World) (n : Nat) : Below w.heap.size w (w.drewN n) := ⟨rfl, rfl, rfl, Nat.le_refl _, fun _ _ => rfl⟩
theorem pWidth (bg g W H N : Nat) (G : Nat → Nat → Cel) (w : World) (h : GrAt w bg g W H N G) :
    Calls Tryz.prog 126 #[.pointer (some ⟨bg, 0, none⟩)] w fun e w' => e = .returned (.int .i64 W) ∧ w' = w := by
  have c := h.c0
  go_enter Tryz.func126, Tryz.ntmps126
  go_wp2
  go_ret
  exact ⟨rfl, rfl⟩
theorem pHeight (bg g W H N : Nat) (G : Nat → Nat → Cel) (w : World) (h : GrAt w bg g W H N G) :
    Calls Tryz.prog 127 #[.pointer (some ⟨bg, 0, none⟩)] w fun e w' => e = .returned (.int .i64 H) ∧ w' = w := by
  have c := h.c1
  go_enter Tryz.func127, Tryz.ntmps127
  go_wp2
  go_ret
  exact ⟨rfl, rfl⟩
theorem pHas (bg g W H N : Nat) (G : Nat → Nat → Cel) (x y : Int) (w : World) (h : GrAt w bg g W H N G) :
    Calls Tryz.prog 103 #[.pointer (some ⟨bg, 0, none⟩), .int .i64 x, .int .i64 y] w fun e w' => e = .returned (.bool (inG W H x y)) ∧ w' = w := by
  have c := h.c0
  have d := h.c1
  have a1 := h.w1
  have a2 := h.w2
  have a3 := h.h1
  have a4 := h.h2
  have hx : inG W H x y = (Wd.inB x 0 (W - 1) && Wd.inB y 0 (H - 1)) := by
    rw [Bool.eq_iff_iff, inG_iff]; simp [Wd.inB]; omega
  rw [hx]
  by_cases h1 : Wd.inB x 0 (W - 1) = true
  all_goals
    go_enter Tryz.func103, Tryz.ntmps103
    go_wp2_with (first | (go_at_call 107; refine (pWithin _ _ _ _).mono ?_; rintro e w' ⟨rfl, rfl⟩))
    go_ret
    exact ⟨by simp [h1], rfl⟩
theorem pLine (bg g W H N : Nat) (G : Nat → Nat → Cel) (y m r : Nat) (w : World) (h : GrAt w bg g W H N G) (hy : y < H) (hm : y * W = m) (cp : Nat) (hc : N ≤ cp) (d : w.cell? ⟨bg, 2, none⟩ = some (.slice (some ⟨g, 0, none⟩) N cp)) (hr : m + r = cp) :
    Calls Tryz.prog 154 #[.pointer (some ⟨bg, 0, none⟩), .int .i64 y] w fun e w' => e = .returned (.slice (some ⟨g, m * 7, none⟩) W r) ∧ Below w.heap.size w w' := by
  have c := h.c0
  have a1 := h.w1
  have a2 := h.w2
  have a3 := h.h1
  have a4 := h.h2
  have nle := h.nle
  have hmy : (y : Int) * W = m := by rw [← hm]; simp
  have hmy' : ((y : Int) + 1) * W = m + W := by rw [Int.add_mul, hmy]; omega
  have hmw : m + W ≤ N := by rw [← hm, h.hN]; have := Nat.mul_le_mul_right W hy; rw [Nat.succ_mul] at this; exact this
  clear hm
  go_enter Tryz.func154, Tryz.ntmps154
  go_wp2_with fail
  go_quiet (fail)
  rw [show m + W - m = W by omega, show cp - m = r by omega]
  go_wp2_with fail
  go_ret
  exact ⟨rfl, below_drewN _ _⟩
def partF (L : Nat → Cel) (m W x0 x1 : Nat) : Nat → Cel := cutF (cutF L m W x0) m W x1
set_option maxHeartbeats 2000000 in
theorem pPart (bg g W H N : Nat) (G : Nat → Nat → Cel) (x0 x1 y m r : Nat) (w : World) (h : GrAt w bg g W H N G) (hy : y < H) (hm : y * W = m) (cp : Nat) (hc : N ≤ cp) (d : w.cell? ⟨bg, 2, none⟩ = some (.slice (some ⟨g, 0, none⟩) N cp)) (hr : m + r = cp) (hx : x0 < x1) (hx1 : x1 ≤ W) :
    Calls Tryz.prog 155 #[.pointer (some ⟨bg, 0, none⟩), .int .i64 x0, .int .i64 x1, .int .i64 y] w fun e w' => e = .returned (.slice (some ⟨g, (m + x0) * 7, none⟩) (x1 - x0 : Nat) (r - x0 : Nat)) ∧ Flat w' g N (partF (lin W G) m W x0 x1) ∧ Keep (fun i => i = g) w w' := by
  have nle := h.nle
  have hmw : m + W ≤ N := by rw [← hm, h.hN]; have := Nat.mul_le_mul_right W hy; rw [Nat.succ_mul] at this; exact this
  have w1 := h.w1
  have w2 := h.w2
  have HG : Hid (GrAt w bg g W H N G) := h
  have Hm : Hid (y * W = m) := hm
  have Hd : Hid (w.cell? ⟨bg, 2, none⟩ = some (.slice (some ⟨g, 0, none⟩) N cp)) := d
  clear h hm d
  go_enter Tryz.func155, Tryz.ntmps155
  go_wp2_with fail
  go_at_call 154
  refine (pLine bg g W H N G y m r _ HG.out hy Hm.out cp hc Hd.out hr).mono ?_
  rintro e w1 ⟨rfl, hb1⟩
  have HF1 : Hid (Flat w1 g N (lin W G)) := HG.out.flat.same (hb1.block _ HG.out.glt)
  have K1 : Keep (fun i => i = g) w w1 := Keep.below _ hb1
  clear hb1
  go_wp2_with fail
  go_at_call 174
  refine (pCut g N m W r x0 _ _ HF1.out hmw (by omega) nle (by omega)).mono ?_
  rintro e w3 ⟨rfl, F3, k3⟩
  have HF3 : Hid (Flat w3 g N (cutF (lin W G) m W x0)) := F3
  have K3 := K1.trans k3 (fun _ _ h => h)
  clear F3 k3 HF1
  go_wp2_with fail
  go_at_call 174
  refine (pCut g N m W r x1 _ _ HF3.out hmw (by omega) nle (by omega)).mono ?_
  rintro e w4 ⟨rfl, F4, k4⟩
  have HF4 : Hid (Flat w4 g N (partF (lin W G) m W x0 x1)) := F4
  have K4 := K3.trans k4 (fun _ _ h => h)
  clear F4 k4 HF3 K1 K3
  go_wp2_with fail
  rw [show m * 7 + x0 * 7 = (m + x0) * 7 by omega]
  go_ret
  exact ⟨rfl, HF4.out, K4⟩
set_option maxHeartbeats 1000000 in
theorem pCell (bg g W H N : Nat) (G : Nat → Nat → Cel) (x y : Nat) (w : World) (h : GrAt w bg g W H N G) (hx : x < W) (hy : y < H) :
    Calls Tryz.prog 146 #[.pointer (some ⟨bg, 0, none⟩), .int .i64 x, .int .i64 y] w fun e w' => e = .returned (G x y).agg ∧ Below w.heap.size w w' := by
  have hl : y * W + x < N := by rw [h.hN]; exact place_lt (by omega) (by omega)
  have hlen := h.nle
  have h0 := h.c0
  obtain ⟨cp, hcp, h2⟩ := h.c2
  have hc := h.grid.cel x y (by omega) (by omega)
  obtain ⟨i, hi⟩ : ∃ i, y * W + x = i := ⟨_, rfl⟩
  obtain ⟨m, hm⟩ : ∃ m, y * W = m := ⟨_, rfl⟩
  rw [hi] at hl hc
  rw [hm] at hi
  generalize G x y = c at *
  clear h
  have hw1 : IntKind.i64.wrap ((y : Int) * (W : Int)) = (m : Int) := by rw [← Int.natCast_mul, hm]; exact wrap_id _ (by omega) (by omega)
  have hw2 : IntKind.i64.wrap ((m : Int) + (x : Int)) = (i : Int) := by rw [wrap_id _ (by omega) (by omega)]; omega
  have hi1 : (0 : Int) ≤ (i : Int) := by omega
  have hi2 : (i : Int) < (N : Int) := by omega
  clear hm hi
  obtain ⟨c0, c1, c2, c3, c4, c5, c6⟩ := hc
  have n1 := World.new_ne w _ h0
  have n2 := World.new_ne w _ c0
  go_enter Tryz.func146, Tryz.ntmps146
  go_wp2
  go_region_held3 (fun w' => w'.cell? ⟨bg, 0, none⟩ = some (.int .i64 W) ∧ w'.cell? ⟨bg, 2, none⟩ = some (.slice (some ⟨g, 0, none⟩) N cp) ∧ w'.cell? ⟨g, i * 7, none⟩ = some (.int .i32 c.r) ∧ w'.cell? ⟨g, i * 7 + 1, none⟩ = some (.int .i64 c.p) ∧ w'.cell? ⟨g, i * 7 + 2, none⟩ = some (.int .i64 c.n.f) ∧ w'.cell? ⟨g, i * 7 + 3, none⟩ = some (.int .i64 c.n.b) ∧ w'.cell? ⟨g, i * 7 + 4, none⟩ = some (.bool c.n.bo) ∧ w'.cell? ⟨g, i * 7 + 5, none⟩ = some (.bool c.n.un) ∧ w'.cell? ⟨g, i * 7 + 6, none⟩ = some (.bool c.n.re)) (go_keep) (fail)
  go_wp2
  exact bodyPost_ret (v := c.agg) (by simp [results, Tryz.results146, go_sem]) rfl ⟨rfl, ((Below.refl _ _).alloc (Nat.le_refl _) _).drew⟩
end Go.Proofs.YtjlfibhbfdckpaaGreatDoor

/- The program's grid: a stretch of a line written. -/
namespace Go.Proofs.YtjlfibhbfdckpaaGreatDoor
def stretch (x0 x1 y : Nat) : Nat → Nat → Bool := fun a b => decide (b = y) && decide (x0 ≤ a) && decide (a < x1)
theorem stretch_iff {x0 x1 y a b : Nat} : stretch x0 x1 y a b = true ↔ b = y ∧ x0 ≤ a ∧ a < x1 := by simp [stretch, and_assoc]
theorem cutF_far {L : Nat → Cel} {m W c i : Nat} (h : i ≠ m + c) (h2 : i + 1 ≠ m + c) : cutF L m W c i = L i := by
  unfold cutF
  split
  · unfold updF; rw [if_neg (by omega), if_neg (by omega)]
  · rfl
theorem cutF_at {L : Nat → Cel} {m W c : Nat} (h : 1 ≤ c) (h2 : c < W) : cutF L m W c (m + c) = if (L (m + c)).p = 2 then blk (L (m + c)).n else L (m + c) := by
  unfold cutF
  by_cases e : (L (m + c)).p = 2
  · rw [if_pos ⟨h, by omega, e⟩, if_pos e]; unfold updF; rw [if_pos rfl]
  · rw [if_neg (fun x => e x.2.2), if_neg e]
theorem cutF_left {L : Nat → Cel} {m W c : Nat} (h : 1 ≤ c) (h2 : c < W) : cutF L m W c (m + c - 1) = if (L (m + c)).p = 2 then blk (L (m + c - 1)).n else L (m + c - 1) := by
  unfold cutF
  by_cases e : (L (m + c)).p = 2
  · rw [if_pos ⟨h, by omega, e⟩, if_pos e]; unfold updF; rw [if_neg (by omega), if_pos rfl]
  · rw [if_neg (fun x => e x.2.2), if_neg e]
theorem cutF_none {L : Nat → Cel} {m W c : Nat} (h : c = 0 ∨ W ≤ c) : cutF L m W c = L := by
  unfold cutF
  rw [if_neg (by omega)]
theorem part_wrt {W H : Nat} {G : Nat → Nat → Cel} (h : Wf W H G) {x0 x1 y : Nat} (hx : x0 < x1) (hx1 : x1 ≤ W) (hy : y < H) (c : Nat → Cel) {L : Nat → Cel}
    (e : ∀ i, L i = if y * W + x0 ≤ i ∧ i < y * W + x1 then c (i - y * W) else partF (lin W G) (y * W) W x0 x1 i) :
    EqOn W H (unlin W L) (wrt G (stretch x0 x1 y) (fun a _ => c a)) := by
  intro a b ha hb
  unfold unlin
  rw [e]
  unfold wrt
  by_cases hby : b = y
  · subst hby
    by_cases hs : x0 ≤ a ∧ a < x1
    · rw [if_pos (by omega), if_pos (stretch_iff.2 ⟨rfl, hs⟩), show b * W + a - b * W = a by omega]
    · rw [if_neg (by omega), if_neg (fun x => hs (stretch_iff.1 x).2)]
      unfold partF
      rcases (by omega : a < x0 ∨ x1 ≤ a) with l | l
      · rw [cutF_far (c := x1) (by omega) (by omega)]
        by_cases hl : a + 1 = x0
        · subst hl
          have := cutF_left (L := lin W G) (m := b * W) (W := W) (c := a + 1) (by omega) (by omega)
          rw [show b * W + (a + 1) - 1 = b * W + a by omega, lin_at G b (by omega), lin_at G b ha] at this
          rw [this]
          by_cases hp : (G (a + 1) b).p = 2
          · obtain ⟨_, t⟩ := h.tail (a + 1) b (by omega) hb hp
            simp only [Nat.add_sub_cancel] at t
            rw [if_pos hp, if_pos (.inl ⟨by rw [t], stretch_iff.2 ⟨rfl, by omega, by omega⟩⟩)]
          · rw [if_neg hp, if_neg]
            rintro (⟨p, _⟩ | ⟨_, _, q⟩)
            · obtain ⟨_, t⟩ := h.head a b ha hb p
              exact hp (by rw [t])
            · have := stretch_iff.1 q; omega
        · rw [cutF_far (by omega) (by omega), lin_at G b ha, if_neg]
          rintro (⟨_, q⟩ | ⟨_, _, q⟩) <;> (have := stretch_iff.1 q; omega)
      · by_cases hl : a = x1
        · subst hl
          rw [cutF_at (by omega) (by omega), cutF_far (c := x0) (by omega) (by omega), lin_at G b ha]
          by_cases hp : (G a b).p = 2
          · rw [if_pos hp, if_pos (.inr ⟨hp, by omega, stretch_iff.2 ⟨rfl, by omega, by omega⟩⟩)]
          · rw [if_neg hp, if_neg]
            rintro (⟨_, q⟩ | ⟨q, _⟩)
            · have := stretch_iff.1 q; omega
            · exact hp q
        · rw [cutF_far (by omega) (by omega), cutF_far (by omega) (by omega), lin_at G b ha, if_neg]
          rintro (⟨_, q⟩ | ⟨_, _, q⟩) <;> (have := stretch_iff.1 q; omega)
  · have far : b * W + W ≤ y * W ∨ y * W + W ≤ b * W := by
      rcases (by omega : b < y ∨ y < b) with l | l
      · left; have := Nat.mul_le_mul_right W l; rw [Nat.succ_mul] at this; exact this
      · right; have := Nat.mul_le_mul_right W l; rw [Nat.succ_mul] at this; exact this
    rw [if_neg (by omega), if_neg (fun x => hby (stretch_iff.1 x).1), if_neg]
    · unfold partF
      have f : ∀ (M : Nat → Cel) c, c ≤ W → cutF M (y * W) W c (b * W + a) = M (b * W + a) := by
        intro M c hc
        by_cases hc0 : c = 0 ∨ W ≤ c
        · rw [cutF_none hc0]
        · exact cutF_far (by omega) (by omega)
      rw [f _ _ hx1, f _ _ (by omega), lin_at G b ha]
    · rintro (⟨_, q⟩ | ⟨_, _, q⟩) <;> exact hby (stretch_iff.1 q).1
end Go.Proofs.YtjlfibhbfdckpaaGreatDoor

/- The walks of the program's Width. -/
namespace Go.Proofs.YtjlfibhbfdckpaaGreatDoor.Wd
open Go.RowKit
theorem within32 (n a b : Int) (w : World) :
    Calls Tryz.prog 189 #[.int .i32 n, .int .i32 a, .int .i32 b] w fun e w' => e = .returned (.bool (inB n a b)) ∧ w' = w := by
  by_cases h1 : a ≤ n <;> by_cases h2 : n ≤ b
  all_goals
    go_enter Tryz.func189, Tryz.ntmps189
    go_wp2
    go_ret
    exact ⟨by simp [inB, h1, h2], rfl⟩
theorem validRune (n : Int) (w : World) :
    Calls Tryz.prog 188 #[.int .i32 n] w fun e w' => e = .returned (.bool (validB n)) ∧ w' = w := by
  rcases valid_cases n with ⟨h1, h2, h3⟩ | ⟨h1, h2, h3⟩ | ⟨h1, h3⟩ | ⟨h1, h2, h3⟩ | ⟨h1, h3⟩
  all_goals
    rw [h3]; clear h3
    go_enter Tryz.func188, Tryz.ntmps188
    go_wp2
    go_ret
    exact ⟨by simp, rfl⟩
set_option maxHeartbeats 400000 in
theorem takesNothing (n : Int) (w : World) :
    Calls Tryz.prog 162 #[.int .i32 n] w fun e w' => e = .returned (.bool (zeroB n)) ∧ w' = w := by
  rcases zero_cases n with ⟨h1, h3⟩ | ⟨h1, h2, h3⟩ | ⟨h1, h2, h4, h3⟩ | ⟨h1, h2, h4, h5, h3⟩ | ⟨h1, h2, h4, h5, h6, h3⟩ | ⟨h1, h2, h4, h5, h6, h3⟩
  all_goals
    rw [h3]; clear h3
    go_enter Tryz.func162, Tryz.ntmps162
    go_wp2_with (first | (go_at_call 188; refine (validRune _ _).mono ?_; rintro e w' ⟨rfl, rfl⟩) | (go_at_call 189; refine (within32 _ _ _ _).mono ?_; rintro e w' ⟨rfl, rfl⟩))
    go_ret
    exact ⟨by simp [*], rfl⟩
set_option maxHeartbeats 1000000 in
theorem isWide (n : Int) (w : World) :
    Calls Tryz.prog 163 #[.int .i32 n] w fun e w' => e = .returned (.bool (wideB n)) ∧ w' = w := by
  rcases wide_cases n with ⟨h0, hz⟩ | ⟨h0, h1, hz⟩ | ⟨h0, h1, h2, hz⟩ | ⟨h0, h1, h2, h3, hz⟩ | ⟨h0, h1, h2, h3, h4, hz⟩ | ⟨h0, h1, h2, h3, h4, h5, hz⟩ | ⟨h0, h1, h2, h3, h4, h5, h6, hz⟩ | ⟨h0, h1, h2, h3, h4, h5, h6, h7, hz⟩ | ⟨h0, h1, h2, h3, h4, h5, h6, h7, h8, hz⟩ | ⟨h0, h1, h2, h3, h4, h5, h6, h7, h8, hz⟩
  all_goals
    rw [hz]; clear hz
    go_enter Tryz.func163, Tryz.ntmps163
    go_wp2_with (go_at_call 189; refine (within32 _ _ _ _).mono ?_; rintro e w' ⟨rfl, rfl⟩)
    go_ret
    exact ⟨by simp [*], rfl⟩
theorem lettersWidth (n : Int) (w : World) :
    Calls Tryz.prog 129 #[.int .i32 n] w fun e w' => e = .returned (.int .i64 (wd n)) ∧ w' = w := by
  cases h1 : zeroB n <;> cases h2 : wideB n
  all_goals
    go_enter Tryz.func129, Tryz.ntmps129
    go_wp2_with (first | (go_at_call 162; refine (takesNothing _ _).mono ?_; rintro e w' ⟨rfl, rfl⟩) | (go_at_call 163; refine (isWide _ _).mono ?_; rintro e w' ⟨rfl, rfl⟩))
    go_ret
    exact ⟨by simp [wd, h1, h2], rfl⟩
end Go.Proofs.YtjlfibhbfdckpaaGreatDoor.Wd
