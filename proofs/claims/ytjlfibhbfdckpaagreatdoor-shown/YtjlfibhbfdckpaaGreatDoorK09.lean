/- Texts of the proof, one behind the other: DkF, Qr, DkB, DkS. -/
import Derived.Test.YtjlfibhbfdckpaaGreatDoorK05
import Derived.Test.YtjlfibhbfdckpaaGreatDoorK08
import Derived.WalkKit
import Derived.Below
import Derived.RangeFuncBox
import Derived.RangeFuncLeaves
import Derived.RangeFuncCalls
import Derived.RangeFuncNested
import Derived.Shelf.Abstract
import Derived.Shelf.RegionOpen
import Derived.OwnWalkIn
import Derived.TacticsInMore
import Derived.LoopNIn
import Derived.LoopIn
import Derived.Sort.QuietIn
/- The program's desk: find, count. -/
namespace Go.Proofs.YtjlfibhbfdckpaaGreatDoor
open Go.RowKit
attribute [local go_sem ↓] Go.wp_at_zero Go.wp_at_succ
theorem ownsRow_open {w : World} {base : Nat} {e : TypeId} {v : Value} {ks : List Value} (h : w.ownsRow base e 1 v ks.length ks) : ∃ p cap, v = .slice p ks.length cap ∧ ks.length ≤ cap ∧ cap ≤ 9223372036854775807 ∧ ∀ j x, ks[j]? = some x → ∃ ib, p = some ⟨ib, 0, none⟩ ∧ w.cell? ⟨ib, j, none⟩ = some x := by
  rcases h.2 with ⟨rfl, h0⟩ | ⟨g, cap, cur, rfl, h1, h2, h3, h4, h5, h6⟩
  · refine ⟨none, 0, by rw [h0], by omega, by omega, fun j x hx => ?_⟩
    rw [List.length_eq_zero_iff.1 h0] at hx
    simp at hx
  · refine ⟨some ⟨g, 0, none⟩, cap, rfl, h3, h4, fun j x hx => ⟨g, rfl, ?_⟩⟩
    rw [cell_of_block h2]
    have hj : j < ks.length := (List.getElem?_eq_some_iff.1 hx).1
    rw [Nat.mul_one] at h6
    rw [← Array.getElem?_toList, ← List.getElem?_take_of_lt hj, h6]
    exact hx
theorem Mm.ptrs_len (M : Mm) (l : List Wn) : (M.ptrs l).length = l.length := by simp [Mm.ptrs]
theorem Mm.ptrs_at {M : Mm} {l : List Wn} {j : Nat} {u : Wn} (h : l[j]? = some u) : (M.ptrs l)[j]? = some (M.ptr u.n) := by simp [Mm.ptrs, h]
set_option maxHeartbeats 1000000 in
theorem wFindStep (M : Mm) (v : Wn) (ks : List Wn) (bn cn gn : Nat) (pp : Option Addr) (sv : Value) (num : Int) (r : Option Addr) (g : Wn → Bool) (w : World) (h : WinV w v bn cn gn pp sv (M.ptrs ks)) (hr : v.n = num → r = some ⟨bn, 0, none⟩) (hr0 : r ≠ none) (res : Option Addr) (hres : res = if (decide (v.n = num) || ks.any g) = true then r else none)
    (hcall : ∀ u ∈ ks, Calls Tryz.prog 167 #[M.ptr u.n, .int .i64 num] w fun e w' => e = .returned (.pointer (if g u = true then r else none)) ∧ w' = w) :
    Calls Tryz.prog 167 #[.pointer (some ⟨bn, 0, none⟩), .int .i64 num] w fun e w' => e = .returned (.pointer res) ∧ w' = w := by
  have Hres : Hid (res = if (decide (v.n = num) || ks.any g) = true then r else none) := hres
  clear hres
  have c0 := h.f0
  have c6 := h.f6
  obtain ⟨p, cap, rfl, hcap, hmax, hcell⟩ := ownsRow_open h.row
  have Hc : Hid (∀ j x, (M.ptrs ks)[j]? = some x → ∃ ib, p = some ⟨ib, 0, none⟩ ∧ w.cell? ⟨ib, j, none⟩ = some x) := hcell
  have Hcall : Hid (∀ u ∈ ks, Calls Tryz.prog 167 #[M.ptr u.n, .int .i64 num] w fun e w' => e = .returned (.pointer (if g u = true then r else none)) ∧ w' = w) := hcall
  rw [M.ptrs_len] at *
  clear h hcell hcall
  by_cases h1 : v.n = num
  · obtain rfl : res = some ⟨bn, 0, none⟩ := by rw [Hres.out, if_pos (by simp [h1]), hr h1]
    go_enter Tryz.func167, Tryz.ntmps167
    go_wp2_with fail
    go_ret
    exact ⟨rfl, rfl⟩
  · have Hr : Hid (r ≠ none) := hr0
    have hb : (v.n == num) = false := by simp [h1]
    clear hr hr0
    go_enter Tryz.func167, Tryz.ntmps167
    go_wp2_with fail
    go_loopw [20] (fun i wr => ∃ k : Nat, k ≤ ks.length ∧ i = .int .i64 k ∧ (∀ u ∈ ks.take k, g u = false) ∧ wr = w) (fun i _ => ks.length - (intOf i).toNat)
    case atStart => exact ⟨0, by omega, rfl, by simp, rfl⟩
    case round =>
      obtain ⟨k, hk, rfl, hg, rfl⟩ := hrel
      by_cases hlt : k < ks.length
      · obtain ⟨u, hu⟩ : ∃ u, ks[k]? = some u := ⟨_, List.getElem?_eq_getElem hlt⟩
        obtain ⟨ib, rfl, hc⟩ := Hc.out k _ (Mm.ptrs_at hu)
        have hum : u ∈ ks := List.mem_of_getElem? hu
        have hgs : ks.take (k + 1) = ks.take k ++ [u] := by rw [List.take_add_one, hu]; rfl
        cases hgu : g u with
        | true =>
          obtain ⟨a, ha⟩ : ∃ a, r = some a := Option.ne_none_iff_exists'.1 Hr.out
          subst ha
          obtain rfl : res = some a := by rw [Hres.out, if_pos]; rw [List.any_eq_true.2 ⟨u, hum, hgu⟩, Bool.or_true]
          go_wp2_with (first | (go_at_call 167; refine (Hcall.out u hum).mono ?_; rw [hgu]; rintro e w' ⟨rfl, rfl⟩))
          go_ret
          exact ⟨rfl, rfl⟩
        | false =>
          go_wp2_with (first | (go_at_call 167; refine (Hcall.out u hum).mono ?_; rw [hgu]; rintro e w' ⟨rfl, rfl⟩))
          go_roundw
          case rel =>
            refine ⟨k + 1, by omega, by simp, fun x hx => ?_, trivial⟩
            rw [hgs] at hx
            rcases List.mem_append.1 hx with hx | hx
            · exact hg x hx
            · obtain rfl : x = u := by simpa using hx
              exact hgu
          case measure => simp [intOf]; omega
      · obtain rfl : k = ks.length := by omega
        rw [List.take_length] at hg
        have hn : ks.any g = false := by
          rw [Bool.eq_false_iff]
          intro hx
          obtain ⟨u, hu, hgu⟩ := List.any_eq_true.1 hx
          rw [hg u hu] at hgu
          cases hgu
        obtain rfl : res = none := by rw [Hres.out, if_neg]; rw [hn, decide_eq_false h1]; simp
        go_wp2_with fail
        go_ret
        exact ⟨rfl, rfl⟩
theorem wFind {M : Mm} {L : List Wn} {last : Int} {N : Nat} {s : Rs} {t : Pt} {rk : Int → Nat} {K : Nat} (T : Tree L rk K) (num : Int) (w : World) (h : DkAt w M L last N s t) : ∀ (f : Nat) (v : Wn), v ∈ L → K ≤ rk v.n + f →
    Calls Tryz.prog 167 #[M.ptr v.n, .int .i64 num] w fun e w' => e = .returned (.pointer (if hasP L f v.n num = true then some ⟨M.b num, 0, none⟩ else none)) ∧ w' = w := by
  intro f
  induction f with
  | zero =>
    intro v hv hk
    have hn := T.noKids (T.pos hv) (by omega)
    have := wFindStep M v _ _ _ _ _ _ num (some ⟨M.b num, 0, none⟩) (fun _ => false) w (h.win v hv) (fun e => by rw [e]) (by simp) _ rfl (fun u hu => by rw [hn] at hu; simp at hu)
    simpa [hasP, hn] using this
  | succ f ih =>
    intro v hv hk
    refine wFindStep M v _ _ _ _ _ _ num (some ⟨M.b num, 0, none⟩) (fun u => hasP L f u.n num) w (h.win v hv) (fun e => by rw [e]) (by simp) _ rfl (fun u hu => ?_)
    obtain ⟨hL, hp⟩ := mem_kids.1 hu
    have := (T.up u hL (by have := T.pos hv; omega)).2
    rw [hp] at this
    exact ih u hL (by omega)
set_option maxHeartbeats 1000000 in
theorem wCountStep (M : Mm) (v : Wn) (ks : List Wn) (bn cn gn : Nat) (pp : Option Addr) (sv : Value) (g : Wn → Nat) (w : World) (h : WinV w v bn cn gn pp sv (M.ptrs ks)) (hb : 1 + (ks.map g).sum ≤ 1000)
    (hcall : ∀ u ∈ ks, Calls Tryz.prog 149 #[M.ptr u.n] w fun e w' => e = .returned (.int .i64 (g u)) ∧ w' = w) :
    Calls Tryz.prog 149 #[.pointer (some ⟨bn, 0, none⟩)] w fun e w' => e = .returned (.int .i64 ((1 + (ks.map g).sum : Nat) : Int)) ∧ w' = w := by
  have c6 := h.f6
  obtain ⟨p, cap, rfl, hcap, hmax, hcell⟩ := ownsRow_open h.row
  have Hc : Hid (∀ j x, (M.ptrs ks)[j]? = some x → ∃ ib, p = some ⟨ib, 0, none⟩ ∧ w.cell? ⟨ib, j, none⟩ = some x) := hcell
  have Hcall : Hid (∀ u ∈ ks, Calls Tryz.prog 149 #[M.ptr u.n] w fun e w' => e = .returned (.int .i64 (g u)) ∧ w' = w) := hcall
  rw [M.ptrs_len] at *
  have Hb : Hid (1 + (ks.map g).sum ≤ 1000) := hb
  clear h hcell hcall hb
  go_enter Tryz.func149, Tryz.ntmps149
  go_wp2_with fail
  go_loopw [3, 11] (fun a i wr => ∃ k : Nat, k ≤ ks.length ∧ i = .int .i64 k ∧ a = .int .i64 ((1 + ((ks.take k).map g).sum : Nat) : Int) ∧ wr = w) (fun _ i _ => ks.length - (intOf i).toNat)
  case atStart => exact ⟨0, by omega, rfl, by simp, rfl⟩
  case round =>
    obtain ⟨k, hk, rfl, rfl, rfl⟩ := hrel
    by_cases hlt : k < ks.length
    · obtain ⟨u, hu⟩ : ∃ u, ks[k]? = some u := ⟨_, List.getElem?_eq_getElem hlt⟩
      obtain ⟨ib, rfl, hc⟩ := Hc.out k _ (Mm.ptrs_at hu)
      have hum : u ∈ ks := List.mem_of_getElem? hu
      have hgs : ((ks.take (k + 1)).map g).sum = ((ks.take k).map g).sum + g u := by rw [List.take_add_one, hu]; simp
      have hle : ((ks.take (k + 1)).map g).sum ≤ (ks.map g).sum := by
        conv => rhs; rw [← List.take_append_drop (k + 1) ks]
        rw [List.map_append, List.sum_append]; omega
      have hb := Hb.out
      obtain ⟨a, ha⟩ : ∃ a, 1 + ((ks.take k).map g).sum = a := ⟨_, rfl⟩
      obtain ⟨b, hb'⟩ : ∃ b, g u = b := ⟨_, rfl⟩
      have hw1 : a + b ≤ 1000 := by omega
      have hn : 1 + ((ks.take (k + 1)).map g).sum = a + b := by omega
      have HN : Hid (1 + ((ks.take (k + 1)).map g).sum = a + b) := hn
      rw [ha]
      have Hub : Hid (g u = b) := hb'
      clear hn hle hgs ha hb' hb
      go_wp2_with (first | (go_at_call 149; refine (Hcall.out u hum).mono ?_; rw [Hub.out]; rintro e w' ⟨rfl, rfl⟩))
      go_roundw
      case rel => exact ⟨k + 1, by omega, by simp, by rw [HN.out]; simp, trivial⟩
      case measure => simp [intOf]; omega
    · obtain rfl : k = ks.length := by omega
      rw [List.take_length]
      go_wp2_with fail
      go_ret
      exact ⟨rfl, rfl⟩
theorem wCount {M : Mm} {L : List Wn} {last : Int} {N : Nat} {s : Rs} {t : Pt} {rk : Int → Nat} {K : Nat} (T : Tree L rk K) (w : World) (h : DkAt w M L last N s t) (hl : L.length ≤ 16) : ∀ (f : Nat) (v : Wn), v ∈ L → K ≤ rk v.n + f →
    Calls Tryz.prog 149 #[M.ptr v.n] w fun e w' => e = .returned (.int .i64 (cntP L f v.n : Int)) ∧ w' = w := by
  intro f
  induction f with
  | zero =>
    intro v hv hk
    have hn := T.noKids (T.pos hv) (by omega)
    have := wCountStep M v _ _ _ _ _ _ (fun _ => 0) w (h.win v hv) (by rw [hn]; simp) (fun u hu => by rw [hn] at hu; simp at hu)
    simpa [cntP, hn] using this
  | succ f ih =>
    intro v hv hk
    have hc := T.cntLe (f + 1) v hv hk
    refine wCountStep M v _ _ _ _ _ _ (fun u => cntP L f u.n) w (h.win v hv) (by simp only [cntP] at hc; omega) (fun u hu => ?_)
    obtain ⟨hL, hp⟩ := mem_kids.1 hu
    have := (T.up u hL (by have := T.pos hv; omega)).2
    rw [hp] at this
    exact ih u hL (by omega)
end Go.Proofs.YtjlfibhbfdckpaaGreatDoor

/- A region that only reads, in a round of a range over a function: one walk serves every order. -/
namespace Go.Proofs.YtjlfibhbfdckpaaGreatDoor
open Go.RowKit
theorem wpIn_round {F : Fence} {n : Nat} {P : Program} {o : Oper} {a : Act} {w : World} {K : Act → World → Prop} {Q : Exit → Act → World → Prop} (l : Nat) (hro : F.round = none) (hd : ∀ c, o.op ≠ .defer c) (h : o.wpIn F n P a w K Q) : o.wpIn (F.inRound l) n P a w K Q := by
  unfold Oper.wpIn at *
  refine ⟨h.1, ?_⟩
  have e : o.semAt (F.inRound l).round a.eval = o.semAt F.round a.eval := by
    rw [Fence.inRound_round, Oper.semAt_some l _ _ hd, hro]; rfl
  rw [e]
  have h2 := h.2
  generalize (o.semAt F.round a.eval).run P w = r at h2
  cases r with
  | ok x w' => cases x <;> exact h2
  | halt x w' => cases x <;> exact h2
theorem wpOpIn_round {F : Fence} {n : Nat} {P : Program} {ops : Array Oper} {Q : Exit → Act → World → Prop} {K : Act → World → Prop} {i : Nat} {a : Act} {w : World} (l : Nat) (hro : F.round = none) (hd : ∀ o ∈ ops.toList, ∀ c, o.op ≠ .defer c) (h : wpOpIn F n P ops Q i K a w) : wpOpIn (F.inRound l) n P ops Q i K a w := by
  unfold wpOpIn at *
  cases ho : ops[i]? with
  | none => simpa [ho] using h
  | some o =>
    simp only [ho] at h ⊢
    by_cases hw : Region.wanted o (yielded ops a.tmps) = true
    · rw [if_pos hw] at h ⊢
      exact wpIn_round l hro (hd o (by rw [← Array.getElem?_toList] at ho; exact List.mem_of_getElem? ho)) h
    · rw [if_neg hw] at h ⊢
      exact h
theorem wpAnyIn_round {F : Fence} {n : Nat} {P : Program} {md : Region.Mode} {ops : Array Oper} {Q : Exit → Act → World → Prop} (l : Nat) (hro : F.round = none) (hd : ∀ o ∈ ops.toList, ∀ c, o.op ≠ .defer c) : ∀ (fuel : Nat) (listed : Array Bool) (a : Act) (w : World), wpAnyIn F n P md ops Q fuel listed a w → wpAnyIn (F.inRound l) n P md ops Q fuel listed a w
  | 0, _, _, _, h => h
  | fuel + 1, _, _, _, h => ⟨h.1, fun i hi => wpOpIn_round l hro hd (wpOpIn_mono (fun a' w' h' => wpAnyIn_round l hro hd fuel _ a' w' h') (h.2 i hi))⟩
def noDefer (l : List Oper) : Bool := l.all (fun o => match o.op with | .defer _ => false | _ => true)
theorem quiet_round {F : Fence} {n : Nat} {P : Program} {id : Nat} {Q : Exit → Act → World → Prop} {a : Act} {w : World} {ops : List Oper} (l : Nat) (hro : F.round = none) (hm : P.follows .mixedOrders = true) (hB : Region.lexB .any ops.toArray = true) (hd : noDefer ops = true)
    (h : wpQuietIn F n P ops.toArray (fun w' => ∃ n, w' = w.drewN n) (fun a' => ∀ w', (∃ n, w' = w.drewN n) → Q .normal a' w') ops a) : (Code.region id ops.toArray true).wpIn (F.inRound l) n P Q a w := by
  simp only [Region.lexB, Bool.and_eq_true] at hB
  have hd' : ∀ o ∈ ops.toArray.toList, ∀ c, o.op ≠ .defer c := by
    intro o ho c e
    have := List.all_eq_true.1 hd o (by simpa using ho)
    rw [e] at this
    simp at this
  refine wpIn_region_any hm (wpAnyIn_round l hro hd' _ _ _ _ (wpAnyIn_of_quiet (C := fun w' => ∃ n, w' = w.drewN n) (Q := fun a' => ∀ w', (∃ n, w' = w.drewN n) → Q .normal a' w') hro (fun _ w' hw' h => h w' hw') _ _ _ _ ⟨1, rfl⟩ ?_))
  have := wpAnyQIn_lex (F := F) (n := n) (C := fun w' => ∃ n, w' = w.drewN n) (md := .any) hB.1 ops 0 (Array.replicate ops.toArray.size false) a (by simp) (by simpa using hB.2) (by simpa using h)
  simpa using this
end Go.Proofs.YtjlfibhbfdckpaaGreatDoor

/- The program's desk: slices.Backward over the windows of a parent; uppermostAt. -/
namespace Go.Proofs.YtjlfibhbfdckpaaGreatDoor
open Go.RowKit Go.Shelf
attribute [local go_sem] Oper.semAt_some
abbrev KidOf (ks : List Wn) := Nat × { u : Wn // u ∈ ks }
abbrev kidEnc (M : Mm) (ks : List Wn) (x : KidOf ks) : Array Value := #[.int .i64 (x.1 : Int), M.ptr x.2.1.n]
theorem rev_at (ks : List Wn) (k : Nat) (hk : k < ks.length) : ∃ u : { u : Wn // u ∈ ks }, ks[ks.length - 1 - k]? = some u.1 ∧ ks.attach.reverse[k]? = some u := by
  have h : ks.length - 1 - k < ks.length := by omega
  refine ⟨⟨ks[ks.length - 1 - k], List.getElem_mem h⟩, List.getElem?_eq_getElem h, ?_⟩
  rw [List.getElem?_reverse (by simpa using hk)]
  simp [List.length_attach, h]
set_option maxRecDepth 100000 in
set_option maxHeartbeats 2000000 in
theorem back1 (M : Mm) (ks : List Wn) (F : Fence) (n : Nat) (hf : F.fn 195) (hro : F.round = none) (hn : 1 ≤ n) (l Bs n₀ b cap : Nat) (hmax : cap ≤ 9223372036854775807) (hlc : ks.length ≤ cap) (hb : b < n₀) (J Jx : List (KidOf ks) → World → Prop)
    (hY : ∀ pre x W, J pre W → pre.length < ks.length → YieldAt F (n - 1) Tryz.prog l (kidEnc M ks x) W fun e W' =>
      (e = .returned (.bool true) ∧ J (pre ++ [x]) W' ∧ Below n₀ W W') ∨ (e = .returned (.bool false) ∧ Jx (pre ++ [x]) W'))
    (W : World) (hBn : Bs < n₀) (hBs : W.cell? ⟨Bs, 0, none⟩ = some (.slice (some ⟨b, 0, none⟩) ks.length cap)) (hc : ∀ j u, ks[j]? = some u → W.cell? ⟨b, j, none⟩ = some (M.ptr u.n)) (h0 : J [] W) :
    CallsIn F n Tryz.prog 195 #[.func (.yield l) #[] #[], .pointer (some ⟨Bs, 0, none⟩)] W fun e W' => (∃ v, e = .returned v) ∧
      ((∃ ys, ys.map Prod.snd = ks.attach.reverse ∧ J ys W') ∨ (∃ pre, pre.map Prod.snd <+: ks.attach.reverse ∧ Jx pre W')) := by
  refine callsIn_of_wp Tryz.func195 rfl hf ?_ hro
  simp only [Tryz.ntmps195, List.size_toArray, List.length_cons, List.length_nil, Nat.reduceAdd, Nat.reduceSub, Array.replicate_succ, Array.replicate_zero, List.push_toArray, List.append_toArray, List.nil_append, List.cons_append]
  gi_wp2
  gi_loopw [3] (fun i wr => ∃ (k : Nat) (pre : List (KidOf ks)), k ≤ ks.length ∧ i = .int .i64 ((ks.length : Int) - 1 - k) ∧ pre.map Prod.snd = ks.attach.reverse.take k ∧ J pre wr ∧ Below n₀ W wr)
    (fun i _ => (intOf i + 1).toNat)
  case atStart => exact ⟨0, [], Nat.zero_le _, by simp, rfl, h0, Below.refl _ _⟩
  case round =>
    obtain ⟨k, pre, hk, rfl, hp, hJs, hnx⟩ := hrel
    have hBs' := (hnx.cell (p := ⟨Bs, 0, none⟩) hBn).trans hBs
    have hpl : pre.length = k := by
      have := congrArg List.length hp
      simp at this
      omega
    by_cases hlt : k < ks.length
    · obtain ⟨u, hu, hru⟩ := rev_at ks k hlt
      obtain ⟨m, hm⟩ : ∃ m : Nat, ks.length - 1 - k = m := ⟨_, rfl⟩
      have hmi : (ks.length : Int) - 1 - k = m := by omega
      rw [hm] at hu
      have hcx := (hnx.cell (p := ⟨b, m, none⟩) hb).trans (hc m u.1 hu)
      have hml : m < ks.length := by omega
      obtain ⟨fn, tmps, assign, body, hy, hR⟩ := hY _ (m, u) wr hJs (by omega)
      dsimp only [kidEnc] at hy
      rw [hmi]
      have Hm : Hid ((ks.length : Int) - 1 - k = m) := hmi
      clear hmi hm
      gi_wp2
      refine hR.mono ?_
      rintro e W3 (⟨rfl, hJ3, hk3⟩ | ⟨rfl, hJx3⟩)
      · gi_wp2
        go_roundw
        case rel =>
          refine ⟨k + 1, pre ++ [(m, u)], by omega, ?_, ?_, hJ3, hnx.trans hk3⟩
          · have := Hm.out; simp; omega
          · rw [List.map_append, hp, List.take_add_one, hru]; rfl
        case measure => simp [intOf]
      · gi_wp2
        refine bodyPost_ret (results_none rfl _ _ _) rfl ?_
        refine ⟨⟨_, rfl⟩, .inr ⟨_, ?_, hJx3⟩⟩
        have : (pre ++ [(m, u)]).map Prod.snd = ks.attach.reverse.take (k + 1) := by rw [List.map_append, hp, List.take_add_one, hru]; rfl
        rw [this]
        exact List.take_prefix _ _
    · obtain rfl : k = ks.length := by omega
      have hz : (ks.length : Int) - 1 - ks.length = -1 := by omega
      rw [hz]
      gi_wp2
      go_end0
      refine ⟨⟨_, rfl⟩, .inl ⟨_, ?_, hJs⟩⟩
      rw [hp]
      exact List.take_of_length_le (by simp)
set_option maxRecDepth 100000 in
set_option maxHeartbeats 1000000 in
theorem back1_none (ks : List Wn) (F : Fence) (n : Nat) (hf : F.fn 195) (hro : F.round = none) (l Bs cap : Nat) (p : Option Addr) (J : List (KidOf ks) → World → Prop) (W : World) (hBs : W.cell? ⟨Bs, 0, none⟩ = some (.slice p 0 cap)) (h0 : J [] W) :
    CallsIn F n Tryz.prog 195 #[.func (.yield l) #[] #[], .pointer (some ⟨Bs, 0, none⟩)] W fun e W' => (∃ v, e = .returned v) ∧ J [] W' := by
  refine callsIn_of_wp Tryz.func195 rfl hf ?_ hro
  simp only [Tryz.ntmps195, List.size_toArray, List.length_cons, List.length_nil, Nat.reduceAdd, Nat.reduceSub, Array.replicate_succ, Array.replicate_zero, List.push_toArray, List.append_toArray, List.nil_append, List.cons_append]
  gi_wp2
  gi_loopw [3] (fun i wr => i = .int .i64 (-1) ∧ J [] wr) (fun _ _ => 0)
  case atStart => exact ⟨rfl, h0⟩
  case round =>
    obtain ⟨rfl, hJs⟩ := hrel
    gi_wp2
    go_end0
    exact ⟨⟨_, rfl⟩, hJs⟩
theorem back_stops (M : Mm) (ks : List Wn) (F : Fence) (n : Nat) (hf : F.fn 195) (hro : F.round = none) (hn : 1 ≤ n) (Bs n₀ cap : Nat) (p : Option Addr) (hmax : cap ≤ 9223372036854775807) (hlc : ks.length ≤ cap) (w : World) (hBs : Bs < n₀) (hn₀ : n₀ ≤ w.heap.size)
    (hc : w.cell? ⟨Bs, 0, none⟩ = some (.slice p ks.length cap)) (hI : ∀ j u, ks[j]? = some u → ∃ b, p = some ⟨b, 0, none⟩ ∧ b < n₀ ∧ w.cell? ⟨b, j, none⟩ = some (M.ptr u.n)) :
    SeqStopsK F n Tryz.prog 195 #[.pointer (some ⟨Bs, 0, none⟩)] (kidEnc M ks) (Below n₀) (fun ys => ys.map Prod.snd = ks.attach.reverse) (fun pre => pre.map Prod.snd <+: ks.attach.reverse) ks.length w := fun l J Jx W hW _ _ hY h0 => by
  have hc' := (hW.cell (p := ⟨Bs, 0, none⟩) (Nat.lt_of_lt_of_le hBs hn₀)).trans hc
  rcases Nat.eq_zero_or_pos ks.length with hz | hz
  · rw [hz] at hc'
    obtain rfl := List.length_eq_zero_iff.1 hz
    exact (back1_none [] F n hf hro l Bs cap p J W hc' h0).mono fun e W' ⟨he, hj⟩ => ⟨he, .inl ⟨[], rfl, hj⟩⟩
  · obtain ⟨b, rfl, hb, _⟩ := hI 0 _ (List.getElem?_eq_getElem hz)
    refine back1 M ks F n hf hro hn l Bs n₀ b cap hmax hlc hb J Jx hY W hBs hc' (fun j u hu => ?_) h0
    obtain ⟨b', e, _, hcell⟩ := hI j u hu
    obtain rfl : b = b' := by simpa using e
    exact (hW.cell (p := ⟨b, j, none⟩) (Nat.lt_of_lt_of_le hb hn₀)).trans hcell
set_option maxHeartbeats 1000000 in
theorem back_in (F : Fence) (n : Nat) (hf : F.fn 169) (hro : F.round = none) (a : Option Addr) (len cap : Nat) (w : World) :
    CallsIn F n Tryz.prog 169 #[.slice a len cap] w fun e w' => e = .returned (.func (.func 195) #[] #[.pointer (some ⟨w.heap.size, 0, none⟩)]) ∧ w' = w.alloc (.cells #[.slice a len cap] 129) := by
  refine callsIn_of_wp Tryz.func169 rfl hf ?_ hro
  simp only [Tryz.ntmps169, List.size_toArray, List.length_cons, List.length_nil, Nat.reduceAdd, Nat.reduceSub, Array.replicate_succ, Array.replicate_zero, List.push_toArray, List.append_toArray, List.nil_append, List.cons_append]
  gi_wp2
  go_ret
  exact ⟨rfl, rfl⟩
theorem keeps_drewN (W : World) (n : Nat) : KeepsOthers W (W.drewN n) := ⟨Nat.le_refl _, fun _ _ h _ => h⟩
theorem below_any (B : Nat) (W : World) (n : Nat) : Below B W (W.drewN n) := ⟨rfl, rfl, rfl, Nat.le_refl _, fun _ _ => rfl⟩
set_option maxRecDepth 100000 in
set_option maxHeartbeats 4000000 in
theorem wUpper (M : Mm) (v : Wn) (ks : List Wn) (bn cn gn : Nat) (pp : Option Addr) (sv : Value) (x y : Int) (w : World) (h : WinV w v bn cn gn pp sv (M.ptrs ks))
    (hw : ∀ u ∈ ks, ∃ pp sv vs, WinV w u (M.b u.n) (M.c u.n) (M.g u.n) pp sv vs) (hb : ∀ u ∈ ks, -1000 ≤ u.x ∧ u.x ≤ 1000 ∧ -1000 ≤ u.y ∧ u.y ≤ 1000) (hx : -2000 ≤ x ∧ x ≤ 2000 ∧ -2000 ≤ y ∧ y ≤ 2000) :
    Calls Tryz.prog 145 #[.pointer (some ⟨bn, 0, none⟩), .int .i64 x, .int .i64 y] w fun e w' => e = .returned (.pointer ((ks.reverse.find? (hit x y)).map (fun u => ⟨M.b u.n, 0, none⟩))) ∧ Below w.heap.size w w' := by
  have c6 := h.f6
  have hbn := h.lt
  obtain ⟨p, cap, rfl, hcap, hmax, hcell⟩ := ownsRow_open h.row
  have Hc : Hid (∀ j x, (M.ptrs ks)[j]? = some x → ∃ ib, p = some ⟨ib, 0, none⟩ ∧ w.cell? ⟨ib, j, none⟩ = some x) := hcell
  have Hw : Hid (∀ u ∈ ks, ∃ pp sv vs, WinV w u (M.b u.n) (M.c u.n) (M.g u.n) pp sv vs) := hw
  have Hb : Hid (∀ u ∈ ks, -1000 ≤ u.x ∧ u.x ≤ 1000 ∧ -1000 ≤ u.y ∧ u.y ≤ 1000) := hb
  rw [M.ptrs_len] at *
  have c6' : ∀ o1 o2 o3, (((w.alloc o1).alloc o2).alloc o3).cell? ⟨bn, 6, none⟩ = some (.slice p ks.length cap) := fun o1 o2 o3 => by
    have hB : Below w.heap.size w (((w.alloc o1).alloc o2).alloc o3) := (((Below.refl _ w).alloc (Nat.le_refl _) _).alloc (by simp) _).alloc (by simp; omega) _
    rw [hB.cell (p := ⟨bn, 6, none⟩) hbn]; exact c6
  clear h hcell hw hb
  refine (callsIn_wide (n := 5)).1 ?_
  have hro : Fence.wide.round = none := rfl
  refine callsIn_of_wp_marks Tryz.func145 rfl trivial ?_ hro
  simp only [Tryz.ntmps145, List.size_toArray, List.length_cons, List.length_nil, Nat.reduceAdd, Nat.reduceSub, Array.replicate_succ, Array.replicate_zero, List.push_toArray, List.append_toArray, List.nil_append, List.cons_append]
  gi_wp2_with (refine ⟨trivial, ?_⟩; gi_at_call 169; refine (back_in Fence.wide _ trivial hro _ _ _ _).mono ?_; rintro e w' ⟨rfl, rfl⟩)
  have bX := Boxed.new w 3 (.int .i64 x)
  have bY := Boxed.new (w.alloc (.cells #[.int .i64 x] 3)) 3 (.int .i64 y)
  have bR := Boxed.new ((w.alloc (.cells #[.int .i64 x] 3)).alloc (.cells #[.int .i64 y] 3)) 111 (.pointer none)
  have bN := Boxed.new (((w.alloc (.cells #[.int .i64 x] 3)).alloc (.cells #[.int .i64 y] 3)).alloc (.cells #[.pointer none] 111)) 129 (.slice p ks.length cap)
  simp only [World.size_alloc] at bY bR bN
  obtain ⟨W0, hW0⟩ : ∃ W0, ((((w.alloc (.cells #[.int .i64 x] 3)).alloc (.cells #[.int .i64 y] 3)).alloc (.cells #[.pointer none] 111)).alloc (.cells #[.slice p ks.length cap] 129)) = W0 := ⟨_, rfl⟩
  have hB0 : Below w.heap.size w W0 := by rw [← hW0]; exact ((((Below.refl _ w).alloc (Nat.le_refl _) _).alloc (by simp) _).alloc (by simp; omega) _).alloc (by simp; omega) _
  have bX0 := ((bX.alloc (.cells #[.int .i64 y] 3)).alloc (.cells #[.pointer none] 111)).alloc (.cells #[.slice p ks.length cap] 129)
  have bY0 := (bY.alloc (.cells #[.pointer none] 111)).alloc (.cells #[.slice p ks.length cap] 129)
  have bR0 := bR.alloc (.cells #[.slice p ks.length cap] 129)
  rw [hW0] at bX0 bY0 bR0 bN ⊢
  have hsz : W0.heap.size = w.heap.size + 4 := by rw [← hW0]; simp
  clear bX bY bR hW0 c6'
  refine wpIn_rangeFunc_ownG hro (by omega) (gf := 195) (lb := #[.pointer (some ⟨w.heap.size + 1 + 1 + 1, 0, none⟩)]) rfl trivial (enters_of Tryz.func195 (by kernel_rfl) rfl)
    (back_stops M ks Fence.wide (5 - 1) trivial hro (by omega) (w.heap.size + 1 + 1 + 1) (w.heap.size + 4) cap p hmax hcap _ (by omega) (by omega) bN.cell ?seq) belowK_t (belowK_b (by omega)) (Below.refl _ _) (fun _ => rfl)
    (fun pre W => ((∀ q ∈ pre, hit x y q.2.1 = false) ∧ Boxed W w.heap.size 3 (.int .i64 x) ∧ Boxed W (w.heap.size + 1) 3 (.int .i64 y) ∧ Boxed W (w.heap.size + 1 + 1) 111 (.pointer none)) ∧ Below w.heap.size w W)
    (fun c pre W => (c = .ret ∧ ∃ ini last, pre = ini ++ [last] ∧ (∀ q ∈ ini, hit x y q.2.1 = false) ∧ hit x y last.2.1 = true ∧ Boxed W (w.heap.size + 1 + 1) 111 (M.ptr last.2.1.n)) ∧ Below w.heap.size w W)
    ?own ?ownx ?start
    (fun q => { tmps := #[.pointer (some ⟨bn, 0, none⟩), .int .i64 x, .int .i64 y, undef, .pointer (some ⟨w.heap.size, 0, none⟩), .pointer (some ⟨w.heap.size + 1, 0, none⟩), .pointer (some ⟨w.heap.size + 1 + 1, 0, none⟩), undef, M.ptr q.2.1.n, .pointer (some ⟨bn, 0, none⟩), .pointer (some ⟨bn, 0, none⟩), .pointer (some ⟨bn, 6, none⟩), .slice p ks.length cap, .func (.func 195) #[] #[.pointer (some ⟨w.heap.size + 1 + 1 + 1, 0, none⟩)], .int .i64 (q.1 : Int), M.ptr q.2.1.n, undef, undef, undef, undef, undef, undef, undef, undef, undef, undef, undef, undef, undef, undef, undef, undef, undef, undef, undef, undef, undef, undef, undef, undef], defers := [] }) ?assign ?body ?done ?stop
  case seq =>
    intro j u hu
    obtain ⟨ib, rfl, hc⟩ := Hc.out j _ (Mm.ptrs_at hu)
    have hl : ib < w.heap.size := World.block_lt_of_cell? _ _ hc
    exact ⟨ib, rfl, by omega, by rw [hB0.cell (p := ⟨ib, j, none⟩) hl]; exact hc⟩
  case own =>
    exact OwnFrom.and (OwnFrom.and (ownFrom_pure _ _) (OwnFrom.and (Own.from (boxed_own _ _ _) _) (OwnFrom.and (Own.from (boxed_own _ _ _) _) (Own.from (boxed_own _ _ _) _)))) (ownFrom_below (Nat.le_refl _) (by omega))
  case ownx =>
    intro c
    refine OwnFrom.and (Own.from (fun s A B row hs hg hr => ?_) _) (ownFrom_below (Nat.le_refl _) (by omega))
    obtain ⟨hc, ini, last, e1, e2, e3, e4⟩ := hs
    exact ⟨hc, ini, last, e1, e2, e3, boxed_own (β := Unit) _ _ (fun _ => M.ptr last.2.1.n) () A B row e4 hg hr⟩
  case start => exact ⟨⟨by simp, bX0, bY0, bR0⟩, hB0⟩
  case assign =>
    intro l q W K hK
    gi_wp2
    exact hK
  case body =>
    rintro l pre ⟨q1, u, hu⟩ W ⟨⟨hp, bx, by', br⟩, hB⟩ _
    dsimp only
    have hx1 := bx.cell
    have hy1 := by'.cell
    have hr1 := br.cell
    have hf1 := br.frozen
    obtain ⟨pp', sv', vs', hV⟩ := Hw.out u hu
    have G := hV.gr.same (hB.block _ hV.gr.lt) (hB.block _ hV.gr.glt)
    have HG : Hid (GrAt W (M.c u.n) (M.g u.n) u.W u.H (u.H * u.W) u.G) := G
    have f2 := (hB.cell (p := ⟨M.b u.n, 2, none⟩) hV.lt).trans hV.f2
    have f3 := (hB.cell (p := ⟨M.b u.n, 3, none⟩) hV.lt).trans hV.f3
    have f4 := (hB.cell (p := ⟨M.b u.n, 4, none⟩) hV.lt).trans hV.f4
    have f5 := (hB.cell (p := ⟨M.b u.n, 5, none⟩) hV.lt).trans hV.f5
    obtain ⟨b1, b2, b3, b4⟩ := Hb.out u hu
    clear hV G
    have hfn : Fence.wide.fn 103 := trivial
    cases hsh : u.sh with
    | false =>
      rw [hsh] at f4
      gi_wp2
      refine quiet_round l rfl (by kernel_rfl) (by kernel_rfl) (by kernel_rfl) ?_
      repeat (gi_big_quiet_step (fail))
      refine wpQuietIn_nil ?_
      intro _ hw'
      obtain ⟨nq, hw''⟩ := hw'
      subst hw''
      gi_wp2
      have hh : hit x y u = false := by simp [hit, hsh]
      exact ⟨(keeps_drewN W nq).from _, below_any _ W nq, ⟨fun q hq => (List.mem_append.1 hq).elim (hp q) (fun e => by simp at e; subst e; exact hh), bx, by', br⟩, hB.trans (below_any _ W nq)⟩
    | true =>
      rw [hsh] at f4
      gi_wp2
      refine quiet_round l rfl (by kernel_rfl) (by kernel_rfl) (by kernel_rfl) ?_
      repeat (gi_big_quiet_step (first | (gi_at_call 103; refine CallsIn.quiet_of_same (callsIn_wide.2 (pHas _ _ _ _ _ _ _ _ _ (HG.out.same rfl rfl))))))
      refine wpQuietIn_nil ?_
      intro _ hw'
      obtain ⟨nq, hw''⟩ := hw'
      subst hw''
      gi_wp2
      · have hin : inG u.W u.H (x - u.x) (y - u.y) = true := by assumption
        have hh : hit x y u = true := by simp [hit, hsh, hin]
        refine ⟨?_, ⟨rfl, pre, (q1, ⟨u, hu⟩), rfl, hp, hh, br.set (M.ptr u.n)⟩, ?_⟩
        · exact ((keeps_drewN W nq).trans (KeepsOthers.setCell (W.drewN nq) _ _)).from _
        · exact (hB.trans (below_any _ W nq)).setCell (p := ⟨w.heap.size + 1 + 1, 0, none⟩) (by simp; omega) _
      · have hin : inG u.W u.H (x - u.x) (y - u.y) = false := by assumption
        have hh : hit x y u = false := by simp [hit, hsh, hin]
        exact ⟨(keeps_drewN W nq).from _, below_any _ W nq, ⟨fun q hq => (List.mem_append.1 hq).elim (hp q) (fun e => by simp at e; subst e; exact hh), bx, by', br⟩, hB.trans (below_any _ W nq)⟩
  case done =>
    rintro D ys W hD hys ⟨⟨hne, _, _, br⟩, hB⟩ hK
    have hcr := br.cell
    have hfr := br.frozen
    have hnone : Hid (ks.reverse.find? (hit x y) = none) := by
      show ks.reverse.find? (hit x y) = none
      rw [List.find?_eq_none]
      intro u hu
      have hu' : u ∈ ks := List.mem_reverse.1 hu
      have hm : (⟨u, hu'⟩ : { u : Wn // u ∈ ks }) ∈ ys.map Prod.snd := by rw [hys]; simp
      obtain ⟨q, hq, e⟩ := List.mem_map.1 hm
      have := hne q hq
      rw [e] at this
      simp [this]
    gi_wp2
    have hK' := (KeepsOthers.setCell W ⟨w.heap.size + 1 + 1, 0, none⟩ (.pointer none)).same D _ hK rfl
    refine ⟨by simp, .inl ⟨_, _, rfl, run_takeDeferred hK', ?_⟩⟩
    have hc5 := cell_kept (World.cell?_setCell_same' W ⟨w.heap.size + 1 + 1, 0, none⟩ (.pointer none) (by rw [hcr]; rfl)) (grownBy_putObj' _ D (.deferred none)) (fun r e => by cases e; exact ⟨_, hK', rfl⟩)
    refine ⟨.pointer none, ?_, by rw [hnone.out]; rfl, (hB.setCell (p := ⟨w.heap.size + 1 + 1, 0, none⟩) (by simp; omega) _).trans (belowK_b (w := w) (Nat.le_refl _) _ D _ _ (by omega) hK' rfl rfl)⟩
    simp [results, Tryz.f145, go_sem, hc5]
  case stop =>
    rintro D c pre W hD hpre ⟨⟨rfl, ini, last, e1, e2, e3, br⟩, hB⟩ hK
    have hcr := br.cell
    have hsome : Hid (ks.reverse.find? (hit x y) = some last.2.1) := by
      show ks.reverse.find? (hit x y) = some last.2.1
      obtain ⟨rest, hrest⟩ := hpre
      have e : ks.reverse = (ini.map (fun q => q.2.1)) ++ last.2.1 :: rest.map Subtype.val := by
        have := congrArg (List.map Subtype.val) hrest
        rw [e1] at this
        simpa [Function.comp_def] using this.symm
      rw [e, List.find?_append, List.find?_eq_none.2, Option.none_or, List.find?_cons_of_pos e3]
      intro u hu
      obtain ⟨q, hq, rfl⟩ := List.mem_map.1 hu
      simp [e2 q hq]
    gi_wp2
    refine ⟨by simp, .inl ⟨_, _, rfl, run_takeDeferred hK, ?_⟩⟩
    have hc5 := cell_kept hcr (grownBy_putObj' _ D (.deferred none)) (fun r e => by cases e; exact ⟨_, hK, rfl⟩)
    refine ⟨M.ptr last.2.1.n, ?_, by rw [hsome.out]; rfl, hB.trans (belowK_b (w := w) (Nat.le_refl _) W D _ _ (by omega) hK rfl rfl)⟩
    simp [results, Tryz.f145, go_sem, hc5]
end Go.Proofs.YtjlfibhbfdckpaaGreatDoor

/- The program's desk: seen, half, Cell. -/
namespace Go.Proofs.YtjlfibhbfdckpaaGreatDoor
open Go.RowKit
attribute [local go_sem ↓] Go.wp_at_zero Go.wp_at_succ
open Classical in
noncomputable def rkOf (M : Mm) (L : List Wn) (rk : Int → Nat) (K : Nat) (p : Value) : Nat := if h : ∃ v ∈ L, p = M.ptr v.n then K - rk h.choose.n else 0
theorem DkAt.b_inj {w : World} {M : Mm} {L : List Wn} {last : Int} {N : Nat} {s : Rs} {t : Pt} (h : DkAt w M L last N s t) {u v : Wn} (hu : u ∈ L) (hv : v ∈ L) (e : M.b u.n = M.b v.n) : u.n = v.n := by
  have := h.inj (.win u.n 0) (.win v.n 0) (M.b u.n) ⟨by omega, u, hu, rfl⟩ ⟨by omega, v, hv, rfl⟩ rfl (by rw [e]; rfl)
  injection this
theorem rkOf_at {w : World} {M : Mm} {L : List Wn} {last : Int} {N : Nat} {s : Rs} {t : Pt} (h : DkAt w M L last N s t) (rk : Int → Nat) (K : Nat) {v : Wn} (hv : v ∈ L) : rkOf M L rk K (M.ptr v.n) = K - rk v.n := by
  have hex : ∃ u ∈ L, M.ptr v.n = M.ptr u.n := ⟨v, hv, rfl⟩
  unfold rkOf
  rw [dif_pos hex]
  obtain ⟨h1, h2⟩ := hex.choose_spec
  have e : M.b v.n = M.b hex.choose.n := by simpa using h2
  have := h.b_inj hv h1 e
  exact congrArg (fun n => K - rk n) this.symm
set_option maxHeartbeats 2000000 in
theorem dSeen {M : Mm} {L : List Wn} {last : Int} {N : Nat} {s : Rs} {t : Pt} {rk : Int → Nat} {K : Nat} (T : Tree L rk K) (ok : DOk L last) (w : World) (h : DkAt w M L last N s t) (r : Wn) (hr : r ∈ L) (hr0 : r.n = 0) (x y : Nat) (hx : x < r.W) (hy : y < r.H) :
    Calls Tryz.prog 104 #[.pointer (some ⟨M.t 1, 0, none⟩), .int .i64 x, .int .i64 y] w fun e w' => ∃ (v : Wn) (a b : Nat), v ∈ L ∧ a < v.W ∧ b < v.H ∧ ownP L K r x y = (v, (a : Int), (b : Int)) ∧ e = .returned (.tuple #[M.ptr v.n, (v.G a b).agg]) ∧ Below w.heap.size w w' := by
  have HD : Hid (DkAt w M L last N s t) := h
  have HT : Hid (Tree L rk K) := T
  have Hok : Hid (DOk L last) := ok
  have d0 := h.d0
  have d0' : ∀ o, (w.alloc o).cell? ⟨M.t 1, 0, none⟩ = some (M.ptr 0) := fun o => by rw [((Below.refl w.heap.size w).alloc (Nat.le_refl _) o).cell (p := ⟨M.t 1, 0, none⟩) (h.lt (own_top M L 1 (by omega)))]; exact d0
  have Hr0 : Hid (M.ptr 0 = M.ptr r.n) := by rw [hr0]; rfl
  clear h T ok
  go_enter Tryz.func104, Tryz.ntmps104
  go_wp2_with fail
  have hb0 : Below w.heap.size w (w.alloc (.cells #[.int .i32 0, .int .i64 0, .int .i64 0, .int .i64 0, .bool false, .bool false, .bool false] 38)) := (Below.refl _ _).alloc (Nat.le_refl _) _
  have hc0 : CelAt (w.alloc (.cells #[.int .i32 0, .int .i64 0, .int .i64 0, .int .i64 0, .bool false, .bool false, .bool false] 38)) w.heap.size 0 ⟨0, 0, Pn.plain⟩ := by
    have := heap_new w (.cells #[.int .i32 0, .int .i64 0, .int .i64 0, .int .i64 0, .bool false, .bool false, .bool false] 38)
    refine ⟨?_, ?_, ?_, ?_, ?_, ?_, ?_⟩ <;> rw [cell_of_block this] <;> rfl
  have hf0 := frozen_of_block (heap_new w (.cells #[.int .i32 0, .int .i64 0, .int .i64 0, .int .i64 0, .bool false, .bool false, .bool false] 38))
  go_loopw [8, 1, 2] (fun p sx sy wr => ∃ (v : Wn) (a b f : Nat), v ∈ L ∧ a < v.W ∧ b < v.H ∧ K ≤ rk v.n + f ∧ p = M.ptr v.n ∧ sx = .int .i64 a ∧ sy = .int .i64 b ∧ ownP L f v a b = ownP L K r x y ∧ Below w.heap.size w wr ∧ CelAt wr w.heap.size 0 ⟨0, 0, Pn.plain⟩ ∧ (∀ o, wr.frozen? ⟨w.heap.size, o, none⟩ = false)) (fun p _ _ _ => rkOf M L rk K p)
  case atStart => exact ⟨r, x, y, K, hr, hx, hy, by omega, Hr0.out, rfl, rfl, rfl, hb0, hc0, hf0⟩
  case round =>
    obtain ⟨v, a, b, f, hv, ha, hb, hk, rfl, rfl, rfl, ho, hB, hC, hF⟩ := hrel
    have D1 : DkAt wr M L last N s t := HD.out.below hB
    have HD1 : Hid (DkAt wr M L last N s t) := D1
    have hV := D1.win v hv
    have hw2 := hV.gr.w2
    have hh2 := hV.gr.h2
    have Hs := HT.out.ownSucc hv hk a b
    have hup := wUpper M v (kids L v.n) (M.b v.n) (M.c v.n) (M.g v.n) (M.pp v.par) (M.s v.n) a b wr hV (fun u hu => ⟨_, _, _, D1.win u (mem_kids.1 hu).1⟩) (fun u hu => Hok.out.pl u (mem_kids.1 hu).1) (by omega)
    change Calls _ _ _ _ (fun e w' => e = .returned (.pointer ((nextP L v.n a b).map (fun u => ⟨M.b u.n, 0, none⟩))) ∧ Below wr.heap.size wr w') at hup
    have hbl : w.heap.size < wr.heap.size := hC.lt
    cases hn : nextP L v.n a b with
    | none =>
      rw [hn] at hup Hs
      have Hup : Hid (Calls Tryz.prog 145 #[.pointer (some ⟨M.b v.n, 0, none⟩), .int .i64 a, .int .i64 b] wr fun e w' => e = .returned (.pointer none) ∧ Below wr.heap.size wr w') := hup
      have f5 := hV.f5
      have Ho : Hid (ownP L K r x y = (v, (a : Int), (b : Int))) := by rw [← ho]; exact Hs
      clear hup Hs ho D1
      go_wp2_with fail
      go_at_call 145
      refine Hup.out.mono ?_
      rintro e w2 ⟨rfl, hb2⟩
      have f5' := (hb2.cell (p := ⟨M.b v.n, 5, none⟩) hV.lt).trans f5
      have G2 := hV.gr.below hb2
      have HG2 : Hid (GrAt w2 (M.c v.n) (M.g v.n) v.W v.H (v.H * v.W) v.G) := G2
      have C2 := hC.below hb2 hbl
      have F2 := fun o => (hb2.marks hbl o).trans (hF o)
      have B2 : Below w.heap.size w w2 := hB.trans (hb2.mono hB.size)
      have HV : Hid (WinV wr v (M.b v.n) (M.c v.n) (M.g v.n) (M.pp v.par) (M.s v.n) (M.ptrs (kids L v.n))) := hV
      have hbl2 : w.heap.size < w2.heap.size := C2.lt
      clear hV f5 G2 hC hF hB hb2 Hup
      go_wp2_with fail
      go_at_call 146
      refine (pCell _ _ _ _ _ _ _ _ _ HG2.out ha hb).mono ?_
      rintro e w3 ⟨rfl, hb3⟩
      have C3 := C2.below hb3 hbl2
      have F3 := fun o => (hb3.marks hbl2 o).trans (F2 o)
      have B3 : Below w.heap.size w w3 := B2.trans (hb3.mono B2.size)
      obtain ⟨t0, t1, t2, t3, t4, t5, t6⟩ := C3
      clear C2 F2 hb3
      go_wp2_with fail
      have C4 := put7_at (c := v.G a b) (show CelAt w3 w.heap.size 0 ⟨0, 0, Pn.plain⟩ from ⟨t0, t1, t2, t3, t4, t5, t6⟩)
      have B4 : Below w.heap.size w (put7 w3 w.heap.size 0 (v.G a b)) := ((Keep.below (fun i => i = w.heap.size) B3).put7 w.heap.size 0 (v.G a b) (fun h => rfl)).toBelow (Nat.le_refl _) (fun i hi => by omega)
      change bodyPost _ _ _ _ _ (put7 w3 w.heap.size 0 (v.G a b))
      generalize put7 w3 w.heap.size 0 (v.G a b) = w4 at *
      obtain ⟨q0, q1, q2, q3, q4, q5, q6⟩ := C4
      refine bodyPost_ret (v := .tuple #[M.ptr v.n, (v.G a b).agg]) ?_ rfl ⟨v, a, b, hv, ha, hb, Ho.out, rfl, B4⟩
      simp [results, Tryz.results104, go_sem, q0, q1, q2, q3, q4, q5, q6]
    | some u =>
      obtain ⟨hu, hp, hsh, hin⟩ := nextP_some hn
      rw [hn] at hup Hs
      have Hup : Hid (Calls Tryz.prog 145 #[.pointer (some ⟨M.b v.n, 0, none⟩), .int .i64 a, .int .i64 b] wr fun e w' => e = .returned (M.ptr u.n) ∧ Below wr.heap.size wr w') := hup
      obtain ⟨i1, i2, i3, i4⟩ := inG_iff.1 hin
      obtain ⟨a', ha'⟩ := Int.eq_ofNat_of_zero_le i1
      obtain ⟨b', hb'⟩ := Int.eq_ofNat_of_zero_le i3
      have hU := D1.win u hu
      have f2 := hU.f2
      have f3 := hU.f3
      have hrk := (HT.out.up u hu (by have := HT.out.pos hv; omega)).2
      rw [hp] at hrk
      have hle := HT.out.le u hu
      have Hn1 : Hid (K ≤ rk u.n + (f - 1)) := by show K ≤ rk u.n + (f - 1); omega
      have Ho : Hid (ownP L (f - 1) u (a' : Int) (b' : Int) = ownP L K r x y) := by show _ = _; rw [← ho, ← ha', ← hb']; exact Hs.symm
      have Hm : Hid (rkOf M L rk K (M.ptr u.n) < rkOf M L rk K (M.ptr v.n)) := by show _ < _; rw [rkOf_at D1 rk K hu, rkOf_at D1 rk K hv]; omega
      have Hl : Hid (a' < u.W ∧ b' < u.H) := by show _ ∧ _; omega
      have la : a' ≤ 40 := by have := hU.gr.w2; omega
      have lb : b' ≤ 40 := by have := hU.gr.h2; omega
      have HU : Hid (WinV wr u (M.b u.n) (M.c u.n) (M.g u.n) (M.pp u.par) (M.s u.n) (M.ptrs (kids L u.n))) := hU
      clear hup Hs ho D1 hV hin hn i1 i2 i3 i4 hrk hle hk hU
      go_wp2_with fail
      go_at_call 145
      refine Hup.out.mono ?_
      rintro e w2 ⟨rfl, hb2⟩
      have g2 := (hb2.cell (p := ⟨M.b u.n, 2, none⟩) HU.out.lt).trans f2
      have g3 := (hb2.cell (p := ⟨M.b u.n, 3, none⟩) HU.out.lt).trans f3
      have C2 := hC.below hb2 hbl
      have F2 := fun o => (hb2.marks hbl o).trans (hF o)
      have B2 : Below w.heap.size w w2 := hB.trans (hb2.mono hB.size)
      clear f2 f3 hC hF hB hb2 Hup
      go_wp2_with fail
      go_quiet (fail)
      go_wp2_with fail
      exact ⟨⟨u, a', b', f - 1, hu, Hl.out.1, Hl.out.2, Hn1.out, rfl, rfl, rfl, Ho.out, B2.trans (below_any _ w2 nq), C2, F2⟩, Hm.out⟩
theorem dHas {M : Mm} {L : List Wn} {last : Int} {N : Nat} {s : Rs} {t : Pt} (w : World) (h : DkAt w M L last N s t) (r : Wn) (hr : r ∈ L) (hr0 : r.n = 0) (x y : Int) :
    Calls Tryz.prog 42 #[.pointer (some ⟨M.t 1, 0, none⟩), .int .i64 x, .int .i64 y] w fun e w' => e = .returned (.bool (inG r.W r.H x y)) ∧ w' = w := by
  have hV := h.win r hr
  rw [hr0] at hV
  have d0 := h.d0
  have f5 := hV.f5
  have HG : Hid (GrAt w (M.c 0) (M.g 0) r.W r.H (r.H * r.W) r.G) := hV.gr
  clear hV h
  go_enter Tryz.func42, Tryz.ntmps42
  go_wp2_with (first | (go_at_call 103; refine (pHas _ _ _ _ _ _ _ _ _ HG.out).mono ?_; rintro e w' ⟨rfl, hw'⟩; replace hw' := hw'.symm; subst hw'))
  go_ret
  exact ⟨rfl, rfl⟩
end Go.Proofs.YtjlfibhbfdckpaaGreatDoor
