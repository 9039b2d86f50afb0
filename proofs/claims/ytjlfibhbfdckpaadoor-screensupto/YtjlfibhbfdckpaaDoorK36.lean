/- Texts of the proof, one behind the other: ShH. -/
import Derived.Test.YtjlfibhbfdckpaaDoorK35
import Derived.Test.YtjlfibhbfdckpaaDoorCards
import Derived.Test.YtjlfibhbfdckpaaDoorTie
/- The proof of Screens: the row and the card. -/
namespace Go.Proofs.YtjlfibhbfdckpaaDoor.screens
open Go.ChangeShapes Go.WideShapes Go.ChangeAt Go.RowKit
open Go.ChangeMaps (open_string shut_string)
open Go.Proofs.YtjlfibhbfdckpaaDoor.safe (own laidOut tabs tabs_size laidWorld)
theorem six {α : Type} {l : List α} (h : l.length = 6) : ∃ a b c d e f, l = [a, b, c, d, e, f] := by
  match l, h with
  | [a, b, c, d, e, f], _ => exact ⟨a, b, c, d, e, f, rfl⟩
section
variable {H : Type} {enc : TypeId × Value → H} {base : Nat} {sp : Nat → Bool} {held : Bool} {W : World} {a : Option Addr} {n cap : Nat} {d : DataW H} {p : List MemPlace}
/-- A step of the script as data. -/
def dOf (f : Fd) : DataW H := .agg [.lit (.int .i64 f.on), .lit (.int .i64 f.sz), .lit (.int .i64 f.W), .lit (.int .i64 f.H), .lit (.int .i64 f.lk), .lit (.string f.tx.data.toList)]
def fdOf (y : DataW H × List MemPlace) : Fd := match y.1 with
  | .agg [.lit (.int _ a), .lit (.int _ b), .lit (.int _ c), .lit (.int _ d), .lit (.int _ e), .lit (.string bs)] => ⟨a, b, c, d, e, ⟨bs.toArray⟩⟩
  | _ => noFd
theorem fdOf_mk (f : Fd) (ps : List MemPlace) : fdOf ((dOf f, ps) : DataW H × List MemPlace) = f := by
  obtain ⟨a, b, c, d, e, ⟨s⟩⟩ := f
  simp [fdOf, dOf]
theorem cInt : Tryd.prog.cellsOf 3 = 1 := by kernel_rfl
theorem cStr : Tryd.prog.cellsOf 9 = 1 := by kernel_rfl
theorem cFd : Tryd.prog.cellsOf 32 = 6 := by kernel_rfl
theorem fd_at {fuel : Nat} {cs : List Value} {y : DataW H × List MemPlace} (h : DataW.trod enc Tryd.prog W base sp held fuel 32 cs = some y) :
    y.1 = dOf (fdOf y) ∧ cs = [.int .i64 (fdOf y).on, .int .i64 (fdOf y).sz, .int .i64 (fdOf y).W, .int .i64 (fdOf y).H, .int .i64 (fdOf y).lk, .string (fdOf y).tx] ∧ (Lit.int .i64 (fdOf y).on).wf = true := by
  obtain ⟨xs, m, rfl, rfl, hl, hz, he⟩ := DataW.trod_struct Tryd.underlying32 h
  rw [cFd] at hl
  have hz' : xs.length = 6 := by simpa using hz
  obtain ⟨x0, x1, x2, x3, x4, x5, rfl⟩ := six hz'
  obtain ⟨c0, c1, c2, c3, c4, c5, rfl⟩ := six hl
  have g0 := he 0 _ rfl
  have g1 := he 1 _ rfl
  have g2 := he 2 _ rfl
  have g3 := he 3 _ rfl
  have g4 := he 4 _ rfl
  have g5 := he 5 _ rfl
  simp [cInt, cStr] at g0 g1 g2 g3 g4 g5
  obtain ⟨k0, e0, rfl, w0⟩ := DataW.trod_int Tryd.underlying3 g0
  obtain ⟨k1, e1, rfl, _⟩ := DataW.trod_int Tryd.underlying3 g1
  obtain ⟨k2, e2, rfl, _⟩ := DataW.trod_int Tryd.underlying3 g2
  obtain ⟨k3, e3, rfl, _⟩ := DataW.trod_int Tryd.underlying3 g3
  obtain ⟨k4, e4, rfl, _⟩ := DataW.trod_int Tryd.underlying3 g4
  obtain ⟨s5, e5, rfl, _⟩ := DataW.trod_string Tryd.underlying9 g5
  simp only [List.cons.injEq, and_true] at e0 e1 e2 e3 e4 e5
  subst e0 e1 e2 e3 e4 e5
  have e : ∀ ps, fdOf ((.agg [.lit (.int .i64 k0), .lit (.int .i64 k1), .lit (.int .i64 k2), .lit (.int .i64 k3), .lit (.int .i64 k4), .lit (.string s5.data.toList)], ps) : DataW H × List MemPlace) = ⟨k0, k1, k2, k3, k4, s5⟩ := fun ps => fdOf_mk ⟨k0, k1, k2, k3, k4, s5⟩ ps
  simp only [List.map_cons, List.map_nil]
  rw [e]
  exact ⟨rfl, rfl, w0⟩
theorem bulk_le (l : List (DataW H × List MemPlace)) (h : ∀ y ∈ l, y.1 = dOf (fdOf y)) : ((l.map fdOf).map fun f => f.tx.size).sum ≤ Rows.uptoBulkAll (l.map (·.1)) := by
  induction l with
  | nil => simp [Rows.uptoBulkAll]
  | cons y l ih =>
    have h1 := ih (fun z hz => h z (List.mem_cons_of_mem _ hz))
    have h2 : (fdOf y).tx.size ≤ Rows.uptoBulk y.1 := by
      rw [h y (List.mem_cons_self ..)]
      simp only [dOf, Rows.uptoBulk, Rows.uptoBulkAll, Array.length_toList]
      show (fdOf y).tx.data.size ≤ _
      omega
    simp only [List.map_cons, List.sum_cons, Rows.uptoBulkAll]
    omega
theorem fds_at {x : Addr} {fs : List Fd} (h : ∀ i, i < fs.length → ∀ j, j < 6 → W.cell? ((x.add (i * 6)).add j) = [Value.int .i64 (fs.getD i noFd).on, .int .i64 (fs.getD i noFd).sz, .int .i64 (fs.getD i noFd).W, .int .i64 (fs.getD i noFd).H, .int .i64 (fs.getD i noFd).lk, .string (fs.getD i noFd).tx][j]?) (hp : 0 < fs.length) :
    ∃ b off, x = ⟨b, off, none⟩ ∧ ∀ i, i < fs.length → ∀ j, j < 6 → W.cell? ⟨b, off + i * 6 + j, none⟩ = [Value.int .i64 (fs.getD i noFd).on, .int .i64 (fs.getD i noFd).sz, .int .i64 (fs.getD i noFd).W, .int .i64 (fs.getD i noFd).H, .int .i64 (fs.getD i noFd).lk, .string (fs.getD i noFd).tx][j]? := by
  obtain ⟨b, off, spot⟩ := x
  have h00 : W.cell? (((⟨b, off, spot⟩ : Addr).add (0 * 6)).add 0) = some (Value.int .i64 (fs.getD 0 noFd).on) := h 0 hp 0 (by omega)
  have hspot : spot = none := by simpa [Addr.add] using World.cell?_spot h00
  subst hspot
  exact ⟨b, off, rfl, fun i hi j hj => by have := h i hi j hj; rw [Go.WideShapes.add_plain, Go.WideShapes.add_plain] at this; exact this⟩
theorem fds_in (h : DataW.Trod enc Tryd.prog W base (fun _ => true) held 22 (.slice a n cap) d p) : ∃ fs, FdsIn W a n fs ∧ n ≤ 9223372036854775807 ∧ sumTo fs n ≤ Rows.uptoBulk d := by
  obtain ⟨fuel, hf⟩ := h
  rcases DataW.trod_slice Tryd.underlying22 hf with ⟨hcs, _⟩ | ⟨x, l, c, elems, rest, m, _, hcs, hx, _, hl, hm, hlen, hel, _, _⟩
  · simp [Value.cells] at hcs
    obtain ⟨rfl, rfl, rfl⟩ := hcs
    exact ⟨[], fun k hk => by omega, by omega, by simp [sumTo]⟩
  · simp [Value.cells] at hcs
    obtain ⟨rfl, rfl, rfl⟩ := hcs
    unfold maxLen at hm
    rw [cFd] at hel
    have each : ∀ i y, elems[i]? = some y → ∃ cs, W.cells? base (x.add (i * 6)) 6 = some cs ∧ DataW.trod enc Tryd.prog W base (fun _ => true) held m 32 cs = some y := by
      intro i y hy
      have hi : i < n := by have := (List.getElem?_eq_some_iff.1 hy).1; omega
      have := hel i hi
      rw [hy, Option.bind_eq_some_iff] at this
      exact this
    have hfs : ∀ i (hi : i < elems.length), (elems.map fdOf).getD i noFd = fdOf elems[i] := by
      intro i hi
      simp [List.getD_eq_getElem?_getD, List.getElem?_eq_getElem hi]
    have hz : (elems.map fdOf).length = n := by simpa using hlen
    refine ⟨elems.map fdOf, fun k hk => ?_, by omega, ?_⟩
    · obtain ⟨b, off, rfl, hc⟩ := fds_at (W := W) (x := x) (fs := elems.map fdOf) (fun i hi j hj => by
        have hi' : i < elems.length := by omega
        obtain ⟨cs, h1, h2⟩ := each i elems[i] (List.getElem?_eq_getElem hi')
        obtain ⟨_, rfl, _⟩ := fd_at h2
        rw [hfs i hi']
        exact (World.cells?_some h1).2.2 j hj) (by omega)
      have hk' : k < elems.length := by omega
      obtain ⟨cs, h1, h2⟩ := each k elems[k] (List.getElem?_eq_getElem hk')
      have hw := bounds_i64 (fd_at h2).2.2
      refine ⟨b, off, rfl, World.block_lt_of_cell? _ _ (hc k (by omega) 0 (by omega)), hc k (by omega) 0 (by omega), hc k (by omega) 1 (by omega), hc k (by omega) 2 (by omega), hc k (by omega) 3 (by omega), hc k (by omega) 4 (by omega), hc k (by omega) 5 (by omega), ?_, ?_⟩
      · rw [hfs k hk']; exact hw.1
      · rw [hfs k hk']; exact hw.2
    · obtain ⟨rfl, _⟩ := Prod.mk.inj hx
      unfold sumTo
      rw [List.take_of_length_le (by omega)]
      have := bulk_le elems (fun y hy => by
        obtain ⟨i, hi⟩ := List.getElem?_of_mem hy
        obtain ⟨cs, h1, h2⟩ := each i y hi
        exact (fd_at h2).1)
      simp only [Rows.uptoBulk]
      omega
end
set_option maxRecDepth 100000 in
/-- WHAT THE WALK GIVES. -/
theorem contract (H : Type) (enc : TypeId × Value → H) (W : World) (base : Nat) (args : Array Value) (ds gs : List (DataW H)) (before : List MemPlace)
    (hval : ∀ (j : Nat) t v, Tryd.f3.params[j]? = some t → args[j]? = some v → Value.okWide Tryd.prog W .any base t v)
    (hW : DataW.Whole enc Tryd.prog Tryd.f3.params.toList Rows.screensSpec.vars false W args.toList ds gs before) (hb : Rows.uptoSmall H (ds ++ gs) = true) (hL : laidMetH Tryd.prog Rows.screensUptoRow.laid W) :
    Calls Tryd.prog 3 args W fun e W' => ∃ v, e = .returned v ∧ Rows.screensSpec.post enc Tryd.prog Tryd.f3 false true false false W args v W' := by
  have hW' := hW
  obtain ⟨p, q, hA0, hV, rfl, hfz, hnd⟩ := hW
  have hA : DataW.TrodAll enc Tryd.prog W 0 (fun _ => true) true Tryd.f3.params.toList args.toList ds p := hA0
  rw [Tryd.params3] at hA hval
  obtain ⟨v0, vs0, d0, ds0, p0, q0, hargs, rfl, rfl, h0, r0⟩ := trodAll_cons hA
  obtain ⟨v1, vs1, d1, ds1, p1, q1, hargs1, rfl, rfl, h1, r1⟩ := trodAll_cons r0
  obtain ⟨v2, vs2, d2, ds2, p2, q2, hargs2, rfl, rfl, h2, r2⟩ := trodAll_cons r1
  obtain ⟨v3, vs3, d3, ds3, p3, q3, hargs3, rfl, rfl, h3, r3⟩ := trodAll_cons r2
  obtain ⟨v4, vs4, d4, ds4, p4, q4, hargs4, rfl, rfl, h4, r4⟩ := trodAll_cons r3
  obtain ⟨rfl, rfl, rfl⟩ := trodAll_nil r4
  subst hargs4 hargs3 hargs2 hargs1
  obtain rfl : args = #[v0, v1, v2, v3, v4] := by cases args; simp_all
  obtain ⟨rfl, rfl⟩ := trodVars_none hV
  have T := tabs hL
  have k0 := h0
  have k1 := h1
  have k2 := h2
  have k3 := h3
  have k4 := h4
  have lt0 : ∀ x ∈ p0, x.block < W.heap.size := by obtain ⟨m, hm⟩ := k0; exact DataW.trod_lt m _ _ _ hm
  have lt1 : ∀ x ∈ p1, x.block < W.heap.size := by obtain ⟨m, hm⟩ := k1; exact DataW.trod_lt m _ _ _ hm
  have lt2 : ∀ x ∈ p2, x.block < W.heap.size := by obtain ⟨m, hm⟩ := k2; exact DataW.trod_lt m _ _ _ hm
  have lt3 : ∀ x ∈ p3, x.block < W.heap.size := by obtain ⟨m, hm⟩ := k3; exact DataW.trod_lt m _ _ _ hm
  have lt4 : ∀ x ∈ p4, x.block < W.heap.size := by obtain ⟨m, hm⟩ := k4; exact DataW.trod_lt m _ _ _ hm
  have hbulk : Rows.uptoBulk d4 ≤ 1048576 := by
    have hb' := of_decide_eq_true hb
    simp only [List.append_nil, Rows.uptoBulkAll] at hb'
    omega
  clear hb
  obtain ⟨x, rfl, _, _, hx⟩ := open_int Tryd.underlying3 (hval 0 3 v0 rfl rfl) h0
  obtain ⟨y, rfl, _, _, hy⟩ := open_int Tryd.underlying3 (hval 1 3 v1 rfl rfl) h1
  obtain ⟨z, rfl, _, _, hz⟩ := open_int Tryd.underlying3 (hval 2 3 v2 rfl rfl) h2
  obtain ⟨u, rfl, _, _, hu⟩ := open_int Tryd.underlying3 (hval 3 3 v3 rfl rfl) h3
  obtain ⟨ta, tn, tc, rfl⟩ := okWide_slice Tryd.underlying22 (hval 4 22 v4 rfl rfl)
  obtain ⟨fs, hF, hn, hs⟩ := fds_in h4
  refine (lScreens x y z u ta tn tc fs W T (tabs_size T) hF hn (by omega)).mono fun e W' ⟨he, bel⟩ => ?_
  subst he
  exact ⟨_, rfl, _, _, _, [], _, [], hW', trodAll_mk1 (shut_bool Tryd.underlying4 _),
    (trodAll_cons_mk (Below.trod laidOut (by kernel_rfl) (of_decide_eq_true (by kernel_rfl)) k0 bel lt0) (trodAll_cons_mk (Below.trod laidOut (by kernel_rfl) (of_decide_eq_true (by kernel_rfl)) k1 bel lt1) (trodAll_cons_mk (Below.trod laidOut (by kernel_rfl) (of_decide_eq_true (by kernel_rfl)) k2 bel lt2) (trodAll_cons_mk (Below.trod laidOut (by kernel_rfl) (of_decide_eq_true (by kernel_rfl)) k3 bel lt3) (trodAll_cons_mk (Below.trod laidOut (by kernel_rfl) (of_decide_eq_true (by kernel_rfl)) k4 bel lt4) trodAll_mk0))))), rfl, bel.frame _, fun h => by cases h⟩
theorem laid_met (os : Os) : laidMet Tryd.prog Rows.screensUptoRow.laid ((laidWorld os).forCall (fun _ _ => 0) ⟨#[], #[.int .i64 0, .int .i64 0, .int .i64 0, .int .i64 0, .slice none 0 0], []⟩).memory :=
  laidMet_of_run' 8 (by kernel_rfl) (by kernel_rfl)
theorem reads (os : Os) {H : Type} (enc : TypeId × Value → H) : ∃ places, DataW.whole enc Tryd.prog ((laidWorld os).forCall (fun _ _ => 0) ⟨#[], #[.int .i64 0, .int .i64 0, .int .i64 0, .int .i64 0, .slice none 0 0], []⟩).memory Tryd.f3.params.toList Rows.screensSpec.vars false #[Value.int .i64 0, .int .i64 0, .int .i64 0, .int .i64 0, .slice none 0 0].toList 8 = some ([.lit (.int .i64 0), .lit (.int .i64 0), .lit (.int .i64 0), .lit (.int .i64 0), .nil], [], places) :=
  ⟨[], by kernel_rfl⟩
set_option maxRecDepth 100000 in
theorem lifted (os : Os) (started : os.Started) (H : Type) (enc : TypeId × Value → H) (F : Stop.Interp) :
    ReturnsInHanded {} Tryd.checked os 3 .any ((Rows.OpenSpec.upto Rows.screensSpec).preRow enc Tryd.prog Tryd.f3 Rows.screensUptoRow.domain false Rows.screensUptoRow.laid) (((Rows.OpenSpec.upto Rows.screensSpec).at F).post enc Tryd.prog Tryd.f3 false true false false) := by
  obtain ⟨places, hx⟩ := reads os enc
  refine returnsInHanded_of_row (C := Tryd.checked) (s := Rows.OpenSpec.upto Rows.screensSpec) own started (by kernel_rfl) Tryd.func3
    (witness_row_at (enc := enc) (C := Tryd.checked) false (laidWorld os) #[.int .i64 0, .int .i64 0, .int .i64 0, .int .i64 0, .slice none 0 0] rfl (by kernel_rfl) (by kernel_rfl) (by kernel_rfl)
      (OpenSpec.preRow_of_cond 8 hx (by kernel_rfl) (fun k hk => by cases hk; kernel_rfl) (by kernel_rfl) (laid_met os))) ?_
  intro W base args ds gs before hval hW _ hcond _ hL _ _
  exact contract H enc W base args ds gs before hval hW (hcond _ rfl) hL
theorem said : Rows.ScreensUptoSaid :=
  OpenClaim.holds_of_cond 3 Tryd.f3 rfl rfl rfl rfl rfl rfl rfl ⟨rfl, rfl, rfl, rfl, rfl⟩ rfl rfl rfl rfl rfl (by kernel_rfl) Tryd.func3 (by kernel_rfl)
    (of_decide_eq_true (by kernel_rfl)) (by unfold Func.isWrapper; first | (rw [if_pos (by decide +kernel)]; kernel_rfl) | (rw [if_neg (by decide +kernel)]; exact ⟨rfl, rfl⟩))
    (fun os started H enc _ F => by rw [OpenClaim.pre_eq_preRow]; exact lifted os started H enc F)
theorem plain (f : FuncId) (fn : Func) (hf : Tryd.pinned.checked.prog.funcNamed "casement/casementlaw.Screens" = some f) (hfn : Tryd.pinned.checked.prog.funcs[f]? = some fn) :
    false = Tryd.pinned.checked.prog.looks [] ∧ ∀ (j : Nat) t, fn.params[j]? = some t → Tryd.pinned.checked.prog.wantsStandIn t = false := by
  obtain rfl : f = 3 := Option.some.inj ((show Tryd.prog.funcNamed "casement/casementlaw.Screens" = some 3 by kernel_rfl).symm.trans hf) |>.symm
  obtain rfl : fn = Tryd.f3 := (Option.some.inj (Tryd.func3.symm.trans hfn)).symm
  refine ⟨by kernel_rfl, fun j t ht => ?_⟩
  rw [Tryd.params3] at ht
  have hm : t = 3 ∨ t = 22 := by simpa using Array.mem_of_getElem? ht
  rcases hm with rfl | rfl
  · exact (show Tryd.prog.wantsStandIn 3 = false by kernel_rfl)
  · exact (show Tryd.prog.wantsStandIn 22 = false by kernel_rfl)
theorem card : Rows.ScreensUptoCardSaid :=
  Claim7.holds_tied_plain_at .later [] _ _ _ _ said (fun _ h => by cases h) (by kernel_rfl) (fun _ h => by cases h) screensUpto_row_tie rfl ⟨rfl, rfl⟩ (by kernel_rfl) rfl plain (by kernel_rfl)
end Go.Proofs.YtjlfibhbfdckpaaDoor.screens
namespace Go.Proofs.YtjlfibhbfdckpaaDoor
theorem screens_holds : Rows.ScreensUptoCardSaid := screens.card
#print axioms screens_holds
end Go.Proofs.YtjlfibhbfdckpaaDoor
