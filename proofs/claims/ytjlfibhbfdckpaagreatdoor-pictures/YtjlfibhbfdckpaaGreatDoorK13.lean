/- Texts of the proof, one behind the other: DkB. -/
import Derived.Test.YtjlfibhbfdckpaaGreatDoorK12
/- The program's desk: slices.Backward over the windows of a parent; uppermostAt. -/
namespace Go.Proofs.YtjlfibhbfdckpaaGreatDoor
open Go.RowKit Go.Shelf
attribute [local go_sem] Oper.semAt_some
abbrev KidOf (ks : List Wn) := Nat × { u : Wn // u ∈ ks }
abbrev kidEnc (M : Mm) (ks : List Wn) (x : KidOf ks) : Array Value := #[.int .i64 (x.1 : Int), M.ptr x.2.1.n]
theorem rev_at (ks : List Wn) (k : Nat) (hk : k < ks.length) : ∃ u : { u : Wn // u ∈ ks }, ks[ks.length - 1 - k]? = some u.1 ∧ ks.attach.reverse[k]? = some u := by
  have h : ks.length - 1 - k < ks.length := by omega
  refine ⟨⟨ks[ks.length - 1 - k], List.getElem_mem h⟩, List.getElem?_eq_getElem h, ?_⟩
  rw [List.getElem?_reverse (by simpa using hk)]
  simp [List.length_attach, h]
set_option maxRecDepth 100000 in
set_option maxHeartbeats 2000000 in
theorem back1 (M : Mm) (ks : List Wn) (F : Fence) (n : Nat) (hf : F.fn 195) (hro : F.round = none) (hn : 1 ≤ n) (l Bs n₀ b cap : Nat) (hmax : cap ≤ 9223372036854775807) (hlc : ks.length ≤ cap) (hb : b < n₀) (J Jx : List (KidOf ks) → World → Prop)
    (hY : ∀ pre x W, J pre W → pre.length < ks.length → YieldAt F (n - 1) Tryz.prog l (kidEnc M ks x) W fun e W' =>
      (e = .returned (.bool true) ∧ J (pre ++ [x]) W' ∧ Below n₀ W W') ∨ (e = .returned (.bool false) ∧ Jx (pre ++ [x]) W'))
    (W : World) (hBn : Bs < n₀) (hBs : W.cell? ⟨Bs, 0, none⟩ = some (.slice (some ⟨b, 0, none⟩) ks.length cap)) (hc : ∀ j u, ks[j]? = some u → W.cell? ⟨b, j, none⟩ = some (M.ptr u.n)) (h0 : J [] W) :
    CallsIn F n Tryz.prog 195 #[.func (.yield l) #[] #[], .pointer (some ⟨Bs, 0, none⟩)] W fun e W' => (∃ v, e = .returned v) ∧
      ((∃ ys, ys.map Prod.snd = ks.attach.reverse ∧ J ys W') ∨ (∃ pre, pre.map Prod.snd <+: ks.attach.reverse ∧ Jx pre W')) := by
  refine callsIn_of_wp Tryz.func195 rfl hf ?_ hro
  simp only [Tryz.ntmps195, List.size_toArray, List.length_cons, List.length_nil, Nat.reduceAdd, Nat.reduceSub, Array.replicate_succ, Array.replicate_zero, List.push_toArray, List.append_toArray, List.nil_append, List.cons_append]
  gi_wp2
  gi_loopw [3] (fun i wr => ∃ (k : Nat) (pre : List (KidOf ks)), k ≤ ks.length ∧ i = .int .i64 ((ks.length : Int) - 1 - k) ∧ pre.map Prod.snd = ks.attach.reverse.take k ∧ J pre wr ∧ Below n₀ W wr)
    (fun i _ => (intOf i + 1).toNat)
  case atStart => exact ⟨0, [], Nat.zero_le _, by simp, rfl, h0, Below.refl _ _⟩
  case round =>
    obtain ⟨k, pre, hk, rfl, hp, hJs, hnx⟩ := hrel
    have hBs' := (hnx.cell (p := ⟨Bs, 0, none⟩) hBn).trans hBs
    have hpl : pre.length = k := by
      have := congrArg List.length hp
      simp at this
      omega
    by_cases hlt : k < ks.length
    · obtain ⟨u, hu, hru⟩ := rev_at ks k hlt
      obtain ⟨m, hm⟩ : ∃ m : Nat, ks.length - 1 - k = m := ⟨_, rfl⟩
      have hmi : (ks.length : Int) - 1 - k = m := by omega
      rw [hm] at hu
      have hcx := (hnx.cell (p := ⟨b, m, none⟩) hb).trans (hc m u.1 hu)
      have hml : m < ks.length := by omega
      obtain ⟨fn, tmps, assign, body, hy, hR⟩ := hY _ (m, u) wr hJs (by omega)
      dsimp only [kidEnc] at hy
      rw [hmi]
      have Hm : Hid ((ks.length : Int) - 1 - k = m) := hmi
      clear hmi hm
      gi_wp2
      refine hR.mono ?_
      rintro e W3 (⟨rfl, hJ3, hk3⟩ | ⟨rfl, hJx3⟩)
      · gi_wp2
        go_roundw
        case rel =>
          refine ⟨k + 1, pre ++ [(m, u)], by omega, ?_, ?_, hJ3, hnx.trans hk3⟩
          · have := Hm.out; simp; omega
          · rw [List.map_append, hp, List.take_add_one, hru]; rfl
        case measure => simp [intOf]
      · gi_wp2
        refine bodyPost_ret (results_none rfl _ _ _) rfl ?_
        refine ⟨⟨_, rfl⟩, .inr ⟨_, ?_, hJx3⟩⟩
        have : (pre ++ [(m, u)]).map Prod.snd = ks.attach.reverse.take (k + 1) := by rw [List.map_append, hp, List.take_add_one, hru]; rfl
        rw [this]
        exact List.take_prefix _ _
    · obtain rfl : k = ks.length := by omega
      have hz : (ks.length : Int) - 1 - ks.length = -1 := by omega
      rw [hz]
      gi_wp2
      go_end0
      refine ⟨⟨_, rfl⟩, .inl ⟨_, ?_, hJs⟩⟩
      rw [hp]
      exact List.take_of_length_le (by simp)
set_option maxRecDepth 100000 in
set_option maxHeartbeats 1000000 in
theorem back1_none (ks : List Wn) (F : Fence) (n : Nat) (hf : F.fn 195) (hro : F.round = none) (l Bs cap : Nat) (p : Option Addr) (J : List (KidOf ks) → World → Prop) (W : World) (hBs : W.cell? ⟨Bs, 0, none⟩ = some (.slice p 0 cap)) (h0 : J [] W) :
    CallsIn F n Tryz.prog 195 #[.func (.yield l) #[] #[], .pointer (some ⟨Bs, 0, none⟩)] W fun e W' => (∃ v, e = .returned v) ∧ J [] W' := by
  refine callsIn_of_wp Tryz.func195 rfl hf ?_ hro
  simp only [Tryz.ntmps195, List.size_toArray, List.length_cons, List.length_nil, Nat.reduceAdd, Nat.reduceSub, Array.replicate_succ, Array.replicate_zero, List.push_toArray, List.append_toArray, List.nil_append, List.cons_append]
  gi_wp2
  gi_loopw [3] (fun i wr => i = .int .i64 (-1) ∧ J [] wr) (fun _ _ => 0)
  case atStart => exact ⟨rfl, h0⟩
  case round =>
    obtain ⟨rfl, hJs⟩ := hrel
    gi_wp2
    go_end0
    exact ⟨⟨_, rfl⟩, hJs⟩
theorem back_stops (M : Mm) (ks : List Wn) (F : Fence) (n : Nat) (hf : F.fn 195) (hro : F.round = none) (hn : 1 ≤ n) (Bs n₀ cap : Nat) (p : Option Addr) (hmax : cap ≤ 9223372036854775807) (hlc : ks.length ≤ cap) (w : World) (hBs : Bs < n₀) (hn₀ : n₀ ≤ w.heap.size)
    (hc : w.cell? ⟨Bs, 0, none⟩ = some (.slice p ks.length cap)) (hI : ∀ j u, ks[j]? = some u → ∃ b, p = some ⟨b, 0, none⟩ ∧ b < n₀ ∧ w.cell? ⟨b, j, none⟩ = some (M.ptr u.n)) :
    SeqStopsK F n Tryz.prog 195 #[.pointer (some ⟨Bs, 0, none⟩)] (kidEnc M ks) (Below n₀) (fun ys => ys.map Prod.snd = ks.attach.reverse) (fun pre => pre.map Prod.snd <+: ks.attach.reverse) ks.length w := fun l J Jx W hW _ _ hY h0 => by
  have hc' := (hW.cell (p := ⟨Bs, 0, none⟩) (Nat.lt_of_lt_of_le hBs hn₀)).trans hc
  rcases Nat.eq_zero_or_pos ks.length with hz | hz
  · rw [hz] at hc'
    obtain rfl := List.length_eq_zero_iff.1 hz
    exact (back1_none [] F n hf hro l Bs cap p J W hc' h0).mono fun e W' ⟨he, hj⟩ => ⟨he, .inl ⟨[], rfl, hj⟩⟩
  · obtain ⟨b, rfl, hb, _⟩ := hI 0 _ (List.getElem?_eq_getElem hz)
    refine back1 M ks F n hf hro hn l Bs n₀ b cap hmax hlc hb J Jx hY W hBs hc' (fun j u hu => ?_) h0
    obtain ⟨b', e, _, hcell⟩ := hI j u hu
    obtain rfl : b = b' := by simpa using e
    exact (hW.cell (p := ⟨b, j, none⟩) (Nat.lt_of_lt_of_le hb hn₀)).trans hcell
set_option maxHeartbeats 1000000 in
theorem back_in (F : Fence) (n : Nat) (hf : F.fn 169) (hro : F.round = none) (a : Option Addr) (len cap : Nat) (w : World) :
    CallsIn F n Tryz.prog 169 #[.slice a len cap] w fun e w' => e = .returned (.func (.func 195) #[] #[.pointer (some ⟨w.heap.size, 0, none⟩)]) ∧ w' = w.alloc (.cells #[.slice a len cap] 129) := by
  refine callsIn_of_wp Tryz.func169 rfl hf ?_ hro
  simp only [Tryz.ntmps169, List.size_toArray, List.length_cons, List.length_nil, Nat.reduceAdd, Nat.reduceSub, Array.replicate_succ, Array.replicate_zero, List.push_toArray, List.append_toArray, List.nil_append, List.cons_append]
  gi_wp2
  go_ret
  exact ⟨rfl, rfl⟩
theorem keeps_drewN (W : World) (n : Nat) : KeepsOthers W (W.drewN n) := ⟨Nat.le_refl _, fun _ _ h _ => h⟩
theorem below_any (B : Nat) (W : World) (n : Nat) : Below B W (W.drewN n) := ⟨rfl, rfl, rfl, Nat.le_refl _, fun _ _ => rfl⟩
set_option maxRecDepth 100000 in
set_option maxHeartbeats 4000000 in
theorem wUpper (M : Mm) (v : Wn) (ks : List Wn) (bn cn gn : Nat) (pp : Option Addr) (sv : Value) (x y : Int) (w : World) (h : WinV w v bn cn gn pp sv (M.ptrs ks))
    (hw : ∀ u ∈ ks, ∃ pp sv vs, WinV w u (M.b u.n) (M.c u.n) (M.g u.n) pp sv vs) (hb : ∀ u ∈ ks, -1000 ≤ u.x ∧ u.x ≤ 1000 ∧ -1000 ≤ u.y ∧ u.y ≤ 1000) (hx : -2000 ≤ x ∧ x ≤ 2000 ∧ -2000 ≤ y ∧ y ≤ 2000) :
    Calls Tryz.prog 145 #[.pointer (some ⟨bn, 0, none⟩), .int .i64 x, .int .i64 y] w fun e w' => e = .returned (.pointer ((ks.reverse.find? (hit x y)).map (fun u => ⟨M.b u.n, 0, none⟩))) ∧ Below w.heap.size w w' := by
  have c6 := h.f6
  have hbn := h.lt
  obtain ⟨p, cap, rfl, hcap, hmax, hcell⟩ := ownsRow_open h.row
  have Hc : Hid (∀ j x, (M.ptrs ks)[j]? = some x → ∃ ib, p = some ⟨ib, 0, none⟩ ∧ w.cell? ⟨ib, j, none⟩ = some x) := hcell
  have Hw : Hid (∀ u ∈ ks, ∃ pp sv vs, WinV w u (M.b u.n) (M.c u.n) (M.g u.n) pp sv vs) := hw
  have Hb : Hid (∀ u ∈ ks, -1000 ≤ u.x ∧ u.x ≤ 1000 ∧ -1000 ≤ u.y ∧ u.y ≤ 1000) := hb
  rw [M.ptrs_len] at *
  have c6' : ∀ o1 o2 o3, (((w.alloc o1).alloc o2).alloc o3).cell? ⟨bn, 6, none⟩ = some (.slice p ks.length cap) := fun o1 o2 o3 => by
    have hB : Below w.heap.size w (((w.alloc o1).alloc o2).alloc o3) := (((Below.refl _ w).alloc (Nat.le_refl _) _).alloc (by simp) _).alloc (by simp; omega) _
    rw [hB.cell (p := ⟨bn, 6, none⟩) hbn]; exact c6
  clear h hcell hw hb
  refine (callsIn_wide (n := 5)).1 ?_
  have hro : Fence.wide.round = none := rfl
  refine callsIn_of_wp_marks Tryz.func145 rfl trivial ?_ hro
  simp only [Tryz.ntmps145, List.size_toArray, List.length_cons, List.length_nil, Nat.reduceAdd, Nat.reduceSub, Array.replicate_succ, Array.replicate_zero, List.push_toArray, List.append_toArray, List.nil_append, List.cons_append]
  gi_wp2_with (refine ⟨trivial, ?_⟩; gi_at_call 169; refine (back_in Fence.wide _ trivial hro _ _ _ _).mono ?_; rintro e w' ⟨rfl, rfl⟩)
  have bX := Boxed.new w 3 (.int .i64 x)
  have bY := Boxed.new (w.alloc (.cells #[.int .i64 x] 3)) 3 (.int .i64 y)
  have bR := Boxed.new ((w.alloc (.cells #[.int .i64 x] 3)).alloc (.cells #[.int .i64 y] 3)) 111 (.pointer none)
  have bN := Boxed.new (((w.alloc (.cells #[.int .i64 x] 3)).alloc (.cells #[.int .i64 y] 3)).alloc (.cells #[.pointer none] 111)) 129 (.slice p ks.length cap)
  simp only [World.size_alloc] at bY bR bN
  obtain ⟨W0, hW0⟩ : ∃ W0, ((((w.alloc (.cells #[.int .i64 x] 3)).alloc (.cells #[.int .i64 y] 3)).alloc (.cells #[.pointer none] 111)).alloc (.cells #[.slice p ks.length cap] 129)) = W0 := ⟨_, rfl⟩
  have hB0 : Below w.heap.size w W0 := by rw [← hW0]; exact ((((Below.refl _ w).alloc (Nat.le_refl _) _).alloc (by simp) _).alloc (by simp; omega) _).alloc (by simp; omega) _
  have bX0 := ((bX.alloc (.cells #[.int .i64 y] 3)).alloc (.cells #[.pointer none] 111)).alloc (.cells #[.slice p ks.length cap] 129)
  have bY0 := (bY.alloc (.cells #[.pointer none] 111)).alloc (.cells #[.slice p ks.length cap] 129)
  have bR0 := bR.alloc (.cells #[.slice p ks.length cap] 129)
  rw [hW0] at bX0 bY0 bR0 bN ⊢
  have hsz : W0.heap.size = w.heap.size + 4 := by rw [← hW0]; simp
  clear bX bY bR hW0 c6'
  refine wpIn_rangeFunc_ownG hro (by omega) (gf := 195) (lb := #[.pointer (some ⟨w.heap.size + 1 + 1 + 1, 0, none⟩)]) rfl trivial (enters_of Tryz.func195 (by kernel_rfl) rfl)
    (back_stops M ks Fence.wide (5 - 1) trivial hro (by omega) (w.heap.size + 1 + 1 + 1) (w.heap.size + 4) cap p hmax hcap _ (by omega) (by omega) bN.cell ?seq) belowK_t (belowK_b (by omega)) (Below.refl _ _) (fun _ => rfl)
    (fun pre W => ((∀ q ∈ pre, hit x y q.2.1 = false) ∧ Boxed W w.heap.size 3 (.int .i64 x) ∧ Boxed W (w.heap.size + 1) 3 (.int .i64 y) ∧ Boxed W (w.heap.size + 1 + 1) 111 (.pointer none)) ∧ Below w.heap.size w W)
    (fun c pre W => (c = .ret ∧ ∃ ini last, pre = ini ++ [last] ∧ (∀ q ∈ ini, hit x y q.2.1 = false) ∧ hit x y last.2.1 = true ∧ Boxed W (w.heap.size + 1 + 1) 111 (M.ptr last.2.1.n)) ∧ Below w.heap.size w W)
    ?own ?ownx ?start
    (fun q => { tmps := #[.pointer (some ⟨bn, 0, none⟩), .int .i64 x, .int .i64 y, undef, .pointer (some ⟨w.heap.size, 0, none⟩), .pointer (some ⟨w.heap.size + 1, 0, none⟩), .pointer (some ⟨w.heap.size + 1 + 1, 0, none⟩), undef, M.ptr q.2.1.n, .pointer (some ⟨bn, 0, none⟩), .pointer (some ⟨bn, 0, none⟩), .pointer (some ⟨bn, 6, none⟩), .slice p ks.length cap, .func (.func 195) #[] #[.pointer (some ⟨w.heap.size + 1 + 1 + 1, 0, none⟩)], .int .i64 (q.1 : Int), M.ptr q.2.1.n, undef, undef, undef, undef, undef, undef, undef, undef, undef, undef, undef, undef, undef, undef, undef, undef, undef, undef, undef, undef, undef, undef, undef, undef], defers := [] }) ?assign ?body ?done ?stop
  case seq =>
    intro j u hu
    obtain ⟨ib, rfl, hc⟩ := Hc.out j _ (Mm.ptrs_at hu)
    have hl : ib < w.heap.size := World.block_lt_of_cell? _ _ hc
    exact ⟨ib, rfl, by omega, by rw [hB0.cell (p := ⟨ib, j, none⟩) hl]; exact hc⟩
  case own =>
    exact OwnFrom.and (OwnFrom.and (ownFrom_pure _ _) (OwnFrom.and (Own.from (boxed_own _ _ _) _) (OwnFrom.and (Own.from (boxed_own _ _ _) _) (Own.from (boxed_own _ _ _) _)))) (ownFrom_below (Nat.le_refl _) (by omega))
  case ownx =>
    intro c
    refine OwnFrom.and (Own.from (fun s A B row hs hg hr => ?_) _) (ownFrom_below (Nat.le_refl _) (by omega))
    obtain ⟨hc, ini, last, e1, e2, e3, e4⟩ := hs
    exact ⟨hc, ini, last, e1, e2, e3, boxed_own (β := Unit) _ _ (fun _ => M.ptr last.2.1.n) () A B row e4 hg hr⟩
  case start => exact ⟨⟨by simp, bX0, bY0, bR0⟩, hB0⟩
  case assign =>
    intro l q W K hK
    gi_wp2
    exact hK
  case body =>
    rintro l pre ⟨q1, u, hu⟩ W ⟨⟨hp, bx, by', br⟩, hB⟩ _
    dsimp only
    have hx1 := bx.cell
    have hy1 := by'.cell
    have hr1 := br.cell
    have hf1 := br.frozen
    obtain ⟨pp', sv', vs', hV⟩ := Hw.out u hu
    have G := hV.gr.same (hB.block _ hV.gr.lt) (hB.block _ hV.gr.glt)
    have HG : Hid (GrAt W (M.c u.n) (M.g u.n) u.W u.H (u.H * u.W) u.G) := G
    have f2 := (hB.cell (p := ⟨M.b u.n, 2, none⟩) hV.lt).trans hV.f2
    have f3 := (hB.cell (p := ⟨M.b u.n, 3, none⟩) hV.lt).trans hV.f3
    have f4 := (hB.cell (p := ⟨M.b u.n, 4, none⟩) hV.lt).trans hV.f4
    have f5 := (hB.cell (p := ⟨M.b u.n, 5, none⟩) hV.lt).trans hV.f5
    obtain ⟨b1, b2, b3, b4⟩ := Hb.out u hu
    clear hV G
    have hfn : Fence.wide.fn 103 := trivial
    cases hsh : u.sh with
    | false =>
      rw [hsh] at f4
      gi_wp2
      refine quiet_round l rfl (by kernel_rfl) (by kernel_rfl) (by kernel_rfl) ?_
      repeat (gi_big_quiet_step (fail))
      refine wpQuietIn_nil ?_
      intro _ hw'
      obtain ⟨nq, hw''⟩ := hw'
      subst hw''
      gi_wp2
      have hh : hit x y u = false := by simp [hit, hsh]
      exact ⟨(keeps_drewN W nq).from _, below_any _ W nq, ⟨fun q hq => (List.mem_append.1 hq).elim (hp q) (fun e => by simp at e; subst e; exact hh), bx, by', br⟩, hB.trans (below_any _ W nq)⟩
    | true =>
      rw [hsh] at f4
      gi_wp2
      refine quiet_round l rfl (by kernel_rfl) (by kernel_rfl) (by kernel_rfl) ?_
      repeat (gi_big_quiet_step (first | (gi_at_call 103; refine CallsIn.quiet_of_same (callsIn_wide.2 (pHas _ _ _ _ _ _ _ _ _ (HG.out.same rfl rfl))))))
      refine wpQuietIn_nil ?_
      intro _ hw'
      obtain ⟨nq, hw''⟩ := hw'
      subst hw''
      gi_wp2
      · have hin : inG u.W u.H (x - u.x) (y - u.y) = true := by assumption
        have hh : hit x y u = true := by simp [hit, hsh, hin]
        refine ⟨?_, ⟨rfl, pre, (q1, ⟨u, hu⟩), rfl, hp, hh, br.set (M.ptr u.n)⟩, ?_⟩
        · exact ((keeps_drewN W nq).trans (KeepsOthers.setCell (W.drewN nq) _ _)).from _
        · exact (hB.trans (below_any _ W nq)).setCell (p := ⟨w.heap.size + 1 + 1, 0, none⟩) (by simp; omega) _
      · have hin : inG u.W u.H (x - u.x) (y - u.y) = false := by assumption
        have hh : hit x y u = false := by simp [hit, hsh, hin]
        exact ⟨(keeps_drewN W nq).from _, below_any _ W nq, ⟨fun q hq => (List.mem_append.1 hq).elim (hp q) (fun e => by simp at e; subst e; exact hh), bx, by', br⟩, hB.trans (below_any _ W nq)⟩
  case done =>
    rintro D ys W hD hys ⟨⟨hne, _, _, br⟩, hB⟩ hK
    have hcr := br.cell
    have hfr := br.frozen
    have hnone : Hid (ks.reverse.find? (hit x y) = none) := by
      show ks.reverse.find? (hit x y) = none
      rw [List.find?_eq_none]
      intro u hu
      have hu' : u ∈ ks := List.mem_reverse.1 hu
      have hm : (⟨u, hu'⟩ : { u : Wn // u ∈ ks }) ∈ ys.map Prod.snd := by rw [hys]; simp
      obtain ⟨q, hq, e⟩ := List.mem_map.1 hm
      have := hne q hq
      rw [e] at this
      simp [this]
    gi_wp2
    have hK' := (KeepsOthers.setCell W ⟨w.heap.size + 1 + 1, 0, none⟩ (.pointer none)).same D _ hK rfl
    refine ⟨by simp, .inl ⟨_, _, rfl, run_takeDeferred hK', ?_⟩⟩
    have hc5 := cell_kept (World.cell?_setCell_same' W ⟨w.heap.size + 1 + 1, 0, none⟩ (.pointer none) (by rw [hcr]; rfl)) (grownBy_putObj' _ D (.deferred none)) (fun r e => by cases e; exact ⟨_, hK', rfl⟩)
    refine ⟨.pointer none, ?_, by rw [hnone.out]; rfl, (hB.setCell (p := ⟨w.heap.size + 1 + 1, 0, none⟩) (by simp; omega) _).trans (belowK_b (w := w) (Nat.le_refl _) _ D _ _ (by omega) hK' rfl rfl)⟩
    simp [results, Tryz.f145, go_sem, hc5]
  case stop =>
    rintro D c pre W hD hpre ⟨⟨rfl, ini, last, e1, e2, e3, br⟩, hB⟩ hK
    have hcr := br.cell
    have hsome : Hid (ks.reverse.find? (hit x y) = some last.2.1) := by
      show ks.reverse.find? (hit x y) = some last.2.1
      obtain ⟨rest, hrest⟩ := hpre
      have e : ks.reverse = (ini.map (fun q => q.2.1)) ++ last.2.1 :: rest.map Subtype.val := by
        have := congrArg (List.map Subtype.val) hrest
        rw [e1] at this
        simpa [Function.comp_def] using this.symm
      rw [e, List.find?_append, List.find?_eq_none.2, Option.none_or, List.find?_cons_of_pos e3]
      intro u hu
      obtain ⟨q, hq, rfl⟩ := List.mem_map.1 hu
      simp [e2 q hq]
    gi_wp2
    refine ⟨by simp, .inl ⟨_, _, rfl, run_takeDeferred hK, ?_⟩⟩
    have hc5 := cell_kept hcr (grownBy_putObj' _ D (.deferred none)) (fun r e => by cases e; exact ⟨_, hK, rfl⟩)
    refine ⟨M.ptr last.2.1.n, ?_, by rw [hsome.out]; rfl, hB.trans (belowK_b (w := w) (Nat.le_refl _) W D _ _ (by omega) hK rfl rfl)⟩
    simp [results, Tryz.f145, go_sem, hc5]
end Go.Proofs.YtjlfibhbfdckpaaGreatDoor
