/- Texts of the proof, one behind the other: RdK. -/
import Derived.Test.YtjlfibhbfdckpaaGreatDoorK10
import Derived.Test.YtjlfibhbfdckpaaGreatDoorK33
/- The document's desk: the owner of a place; Cell. -/
namespace Go.Proofs.YtjlfibhbfdckpaaGreatDoor
open Go.RowKit
attribute [local go_sem ↓] Go.wp_at_zero Go.wp_at_succ
section
variable {R : Rm} {L : List Wn} {last : Int}
/-- A window of a parent that is shown and has a place. -/
def cnd (n x y : Int) (u : Wn) : Bool := decide (u.par = n) && hit x y u
/-- What the inner loop knows. -/
def Nxt (L : List Wn) (n x y : Int) (nx k : Nat) : Prop :=
  (nx = 0 ∧ ∀ (i : Nat) (v : Wn), i < k → L[i]? = some v → cnd n x y v = false) ∨ (1 ≤ nx ∧ ∃ v, L[nx]? = some v ∧ cnd n x y v = true ∧ ∀ (i : Nat) (u : Wn), nx < i → i < k → L[i]? = some u → cnd n x y u = false)
theorem Nxt.skip {n x y : Int} {nx k : Nat} {v : Wn} (h : Nxt L n x y nx k) (hv : L[k]? = some v) (hc : cnd n x y v = false) : Nxt L n x y nx (k + 1) := by
  rcases h with ⟨e, h⟩ | ⟨e, u, hu, hcu, h⟩
  · refine .inl ⟨e, fun i u hi hu => ?_⟩
    by_cases hik : i = k
    · subst hik; rw [hv] at hu; injection hu with hu; rw [← hu]; exact hc
    · exact h i u (by omega) hu
  · refine .inr ⟨e, u, hu, hcu, fun i z hi hi2 hz => ?_⟩
    by_cases hik : i = k
    · subst hik; rw [hv] at hz; injection hz with hz; rw [← hz]; exact hc
    · exact h i z hi (by omega) hz
theorem Nxt.take {n x y : Int} {nx k : Nat} {v : Wn} (_h : Nxt L n x y nx k) (hk : 1 ≤ k) (hv : L[k]? = some v) (hc : cnd n x y v = true) : Nxt L n x y k (k + 1) :=
  .inr ⟨hk, v, hv, hc, fun i u h1 h2 => by omega⟩
theorem Nxt.none {n x y : Int} (h : Nxt L n x y 0 L.length) : nextP L n x y = none := by
  rcases h with ⟨_, h⟩ | ⟨e, _⟩
  · rw [nextP_eq]
    exact findRev_none L (fun k v hv => h k v (List.getElem?_eq_some_iff.1 hv).1 hv)
  · omega
theorem Nxt.some {n x y : Int} {nx : Nat} (h : Nxt L n x y nx L.length) (h1 : nx ≠ 0) : ∃ v, L[nx]? = some v ∧ nextP L n x y = some v := by
  rcases h with ⟨e, _⟩ | ⟨_, v, hv, hc, h⟩
  · exact absurd e h1
  · refine ⟨v, hv, ?_⟩
    rw [nextP_eq]
    exact findRev_some L nx v hv hc (fun k u hk hu => h k u hk (List.getElem?_eq_some_iff.1 hu).1 hu)
def rkAt (L : List Wn) (rk : Int → Nat) (i : Value) : Nat := rk ((L[(intOf i).toNat]?.map Wn.n).getD 0)
set_option maxRecDepth 20000 in
set_option maxHeartbeats 4000000 in
theorem rdOwner {rk : Int → Nat} {K : Nat} (T : Tree L rk K) (ok : DOk L last) (w : World) (h : RkAt w R L last) (r : Wn) (hr : L[0]? = some r) (x y : Int) (hin : inG r.W r.H x y = true) :
    Calls Tryz.prog 93 #[.pointer (some ⟨R.d, 0, none⟩), .int .i64 x, .int .i64 y] w fun e w' => ∃ j : Nat, e = .returned (.tuple #[.int .i64 j, .int .i64 (ownP L K r x y).2.1, .int .i64 (ownP L K r x y).2.2]) ∧ L[j]? = some (ownP L K r x y).1 ∧ Below w.heap.size w w' := by
  have HT : Hid (Tree L rk K) := T
  have HR : Hid (RkAt w R L last) := h
  have Hok : Hid (DOk L last) := ok
  have h16 : L.length ≤ 16 := ok.len
  obtain ⟨g, cap, hl, hw, hfz, _⟩ := h.sl ok.one
  have Hl : Hid (R.l = .slice (some ⟨g, 0, none⟩) L.length cap) := hl
  clear h T hw hl hfz
  go_enter Tryz.func93, Tryz.ntmps93
  go_wp2_with fail
  go_loopw [1, 2, 9] (fun xv yv iv w' => ∃ (i f : Nat) (u : Wn) (X Y : Int), xv = .int .i64 X ∧ yv = .int .i64 Y ∧ iv = .int .i64 i ∧ L[i]? = some u ∧ K ≤ rk u.n + f ∧ ownP L f u X Y = ownP L K r x y ∧ inG u.W u.H X Y = true ∧ Below w.heap.size w w') (fun _ _ iv _ => K - rkAt L rk iv)
  case atStart => exact ⟨0, K, r, x, y, rfl, rfl, rfl, hr, by omega, rfl, hin, Below.refl _ _⟩
  case round =>
    obtain ⟨i, f, u, X, Y, rfl, rfl, rfl, hi, hf, ho, hiG, hB⟩ := hrel
    have hu : u ∈ L := List.mem_of_getElem? hi
    have un0 := HT.out.pos hu
    have hil : i < L.length := (List.getElem?_eq_some_iff.1 hi).1
    have hil' : (i : Int) < (L.length : Int) := by omega
    have hW := (HR.out.win u hu).w2
    have hH := (HR.out.win u hu).h2
    have hbX := inG_iff.1 hiG
    have hX0 : 0 ≤ X := hbX.1
    have hX1 : X < 40 := by omega
    have hY0 : 0 ≤ Y := hbX.2.2.1
    have hY1 : Y < 20 := by omega
    have Hi : Hid (L[i]? = some u) := hi
    have Hf : Hid (K ≤ rk u.n + f) := hf
    have Ho : Hid (ownP L f u X Y = ownP L K r x y) := ho
    have HiG : Hid (inG u.W u.H X Y = true) := hiG
    clear hi hf ho hiG hbX hW hH
    have hroot : Hid (cnd u.n X Y r = false) := by
      show _ = _
      obtain ⟨r', t, e, h0, h1, _⟩ := HT.out.head
      rw [e] at hr
      obtain rfl : r' = r := by simpa using hr
      unfold cnd
      rw [decide_eq_false (by omega)]; rfl
    have hone := Hok.out.one
    go_wp2_with fail
    go_loopw [10, 11] (fun nv kv w' => ∃ nx k : Nat, nv = .int .i64 nx ∧ kv = .int .i64 k ∧ 1 ≤ k ∧ k ≤ L.length ∧ nx < k ∧ Nxt L u.n X Y nx k ∧ Below w.heap.size w w') (fun _ kv _ => 20 - (intOf kv).toNat)
    case atStart =>
      refine ⟨0, 1, rfl, rfl, by omega, hone, by omega, .inl ⟨rfl, fun i v hi hv => ?_⟩, hB⟩
      obtain rfl : i = 0 := by omega
      rw [hr] at hv
      injection hv with e
      rw [← e]; exact hroot.out
    case round =>
      clear hB
      obtain ⟨nx, k, rfl, rfl, hk1, hkl, hnk, hN, hB⟩ := hrel
      have HN : Hid (Nxt L u.n X Y nx k) := hN
      have hRr : RkAt wr R L last := HR.out.below hB
      have HRr : Hid (RkAt wr R L last) := hRr
      obtain ⟨g', cap', hl', hw', _, _⟩ := hRr.sl Hok.out.one
      obtain ⟨rfl, rfl⟩ : g = g' ∧ cap = cap' := by have := Hl.out.symm.trans hl'; simpa using this
      have d0 := hRr.d0
      rw [hl'] at d0
      obtain ⟨i0, i1, i2, i3, i4, i5⟩ := hw' i u Hi.out
      by_cases hlt : k < L.length
      · have hlt' : (k : Int) < (L.length : Int) := by omega
        obtain ⟨v, hv⟩ : ∃ v, L[k]? = some v := ⟨_, List.getElem?_eq_getElem hlt⟩
        have hvL : v ∈ L := List.mem_of_getElem? hv
        have Hv : Hid (L[k]? = some v) := hv
        obtain ⟨c0, c1, c2, c3, c4, c5⟩ := hw' k v hv
        obtain ⟨x0, x1, y0, y1⟩ := Hok.out.pl v hvL
        have sx : IntKind.i64.wrap (X - v.x) = X - v.x := wrap_id _ (by omega) (by omega)
        have sy : IntKind.i64.wrap (Y - v.y) = Y - v.y := wrap_id _ (by omega) (by omega)
        have e0 := (hRr.win v hvL).c0
        have e1 := (hRr.win v hvL).c1
        have bl := (hRr.win v hvL).lt
        clear hRr hw' hl' hv hN
        go_wp2_with fail
        go_at_call 92
        refine (refIn (R.c v.n) v.W v.H (X - v.x) (Y - v.y) _ (by rw [((Below.refl wr.heap.size wr).alloc (Nat.le_refl _) _).cell (p := ⟨R.c v.n, 0, none⟩) bl]; exact e0) (by rw [((Below.refl wr.heap.size wr).alloc (Nat.le_refl _) _).cell (p := ⟨R.c v.n, 1, none⟩) bl]; exact e1)).mono ?_
        rintro e w' ⟨rfl, hw'⟩
        subst hw'
        have hB2 : Below w.heap.size w (wr.alloc (.cells #[.int .i64 v.n, .int .i64 v.par, .int .i64 v.x, .int .i64 v.y, .bool v.sh, .pointer (some ⟨R.c v.n, 0, none⟩)] 107)) := hB.trans (((Below.refl _ _).alloc (Nat.le_refl _) _).mono hB.size)
        have bq : Below wr.heap.size wr (wr.alloc (.cells #[.int .i64 v.n, .int .i64 v.par, .int .i64 v.x, .int .i64 v.y, .bool v.sh, .pointer (some ⟨R.c v.n, 0, none⟩)] 107)) := (Below.refl _ _).alloc (Nat.le_refl _) _
        have hnq := heap_new wr (.cells #[.int .i64 v.n, .int .i64 v.par, .int .i64 v.x, .int .i64 v.y, .bool v.sh, .pointer (some ⟨R.c v.n, 0, none⟩)] 107)
        have q1 := cell_of_block hnq 1
        have q4 := cell_of_block hnq 4
        have d0q := (bq.cell (p := ⟨R.d, 0, none⟩) (World.block_lt_of_cell? _ _ d0)).trans d0
        have i0q := (bq.cell (p := ⟨g, i * 6, none⟩) (World.block_lt_of_cell? _ _ i0)).trans i0
        simp only [List.getElem?_toArray, List.getElem?_cons_succ, List.getElem?_cons_zero] at q1 q4
        generalize (wr.alloc (.cells #[.int .i64 v.n, .int .i64 v.par, .int .i64 v.x, .int .i64 v.y, .bool v.sh, .pointer (some ⟨R.c v.n, 0, none⟩)] 107)) = wq at *
        clear e0 e1 bl c5 c2 c3 bq hnq d0 i0 c0 c1 c4
        by_cases hp : v.par = u.n
        · have hpb : (v.par == u.n) = true := by simpa using hp
          cases hsh : v.sh with
          | false =>
            have Hc : Hid (cnd u.n X Y v = false) := by show _ = _; simp [cnd, hit, hsh]
            rw [hsh] at q4
            clear hp
            go_wp2_with fail
            go_quiet (fail)
            go_wp2_with fail
            go_roundw
            case rel => exact ⟨nx, k + 1, rfl, by simp, by omega, by omega, by omega, HN.out.skip Hv.out Hc.out, hB2.trans ((below_drewN _ nq).mono hB2.size)⟩
            case measure => simp [intOf]; omega
          | true =>
            rw [hsh] at q4
            cases hi : inG v.W v.H (X - v.x) (Y - v.y) with
            | false =>
              have Hc : Hid (cnd u.n X Y v = false) := by show _ = _; simp [cnd, hit, hi]
              clear hp
              go_wp2_with fail
              go_quiet (fail)
              go_wp2_with fail
              go_roundw
              case rel => exact ⟨nx, k + 1, rfl, by simp, by omega, by omega, by omega, HN.out.skip Hv.out Hc.out, hB2.trans ((below_drewN _ nq).mono hB2.size)⟩
              case measure => simp [intOf]; omega
            | true =>
              have Hc : Hid (cnd u.n X Y v = true) := by show _ = _; simp [cnd, hit, hi, hsh, hp]
              clear hp
              go_wp2_with fail
              go_quiet (fail)
              go_wp2_with fail
              go_roundw
              case rel => exact ⟨k, k + 1, rfl, by simp, by omega, by omega, by omega, HN.out.take hk1 Hv.out Hc.out, hB2.trans ((below_drewN _ nq).mono hB2.size)⟩
              case measure => simp [intOf]; omega
        · have hpb : (v.par == u.n) = false := by simpa using hp
          have Hc : Hid (cnd u.n X Y v = false) := by show _ = _; simp [cnd, hp]
          clear hp
          go_wp2_with fail
          go_quiet (fail)
          go_wp2_with fail
          go_roundw
          case rel => exact ⟨nx, k + 1, rfl, by simp, by omega, by omega, by omega, HN.out.skip Hv.out Hc.out, hB2.trans ((below_drewN _ nq).mono hB2.size)⟩
          case measure => simp [intOf]; omega
      · have hlt' : ¬ (k : Int) < (L.length : Int) := by omega
        obtain rfl : k = L.length := by omega
        by_cases hn0 : nx = 0
        · subst hn0
          have HE : Hid (ownP L K r x y = (u, X, Y)) := by
            show _ = _
            rw [← Ho.out, HT.out.ownSucc hu Hf.out, HN.out.none]
          clear hRr hw' hl' hN
          go_wp2_with fail
          exact bodyPost_ret (v := .tuple #[.int .i64 i, .int .i64 X, .int .i64 Y]) (by simp [results, Tryz.results93, go_sem]) rfl (by rw [HE.out]; exact ⟨i, rfl, Hi.out, hB⟩)
        · obtain ⟨v, hv, hnx⟩ := HN.out.some hn0
          have hn0' : ¬ (nx : Int) = 0 := by omega
          have hvL : v ∈ L := List.mem_of_getElem? hv
          have hnl : nx < L.length := (List.getElem?_eq_some_iff.1 hv).1
          have hnl' : (nx : Int) < (L.length : Int) := by omega
          obtain ⟨c0, c1, c2, c3, c4, c5⟩ := hw' nx v hv
          obtain ⟨x0, x1, y0, y1⟩ := Hok.out.pl v hvL
          have sx : IntKind.i64.wrap (X - v.x) = X - v.x := wrap_id _ (by omega) (by omega)
          have sy : IntKind.i64.wrap (Y - v.y) = Y - v.y := wrap_id _ (by omega) (by omega)
          obtain ⟨_, hvp, _, hvi⟩ := nextP_some hnx
          have hrk := (HT.out.up v hvL (by omega)).2
          rw [hvp] at hrk
          have hrK := HT.out.le v hvL
          have hf' := Hf.out
          have HF : Hid (∃ (i f : Nat) (u : Wn) (X' Y' : Int), Value.int .i64 (X - v.x) = .int .i64 X' ∧ Value.int .i64 (Y - v.y) = .int .i64 Y' ∧ Value.int .i64 nx = .int .i64 i ∧ L[i]? = some u ∧ K ≤ rk u.n + f ∧ ownP L f u X' Y' = ownP L K r x y ∧ inG u.W u.H X' Y' = true ∧ Below w.heap.size w wr) :=
            ⟨nx, f - 1, v, X - v.x, Y - v.y, rfl, rfl, rfl, hv, by omega, by rw [← Ho.out, HT.out.ownSucc hu Hf.out, hnx], hvi, hB⟩
          have HM : Hid (K - rkAt L rk (.int .i64 nx) < K - rkAt L rk (.int .i64 i)) := by
            have e1 : rkAt L rk (.int .i64 nx) = rk v.n := by simp [rkAt, intOf, hv]
            have e2 : rkAt L rk (.int .i64 i) = rk u.n := by simp [rkAt, intOf, Hi.out]
            show _ < _
            rw [e1, e2]
            omega
          clear hRr hw' hl' hN hv hnx hvp hvi hrk hrK hf' c0 c1 c4 c5
          go_wp2_with fail
          go_roundw
          case rel => exact HF.out
          case measure => exact HM.out
end
end Go.Proofs.YtjlfibhbfdckpaaGreatDoor
