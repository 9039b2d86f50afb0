/- Texts of the proof, one behind the other: RdG, RdI. -/
import Derived.Test.YtjlfibhbfdckpaaGreatDoorK22
import Derived.Test.YtjlfibhbfdckpaaGreatDoorK24
import Derived.Test.YtjlfibhbfdckpaaGreatDoorK32
import Derived.Deep.RegionLaw
import Derived.Deep.RegionWith
/- The document's desk: windows are appended; Create. -/
namespace Go.Proofs.YtjlfibhbfdckpaaGreatDoor
open Go.RowKit
attribute [local go_sem ↓] Go.wp_at_zero Go.wp_at_succ
theorem rinfo_zero : (Tryz.prog.info? 107).bind (·.zero) = some (.agg #[.int .i64 0, .int .i64 0, .int .i64 0, .int .i64 0, .bool false, .pointer none]) := by kernel_rfl
theorem rinfo_size : (Tryz.prog.info? 107).map (·.size) = some 6 := by kernel_rfl
theorem rinfo_bytes : (Tryz.prog.info? 107).map (·.bytes) = some 48 := by kernel_rfl
theorem rinfo : ∃ i : TypeInfo, Tryz.prog.info? 107 = some i ∧ i.zero = some (.agg #[.int .i64 0, .int .i64 0, .int .i64 0, .int .i64 0, .bool false, .pointer none]) ∧ i.size = 6 ∧ i.bytes = 48 := by
  have h1 := rinfo_zero
  have h2 := rinfo_size
  have h3 := rinfo_bytes
  cases h : Tryz.prog.info? 107 with
  | none => rw [h] at h2; simp at h2
  | some i => rw [h] at h1 h2 h3; exact ⟨i, rfl, by simpa using h1, by simpa using h2, by simpa using h3⟩
abbrev rArr (v : Wn) (c : Nat) : Array Value := #[.int .i64 v.n, .int .i64 v.par, .int .i64 v.x, .int .i64 v.y, .bool v.sh, .pointer (some ⟨c, 0, none⟩)]
theorem list_append_win {ops : Array Oper} {rest : List Oper} {o : Oper} {a : Act} {Q : Exit → Act → World → Prop} (w : World) (hgd : o.guard = none) (s x : Operand)
    (ho : o.op = .call { callee := .builtin .append, args := #[s, x], argTypes := #[108, 108] }) (base : Nat) (v : Value) (c : Int → Nat) (L : List Wn) (u : Wn) (k : Nat) (hk : L.length = k) (hs : a.eval s = v)
    (hown : w.ownsRow base 107 6 v k (rFlat c L)) (b : Nat) (hx : a.eval x = .slice (some ⟨b, 0, none⟩) 1 1) (hb : w.heap[b]? = some (.cells (rArr u (c u.n)) 107)) (hL : k ≤ 1000) (hbase : base ≤ w.heap.size)
    (h : ∀ g cap w', w'.ownsRow base 107 6 (.slice (some ⟨g, 0, none⟩) (k + 1) cap) (k + 1) (rFlat c (L ++ [u])) → w.grownBy w' v.ownBlock → (v.ownBlock = some g ∨ g = w.heap.size) → g < w'.heap.size → wpList Tryz.prog ops Q rest (a.put o.dst (.slice (some ⟨g, 0, none⟩) (k + 1) cap)) w') :
    wpList Tryz.prog ops Q (o :: rest) a w := by
  obtain ⟨ti, i1, i2, i3, i4⟩ := rinfo
  refine wpList_append_lies w hgd s x 108 ho base 107 ti _ 6 48 Tryz.underlying108 i1 i2 i3 i4 rfl (by decide) v k (rFlat c L) hs hown ⟨b, 0, none⟩ 1 1 (rVals c u) hx rfl (World.news_of_block hb) (by simp [rVals, Value.oneCell']) (by decide) (by unfold maxLen; omega) (by omega) hbase w.heap.size rfl ?_
  intro g cap w' h1 h2 h3 h4
  rw [← rFlat_one c, ← rFlat_append] at h1
  exact h g cap w' h1 h2 h3 h4
theorem step_append_win {ops : Array Oper} {o : Oper} {a : Act} {K : Act → World → Prop} {Q : Exit → Act → World → Prop} {E : Prop} (w : World) (hgd : o.guard = none) (s x : Operand)
    (ho : o.op = .call { callee := .builtin .append, args := #[s, x], argTypes := #[108, 108] }) (base : Nat) (v : Value) (c : Int → Nat) (L : List Wn) (u : Wn) (k : Nat) (hk : L.length = k) (hs : a.eval s = v)
    (hown : w.ownsRow base 107 6 v k (rFlat c L)) (b : Nat) (hx : a.eval x = .slice (some ⟨b, 0, none⟩) 1 1) (hb : w.heap[b]? = some (.cells (rArr u (c u.n)) 107)) (hL : k ≤ 1000) (hbase : base ≤ w.heap.size)
    (h : ∀ g cap w', w'.ownsRow base 107 6 (.slice (some ⟨g, 0, none⟩) (k + 1) cap) (k + 1) (rFlat c (L ++ [u])) → w.grownBy w' v.ownBlock → (v.ownBlock = some g ∨ g = w.heap.size) → g < w'.heap.size → K (a.put o.dst (.slice (some ⟨g, 0, none⟩) (k + 1) cap)) w') :
    if Region.wanted o (yielded ops a.tmps) = true then Oper.wp Tryz.prog o a w K Q else E := by
  obtain ⟨ti, i1, i2, i3, i4⟩ := rinfo
  refine step_append_lies w hgd s x 108 ho base 107 ti _ 6 48 Tryz.underlying108 i1 i2 i3 i4 rfl (by decide) v k (rFlat c L) hs hown ⟨b, 0, none⟩ 1 1 (rVals c u) hx rfl (World.news_of_block hb) (by simp [rVals, Value.oneCell']) (by decide) (by unfold maxLen; omega) (by omega) hbase w.heap.size rfl ?_
  intro g cap w' h1 h2 h3 h4
  rw [← rFlat_one c, ← rFlat_append] at h1
  exact h g cap w' h1 h2 h3 h4
theorem ownsRow_mono {w : World} {base base' : Nat} {e : TypeId} {size : Nat} {v : Value} {n : Nat} {xs : List Value} (h : w.ownsRow base e size v n xs) (hb : base' ≤ base) : w.ownsRow base' e size v n xs := by
  refine ⟨h.1, ?_⟩
  rcases h.2 with h0 | ⟨g, cap, cur, h1, h2, h3⟩
  · exact .inl h0
  · exact .inr ⟨g, cap, cur, h1, Nat.le_trans hb h2, h3⟩
end Go.Proofs.YtjlfibhbfdckpaaGreatDoor

/- The document's desk: a new list; within. -/
namespace Go.Proofs.YtjlfibhbfdckpaaGreatDoor
open Go.RowKit
attribute [local go_sem ↓] Go.wp_at_zero Go.wp_at_succ
theorem alloc_cell {w : World} {b o : Nat} {v : Value} (h : w.cell? ⟨b, o, none⟩ = some v) (q : Obj) : (w.alloc q).cell? ⟨b, o, none⟩ = some v :=
  (((Below.refl w.heap.size w).alloc (Nat.le_refl _) q).cell (p := ⟨b, o, none⟩) (World.block_lt_of_cell? _ _ h)).trans h
section
variable {R : Rm} {L : List Wn} {last : Int}
/-- Only the list is another: it lies in a new block. -/
theorem RkAt.relist {w w' : World} (h : RkAt w R L last) (L' : List Wn) (l' : Value) (hg : ∀ i, l'.ownBlock = some i → w.heap.size ≤ i)
    (hsub : ∀ u ∈ L', ∃ u0 ∈ L, u0.n = u.n ∧ u0.W = u.W ∧ u0.H = u.H ∧ u0.G = u.G)
    (hd : w'.heap[R.d]? = some (.cells #[l', .int .i64 last] 110)) (hr : w'.ownsRow 2 107 6 l' L'.length (rFlat R.c L')) (hk : Keep (fun i => i = R.d) w w') (r : Value) : RkPost R L L' last w r (.returned r) w' := by
  have hB := h.two _ (rown_d R L)
  have hlt := h.lt (rown_d R L)
  have hold : ∀ p : Pl, p.okR L' → p ≠ .top 1 → p.okR L ∧ ({ R with l := l' } : Rm).blk p = R.blk p := by
    intro p hp hne
    cases p with
    | top k =>
      have hk2 : k < 2 := hp
      match k, hk2 with
      | 0, _ => exact ⟨hp, rfl⟩
      | 1, _ => exact absurd rfl hne
    | win n k =>
      obtain ⟨hk2, u, hu, e⟩ := hp
      obtain ⟨u0, h0, e0, _⟩ := hsub u hu
      refine ⟨⟨hk2, u0, h0, e0.trans e⟩, ?_⟩
      match k, hk2 with
      | 0, _ => rfl
      | 1, _ => rfl
  have hown : ∀ i, ({ R with l := l' } : Rm).own L' i → R.own L i ∨ w.heap.size ≤ i := fun i ⟨p, hp, e⟩ => by
    by_cases e1 : p = .top 1
    · subst e1; exact .inr (hg i e)
    · obtain ⟨a, b⟩ := hold p hp e1
      exact .inl ⟨p, a, by rw [← b]; exact e⟩
  refine ⟨{ R with l := l' }, rfl, ⟨hd, hr, ?_, ?_, ?_, ?_⟩, rfl, hk.mono (fun i e => e ▸ rown_d R L), hown⟩
  · intro u hu
    obtain ⟨u0, h0, e1, e2, e3, e4⟩ := hsub u hu
    have hw := h.win u0 h0
    rw [e1, e2, e3, e4] at hw
    have n1 : R.c u.n ≠ R.d := by rw [← e1]; exact h.ne (p := .win u0.n 0) (q := .top 0) ⟨by omega, u0, h0, rfl⟩ (show 0 < 2 by omega) rfl rfl (by simp)
    have n2 : R.g u.n ≠ R.d := by rw [← e1]; exact h.ne (p := .win u0.n 1) (q := .top 0) ⟨by omega, u0, h0, rfl⟩ (show 0 < 2 by omega) rfl rfl (by simp)
    exact hw.same (hk.block _ (by rw [← e1]; exact h.lt (rown_c R h0)) n1) (hk.block _ (by rw [← e1]; exact h.lt (rown_g R h0)) n2)
  · intro u hu
    obtain ⟨u0, h0, e1, e2, e3, e4⟩ := hsub u hu
    have := h.wf u0 h0
    rw [e2, e3, e4] at this
    exact this
  · intro p q i hp hq e1 e2
    by_cases c1 : p = .top 1
    · by_cases c2 : q = .top 1
      · rw [c1, c2]
      · subst c1
        obtain ⟨a, b⟩ := hold q hq c2
        rw [b] at e2
        have h1 := h.lt ⟨q, a, e2⟩
        have h2 := hg i e1
        omega
    · by_cases c2 : q = .top 1
      · subst c2
        obtain ⟨a, b⟩ := hold p hp c1
        rw [b] at e1
        have h1 := h.lt ⟨p, a, e1⟩
        have h2 := hg i e2
        omega
      · obtain ⟨a, b⟩ := hold p hp c1
        obtain ⟨a', b'⟩ := hold q hq c2
        rw [b] at e1
        rw [b'] at e2
        exact h.inj p q i a a' e1 e2
  · intro i hi
    rcases hown i hi with e | e
    · exact h.two i e
    · omega
theorem rdAtW (h1 : 1 ≤ L.length) (h16 : L.length ≤ 16) (w : World) (h : RkAt w R L last) (v : Wn) (j : Nat) (hj : L[j]? = some v) (hne : ∀ i u, i < j → L[i]? = some u → u.n ≠ v.n) :
    Calls Tryz.prog 79 #[.pointer (some ⟨R.d, 0, none⟩), .int .i64 v.n] w fun e w' => e = .returned (.int .i64 j) ∧ w' = w := by
  have hl : j < L.length := (List.getElem?_eq_some_iff.1 hj).1
  have := rdAt h h1 h16 v.n j (by omega) hne (fun u hu => by rw [hj] at hu; injection hu with e; rw [e])
  rw [if_pos hl] at this
  exact this
theorem rdChildW (h1 : 1 ≤ L.length) (h16 : L.length ≤ 16) (w : World) (h : RkAt w R L last) (v : Wn) (j : Nat) (hj : L[j]? = some v) (hne : ∀ i u, i < j → L[i]? = some u → u.n ≠ v.n) (hj0 : j ≠ 0) :
    Calls Tryz.prog 143 #[.pointer (some ⟨R.d, 0, none⟩), .int .i64 v.n] w fun e w' => e = .returned (.tuple #[.int .i64 j, .int .i64 0]) ∧ w' = w := by
  have H : Hid (Calls Tryz.prog 79 #[.pointer (some ⟨R.d, 0, none⟩), .int .i64 v.n] w fun e w' => e = .returned (.int .i64 j) ∧ w' = w) := rdAtW h1 h16 w h v j hj hne
  have h1 : ¬ (j : Int) < 0 := by omega
  have h2 : ¬ (j : Int) = 0 := by omega
  clear h hj hne
  go_enter Tryz.func143, Tryz.ntmps143
  go_wp2_with (first | (go_at_call 79; refine (H.out).mono ?_; rintro e w' ⟨rfl, hw'⟩; replace hw' := hw'.symm; subst hw'))
  go_ret2
  exact ⟨rfl, rfl⟩
theorem sub_up (nd : (L.map Wn.n).Nodup) {o : Int} {u : Wn} (hu : u ∈ L) (hne : u.n ≠ o) : Sub L o u.n ↔ Sub L o u.par := by
  constructor
  · intro h
    rcases h.last with e | ⟨v, hv, e, hs⟩
    · exact absurd e hne
    · obtain rfl := nd_inj nd hv hu e
      exact hs
  · exact fun h => .step hu h
def rkM (rk : Int → Nat) (v : Value) : Nat := if intOf v < 0 then 0 else rk (intOf v) + 1
set_option maxHeartbeats 1000000 in
theorem rdWithin (ok : DOk L last) (w : World) (h : RkAt w R L last) (v : Wn) (hv : v ∈ L) (o : Int) (ho : 0 ≤ o) :
    Calls Tryz.prog 144 #[.pointer (some ⟨R.d, 0, none⟩), .int .i64 v.n, .int .i64 o] w fun e w' => ∃ b : Bool, e = .returned (.bool b) ∧ (b = true ↔ Sub L o v.n) ∧ Below w.heap.size w w' := by
  obtain ⟨rk, K, T⟩ := ok.tree
  have HT : Hid (Tree L rk K) := T
  have HR : Hid (RkAt w R L last) := h
  obtain ⟨g, cap, hl, _, hfz, _⟩ := h.sl ok.one
  have Hl : Hid (R.l = .slice (some ⟨g, 0, none⟩) L.length cap) := hl
  have h16 : Hid (L.length ≤ 16) := ok.len
  clear h hl T
  go_enter Tryz.func144, Tryz.ntmps144
  go_wp2_with fail
  go_loopw [1] (fun i w' => ∃ (m : Int), i = .int .i64 m ∧ Below w.heap.size w w' ∧ ((m = -1 ∧ ¬ Sub L o v.n) ∨ ((∃ u ∈ L, u.n = m) ∧ (Sub L o v.n ↔ Sub L o m)))) (fun i _ => rkM rk i)
  case atStart => exact ⟨v.n, rfl, Below.refl _ _, .inr ⟨⟨v, hv, rfl⟩, Iff.rfl⟩⟩
  case round =>
    obtain ⟨m, rfl, hB, ⟨rfl, hno⟩ | ⟨⟨u, hu, rfl⟩, hiff⟩⟩ := hrel
    · go_wp2_with fail
      go_ret
      exact ⟨false, rfl, by simp [hno], hB⟩
    · have h0 := HT.out.pos hu
      have Hiff : Hid (Sub L o v.n ↔ Sub L o u.n) := hiff
      clear hiff
      by_cases he : u.n = o
      · subst he
        go_wp2_with fail
        go_ret
        exact ⟨true, rfl, by rw [Hiff.out]; exact ⟨fun _ => .refl, fun _ => rfl⟩, hB⟩
      · obtain ⟨j, hj, hne, _⟩ := idx_of HT.out.nd hu
        have hRr : RkAt wr R L last := HR.out.below hB
        obtain ⟨g', cap', hl', hw', _, _⟩ := hRr.sl ok.one
        obtain ⟨rfl, rfl⟩ : g = g' ∧ cap = cap' := by have := Hl.out.symm.trans hl'; simpa using this
        have d0 := hRr.d0
        rw [hl'] at d0
        obtain ⟨c0, c1, c2, c3, c4, c5⟩ := hw' j u hj
        have hjl : j < L.length := (List.getElem?_eq_some_iff.1 hj).1
        have hjl' : (j : Int) < (L.length : Int) := by omega
        have H : Hid (Calls Tryz.prog 79 #[.pointer (some ⟨R.d, 0, none⟩), .int .i64 u.n] wr.drew fun e w' => e = .returned (.int .i64 j) ∧ w' = wr.drew) := rdAtIn ok _ (hRr.drewN 1) u j hj hne
        have Hup : Hid (Sub L o u.n ↔ Sub L o u.par) := sub_up HT.out.nd hu he
        clear hj hne hRr hw' hl'
        have hBd : Below w.heap.size w wr.drew := hB.trans ((below_drewN wr 1).mono hB.size)
        have HF : Hid (∃ m : Int, Value.int .i64 u.par = .int .i64 m ∧ Below w.heap.size w wr.drew ∧ ((m = -1 ∧ ¬ Sub L o v.n) ∨ ((∃ u ∈ L, u.n = m) ∧ (Sub L o v.n ↔ Sub L o m)))) := by
          refine ⟨u.par, rfl, hBd, ?_⟩
          rcases HT.out.parNot hu with e | e
          · refine .inl ⟨e, fun hs => ?_⟩
            have := Hup.out.1 (Hiff.out.1 hs)
            rw [e] at this
            have := (Sub.rank HT.out ho this).2
            omega
          · exact .inr ⟨(HT.out.up u hu e).1, Hiff.out.trans Hup.out⟩
        have Hm : Hid (rkM rk (.int .i64 u.par) < rkM rk (.int .i64 u.n)) := by
          show (if u.par < 0 then 0 else rk u.par + 1) < (if u.n < 0 then 0 else rk u.n + 1)
          rw [if_neg (by omega : ¬ u.n < 0)]
          rcases HT.out.parNot hu with e | e
          · rw [if_pos (by omega)]; omega
          · rw [if_neg (by omega)]
            have := (HT.out.up u hu e).2
            omega
        clear hB hBd
        go_wp2_with fail
        go_region_with (first | (go_at_call 79; refine H.out.mono ?_; rintro e w' ⟨rfl, hw'⟩; subst hw'))
        all_goals
          go_simp
          refine ⟨?_, Hm.out⟩
          (repeat apply Exists.intro)
          exact ⟨HF.out, rfl⟩
end
end Go.Proofs.YtjlfibhbfdckpaaGreatDoor
