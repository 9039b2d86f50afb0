/- Texts of the proof, one behind the other: PcA, RdB. -/
import Derived.Test.YtjlfibhbfdckpaaGreatDoorK25
import Derived.Test.YtjlfibhbfdckpaaGreatDoorK28
import Derived.Test.YtjlfibhbfdckpaaGreatDoorK29
import Derived.Test.YtjlfibhbfdckpaaGreatDoorK36
/- The statement of pictures: the program's desk and the document's, side by side. -/
namespace Go.Proofs.YtjlfibhbfdckpaaGreatDoor
open Go.RowKit
/-- A desk of the program and one of the document's that hold the same, and the document's screen. -/
structure Dv where
  M : Mm
  N : Nat
  s : Rs
  t : Pt
  R : Rm
  L : List Wn
  last : Int
  bs : Nat
  bc : Nat
  g : Nat
  cap : Nat
  n : Nat
  q : Rs
def Dv.own (D : Dv) (i : Nat) : Prop := D.M.own D.L i ∨ D.R.own D.L i ∨ i = D.bs ∨ i = D.bc ∨ i = D.g
structure DvAt (w : World) (D : Dv) : Prop where
  x : DkAt w D.M D.L D.last D.N D.s D.t
  y : RkAt w D.R D.L D.last
  z : RefAt w D.bs D.bc D.g D.cap D.n D.q
  ok : DOk D.L D.last
  so : D.s.Ok
  qo : D.q.Ok
  l0 : 0 ≤ D.last
  xy : ∀ i, D.M.own D.L i → ¬ D.R.own D.L i
  xz : ∀ i, D.M.own D.L i → ¬ (i = D.bs ∨ i = D.bc ∨ i = D.g)
  yz : ∀ i, D.R.own D.L i → ¬ (i = D.bs ∨ i = D.bc ∨ i = D.g)
theorem DkAt.keep' {F : Nat → Prop} {w w' : World} {M : Mm} {L : List Wn} {last : Int} {N : Nat} {s : Rs} {t : Pt} (h : DkAt w M L last N s t) (k : Keep F w w') (hF : ∀ i, M.own L i → ¬ F i) : DkAt w' M L last N s t := h.same (fun i hi => k.block i (h.lt hi) (hF i hi))
section
variable {w w' : World} {D : Dv}
theorem DvAt.lt (h : DvAt w D) {i : Nat} (hi : D.own i) : i < w.heap.size := by
  rcases hi with hi | hi | rfl | rfl | rfl
  · exact h.x.lt hi
  · exact h.y.lt hi
  · exact h.z.lt
  · exact h.z.cels.lt
  · exact h.z.cels.glt
theorem DvAt.keep {F : Nat → Prop} (h : DvAt w D) (k : Keep F w w') (hF : ∀ i, D.own i → ¬ F i) : DvAt w' D :=
  ⟨h.x.keep' k (fun i hi => hF i (.inl hi)), h.y.keep k (fun i hi => hF i (.inr (.inl hi))), h.z.same (k.block _ h.z.lt (hF _ (.inr (.inr (.inl rfl))))) (k.block _ h.z.cels.lt (hF _ (.inr (.inr (.inr (.inl rfl)))))) (k.block _ h.z.cels.glt (hF _ (.inr (.inr (.inr (.inr rfl)))))), h.ok, h.so, h.qo, h.l0, h.xy, h.xz, h.yz⟩
theorem DvAt.below (h : DvAt w D) (b : Below w.heap.size w w') : DvAt w' D := h.keep (Keep.below (fun _ => False) b) (fun _ _ f => f)
abbrev Dv.xp (D : Dv) : Option Addr := some ⟨D.M.t 0, 0, none⟩
abbrev Dv.yp (D : Dv) : Option Addr := some ⟨D.R.d, 0, none⟩
abbrev Dv.sp (D : Dv) : Option Addr := some ⟨D.bs, 0, none⟩
/-- What a step leaves of a desk of the law. -/
structure DvPost (w : World) (D D' : Dv) (w' : World) : Prop where
  dv : DvAt w' D'
  xp : D'.xp = D.xp
  yp : D'.yp = D.yp
  sp : D'.sp = D.sp
  keep : Keep D.own w w'
  own : ∀ i, D'.own i → D.own i ∨ w.heap.size ≤ i
end
/-- One step that both desks take alike. -/
structure Tot (fx fy : Nat) (a : Option Addr → Array Value) (L : List Wn) (last : Int) (L' : List Wn) (last' : Int) (r : Value) : Prop where
  ok : DOk L' last'
  le : last ≤ last' ∧ last' ≤ last + 1
  x : ∀ (w : World) (M : Mm) (N : Nat) (s : Rs) (t : Pt), s.Ok → DkAt w M L last N s t → Calls Tryz.prog fx (a (some ⟨M.t 0, 0, none⟩)) w fun e w' => ∃ s' t', s'.Ok ∧ DPostG M L L' last' s' t' w r e w'
  y : ∀ (w : World) (R : Rm), RkAt w R L last → Calls Tryz.prog fy (a (some ⟨R.d, 0, none⟩)) w (RkPost R L L' last' w r)
/-- Two calls behind one another that answer alike. -/
def Both (fx fy : Nat) (a : Option Addr → Array Value) (x y : Option Addr) (w : World) (r : Value) (F : Nat → Prop) (Q : World → Prop) : Prop :=
  Calls Tryz.prog fx (a x) w fun e w1 => e = .returned r ∧ Keep F w w1 ∧ Calls Tryz.prog fy (a y) w1 fun e w2 => e = .returned r ∧ Keep F w w2 ∧ Q w2
theorem Tot.pair {fx fy : Nat} {a : Option Addr → Array Value} {L' : List Wn} {last' : Int} {r : Value} {w : World} {D : Dv} (h : DvAt w D) (T : Tot fx fy a D.L D.last L' last' r) :
    Both fx fy a D.xp D.yp w r D.own fun w2 => ∃ D', D'.L = L' ∧ D'.last = last' ∧ DvPost w D D' w2 := by
  refine (T.x w D.M D.N D.s D.t h.so h.x).mono ?_
  rintro e w1 ⟨s', t', so, M', N', rfl, D1, t1, k1, o1⟩
  refine ⟨rfl, k1.mono (fun i hi => .inl hi), ?_⟩
  have y1 : RkAt w1 D.R D.L D.last := h.y.keep k1 (fun i hi hx => h.xy i hx hi)
  refine (T.y w1 D.R y1).mono ?_
  rintro e w2 ⟨R', rfl, D2, d2, k2, o2⟩
  have s1 := k1.size
  have hM : ∀ i, M'.own L' i → i < w1.heap.size := fun i hi => D1.lt hi
  have hR : ∀ i, D.R.own D.L i → i < w.heap.size := fun i hi => h.y.lt hi
  have hz : ∀ i, (i = D.bs ∨ i = D.bc ∨ i = D.g) → i < w.heap.size := fun i hi => h.lt (.inr (.inr hi))
  have xyM : ∀ i, M'.own L' i → ¬ D.R.own D.L i := fun i hi hr => by
    rcases o1 i hi with e | e
    · exact h.xy i e hr
    · have := hR i hr; omega
  have kk : Keep D.own w w2 := (k1.mono (fun i hi => .inl hi)).trans k2 (fun i _ hi => .inr (.inl hi))
  refine ⟨rfl, kk, ⟨M', N', s', t', R', L', last', D.bs, D.bc, D.g, D.cap, D.n, D.q⟩, rfl, rfl, ⟨?_, ?_, ?_, T.ok, so, h.qo, ?_, ?_, ?_, ?_⟩, ?_, ?_, rfl, kk, ?_⟩
  · exact D1.keep' k2 (fun i hi => xyM i hi)
  · exact D2
  · have z1 : RefAt w1 D.bs D.bc D.g D.cap D.n D.q := h.z.same (k1.block _ h.z.lt (fun e => h.xz _ e (.inl rfl))) (k1.block _ h.z.cels.lt (fun e => h.xz _ e (.inr (.inl rfl)))) (k1.block _ h.z.cels.glt (fun e => h.xz _ e (.inr (.inr rfl))))
    exact z1.same (k2.block _ z1.lt (fun e => h.yz _ e (.inl rfl))) (k2.block _ z1.cels.lt (fun e => h.yz _ e (.inr (.inl rfl)))) (k2.block _ z1.cels.glt (fun e => h.yz _ e (.inr (.inr rfl))))
  · have := h.l0; have := T.le.1; show 0 ≤ last'; omega
  · intro i hi hr
    rcases o2 i hr with e | e
    · exact xyM i hi e
    · have := hM i hi; omega
  · intro i hi hs
    rcases o1 i hi with e | e
    · exact h.xz i e hs
    · have := hz i hs; omega
  · intro i hi hs
    rcases o2 i hi with e | e
    · exact h.yz i e hs
    · have := hz i hs; omega
  · show some _ = some _; rw [t1]
  · show some _ = some _; rw [d2]
  · rintro i (hi | hi | hi)
    · rcases o1 i hi with e | e
      · exact .inl (.inl e)
      · exact .inr e
    · rcases o2 i hi with e | e
      · exact .inl (.inr (.inl e))
      · exact .inr (by omega)
    · exact .inl (.inr (.inr hi))
end Go.Proofs.YtjlfibhbfdckpaaGreatDoor

/- The document's desk: at, child, place, pen. -/

namespace Go.Proofs.YtjlfibhbfdckpaaGreatDoor
open Go.RowKit
attribute [local go_sem ↓] Go.wp_at_zero Go.wp_at_succ
section
variable {w : World} {R : Rm} {L : List Wn} {last : Int}
/-- The list is there. -/
theorem RkAt.sl (h : RkAt w R L last) (h1 : 1 ≤ L.length) : ∃ g cap, R.l = .slice (some ⟨g, 0, none⟩) L.length cap ∧ (∀ i v, L[i]? = some v → RwAt w g (i * 6) (R.c v.n) v) ∧ (∀ o, w.frozen? ⟨g, o, none⟩ = false) ∧ L.length ≤ cap := by
  obtain ⟨g, cap, e⟩ := row_slice h.row h1
  have hr := h.row
  rw [e] at hr
  refine ⟨g, cap, e, fun i v hi => rrow_at hr i v hi, fun o => ?_, ?_⟩
  · obtain ⟨_, h | ⟨g', cap', cur, hv, hb, hg, hn, hm, hs, ht⟩⟩ := hr
    · simp at h
    · obtain ⟨rfl, _⟩ : g = g' ∧ cap = cap' := by simpa using hv
      exact frozen_of_block hg o
  · obtain ⟨_, h | ⟨g', cap', cur, hv, hb, hg, hn, hm, hs, ht⟩⟩ := hr
    · simp at h
    · obtain ⟨_, rfl⟩ : g = g' ∧ cap = cap' := by simpa using hv
      exact hn
set_option maxHeartbeats 1000000 in
theorem rdAt (h : RkAt w R L last) (h1 : 1 ≤ L.length) (hl16 : L.length ≤ 16) (n : Int) (j : Nat) (hj : j ≤ L.length) (hne : ∀ i v, i < j → L[i]? = some v → v.n ≠ n) (hat : ∀ v, L[j]? = some v → v.n = n) :
    Calls Tryz.prog 79 #[.pointer (some ⟨R.d, 0, none⟩), .int .i64 n] w fun e w' => e = .returned (.int .i64 (if j < L.length then (j : Int) else -1)) ∧ w' = w := by
  have d0 := h.d0
  obtain ⟨g, cap, hl, hw, _, _⟩ := h.sl h1
  rw [hl] at d0
  have Hw : Hid (∀ i v, L[i]? = some v → RwAt w g (i * 6) (R.c v.n) v) := hw
  have Hne : Hid (∀ i v, i < j → L[i]? = some v → v.n ≠ n) := hne
  have Hat : Hid (∀ v, L[j]? = some v → v.n = n) := hat
  clear h hw hne hat hl
  go_enter Tryz.func79, Tryz.ntmps79
  go_wp2_with fail
  go_loopw [5] (fun i w' => ∃ k : Nat, k ≤ j ∧ i = .int .i64 k ∧ w' = w) (fun i _ => 20 - (intOf i).toNat)
  case atStart => exact ⟨0, by omega, rfl, rfl⟩
  case round =>
    obtain ⟨k, hk, rfl, rfl⟩ := hrel
    by_cases hlt : k < L.length
    · have hlt' : (k : Int) < (L.length : Int) := by omega
      obtain ⟨v, hv⟩ : ∃ v, L[k]? = some v := ⟨_, List.getElem?_eq_getElem hlt⟩
      obtain ⟨c0, _, _, _, _, _⟩ := Hw.out k v hv
      by_cases he : k = j
      · subst he
        have hvn := Hat.out v hv
        go_wp2_with fail
        go_ret
        exact ⟨rfl, rfl⟩
      · have hvn := Hne.out k v (by omega) hv
        clear hv
        go_wp2_with fail
        go_roundw
        case rel => exact ⟨k + 1, by omega, by simp, trivial⟩
        case measure => simp [intOf]; omega
    · have hlt' : ¬ (k : Int) < (L.length : Int) := by omega
      go_wp2_with fail
      go_ret
      simp
end
section
variable {R : Rm} {L : List Wn} {last : Int}
/-- Where a window stands in the list. -/
theorem at_of (ok : DOk L last) (n : Int) : (∃ v ∈ L, v.n = n ∧ ∃ j, j < L.length ∧ L[j]? = some v ∧ (∀ i u, i < j → L[i]? = some u → u.n ≠ n) ∧ filtN L n = L.eraseIdx j ∧ (j = 0 ↔ n = 0)) ∨ hasN L n = false := by
  obtain ⟨rk, K, T⟩ := ok.tree
  by_cases h : hasN L n = true
  · left
    obtain ⟨v, hv, rfl⟩ := hasN_iff.1 h
    obtain ⟨j, h1, h2, h3⟩ := idx_of T.nd hv
    refine ⟨v, hv, rfl, j, (List.getElem?_eq_some_iff.1 h1).1, h1, h2, h3, ?_⟩
    obtain ⟨r, T', e, e1, e2, e3⟩ := T.head
    constructor
    · rintro rfl
      rw [e] at h1
      obtain rfl : r = v := by simpa using h1
      exact e1
    · intro h0
      by_cases hj : j = 0
      · exact hj
      · exact absurd (e1.trans h0.symm) (h2 0 r (by omega) (by rw [e]; rfl))
  · right; simpa using h
theorem DOk.one (ok : DOk L last) : 1 ≤ L.length := by
  obtain ⟨rk, K, T⟩ := ok.tree
  obtain ⟨r, hr, _⟩ := T.rootIn
  exact List.length_pos_of_mem hr
theorem rdAtIn (ok : DOk L last) (w : World) (h : RkAt w R L last) (v : Wn) (j : Nat) (hj : L[j]? = some v) (hne : ∀ i u, i < j → L[i]? = some u → u.n ≠ v.n) :
    Calls Tryz.prog 79 #[.pointer (some ⟨R.d, 0, none⟩), .int .i64 v.n] w fun e w' => e = .returned (.int .i64 j) ∧ w' = w := by
  have hl : j < L.length := (List.getElem?_eq_some_iff.1 hj).1
  have := rdAt h ok.one ok.len v.n j (by omega) hne (fun u hu => by rw [hj] at hu; injection hu with e; rw [e])
  rw [if_pos hl] at this
  exact this
theorem rdAtNo (ok : DOk L last) (w : World) (h : RkAt w R L last) (n : Int) (hn : hasN L n = false) :
    Calls Tryz.prog 79 #[.pointer (some ⟨R.d, 0, none⟩), .int .i64 n] w fun e w' => e = .returned (.int .i64 (-1)) ∧ w' = w := by
  have hno : ∀ u ∈ L, u.n ≠ n := fun u hu e => by have := hasN_iff.2 ⟨u, hu, e⟩; rw [hn] at this; simp at this
  have := rdAt h ok.one ok.len n L.length (Nat.le_refl _) (fun i u _ hu => hno u (List.mem_of_getElem? hu)) (fun u hu => by simp at hu)
  rw [if_neg (by omega)] at this
  exact this
theorem rdAtNil (w : World) (n : Int) :
    Calls Tryz.prog 79 #[.pointer none, .int .i64 n] w fun e w' => e = .returned (.int .i64 (-1)) ∧ w' = w := by
  go_enter Tryz.func79, Tryz.ntmps79
  go_wp2_with fail
  go_ret
  exact ⟨rfl, rfl⟩
theorem rdChild (ok : DOk L last) (w : World) (h : RkAt w R L last) (v : Wn) (j : Nat) (hj : L[j]? = some v) (hne : ∀ i u, i < j → L[i]? = some u → u.n ≠ v.n) (hj0 : j ≠ 0) :
    Calls Tryz.prog 143 #[.pointer (some ⟨R.d, 0, none⟩), .int .i64 v.n] w fun e w' => e = .returned (.tuple #[.int .i64 j, .int .i64 0]) ∧ w' = w := by
  have H : Hid (Calls Tryz.prog 79 #[.pointer (some ⟨R.d, 0, none⟩), .int .i64 v.n] w fun e w' => e = .returned (.int .i64 j) ∧ w' = w) := rdAtIn ok w h v j hj hne
  have h1 : ¬ (j : Int) < 0 := by omega
  have h2 : ¬ (j : Int) = 0 := by omega
  clear h hj hne
  go_enter Tryz.func143, Tryz.ntmps143
  go_wp2_with (first | (go_at_call 79; refine (H.out).mono ?_; rintro e w' ⟨rfl, hw'⟩; replace hw' := hw'.symm; subst hw'))
  go_ret2
  exact ⟨rfl, rfl⟩
theorem rdChildNo (ok : DOk L last) (w : World) (h : RkAt w R L last) (n : Int) (he : childE L n ≠ 0) :
    Calls Tryz.prog 143 #[.pointer (some ⟨R.d, 0, none⟩), .int .i64 n] w fun e w' => e = .returned (.tuple #[.int .i64 (-1), .int .i64 (childE L n)]) ∧ w' = w := by
  unfold childE at he ⊢
  rcases at_of ok n with ⟨v, hv, rfl, j, hjl, hj, hne, _, h0⟩ | hn
  · have hh : hasN L v.n = true := hasN_iff.2 ⟨v, hv, rfl⟩
    rw [if_neg (by simp [hh])] at he ⊢
    by_cases e0 : v.n = 0
    · rw [if_pos e0]
      obtain rfl := h0.2 e0
      have H : Hid (Calls Tryz.prog 79 #[.pointer (some ⟨R.d, 0, none⟩), .int .i64 v.n] w fun e w' => e = .returned (.int .i64 0) ∧ w' = w) := rdAtIn ok w h v 0 hj hne
      clear h hj hne he h0 e0
      go_enter Tryz.func143, Tryz.ntmps143
      go_wp2_with (first | (go_at_call 79; refine (H.out).mono ?_; rintro e w' ⟨rfl, hw'⟩; replace hw' := hw'.symm; subst hw'))
      go_ret2
      exact ⟨rfl, rfl⟩
    · rw [if_neg e0] at he; omega
  · rw [if_pos hn]
    have H : Hid (Calls Tryz.prog 79 #[.pointer (some ⟨R.d, 0, none⟩), .int .i64 n] w fun e w' => e = .returned (.int .i64 (-1)) ∧ w' = w) := rdAtNo ok w h n hn
    clear h he
    go_enter Tryz.func143, Tryz.ntmps143
    go_wp2_with (first | (go_at_call 79; refine (H.out).mono ?_; rintro e w' ⟨rfl, hw'⟩; replace hw' := hw'.symm; subst hw'))
    go_ret2
    exact ⟨rfl, rfl⟩
theorem rdChildNil (w : World) (n : Int) :
    Calls Tryz.prog 143 #[.pointer none, .int .i64 n] w fun e w' => e = .returned (.tuple #[.int .i64 (-1), .int .i64 1]) ∧ w' = w := by
  go_enter Tryz.func143, Tryz.ntmps143
  go_wp2_with (first | (go_at_call 79; refine (rdAtNil _ _).mono ?_; rintro e w' ⟨rfl, hw'⟩; replace hw' := hw'.symm; subst hw'))
  go_ret2
  exact ⟨rfl, rfl⟩
theorem rdPlace (x y : Int) (w : World) :
    Calls Tryz.prog 80 #[.int .i64 x, .int .i64 y] w fun e w' => e = .returned (.bool (placeB x y)) ∧ w' = w := by
  cases h1 : Wd.inB x (-1000) 1000 <;> cases h2 : Wd.inB y (-1000) 1000
  all_goals
    go_enter Tryz.func80, Tryz.ntmps80
    go_wp2_with (first | (go_at_call 86; refine (Wd.refBetween _ _ _ _).mono ?_; rintro e w' ⟨rfl, hw'⟩; replace hw' := hw'.symm; subst hw'))
    go_ret
    exact ⟨by simp [placeB, h1, h2], rfl⟩
theorem rdPen (p : Pn) (w : World) :
    Calls Tryz.prog 81 #[p.agg] w fun e w' => e = .returned (.bool (penB p)) ∧ Below w.heap.size w w' := by
  cases h1 : Wd.inB p.f 0 8 <;> cases h2 : Wd.inB p.b 0 8
  all_goals
    go_enter Tryz.func81, Tryz.ntmps81
    go_wp2_with (first | (go_at_call 86; refine (Wd.refBetween _ _ _ _).mono ?_; rintro e w' ⟨rfl, hw'⟩; replace hw' := hw'.symm; subst hw'))
    go_ret
    exact ⟨by simp [penB, h1, h2], (Below.refl _ _).alloc (Nat.le_refl _) _⟩
end
end Go.Proofs.YtjlfibhbfdckpaaGreatDoor
