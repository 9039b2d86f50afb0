/- Texts of the proof, one behind the other: FwF, FwG, FwH, FwI. -/
import Derived.Test.YtjlfibhbfdckpaaGreatDoorK18
import Derived.Test.YtjlfibhbfdckpaaGreatDoorK19
/- Flush: numbers, penChange. -/
namespace Go.Proofs.YtjlfibhbfdckpaaGreatDoor
open Go.RowKit
attribute [local go_sem ↓] Go.wp_at_zero Go.wp_at_succ
set_option maxHeartbeats 4000000 in
theorem qNumbers (av : Option Addr) (cap : Nat) (p q : Pn) (ts : List (Option Nat)) (base : Nat) (w : World) (hq : q.Ok) (ht : Toks ts) (hl : ts.length ≤ 1) (hrow : w.ownsRow base 9 1 (.slice av ts.length cap) ts.length (tvals ts)) (hbase : base ≤ w.heap.size) :
    Calls Tryz.prog 217 #[.slice av ts.length cap, p.agg, q.agg] w fun e w' => ∃ v', e = .returned v' ∧ w'.ownsRow base 9 1 v' (ts ++ penT p q).length (tvals (ts ++ penT p q)) ∧ Below base w w' := by
  have HR : Hid (w.ownsRow base 9 1 (.slice av ts.length cap) ts.length (tvals ts)) := hrow
  clear hrow
  obtain ⟨N, hN⟩ : ∃ N, w.heap.size = N := ⟨_, rfl⟩
  have HN : Hid (w.heap.size = N) := hN
  go_enter Tryz.func217, Tryz.ntmps217
  go_wp2_with fail
  have hA : ∃ wA, (((w.alloc (.cells #[.slice av ts.length cap] 229)).alloc (.cells #[.int .i64 p.f, .int .i64 p.b, .bool p.bo, .bool p.un, .bool p.re] 33)).alloc (.cells #[.int .i64 q.f, .int .i64 q.b, .bool q.bo, .bool q.un, .bool q.re] 33)) = wA ∧ wA.heap.size = N + 3 ∧ wA.heap[N]? = some (.cells #[.slice av ts.length cap] 229) ∧ PenAt wA (N + 1) 0 p ∧ PenAt wA (N + 2) 0 q ∧ Below w.heap.size w wA := by
    subst hN
    refine ⟨_, rfl, by simp, ?_, ?_, ?_, (((Below.refl _ _).alloc (Nat.le_refl _) _).alloc (by simp) _).alloc (by simp; omega) _⟩
    · rw [heap_next _ _ (by simp; omega), heap_next _ _ (by simp), heap_top _ _ rfl]
    · have e : ∀ o, (((w.alloc (.cells #[.slice av ts.length cap] 229)).alloc (.cells #[.int .i64 p.f, .int .i64 p.b, .bool p.bo, .bool p.un, .bool p.re] 33)).alloc (.cells #[.int .i64 q.f, .int .i64 q.b, .bool q.bo, .bool q.un, .bool q.re] 33)).cell? ⟨w.heap.size + 1, o, none⟩ = (#[.int .i64 p.f, .int .i64 p.b, .bool p.bo, .bool p.un, .bool p.re] : Array Value)[o]? := fun o => cell_of_block (by rw [heap_next _ _ (by simp), heap_top _ _ (by simp)]) o
      exact ⟨e 0, e 1, e 2, e 3, e 4⟩
    · have e : ∀ o, (((w.alloc (.cells #[.slice av ts.length cap] 229)).alloc (.cells #[.int .i64 p.f, .int .i64 p.b, .bool p.bo, .bool p.un, .bool p.re] 33)).alloc (.cells #[.int .i64 q.f, .int .i64 q.b, .bool q.bo, .bool q.un, .bool q.re] 33)).cell? ⟨w.heap.size + 2, o, none⟩ = (#[.int .i64 q.f, .int .i64 q.b, .bool q.bo, .bool q.un, .bool q.re] : Array Value)[o]? := fun o => cell_of_block (heap_top _ _ (by simp)) o
      exact ⟨e 0, e 1, e 2, e 3, e 4⟩
  obtain ⟨wA, hwA, zA, bA, pA, qA, belA⟩ := hA
  rw [hwA]
  have HbA : Hid (wA.heap[N]? = some (.cells #[.slice av ts.length cap] 229)) := bA
  have HpA : Hid (PenAt wA (N + 1) 0 p ∧ PenAt wA (N + 2) 0 q) := ⟨pA, qA⟩
  have HbelA : Hid (Below w.heap.size w wA) := belA
  obtain ⟨p0, p1, p2, p3, p4⟩ := pA
  obtain ⟨q0, q1, q2, q3, q4⟩ := qA
  clear hwA bA belA hN
  have HC : Hid (Acc 0 wA wA.drew N p q) := ⟨(Below.refl _ _).drew, zA, fun e => by omega, fun e => by omega, fun e => by omega, fun e => by omega, fun e => by omega⟩
  go_region_held3 (fun w' => w'.cell? ⟨N + 1, 0, none⟩ = some (.int .i64 p.f) ∧ w'.cell? ⟨N + 1, 1, none⟩ = some (.int .i64 p.b) ∧ w'.cell? ⟨N + 1, 2, none⟩ = some (.bool p.bo) ∧ w'.cell? ⟨N + 1, 3, none⟩ = some (.bool p.un) ∧ w'.cell? ⟨N + 1, 4, none⟩ = some (.bool p.re) ∧ w'.cell? ⟨N + 2, 0, none⟩ = some (.int .i64 q.f) ∧ w'.cell? ⟨N + 2, 1, none⟩ = some (.int .i64 q.b) ∧ w'.cell? ⟨N + 2, 2, none⟩ = some (.bool q.bo) ∧ w'.cell? ⟨N + 2, 3, none⟩ = some (.bool q.un) ∧ w'.cell? ⟨N + 2, 4, none⟩ = some (.bool q.re)) (simp [*, cell_old]) (first | (go_at_call 233; refine (qFlag _ _ _ _ _).mono ?_; rintro e wf ⟨bf, rfl, hF, hs, hz, hb⟩; (first | (have HC' := HC.out.n0 hs hz hb hF; have e0 : bf = N + 3 := by { have := HC.out.sz; simp at this hs; omega }) | (have HC' := HC.out.n1 hs hz hb hF; have e0 : bf = N + 7 := by { have := HC.out.sz; simp at this hs; omega }) | (have HC' := HC.out.n2 hs hz hb hF; have e0 : bf = N + 11 := by { have := HC.out.sz; simp at this hs; omega })); have e1 := HC'.bel.cells (b := N + 1) (by omega); have e2 := HC'.bel.cells (b := N + 2) (by omega); have ez := HC'.sz; simp at ez; clear HC hF hs hz hb; have HC : Hid _ := HC'; clear HC'; subst e0) | (go_at_call 234; refine (qColour _ _ _ _).mono ?_; rintro e wf ⟨bf, rfl, hF, hs, hz, hb⟩; (first | (have HC' := HC.out.n3 hs hz hb hF; have e0 : bf = N + 15 := by { have := HC.out.sz; simp at this hs; omega }) | (have HC' := HC.out.n4 hs hz hb hF; have e0 : bf = N + 18 := by { have := HC.out.sz; simp at this hs; omega })); have e1 := HC'.bel.cells (b := N + 1) (by omega); have e2 := HC'.bel.cells (b := N + 2) (by omega); have ez := HC'.sz; simp at ez; clear HC hF hs hz hb; have HC : Hid _ := HC'; clear HC'; subst e0))
  have hTel : Telling (wf.alloc (.cells #[flagV (N + 3), flagV (N + 7), flagV (N + 11), colV (N + 15), colV (N + 18)] 254)) (wf.alloc (.cells #[flagV (N + 3), flagV (N + 7), flagV (N + 11), colV (N + 15), colV (N + 18)] 254)) (N + 3) (N + 7) (N + 11) (N + 15) (N + 18) (N + 3 + 18) (N + 1) (N + 22) N base (Value.slice av ts.length cap).ownBlock p q ts := by
    have hA := HC.out
    have hbl : Below wf.heap.size wf (wf.alloc (.cells #[flagV (N + 3), flagV (N + 7), flagV (N + 11), colV (N + 15), colV (N + 18)] 254)) := (Below.refl _ _).alloc (Nat.le_refl _) _
    have hrl := fun i hi => HR.out.lt i hi
    have hNw := HN.out
    have hbN : Below w.heap.size w (wf.alloc (.cells #[flagV (N + 3), flagV (N + 7), flagV (N + 11), colV (N + 15), colV (N + 18)] 254)) := (HbelA.out.trans (hA.bel.mono (by omega))).trans (hbl.mono (by omega))
    refine ⟨⟨(hA.a1 (by omega)).below hbl, (hA.a2 (by omega)).below hbl, (hA.a3 (by omega)).below hbl, (hA.a4 (by omega)).below hbl, (hA.a5 (by omega)).below hbl, heap_top _ _ (by omega), by omega⟩, ⟨⟨_, ?_, orow_same HR.out (fun i hi => hbN.block i (hrl i hi).2), .inl rfl, ?_⟩, by simp; omega, by omega, by omega, by omega, ht⟩, Keep.refl _ _, by omega, fun i hi => ?_⟩
    · rw [hbl.block N (by omega), hA.bel.block N (by omega)]; exact HbA.out
    · intro hi; have := (hrl N hi).2; omega
    · have := (hrl i hi).2; omega
  have HTel : Hid (Below w.heap.size w (wf.alloc (.cells #[flagV (N + 3), flagV (N + 7), flagV (N + 11), colV (N + 15), colV (N + 18)] 254))) := (HbelA.out.trans (HC.out.bel.mono (by have := HN.out; omega))).trans (((Below.refl _ _).alloc (Nat.le_refl _) _ : Below wf.heap.size wf _).mono (by have := HN.out; omega))
  have hN1 : N + 22 ≤ (wf.alloc (.cells #[flagV (N + 3), flagV (N + 7), flagV (N + 11), colV (N + 15), colV (N + 18)] 254)).heap.size := hTel.told.hn
  generalize wf.alloc (.cells #[flagV (N + 3), flagV (N + 7), flagV (N + 11), colV (N + 15), colV (N + 18)] 254) = wB at *
  generalize N + 3 + 18 = g at *
  generalize N + 18 = b5 at *
  generalize N + 15 = b4 at *
  generalize N + 11 = b3 at *
  generalize N + 7 = b2 at *
  generalize N + 3 = b1 at *
  have H0 : Hid (Telling wB wB b1 b2 b3 b4 b5 g (N + 1) (N + 22) N base (Value.slice av ts.length cap).ownBlock p q ts) := hTel
  obtain ⟨r0, r1, r2, r3, r4⟩ := hTel.row
  clear hTel
  clear p0 p1 p2 p3 p4 q0 q1 q2 q3 q4 HC HpA HbA zA
  have l1 := flag_len p.bo q.bo 1 22
  have l2 := flag_len p.un q.un 4 24
  have l3 := flag_len p.re q.re 7 27
  have l4 := col_len p.f q.f 30
  have l5 := col_len p.b q.b 40
  go_wp2_with fail
  refine wp_loop_rounds 6 ?_
  rw [rounds_succ]
  go_wp2_with fail
  go_at_call 246
  refine (H0.out.t1 (by first | omega | (simp only [List.length_append]; omega))).mono ?_
  rintro e w1 ⟨rfl, h1⟩
  have h1' : Telling wB w1 b1 b2 b3 b4 b5 g (N + 1) (N + 22) N base (Value.slice av ts.length cap).ownBlock p q (ts ++ flagT p.bo q.bo 1 22) := by first | exact h1 | simpa only [List.append_assoc] using h1
  have H1 : Hid _ := h1'
  clear h1'
  obtain ⟨r0, r1, r2, r3, r4⟩ := h1.row
  clear h1
  go_wp2_with fail
  rw [rounds_succ]
  go_wp2_with fail
  go_at_call 246
  refine (H1.out.t2 (by first | omega | (simp only [List.length_append]; omega))).mono ?_
  rintro e w2 ⟨rfl, h2⟩
  have h2' : Telling wB w2 b1 b2 b3 b4 b5 g (N + 1) (N + 22) N base (Value.slice av ts.length cap).ownBlock p q (ts ++ (flagT p.bo q.bo 1 22 ++ flagT p.un q.un 4 24)) := by first | exact h2 | simpa only [List.append_assoc] using h2
  have H2 : Hid _ := h2'
  clear h2'
  obtain ⟨r0, r1, r2, r3, r4⟩ := h2.row
  clear h2
  go_wp2_with fail
  rw [rounds_succ]
  go_wp2_with fail
  go_at_call 246
  refine (H2.out.t3 (by first | omega | (simp only [List.length_append]; omega))).mono ?_
  rintro e w3 ⟨rfl, h3⟩
  have h3' : Telling wB w3 b1 b2 b3 b4 b5 g (N + 1) (N + 22) N base (Value.slice av ts.length cap).ownBlock p q (ts ++ (flagT p.bo q.bo 1 22 ++ (flagT p.un q.un 4 24 ++ flagT p.re q.re 7 27))) := by first | exact h3 | simpa only [List.append_assoc] using h3
  have H3 : Hid _ := h3'
  clear h3'
  obtain ⟨r0, r1, r2, r3, r4⟩ := h3.row
  clear h3
  go_wp2_with fail
  rw [rounds_succ]
  go_wp2_with fail
  go_at_call 247
  refine (H3.out.t4 hq (by first | omega | (simp only [List.length_append]; omega))).mono ?_
  rintro e w4 ⟨rfl, h4⟩
  have h4' : Telling wB w4 b1 b2 b3 b4 b5 g (N + 1) (N + 22) N base (Value.slice av ts.length cap).ownBlock p q (ts ++ (flagT p.bo q.bo 1 22 ++ (flagT p.un q.un 4 24 ++ (flagT p.re q.re 7 27 ++ colT p.f q.f 30)))) := by first | exact h4 | simpa only [List.append_assoc] using h4
  have H4 : Hid _ := h4'
  clear h4'
  obtain ⟨r0, r1, r2, r3, r4⟩ := h4.row
  clear h4
  go_wp2_with fail
  rw [rounds_succ]
  go_wp2_with fail
  go_at_call 247
  refine (H4.out.t5 hq (by first | omega | (simp only [List.length_append]; omega))).mono ?_
  rintro e w5 ⟨rfl, h5⟩
  have h5' : Telling wB w5 b1 b2 b3 b4 b5 g (N + 1) (N + 22) N base (Value.slice av ts.length cap).ownBlock p q (ts ++ (flagT p.bo q.bo 1 22 ++ (flagT p.un q.un 4 24 ++ (flagT p.re q.re 7 27 ++ (colT p.f q.f 30 ++ colT p.b q.b 40))))) := by first | exact h5 | simpa only [List.append_assoc] using h5
  have H5 : Hid _ := h5'
  clear h5'
  obtain ⟨r0, r1, r2, r3, r4⟩ := h5.row
  clear h5
  go_wp2_with fail
  rw [rounds_succ]
  have hE : (flagT p.bo q.bo 1 22 ++ (flagT p.un q.un 4 24 ++ (flagT p.re q.re 7 27 ++ (colT p.f q.f 30 ++ colT p.b q.b 40))) = penT p q) := by unfold penT; simp only [List.append_assoc]
  have HE : Hid _ := hE
  clear hE
  obtain ⟨v5, hb5, hr5, _, _⟩ := H5.out.told.box
  have c5 : w5.cell? ⟨N, 0, none⟩ = some v5 := cell_of_block hb5 0
  have HR5 : Hid (w5.ownsRow base 9 1 v5 (ts ++ penT p q).length (tvals (ts ++ penT p q))) := by
    have hE := HE.out
    rw [← hE]
    exact hr5
  clear hr5 hb5
  go_wp2_with fail
  go_ret
  refine ⟨v5, rfl, HR5.out, ?_⟩
  have hK := H5.out.kp
  have hb0 := HTel.out
  have hNw := HN.out
  refine ⟨hK.os.trans hb0.os, hK.tape.trans hb0.tape, hK.output.trans hb0.output, Nat.le_trans hb0.size hK.size, fun i hi => ?_⟩
  rw [hK.block i (by have := hb0.size; omega) (by
    rintro (e | e | e)
    · omega
    · have := (HR.out.lt i e).1; omega
    · omega)]
  exact hb0.block i (by omega)
end Go.Proofs.YtjlfibhbfdckpaaGreatDoor

/- Flush: penChange. -/
namespace Go.Proofs.YtjlfibhbfdckpaaGreatDoor
open Go.RowKit
attribute [local go_sem ↓] Go.wp_at_zero Go.wp_at_succ
theorem pen_eql (p q : Pn) (w : World) : (binOp .eql 33 p.agg q.agg).run Tryz.prog w = .ok (.bool (p.eqB q)) w := by
  obtain ⟨f, b, bo, un, re⟩ := p
  obtain ⟨f', b', bo', un', re'⟩ := q
  go_simp
  unfold Pn.eqB
  by_cases h1 : f = f'
  · by_cases h2 : b = b'
    · by_cases h3 : bo = bo'
      · by_cases h4 : un = un'
        · by_cases h5 : re = re'
          · simp [h1, h2, h3, h4, h5]
          · simp [h1, h2, h3, h4, h5]
        · simp [h1, h2, h3, h4]
      · simp [h1, h2, h3]
    · simp [h1, h2]
  · simp [h1]
theorem orow_at {w : World} {base g n cap : Nat} {xs : List Value} {t : TypeId} (h : w.ownsRow base t 1 (.slice (some ⟨g, 0, none⟩) n cap) n xs) (j : Nat) (u : Value) (hj : xs[j]? = some u) : w.cell? ⟨g, j, none⟩ = some u := by
  obtain ⟨hl, h | ⟨g', cap', cur, hv, hb, hg, hn, hm, hs, ht⟩⟩ := h
  · simp at h
  · simp at hv
    obtain ⟨rfl, rfl⟩ := hv
    rw [cell_of_block hg]
    rw [← ht] at hj
    have hlt : j < n * 1 := by
      have := (List.getElem?_eq_some_iff.1 hj).1
      simp at this; omega
    rw [List.getElem?_take_of_lt hlt] at hj
    simpa using hj
theorem orow_cap {w : World} {base g n cap k : Nat} {xs : List Value} {t : TypeId} (h : w.ownsRow base t k (.slice (some ⟨g, 0, none⟩) n cap) n xs) : n ≤ cap := by
  obtain ⟨hl, h | ⟨g', cap', cur, hv, hb, hg, hn, hm, hs, ht⟩⟩ := h
  · simp at h
  · simp at hv
    obtain ⟨rfl, rfl⟩ := hv
    exact hn
/-- A sequence of pens out of such a row. -/
theorem qSeqOf (ts : List (Option Nat)) (base : Nat) (v : Value) (w : World) (ht : Toks ts) (hl : ts.length ≤ 8) (hne : ts ≠ []) (h : w.ownsRow base 9 1 v ts.length (tvals ts)) :
    Calls Tryz.prog 216 #[bstr [109], v] w fun e w' => e = .returned (bstr (seqL 109 ts)) ∧ Below w.heap.size w w' := by
  obtain ⟨g, cap, rfl⟩ := row_slice h (List.length_pos_iff.2 hne)
  refine qSequence 109 ts g 0 cap w ht hl (orow_cap h) hne (fun j t hj => ?_)
  rw [Nat.zero_add]
  exact orow_at h j _ (by simp [tvals, hj])
set_option maxHeartbeats 2000000 in
theorem qPenChange (p q : Pn) (w : World) (hq : q.Ok) :
    Calls Tryz.prog 199 #[p.agg, q.agg] w fun e w' => e = .returned (bstr (penL p q)) ∧ Below w.heap.size w w' := by
  have hpe := fun w => pen_eql p q w
  cases he : p.eqB q with
  | true =>
    have e : penL p q = [] := by unfold penL; rw [if_pos he]
    rw [e]
    simp only [he] at hpe
    go_enter Tryz.func199, Tryz.ntmps199
    go_wp2_with fail
    go_ret
    exact ⟨rfl, ((Below.refl _ _).alloc (Nat.le_refl _) _).alloc (by simp) _⟩
  | false =>
    simp only [he] at hpe
    have hne : p ≠ q := Pn.eqB_not.1 he
    obtain ⟨t1, l1⟩ := pen_toks p hq
    obtain ⟨t2, l2⟩ := pen_toks Pn.plain hq
    have HT1 : Hid (Toks (penT p q) ∧ (penT p q).length ≤ 5 ∧ penT p q ≠ []) := ⟨t1, l1, pen_ne hne⟩
    have HT2 : Hid (Toks (none :: penT Pn.plain q) ∧ (none :: penT Pn.plain q).length ≤ 6) := ⟨toks_app (a := [none]) (fun n hn => by simp at hn) t2, by simp; omega⟩
    have e : penL p q = if (seqL 109 (none :: penT Pn.plain q)).length < (seqL 109 (penT p q)).length then seqL 109 (none :: penT Pn.plain q) else seqL 109 (penT p q) := by unfold penL; rw [if_neg (by rw [he]; decide)]
    have HE : Hid (penL p q = if (seqL 109 (none :: penT Pn.plain q)).length < (seqL 109 (penT p q)).length then seqL 109 (none :: penT Pn.plain q) else seqL 109 (penT p q)) := e
    obtain ⟨N, hN⟩ : ∃ N, w.heap.size = N := ⟨_, rfl⟩
    have HN : Hid (w.heap.size = N) := hN
    clear t1 l1 t2 l2 e hne he
    go_enter Tryz.func199, Tryz.ntmps199
    go_wp2_with fail
    have hA : ∃ wA, ((w.alloc (.cells #[.int .i64 p.f, .int .i64 p.b, .bool p.bo, .bool p.un, .bool p.re] 33)).alloc (.cells #[.int .i64 q.f, .int .i64 q.b, .bool q.bo, .bool q.un, .bool q.re] 33)) = wA ∧ wA.heap.size = N + 2 ∧ PenAt wA (N + 1) 0 q ∧ Below w.heap.size w wA := by
      subst hN
      refine ⟨_, rfl, by simp, ?_, ((Below.refl _ _).alloc (Nat.le_refl _) _).alloc (by simp) _⟩
      have e : ∀ o, ((w.alloc (.cells #[.int .i64 p.f, .int .i64 p.b, .bool p.bo, .bool p.un, .bool p.re] 33)).alloc (.cells #[.int .i64 q.f, .int .i64 q.b, .bool q.bo, .bool q.un, .bool q.re] 33)).cell? ⟨w.heap.size + 1, o, none⟩ = (#[.int .i64 q.f, .int .i64 q.b, .bool q.bo, .bool q.un, .bool q.re] : Array Value)[o]? := fun o => cell_of_block (heap_top _ _ (by simp)) o
      exact ⟨e 0, e 1, e 2, e 3, e 4⟩
    obtain ⟨wA, hwA, zA, qA, belA⟩ := hA
    rw [hwA]
    have HqA : Hid (PenAt wA (N + 1) 0 q) := qA
    have HbelA : Hid (Below w.heap.size w wA) := belA
    clear hwA qA belA
    go_at_call 217
    refine (qNumbers none 0 p q [] wA.heap.size wA hq toks_nil (by simp) (World.ownsRow_nil _ _ _ _) (Nat.le_refl _)).mono ?_
    rintro e w1 ⟨v1, rfl, hr1, hb1⟩
    rw [List.nil_append] at hr1
    have Hr1 : Hid (w1.ownsRow wA.heap.size 9 1 v1 (penT p q).length (tvals (penT p q))) := hr1
    have Hb1 : Hid (Below wA.heap.size wA w1) := hb1
    clear hr1 hb1
    go_wp2_with fail
    go_at_call 216
    refine (qSeqOf (penT p q) _ v1 w1 HT1.out.1 (by have := HT1.out.2.1; omega) HT1.out.2.2 Hr1.out).mono ?_
    rintro e w2 ⟨rfl, hb2⟩
    have HB2 : Hid (Below wA.heap.size wA w2) := Hb1.out.trans (hb2.mono Hb1.out.size)
    have hz2 : N + 2 ≤ w2.heap.size := by have := HB2.out.size; omega
    have HQ2 : Hid (PenAt (w2.alloc (.cells #[.string ⟨#[]⟩] 9)) (N + 1) 0 q) := (HqA.out.same (HB2.out.block _ (by omega))).same (heap_next _ _ (by omega))
    have HB3 : Hid (Below w.heap.size w (w2.alloc (.cells #[.string ⟨#[]⟩] 9))) := (HbelA.out.trans (HB2.out.mono (by have := HN.out; omega))).alloc (by have := HN.out; omega) _
    have Hro : Hid ((w2.alloc (.cells #[.string ⟨#[]⟩] 9)).ownsRow w2.heap.size 9 1 (.slice (some ⟨w2.heap.size, 0, none⟩) 1 1) 1 (tvals [none])) := ⟨rfl, .inr ⟨_, _, _, rfl, Nat.le_refl _, heap_new _ _, Nat.le_refl _, by decide, rfl, rfl⟩⟩
    clear hb2 Hr1 Hb1
    obtain ⟨q0, q1, q2, q3, q4⟩ := HQ2.out
    go_wp2_with fail
    go_at_call 217
    refine (qNumbers (some ⟨w2.heap.size, 0, none⟩) 1 Pn.plain q [none] w2.heap.size _ hq (fun n hn => by simp at hn) (by simp) Hro.out (by simp)).mono ?_
    rintro e w4 ⟨v4, rfl, hr4, hb4⟩
    have Hr4 : Hid (w4.ownsRow w2.heap.size 9 1 v4 (none :: penT Pn.plain q).length (tvals (none :: penT Pn.plain q))) := hr4
    have HB4 : Hid (Below w.heap.size w w4) := HB3.out.trans (hb4.mono (by have := HN.out; omega))
    clear hr4 hb4 q0 q1 q2 q3 q4 Hro HB3 HQ2
    go_wp2_with fail
    go_at_call 216
    refine (qSeqOf (none :: penT Pn.plain q) _ v4 w4 HT2.out.1 (by have := HT2.out.2; omega) (by simp) Hr4.out).mono ?_
    rintro e w5 ⟨rfl, hb5⟩
    have HB5 : Hid (Below w.heap.size w w5) := HB4.out.trans (hb5.mono HB4.out.size)
    clear hb5 Hr4
    have hE := HE.out
    generalize seqL 109 (none :: penT Pn.plain q) = A at *
    generalize seqL 109 (penT p q) = B at *
    by_cases hlt : A.length < B.length
    · rw [if_pos hlt] at hE
      have HE2 : Hid (penL p q = A) := hE
      clear hE HE
      have hs1 : (({ data := A.toArray } : ByteArray).size : Int) < (({ data := B.toArray } : ByteArray).size : Int) := by show (A.length : Int) < (B.length : Int); omega
      go_wp2_with fail
      go_ret
      exact ⟨by rw [HE2.out]; rfl, HB5.out⟩
    · rw [if_neg hlt] at hE
      have HE2 : Hid (penL p q = B) := hE
      clear hE HE
      have hs1 : ¬ (({ data := A.toArray } : ByteArray).size : Int) < (({ data := B.toArray } : ByteArray).size : Int) := by show ¬ (A.length : Int) < (B.length : Int); omega
      go_wp2_with fail
      go_ret
      exact ⟨by rw [HE2.out]; rfl, HB5.out⟩
end Go.Proofs.YtjlfibhbfdckpaaGreatDoor

/- Flush: then, isAt. -/
namespace Go.Proofs.YtjlfibhbfdckpaaGreatDoor
open Go.RowKit
attribute [local go_sem ↓] Go.wp_at_zero Go.wp_at_succ
theorem pen_neq (p q : Pn) (w : World) : (binOp .neq 33 p.agg q.agg).run Tryz.prog w = .ok (.bool (!p.eqB q)) w := by
  obtain ⟨f, b, bo, un, re⟩ := p
  obtain ⟨f', b', bo', un', re'⟩ := q
  go_simp
  unfold Pn.eqB
  by_cases h1 : f = f'
  · by_cases h2 : b = b'
    · by_cases h3 : bo = bo'
      · by_cases h4 : un = un'
        · by_cases h5 : re = re'
          · simp [h1, h2, h3, h4, h5]
          · simp [h1, h2, h3, h4, h5]
        · simp [h1, h2, h3, h4]
      · simp [h1, h2, h3]
    · simp [h1, h2]
  · simp [h1]
set_option maxHeartbeats 2000000 in
theorem qThen (v st : Wy) (w : World) (hv : v.b.length ≤ 1000) (hs : st.b.length ≤ 1000) :
    Calls Tryz.prog 226 #[v.agg, st.agg] w fun e w' => e = .returned (thenW v st).agg ∧ Below w.heap.size w w' := by
  have hpe := fun w => pen_neq v.e.pen st.e.pen w
  have hz1 : ((({ data := v.b.toArray } : ByteArray).size : Nat) : Int) = (v.b.length : Int) := rfl
  have hb : (({ data := v.b.toArray } : ByteArray) ++ { data := st.b.toArray }) = { data := (v.b ++ st.b).toArray } := bytes_app _ _
  have hsz : (({ data := v.b.toArray } : ByteArray).size + ({ data := st.b.toArray } : ByteArray).size) ≤ 2000 := by show v.b.length + st.b.length ≤ 2000; omega
  cases he : v.e.pen.eqB st.e.pen with
  | true =>
    simp only [he, Bool.not_true] at hpe
    have e : (thenW v st).agg = .agg #[.string ⟨(v.b ++ st.b).toArray⟩, .int .i64 v.k, .int .i64 st.e.x, .int .i64 st.e.y, .bool st.e.pend, .int .i64 st.e.pen.f, .int .i64 st.e.pen.b, .bool st.e.pen.bo, .bool st.e.pen.un, .bool st.e.pen.re] := by
      unfold thenW; rw [if_pos he]
    rw [e]
    go_enter Tryz.func226, Tryz.ntmps226
    go_wp2_with fail
    exact bodyPost_ret (v := (.agg #[.string ⟨(v.b ++ st.b).toArray⟩, .int .i64 v.k, .int .i64 st.e.x, .int .i64 st.e.y, .bool st.e.pend, .int .i64 st.e.pen.f, .int .i64 st.e.pen.b, .bool st.e.pen.bo, .bool st.e.pen.un, .bool st.e.pen.re])) (by simp [results, Tryz.results226, go_sem]) rfl ⟨rfl, (((Below.refl _ _).alloc (Nat.le_refl _) _).alloc (by simp) _).alloc (by simp; omega) _⟩
  | false =>
    simp only [he, Bool.not_false] at hpe
    have e : (thenW v st).agg = (.agg #[.string ⟨(v.b ++ st.b).toArray⟩, .int .i64 v.b.length, .int .i64 st.e.x, .int .i64 st.e.y, .bool st.e.pend, .int .i64 st.e.pen.f, .int .i64 st.e.pen.b, .bool st.e.pen.bo, .bool st.e.pen.un, .bool st.e.pen.re]) := by
      unfold thenW; rw [if_neg (by rw [he]; decide)]
    rw [e]
    go_enter Tryz.func226, Tryz.ntmps226
    go_wp2_with fail
    exact bodyPost_ret (v := (.agg #[.string ⟨(v.b ++ st.b).toArray⟩, .int .i64 v.b.length, .int .i64 st.e.x, .int .i64 st.e.y, .bool st.e.pend, .int .i64 st.e.pen.f, .int .i64 st.e.pen.b, .bool st.e.pen.bo, .bool st.e.pen.un, .bool st.e.pen.re])) (by simp [results, Tryz.results226, go_sem]) rfl ⟨rfl, by
      first
        | exact (((Below.refl _ _).alloc (Nat.le_refl _) _).alloc (by simp) _).alloc (by simp; omega) _
        | exact ((((Below.refl _ _).alloc (Nat.le_refl _) _).alloc (by simp) _).alloc (by simp; omega) _).setCell (by simp) _
        | exact ((((Below.refl _ _).alloc (Nat.le_refl _) _).alloc (by simp) _).setCell (by simp) _).alloc (by simp; omega) _⟩
set_option maxHeartbeats 2000000 in
theorem isAtF (gx gy : Int) (gn : Pn) (lt : Bool) (x y : Int) (n : Pn) (w : World) (h0 : 0 ≤ y) (h1 : y ≤ 1000) :
    Calls Tryz.prog 224 #[Gl.agg (⟨gx, gy, gn, lt⟩ : Gl), Sp.agg (⟨x, y, false, n⟩ : Sp)] w fun e w' => e = .returned (.bool (decide (Sp.lx (⟨x, y, false, n⟩ : Sp) = gx) && decide (Sp.ly (⟨x, y, false, n⟩ : Sp) = gy) && n.eqB gn)) ∧ Below w.heap.size w w' := by
  have hpe := fun w => pen_eql n gn w
  have HL : Hid (∀ W, Calls Tryz.prog 238 #[Sp.agg (⟨x, y, false, n⟩ : Sp)] W fun e w' => e = .returned (.tuple #[.int .i64 (Sp.lx (⟨x, y, false, n⟩ : Sp)), .int .i64 (Sp.ly (⟨x, y, false, n⟩ : Sp))]) ∧ Below W.heap.size W w') := fun W => qLanding (⟨x, y, false, n⟩ : Sp) W h0 h1
  obtain ⟨N, hN⟩ : ∃ N, w.heap.size = N := ⟨_, rfl⟩
  have HN : Hid (w.heap.size = N) := hN
  go_enter Tryz.func224, Tryz.ntmps224
  go_wp2_with fail
  have hA : ∃ wA, ((w.alloc (.cells #[.int .i64 gx, .int .i64 gy, .int .i64 gn.f, .int .i64 gn.b, .bool gn.bo, .bool gn.un, .bool gn.re, .bool lt] 211)).alloc (.cells #[.int .i64 x, .int .i64 y, .bool false, .int .i64 n.f, .int .i64 n.b, .bool n.bo, .bool n.un, .bool n.re] 235)) = wA ∧ wA.heap.size = N + 2 ∧ (∀ o, wA.cell? ⟨N, o, none⟩ = (#[.int .i64 gx, .int .i64 gy, .int .i64 gn.f, .int .i64 gn.b, .bool gn.bo, .bool gn.un, .bool gn.re, .bool lt] : Array Value)[o]?) ∧ (∀ o, wA.cell? ⟨N + 1, o, none⟩ = (#[.int .i64 x, .int .i64 y, .bool false, .int .i64 n.f, .int .i64 n.b, .bool n.bo, .bool n.un, .bool n.re] : Array Value)[o]?) ∧ Below w.heap.size w wA := by
    subst hN
    exact ⟨_, rfl, by simp, fun o => cell_of_block (by rw [heap_next _ _ (by simp), heap_top _ _ rfl]) o, fun o => cell_of_block (heap_top _ _ (by simp)) o, ((Below.refl _ _).alloc (Nat.le_refl _) _).alloc (by simp) _⟩
  obtain ⟨wA, hwA, zA, cg, cp, belA⟩ := hA
  rw [hwA]
  have HbA : Hid (Below w.heap.size w wA) := belA
  clear hwA belA hN
  go_at_call 238
  refine (HL.out _).mono ?_
  rintro e w1 ⟨rfl, hb1⟩
  have e0 := hb1.cells (b := N) (by omega)
  have e1 := hb1.cells (b := N + 1) (by omega)
  have HB1 : Hid (Below w.heap.size w w1) := HbA.out.trans (hb1.mono (by have := HN.out; omega))
  clear hb1 HL
  by_cases c1 : Sp.lx (⟨x, y, false, n⟩ : Sp) = gx
  · by_cases c2 : Sp.ly (⟨x, y, false, n⟩ : Sp) = gy
    · go_wp2_with fail
      go_ret
      exact ⟨by simp [c1, c2], HB1.out⟩
    · go_wp2_with fail
      go_ret
      exact ⟨by simp [c1, c2], HB1.out⟩
  · go_wp2_with fail
    go_ret
    exact ⟨by simp [c1], HB1.out⟩
set_option maxHeartbeats 2000000 in
theorem isAtT (gx gy : Int) (gn : Pn) (x y : Int) (n : Pn) (w : World) (h0 : 0 ≤ y) (h1 : y ≤ 1000) :
    Calls Tryz.prog 224 #[Gl.agg (⟨gx, gy, gn, true⟩ : Gl), Sp.agg (⟨x, y, true, n⟩ : Sp)] w fun e w' => e = .returned (.bool (decide (Sp.lx (⟨x, y, true, n⟩ : Sp) = gx) && decide (Sp.ly (⟨x, y, true, n⟩ : Sp) = gy) && n.eqB gn)) ∧ Below w.heap.size w w' := by
  have hpe := fun w => pen_eql n gn w
  have HL : Hid (∀ W, Calls Tryz.prog 238 #[Sp.agg (⟨x, y, true, n⟩ : Sp)] W fun e w' => e = .returned (.tuple #[.int .i64 (Sp.lx (⟨x, y, true, n⟩ : Sp)), .int .i64 (Sp.ly (⟨x, y, true, n⟩ : Sp))]) ∧ Below W.heap.size W w') := fun W => qLanding (⟨x, y, true, n⟩ : Sp) W h0 h1
  obtain ⟨N, hN⟩ : ∃ N, w.heap.size = N := ⟨_, rfl⟩
  have HN : Hid (w.heap.size = N) := hN
  go_enter Tryz.func224, Tryz.ntmps224
  go_wp2_with fail
  have hA : ∃ wA, ((w.alloc (.cells #[.int .i64 gx, .int .i64 gy, .int .i64 gn.f, .int .i64 gn.b, .bool gn.bo, .bool gn.un, .bool gn.re, .bool true] 211)).alloc (.cells #[.int .i64 x, .int .i64 y, .bool true, .int .i64 n.f, .int .i64 n.b, .bool n.bo, .bool n.un, .bool n.re] 235)) = wA ∧ wA.heap.size = N + 2 ∧ (∀ o, wA.cell? ⟨N, o, none⟩ = (#[.int .i64 gx, .int .i64 gy, .int .i64 gn.f, .int .i64 gn.b, .bool gn.bo, .bool gn.un, .bool gn.re, .bool true] : Array Value)[o]?) ∧ (∀ o, wA.cell? ⟨N + 1, o, none⟩ = (#[.int .i64 x, .int .i64 y, .bool true, .int .i64 n.f, .int .i64 n.b, .bool n.bo, .bool n.un, .bool n.re] : Array Value)[o]?) ∧ Below w.heap.size w wA := by
    subst hN
    exact ⟨_, rfl, by simp, fun o => cell_of_block (by rw [heap_next _ _ (by simp), heap_top _ _ rfl]) o, fun o => cell_of_block (heap_top _ _ (by simp)) o, ((Below.refl _ _).alloc (Nat.le_refl _) _).alloc (by simp) _⟩
  obtain ⟨wA, hwA, zA, cg, cp, belA⟩ := hA
  rw [hwA]
  have HbA : Hid (Below w.heap.size w wA) := belA
  clear hwA belA hN
  go_at_call 238
  refine (HL.out _).mono ?_
  rintro e w1 ⟨rfl, hb1⟩
  have e0 := hb1.cells (b := N) (by omega)
  have e1 := hb1.cells (b := N + 1) (by omega)
  have HB1 : Hid (Below w.heap.size w w1) := HbA.out.trans (hb1.mono (by have := HN.out; omega))
  clear hb1 HL
  by_cases c1 : Sp.lx (⟨x, y, true, n⟩ : Sp) = gx
  · by_cases c2 : Sp.ly (⟨x, y, true, n⟩ : Sp) = gy
    · go_wp2_with fail
      go_ret
      exact ⟨by simp [c1, c2], HB1.out⟩
    · go_wp2_with fail
      go_ret
      exact ⟨by simp [c1, c2], HB1.out⟩
  · go_wp2_with fail
    go_ret
    exact ⟨by simp [c1], HB1.out⟩
theorem qIsAt (g : Gl) (p : Sp) (w : World) (h0 : 0 ≤ p.y) (h1 : p.y ≤ 1000) :
    Calls Tryz.prog 224 #[g.agg, p.agg] w fun e w' => e = .returned (.bool (g.isAt p)) ∧ Below w.heap.size w w' := by
  obtain ⟨gx, gy, gn, lt⟩ := g
  obtain ⟨x, y, pd, n⟩ := p
  cases pd with
  | false => exact isAtF gx gy gn lt x y n w h0 h1
  | true =>
    cases lt with
    | true => exact isAtT gx gy gn x y n w h0 h1
    | false =>
      have e : Gl.isAt ⟨gx, gy, gn, false⟩ ⟨x, y, true, n⟩ = false := rfl
      rw [e]
      go_enter Tryz.func224, Tryz.ntmps224
      go_wp2_with fail
      go_ret
      exact ⟨rfl, ((Below.refl _ _).alloc (Nat.le_refl _) _).alloc (by simp) _⟩
end Go.Proofs.YtjlfibhbfdckpaaGreatDoor

/- Flush: ways in memory: the heap's row. -/
namespace Go.Proofs.YtjlfibhbfdckpaaGreatDoor
open Go.RowKit
abbrev Wy.vals (v : Wy) : List Value := [bstr v.b, .int .i64 v.k, .int .i64 v.e.x, .int .i64 v.e.y, .bool v.e.pend, .int .i64 v.e.pen.f, .int .i64 v.e.pen.b, .bool v.e.pen.bo, .bool v.e.pen.un, .bool v.e.pen.re]
def wflat (L : List Wy) : List Value := L.flatMap Wy.vals
theorem wflat_app (L M : List Wy) : wflat (L ++ M) = wflat L ++ wflat M := by simp [wflat]
theorem wflat_cons (v : Wy) (L : List Wy) : wflat (v :: L) = v.vals ++ wflat L := by simp [wflat]
theorem wflat_len (L : List Wy) : (wflat L).length = L.length * 10 := by
  induction L with
  | nil => rfl
  | cons v t ih => rw [wflat_cons, List.length_append, ih, List.length_cons]; simp; omega
theorem wvals_one (v : Wy) : ∀ u ∈ v.vals, u.oneCell' = true := by simp [Value.oneCell']
/-- Some cells of a list are other ones. -/
def setL (xs : List Value) (o : Nat) : List Value → List Value
  | [] => xs
  | v :: vs => setL (xs.set o v) (o + 1) vs
theorem setL_mid (vs : List Value) : ∀ (pre mid post : List Value), mid.length = vs.length → setL (pre ++ mid ++ post) pre.length vs = pre ++ vs ++ post := by
  induction vs with
  | nil => intro pre mid post h; rw [List.eq_nil_of_length_eq_zero h]; rfl
  | cons v t ih =>
    intro pre mid post h
    cases mid with
    | nil => simp at h
    | cons m ms =>
      show setL ((pre ++ m :: ms ++ post).set pre.length v) (pre.length + 1) t = _
      have e : (pre ++ m :: ms ++ post).set pre.length v = (pre ++ [v]) ++ ms ++ post := by simp
      rw [e]
      have := ih (pre ++ [v]) ms post (by simpa using h)
      rw [List.length_append] at this
      simp only [List.length_cons, List.length_nil, Nat.zero_add] at this
      rw [this]
      simp
theorem wflat_split {L : List Wy} {k : Nat} (hk : k < L.length) : wflat L = wflat (L.take k) ++ (gW L k).vals ++ wflat (L.drop (k + 1)) := by
  have e : L = L.take k ++ gW L k :: L.drop (k + 1) := by
    have : gW L k = L[k] := by simp [gW, List.getD, hk]
    rw [this, List.getElem_cons_drop, List.take_append_drop]
  conv => lhs; rw [e]
  rw [wflat_app, wflat_cons, List.append_assoc]
theorem wflat_set {L : List Wy} {k : Nat} (hk : k < L.length) (v : Wy) : setL (wflat L) (k * 10) v.vals = wflat (L.set k v) := by
  have hl : (wflat (L.take k)).length = k * 10 := by rw [wflat_len, List.length_take]; rw [Nat.min_eq_left (by omega)]
  rw [wflat_split hk, ← hl, setL_mid v.vals _ (gW L k).vals _ rfl, List.set_eq_take_append_cons_drop, if_pos hk, wflat_app, wflat_cons, List.append_assoc]
theorem orow_set {w : World} {base : Nat} {e : TypeId} {size g n cap : Nat} {xs : List Value} (h : w.ownsRow base e size (.slice (some ⟨g, 0, none⟩) n cap) n xs) (k : Nat) (u : Value) : (w.setCell ⟨g, k, none⟩ u).ownsRow base e size (.slice (some ⟨g, 0, none⟩) n cap) n (xs.set k u) := by
  obtain ⟨hl, h | ⟨g', cap', cur, hv, hb, hg, hn, hm, hs, ht⟩⟩ := h
  · simp at h
  · obtain ⟨rfl, rfl⟩ : g = g' ∧ cap = cap' := by simpa using hv
    refine ⟨by simpa using hl, .inr ⟨g, cap, _, rfl, hb, heap_set_same hg k u, hn, hm, by simpa using hs, ?_⟩⟩
    rw [Array.toList_setIfInBounds, List.take_set, ht]
theorem row_setL {base : Nat} {e : TypeId} {size g n cap : Nat} (vs : List Value) : ∀ {w : World} {xs : List Value} (o : Nat), w.ownsRow base e size (.slice (some ⟨g, 0, none⟩) n cap) n xs → (w.setCells g o vs).ownsRow base e size (.slice (some ⟨g, 0, none⟩) n cap) n (setL xs o vs) := by
  induction vs with
  | nil => intro w xs o h; exact h
  | cons v t ih => intro w xs o h; exact ih (o + 1) (orow_set h o v)
/-- The row of ways. -/
abbrev WRow (w : World) (base g n cap : Nat) (L : List Wy) : Prop := w.ownsRow base 237 10 (.slice (some ⟨g, 0, none⟩) n cap) n (wflat L)
theorem wrow_len {w : World} {base g n cap : Nat} {L : List Wy} (h : WRow w base g n cap L) : L.length = n := by
  have := h.1
  rw [wflat_len] at this
  omega
theorem wrow_cur {w : World} {base g n cap : Nat} {L : List Wy} (h : WRow w base g n cap L) : ∃ cur : Array Value, w.heap[g]? = some (.cells cur 237) ∧ cur.size = cap * 10 ∧ n ≤ cap ∧ cur.toList.take (n * 10) = wflat L ∧ base ≤ g := by
  obtain ⟨hl, h | ⟨g', cap', cur, hv, hb, hg, hn, hm, hs, ht⟩⟩ := h
  · simp at h
  · simp at hv
    obtain ⟨rfl, rfl⟩ := hv
    exact ⟨cur, hg, hs, hn, ht, hb⟩
theorem wrow_range {w : World} {base g n cap : Nat} {L : List Wy} (h : WRow w base g n cap L) {k : Nat} (hk : k < n) : w.rangeAt g (k * 10) (gW L k).vals := by
  have hl := wrow_len h
  obtain ⟨cur, hg, _, _, ht, _⟩ := wrow_cur h
  intro j v hv
  have hj : j < 10 := by have := (List.getElem?_eq_some_iff.1 hv).1; simpa using this
  rw [cell_of_block hg]
  have e : (wflat L)[k * 10 + j]? = some v := by
    rw [wflat_split (k := k) (by omega), List.append_assoc, List.getElem?_append_right (by rw [wflat_len, List.length_take]; omega)]
    have : k * 10 + j - (wflat (L.take k)).length = j := by rw [wflat_len, List.length_take, Nat.min_eq_left (by omega)]; omega
    rw [this, List.getElem?_append_left (by simpa using hj)]
    exact hv
  rw [← ht, List.getElem?_take_of_lt (by omega)] at e
  simpa using e
theorem wrow_take {w : World} {base g n cap m : Nat} {L : List Wy} (h : WRow w base g n cap L) (hm : m ≤ n) : WRow w base g m cap (L.take m) := by
  have hl := wrow_len h
  obtain ⟨hl', h | ⟨g', cap', cur, hv, hb, hg, hn, hmx, hs, ht⟩⟩ := h
  · simp at h
  · simp at hv
    obtain ⟨rfl, rfl⟩ := hv
    refine ⟨by rw [wflat_len, List.length_take, Nat.min_eq_left (by omega)], .inr ⟨g, cap, cur, rfl, hb, hg, by omega, hmx, hs, ?_⟩⟩
    have e1 : wflat L = wflat (L.take m) ++ wflat (L.drop m) := by rw [← wflat_app, List.take_append_drop]
    have e2 : (wflat (L.take m)).length = m * 10 := by rw [wflat_len, List.length_take, Nat.min_eq_left (by omega)]
    have e : wflat (L.take m) = (wflat L).take (m * 10) := by rw [e1, ← e2, List.take_left]
    rw [e, ← ht, List.take_take, Nat.min_eq_left (by omega)]
theorem wrow_set {w : World} {base g n cap : Nat} {L : List Wy} (h : WRow w base g n cap L) {k : Nat} (hk : k < n) (v : Wy) : WRow (w.setCells g (k * 10) v.vals) base g n cap (L.set k v) := by
  have hl := wrow_len h
  have := row_setL v.vals (k * 10) h
  rw [wflat_set (by omega)] at this
  exact this
end Go.Proofs.YtjlfibhbfdckpaaGreatDoor
