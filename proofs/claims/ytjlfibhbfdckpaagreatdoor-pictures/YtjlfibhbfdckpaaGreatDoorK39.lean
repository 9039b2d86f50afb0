/- Texts of the proof, one behind the other: RdQ. -/
import Derived.Test.YtjlfibhbfdckpaaGreatDoorK38
import Derived.Deep.RegionWith
/- The document's desk: letters. -/
namespace Go.Proofs.YtjlfibhbfdckpaaGreatDoor
open Go.RowKit
open Wd (wd)
attribute [local go_sem ↓] Go.wp_at_zero Go.wp_at_succ
set_option maxRecDepth 10000 in
set_option maxHeartbeats 8000000 in
theorem rdLetters (s : ByteArray) (w : World) (hs : s.size ≤ 200) :
    Calls Tryz.prog 82 #[.string s] w fun e w' => ∃ v, e = .returned v ∧ w'.ownsRow w.heap.size 21 1 v (runesG s s.size 0).length (rvals (runesG s s.size 0)) ∧ (runesG s s.size 0).length ≤ 200 ∧ Below w.heap.size w w' := by
  go_enter Tryz.func82, Tryz.ntmps82
  go_wp2_with fail
  go_loopw [3, 4] (fun u i w' => ∃ (pos f : Nat) (rs : List Int), i = .int .i64 pos ∧ Let s w u pos f rs w') (fun _ i _ => s.size - (intOf i).toNat)
  case atStart => exact ⟨0, s.size, [], rfl, ⟨by omega, World.ownsRow_nil _ _ _ _, rfl, by omega, by simp, Below.refl _ _⟩⟩
  case round =>
    obtain ⟨pos, f, rs, rfl, hL⟩ := hrel
    generalize u3 = u at *
    have HL : Hid (Let s w u pos f rs wr) := hL
    by_cases hlt : pos < s.size
    · have ha : s[pos].toNat < 256 := s[pos].toNat_lt
      have hlt' : (pos : Int) < (s.size : Int) := by omega
      have HR : Hid (wr.ownsRow w.heap.size 21 1 u rs.length (rvals rs)) := hL.row
      have hB : Below w.heap.size w wr := hL.bel
      have hrs : rs.length ≤ 200 := by have := hL.short; omega
      have e0 : (s.get! pos).toNat = s[pos].toNat := by rw [get_bang s pos hlt]
      have E0 : Hid ((s.get! pos).toNat = s[pos].toNat) := e0
      clear hL e0
      by_cases h0 : (s[pos].toNat : Int) < 128
      · have hd : Hid (((Utf8.decode s pos).1 : Int) = (s[pos].toNat : Int) ∧ (Utf8.decode s pos).2 = 1) := by
          show _ ∧ _
          rw [dec_at s pos _ _ _ _ _ rfl E0.out rfl rfl rfl, dec_ascii (by omega)]
          exact ⟨rfl, rfl⟩
        go_wp2_with (first | (go_at_call 134; refine (refLong _ _ (by omega) (by omega)).mono ?_; rintro e w' ⟨rfl, hw'⟩; replace hw' := hw'.symm; subst hw'))
        refine wp_loop_rounds 1 ?_
        rw [rounds_succ]
        go_wp2_with (first | fail)
        go_at_call 65
        refine (Wd.refWidth ((s[pos].toNat : Int)) _ (by omega) (by omega)).mono ?_
        rintro e w2 ⟨rfl, b2⟩
        have HR2 : Hid (w2.ownsRow w.heap.size 21 1 u rs.length (rvals rs)) := irow_same HR.out (fun i hi => b2.block _ (HR.out.lt i hi).2)
        have B2 : Below w.heap.size w w2 := hB.trans (b2.mono hB.size)
        have s2 := B2.size
        clear b2 hB HR
        by_cases hz : wd ((s[pos].toNat : Int)) = 0
        · have hsn : Hid (seenR ((s[pos].toNat : Int)) = 65533) := if_pos hz
          go_wp2_with (first | (at_builtin; refine list_append_rune _ (by rfl) (.tmp 75) (.tmp 77) (by rfl) w.heap.size u rs (65533) rs.length rfl (by rfl) (irow_same HR2.out (fun i hi => Below.heap_alloc _ _ _ (HR2.out.lt i hi).2)) w2.heap.size (by rfl) (heap_new' _ _ _ (by simp)) (by omega) (by simp; omega) ?_; intro g7 cap7 w7 hr7 hg7 ho7 hl7))
          have B7 : Below w.heap.size w w7 := (B2.alloc B2.size _).grown hg7 (by simp; omega) (fun i hi => (HR2.out.lt i hi).1)
          have HF : Hid (∃ f' rs', Let s w (.slice (some ⟨g7, 0, none⟩) (rs.length + 1) cap7) (pos + 1) f' rs' w7) := HL.out.step hlt hd.out (by rw [hsn.out]; exact hr7) B7 (by omega)
          clear hr7 hg7 ho7 B7 hsn
          go_wp2_with fail
          go_roundw
          case rel =>
            obtain ⟨f', rs', h⟩ := HF.out
            exact ⟨pos + 1, f', rs', by go_num, h⟩
          case measure => simp [intOf]; omega
        · have hsn : Hid (seenR ((s[pos].toNat : Int)) = (s[pos].toNat : Int)) := if_neg hz
          go_wp2_with (first | (at_builtin; refine list_append_rune _ (by rfl) (.tmp 75) (.tmp 77) (by rfl) w.heap.size u rs ((s[pos].toNat : Int)) rs.length rfl (by rfl) (irow_same HR2.out (fun i hi => Below.heap_alloc _ _ _ (HR2.out.lt i hi).2)) w2.heap.size (by rfl) (heap_new' _ _ _ (by simp)) (by omega) (by simp; omega) ?_; intro g7 cap7 w7 hr7 hg7 ho7 hl7))
          have B7 : Below w.heap.size w w7 := (B2.alloc B2.size _).grown hg7 (by simp; omega) (fun i hi => (HR2.out.lt i hi).1)
          have HF : Hid (∃ f' rs', Let s w (.slice (some ⟨g7, 0, none⟩) (rs.length + 1) cap7) (pos + 1) f' rs' w7) := HL.out.step hlt hd.out (by rw [hsn.out]; exact hr7) B7 (by omega)
          clear hr7 hg7 ho7 B7 hsn
          go_wp2_with fail
          go_roundw
          case rel =>
            obtain ⟨f', rs', h⟩ := HF.out
            exact ⟨pos + 1, f', rs', by go_num, h⟩
          case measure => simp [intOf]; omega
      have h0' : 128 ≤ s[pos].toNat := by omega
      rcases longR_cases s[pos] h0' with ⟨hl, hc⟩ | ⟨hl, hc1, hc2⟩ | ⟨hl, hc1, hc2⟩ | ⟨hl, hc1, hc2⟩
      · have hd : Hid (((Utf8.decode s pos).1 : Int) = 65533 ∧ (Utf8.decode s pos).2 = 1) := by
          show _ ∧ _
          rw [dec_at s pos _ _ _ _ _ rfl E0.out rfl rfl rfl, dec_none h0' hc ha]
          exact ⟨rfl, rfl⟩
        clear hc
        go_wp2_with (first | (go_at_call 134; refine (refLong _ _ (by omega) (by omega)).mono ?_; rintro e w' ⟨rfl, hw'⟩; replace hw' := hw'.symm; subst hw'))
        refine wp_loop_rounds 1 ?_
        rw [rounds_succ]
        go_wp2_with (first | fail)
        go_at_call 65
        refine (Wd.refWidth (65533) _ (by omega) (by omega)).mono ?_
        rintro e w2 ⟨rfl, b2⟩
        have HR2 : Hid (w2.ownsRow w.heap.size 21 1 u rs.length (rvals rs)) := irow_same HR.out (fun i hi => b2.block _ (HR.out.lt i hi).2)
        have B2 : Below w.heap.size w w2 := hB.trans (b2.mono hB.size)
        have s2 := B2.size
        clear b2 hB HR
        by_cases hz : wd (65533) = 0
        · have hsn : Hid (seenR (65533) = 65533) := if_pos hz
          go_wp2_with (first | (at_builtin; refine list_append_rune _ (by rfl) (.tmp 75) (.tmp 77) (by rfl) w.heap.size u rs (65533) rs.length rfl (by rfl) (irow_same HR2.out (fun i hi => Below.heap_alloc _ _ _ (HR2.out.lt i hi).2)) w2.heap.size (by rfl) (heap_new' _ _ _ (by simp)) (by omega) (by simp; omega) ?_; intro g7 cap7 w7 hr7 hg7 ho7 hl7))
          have B7 : Below w.heap.size w w7 := (B2.alloc B2.size _).grown hg7 (by simp; omega) (fun i hi => (HR2.out.lt i hi).1)
          have HF : Hid (∃ f' rs', Let s w (.slice (some ⟨g7, 0, none⟩) (rs.length + 1) cap7) (pos + 1) f' rs' w7) := HL.out.step hlt hd.out (by rw [hsn.out]; exact hr7) B7 (by omega)
          clear hr7 hg7 ho7 B7 hsn
          go_wp2_with fail
          go_roundw
          case rel =>
            obtain ⟨f', rs', h⟩ := HF.out
            exact ⟨pos + 1, f', rs', by go_num, h⟩
          case measure => simp [intOf]; omega
        · have hsn : Hid (seenR (65533) = 65533) := if_neg hz
          go_wp2_with (first | (at_builtin; refine list_append_rune _ (by rfl) (.tmp 75) (.tmp 77) (by rfl) w.heap.size u rs (65533) rs.length rfl (by rfl) (irow_same HR2.out (fun i hi => Below.heap_alloc _ _ _ (HR2.out.lt i hi).2)) w2.heap.size (by rfl) (heap_new' _ _ _ (by simp)) (by omega) (by simp; omega) ?_; intro g7 cap7 w7 hr7 hg7 ho7 hl7))
          have B7 : Below w.heap.size w w7 := (B2.alloc B2.size _).grown hg7 (by simp; omega) (fun i hi => (HR2.out.lt i hi).1)
          have HF : Hid (∃ f' rs', Let s w (.slice (some ⟨g7, 0, none⟩) (rs.length + 1) cap7) (pos + 1) f' rs' w7) := HL.out.step hlt hd.out (by rw [hsn.out]; exact hr7) B7 (by omega)
          clear hr7 hg7 ho7 B7 hsn
          go_wp2_with fail
          go_roundw
          case rel =>
            obtain ⟨f', rs', h⟩ := HF.out
            exact ⟨pos + 1, f', rs', by go_num, h⟩
          case measure => simp [intOf]; omega
      · by_cases hn : pos + 2 ≤ s.size
        · have hn' : (pos : Int) + 2 ≤ (s.size : Int) := by omega
          have p1 : pos + 1 < s.size := by omega
          have l1 : s[pos + 1].toNat < 256 := s[pos + 1].toNat_lt
          have E1 : Hid ((s.get! (pos + 1)).toNat = s[pos + 1].toNat) := by show _ = _; rw [get_bang s (pos + 1) p1]
          have x1 := ext1 s pos (by omega)
          have x2 := ext2 s pos (by omega)
          have q1a : (0 : Int) ≤ (pos : Int) + 1 := by omega
          have q1b : (pos : Int) ≤ (pos : Int) + 1 := by omega
          have q1t : ((pos : Int) + 1).toNat = pos + 1 := by omega
          have q1c : (pos : Int) + 1 ≤ (s.size : Int) := by omega
          have q1d : (pos : Int) + 1 < (s.size : Int) := by omega
          have q2a : (0 : Int) ≤ (pos : Int) + 2 := by omega
          have q2b : (pos : Int) ≤ (pos : Int) + 2 := by omega
          have q2t : ((pos : Int) + 2).toNat = pos + 2 := by omega
          by_cases g1 : goesOnB [s[pos]] s[pos + 1].toNat = true
          · have g1' : lowR s[pos].toNat ≤ s[pos + 1].toNat ∧ (s[pos + 1].toNat : Int) ≤ highR s[pos].toNat := by simpa [goesOnB] using g1
            unfold lowR highR at g1'
            have m1 : 128 ≤ s[pos + 1].toNat ∧ s[pos + 1].toNat ≤ 191 := by split at g1' <;> split at g1' <;> omega
            have hv : Hid (letterR [s[pos], s[pos + 1]] = 64 * ((s[pos].toNat : Int) - 192) + s[pos + 1].toNat - 128) := rfl
            have rb1 : -2147483648 ≤ letterR [s[pos], s[pos + 1]] := by have := hv.out; omega
            have rb2 : letterR [s[pos], s[pos + 1]] ≤ 2147483647 := by have := hv.out; omega
            have hd : Hid (((Utf8.decode s pos).1 : Int) = letterR [s[pos], s[pos + 1]] ∧ (Utf8.decode s pos).2 = 2) := by
              show _ ∧ _
              rw [dec_at s pos _ _ _ _ _ rfl E0.out E1.out rfl rfl, dec_two (by omega) (by omega) (by omega) (by omega) (by omega)]
              exact ⟨by rw [hv.out]; simp only []; omega, rfl⟩
            clear g1'
            go_wp2_with (first | (go_at_call 134; refine (refLong _ _ (by omega) (by omega)).mono ?_; rintro e w' ⟨rfl, hw'⟩; replace hw' := hw'.symm; subst hw'))
            refine wp_loop_rounds 2 ?_
            rw [rounds_succ]
            go_wp2_with fail
            go_region_with (first | (go_at_call 135; refine (refGoesOn1 _ _ _ (by omega) (by omega)).mono ?_; rintro e w' ⟨rfl, hw'⟩; subst hw'))
            replace HR : Hid (wr.drew.ownsRow w.heap.size 21 1 u rs.length (rvals rs)) := HR.out
            replace hB : Below w.heap.size w wr.drew := hB.trans ((below_drewN wr 1).mono hB.size)
            generalize wr.drew = wd0 at *
            go_wp2_with fail
            rw [rounds_succ]
            go_wp2_with (first | (go_at_call 136; refine (refLetter2 _ _ _ (by omega) (by omega) (by omega) (by omega)).mono ?_; rintro e w' ⟨rfl, hw'⟩; replace hw' := hw'.symm; subst hw') | fail)
            go_at_call 65
            refine (Wd.refWidth (letterR [s[pos], s[pos + 1]]) _ (by omega) (by omega)).mono ?_
            rintro e w2 ⟨rfl, b2⟩
            have HR2 : Hid (w2.ownsRow w.heap.size 21 1 u rs.length (rvals rs)) := irow_same HR.out (fun i hi => b2.block _ (HR.out.lt i hi).2)
            have B2 : Below w.heap.size w w2 := hB.trans (b2.mono hB.size)
            have s2 := B2.size
            clear b2 hB HR
            by_cases hz : wd (letterR [s[pos], s[pos + 1]]) = 0
            · have hsn : Hid (seenR (letterR [s[pos], s[pos + 1]]) = 65533) := if_pos hz
              go_wp2_with (first | (at_builtin; refine list_append_rune _ (by rfl) (.tmp 75) (.tmp 77) (by rfl) w.heap.size u rs (65533) rs.length rfl (by rfl) (irow_same HR2.out (fun i hi => Below.heap_alloc _ _ _ (HR2.out.lt i hi).2)) w2.heap.size (by rfl) (heap_new' _ _ _ (by simp)) (by omega) (by simp; omega) ?_; intro g7 cap7 w7 hr7 hg7 ho7 hl7))
              have B7 : Below w.heap.size w w7 := (B2.alloc B2.size _).grown hg7 (by simp; omega) (fun i hi => (HR2.out.lt i hi).1)
              have HF : Hid (∃ f' rs', Let s w (.slice (some ⟨g7, 0, none⟩) (rs.length + 1) cap7) (pos + 2) f' rs' w7) := HL.out.step hlt hd.out (by rw [hsn.out]; exact hr7) B7 (by omega)
              clear hr7 hg7 ho7 B7 hsn
              go_wp2_with fail
              go_roundw
              case rel =>
                obtain ⟨f', rs', h⟩ := HF.out
                exact ⟨pos + 2, f', rs', by go_num, h⟩
              case measure => simp [intOf]; omega
            · have hsn : Hid (seenR (letterR [s[pos], s[pos + 1]]) = letterR [s[pos], s[pos + 1]]) := if_neg hz
              go_wp2_with (first | (at_builtin; refine list_append_rune _ (by rfl) (.tmp 75) (.tmp 77) (by rfl) w.heap.size u rs (letterR [s[pos], s[pos + 1]]) rs.length rfl (by rfl) (irow_same HR2.out (fun i hi => Below.heap_alloc _ _ _ (HR2.out.lt i hi).2)) w2.heap.size (by rfl) (heap_new' _ _ _ (by simp)) (by omega) (by simp; omega) ?_; intro g7 cap7 w7 hr7 hg7 ho7 hl7))
              have B7 : Below w.heap.size w w7 := (B2.alloc B2.size _).grown hg7 (by simp; omega) (fun i hi => (HR2.out.lt i hi).1)
              have HF : Hid (∃ f' rs', Let s w (.slice (some ⟨g7, 0, none⟩) (rs.length + 1) cap7) (pos + 2) f' rs' w7) := HL.out.step hlt hd.out (by rw [hsn.out]; exact hr7) B7 (by omega)
              clear hr7 hg7 ho7 B7 hsn
              go_wp2_with fail
              go_roundw
              case rel =>
                obtain ⟨f', rs', h⟩ := HF.out
                exact ⟨pos + 2, f', rs', by go_num, h⟩
              case measure => simp [intOf]; omega
          · have g1f : goesOnB [s[pos]] s[pos + 1].toNat = false := by simpa using g1
            have m1 : s[pos + 1].toNat < 128 ∨ 191 < s[pos + 1].toNat := by
              have q : ¬ (lowR s[pos].toNat ≤ s[pos + 1].toNat ∧ (s[pos + 1].toNat : Int) ≤ highR s[pos].toNat) := by simpa [goesOnB] using g1
              unfold lowR highR at q
              rw [if_neg (by omega), if_neg (by omega), if_neg (by omega), if_neg (by omega)] at q
              omega
            have hd : Hid (((Utf8.decode s pos).1 : Int) = 65533 ∧ (Utf8.decode s pos).2 = 1) := by
              show _ ∧ _
              rw [dec_at s pos _ _ _ _ _ rfl E0.out E1.out rfl rfl, dec_short2 (by omega) (by omega) (.inr m1)]
              exact ⟨rfl, rfl⟩
            clear g1
            go_wp2_with (first | (go_at_call 134; refine (refLong _ _ (by omega) (by omega)).mono ?_; rintro e w' ⟨rfl, hw'⟩; replace hw' := hw'.symm; subst hw'))
            refine wp_loop_rounds 2 ?_
            rw [rounds_succ]
            go_wp2_with fail
            go_region_with (first | (go_at_call 135; refine (refGoesOn1 _ _ _ (by omega) (by omega)).mono ?_; rintro e w' ⟨rfl, hw'⟩; subst hw'))
            replace HR : Hid (wr.drew.ownsRow w.heap.size 21 1 u rs.length (rvals rs)) := HR.out
            replace hB : Below w.heap.size w wr.drew := hB.trans ((below_drewN wr 1).mono hB.size)
            generalize wr.drew = wd0 at *
            go_wp2_with fail
            rw [rounds_succ]
            go_wp2_with (first | fail)
            go_at_call 65
            refine (Wd.refWidth (65533) _ (by omega) (by omega)).mono ?_
            rintro e w2 ⟨rfl, b2⟩
            have HR2 : Hid (w2.ownsRow w.heap.size 21 1 u rs.length (rvals rs)) := irow_same HR.out (fun i hi => b2.block _ (HR.out.lt i hi).2)
            have B2 : Below w.heap.size w w2 := hB.trans (b2.mono hB.size)
            have s2 := B2.size
            clear b2 hB HR
            by_cases hz : wd (65533) = 0
            · have hsn : Hid (seenR (65533) = 65533) := if_pos hz
              go_wp2_with (first | (at_builtin; refine list_append_rune _ (by rfl) (.tmp 75) (.tmp 77) (by rfl) w.heap.size u rs (65533) rs.length rfl (by rfl) (irow_same HR2.out (fun i hi => Below.heap_alloc _ _ _ (HR2.out.lt i hi).2)) w2.heap.size (by rfl) (heap_new' _ _ _ (by simp)) (by omega) (by simp; omega) ?_; intro g7 cap7 w7 hr7 hg7 ho7 hl7))
              have B7 : Below w.heap.size w w7 := (B2.alloc B2.size _).grown hg7 (by simp; omega) (fun i hi => (HR2.out.lt i hi).1)
              have HF : Hid (∃ f' rs', Let s w (.slice (some ⟨g7, 0, none⟩) (rs.length + 1) cap7) (pos + 1) f' rs' w7) := HL.out.step hlt hd.out (by rw [hsn.out]; exact hr7) B7 (by omega)
              clear hr7 hg7 ho7 B7 hsn
              go_wp2_with fail
              go_roundw
              case rel =>
                obtain ⟨f', rs', h⟩ := HF.out
                exact ⟨pos + 1, f', rs', by go_num, h⟩
              case measure => simp [intOf]; omega
            · have hsn : Hid (seenR (65533) = 65533) := if_neg hz
              go_wp2_with (first | (at_builtin; refine list_append_rune _ (by rfl) (.tmp 75) (.tmp 77) (by rfl) w.heap.size u rs (65533) rs.length rfl (by rfl) (irow_same HR2.out (fun i hi => Below.heap_alloc _ _ _ (HR2.out.lt i hi).2)) w2.heap.size (by rfl) (heap_new' _ _ _ (by simp)) (by omega) (by simp; omega) ?_; intro g7 cap7 w7 hr7 hg7 ho7 hl7))
              have B7 : Below w.heap.size w w7 := (B2.alloc B2.size _).grown hg7 (by simp; omega) (fun i hi => (HR2.out.lt i hi).1)
              have HF : Hid (∃ f' rs', Let s w (.slice (some ⟨g7, 0, none⟩) (rs.length + 1) cap7) (pos + 1) f' rs' w7) := HL.out.step hlt hd.out (by rw [hsn.out]; exact hr7) B7 (by omega)
              clear hr7 hg7 ho7 B7 hsn
              go_wp2_with fail
              go_roundw
              case rel =>
                obtain ⟨f', rs', h⟩ := HF.out
                exact ⟨pos + 1, f', rs', by go_num, h⟩
              case measure => simp [intOf]; omega
        · have hn' : ¬ (pos : Int) + 2 ≤ (s.size : Int) := by omega
          have hd : Hid (((Utf8.decode s pos).1 : Int) = 65533 ∧ (Utf8.decode s pos).2 = 1) := by
            show _ ∧ _
            rw [dec_at s pos _ _ _ _ _ rfl E0.out rfl rfl rfl, dec_short2 (by omega) (by omega) (.inl (by omega))]
            exact ⟨rfl, rfl⟩
          go_wp2_with (first | (go_at_call 134; refine (refLong _ _ (by omega) (by omega)).mono ?_; rintro e w' ⟨rfl, hw'⟩; replace hw' := hw'.symm; subst hw'))
          refine wp_loop_rounds 1 ?_
          rw [rounds_succ]
          go_wp2_with (first | fail)
          go_at_call 65
          refine (Wd.refWidth (65533) _ (by omega) (by omega)).mono ?_
          rintro e w2 ⟨rfl, b2⟩
          have HR2 : Hid (w2.ownsRow w.heap.size 21 1 u rs.length (rvals rs)) := irow_same HR.out (fun i hi => b2.block _ (HR.out.lt i hi).2)
          have B2 : Below w.heap.size w w2 := hB.trans (b2.mono hB.size)
          have s2 := B2.size
          clear b2 hB HR
          by_cases hz : wd (65533) = 0
          · have hsn : Hid (seenR (65533) = 65533) := if_pos hz
            go_wp2_with (first | (at_builtin; refine list_append_rune _ (by rfl) (.tmp 75) (.tmp 77) (by rfl) w.heap.size u rs (65533) rs.length rfl (by rfl) (irow_same HR2.out (fun i hi => Below.heap_alloc _ _ _ (HR2.out.lt i hi).2)) w2.heap.size (by rfl) (heap_new' _ _ _ (by simp)) (by omega) (by simp; omega) ?_; intro g7 cap7 w7 hr7 hg7 ho7 hl7))
            have B7 : Below w.heap.size w w7 := (B2.alloc B2.size _).grown hg7 (by simp; omega) (fun i hi => (HR2.out.lt i hi).1)
            have HF : Hid (∃ f' rs', Let s w (.slice (some ⟨g7, 0, none⟩) (rs.length + 1) cap7) (pos + 1) f' rs' w7) := HL.out.step hlt hd.out (by rw [hsn.out]; exact hr7) B7 (by omega)
            clear hr7 hg7 ho7 B7 hsn
            go_wp2_with fail
            go_roundw
            case rel =>
              obtain ⟨f', rs', h⟩ := HF.out
              exact ⟨pos + 1, f', rs', by go_num, h⟩
            case measure => simp [intOf]; omega
          · have hsn : Hid (seenR (65533) = 65533) := if_neg hz
            go_wp2_with (first | (at_builtin; refine list_append_rune _ (by rfl) (.tmp 75) (.tmp 77) (by rfl) w.heap.size u rs (65533) rs.length rfl (by rfl) (irow_same HR2.out (fun i hi => Below.heap_alloc _ _ _ (HR2.out.lt i hi).2)) w2.heap.size (by rfl) (heap_new' _ _ _ (by simp)) (by omega) (by simp; omega) ?_; intro g7 cap7 w7 hr7 hg7 ho7 hl7))
            have B7 : Below w.heap.size w w7 := (B2.alloc B2.size _).grown hg7 (by simp; omega) (fun i hi => (HR2.out.lt i hi).1)
            have HF : Hid (∃ f' rs', Let s w (.slice (some ⟨g7, 0, none⟩) (rs.length + 1) cap7) (pos + 1) f' rs' w7) := HL.out.step hlt hd.out (by rw [hsn.out]; exact hr7) B7 (by omega)
            clear hr7 hg7 ho7 B7 hsn
            go_wp2_with fail
            go_roundw
            case rel =>
              obtain ⟨f', rs', h⟩ := HF.out
              exact ⟨pos + 1, f', rs', by go_num, h⟩
            case measure => simp [intOf]; omega
      · by_cases hn : pos + 3 ≤ s.size
        · have hn' : (pos : Int) + 3 ≤ (s.size : Int) := by omega
          have p1 : pos + 1 < s.size := by omega
          have l1 : s[pos + 1].toNat < 256 := s[pos + 1].toNat_lt
          have E1 : Hid ((s.get! (pos + 1)).toNat = s[pos + 1].toNat) := by show _ = _; rw [get_bang s (pos + 1) p1]
          have p2 : pos + 2 < s.size := by omega
          have l2 : s[pos + 2].toNat < 256 := s[pos + 2].toNat_lt
          have E2 : Hid ((s.get! (pos + 2)).toNat = s[pos + 2].toNat) := by show _ = _; rw [get_bang s (pos + 2) p2]
          have x1 := ext1 s pos (by omega)
          have x2 := ext2 s pos (by omega)
          have x3 := ext3 s pos (by omega)
          have q1a : (0 : Int) ≤ (pos : Int) + 1 := by omega
          have q1b : (pos : Int) ≤ (pos : Int) + 1 := by omega
          have q1t : ((pos : Int) + 1).toNat = pos + 1 := by omega
          have q1c : (pos : Int) + 1 ≤ (s.size : Int) := by omega
          have q1d : (pos : Int) + 1 < (s.size : Int) := by omega
          have q2a : (0 : Int) ≤ (pos : Int) + 2 := by omega
          have q2b : (pos : Int) ≤ (pos : Int) + 2 := by omega
          have q2t : ((pos : Int) + 2).toNat = pos + 2 := by omega
          have q2c : (pos : Int) + 2 ≤ (s.size : Int) := by omega
          have q2d : (pos : Int) + 2 < (s.size : Int) := by omega
          have r2a : (0 : Int) ≤ (pos : Int) + 1 + 1 := by omega
          have r2b : (pos : Int) ≤ (pos : Int) + 1 + 1 := by omega
          have r2t : ((pos : Int) + 1 + 1).toNat = pos + 2 := by omega
          have r2c : (pos : Int) + 1 + 1 ≤ (s.size : Int) := by omega
          have r2d : (pos : Int) + 1 + 1 < (s.size : Int) := by omega
          have q3a : (0 : Int) ≤ (pos : Int) + 3 := by omega
          have q3b : (pos : Int) ≤ (pos : Int) + 3 := by omega
          have q3t : ((pos : Int) + 3).toNat = pos + 3 := by omega
          by_cases g1 : goesOnB [s[pos]] s[pos + 1].toNat = true
          · have g1' : lowR s[pos].toNat ≤ s[pos + 1].toNat ∧ (s[pos + 1].toNat : Int) ≤ highR s[pos].toNat := by simpa [goesOnB] using g1
            unfold lowR highR at g1'
            have m1 : (if s[pos].toNat = 224 then 160 else 128) ≤ s[pos + 1].toNat ∧ s[pos + 1].toNat ≤ (if s[pos].toNat = 237 then 159 else 191) := by
              repeat' split at g1'
              all_goals (repeat' split) <;> omega
            have m1a : 128 ≤ s[pos + 1].toNat ∧ s[pos + 1].toNat ≤ 191 := by
              repeat' split at m1
              all_goals omega
            clear g1'
            by_cases g2 : 128 ≤ s[pos + 2].toNat ∧ s[pos + 2].toNat ≤ 191
            · have g2t : goesOnB [s[pos], s[pos + 1]] s[pos + 2].toNat = true := by simp [goesOnB]; omega
              have hv : Hid (letterR [s[pos], s[pos + 1], s[pos + 2]] = 64 * (64 * ((s[pos].toNat : Int) - 224) + s[pos + 1].toNat - 128) + s[pos + 2].toNat - 128) := rfl
              have rb1 : -2147483648 ≤ letterR [s[pos], s[pos + 1], s[pos + 2]] := by have := hv.out; omega
              have rb2 : letterR [s[pos], s[pos + 1], s[pos + 2]] ≤ 2147483647 := by have := hv.out; omega
              have hd : Hid (((Utf8.decode s pos).1 : Int) = letterR [s[pos], s[pos + 1], s[pos + 2]] ∧ (Utf8.decode s pos).2 = 3) := by
                show _ ∧ _
                rw [dec_at s pos _ _ _ _ _ rfl E0.out E1.out E2.out rfl, dec_three (by omega) (by omega) (by omega) m1.1 m1.2 g2.1 g2.2]
                exact ⟨by rw [hv.out]; simp only []; omega, rfl⟩
              clear m1
              go_wp2_with (first | (go_at_call 134; refine (refLong _ _ (by omega) (by omega)).mono ?_; rintro e w' ⟨rfl, hw'⟩; replace hw' := hw'.symm; subst hw'))
              refine wp_loop_rounds 3 ?_
              rw [rounds_succ]
              go_wp2_with fail
              go_region_with (first | (go_at_call 135; refine (refGoesOn1 _ _ _ (by omega) (by omega)).mono ?_; rintro e w' ⟨rfl, hw'⟩; subst hw'))
              replace HR : Hid (wr.drew.ownsRow w.heap.size 21 1 u rs.length (rvals rs)) := HR.out
              replace hB : Below w.heap.size w wr.drew := hB.trans ((below_drewN wr 1).mono hB.size)
              generalize wr.drew = wd0 at *
              go_wp2_with fail
              rw [rounds_succ]
              go_wp2_with fail
              go_region_with (first | (go_at_call 135; refine (refGoesOn2 _ _ _ _ (by omega) (by omega)).mono ?_; rintro e w' ⟨rfl, hw'⟩; subst hw'))
              replace HR : Hid (wd0.drew.ownsRow w.heap.size 21 1 u rs.length (rvals rs)) := HR.out
              replace hB : Below w.heap.size w wd0.drew := hB.trans ((below_drewN wd0 1).mono hB.size)
              generalize wd0.drew = wd1 at *
              go_wp2_with fail
              rw [rounds_succ]
              go_wp2_with (first | (go_at_call 136; refine (refLetter3 _ _ _ _ (by omega) (by omega) (by omega) (by omega) (by omega) (by omega)).mono ?_; rintro e w' ⟨rfl, hw'⟩; replace hw' := hw'.symm; subst hw') | fail)
              go_at_call 65
              refine (Wd.refWidth (letterR [s[pos], s[pos + 1], s[pos + 2]]) _ (by omega) (by omega)).mono ?_
              rintro e w2 ⟨rfl, b2⟩
              have HR2 : Hid (w2.ownsRow w.heap.size 21 1 u rs.length (rvals rs)) := irow_same HR.out (fun i hi => b2.block _ (HR.out.lt i hi).2)
              have B2 : Below w.heap.size w w2 := hB.trans (b2.mono hB.size)
              have s2 := B2.size
              clear b2 hB HR
              by_cases hz : wd (letterR [s[pos], s[pos + 1], s[pos + 2]]) = 0
              · have hsn : Hid (seenR (letterR [s[pos], s[pos + 1], s[pos + 2]]) = 65533) := if_pos hz
                go_wp2_with (first | (at_builtin; refine list_append_rune _ (by rfl) (.tmp 75) (.tmp 77) (by rfl) w.heap.size u rs (65533) rs.length rfl (by rfl) (irow_same HR2.out (fun i hi => Below.heap_alloc _ _ _ (HR2.out.lt i hi).2)) w2.heap.size (by rfl) (heap_new' _ _ _ (by simp)) (by omega) (by simp; omega) ?_; intro g7 cap7 w7 hr7 hg7 ho7 hl7))
                have B7 : Below w.heap.size w w7 := (B2.alloc B2.size _).grown hg7 (by simp; omega) (fun i hi => (HR2.out.lt i hi).1)
                have HF : Hid (∃ f' rs', Let s w (.slice (some ⟨g7, 0, none⟩) (rs.length + 1) cap7) (pos + 3) f' rs' w7) := HL.out.step hlt hd.out (by rw [hsn.out]; exact hr7) B7 (by omega)
                clear hr7 hg7 ho7 B7 hsn
                go_wp2_with fail
                go_roundw
                case rel =>
                  obtain ⟨f', rs', h⟩ := HF.out
                  exact ⟨pos + 3, f', rs', by go_num, h⟩
                case measure => simp [intOf]; omega
              · have hsn : Hid (seenR (letterR [s[pos], s[pos + 1], s[pos + 2]]) = letterR [s[pos], s[pos + 1], s[pos + 2]]) := if_neg hz
                go_wp2_with (first | (at_builtin; refine list_append_rune _ (by rfl) (.tmp 75) (.tmp 77) (by rfl) w.heap.size u rs (letterR [s[pos], s[pos + 1], s[pos + 2]]) rs.length rfl (by rfl) (irow_same HR2.out (fun i hi => Below.heap_alloc _ _ _ (HR2.out.lt i hi).2)) w2.heap.size (by rfl) (heap_new' _ _ _ (by simp)) (by omega) (by simp; omega) ?_; intro g7 cap7 w7 hr7 hg7 ho7 hl7))
                have B7 : Below w.heap.size w w7 := (B2.alloc B2.size _).grown hg7 (by simp; omega) (fun i hi => (HR2.out.lt i hi).1)
                have HF : Hid (∃ f' rs', Let s w (.slice (some ⟨g7, 0, none⟩) (rs.length + 1) cap7) (pos + 3) f' rs' w7) := HL.out.step hlt hd.out (by rw [hsn.out]; exact hr7) B7 (by omega)
                clear hr7 hg7 ho7 B7 hsn
                go_wp2_with fail
                go_roundw
                case rel =>
                  obtain ⟨f', rs', h⟩ := HF.out
                  exact ⟨pos + 3, f', rs', by go_num, h⟩
                case measure => simp [intOf]; omega
            · have g2f : goesOnB [s[pos], s[pos + 1]] s[pos + 2].toNat = false := by simp [goesOnB]; omega
              have m2 : s[pos + 2].toNat < 128 ∨ 191 < s[pos + 2].toNat := by omega
              have hd : Hid (((Utf8.decode s pos).1 : Int) = 65533 ∧ (Utf8.decode s pos).2 = 1) := by
                show _ ∧ _
                rw [dec_at s pos _ _ _ _ _ rfl E0.out E1.out E2.out rfl, dec_short3 (by omega) (by omega) (.inr (.inr (.inr m2)))]
                exact ⟨rfl, rfl⟩
              clear m1 g2
              go_wp2_with (first | (go_at_call 134; refine (refLong _ _ (by omega) (by omega)).mono ?_; rintro e w' ⟨rfl, hw'⟩; replace hw' := hw'.symm; subst hw'))
              refine wp_loop_rounds 3 ?_
              rw [rounds_succ]
              go_wp2_with fail
              go_region_with (first | (go_at_call 135; refine (refGoesOn1 _ _ _ (by omega) (by omega)).mono ?_; rintro e w' ⟨rfl, hw'⟩; subst hw'))
              replace HR : Hid (wr.drew.ownsRow w.heap.size 21 1 u rs.length (rvals rs)) := HR.out
              replace hB : Below w.heap.size w wr.drew := hB.trans ((below_drewN wr 1).mono hB.size)
              generalize wr.drew = wd0 at *
              go_wp2_with fail
              rw [rounds_succ]
              go_wp2_with fail
              go_region_with (first | (go_at_call 135; refine (refGoesOn2 _ _ _ _ (by omega) (by omega)).mono ?_; rintro e w' ⟨rfl, hw'⟩; subst hw'))
              replace HR : Hid (wd0.drew.ownsRow w.heap.size 21 1 u rs.length (rvals rs)) := HR.out
              replace hB : Below w.heap.size w wd0.drew := hB.trans ((below_drewN wd0 1).mono hB.size)
              generalize wd0.drew = wd1 at *
              go_wp2_with fail
              rw [rounds_succ]
              go_wp2_with (first | fail)
              go_at_call 65
              refine (Wd.refWidth (65533) _ (by omega) (by omega)).mono ?_
              rintro e w2 ⟨rfl, b2⟩
              have HR2 : Hid (w2.ownsRow w.heap.size 21 1 u rs.length (rvals rs)) := irow_same HR.out (fun i hi => b2.block _ (HR.out.lt i hi).2)
              have B2 : Below w.heap.size w w2 := hB.trans (b2.mono hB.size)
              have s2 := B2.size
              clear b2 hB HR
              by_cases hz : wd (65533) = 0
              · have hsn : Hid (seenR (65533) = 65533) := if_pos hz
                go_wp2_with (first | (at_builtin; refine list_append_rune _ (by rfl) (.tmp 75) (.tmp 77) (by rfl) w.heap.size u rs (65533) rs.length rfl (by rfl) (irow_same HR2.out (fun i hi => Below.heap_alloc _ _ _ (HR2.out.lt i hi).2)) w2.heap.size (by rfl) (heap_new' _ _ _ (by simp)) (by omega) (by simp; omega) ?_; intro g7 cap7 w7 hr7 hg7 ho7 hl7))
                have B7 : Below w.heap.size w w7 := (B2.alloc B2.size _).grown hg7 (by simp; omega) (fun i hi => (HR2.out.lt i hi).1)
                have HF : Hid (∃ f' rs', Let s w (.slice (some ⟨g7, 0, none⟩) (rs.length + 1) cap7) (pos + 1) f' rs' w7) := HL.out.step hlt hd.out (by rw [hsn.out]; exact hr7) B7 (by omega)
                clear hr7 hg7 ho7 B7 hsn
                go_wp2_with fail
                go_roundw
                case rel =>
                  obtain ⟨f', rs', h⟩ := HF.out
                  exact ⟨pos + 1, f', rs', by go_num, h⟩
                case measure => simp [intOf]; omega
              · have hsn : Hid (seenR (65533) = 65533) := if_neg hz
                go_wp2_with (first | (at_builtin; refine list_append_rune _ (by rfl) (.tmp 75) (.tmp 77) (by rfl) w.heap.size u rs (65533) rs.length rfl (by rfl) (irow_same HR2.out (fun i hi => Below.heap_alloc _ _ _ (HR2.out.lt i hi).2)) w2.heap.size (by rfl) (heap_new' _ _ _ (by simp)) (by omega) (by simp; omega) ?_; intro g7 cap7 w7 hr7 hg7 ho7 hl7))
                have B7 : Below w.heap.size w w7 := (B2.alloc B2.size _).grown hg7 (by simp; omega) (fun i hi => (HR2.out.lt i hi).1)
                have HF : Hid (∃ f' rs', Let s w (.slice (some ⟨g7, 0, none⟩) (rs.length + 1) cap7) (pos + 1) f' rs' w7) := HL.out.step hlt hd.out (by rw [hsn.out]; exact hr7) B7 (by omega)
                clear hr7 hg7 ho7 B7 hsn
                go_wp2_with fail
                go_roundw
                case rel =>
                  obtain ⟨f', rs', h⟩ := HF.out
                  exact ⟨pos + 1, f', rs', by go_num, h⟩
                case measure => simp [intOf]; omega
          · have g1f : goesOnB [s[pos]] s[pos + 1].toNat = false := by simpa using g1
            have m1 : s[pos + 1].toNat < (if s[pos].toNat = 224 then 160 else 128) ∨ (if s[pos].toNat = 237 then 159 else 191) < s[pos + 1].toNat := by
              have q : ¬ (lowR s[pos].toNat ≤ s[pos + 1].toNat ∧ (s[pos + 1].toNat : Int) ≤ highR s[pos].toNat) := by simpa [goesOnB] using g1
              unfold lowR highR at q
              repeat' split at q
              all_goals (repeat' split) <;> omega
            have hd : Hid (((Utf8.decode s pos).1 : Int) = 65533 ∧ (Utf8.decode s pos).2 = 1) := by
              show _ ∧ _
              rw [dec_at s pos _ _ _ _ _ rfl E0.out E1.out E2.out rfl, dec_short3 (by omega) (by omega) (m1.elim (fun q => .inr (.inl q)) (fun q => .inr (.inr (.inl q))))]
              exact ⟨rfl, rfl⟩
            clear m1 g1
            go_wp2_with (first | (go_at_call 134; refine (refLong _ _ (by omega) (by omega)).mono ?_; rintro e w' ⟨rfl, hw'⟩; replace hw' := hw'.symm; subst hw'))
            refine wp_loop_rounds 2 ?_
            rw [rounds_succ]
            go_wp2_with fail
            go_region_with (first | (go_at_call 135; refine (refGoesOn1 _ _ _ (by omega) (by omega)).mono ?_; rintro e w' ⟨rfl, hw'⟩; subst hw'))
            replace HR : Hid (wr.drew.ownsRow w.heap.size 21 1 u rs.length (rvals rs)) := HR.out
            replace hB : Below w.heap.size w wr.drew := hB.trans ((below_drewN wr 1).mono hB.size)
            generalize wr.drew = wd0 at *
            go_wp2_with fail
            rw [rounds_succ]
            go_wp2_with (first | fail)
            go_at_call 65
            refine (Wd.refWidth (65533) _ (by omega) (by omega)).mono ?_
            rintro e w2 ⟨rfl, b2⟩
            have HR2 : Hid (w2.ownsRow w.heap.size 21 1 u rs.length (rvals rs)) := irow_same HR.out (fun i hi => b2.block _ (HR.out.lt i hi).2)
            have B2 : Below w.heap.size w w2 := hB.trans (b2.mono hB.size)
            have s2 := B2.size
            clear b2 hB HR
            by_cases hz : wd (65533) = 0
            · have hsn : Hid (seenR (65533) = 65533) := if_pos hz
              go_wp2_with (first | (at_builtin; refine list_append_rune _ (by rfl) (.tmp 75) (.tmp 77) (by rfl) w.heap.size u rs (65533) rs.length rfl (by rfl) (irow_same HR2.out (fun i hi => Below.heap_alloc _ _ _ (HR2.out.lt i hi).2)) w2.heap.size (by rfl) (heap_new' _ _ _ (by simp)) (by omega) (by simp; omega) ?_; intro g7 cap7 w7 hr7 hg7 ho7 hl7))
              have B7 : Below w.heap.size w w7 := (B2.alloc B2.size _).grown hg7 (by simp; omega) (fun i hi => (HR2.out.lt i hi).1)
              have HF : Hid (∃ f' rs', Let s w (.slice (some ⟨g7, 0, none⟩) (rs.length + 1) cap7) (pos + 1) f' rs' w7) := HL.out.step hlt hd.out (by rw [hsn.out]; exact hr7) B7 (by omega)
              clear hr7 hg7 ho7 B7 hsn
              go_wp2_with fail
              go_roundw
              case rel =>
                obtain ⟨f', rs', h⟩ := HF.out
                exact ⟨pos + 1, f', rs', by go_num, h⟩
              case measure => simp [intOf]; omega
            · have hsn : Hid (seenR (65533) = 65533) := if_neg hz
              go_wp2_with (first | (at_builtin; refine list_append_rune _ (by rfl) (.tmp 75) (.tmp 77) (by rfl) w.heap.size u rs (65533) rs.length rfl (by rfl) (irow_same HR2.out (fun i hi => Below.heap_alloc _ _ _ (HR2.out.lt i hi).2)) w2.heap.size (by rfl) (heap_new' _ _ _ (by simp)) (by omega) (by simp; omega) ?_; intro g7 cap7 w7 hr7 hg7 ho7 hl7))
              have B7 : Below w.heap.size w w7 := (B2.alloc B2.size _).grown hg7 (by simp; omega) (fun i hi => (HR2.out.lt i hi).1)
              have HF : Hid (∃ f' rs', Let s w (.slice (some ⟨g7, 0, none⟩) (rs.length + 1) cap7) (pos + 1) f' rs' w7) := HL.out.step hlt hd.out (by rw [hsn.out]; exact hr7) B7 (by omega)
              clear hr7 hg7 ho7 B7 hsn
              go_wp2_with fail
              go_roundw
              case rel =>
                obtain ⟨f', rs', h⟩ := HF.out
                exact ⟨pos + 1, f', rs', by go_num, h⟩
              case measure => simp [intOf]; omega
        · have hn' : ¬ (pos : Int) + 3 ≤ (s.size : Int) := by omega
          have hd : Hid (((Utf8.decode s pos).1 : Int) = 65533 ∧ (Utf8.decode s pos).2 = 1) := by
            show _ ∧ _
            rw [dec_at s pos _ _ _ _ _ rfl E0.out rfl rfl rfl, dec_short3 (by omega) (by omega) (.inl (by omega))]
            exact ⟨rfl, rfl⟩
          go_wp2_with (first | (go_at_call 134; refine (refLong _ _ (by omega) (by omega)).mono ?_; rintro e w' ⟨rfl, hw'⟩; replace hw' := hw'.symm; subst hw'))
          refine wp_loop_rounds 1 ?_
          rw [rounds_succ]
          go_wp2_with (first | fail)
          go_at_call 65
          refine (Wd.refWidth (65533) _ (by omega) (by omega)).mono ?_
          rintro e w2 ⟨rfl, b2⟩
          have HR2 : Hid (w2.ownsRow w.heap.size 21 1 u rs.length (rvals rs)) := irow_same HR.out (fun i hi => b2.block _ (HR.out.lt i hi).2)
          have B2 : Below w.heap.size w w2 := hB.trans (b2.mono hB.size)
          have s2 := B2.size
          clear b2 hB HR
          by_cases hz : wd (65533) = 0
          · have hsn : Hid (seenR (65533) = 65533) := if_pos hz
            go_wp2_with (first | (at_builtin; refine list_append_rune _ (by rfl) (.tmp 75) (.tmp 77) (by rfl) w.heap.size u rs (65533) rs.length rfl (by rfl) (irow_same HR2.out (fun i hi => Below.heap_alloc _ _ _ (HR2.out.lt i hi).2)) w2.heap.size (by rfl) (heap_new' _ _ _ (by simp)) (by omega) (by simp; omega) ?_; intro g7 cap7 w7 hr7 hg7 ho7 hl7))
            have B7 : Below w.heap.size w w7 := (B2.alloc B2.size _).grown hg7 (by simp; omega) (fun i hi => (HR2.out.lt i hi).1)
            have HF : Hid (∃ f' rs', Let s w (.slice (some ⟨g7, 0, none⟩) (rs.length + 1) cap7) (pos + 1) f' rs' w7) := HL.out.step hlt hd.out (by rw [hsn.out]; exact hr7) B7 (by omega)
            clear hr7 hg7 ho7 B7 hsn
            go_wp2_with fail
            go_roundw
            case rel =>
              obtain ⟨f', rs', h⟩ := HF.out
              exact ⟨pos + 1, f', rs', by go_num, h⟩
            case measure => simp [intOf]; omega
          · have hsn : Hid (seenR (65533) = 65533) := if_neg hz
            go_wp2_with (first | (at_builtin; refine list_append_rune _ (by rfl) (.tmp 75) (.tmp 77) (by rfl) w.heap.size u rs (65533) rs.length rfl (by rfl) (irow_same HR2.out (fun i hi => Below.heap_alloc _ _ _ (HR2.out.lt i hi).2)) w2.heap.size (by rfl) (heap_new' _ _ _ (by simp)) (by omega) (by simp; omega) ?_; intro g7 cap7 w7 hr7 hg7 ho7 hl7))
            have B7 : Below w.heap.size w w7 := (B2.alloc B2.size _).grown hg7 (by simp; omega) (fun i hi => (HR2.out.lt i hi).1)
            have HF : Hid (∃ f' rs', Let s w (.slice (some ⟨g7, 0, none⟩) (rs.length + 1) cap7) (pos + 1) f' rs' w7) := HL.out.step hlt hd.out (by rw [hsn.out]; exact hr7) B7 (by omega)
            clear hr7 hg7 ho7 B7 hsn
            go_wp2_with fail
            go_roundw
            case rel =>
              obtain ⟨f', rs', h⟩ := HF.out
              exact ⟨pos + 1, f', rs', by go_num, h⟩
            case measure => simp [intOf]; omega
      · by_cases hn : pos + 4 ≤ s.size
        · have hn' : (pos : Int) + 4 ≤ (s.size : Int) := by omega
          have p1 : pos + 1 < s.size := by omega
          have l1 : s[pos + 1].toNat < 256 := s[pos + 1].toNat_lt
          have E1 : Hid ((s.get! (pos + 1)).toNat = s[pos + 1].toNat) := by show _ = _; rw [get_bang s (pos + 1) p1]
          have p2 : pos + 2 < s.size := by omega
          have l2 : s[pos + 2].toNat < 256 := s[pos + 2].toNat_lt
          have E2 : Hid ((s.get! (pos + 2)).toNat = s[pos + 2].toNat) := by show _ = _; rw [get_bang s (pos + 2) p2]
          have p3 : pos + 3 < s.size := by omega
          have l3 : s[pos + 3].toNat < 256 := s[pos + 3].toNat_lt
          have E3 : Hid ((s.get! (pos + 3)).toNat = s[pos + 3].toNat) := by show _ = _; rw [get_bang s (pos + 3) p3]
          have x1 := ext1 s pos (by omega)
          have x2 := ext2 s pos (by omega)
          have x3 := ext3 s pos (by omega)
          have x4 := ext4 s pos (by omega)
          have q1a : (0 : Int) ≤ (pos : Int) + 1 := by omega
          have q1b : (pos : Int) ≤ (pos : Int) + 1 := by omega
          have q1t : ((pos : Int) + 1).toNat = pos + 1 := by omega
          have q1c : (pos : Int) + 1 ≤ (s.size : Int) := by omega
          have q1d : (pos : Int) + 1 < (s.size : Int) := by omega
          have q2a : (0 : Int) ≤ (pos : Int) + 2 := by omega
          have q2b : (pos : Int) ≤ (pos : Int) + 2 := by omega
          have q2t : ((pos : Int) + 2).toNat = pos + 2 := by omega
          have q2c : (pos : Int) + 2 ≤ (s.size : Int) := by omega
          have q2d : (pos : Int) + 2 < (s.size : Int) := by omega
          have r2a : (0 : Int) ≤ (pos : Int) + 1 + 1 := by omega
          have r2b : (pos : Int) ≤ (pos : Int) + 1 + 1 := by omega
          have r2t : ((pos : Int) + 1 + 1).toNat = pos + 2 := by omega
          have r2c : (pos : Int) + 1 + 1 ≤ (s.size : Int) := by omega
          have r2d : (pos : Int) + 1 + 1 < (s.size : Int) := by omega
          have q3a : (0 : Int) ≤ (pos : Int) + 3 := by omega
          have q3b : (pos : Int) ≤ (pos : Int) + 3 := by omega
          have q3t : ((pos : Int) + 3).toNat = pos + 3 := by omega
          have q3c : (pos : Int) + 3 ≤ (s.size : Int) := by omega
          have q3d : (pos : Int) + 3 < (s.size : Int) := by omega
          have r3a : (0 : Int) ≤ (pos : Int) + 1 + 1 + 1 := by omega
          have r3b : (pos : Int) ≤ (pos : Int) + 1 + 1 + 1 := by omega
          have r3t : ((pos : Int) + 1 + 1 + 1).toNat = pos + 3 := by omega
          have r3c : (pos : Int) + 1 + 1 + 1 ≤ (s.size : Int) := by omega
          have r3d : (pos : Int) + 1 + 1 + 1 < (s.size : Int) := by omega
          have q4a : (0 : Int) ≤ (pos : Int) + 4 := by omega
          have q4b : (pos : Int) ≤ (pos : Int) + 4 := by omega
          have q4t : ((pos : Int) + 4).toNat = pos + 4 := by omega
          by_cases g1 : goesOnB [s[pos]] s[pos + 1].toNat = true
          · have g1' : lowR s[pos].toNat ≤ s[pos + 1].toNat ∧ (s[pos + 1].toNat : Int) ≤ highR s[pos].toNat := by simpa [goesOnB] using g1
            unfold lowR highR at g1'
            have m1 : (if s[pos].toNat = 240 then 144 else 128) ≤ s[pos + 1].toNat ∧ s[pos + 1].toNat ≤ (if s[pos].toNat = 244 then 143 else 191) := by
              repeat' split at g1'
              all_goals (repeat' split) <;> omega
            have m1a : 128 ≤ s[pos + 1].toNat ∧ s[pos + 1].toNat ≤ 191 := by
              repeat' split at m1
              all_goals omega
            clear g1'
            by_cases g2 : 128 ≤ s[pos + 2].toNat ∧ s[pos + 2].toNat ≤ 191
            · have g2t : goesOnB [s[pos], s[pos + 1]] s[pos + 2].toNat = true := by simp [goesOnB]; omega
              by_cases g3 : 128 ≤ s[pos + 3].toNat ∧ s[pos + 3].toNat ≤ 191
              · have g3t : goesOnB [s[pos], s[pos + 1], s[pos + 2]] s[pos + 3].toNat = true := by simp [goesOnB]; omega
                have hv : Hid (letterR [s[pos], s[pos + 1], s[pos + 2], s[pos + 3]] = 64 * (64 * (64 * ((s[pos].toNat : Int) - 240) + s[pos + 1].toNat - 128) + s[pos + 2].toNat - 128) + s[pos + 3].toNat - 128) := rfl
                have rb1 : -2147483648 ≤ letterR [s[pos], s[pos + 1], s[pos + 2], s[pos + 3]] := by have := hv.out; omega
                have rb2 : letterR [s[pos], s[pos + 1], s[pos + 2], s[pos + 3]] ≤ 2147483647 := by have := hv.out; omega
                have hd : Hid (((Utf8.decode s pos).1 : Int) = letterR [s[pos], s[pos + 1], s[pos + 2], s[pos + 3]] ∧ (Utf8.decode s pos).2 = 4) := by
                  show _ ∧ _
                  rw [dec_at s pos _ _ _ _ _ rfl E0.out E1.out E2.out E3.out, dec_four (by omega) (by omega) (by omega) m1.1 m1.2 g2.1 g2.2 g3.1 g3.2]
                  exact ⟨by rw [hv.out]; simp only []; omega, rfl⟩
                clear m1
                go_wp2_with (first | (go_at_call 134; refine (refLong _ _ (by omega) (by omega)).mono ?_; rintro e w' ⟨rfl, hw'⟩; replace hw' := hw'.symm; subst hw'))
                refine wp_loop_rounds 4 ?_
                rw [rounds_succ]
                go_wp2_with fail
                go_region_with (first | (go_at_call 135; refine (refGoesOn1 _ _ _ (by omega) (by omega)).mono ?_; rintro e w' ⟨rfl, hw'⟩; subst hw'))
                replace HR : Hid (wr.drew.ownsRow w.heap.size 21 1 u rs.length (rvals rs)) := HR.out
                replace hB : Below w.heap.size w wr.drew := hB.trans ((below_drewN wr 1).mono hB.size)
                generalize wr.drew = wd0 at *
                go_wp2_with fail
                rw [rounds_succ]
                go_wp2_with fail
                go_region_with (first | (go_at_call 135; refine (refGoesOn2 _ _ _ _ (by omega) (by omega)).mono ?_; rintro e w' ⟨rfl, hw'⟩; subst hw'))
                replace HR : Hid (wd0.drew.ownsRow w.heap.size 21 1 u rs.length (rvals rs)) := HR.out
                replace hB : Below w.heap.size w wd0.drew := hB.trans ((below_drewN wd0 1).mono hB.size)
                generalize wd0.drew = wd1 at *
                go_wp2_with fail
                rw [rounds_succ]
                go_wp2_with fail
                go_region_with (first | (go_at_call 135; refine (refGoesOn3 _ _ _ _ _ (by omega) (by omega)).mono ?_; rintro e w' ⟨rfl, hw'⟩; subst hw'))
                replace HR : Hid (wd1.drew.ownsRow w.heap.size 21 1 u rs.length (rvals rs)) := HR.out
                replace hB : Below w.heap.size w wd1.drew := hB.trans ((below_drewN wd1 1).mono hB.size)
                generalize wd1.drew = wd2 at *
                go_wp2_with fail
                rw [rounds_succ]
                go_wp2_with (first | (go_at_call 136; refine (refLetter4 _ _ _ _ _ (by omega) (by omega) (by omega) (by omega) (by omega) (by omega) (by omega) (by omega)).mono ?_; rintro e w' ⟨rfl, hw'⟩; replace hw' := hw'.symm; subst hw') | fail)
                go_at_call 65
                refine (Wd.refWidth (letterR [s[pos], s[pos + 1], s[pos + 2], s[pos + 3]]) _ (by omega) (by omega)).mono ?_
                rintro e w2 ⟨rfl, b2⟩
                have HR2 : Hid (w2.ownsRow w.heap.size 21 1 u rs.length (rvals rs)) := irow_same HR.out (fun i hi => b2.block _ (HR.out.lt i hi).2)
                have B2 : Below w.heap.size w w2 := hB.trans (b2.mono hB.size)
                have s2 := B2.size
                clear b2 hB HR
                by_cases hz : wd (letterR [s[pos], s[pos + 1], s[pos + 2], s[pos + 3]]) = 0
                · have hsn : Hid (seenR (letterR [s[pos], s[pos + 1], s[pos + 2], s[pos + 3]]) = 65533) := if_pos hz
                  go_wp2_with (first | (at_builtin; refine list_append_rune _ (by rfl) (.tmp 75) (.tmp 77) (by rfl) w.heap.size u rs (65533) rs.length rfl (by rfl) (irow_same HR2.out (fun i hi => Below.heap_alloc _ _ _ (HR2.out.lt i hi).2)) w2.heap.size (by rfl) (heap_new' _ _ _ (by simp)) (by omega) (by simp; omega) ?_; intro g7 cap7 w7 hr7 hg7 ho7 hl7))
                  have B7 : Below w.heap.size w w7 := (B2.alloc B2.size _).grown hg7 (by simp; omega) (fun i hi => (HR2.out.lt i hi).1)
                  have HF : Hid (∃ f' rs', Let s w (.slice (some ⟨g7, 0, none⟩) (rs.length + 1) cap7) (pos + 4) f' rs' w7) := HL.out.step hlt hd.out (by rw [hsn.out]; exact hr7) B7 (by omega)
                  clear hr7 hg7 ho7 B7 hsn
                  go_wp2_with fail
                  go_roundw
                  case rel =>
                    obtain ⟨f', rs', h⟩ := HF.out
                    exact ⟨pos + 4, f', rs', by go_num, h⟩
                  case measure => simp [intOf]; omega
                · have hsn : Hid (seenR (letterR [s[pos], s[pos + 1], s[pos + 2], s[pos + 3]]) = letterR [s[pos], s[pos + 1], s[pos + 2], s[pos + 3]]) := if_neg hz
                  go_wp2_with (first | (at_builtin; refine list_append_rune _ (by rfl) (.tmp 75) (.tmp 77) (by rfl) w.heap.size u rs (letterR [s[pos], s[pos + 1], s[pos + 2], s[pos + 3]]) rs.length rfl (by rfl) (irow_same HR2.out (fun i hi => Below.heap_alloc _ _ _ (HR2.out.lt i hi).2)) w2.heap.size (by rfl) (heap_new' _ _ _ (by simp)) (by omega) (by simp; omega) ?_; intro g7 cap7 w7 hr7 hg7 ho7 hl7))
                  have B7 : Below w.heap.size w w7 := (B2.alloc B2.size _).grown hg7 (by simp; omega) (fun i hi => (HR2.out.lt i hi).1)
                  have HF : Hid (∃ f' rs', Let s w (.slice (some ⟨g7, 0, none⟩) (rs.length + 1) cap7) (pos + 4) f' rs' w7) := HL.out.step hlt hd.out (by rw [hsn.out]; exact hr7) B7 (by omega)
                  clear hr7 hg7 ho7 B7 hsn
                  go_wp2_with fail
                  go_roundw
                  case rel =>
                    obtain ⟨f', rs', h⟩ := HF.out
                    exact ⟨pos + 4, f', rs', by go_num, h⟩
                  case measure => simp [intOf]; omega
              · have g3f : goesOnB [s[pos], s[pos + 1], s[pos + 2]] s[pos + 3].toNat = false := by simp [goesOnB]; omega
                have m3 : s[pos + 3].toNat < 128 ∨ 191 < s[pos + 3].toNat := by omega
                have hd : Hid (((Utf8.decode s pos).1 : Int) = 65533 ∧ (Utf8.decode s pos).2 = 1) := by
                  show _ ∧ _
                  rw [dec_at s pos _ _ _ _ _ rfl E0.out E1.out E2.out E3.out, dec_short4 (by omega) (by omega) (.inr (.inr (.inr (.inr (.inr m3)))))]
                  exact ⟨rfl, rfl⟩
                clear m1 g3
                go_wp2_with (first | (go_at_call 134; refine (refLong _ _ (by omega) (by omega)).mono ?_; rintro e w' ⟨rfl, hw'⟩; replace hw' := hw'.symm; subst hw'))
                refine wp_loop_rounds 4 ?_
                rw [rounds_succ]
                go_wp2_with fail
                go_region_with (first | (go_at_call 135; refine (refGoesOn1 _ _ _ (by omega) (by omega)).mono ?_; rintro e w' ⟨rfl, hw'⟩; subst hw'))
                replace HR : Hid (wr.drew.ownsRow w.heap.size 21 1 u rs.length (rvals rs)) := HR.out
                replace hB : Below w.heap.size w wr.drew := hB.trans ((below_drewN wr 1).mono hB.size)
                generalize wr.drew = wd0 at *
                go_wp2_with fail
                rw [rounds_succ]
                go_wp2_with fail
                go_region_with (first | (go_at_call 135; refine (refGoesOn2 _ _ _ _ (by omega) (by omega)).mono ?_; rintro e w' ⟨rfl, hw'⟩; subst hw'))
                replace HR : Hid (wd0.drew.ownsRow w.heap.size 21 1 u rs.length (rvals rs)) := HR.out
                replace hB : Below w.heap.size w wd0.drew := hB.trans ((below_drewN wd0 1).mono hB.size)
                generalize wd0.drew = wd1 at *
                go_wp2_with fail
                rw [rounds_succ]
                go_wp2_with fail
                go_region_with (first | (go_at_call 135; refine (refGoesOn3 _ _ _ _ _ (by omega) (by omega)).mono ?_; rintro e w' ⟨rfl, hw'⟩; subst hw'))
                replace HR : Hid (wd1.drew.ownsRow w.heap.size 21 1 u rs.length (rvals rs)) := HR.out
                replace hB : Below w.heap.size w wd1.drew := hB.trans ((below_drewN wd1 1).mono hB.size)
                generalize wd1.drew = wd2 at *
                go_wp2_with fail
                rw [rounds_succ]
                go_wp2_with (first | fail)
                go_at_call 65
                refine (Wd.refWidth (65533) _ (by omega) (by omega)).mono ?_
                rintro e w2 ⟨rfl, b2⟩
                have HR2 : Hid (w2.ownsRow w.heap.size 21 1 u rs.length (rvals rs)) := irow_same HR.out (fun i hi => b2.block _ (HR.out.lt i hi).2)
                have B2 : Below w.heap.size w w2 := hB.trans (b2.mono hB.size)
                have s2 := B2.size
                clear b2 hB HR
                by_cases hz : wd (65533) = 0
                · have hsn : Hid (seenR (65533) = 65533) := if_pos hz
                  go_wp2_with (first | (at_builtin; refine list_append_rune _ (by rfl) (.tmp 75) (.tmp 77) (by rfl) w.heap.size u rs (65533) rs.length rfl (by rfl) (irow_same HR2.out (fun i hi => Below.heap_alloc _ _ _ (HR2.out.lt i hi).2)) w2.heap.size (by rfl) (heap_new' _ _ _ (by simp)) (by omega) (by simp; omega) ?_; intro g7 cap7 w7 hr7 hg7 ho7 hl7))
                  have B7 : Below w.heap.size w w7 := (B2.alloc B2.size _).grown hg7 (by simp; omega) (fun i hi => (HR2.out.lt i hi).1)
                  have HF : Hid (∃ f' rs', Let s w (.slice (some ⟨g7, 0, none⟩) (rs.length + 1) cap7) (pos + 1) f' rs' w7) := HL.out.step hlt hd.out (by rw [hsn.out]; exact hr7) B7 (by omega)
                  clear hr7 hg7 ho7 B7 hsn
                  go_wp2_with fail
                  go_roundw
                  case rel =>
                    obtain ⟨f', rs', h⟩ := HF.out
                    exact ⟨pos + 1, f', rs', by go_num, h⟩
                  case measure => simp [intOf]; omega
                · have hsn : Hid (seenR (65533) = 65533) := if_neg hz
                  go_wp2_with (first | (at_builtin; refine list_append_rune _ (by rfl) (.tmp 75) (.tmp 77) (by rfl) w.heap.size u rs (65533) rs.length rfl (by rfl) (irow_same HR2.out (fun i hi => Below.heap_alloc _ _ _ (HR2.out.lt i hi).2)) w2.heap.size (by rfl) (heap_new' _ _ _ (by simp)) (by omega) (by simp; omega) ?_; intro g7 cap7 w7 hr7 hg7 ho7 hl7))
                  have B7 : Below w.heap.size w w7 := (B2.alloc B2.size _).grown hg7 (by simp; omega) (fun i hi => (HR2.out.lt i hi).1)
                  have HF : Hid (∃ f' rs', Let s w (.slice (some ⟨g7, 0, none⟩) (rs.length + 1) cap7) (pos + 1) f' rs' w7) := HL.out.step hlt hd.out (by rw [hsn.out]; exact hr7) B7 (by omega)
                  clear hr7 hg7 ho7 B7 hsn
                  go_wp2_with fail
                  go_roundw
                  case rel =>
                    obtain ⟨f', rs', h⟩ := HF.out
                    exact ⟨pos + 1, f', rs', by go_num, h⟩
                  case measure => simp [intOf]; omega
            · have g2f : goesOnB [s[pos], s[pos + 1]] s[pos + 2].toNat = false := by simp [goesOnB]; omega
              have m2 : s[pos + 2].toNat < 128 ∨ 191 < s[pos + 2].toNat := by omega
              have hd : Hid (((Utf8.decode s pos).1 : Int) = 65533 ∧ (Utf8.decode s pos).2 = 1) := by
                show _ ∧ _
                rw [dec_at s pos _ _ _ _ _ rfl E0.out E1.out E2.out E3.out, dec_short4 (by omega) (by omega) (.inr (.inr (.inr (m2.elim .inl (fun q => .inr (.inl q))))))]
                exact ⟨rfl, rfl⟩
              clear m1 g2
              go_wp2_with (first | (go_at_call 134; refine (refLong _ _ (by omega) (by omega)).mono ?_; rintro e w' ⟨rfl, hw'⟩; replace hw' := hw'.symm; subst hw'))
              refine wp_loop_rounds 3 ?_
              rw [rounds_succ]
              go_wp2_with fail
              go_region_with (first | (go_at_call 135; refine (refGoesOn1 _ _ _ (by omega) (by omega)).mono ?_; rintro e w' ⟨rfl, hw'⟩; subst hw'))
              replace HR : Hid (wr.drew.ownsRow w.heap.size 21 1 u rs.length (rvals rs)) := HR.out
              replace hB : Below w.heap.size w wr.drew := hB.trans ((below_drewN wr 1).mono hB.size)
              generalize wr.drew = wd0 at *
              go_wp2_with fail
              rw [rounds_succ]
              go_wp2_with fail
              go_region_with (first | (go_at_call 135; refine (refGoesOn2 _ _ _ _ (by omega) (by omega)).mono ?_; rintro e w' ⟨rfl, hw'⟩; subst hw'))
              replace HR : Hid (wd0.drew.ownsRow w.heap.size 21 1 u rs.length (rvals rs)) := HR.out
              replace hB : Below w.heap.size w wd0.drew := hB.trans ((below_drewN wd0 1).mono hB.size)
              generalize wd0.drew = wd1 at *
              go_wp2_with fail
              rw [rounds_succ]
              go_wp2_with (first | fail)
              go_at_call 65
              refine (Wd.refWidth (65533) _ (by omega) (by omega)).mono ?_
              rintro e w2 ⟨rfl, b2⟩
              have HR2 : Hid (w2.ownsRow w.heap.size 21 1 u rs.length (rvals rs)) := irow_same HR.out (fun i hi => b2.block _ (HR.out.lt i hi).2)
              have B2 : Below w.heap.size w w2 := hB.trans (b2.mono hB.size)
              have s2 := B2.size
              clear b2 hB HR
              by_cases hz : wd (65533) = 0
              · have hsn : Hid (seenR (65533) = 65533) := if_pos hz
                go_wp2_with (first | (at_builtin; refine list_append_rune _ (by rfl) (.tmp 75) (.tmp 77) (by rfl) w.heap.size u rs (65533) rs.length rfl (by rfl) (irow_same HR2.out (fun i hi => Below.heap_alloc _ _ _ (HR2.out.lt i hi).2)) w2.heap.size (by rfl) (heap_new' _ _ _ (by simp)) (by omega) (by simp; omega) ?_; intro g7 cap7 w7 hr7 hg7 ho7 hl7))
                have B7 : Below w.heap.size w w7 := (B2.alloc B2.size _).grown hg7 (by simp; omega) (fun i hi => (HR2.out.lt i hi).1)
                have HF : Hid (∃ f' rs', Let s w (.slice (some ⟨g7, 0, none⟩) (rs.length + 1) cap7) (pos + 1) f' rs' w7) := HL.out.step hlt hd.out (by rw [hsn.out]; exact hr7) B7 (by omega)
                clear hr7 hg7 ho7 B7 hsn
                go_wp2_with fail
                go_roundw
                case rel =>
                  obtain ⟨f', rs', h⟩ := HF.out
                  exact ⟨pos + 1, f', rs', by go_num, h⟩
                case measure => simp [intOf]; omega
              · have hsn : Hid (seenR (65533) = 65533) := if_neg hz
                go_wp2_with (first | (at_builtin; refine list_append_rune _ (by rfl) (.tmp 75) (.tmp 77) (by rfl) w.heap.size u rs (65533) rs.length rfl (by rfl) (irow_same HR2.out (fun i hi => Below.heap_alloc _ _ _ (HR2.out.lt i hi).2)) w2.heap.size (by rfl) (heap_new' _ _ _ (by simp)) (by omega) (by simp; omega) ?_; intro g7 cap7 w7 hr7 hg7 ho7 hl7))
                have B7 : Below w.heap.size w w7 := (B2.alloc B2.size _).grown hg7 (by simp; omega) (fun i hi => (HR2.out.lt i hi).1)
                have HF : Hid (∃ f' rs', Let s w (.slice (some ⟨g7, 0, none⟩) (rs.length + 1) cap7) (pos + 1) f' rs' w7) := HL.out.step hlt hd.out (by rw [hsn.out]; exact hr7) B7 (by omega)
                clear hr7 hg7 ho7 B7 hsn
                go_wp2_with fail
                go_roundw
                case rel =>
                  obtain ⟨f', rs', h⟩ := HF.out
                  exact ⟨pos + 1, f', rs', by go_num, h⟩
                case measure => simp [intOf]; omega
          · have g1f : goesOnB [s[pos]] s[pos + 1].toNat = false := by simpa using g1
            have m1 : s[pos + 1].toNat < (if s[pos].toNat = 240 then 144 else 128) ∨ (if s[pos].toNat = 244 then 143 else 191) < s[pos + 1].toNat := by
              have q : ¬ (lowR s[pos].toNat ≤ s[pos + 1].toNat ∧ (s[pos + 1].toNat : Int) ≤ highR s[pos].toNat) := by simpa [goesOnB] using g1
              unfold lowR highR at q
              repeat' split at q
              all_goals (repeat' split) <;> omega
            have hd : Hid (((Utf8.decode s pos).1 : Int) = 65533 ∧ (Utf8.decode s pos).2 = 1) := by
              show _ ∧ _
              rw [dec_at s pos _ _ _ _ _ rfl E0.out E1.out E2.out E3.out, dec_short4 (by omega) (by omega) (m1.elim (fun q => .inr (.inl q)) (fun q => .inr (.inr (.inl q))))]
              exact ⟨rfl, rfl⟩
            clear m1 g1
            go_wp2_with (first | (go_at_call 134; refine (refLong _ _ (by omega) (by omega)).mono ?_; rintro e w' ⟨rfl, hw'⟩; replace hw' := hw'.symm; subst hw'))
            refine wp_loop_rounds 2 ?_
            rw [rounds_succ]
            go_wp2_with fail
            go_region_with (first | (go_at_call 135; refine (refGoesOn1 _ _ _ (by omega) (by omega)).mono ?_; rintro e w' ⟨rfl, hw'⟩; subst hw'))
            replace HR : Hid (wr.drew.ownsRow w.heap.size 21 1 u rs.length (rvals rs)) := HR.out
            replace hB : Below w.heap.size w wr.drew := hB.trans ((below_drewN wr 1).mono hB.size)
            generalize wr.drew = wd0 at *
            go_wp2_with fail
            rw [rounds_succ]
            go_wp2_with (first | fail)
            go_at_call 65
            refine (Wd.refWidth (65533) _ (by omega) (by omega)).mono ?_
            rintro e w2 ⟨rfl, b2⟩
            have HR2 : Hid (w2.ownsRow w.heap.size 21 1 u rs.length (rvals rs)) := irow_same HR.out (fun i hi => b2.block _ (HR.out.lt i hi).2)
            have B2 : Below w.heap.size w w2 := hB.trans (b2.mono hB.size)
            have s2 := B2.size
            clear b2 hB HR
            by_cases hz : wd (65533) = 0
            · have hsn : Hid (seenR (65533) = 65533) := if_pos hz
              go_wp2_with (first | (at_builtin; refine list_append_rune _ (by rfl) (.tmp 75) (.tmp 77) (by rfl) w.heap.size u rs (65533) rs.length rfl (by rfl) (irow_same HR2.out (fun i hi => Below.heap_alloc _ _ _ (HR2.out.lt i hi).2)) w2.heap.size (by rfl) (heap_new' _ _ _ (by simp)) (by omega) (by simp; omega) ?_; intro g7 cap7 w7 hr7 hg7 ho7 hl7))
              have B7 : Below w.heap.size w w7 := (B2.alloc B2.size _).grown hg7 (by simp; omega) (fun i hi => (HR2.out.lt i hi).1)
              have HF : Hid (∃ f' rs', Let s w (.slice (some ⟨g7, 0, none⟩) (rs.length + 1) cap7) (pos + 1) f' rs' w7) := HL.out.step hlt hd.out (by rw [hsn.out]; exact hr7) B7 (by omega)
              clear hr7 hg7 ho7 B7 hsn
              go_wp2_with fail
              go_roundw
              case rel =>
                obtain ⟨f', rs', h⟩ := HF.out
                exact ⟨pos + 1, f', rs', by go_num, h⟩
              case measure => simp [intOf]; omega
            · have hsn : Hid (seenR (65533) = 65533) := if_neg hz
              go_wp2_with (first | (at_builtin; refine list_append_rune _ (by rfl) (.tmp 75) (.tmp 77) (by rfl) w.heap.size u rs (65533) rs.length rfl (by rfl) (irow_same HR2.out (fun i hi => Below.heap_alloc _ _ _ (HR2.out.lt i hi).2)) w2.heap.size (by rfl) (heap_new' _ _ _ (by simp)) (by omega) (by simp; omega) ?_; intro g7 cap7 w7 hr7 hg7 ho7 hl7))
              have B7 : Below w.heap.size w w7 := (B2.alloc B2.size _).grown hg7 (by simp; omega) (fun i hi => (HR2.out.lt i hi).1)
              have HF : Hid (∃ f' rs', Let s w (.slice (some ⟨g7, 0, none⟩) (rs.length + 1) cap7) (pos + 1) f' rs' w7) := HL.out.step hlt hd.out (by rw [hsn.out]; exact hr7) B7 (by omega)
              clear hr7 hg7 ho7 B7 hsn
              go_wp2_with fail
              go_roundw
              case rel =>
                obtain ⟨f', rs', h⟩ := HF.out
                exact ⟨pos + 1, f', rs', by go_num, h⟩
              case measure => simp [intOf]; omega
        · have hn' : ¬ (pos : Int) + 4 ≤ (s.size : Int) := by omega
          have hd : Hid (((Utf8.decode s pos).1 : Int) = 65533 ∧ (Utf8.decode s pos).2 = 1) := by
            show _ ∧ _
            rw [dec_at s pos _ _ _ _ _ rfl E0.out rfl rfl rfl, dec_short4 (by omega) (by omega) (.inl (by omega))]
            exact ⟨rfl, rfl⟩
          go_wp2_with (first | (go_at_call 134; refine (refLong _ _ (by omega) (by omega)).mono ?_; rintro e w' ⟨rfl, hw'⟩; replace hw' := hw'.symm; subst hw'))
          refine wp_loop_rounds 1 ?_
          rw [rounds_succ]
          go_wp2_with (first | fail)
          go_at_call 65
          refine (Wd.refWidth (65533) _ (by omega) (by omega)).mono ?_
          rintro e w2 ⟨rfl, b2⟩
          have HR2 : Hid (w2.ownsRow w.heap.size 21 1 u rs.length (rvals rs)) := irow_same HR.out (fun i hi => b2.block _ (HR.out.lt i hi).2)
          have B2 : Below w.heap.size w w2 := hB.trans (b2.mono hB.size)
          have s2 := B2.size
          clear b2 hB HR
          by_cases hz : wd (65533) = 0
          · have hsn : Hid (seenR (65533) = 65533) := if_pos hz
            go_wp2_with (first | (at_builtin; refine list_append_rune _ (by rfl) (.tmp 75) (.tmp 77) (by rfl) w.heap.size u rs (65533) rs.length rfl (by rfl) (irow_same HR2.out (fun i hi => Below.heap_alloc _ _ _ (HR2.out.lt i hi).2)) w2.heap.size (by rfl) (heap_new' _ _ _ (by simp)) (by omega) (by simp; omega) ?_; intro g7 cap7 w7 hr7 hg7 ho7 hl7))
            have B7 : Below w.heap.size w w7 := (B2.alloc B2.size _).grown hg7 (by simp; omega) (fun i hi => (HR2.out.lt i hi).1)
            have HF : Hid (∃ f' rs', Let s w (.slice (some ⟨g7, 0, none⟩) (rs.length + 1) cap7) (pos + 1) f' rs' w7) := HL.out.step hlt hd.out (by rw [hsn.out]; exact hr7) B7 (by omega)
            clear hr7 hg7 ho7 B7 hsn
            go_wp2_with fail
            go_roundw
            case rel =>
              obtain ⟨f', rs', h⟩ := HF.out
              exact ⟨pos + 1, f', rs', by go_num, h⟩
            case measure => simp [intOf]; omega
          · have hsn : Hid (seenR (65533) = 65533) := if_neg hz
            go_wp2_with (first | (at_builtin; refine list_append_rune _ (by rfl) (.tmp 75) (.tmp 77) (by rfl) w.heap.size u rs (65533) rs.length rfl (by rfl) (irow_same HR2.out (fun i hi => Below.heap_alloc _ _ _ (HR2.out.lt i hi).2)) w2.heap.size (by rfl) (heap_new' _ _ _ (by simp)) (by omega) (by simp; omega) ?_; intro g7 cap7 w7 hr7 hg7 ho7 hl7))
            have B7 : Below w.heap.size w w7 := (B2.alloc B2.size _).grown hg7 (by simp; omega) (fun i hi => (HR2.out.lt i hi).1)
            have HF : Hid (∃ f' rs', Let s w (.slice (some ⟨g7, 0, none⟩) (rs.length + 1) cap7) (pos + 1) f' rs' w7) := HL.out.step hlt hd.out (by rw [hsn.out]; exact hr7) B7 (by omega)
            clear hr7 hg7 ho7 B7 hsn
            go_wp2_with fail
            go_roundw
            case rel =>
              obtain ⟨f', rs', h⟩ := HF.out
              exact ⟨pos + 1, f', rs', by go_num, h⟩
            case measure => simp [intOf]; omega
    · have hlt' : ¬ (pos : Int) < (s.size : Int) := by omega
      have HF : Hid (wr.ownsRow w.heap.size 21 1 u (runesG s s.size 0).length (rvals (runesG s s.size 0)) ∧ (runesG s s.size 0).length ≤ 200) := by
        have e := hL.all
        have : runesG s f pos = [] := by cases f with
          | zero => rfl
          | succ f => show (if pos < s.size then _ else _) = _; rw [if_neg hlt]
        rw [this, List.append_nil] at e
        rw [← e]
        exact ⟨hL.row, by have := hL.short; have := hL.le; omega⟩
      have hB : Below w.heap.size w wr := hL.bel
      clear hL
      go_wp2_with fail
      go_ret
      exact ⟨u, rfl, HF.out.1, HF.out.2, hB⟩
end Go.Proofs.YtjlfibhbfdckpaaGreatDoor
