/-
  THE CALL AT THE HEAD OF ALL STATEMENTS OF LAYER 3.
-/
import Derived.Test.YtpilgbiedbhpeaaFs
namespace Go.Proofs.Ytpilgbiedbhpeaa
open Go.RowKit
set_option linter.unusedVariables false
theorem OW.made (E : TypeId) (W : World) : PM.OW E W.heap.size (W.alloc (.cells #[] E)) (.slice (some ⟨W.heap.size, 0, none⟩) 0 0) [] :=
  World.ownsRow_made W #[] 0 (Nat.le_refl _) (by decide) rfl
theorem crc_nil : PM.crc [] = 0 := rfl
theorem crc_a : (((PM.crc [97] : Nat) : Int) != 0) = true := by decide +kernel
theorem scan_aa : PM.scanL (PM.wrapL [97] ++ PM.wrapL [97]) = [[97], [97]] := by
  rw [PM.scan_wrap [97] _ (by decide) (by decide), ← List.append_nil (PM.wrapL [97]), PM.scan_wrap [97] _ (by decide) (by decide)]
  rfl
set_option maxHeartbeats 1000000 in
theorem awake3 (w : World) :
    Calls Try.prog 9 #[] w fun e w' => e = .returned (.bool true) ∧ Below w.heap.size w w' := by
  have kc := fun (W : World) (C : Array Value) (n c : Nat) => Lib.run_convert_bytes_const (P := Try.prog) W 23 5 C n c Try.underlying23 Try.underlying5
  have hal : ∀ (W : World) (cs : Array Value) (fr : Nat × Nat), Below W.heap.size W (W.alloc (.cells cs 5 fr)) := fun W cs fr => (Below.refl _ _).alloc (Nat.le_refl _) _
  go_enter Try.func9, Try.ntmps9
  go_wp2_with fail
  refine (Wrap_any _ [97] _ (PM.BS.litm w _ [97] _ (by decide)) (by decide) (by decide)).mono ?_
  rintro e w1 ⟨v1, rfl, ho1, hB1⟩
  have hC1 := PM.chain (hal w _ _) hB1
  have hs1 := ho1.bs
  obtain ⟨a1, c1, hv1⟩ : ∃ a c, v1 = .slice a 7 c := by obtain ⟨a, c, e⟩ := hs1.len; exact ⟨a, c, by rw [e, PM.wrapL_length]; rfl⟩
  subst hv1
  clear ho1 hB1
  go_wp2_with fail
  refine (Wrap_bad _ [] w1 (PM.BS.nil _) (.inl rfl)).mono ?_
  rintro e w2 ⟨rfl, rfl⟩
  have om := OW.made 5 w2
  have hs2 := hs1.keep (hal w2 #[] (0, 0))
  have hz : w2.heap.size ≤ (w2.alloc (.cells #[] 5)).heap.size := by simp
  go_wp2_with (first
    | (at_builtin; refine PM.wpList_app bty w2.heap.size rfl _ _ rfl _ _ [] (PM.wrapL [97]) rfl rfl om hs2 ?_ hz ?_; (rw [PM.wrapL_length]; decide); intro v3 w3 q1 q2 _; clear om hs2; have q3 := (hal w2 #[] (0, 0)).trans q2; have hs3 := hs1.keep q3; have hz3 := q3.size)
    | (at_builtin; refine PM.wpList_app bty w2.heap.size rfl _ _ rfl _ _ _ (PM.wrapL [97]) rfl rfl q1 hs3 ?_ hz3 ?_; (rw [List.length_append, PM.wrapL_length]; decide); intro v4 w4 q4 q5 _; clear q1 hs3; have q6 := q3.trans q5))
  rw [List.nil_append] at q4
  refine (Scan_any _ _ w4 q4.bs (by rw [List.length_append, PM.wrapL_length]; decide)).mono ?_
  rintro e w5 ⟨v5, rfl, ho5, hB5⟩
  rw [scan_aa] at ho5 ⊢
  have hC5 := PM.hid (PM.chain (PM.chain hC1 q6) hB5)
  obtain ⟨a5, c5, hv5⟩ : ∃ a c, v5 = .slice a 2 c := ho5.rbl.len
  subst hv5
  clear ho5 hB5 q6 q4 q3 q5 hC1 hz hz3 q2
  rw [show ((PM.sizeL [[97], [97]] : Nat) : Int) = 14 from rfl]
  go_wp2_with fail
  refine (Sum_any _ [] w5 (PM.BS.nil _)).mono ?_
  rintro e w6 ⟨rfl, rfl⟩
  rw [crc_nil]
  go_wp2_with fail
  refine (Sum_any _ [97] _ (PM.BS.litm w6 _ [97] _ (by decide))).mono ?_
  rintro e w7 ⟨rfl, rfl⟩
  have hca := crc_a
  go_wp2_with fail
  go_ret
  exact ⟨rfl, PM.chain hC5.out (hal _ _ _)⟩
end Go.Proofs.Ytpilgbiedbhpeaa
