/-
  Contents: which content a kind may have: the document's IsContent, kind by kind.
-/
import Derived.Test.YtjceeljaljdmoaaGreatDoorCw
import Derived.Test.YtjceeljaljdmoaaGreatDoorCtr
import Derived.Test.YtjceeljaljdmoaaGreatDoorCb
import Derived.Test.YtjceeljaljdmoaaGreatDoorCp
namespace Go.Proofs.YtjceeljaljdmoaaGreatDoor
open Go.RowKit

def BoolOk (t : ByteArray) : Prop := t.size = 1 ∧ (b8 t 0 = 0 ∨ b8 t 0 = 255)
theorem empty_iff (t : ByteArray) : t.toList.isEmpty = true ↔ t.size = 0 := by
  rw [Lib.toList_data, List.isEmpty_iff, ← List.length_eq_zero_iff, size_list]
theorem boolOk_iff (t : ByteArray) : BoolOk t ↔ t.toList = [0] ∨ t.toList = [255] := by
  unfold BoolOk b8
  rw [Lib.toList_data, ← size_list]
  generalize t.data.toList = l
  match l with
  | [] => simp
  | [x] =>
    have h0 : ((x.toNat : Int) = 0 ↔ x = 0) := ⟨fun h => UInt8.toNat_inj.1 (by show x.toNat = 0; omega), fun h => by rw [h]; rfl⟩
    have h1 : ((x.toNat : Int) = 255 ↔ x = 255) := ⟨fun h => UInt8.toNat_inj.1 (by show x.toNat = 255; omega), fun h => by rw [h]; rfl⟩
    show ([x].length = 1 ∧ ((x.toNat : Int) = 0 ∨ (x.toNat : Int) = 255)) ↔ _
    rw [h0, h1]
    simp
  | _ :: _ :: _ => simp
set_option maxHeartbeats 1000000 in
set_option maxRecDepth 100000 in
theorem isContent_1 (t : ByteArray) (w : World) :
    Calls Tryz.prog 80 #[.int .i64 1, .string t] w fun e w' => RetB (BoolOk t) w e w' := by
  go_enter Tryz.func80, Tryz.ntmps80
  by_cases h1 : t.size = 1
  · have e0 : (t[0].toNat : Int) = b8 t 0 := b8_get t 0 (by omega)
    have HB : Hid (BoolOk t ↔ (t[0].toNat : Int) = 0 ∨ (t[0].toNat : Int) = 255) := by
      show BoolOk t ↔ _
      rw [e0]; exact ⟨fun h => h.2, fun h => ⟨h1, h⟩⟩
    clear e0
    by_cases h2 : (t[0].toNat : Int) = 0
    · have HY : Hid (BoolOk t) := HB.out.2 (.inl h2)
      go_wp2
      go_ret
      exact ret_yes HY.out (drew0 w)
    · go_wp2
      go_ret
      refine ret_iff (Iff.trans ?_ HB.out.symm) (drew0 w)
      rw [Bool.or_eq_true, beq_iff_eq, beq_iff_eq]
  · have HN : Hid (¬ BoolOk t) := fun h => h1 h.1
    go_wp2
    go_ret
    exact ret_no HN.out (drew0 w)
set_option maxHeartbeats 1000000 in
set_option maxRecDepth 100000 in
theorem isContent_2 (t : ByteArray) (w : World) (hm : t.size ≤ 9223372036854775807) :
    Calls Tryz.prog 80 #[.int .i64 2, .string t] w fun e w' => RetB (IntOk t) w e w' := by
  go_enter Tryz.func80, Tryz.ntmps80
  go_wp2_with fail
  refine (isInt_any t _ hm).mono ?_
  rintro e w2 ⟨r, rfl, hr, hd⟩
  have HR : Hid (r = true ↔ IntOk t) := hr
  have HD : Hid (∃ k, w2 = w.drewN k) := hd
  clear hr hd
  go_wp2_with fail
  go_ret
  exact ret_iff HR.out HD.out
set_option maxHeartbeats 1000000 in
set_option maxRecDepth 100000 in
theorem isContent_3 (t : ByteArray) (w : World) :
    Calls Tryz.prog 80 #[.int .i64 3, .string t] w fun e w' => RetB (t.size = 0) w e w' := by
  go_enter Tryz.func80, Tryz.ntmps80
  go_wp2
  go_ret
  exact ret_iff (empty_iff t) (drew0 w)
set_option maxHeartbeats 1000000 in
set_option maxRecDepth 100000 in
theorem isContent_4 (t : ByteArray) (w : World) (hm : t.size ≤ 9223372036854775807) :
    Calls Tryz.prog 80 #[.int .i64 4, .string t] w fun e w' => RetB (OidOk t) w e w' := by
  go_enter Tryz.func80, Tryz.ntmps80
  go_wp2_with fail
  refine (isOid_any t _ hm).mono ?_
  rintro e w2 ⟨r, rfl, hr, hd⟩
  have HR : Hid (r = true ↔ OidOk t) := hr
  have HD : Hid (∃ k, w2 = w.drewN k) := hd
  clear hr hd
  go_wp2_with fail
  go_ret
  exact ret_iff HR.out HD.out
set_option maxHeartbeats 1000000 in
set_option maxRecDepth 100000 in
theorem isContent_5 (t : ByteArray) (w : World) (hm : t.size ≤ 9223372036854775807) :
    Calls Tryz.prog 80 #[.int .i64 5, .string t] w fun e w' => RetB (BitsOk t) w e w' := by
  go_enter Tryz.func80, Tryz.ntmps80
  go_wp2_with fail
  refine (isBits_any t _ hm).mono ?_
  rintro e w2 ⟨r, rfl, hr, hd⟩
  have HR : Hid (r = true ↔ BitsOk t) := hr
  have HD : Hid (∃ k, w2 = w.drewN k) := hd
  clear hr hd
  go_wp2_with fail
  go_ret
  exact ret_iff HR.out HD.out
set_option maxHeartbeats 1000000 in
set_option maxRecDepth 100000 in
theorem isContent_6 (t : ByteArray) (w : World) :
    Calls Tryz.prog 80 #[.int .i64 6, .string t] w fun e w' => RetB True w e w' := by
  go_enter Tryz.func80, Tryz.ntmps80
  go_wp2
  go_ret
  exact ret_yes trivial (drew0 w)
set_option maxHeartbeats 1000000 in
set_option maxRecDepth 100000 in
theorem isContent_7 (t : ByteArray) (w : World) (hm : t.size ≤ 140737488355328) :
    Calls Tryz.prog 80 #[.int .i64 7, .string t] w fun e w' => RetB (Utf8Ok t) w e w' := by
  go_enter Tryz.func80, Tryz.ntmps80
  go_wp2_with fail
  refine (isUtf8_any t _ hm).mono ?_
  rintro e w2 ⟨r, rfl, hr, hd⟩
  have HR : Hid (r = true ↔ Utf8Ok t) := hr
  have HD : Hid (∃ k, w2 = w.drewN k) := hd
  clear hr hd
  go_wp2_with fail
  go_ret
  exact ret_iff HR.out HD.out
set_option maxHeartbeats 1000000 in
set_option maxRecDepth 100000 in
theorem isContent_8 (t : ByteArray) (w : World) (hm : t.size ≤ 9223372036854775807) :
    Calls Tryz.prog 80 #[.int .i64 8, .string t] w fun e w' => RetB (PrOk t) w e w' := by
  go_enter Tryz.func80, Tryz.ntmps80
  go_wp2_with fail
  refine (isPrintableRef_any t _ hm).mono ?_
  rintro e w2 ⟨r, rfl, hr, hd⟩
  have HR : Hid (r = true ↔ PrOk t) := hr
  have HD : Hid (∃ k, w2 = w.drewN k) := hd
  clear hr hd
  go_wp2_with fail
  go_ret
  exact ret_iff HR.out HD.out
set_option maxHeartbeats 1000000 in
set_option maxRecDepth 100000 in
theorem isContent_9 (t : ByteArray) (w : World) (hm : t.size ≤ 9223372036854775807) :
    Calls Tryz.prog 80 #[.int .i64 9, .string t] w fun e w' => RetB (TimeOk t) w e w' := by
  go_enter Tryz.func80, Tryz.ntmps80
  go_wp2_with fail
  refine (isTime_any t _ hm).mono ?_
  rintro e w2 ⟨r, rfl, hr, hd⟩
  have HR : Hid (r = true ↔ TimeOk t) := hr
  have HD : Hid (∃ k, w2 = w.drewN k) := hd
  clear hr hd
  go_wp2_with fail
  go_ret
  exact ret_iff HR.out HD.out
set_option maxHeartbeats 1000000 in
set_option maxRecDepth 100000 in
theorem isContent_no (k : Int) (t : ByteArray) (w : World) (hk : k < 1 ∨ 9 < k) :
    Calls Tryz.prog 80 #[.int .i64 k, .string t] w fun e w' => RetB False w e w' := by
  go_enter Tryz.func80, Tryz.ntmps80
  have g : ∀ c : Int, 1 ≤ c → c ≤ 9 → (k == c) = false := fun c h1 h2 => by rw [beq_eq_false_iff_ne]; omega
  have g1 := g 1 (by omega) (by omega)
  have g2 := g 2 (by omega) (by omega)
  have g3 := g 3 (by omega) (by omega)
  have g4 := g 4 (by omega) (by omega)
  have g5 := g 5 (by omega) (by omega)
  have g6 := g 6 (by omega) (by omega)
  have g7 := g 7 (by omega) (by omega)
  have g8 := g 8 (by omega) (by omega)
  have g9 := g 9 (by omega) (by omega)
  clear g
  go_wp2
  go_ret
  exact ret_no id (drew0 w)
set_option maxHeartbeats 1000000 in
set_option maxRecDepth 100000 in
theorem fits_2 (t : ByteArray) (w : World) (hm : t.size ≤ 9223372036854775807) :
    Calls Tryz.prog 97 #[.int .i64 2, .string t] w fun e w' => RetB (IntOk t) w e w' := by
  go_enter Tryz.func97, Tryz.ntmps97
  go_wp2_with fail
  refine (fitsInt_any t _ hm).mono ?_
  rintro e w2 ⟨r, rfl, hr, hd⟩
  have HR : Hid (r = true ↔ IntOk t) := hr
  have HD : Hid (∃ k, w2 = w.drewN k) := hd
  clear hr hd
  go_wp2_with fail
  go_ret
  exact ret_iff HR.out HD.out
set_option maxHeartbeats 1000000 in
set_option maxRecDepth 100000 in
theorem fits_4 (t : ByteArray) (w : World) (hm : t.size ≤ 9223372036854775807) :
    Calls Tryz.prog 97 #[.int .i64 4, .string t] w fun e w' => RetB (OidOk t) w e w' := by
  go_enter Tryz.func97, Tryz.ntmps97
  go_wp2_with fail
  refine (fitsOid_any t _ hm).mono ?_
  rintro e w2 ⟨r, rfl, hr, hd⟩
  have HR : Hid (r = true ↔ OidOk t) := hr
  have HD : Hid (∃ k, w2 = w.drewN k) := hd
  clear hr hd
  go_wp2_with fail
  go_ret
  exact ret_iff HR.out HD.out
set_option maxHeartbeats 1000000 in
set_option maxRecDepth 100000 in
theorem fits_5 (t : ByteArray) (w : World) (hm : t.size ≤ 9223372036854775807) :
    Calls Tryz.prog 97 #[.int .i64 5, .string t] w fun e w' => RetB (BitsOk t) w e w' := by
  go_enter Tryz.func97, Tryz.ntmps97
  go_wp2_with fail
  refine (fitsBits_any t _ hm).mono ?_
  rintro e w2 ⟨r, rfl, hr, hd⟩
  have HR : Hid (r = true ↔ BitsOk t) := hr
  have HD : Hid (∃ k, w2 = w.drewN k) := hd
  clear hr hd
  go_wp2_with fail
  go_ret
  exact ret_iff HR.out HD.out
set_option maxHeartbeats 1000000 in
set_option maxRecDepth 100000 in
theorem fits_8 (t : ByteArray) (w : World) (hm : t.size ≤ 9223372036854775807) :
    Calls Tryz.prog 97 #[.int .i64 8, .string t] w fun e w' => RetB (PrOk t) w e w' := by
  go_enter Tryz.func97, Tryz.ntmps97
  go_wp2_with fail
  refine (fitsPrintable_any t _ hm).mono ?_
  rintro e w2 ⟨r, rfl, hr, hd⟩
  have HR : Hid (r = true ↔ PrOk t) := hr
  have HD : Hid (∃ k, w2 = w.drewN k) := hd
  clear hr hd
  go_wp2_with fail
  go_ret
  exact ret_iff HR.out HD.out
set_option maxHeartbeats 1000000 in
set_option maxRecDepth 100000 in
theorem fits_9 (t : ByteArray) (w : World) (hm : t.size ≤ 9223372036854775807) (hD : Days w) :
    Calls Tryz.prog 97 #[.int .i64 9, .string t] w fun e w' => RetB (TimeOk t) w e w' := by
  go_enter Tryz.func97, Tryz.ntmps97
  go_wp2_with fail
  refine (fitsTime_any t _ hm hD).mono ?_
  rintro e w2 ⟨r, rfl, hr, hd⟩
  have HR : Hid (r = true ↔ TimeOk t) := hr
  have HD : Hid (∃ k, w2 = w.drewN k) := hd
  clear hr hd
  go_wp2_with fail
  go_ret
  exact ret_iff HR.out HD.out
set_option maxHeartbeats 1000000 in
set_option maxRecDepth 100000 in
theorem fits_3 (t : ByteArray) (w : World) :
    Calls Tryz.prog 97 #[.int .i64 3, .string t] w fun e w' => RetB (t.size = 0) w e w' := by
  go_enter Tryz.func97, Tryz.ntmps97
  go_wp2
  go_ret
  exact ret_iff (empty_iff t) (drew0 w)
set_option maxHeartbeats 1000000 in
set_option maxRecDepth 100000 in
theorem fits_6 (t : ByteArray) (w : World) :
    Calls Tryz.prog 97 #[.int .i64 6, .string t] w fun e w' => RetB True w e w' := by
  go_enter Tryz.func97, Tryz.ntmps97
  go_wp2
  go_ret
  exact ret_yes trivial (drew0 w)
set_option maxHeartbeats 1000000 in
set_option maxRecDepth 100000 in
theorem fits_no (k : Int) (t : ByteArray) (w : World) (hk : k < 1 ∨ 9 < k) :
    Calls Tryz.prog 97 #[.int .i64 k, .string t] w fun e w' => RetB False w e w' := by
  go_enter Tryz.func97, Tryz.ntmps97
  have g : ∀ c : Int, 1 ≤ c → c ≤ 9 → (k == c) = false := fun c h1 h2 => by rw [beq_eq_false_iff_ne]; omega
  have g1 := g 1 (by omega) (by omega)
  have g2 := g 2 (by omega) (by omega)
  have g3 := g 3 (by omega) (by omega)
  have g4 := g 4 (by omega) (by omega)
  have g5 := g 5 (by omega) (by omega)
  have g6 := g 6 (by omega) (by omega)
  have g7 := g 7 (by omega) (by omega)
  have g8 := g 8 (by omega) (by omega)
  have g9 := g 9 (by omega) (by omega)
  clear g
  go_wp2
  go_ret
  exact ret_no id (drew0 w)
set_option maxHeartbeats 1000000 in
set_option maxRecDepth 100000 in
theorem fits_1 (t : ByteArray) (w : World) :
    Calls Tryz.prog 97 #[.int .i64 1, .string t] w fun e w' => RetB (BoolOk t) w e w' := by
  go_enter Tryz.func97, Tryz.ntmps97
  by_cases h0 : t.toList = [0]
  · have HY : Hid (BoolOk t) := (boolOk_iff t).2 (.inl h0)
    go_wp2
    go_ret
    exact ret_yes HY.out (drew0 w)
  · go_wp2
    go_ret
    refine ret_iff (Iff.trans ?_ (boolOk_iff t).symm) (drew0 w)
    rw [Bool.or_eq_true, beq_iff_eq, beq_iff_eq]
end Go.Proofs.YtjceeljaljdmoaaGreatDoor
