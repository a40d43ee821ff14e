/-
  Contents: every kind: the document's IsContent and the program's Fits against one proposition.
-/
import Derived.Test.YtjceeljaljdmoaaGreatDoorCy
import Derived.Below
namespace Go.Proofs.YtjceeljaljdmoaaGreatDoor
open Go.RowKit

/-- The text may be the content of this kind. -/
def ContentOk (k : Int) (t : ByteArray) : Prop :=
  (k = 1 ∧ BoolOk t) ∨ (k = 2 ∧ IntOk t) ∨ (k = 3 ∧ t.size = 0) ∨ (k = 4 ∧ OidOk t) ∨ (k = 5 ∧ BitsOk t) ∨ (k = 6 ∧ True) ∨ (k = 7 ∧ Utf8Ok t) ∨ (k = 8 ∧ PrOk t) ∨ (k = 9 ∧ TimeOk t)
theorem contentOk_1 (t : ByteArray) : BoolOk t ↔ ContentOk 1 t := by unfold ContentOk; simp
theorem contentOk_2 (t : ByteArray) : IntOk t ↔ ContentOk 2 t := by unfold ContentOk; simp
theorem contentOk_3 (t : ByteArray) : t.size = 0 ↔ ContentOk 3 t := by unfold ContentOk; simp
theorem contentOk_4 (t : ByteArray) : OidOk t ↔ ContentOk 4 t := by unfold ContentOk; simp
theorem contentOk_5 (t : ByteArray) : BitsOk t ↔ ContentOk 5 t := by unfold ContentOk; simp
theorem contentOk_6 (t : ByteArray) : True ↔ ContentOk 6 t := by unfold ContentOk; simp
theorem contentOk_7 (t : ByteArray) : Utf8Ok t ↔ ContentOk 7 t := by unfold ContentOk; simp
theorem contentOk_8 (t : ByteArray) : PrOk t ↔ ContentOk 8 t := by unfold ContentOk; simp
theorem contentOk_9 (t : ByteArray) : TimeOk t ↔ ContentOk 9 t := by unfold ContentOk; simp
theorem contentOk_no (k : Int) (t : ByteArray) (h : k < 1 ∨ 9 < k) : False ↔ ContentOk k t := by
  unfold ContentOk
  refine ⟨False.elim, fun c => ?_⟩
  rcases c with c | c | c | c | c | c | c | c | c <;> (have := c.1; omega)
theorem RetB.to {P Q : Prop} {w w' : World} {e : Ending} (h : RetB P w e w') (i : P ↔ Q) : RetB Q w e w' := by
  obtain ⟨r, h1, h2, h3⟩ := h
  exact ⟨r, h1, h2.trans i, h3⟩
/-- A bool that says whether P, what lay before as it was. -/
def RetW (P : Prop) (w : World) (e : Ending) (w' : World) : Prop := ∃ r, e = .returned (.bool r) ∧ (r = true ↔ P) ∧ Below w.heap.size w w'
theorem below_drawn {B : Nat} {a w : World} (h : Below B a w) : ∀ q, Below B a (w.drewN q)
  | 0 => h
  | q + 1 => (below_drawn h q).drew
theorem RetB.toW {P : Prop} {w w' : World} {e : Ending} (h : RetB P w e w') : RetW P w e w' := by
  obtain ⟨r, h1, h2, k, rfl⟩ := h
  exact ⟨r, h1, h2, below_drawn (Below.refl _ _) k⟩
theorem RetW.to {P Q : Prop} {w w' : World} {e : Ending} (h : RetW P w e w') (i : P ↔ Q) : RetW Q w e w' := by
  obtain ⟨r, h1, h2, h3⟩ := h
  exact ⟨r, h1, h2.trans i, h3⟩
theorem kinds (k : Int) : (k < 1 ∨ 9 < k) ∨ k = 1 ∨ k = 2 ∨ k = 3 ∨ k = 4 ∨ k = 5 ∨ k = 6 ∨ k = 7 ∨ k = 8 ∨ k = 9 := by omega

theorem isContent_any (k : Int) (t : ByteArray) (w : World) (hs : t.size ≤ 140737488355328) :
    Calls Tryz.prog 80 #[.int .i64 k, .string t] w fun e w' => RetB (ContentOk k t) w e w' := by
  have hm : t.size ≤ 9223372036854775807 := by omega
  rcases kinds k with h | rfl | rfl | rfl | rfl | rfl | rfl | rfl | rfl | rfl
  · exact (isContent_no k t w h).mono fun _ _ r => r.to (contentOk_no k t h)
  · exact (isContent_1 t w).mono fun _ _ r => r.to (contentOk_1 t)
  · exact (isContent_2 t w hm).mono fun _ _ r => r.to (contentOk_2 t)
  · exact (isContent_3 t w).mono fun _ _ r => r.to (contentOk_3 t)
  · exact (isContent_4 t w hm).mono fun _ _ r => r.to (contentOk_4 t)
  · exact (isContent_5 t w hm).mono fun _ _ r => r.to (contentOk_5 t)
  · exact (isContent_6 t w).mono fun _ _ r => r.to (contentOk_6 t)
  · exact (isContent_7 t w hs).mono fun _ _ r => r.to (contentOk_7 t)
  · exact (isContent_8 t w hm).mono fun _ _ r => r.to (contentOk_8 t)
  · exact (isContent_9 t w hm).mono fun _ _ r => r.to (contentOk_9 t)

/-- What utf8.ValidString answers at this text in this world. -/
def Valids (t : ByteArray) (w : World) : Prop := Calls Tryz.prog 136 #[.string t] w fun e w' => RetW (Utf8Ok t) w e w'
set_option maxHeartbeats 1000000 in
set_option maxRecDepth 100000 in
theorem fits_7 (t : ByteArray) (w : World) (hV : Valids t w) :
    Calls Tryz.prog 97 #[.int .i64 7, .string t] w fun e w' => RetW (Utf8Ok t) w e w' := by
  go_enter Tryz.func97, Tryz.ntmps97
  go_wp2_with fail
  refine Calls.mono hV ?_
  rintro e w2 ⟨r, rfl, hr, hd⟩
  have HR : Hid (r = true ↔ Utf8Ok t) := hr
  have HD : Hid (Below w.heap.size w w2) := hd
  clear hr hd
  go_wp2_with fail
  go_ret
  exact ⟨_, rfl, HR.out, HD.out⟩
theorem fits_any (k : Int) (t : ByteArray) (w : World) (hm : t.size ≤ 9223372036854775807) (hD : Days w) (hV : Valids t w) :
    Calls Tryz.prog 97 #[.int .i64 k, .string t] w fun e w' => RetW (ContentOk k t) w e w' := by
  rcases kinds k with h | rfl | rfl | rfl | rfl | rfl | rfl | rfl | rfl | rfl
  · exact (fits_no k t w h).mono fun _ _ r => (r.to (contentOk_no k t h)).toW
  · exact (fits_1 t w).mono fun _ _ r => (r.to (contentOk_1 t)).toW
  · exact (fits_2 t w hm).mono fun _ _ r => (r.to (contentOk_2 t)).toW
  · exact (fits_3 t w).mono fun _ _ r => (r.to (contentOk_3 t)).toW
  · exact (fits_4 t w hm).mono fun _ _ r => (r.to (contentOk_4 t)).toW
  · exact (fits_5 t w hm).mono fun _ _ r => (r.to (contentOk_5 t)).toW
  · exact (fits_6 t w).mono fun _ _ r => (r.to (contentOk_6 t)).toW
  · exact (fits_7 t w hV).mono fun _ _ r => r.to (contentOk_7 t)
  · exact (fits_8 t w hm).mono fun _ _ r => (r.to (contentOk_8 t)).toW
  · exact (fits_9 t w hm hD).mono fun _ _ r => (r.to (contentOk_9 t)).toW
end Go.Proofs.YtjceeljaljdmoaaGreatDoor
