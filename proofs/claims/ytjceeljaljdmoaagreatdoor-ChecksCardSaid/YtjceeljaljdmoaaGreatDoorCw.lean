/-
  Contents: Utf8: the document's characters are those of utf8.ValidString (plain; no run).
-/
import Derived.Test.YtjceeljaljdmoaaGreatDoorCv
import Derived.Lib.ValidLaws
namespace Go.Proofs.YtjceeljaljdmoaaGreatDoor
open Go.Lib

/-- A byte of a text, as a number. -/
def bN (t : ByteArray) (i : Nat) : Nat := (t.data.toList.getD i 0).toNat
theorem b8_bN (t : ByteArray) (i : Nat) : b8 t i = (bN t i : Int) := rfl
theorem bN_lt (t : ByteArray) (i : Nat) : bN t i < 256 := (t.data.toList.getD i 0).toNat_lt
theorem bN_drop (t : ByteArray) (k i : Nat) : ((t.data.toList.drop k).getD i 0).toNat = bN t (k + i) := by
  unfold bN
  simp [List.getD_eq_getElem?_getD, List.getElem?_drop]
theorem goB_iff (t : ByteArray) (a : Nat) (lo hi : Nat) : goB t a lo hi = true ↔ a < t.size ∧ lo ≤ bN t a ∧ bN t a ≤ hi := by
  unfold goB
  rw [decide_eq_true_iff, b8_bN]
  omega

/-- What the length of a character says. -/
def told (c : Nat) : Option Nat := if c = 0 then none else some c
theorem told_ite (p : Prop) [Decidable p] (q : Prop) [Decidable q] (c : Nat) (hc : c ≠ 0) (h : p ↔ ¬ q) : (if q then none else some c) = told (if p then c else 0) := by
  by_cases hq : q
  · rw [if_pos hq, if_neg (fun hp => (h.1 hp) hq)]; rfl
  · rw [if_neg hq, if_pos (h.2 hq)]; unfold told; rw [if_neg hc]

theorem check_2 (t : ByteArray) (k lo hi : Nat) (h0 : 194 ≤ bN t k) (h1 : bN t k < 224) (hl : loB (b8 t k) = (lo : Int)) (hh : hiB (b8 t k) = (hi : Int)) :
    checkN (t.size - k) (bN t (k + 1)) (bN t (k + 2)) (bN t (k + 3)) 2 lo hi = told (chr t k) := by
  rw [chr_2 t k lo hi (by rw [b8_bN]; omega) (by rw [b8_bN]; omega) hl hh]
  unfold checkN
  rw [if_pos rfl]
  refine told_ite _ _ 2 (by omega) ?_
  rw [goB_iff]
  omega
theorem check_3 (t : ByteArray) (k lo hi : Nat) (h0 : 224 ≤ bN t k) (h1 : bN t k < 240) (hl : loB (b8 t k) = (lo : Int)) (hh : hiB (b8 t k) = (hi : Int)) :
    checkN (t.size - k) (bN t (k + 1)) (bN t (k + 2)) (bN t (k + 3)) 3 lo hi = told (chr t k) := by
  rw [chr_3 t k lo hi (by rw [b8_bN]; omega) (by rw [b8_bN]; omega) hl hh]
  unfold checkN
  rw [if_neg (by omega), if_pos rfl]
  refine told_ite _ _ 3 (by omega) ?_
  rw [goB_iff, show ((128 : Int) = ((128 : Nat) : Int)) from rfl, show ((191 : Int) = ((191 : Nat) : Int)) from rfl, goB_iff]
  omega
theorem check_4 (t : ByteArray) (k lo hi : Nat) (h0 : 240 ≤ bN t k) (h1 : bN t k < 245) (hl : loB (b8 t k) = (lo : Int)) (hh : hiB (b8 t k) = (hi : Int)) :
    checkN (t.size - k) (bN t (k + 1)) (bN t (k + 2)) (bN t (k + 3)) 4 lo hi = told (chr t k) := by
  rw [chr_4 t k lo hi (by rw [b8_bN]; omega) (by rw [b8_bN]; omega) hl hh]
  unfold checkN
  rw [if_neg (by omega), if_neg (by omega), if_pos rfl]
  refine told_ite _ _ 4 (by omega) ?_
  rw [goB_iff, show ((128 : Int) = ((128 : Nat) : Int)) from rfl, show ((191 : Int) = ((191 : Nat) : Int)) from rfl, goB_iff, goB_iff]
  omega

/-- At a lead byte from 128 on: the library's tables say what the document says. -/
theorem check_chr (t : ByteArray) (k : Nat) (h : 128 ≤ bN t k) :
    checkN (t.size - k) (bN t (k + 1)) (bN t (k + 2)) (bN t (k + 3)) (firstT (bN t k) % 8) (accLo (firstT (bN t k) / 16)) (accHi (firstT (bN t k) / 16)) = told (chr t k) := by
  have key : ∀ x sz lo hi, firstT (bN t k) = x → x % 8 = sz → accLo (x / 16) = lo → accHi (x / 16) = hi → checkN (t.size - k) (bN t (k + 1)) (bN t (k + 2)) (bN t (k + 3)) sz lo hi = told (chr t k) →
      checkN (t.size - k) (bN t (k + 1)) (bN t (k + 2)) (bN t (k + 3)) (firstT (bN t k) % 8) (accLo (firstT (bN t k) / 16)) (accHi (firstT (bN t k) / 16)) = told (chr t k) := fun x sz lo hi e0 e1 e2 e3 he => by
    rw [e0, e1, e2, e3]; exact he
  have hb := bN_lt t k
  have e8 := b8_bN t k
  have n128 : ¬ bN t k < 128 := by omega
  have bad : firstT (bN t k) = 241 → chr t k = 0 → checkN (t.size - k) (bN t (k + 1)) (bN t (k + 2)) (bN t (k + 3)) (firstT (bN t k) % 8) (accLo (firstT (bN t k) / 16)) (accHi (firstT (bN t k) / 16)) = told (chr t k) := fun e0 ec => by
    rw [e0, ec]; rfl
  by_cases c0 : bN t k < 194
  · exact bad (by unfold firstT; rw [if_neg n128, if_pos c0]) (chr_0 t k (.inl (by rw [e8]; omega)))
  by_cases c1 : bN t k < 224
  · exact key 2 2 128 191 (by unfold firstT; rw [if_neg n128, if_neg c0, if_pos c1]) (by decide) (by decide) (by decide)
      (check_2 t k 128 191 (by omega) c1 (by rw [e8]; unfold loB; rw [if_neg (by omega), if_neg (by omega)]; rfl) (by rw [e8]; unfold hiB; rw [if_neg (by omega), if_neg (by omega)]; rfl))
  by_cases c2 : bN t k = 224
  · exact key 19 3 160 191 (by rw [c2]; decide) (by decide) (by decide) (by decide)
      (check_3 t k 160 191 (by omega) (by omega) (by rw [e8, c2]; decide) (by rw [e8, c2]; decide))
  by_cases c3 : bN t k < 237
  · exact key 3 3 128 191 (by unfold firstT; rw [if_neg n128, if_neg c0, if_neg c1, if_neg c2, if_pos c3]) (by decide) (by decide) (by decide)
      (check_3 t k 128 191 (by omega) (by omega) (by rw [e8]; unfold loB; rw [if_neg (by omega), if_neg (by omega)]; rfl) (by rw [e8]; unfold hiB; rw [if_neg (by omega), if_neg (by omega)]; rfl))
  by_cases c4 : bN t k = 237
  · exact key 35 3 128 159 (by rw [c4]; decide) (by decide) (by decide) (by decide)
      (check_3 t k 128 159 (by omega) (by omega) (by rw [e8, c4]; decide) (by rw [e8, c4]; decide))
  by_cases c5 : bN t k < 240
  · exact key 3 3 128 191 (by unfold firstT; rw [if_neg n128, if_neg c0, if_neg c1, if_neg c2, if_neg c3, if_neg c4, if_pos c5]) (by decide) (by decide) (by decide)
      (check_3 t k 128 191 (by omega) (by omega) (by rw [e8]; unfold loB; rw [if_neg (by omega), if_neg (by omega)]; rfl) (by rw [e8]; unfold hiB; rw [if_neg (by omega), if_neg (by omega)]; rfl))
  by_cases c6 : bN t k = 240
  · exact key 52 4 144 191 (by rw [c6]; decide) (by decide) (by decide) (by decide)
      (check_4 t k 144 191 (by omega) (by omega) (by rw [e8, c6]; decide) (by rw [e8, c6]; decide))
  by_cases c7 : bN t k < 244
  · exact key 4 4 128 191 (by unfold firstT; rw [if_neg n128, if_neg c0, if_neg c1, if_neg c2, if_neg c3, if_neg c4, if_neg c5, if_neg c6, if_pos c7]) (by decide) (by decide) (by decide)
      (check_4 t k 128 191 (by omega) (by omega) (by rw [e8]; unfold loB; rw [if_neg (by omega), if_neg (by omega)]; rfl) (by rw [e8]; unfold hiB; rw [if_neg (by omega), if_neg (by omega)]; rfl))
  by_cases c8 : bN t k = 244
  · exact key 68 4 128 143 (by rw [c8]; decide) (by decide) (by decide) (by decide)
      (check_4 t k 128 143 (by omega) (by omega) (by rw [e8, c8]; decide) (by rw [e8, c8]; decide))
  · exact bad (by unfold firstT; rw [if_neg n128, if_neg c0, if_neg c1, if_neg c2, if_neg c3, if_neg c4, if_neg c5, if_neg c6, if_neg c7, if_neg c8]) (chr_0 t k (.inr (by rw [e8]; omega)))

theorem size_list (t : ByteArray) : t.data.toList.length = t.size := Array.length_toList
/-- One character on. -/
theorem valid_chr (t : ByteArray) (k : Nat) (hk : k < t.size) :
    validD (t.data.toList.drop k) = if chr t k = 0 then false else validD (t.data.toList.drop (k + chr t k)) := by
  have hlen : (t.data.toList.drop k).length = t.size - k := by rw [List.length_drop, size_list]
  have hne : t.data.toList.drop k ≠ [] := fun e => by rw [e] at hlen; simp at hlen; omega
  by_cases h : bN t k < 128
  · have hc : chr t k = 1 := chr_1 t k (by rw [b8_bN]; omega)
    have hk' : k < t.data.toList.length := by rw [size_list]; exact hk
    rw [hc, if_neg (by omega), List.drop_eq_getElem_cons hk', validD_cons]
    have : bN t k = t.data.toList[k].toNat := by
      unfold bN
      rw [List.getD_eq_getElem?_getD, List.getElem?_eq_getElem hk']
      rfl
    omega
  · rw [validD_lead _ hne (by rw [bN_drop]; show 128 ≤ bN t k; omega), hlen, bN_drop, bN_drop, bN_drop, bN_drop]
    show (match checkN (t.size - k) (bN t (k + 1)) (bN t (k + 2)) (bN t (k + 3)) (firstT (bN t k) % 8) (accLo (firstT (bN t k) / 16)) (accHi (firstT (bN t k) / 16)) with
      | none => false
      | some j => validD ((t.data.toList.drop k).drop j)) = _
    rw [check_chr t k (by omega)]
    unfold told
    by_cases hc : chr t k = 0
    · rw [if_pos hc, if_pos hc]
    · rw [if_neg hc, if_neg hc]
      show validD ((t.data.toList.drop k).drop (chr t k)) = _
      rw [List.drop_drop]
theorem utf8_valid_from (t : ByteArray) : ∀ (n k : Nat), t.size - k ≤ n → k ≤ t.size → (Utf8From t k ↔ validD (t.data.toList.drop k) = true)
  | n, k, hn, hk => by
    by_cases he : k = t.size
    · have : t.data.toList.drop k = [] := List.drop_eq_nil_of_le (by rw [size_list]; omega)
      rw [this, validD_nil]
      exact ⟨fun _ => rfl, fun _ => utf8_end t k (by omega)⟩
    · have hk' : k < t.size := by omega
      rw [utf8_step t k hk', valid_chr t k hk']
      by_cases hc : chr t k = 0
      · rw [if_pos hc]
        exact ⟨fun h => absurd hc h.1, fun h => by cases h⟩
      · rw [if_neg hc]
        match n, hn with
        | 0, hn => omega
        | n + 1, hn =>
          have ih := utf8_valid_from t n (k + chr t k) (by omega) (chr_le t k hk')
          exact ⟨fun h => ih.1 h.2, fun h => ⟨hc, ih.2 h⟩⟩
/-- A text is characters just where utf8.ValidString's plain function says so. -/
theorem utf8_valid (t : ByteArray) : Utf8Ok t ↔ validD t.data.toList = true := by
  have := utf8_valid_from t t.size 0 (by omega) (by omega)
  rw [List.drop_zero] at this
  exact this
end Go.Proofs.YtjceeljaljdmoaaGreatDoor
