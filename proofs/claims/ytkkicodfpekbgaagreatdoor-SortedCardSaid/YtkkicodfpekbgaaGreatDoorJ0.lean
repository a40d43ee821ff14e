/-
  Several texts in one:
  The plain mathematics of heads: what a length's bytes tell, what a head is, what is told; no program is named here.
  Which contents may be: plain mathematics; no program is named here.
  Contents: Int, Oid, Bits: what the program's and the document's functions answer.
  Contents: Bits: what the program's and the document's functions answer.
  Contents: Printable: what the program's and the document's functions answer.
  Contents: Utf8: what the document's functions answer.
  Contents: Utf8: what the document's functions answer (the other half).
  Contents: Utf8: the document's characters are those of utf8.ValidString (plain; no run).
  Contents: Time: the parts.
-/
import Derived.WalkKit
import Derived.Laws.BitsLemmas
import Derived.Lib.Strings
import Derived.Test.YtkkicodfpekbgaaGreatDoorRows
import Derived.WalkSpells
import Derived.WalkLawsBesides
import Derived.BigQuiet
import Derived.Deep.QuietTactic
import Derived.Lib.Bytealg
import Derived.Lib.ValidLaws
/-! The plain mathematics of heads: what a length's bytes tell, what a head is, what is told; no program is named here. -/
namespace Go.Proofs.YtkkicodfpekbgaaGreatDoor
set_option linter.unusedSimpArgs false
set_option linter.unusedVariables false

theorem emp_t {t : ByteArray} (h : t.size = 0) : t.toList.isEmpty = true := by
  rw [Lib.toList_data]
  have : t.data.toList.length = 0 := by rw [Array.length_toList]; exact h
  cases hl : t.data.toList with
  | nil => rfl
  | cons a l => rw [hl] at this; simp at this
theorem emp_f {t : ByteArray} (h : 0 < t.size) : t.toList.isEmpty = false := by
  rw [Lib.toList_data]
  have h2 : t.data.toList.length = t.size := by rw [Array.length_toList]; rfl
  cases hl : t.data.toList with
  | nil => rw [hl] at h2; simp at h2; omega
  | cons a l => rfl

/-- The byte at a place, as a number (0 behind the end). -/
def b8 (t : ByteArray) (i : Nat) : Int := ((t.data.toList.getD i 0).toNat : Int)
theorem b8_get (t : ByteArray) (i : Nat) (h : i < t.size) : (t[i].toNat : Int) = b8 t i := by
  unfold b8
  have hl : i < t.data.toList.length := by rw [Array.length_toList]; exact h
  rw [List.getD_eq_getElem?_getD, List.getElem?_eq_getElem hl]
  rfl
theorem b8_bd (t : ByteArray) (i : Nat) : 0 ≤ b8 t i ∧ b8 t i < 256 := by
  unfold b8
  have := (t.data.toList.getD i 0).toNat_lt
  omega
theorem b8_extract (t : ByteArray) (a i : Nat) (_h : a ≤ t.size) : b8 (t.extract a t.size) i = b8 t (a + i) := by
  unfold b8
  rw [Lib.extract_data]
  have e : (t.data.toList.drop a).take (t.size - a) = t.data.toList.drop a := by
    apply List.take_of_length_le
    rw [List.length_drop, Array.length_toList]; exact Nat.le_refl _
  first
    | (rw [e]; simp [List.getD_eq_getElem?_getD])
    | (simp [List.getD_eq_getElem?_getD]; done)

/-- The number that the bytes 1 to k tell. -/
def numTo (t : ByteArray) : Nat → Int
  | 0 => 0
  | k + 1 => numTo t k * 256 + b8 t (k + 1)
theorem numTo_bd (t : ByteArray) : ∀ k : Nat, 0 ≤ numTo t k ∧ (k ≤ 3 → numTo t k < 16777216) ∧ (k ≤ 2 → numTo t k < 65536) ∧ (k ≤ 1 → numTo t k < 256)
  | 0 => by simp [numTo]
  | k + 1 => by
    have ih := numTo_bd t k
    have hb := b8_bd t (k + 1)
    simp only [numTo]
    refine ⟨by omega, fun h => ?_, fun h => ?_, fun h => ?_⟩
    · have := ih.2.2.1 (by omega); omega
    · have := ih.2.2.2 (by omega); omega
    · have : k = 0 := by omega
      subst this
      simp only [numTo]; omega
/-- How many bytes of its own a length has. -/
def cnt (n : Int) : Int := if n < 128 then 0 else if n < 256 then 1 else if n < 65536 then 2 else 3

theorem cnt_cases (n : Int) : (n < 128 ∧ cnt n = 0) ∨ (128 ≤ n ∧ n < 256 ∧ cnt n = 1) ∨ (256 ≤ n ∧ n < 65536 ∧ cnt n = 2) ∨ (65536 ≤ n ∧ cnt n = 3) := by
  unfold cnt
  repeat' split
  all_goals omega

theorem wraps_i64 (n : Int) (h₀ : 0 ≤ n) (h₁ : n < 2 ^ 63) : IntKind.i64.wrap n = n := by rw [IntKind.wrap_i64]; omega
theorem i64_or8 (x y : Int) (h0 : 0 ≤ x) (h1 : x < 4611686018427387904) (hx : x % 256 = 0) (h2 : 0 ≤ y) (h3 : y < 256) : bits .or .i64 x y = x + y :=
  bits_join .i64 63 (by decide) wraps_i64 8 x y h0 hx (by omega) h2 h3 (by omega)
theorem i64_or6 (x y : Int) (h0 : 0 ≤ x) (h1 : x < 4611686018427387904) (hx : x % 64 = 0) (h2 : 0 ≤ y) (h3 : y < 64) : bits .or .i64 x y = x + y :=
  bits_join .i64 63 (by decide) wraps_i64 6 x y h0 hx (by omega) h2 h3 (by omega)
theorem i64_and31 (x : Int) (h0 : 0 ≤ x) (h1 : x < 256) : bits .and .i64 x 31 = x % 32 := bits_mask .i64 63 (by decide) wraps_i64 5 (by decide) x h0 (by omega)
theorem i64_and32 (x : Int) (h0 : 0 ≤ x) (h1 : x < 256) : (bits .and .i64 x 32 != 0) = (x / 32 % 2 == 1) := by
  have all : ∀ j : Fin 256, (bits .and .i64 ((j.val : Nat) : Int) 32 != 0) = (((j.val : Nat) : Int) / 32 % 2 == 1) := by decide +kernel
  obtain ⟨a, rfl⟩ := Int.eq_ofNat_of_zero_le h0
  exact all ⟨a, by omega⟩
theorem i64_or32 (c n : Int) (h0 : 0 ≤ c) (h1 : c ≤ 3) (h2 : 0 ≤ n) (h3 : n ≤ 30) : bits .or .i64 (c * 64 + n) 32 = c * 64 + n + 32 := by
  have all : ∀ j : Fin 4, ∀ k : Fin 31, bits .or .i64 (((j.val : Nat) : Int) * 64 + ((k.val : Nat) : Int)) 32 = ((j.val : Nat) : Int) * 64 + ((k.val : Nat) : Int) + 32 := by decide +kernel
  obtain ⟨a, rfl⟩ := Int.eq_ofNat_of_zero_le h0
  obtain ⟨b, rfl⟩ := Int.eq_ofNat_of_zero_le h2
  exact all ⟨a, by omega⟩ ⟨b, by omega⟩

/-- What the bytes of a length tell: which it is (0: all is well; 3: they end; 5: not told as it must be), how many they are, the length. -/
def rl (t : ByteArray) : Int × Int × Int :=
  if t.size = 0 then (3, 0, 0)
  else if b8 t 0 < 128 then (0, 1, b8 t 0)
  else if b8 t 0 = 128 ∨ 131 < b8 t 0 then (5, 0, 0)
  else if (t.size : Int) ≤ b8 t 0 - 128 then (3, 0, 0)
  else if b8 t 0 - 128 ≠ cnt (numTo t (b8 t 0 - 128).toNat) then (5, 0, 0)
  else (0, 1 + (b8 t 0 - 128), numTo t (b8 t 0 - 128).toNat)

/-- A head's five parts. -/
structure Hd where
  c : Int
  b : Bool
  n : Int
  s : Int
  l : Int
def Hd.zero : Hd := ⟨0, false, 0, 0, 0⟩

/-- The head at the front of a text: which it is (4: another tag), and its parts. -/
def hd (r : ByteArray) : Int × Hd :=
  if r.size = 0 then (3, .zero)
  else if b8 r 0 % 32 = 31 then (4, .zero)
  else if (rl (r.extract 1 r.size)).1 ≠ 0 then ((rl (r.extract 1 r.size)).1, .zero)
  else if (r.size : Int) - ((rl (r.extract 1 r.size)).2.1 + 1) < (rl (r.extract 1 r.size)).2.2 then (3, .zero)
  else (0, ⟨b8 r 0 / 64, b8 r 0 / 32 % 2 == 1, b8 r 0 % 32, (rl (r.extract 1 r.size)).2.1 + 1, (rl (r.extract 1 r.size)).2.2⟩)

theorem rl_bd (t : ByteArray) : ((rl t).1 = 0 ∨ (rl t).1 = 3 ∨ (rl t).1 = 5) ∧ 0 ≤ (rl t).2.1 ∧ (rl t).2.1 ≤ 4 ∧ 0 ≤ (rl t).2.2 ∧ (rl t).2.2 < 16777216 := by
  have hb := b8_bd t 0
  unfold rl
  split
  · simp
  split
  · simp; omega
  split
  · simp
  split
  · simp
  split
  · simp
  · rename_i h1 h2 h3 h4 h5
    have hn := numTo_bd t (b8 t 0 - 128).toNat
    have := hn.2.1 (by omega)
    refine ⟨.inl rfl, ?_, ?_, hn.1, this⟩ <;> simp only <;> omega

/-- A length's bytes. -/
def tl (n : Int) : List UInt8 :=
  if n < 128 then [UInt8.ofNat n.toNat]
  else if n < 256 then [129, UInt8.ofNat n.toNat]
  else if n < 65536 then [130, UInt8.ofNat (n / 256).toNat, UInt8.ofNat (n % 256).toNat]
  else [131, UInt8.ofNat (n / 65536).toNat, UInt8.ofNat (n / 256 % 256).toNat, UInt8.ofNat (n % 256).toNat]
theorem tl_length (n : Int) : ((tl n).length : Int) = 1 + cnt n := by
  unfold tl cnt
  split
  · rfl
  split
  · rfl
  split <;> rfl
/-- The first byte of a head. -/
def fb (h : Hd) : Int := if h.b then h.c * 64 + h.n + 32 else h.c * 64 + h.n
/-- What is told of a head: which it is, and the bytes. -/
def tsp (h : Hd) : Int × List UInt8 :=
  if h.c < 0 ∨ 3 < h.c ∨ h.n < 0 ∨ 30 < h.n then (4, [])
  else if h.l < 0 ∨ 16777215 < h.l then (5, [])
  else (0, UInt8.ofNat (fb h).toNat :: tl h.l)
theorem tsp_code (h : Hd) : (tsp h).1 = 0 ∨ (tsp h).1 = 3 ∨ (tsp h).1 = 4 ∨ (tsp h).1 = 5 := by
  unfold tsp
  repeat' split
  all_goals simp
/-- A byte as a value. -/
def bv (u : UInt8) : Value := .int .u8 u.toNat
theorem bv_of (x : Int) (h0 : 0 ≤ x) (h1 : x < 256) : bv (UInt8.ofNat x.toNat) = .int .u8 x := by
  unfold bv
  have : (UInt8.ofNat x.toNat).toNat = x.toNat := by rw [UInt8.toNat_ofNat']; omega
  rw [this, Int.toNat_of_nonneg h0]
end Go.Proofs.YtkkicodfpekbgaaGreatDoor

/-! Which contents may be: plain mathematics; no program is named here. -/
namespace Go.Proofs.YtkkicodfpekbgaaGreatDoor
set_option linter.unusedSimpArgs false
set_option linter.unusedVariables false

/-- As few bytes as can be. -/
def IntOk (t : ByteArray) : Prop := 1 ≤ t.size ∧ t.size ≤ 20 ∧ (2 ≤ t.size → b8 t 0 * 2 + b8 t 1 / 128 ≠ 0 ∧ b8 t 0 * 2 + b8 t 1 / 128 ≠ 511)
/-- No number has been begun and not ended at k. -/
def btw (t : ByteArray) (k : Nat) : Prop := k = 0 ∨ b8 t (k - 1) < 128
/-- No number before k begins with 128. -/
def oidTo (t : ByteArray) (k : Nat) : Prop := ∀ j, j < k → ¬ (btw t j ∧ b8 t j = 128)
def OidOk (t : ByteArray) : Prop := 1 ≤ t.size ∧ t.size ≤ 20 ∧ oidTo t t.size ∧ btw t t.size
theorem oidTo_succ (t : ByteArray) (k : Nat) : oidTo t (k + 1) ↔ oidTo t k ∧ ¬ (btw t k ∧ b8 t k = 128) := by
  unfold oidTo
  constructor
  · intro h; exact ⟨fun j hj => h j (by omega), h k (by omega)⟩
  · intro h j hj
    by_cases e : j = k
    · subst e; exact h.2
    · exact h.1 j (by omega)
theorem oidTo_zero (t : ByteArray) : oidTo t 0 := fun _ h => absurd h (Nat.not_lt_zero _)
theorem oid_no (t : ByteArray) (k : Nat) (hk : k < t.size) (h : btw t k ∧ b8 t k = 128) : ¬ OidOk t := fun o => o.2.2.1 k hk h
/-- A byte and bytes. -/
def BitsOk (t : ByteArray) : Prop := 1 ≤ t.size ∧ b8 t 0 ≤ 7 ∧ (t.size = 1 → b8 t 0 = 0) ∧ (2 ≤ t.size → b8 t (t.size - 1) % 2 ^ (b8 t 0).toNat = 0)

theorem i64_or1 (x y : Int) (h0 : 0 ≤ x) (h1 : x < 4611686018427387904) (hx : x % 2 = 0) (h2 : 0 ≤ y) (h3 : y < 2) : bits .or .i64 x y = x + y :=
  bits_join .i64 63 (by decide) wraps_i64 1 x y h0 hx (by omega) h2 h3 (by omega)

/-- The trailing zeros of a byte. -/
def tz8 (x : Nat) : Nat := if x = 0 then 8 else (List.range 8).findIdx (fun k => x / 2 ^ k % 2 = 1)
theorem tz8_ge : ∀ x : Fin 256, ∀ k : Fin 8, (k.val ≤ tz8 x.val ↔ x.val % 2 ^ k.val = 0) := by decide +kernel
end Go.Proofs.YtkkicodfpekbgaaGreatDoor

/-! Contents: Int, Oid, Bits: what the program's and the document's functions answer. -/
namespace Go.Proofs.YtkkicodfpekbgaaGreatDoor
set_option linter.unusedSimpArgs false
set_option linter.unusedVariables false
open Go.RowKit

/-- A bool that says whether P, the world but for draws as it was. -/
def RetB (P : Prop) (w : World) (e : Ending) (w' : World) : Prop := ∃ r, e = .returned (.bool r) ∧ (r = true ↔ P) ∧ ∃ k, w' = w.drewN k
theorem ret_no {P : Prop} {w w' : World} (h : ¬ P) (hw : ∃ k, w' = w.drewN k) : RetB P w (.returned (.bool false)) w' := ⟨false, rfl, ⟨fun e => (by cases e), fun p => absurd p h⟩, hw⟩
theorem ret_yes {P : Prop} {w w' : World} (h : P) (hw : ∃ k, w' = w.drewN k) : RetB P w (.returned (.bool true)) w' := ⟨true, rfl, ⟨fun _ => h, fun _ => rfl⟩, hw⟩
theorem ret_iff {P : Prop} {w w' : World} {r : Bool} (h : r = true ↔ P) (hw : ∃ k, w' = w.drewN k) : RetB P w (.returned (.bool r)) w' := ⟨r, rfl, h, hw⟩
/-- A bool that says whether P. -/
def SaysB (P : Prop) (v : Value) : Prop := ∃ q : Bool, v = .bool q ∧ (q = true ↔ P)
theorem drew0 (w : World) : ∃ k, w = w.drewN k := ⟨0, rfl⟩

set_option maxHeartbeats 1000000 in
set_option maxRecDepth 100000 in
theorem fitsInt_any (t : ByteArray) (w : World) (hm : t.size ≤ 9223372036854775807) :
    Calls Tryz.prog 173 #[.string t] w fun e w' => RetB (IntOk t) w e w' := by
  by_cases h1 : t.size < 1
  · clear hm
    go_enter Tryz.func173, Tryz.ntmps173
    go_wp2
    go_ret
    exact ret_no (fun h : IntOk t => by have := h.1; omega) (drew0 w)
  by_cases h2 : 20 < t.size
  · have h2' : (20 : Int) < t.size := by omega
    go_enter Tryz.func173, Tryz.ntmps173
    go_wp2
    go_ret
    exact ret_no (fun h : IntOk t => by have := h.2.1; omega) (drew0 w)
  by_cases h3 : t.size = 1
  · have h3' : ((t.size : Int) == 1) = true := by rw [h3]; rfl
    have HI : Hid (IntOk t) := ⟨by omega, by omega, by omega⟩
    clear h3
    go_enter Tryz.func173, Tryz.ntmps173
    go_wp2
    go_ret
    exact ret_yes HI.out (drew0 w)
  have h3' : ((t.size : Int) == 1) = false := by rw [beq_eq_false_iff_ne]; omega
  have h4 : (0 : Int) < t.size := by omega
  have h5 : (1 : Int) < t.size := by omega
  have h6 : 0 < t.size := by omega
  have h7 : 1 < t.size := by omega
  have e0 := b8_get t 0 h6
  have e1 := b8_get t 1 h7
  have b0 := b8_bd t 0
  have b1 := b8_bd t 1
  have x0 : (t[0].toNat : Int) < 256 := by omega
  have x1 : (t[1].toNat : Int) < 256 := by omega
  have HE : Hid (bits .or .i64 ((t[0].toNat : Int) * 2) ((t[1].toNat : Int) / 128) = b8 t 0 * 2 + b8 t 1 / 128) := by
    show _ = _
    rw [e0, e1, i64_or1 _ _ (by omega) (by omega) (by omega) (by omega) (by omega)]
  have HI : Hid (IntOk t ↔ b8 t 0 * 2 + b8 t 1 / 128 ≠ 0 ∧ b8 t 0 * 2 + b8 t 1 / 128 ≠ 511) := ⟨fun h => h.2.2 (by omega), fun h => ⟨by omega, by omega, fun _ => h⟩⟩
  clear e0 e1
  go_enter Tryz.func173, Tryz.ntmps173
  go_wp2
  go_quiet (fail)
  rw [HE.out]
  generalize b8 t 0 * 2 + b8 t 1 / 128 = x at HI
  by_cases h8 : x = 0
  · have h8' : (x != 0) = false := by rw [bne_eq_false_iff_eq]; exact h8
    have HN : Hid (¬ IntOk t) := fun h => (HI.out.1 h).1 h8
    clear h8
    go_wp2
    go_ret
    exact ret_no HN.out ⟨_, rfl⟩
  have h8' : (x != 0) = true := by rw [bne_iff_ne]; exact h8
  by_cases h9 : x = 511
  · have h9' : (x != 511) = false := by rw [bne_eq_false_iff_eq]; exact h9
    have HN : Hid (¬ IntOk t) := fun h => (HI.out.1 h).2 h9
    clear h9 h8
    go_wp2
    go_ret
    exact ret_no HN.out ⟨_, rfl⟩
  · have h9' : (x != 511) = true := by rw [bne_iff_ne]; exact h9
    have HN : Hid (IntOk t) := HI.out.2 ⟨h8, h9⟩
    clear h9 h8
    go_wp2
    go_ret
    exact ret_yes HN.out ⟨_, rfl⟩

set_option maxHeartbeats 1000000 in
set_option maxRecDepth 100000 in
theorem isInt_any (t : ByteArray) (w : World) (hm : t.size ≤ 9223372036854775807) :
    Calls Tryz.prog 124 #[.string t] w fun e w' => RetB (IntOk t) w e w' := by
  by_cases h1 : t.size < 1
  · have h1' : ((t.size : Int) == 0) = true := by rw [beq_iff_eq]; omega
    go_enter Tryz.func124, Tryz.ntmps124
    go_wp2
    go_ret
    exact ret_no (fun h : IntOk t => by have := h.1; omega) (drew0 w)
  have h1' : ((t.size : Int) == 0) = false := by rw [beq_eq_false_iff_ne]; omega
  by_cases h2 : 20 < t.size
  · have h2' : (20 : Int) < t.size := by omega
    go_enter Tryz.func124, Tryz.ntmps124
    go_wp2
    go_ret
    exact ret_no (fun h : IntOk t => by have := h.2.1; omega) (drew0 w)
  by_cases h3 : t.size = 1
  · have h3' : ((t.size : Int) == 1) = true := by rw [h3]; rfl
    have HI : Hid (IntOk t) := ⟨by omega, by omega, by omega⟩
    clear h3
    go_enter Tryz.func124, Tryz.ntmps124
    go_wp2
    go_ret
    exact ret_yes HI.out (drew0 w)
  have h3' : ((t.size : Int) == 1) = false := by rw [beq_eq_false_iff_ne]; omega
  have h4 : (0 : Int) < t.size := by omega
  have h5 : (1 : Int) < t.size := by omega
  have h6 : 0 < t.size := by omega
  have h7 : 1 < t.size := by omega
  have e0 := b8_get t 0 h6
  have e1 := b8_get t 1 h7
  have b0 := b8_bd t 0
  have b1 := b8_bd t 1
  have x0 : (t[0].toNat : Int) < 256 := by omega
  have x1 : (t[1].toNat : Int) < 256 := by omega
  have HE : Hid ((2 : Int) * (t[0].toNat : Int) + (t[1].toNat : Int) / 128 = b8 t 0 * 2 + b8 t 1 / 128) := by
    show _ = _
    rw [e0, e1]; omega
  have HI : Hid (IntOk t ↔ b8 t 0 * 2 + b8 t 1 / 128 ≠ 0 ∧ b8 t 0 * 2 + b8 t 1 / 128 ≠ 511) := ⟨fun h => h.2.2 (by omega), fun h => ⟨by omega, by omega, fun _ => h⟩⟩
  clear e0 e1
  go_enter Tryz.func124, Tryz.ntmps124
  go_wp2
  go_quiet (fail)
  rw [HE.out]
  generalize b8 t 0 * 2 + b8 t 1 / 128 = x at HI
  by_cases h8 : x = 0
  · have h8' : (x != 0) = false := by rw [bne_eq_false_iff_eq]; exact h8
    have HN : Hid (¬ IntOk t) := fun h => (HI.out.1 h).1 h8
    clear h8
    go_wp2
    go_ret
    exact ret_no HN.out ⟨_, rfl⟩
  have h8' : (x != 0) = true := by rw [bne_iff_ne]; exact h8
  by_cases h9 : x = 511
  · have h9' : (x != 511) = false := by rw [bne_eq_false_iff_eq]; exact h9
    have HN : Hid (¬ IntOk t) := fun h => (HI.out.1 h).2 h9
    clear h9 h8
    go_wp2
    go_ret
    exact ret_no HN.out ⟨_, rfl⟩
  · have h9' : (x != 511) = true := by rw [bne_iff_ne]; exact h9
    have HN : Hid (IntOk t) := HI.out.2 ⟨h8, h9⟩
    clear h9 h8
    go_wp2
    go_ret
    exact ret_yes HN.out ⟨_, rfl⟩

set_option maxHeartbeats 1000000 in
set_option maxRecDepth 100000 in
theorem fitsOid_any (t : ByteArray) (w : World) (hm : t.size ≤ 9223372036854775807) :
    Calls Tryz.prog 174 #[.string t] w fun e w' => RetB (OidOk t) w e w' := by
  by_cases h1 : t.size < 1
  · clear hm
    go_enter Tryz.func174, Tryz.ntmps174
    go_wp2
    go_ret
    exact ret_no (fun h : OidOk t => by have := h.1; omega) (drew0 w)
  by_cases h2 : 20 < t.size
  · have h2' : (20 : Int) < t.size := by omega
    go_enter Tryz.func174, Tryz.ntmps174
    go_wp2
    go_ret
    exact ret_no (fun h : OidOk t => by have := h.2.1; omega) (drew0 w)
  go_enter Tryz.func174, Tryz.ntmps174
  go_wp2
  go_loop [3, 15] (fun bt i => ∃ k : Nat, k ≤ t.size ∧ i = .int .i64 k ∧ oidTo t k ∧ SaysB (btw t k) bt) (fun _ i => t.size - (intOf i).toNat)
  case atStart => exact ⟨0, by omega, rfl, oidTo_zero t, true, rfl, ⟨fun _ => .inl rfl, fun _ => rfl⟩⟩
  case round =>
    obtain ⟨k, hk, rfl, ho, q, rfl, hq⟩ := hrel
    have HO : Hid (oidTo t k) := ho
    have HQ : Hid (q = true ↔ btw t k) := hq
    clear ho hq
    by_cases hlt : k < t.size
    · have HE : Hid ((t[k].toNat : Int) = b8 t k) := b8_get t k hlt
      by_cases hb : (t[k].toNat : Int) = 128
      · have hb' : ((t[k].toNat : Int) == 128) = true := beq_iff_eq.2 hb
        cases q
        · have HX : Hid (oidTo t (k + 1)) := (oidTo_succ t k).2 ⟨HO.out, fun h => by cases HQ.out.2 h.1⟩
          have HY : Hid (¬ btw t (k + 1)) := fun h => by
            rcases h with h | h
            · omega
            · rw [Nat.add_sub_cancel, ← HE.out] at h; omega
          have hd : decide ((t[k].toNat : Int) < 128) = false := decide_eq_false (by omega)
          clear hb
          go_wp2
          go_round
          case rel => exact ⟨k + 1, by omega, by go_num, HX.out, false, rfl, ⟨fun e => (by cases e), fun h => absurd h HY.out⟩⟩
          case measure => simp [intOf]; omega
        · have HN : Hid (¬ OidOk t) := oid_no t k hlt ⟨HQ.out.1 rfl, by rw [← HE.out]; exact hb⟩
          clear hb
          go_wp2
          go_ret
          exact ret_no HN.out (drew0 w)
      · have hb' : ((t[k].toNat : Int) == 128) = false := beq_eq_false_iff_ne.2 hb
        have HX : Hid (oidTo t (k + 1)) := (oidTo_succ t k).2 ⟨HO.out, fun h => hb (HE.out.trans h.2)⟩
        have HY : Hid (decide ((t[k].toNat : Int) < 128) = true ↔ btw t (k + 1)) := by
          show _ ↔ _
          rw [decide_eq_true_iff, HE.out]
          exact ⟨fun h => .inr (by rw [Nat.add_sub_cancel]; exact h), fun h => by rcases h with h | h; (· omega); (· rw [Nat.add_sub_cancel] at h; exact h)⟩
        clear hb
        cases q
        all_goals
          go_wp2
          go_round
          case rel => exact ⟨k + 1, by omega, by go_num, HX.out, _, rfl, HY.out⟩
          case measure => simp [intOf]; omega
    · have hkc : t.size = k := by omega
      have HF : Hid (q = true ↔ OidOk t) := ⟨fun h => ⟨by omega, by omega, by rw [hkc]; exact HO.out, by rw [hkc]; exact HQ.out.1 h⟩, fun h => HQ.out.2 (by rw [← hkc]; exact h.2.2.2)⟩
      clear hkc
      go_wp2
      go_ret
      exact ret_iff HF.out (drew0 w)

set_option maxHeartbeats 1000000 in
set_option maxRecDepth 100000 in
theorem isOid_any (t : ByteArray) (w : World) (hm : t.size ≤ 9223372036854775807) :
    Calls Tryz.prog 129 #[.string t] w fun e w' => RetB (OidOk t) w e w' := by
  by_cases h1 : t.size < 1
  · have h1' : ((t.size : Int) == 0) = true := by rw [beq_iff_eq]; omega
    go_enter Tryz.func129, Tryz.ntmps129
    go_wp2
    go_ret
    exact ret_no (fun h : OidOk t => by have := h.1; omega) (drew0 w)
  have h1' : ((t.size : Int) == 0) = false := by rw [beq_eq_false_iff_ne]; omega
  by_cases h2 : 20 < t.size
  · have h2' : (20 : Int) < t.size := by omega
    go_enter Tryz.func129, Tryz.ntmps129
    go_wp2
    go_ret
    exact ret_no (fun h : OidOk t => by have := h.2.1; omega) (drew0 w)
  have h3 : t.size - 1 < t.size := by omega
  have HL : Hid ((t[t.size - 1].toNat : Int) = b8 t (t.size - 1)) := b8_get t (t.size - 1) h3
  have h20 : (t.size : Int) ≤ 20 := by omega
  by_cases h4 : 127 < (t[t.size - 1].toNat : Int)
  · have HN : Hid (¬ OidOk t) := fun h => by
      rcases h.2.2.2 with h | h
      · omega
      · rw [← HL.out] at h; omega
    go_enter Tryz.func129, Tryz.ntmps129
    go_wp2
    go_ret
    exact ret_no HN.out (drew0 w)
  have HB : Hid (btw t t.size) := .inr (by rw [← HL.out]; omega)
  have hd : decide (127 < (t[t.size - 1].toNat : Int)) = false := decide_eq_false h4
  go_enter Tryz.func129, Tryz.ntmps129
  go_wp2
  go_loop [3] (fun i => ∃ k : Nat, k ≤ t.size ∧ i = .int .i64 k ∧ oidTo t k) (fun i => t.size - (intOf i).toNat)
  case atStart => exact ⟨0, by omega, rfl, oidTo_zero t⟩
  case round =>
    obtain ⟨k, hk, rfl, ho⟩ := hrel
    have HO : Hid (oidTo t k) := ho
    clear ho
    by_cases hlt : k < t.size
    · have HE : Hid ((t[k].toNat : Int) = b8 t k) := b8_get t k hlt
      by_cases hb : (t[k].toNat : Int) = 128
      · have hb' : ((t[k].toNat : Int) == 128) = true := beq_iff_eq.2 hb
        by_cases hz : k = 0
        · have HN : Hid (¬ OidOk t) := oid_no t k hlt ⟨.inl hz, by rw [← HE.out]; exact hb⟩
          have hz' : ((k : Int) == 0) = true := by rw [beq_iff_eq]; omega
          clear hb hz
          go_wp2
          go_ret
          exact ret_no HN.out (drew0 w)
        have hz' : ((k : Int) == 0) = false := by rw [beq_eq_false_iff_ne]; omega
        have hk1 : k - 1 < t.size := by omega
        have HP : Hid ((t[k - 1].toNat : Int) = b8 t (k - 1)) := b8_get t (k - 1) hk1
        by_cases hp : (t[k - 1].toNat : Int) < 128
        · have HN : Hid (¬ OidOk t) := oid_no t k hlt ⟨.inr (by rw [← HP.out]; exact hp), by rw [← HE.out]; exact hb⟩
          have hpos : 1 ≤ k := by omega
          clear hb hz
          go_wp2
          go_ret
          exact ret_no HN.out (drew0 w)
        · have HX : Hid (oidTo t (k + 1)) := (oidTo_succ t k).2 ⟨HO.out, fun h => by
            rcases h.1 with h | h
            · omega
            · rw [← HP.out] at h; omega⟩
          have hpos : 1 ≤ k := by omega
          clear hb hz
          go_wp2
          go_round
          case rel => exact ⟨k + 1, by omega, by go_num, HX.out⟩
          case measure => simp [intOf]; omega
      · have hb' : ((t[k].toNat : Int) == 128) = false := beq_eq_false_iff_ne.2 hb
        have HX : Hid (oidTo t (k + 1)) := (oidTo_succ t k).2 ⟨HO.out, fun h => hb (HE.out.trans h.2)⟩
        clear hb
        go_wp2
        go_round
        case rel => exact ⟨k + 1, by omega, by go_num, HX.out⟩
        case measure => simp [intOf]; omega
    · have hkc : t.size = k := by omega
      have HF : Hid (OidOk t) := ⟨by omega, by omega, by rw [hkc]; exact HO.out, HB.out⟩
      clear hkc
      go_wp2
      go_ret
      exact ret_yes HF.out (drew0 w)

end Go.Proofs.YtkkicodfpekbgaaGreatDoor

/-! Contents: Bits: what the program's and the document's functions answer. -/
namespace Go.Proofs.YtkkicodfpekbgaaGreatDoor
set_option linter.unusedSimpArgs false
set_option linter.unusedVariables false
open Go.RowKit

/-- The library's table of trailing zeros. -/
def tzTab : ByteArray := ⟨#[8, 0, 1, 0, 2, 0, 1, 0, 3, 0, 1, 0, 2, 0, 1, 0, 4, 0, 1, 0, 2, 0, 1, 0, 3, 0, 1, 0, 2, 0, 1, 0, 5, 0, 1, 0, 2, 0, 1, 0, 3, 0, 1, 0, 2, 0, 1, 0, 4, 0, 1, 0, 2, 0, 1, 0, 3, 0, 1, 0, 2, 0, 1, 0, 6, 0, 1, 0, 2, 0, 1, 0, 3, 0, 1, 0, 2, 0, 1, 0, 4, 0, 1, 0, 2, 0, 1, 0, 3, 0, 1, 0, 2, 0, 1, 0, 5, 0, 1, 0, 2, 0, 1, 0, 3, 0, 1, 0, 2, 0, 1, 0, 4, 0, 1, 0, 2, 0, 1, 0, 3, 0, 1, 0, 2, 0, 1, 0, 7, 0, 1, 0, 2, 0, 1, 0, 3, 0, 1, 0, 2, 0, 1, 0, 4, 0, 1, 0, 2, 0, 1, 0, 3, 0, 1, 0, 2, 0, 1, 0, 5, 0, 1, 0, 2, 0, 1, 0, 3, 0, 1, 0, 2, 0, 1, 0, 4, 0, 1, 0, 2, 0, 1, 0, 3, 0, 1, 0, 2, 0, 1, 0, 6, 0, 1, 0, 2, 0, 1, 0, 3, 0, 1, 0, 2, 0, 1, 0, 4, 0, 1, 0, 2, 0, 1, 0, 3, 0, 1, 0, 2, 0, 1, 0, 5, 0, 1, 0, 2, 0, 1, 0, 3, 0, 1, 0, 2, 0, 1, 0, 4, 0, 1, 0, 2, 0, 1, 0, 3, 0, 1, 0, 2, 0, 1, 0]⟩
theorem tzTab_size : tzTab.size = 256 := by decide +kernel
theorem tzTab_get : ∀ j : Fin 256, (tzTab[j.val]'(by rw [tzTab_size]; exact j.isLt)).toNat = tz8 j.val := by decide +kernel
theorem tz8_le : ∀ j : Fin 256, tz8 j.val ≤ 8 := by decide +kernel
theorem ret_i64 {a b : Int} (h : a = b) : Ending.returned (.int .i64 a) = .returned (.int .i64 b) := by rw [h]

set_option maxHeartbeats 1000000 in
set_option maxRecDepth 100000 in
theorem tz8_any (x : Nat) (w : World) (hx : x < 256) :
    Calls Tryz.prog 193 #[.int .u8 x] w fun e w' => e = .returned (.int .i64 (tz8 x)) ∧ w' = w := by
  have HT : Hid (wrap64 ((tzTab[x]'(by rw [tzTab_size]; exact hx)).toNat : Int) = (tz8 x : Int)) := by
    show _ = _
    rw [tzTab_get ⟨x, hx⟩, IntWalk.wrap64_in]
    have := tz8_le ⟨x, hx⟩
    simp only at this ⊢
    omega
  go_enter Tryz.func193, Tryz.ntmps193
  go_wp2
  go_ret
  exact ⟨ret_i64 HT.out, rfl⟩

set_option maxHeartbeats 1000000 in
set_option maxRecDepth 100000 in
theorem fitsBits_any (t : ByteArray) (w : World) (hm : t.size ≤ 9223372036854775807) :
    Calls Tryz.prog 175 #[.string t] w fun e w' => RetB (BitsOk t) w e w' := by
  by_cases h0 : t.size = 0
  · have h0' : ((t.size : Int) == 0) = true := by rw [beq_iff_eq]; omega
    have HN : Hid (¬ BitsOk t) := fun h => by have := h.1; omega
    clear h0
    go_enter Tryz.func175, Tryz.ntmps175
    go_wp2
    go_ret
    exact ret_no HN.out (drew0 w)
  have h0' : ((t.size : Int) == 0) = false := by rw [beq_eq_false_iff_ne]; omega
  have h6 : 0 < t.size := by omega
  have h6' : (0 : Int) < t.size := by omega
  have e0 := b8_get t 0 h6
  have hb0 := b8_bd t 0
  have x0 : (t[0].toNat : Int) < 256 := by omega
  by_cases h1 : t.size = 1
  · have h1' : ((t.size : Int) == 1) = true := by rw [beq_iff_eq]; omega
    have HI : Hid (((t[0].toNat : Int) == 0) = true ↔ BitsOk t) := by
      show _ ↔ _
      rw [beq_iff_eq, e0]
      exact ⟨fun h => ⟨by omega, by omega, fun _ => h, fun _ => by omega⟩, fun h => h.2.2.1 h1⟩
    clear h1 e0
    go_enter Tryz.func175, Tryz.ntmps175
    go_wp2
    go_ret
    exact ret_iff HI.out (drew0 w)
  have h1' : ((t.size : Int) == 1) = false := by rw [beq_eq_false_iff_ne]; omega
  have h3 : t.size - 1 < t.size := by omega
  have h3' : (t.size : Int) - 1 < t.size := by omega
  by_cases h7 : 7 < (t[0].toNat : Int)
  · have h7' : decide ((t[0].toNat : Int) ≤ 7) = false := decide_eq_false (by omega)
    have HN : Hid (¬ BitsOk t) := fun h => by have := h.2.1; omega
    clear e0
    go_enter Tryz.func175, Tryz.ntmps175
    go_wp2
    go_quiet (fail)
    go_wp2
    go_ret
    exact ret_no HN.out ⟨_, rfl⟩
  have h7' : decide ((t[0].toNat : Int) ≤ 7) = true := decide_eq_true (by omega)
  obtain ⟨m, HM⟩ : ∃ m, Hid (t.size = m + 1) := ⟨t.size - 1, by show _ = _; omega⟩
  have hml : m < t.size := by have := HM.out; omega
  have hml' : (m : Int) < t.size := by omega
  have hwr : IntKind.i64.wrap ((t.size : Int) - 1) = (m : Int) := by have := HM.out; rw [wraps_i64 _ (by omega) (by omega)]; omega
  have el := b8_get t m hml
  have hxl : t[m].toNat < 256 := t[m].toNat_lt
  have HI : Hid (decide (t[0].toNat ≤ tz8 t[m].toNat) = true ↔ BitsOk t) := by
    show _ ↔ _
    have hk : t[0].toNat < 8 := by omega
    have := tz8_ge ⟨t[m].toNat, hxl⟩ ⟨t[0].toNat, hk⟩
    simp only at this
    rw [decide_eq_true_iff, this]
    have ep : (b8 t 0).toNat = t[0].toNat := by omega
    have em : t.size - 1 = m := by have := HM.out; omega
    constructor
    · intro h
      refine ⟨by omega, by omega, fun _ => by omega, fun _ => ?_⟩
      rw [ep, em, ← el]
      exact_mod_cast h
    · intro h
      have := h.2.2.2 (by omega)
      rw [ep, em, ← el] at this
      exact_mod_cast this
  clear e0 el h3 h3'
  go_enter Tryz.func175, Tryz.ntmps175
  go_wp2
  go_quiet ((go_at_call 193; exact Calls.quiet_of_same (tz8_any _ _ hxl)))
  go_wp2
  go_ret
  exact ret_iff HI.out ⟨_, rfl⟩

set_option maxHeartbeats 1000000 in
set_option maxRecDepth 100000 in
theorem isBits_any (t : ByteArray) (w : World) (hm : t.size ≤ 9223372036854775807) :
    Calls Tryz.prog 127 #[.string t] w fun e w' => RetB (BitsOk t) w e w' := by
  by_cases h0 : t.size = 0
  · have h0' : ((t.size : Int) == 0) = true := by rw [beq_iff_eq]; omega
    have HN : Hid (¬ BitsOk t) := fun h => by have := h.1; omega
    clear h0
    go_enter Tryz.func127, Tryz.ntmps127
    go_wp2
    go_ret
    exact ret_no HN.out (drew0 w)
  have h0' : ((t.size : Int) == 0) = false := by rw [beq_eq_false_iff_ne]; omega
  have h6 : 0 < t.size := by omega
  have h6' : (0 : Int) < t.size := by omega
  have e0 := b8_get t 0 h6
  have hb0 := b8_bd t 0
  have x0 : (t[0].toNat : Int) < 256 := by omega
  by_cases h7 : 7 < (t[0].toNat : Int)
  · have HN : Hid (¬ BitsOk t) := fun h => by have := h.2.1; omega
    clear e0
    go_enter Tryz.func127, Tryz.ntmps127
    go_wp2
    go_ret
    exact ret_no HN.out (drew0 w)
  by_cases h1 : t.size = 1
  · have h1' : ((t.size : Int) == 1) = true := by rw [beq_iff_eq]; omega
    have HI : Hid (((t[0].toNat : Int) == 0) = true ↔ BitsOk t) := by
      show _ ↔ _
      rw [beq_iff_eq, e0]
      exact ⟨fun h => ⟨by omega, by omega, fun _ => h, fun _ => by omega⟩, fun h => h.2.2.1 h1⟩
    clear h1 e0
    go_enter Tryz.func127, Tryz.ntmps127
    go_wp2
    go_ret
    exact ret_iff HI.out (drew0 w)
  have h1' : ((t.size : Int) == 1) = false := by rw [beq_eq_false_iff_ne]; omega
  have h3 : t.size - 1 < t.size := by omega
  have h3' : (t.size : Int) - 1 < t.size := by omega
  have el := b8_get t (t.size - 1) h3
  have hxl : (t[t.size - 1].toNat : Int) < 256 := by have := t[t.size - 1].toNat_lt; omega
  have HI : Hid (((t[t.size - 1].toNat : Int) % ((2 ^ t[0].toNat : Nat) : Int) == 0) = true ↔ BitsOk t) := by
    show _ ↔ _
    have ep : (b8 t 0).toNat = t[0].toNat := by omega
    rw [beq_iff_eq]
    constructor
    · intro h
      refine ⟨by omega, by omega, fun _ => by omega, fun _ => ?_⟩
      rw [ep, ← el]
      exact_mod_cast h
    · intro h
      have := h.2.2.2 (by omega)
      rw [ep, ← el] at this
      exact_mod_cast this
  clear e0 el
  go_enter Tryz.func127, Tryz.ntmps127
  go_wp2
  go_loop [3, 4] (fun p i => ∃ k : Nat, k ≤ t[0].toNat ∧ i = .int .i64 k ∧ p = .int .i64 ((2 ^ k : Nat) : Int)) (fun _ i => t[0].toNat - (intOf i).toNat)
  case atStart => exact ⟨0, by omega, rfl, rfl⟩
  case round =>
    obtain ⟨k, hk, rfl, rfl⟩ := hrel
    have hp1 : 2 ^ k ≤ 2 ^ 7 := Nat.pow_le_pow_right (by omega) (by omega)
    have hp0 : 0 < 2 ^ k := Nat.two_pow_pos k
    have HP : Hid (2 ^ (k + 1) = 2 ^ k * 2) := Nat.pow_succ 2 k
    by_cases hlt : k < t[0].toNat
    · generalize hq : 2 ^ k = q at hp1 hp0 HP
      have HQ : Hid (2 ^ k = q) := hq
      clear hq
      go_wp2
      go_round
      case rel => exact ⟨k + 1, by omega, by go_num, by rw [HP.out]; go_num⟩
      case measure => simp [intOf]; omega
    · have hkc : t[0].toNat = k := by omega
      rw [hkc] at HI
      generalize 2 ^ k = q at hp1 hp0 HI
      have hq0 : ((q : Int) == 0) = false := by rw [beq_eq_false_iff_ne]; omega
      clear hkc
      go_wp2
      go_ret
      exact ret_iff HI.out (drew0 w)
end Go.Proofs.YtkkicodfpekbgaaGreatDoor

/-! Contents: Printable: what the program's and the document's functions answer. -/
namespace Go.Proofs.YtkkicodfpekbgaaGreatDoor
set_option linter.unusedSimpArgs false
set_option linter.unusedVariables false
open Go.RowKit

/-- The signs beside letters and digits. -/
def signs : List UInt8 := [32, 39, 40, 41, 43, 44, 45, 46, 47, 58, 61, 63]
/-- A sign that a Printable may have. -/
def pr (x : Nat) : Bool := (65 ≤ x && x ≤ 90) || (97 ≤ x && x ≤ 122) || (48 ≤ x && x ≤ 57) || signs.contains (UInt8.ofNat x)
def PrOk (t : ByteArray) : Prop := ∀ i, i < t.size → pr (b8 t i).toNat = true
theorem idx_signs : ∀ x : Fin 256, decide (0 ≤ Lib.indexByte signs (Nat.toUInt8 x.val)) = signs.contains (UInt8.ofNat x.val) := by decide +kernel
/-- All of them, as the document lists them. -/
def prAll : List UInt8 := [48, 49, 50, 51, 52, 53, 54, 55, 56, 57, 97, 98, 99, 100, 101, 102, 103, 104, 105, 106, 107, 108, 109, 110, 111, 112, 113, 114, 115, 116, 117, 118, 119, 120, 121, 122, 65, 66, 67, 68, 69, 70, 71, 72, 73, 74, 75, 76, 77, 78, 79, 80, 81, 82, 83, 84, 85, 86, 87, 88, 89, 90, 32, 39, 40, 41, 43, 44, 45, 46, 47, 58, 61, 63]
theorem pr_all : ∀ x : Fin 256, pr x.val = prAll.contains (UInt8.ofNat x.val) := by decide +kernel

theorem Tryz.callIdx (t : ByteArray) (c : Int) (w : World) : (callFunc 212 #[.string t, .int .u8 c]).run Tryz.prog w = .ok (.value (.int .i64 (Lib.indexByte t.data.toList c.toNat.toUInt8))) w := by
  rw [@run_callFunc_extern Tryz.prog 212 _ Extern.BytealgIndexByte.indexByte Tryz.func212 (by kernel_rfl) (by kernel_rfl) (by kernel_rfl) (by kernel_rfl), Lib.run_indexByteString]
  rfl

theorem ret_b {a b : Bool} (h : a = b) : Ending.returned (.bool a) = .returned (.bool b) := by rw [h]

set_option maxHeartbeats 1000000 in
set_option maxRecDepth 100000 in
theorem isPrintable_any (x : Nat) (w : World) (hx : x < 256) :
    Calls Tryz.prog 195 #[.int .u8 x] w fun e w' => e = .returned (.bool (pr x)) ∧ w' = w := by
  by_cases h1 : 65 ≤ x ∧ x ≤ 90
  · have HP : Hid (true = pr x) := by show _ = _; simp [pr, h1]
    obtain ⟨h1, h2⟩ := h1
    go_enter Tryz.func195, Tryz.ntmps195
    go_wp2
    go_ret
    exact ⟨ret_b HP.out, rfl⟩
  by_cases h2 : 97 ≤ x ∧ x ≤ 122
  · have HP : Hid (true = pr x) := by show _ = _; simp [pr, h2]
    have h3 : decide ((x : Int) ≤ 90) = false := decide_eq_false (by omega)
    obtain ⟨h4, h5⟩ := h2
    clear h1
    go_enter Tryz.func195, Tryz.ntmps195
    go_wp2
    go_ret
    exact ⟨ret_b HP.out, rfl⟩
  by_cases h3 : 48 ≤ x ∧ x ≤ 57
  · have HP : Hid (true = pr x) := by show _ = _; simp [pr, h3]
    have h4 : decide ((65 : Int) ≤ (x : Int)) = false := decide_eq_false (by omega)
    have h5 : decide ((97 : Int) ≤ (x : Int)) = false := decide_eq_false (by omega)
    obtain ⟨h6, h7⟩ := h3
    clear h1 h2
    go_enter Tryz.func195, Tryz.ntmps195
    go_wp2
    go_ret
    exact ⟨ret_b HP.out, rfl⟩
  have HP : Hid (decide (0 ≤ Lib.indexByte signs (Nat.toUInt8 x)) = pr x) := by
    show _ = _
    rw [idx_signs ⟨x, hx⟩]
    have e1 : (decide (65 ≤ x) && decide (x ≤ 90)) = false := by simp; omega
    have e2 : (decide (97 ≤ x) && decide (x ≤ 122)) = false := by simp; omega
    have e3 : (decide (48 ≤ x) && decide (x ≤ 57)) = false := by simp; omega
    simp only [pr, e1, e2, e3, Bool.false_or]
  have hi := Tryz.callIdx
  by_cases q1 : x < 48
  · have c0 : decide ((65 : Int) ≤ (x : Int)) = false := decide_eq_false (by omega)
    have c1 : decide ((x : Int) ≤ 90) = true := decide_eq_true (by omega)
    have c2 : decide ((97 : Int) ≤ (x : Int)) = false := decide_eq_false (by omega)
    have c3 : decide ((x : Int) ≤ 122) = true := decide_eq_true (by omega)
    have c4 : decide ((48 : Int) ≤ (x : Int)) = false := decide_eq_false (by omega)
    have c5 : decide ((x : Int) ≤ 57) = true := decide_eq_true (by omega)
    clear h1 h2 h3 hx
    go_enter Tryz.func195, Tryz.ntmps195
    go_wp2
    go_ret
    exact ⟨ret_b HP.out, rfl⟩
  by_cases q2 : x < 65
  · have c0 : decide ((65 : Int) ≤ (x : Int)) = false := decide_eq_false (by omega)
    have c1 : decide ((x : Int) ≤ 90) = true := decide_eq_true (by omega)
    have c2 : decide ((97 : Int) ≤ (x : Int)) = false := decide_eq_false (by omega)
    have c3 : decide ((x : Int) ≤ 122) = true := decide_eq_true (by omega)
    have c4 : decide ((48 : Int) ≤ (x : Int)) = true := decide_eq_true (by omega)
    have c5 : decide ((x : Int) ≤ 57) = false := decide_eq_false (by omega)
    clear h1 h2 h3 hx
    go_enter Tryz.func195, Tryz.ntmps195
    go_wp2
    go_ret
    exact ⟨ret_b HP.out, rfl⟩
  by_cases q3 : x < 97
  · have c0 : decide ((65 : Int) ≤ (x : Int)) = true := decide_eq_true (by omega)
    have c1 : decide ((x : Int) ≤ 90) = false := decide_eq_false (by omega)
    have c2 : decide ((97 : Int) ≤ (x : Int)) = false := decide_eq_false (by omega)
    have c3 : decide ((x : Int) ≤ 122) = true := decide_eq_true (by omega)
    have c4 : decide ((48 : Int) ≤ (x : Int)) = true := decide_eq_true (by omega)
    have c5 : decide ((x : Int) ≤ 57) = false := decide_eq_false (by omega)
    clear h1 h2 h3 hx
    go_enter Tryz.func195, Tryz.ntmps195
    go_wp2
    go_ret
    exact ⟨ret_b HP.out, rfl⟩
  have c0 : decide ((65 : Int) ≤ (x : Int)) = true := decide_eq_true (by omega)
  have c1 : decide ((x : Int) ≤ 90) = false := decide_eq_false (by omega)
  have c2 : decide ((97 : Int) ≤ (x : Int)) = true := decide_eq_true (by omega)
  have c3 : decide ((x : Int) ≤ 122) = false := decide_eq_false (by omega)
  have c4 : decide ((48 : Int) ≤ (x : Int)) = true := decide_eq_true (by omega)
  have c5 : decide ((x : Int) ≤ 57) = false := decide_eq_false (by omega)
  clear h1 h2 h3 hx
  go_enter Tryz.func195, Tryz.ntmps195
  go_wp2
  go_ret
  exact ⟨ret_b HP.out, rfl⟩

set_option maxHeartbeats 1000000 in
set_option maxRecDepth 100000 in
theorem in_any (x : Nat) (s : ByteArray) (w : World) (hm : s.size ≤ 9223372036854775807) :
    Calls Tryz.prog 166 #[.int .u8 x, .string s] w fun e w' => RetB (∃ j, j < s.size ∧ b8 s j = x) w e w' := by
  go_enter Tryz.func166, Tryz.ntmps166
  go_wp2
  go_loop [5] (fun i => ∃ k : Nat, k ≤ s.size ∧ i = .int .i64 k ∧ ∀ j, j < k → b8 s j ≠ x) (fun i => s.size - (intOf i).toNat)
  case atStart => exact ⟨0, by omega, rfl, fun j h => absurd h (Nat.not_lt_zero _)⟩
  case round =>
    obtain ⟨k, hk, rfl, hj⟩ := hrel
    have HJ : Hid (∀ j, j < k → b8 s j ≠ x) := hj
    clear hj
    by_cases hlt : k < s.size
    · have HE : Hid ((s[k].toNat : Int) = b8 s k) := b8_get s k hlt
      by_cases hb : (s[k].toNat : Int) = x
      · have hb' : ((s[k].toNat : Int) == x) = true := beq_iff_eq.2 hb
        have HY : Hid (∃ j, j < s.size ∧ b8 s j = x) := ⟨k, hlt, by rw [← HE.out]; exact hb⟩
        clear hb
        go_wp2
        go_ret
        exact ret_yes HY.out (drew0 w)
      · have hb' : ((s[k].toNat : Int) == x) = false := beq_eq_false_iff_ne.2 hb
        have HX : Hid (∀ j, j < k + 1 → b8 s j ≠ x) := fun j hj => by
          by_cases e : j = k
          · subst e; rw [← HE.out]; exact hb
          · exact HJ.out j (by omega)
        clear hb
        go_wp2
        go_round
        case rel => exact ⟨k + 1, by omega, by go_num, HX.out⟩
        case measure => simp [intOf]; omega
    · have HN : Hid (¬ ∃ j, j < s.size ∧ b8 s j = x) := fun ⟨j, h1, h2⟩ => HJ.out j (by omega) h2
      go_wp2
      go_ret
      exact ret_no HN.out (drew0 w)

set_option maxHeartbeats 1000000 in
set_option maxRecDepth 100000 in
theorem all_any (t s : ByteArray) (w : World) (ht : t.size ≤ 9223372036854775807) (hm : s.size ≤ 9223372036854775807) :
    Calls Tryz.prog 123 #[.string t, .string s] w fun e w' => RetB (∀ i, i < t.size → ∃ j, j < s.size ∧ b8 s j = b8 t i) w e w' := by
  go_enter Tryz.func123, Tryz.ntmps123
  go_wp2
  go_loopw [5] (fun i wr => ∃ k : Nat, k ≤ t.size ∧ i = .int .i64 k ∧ (∀ i, i < k → ∃ j, j < s.size ∧ b8 s j = b8 t i) ∧ ∃ q, wr = w.drewN q) (fun i _ => t.size - (intOf i).toNat)
  case atStart => exact ⟨0, by omega, rfl, fun j h => absurd h (Nat.not_lt_zero _), drew0 w⟩
  case round =>
    obtain ⟨k, hk, rfl, hj, hw⟩ := hrel
    have HJ : Hid (∀ i, i < k → ∃ j, j < s.size ∧ b8 s j = b8 t i) := hj
    have HW : Hid (∃ q, wr = w.drewN q) := hw
    clear hj hw
    by_cases hlt : k < t.size
    · have HE : Hid ((t[k].toNat : Int) = b8 t k) := b8_get t k hlt
      go_wp2_with fail
      refine (in_any t[k].toNat s _ hm).mono ?_
      rintro e w2 ⟨r, rfl, hr, hd⟩
      have HR : Hid (r = true ↔ ∃ j, j < s.size ∧ b8 s j = t[k].toNat) := hr
      have HD : Hid (∃ q, w2 = w.drewN q) := by
        obtain ⟨a, e1⟩ := HW.out
        obtain ⟨b, e2⟩ := hd
        exact ⟨a + b, by rw [e2, e1, World.drewN_drewN]⟩
      clear hr hd
      cases r
      · have HN : Hid (¬ ∀ i, i < t.size → ∃ j, j < s.size ∧ b8 s j = b8 t i) := fun h => by
          have := h k hlt
          rw [← HE.out] at this
          cases HR.out.2 this
        go_wp2
        go_ret
        exact ret_no HN.out HD.out
      · have HX : Hid (∀ i, i < k + 1 → ∃ j, j < s.size ∧ b8 s j = b8 t i) := fun i hi => by
          by_cases e : i = k
          · subst e; rw [← HE.out]; exact HR.out.1 rfl
          · exact HJ.out i (by omega)
        go_wp2
        go_roundw
        case rel => exact ⟨k + 1, by omega, by go_num, HX.out, HD.out⟩
        case measure => simp [intOf]; omega
    · have HY : Hid (∀ i, i < t.size → ∃ j, j < s.size ∧ b8 s j = b8 t i) := fun i hi => HJ.out i (by omega)
      go_wp2
      go_ret
      exact ret_yes HY.out HW.out

set_option maxHeartbeats 1000000 in
set_option maxRecDepth 100000 in
theorem fitsPrintable_any (t : ByteArray) (w : World) (hm : t.size ≤ 9223372036854775807) :
    Calls Tryz.prog 177 #[.string t] w fun e w' => RetB (PrOk t) w e w' := by
  go_enter Tryz.func177, Tryz.ntmps177
  go_wp2
  go_loop [6] (fun i => ∃ k : Nat, k ≤ t.size ∧ i = .int .i64 k ∧ ∀ i, i < k → pr (b8 t i).toNat = true) (fun i => t.size - (intOf i).toNat)
  case atStart => exact ⟨0, by omega, rfl, fun j h => absurd h (Nat.not_lt_zero _)⟩
  case round =>
    obtain ⟨k, hk, rfl, hj⟩ := hrel
    have HJ : Hid (∀ i, i < k → pr (b8 t i).toNat = true) := hj
    clear hj
    by_cases hlt : k < t.size
    · have HE : Hid ((b8 t k).toNat = t[k].toNat) := by show _ = _; rw [← b8_get t k hlt]; rfl
      have hx : t[k].toNat < 256 := t[k].toNat_lt
      go_wp2_with fail
      refine (isPrintable_any t[k].toNat _ hx).mono ?_
      rintro e w2 ⟨rfl, hw⟩
      subst hw
      cases hb : pr t[k].toNat
      · have HN : Hid (¬ PrOk t) := fun h => by
          have := h k hlt
          rw [HE.out, hb] at this
          cases this
        clear hb
        go_wp2
        go_ret
        exact ret_no HN.out (drew0 _)
      · have HX : Hid (∀ i, i < k + 1 → pr (b8 t i).toNat = true) := fun i hi => by
          by_cases e : i = k
          · subst e; rw [HE.out]; exact hb
          · exact HJ.out i (by omega)
        clear hb
        go_wp2
        go_round
        case rel => exact ⟨k + 1, by omega, by go_num, HX.out⟩
        case measure => simp [intOf]; omega
    · have HY : Hid (PrOk t) := fun i hi => HJ.out i (by omega)
      go_wp2
      go_ret
      exact ret_yes HY.out (drew0 w)

theorem prAll_size : (⟨prAll.toArray⟩ : ByteArray).size = 74 := by decide +kernel
theorem prAll_in : ∀ x : Fin 256, (prAll.contains (UInt8.ofNat x.val) = true ↔ ∃ j : Fin 74, ((prAll.getD j.val 0).toNat) = x.val) := by decide +kernel
theorem prOk_iff (t : ByteArray) : (∀ i, i < t.size → ∃ j, j < (⟨prAll.toArray⟩ : ByteArray).size ∧ b8 ⟨prAll.toArray⟩ j = b8 t i) ↔ PrOk t := by
  unfold PrOk
  have key : ∀ i, (∃ j, j < (⟨prAll.toArray⟩ : ByteArray).size ∧ b8 ⟨prAll.toArray⟩ j = b8 t i) ↔ pr (b8 t i).toNat = true := fun i => by
    have hb := b8_bd t i
    have hx : (b8 t i).toNat < 256 := by omega
    rw [pr_all ⟨_, hx⟩, prAll_in ⟨_, hx⟩, prAll_size]
    constructor
    · rintro ⟨j, hj, e⟩
      refine ⟨⟨j, hj⟩, ?_⟩
      have : b8 ⟨prAll.toArray⟩ j = ((prAll.getD j 0).toNat : Int) := by simp [b8]
      simp only
      omega
    · rintro ⟨j, e⟩
      refine ⟨j.val, j.isLt, ?_⟩
      have : b8 ⟨prAll.toArray⟩ j.val = ((prAll.getD j.val 0).toNat : Int) := by simp [b8]
      simp only at e
      omega
  exact ⟨fun h i hi => (key i).1 (h i hi), fun h i hi => (key i).2 (h i hi)⟩

set_option maxHeartbeats 1000000 in
set_option maxRecDepth 100000 in
theorem isPrintableRef_any (t : ByteArray) (w : World) (hm : t.size ≤ 9223372036854775807) :
    Calls Tryz.prog 81 #[.string t] w fun e w' => RetB (PrOk t) w e w' := by
  go_enter Tryz.func81, Tryz.ntmps81
  go_wp2_with fail
  refine (all_any t ⟨prAll.toArray⟩ _ hm (by rw [prAll_size]; decide)).mono ?_
  rintro e w2 ⟨r, rfl, hr, hd⟩
  have HR : Hid (r = true ↔ PrOk t) := hr.trans (prOk_iff t)
  have HD : Hid (∃ k, w2 = w.drewN k) := hd
  clear hr hd
  go_wp2_with fail
  go_ret
  exact ret_iff HR.out HD.out
end Go.Proofs.YtkkicodfpekbgaaGreatDoor

/-! Contents: Utf8: what the document's functions answer. -/
namespace Go.Proofs.YtkkicodfpekbgaaGreatDoor
set_option linter.unusedSimpArgs false
set_option linter.unusedVariables false
open Go.RowKit

/-- The byte at a place is from lo to hi. -/
def goB (t : ByteArray) (a : Nat) (lo hi : Int) : Bool := decide (a < t.size ∧ lo ≤ b8 t a ∧ b8 t a ≤ hi)
def loB (b : Int) : Int := if b = 224 then 160 else if b = 240 then 144 else 128
def hiB (b : Int) : Int := if b = 237 then 159 else if b = 244 then 143 else 191
/-- How many bytes the character has that begins at a place; 0: none does. -/
def chr (t : ByteArray) (a : Nat) : Nat :=
  if b8 t a < 128 then 1
  else if 194 ≤ b8 t a ∧ b8 t a < 224 ∧ goB t (a + 1) (loB (b8 t a)) (hiB (b8 t a)) = true then 2
  else if 224 ≤ b8 t a ∧ b8 t a < 240 ∧ goB t (a + 1) (loB (b8 t a)) (hiB (b8 t a)) = true ∧ goB t (a + 2) 128 191 = true then 3
  else if 240 ≤ b8 t a ∧ b8 t a < 245 ∧ goB t (a + 1) (loB (b8 t a)) (hiB (b8 t a)) = true ∧ goB t (a + 2) 128 191 = true ∧ goB t (a + 3) 128 191 = true then 4
  else 0

set_option maxHeartbeats 400000 in
set_option maxRecDepth 100000 in
theorem goes_any (t : ByteArray) (a : Nat) (lo hi : Int) (w : World) (_hm : t.size ≤ 9223372036854775807) :
    Calls Tryz.prog 190 #[.string t, .int .i64 a, .int .i64 lo, .int .i64 hi] w fun e w' => e = .returned (.bool (goB t a lo hi)) ∧ w' = w := by
  by_cases h1 : a < t.size
  · have HE : Hid ((t[a].toNat : Int) = b8 t a) := b8_get t a h1
    have hx : (t[a].toNat : Int) < 256 := by have := t[a].toNat_lt; omega
    by_cases h2 : lo ≤ (t[a].toNat : Int)
    · have HV : Hid (decide ((t[a].toNat : Int) ≤ hi) = goB t a lo hi) := by
        show _ = _
        unfold goB
        rw [Bool.eq_iff_iff, decide_eq_true_iff, decide_eq_true_iff, ← HE.out]
        exact ⟨fun h => ⟨h1, h2, h⟩, fun h => h.2.2⟩
      go_enter Tryz.func190, Tryz.ntmps190
      go_wp2
      go_ret
      exact ⟨ret_b HV.out, rfl⟩
    · have HV : Hid (false = goB t a lo hi) := by
        show _ = _
        unfold goB
        rw [eq_comm, decide_eq_false_iff_not, ← HE.out]
        exact fun h => h2 h.2.1
      have c1 : decide (lo ≤ (t[a].toNat : Int)) = false := decide_eq_false h2
      go_enter Tryz.func190, Tryz.ntmps190
      go_wp2
      go_ret
      exact ⟨ret_b HV.out, rfl⟩
  · have HV : Hid (false = goB t a lo hi) := by
      show _ = _
      unfold goB
      rw [eq_comm, decide_eq_false_iff_not]
      exact fun h => h1 h.1
    have c1 : decide ((a : Int) < (t.size : Int)) = false := decide_eq_false (by omega)
    go_enter Tryz.func190, Tryz.ntmps190
    go_wp2
    go_ret
    exact ⟨ret_b HV.out, rfl⟩

theorem chr_1 (t : ByteArray) (a : Nat) (h : b8 t a < 128) : chr t a = 1 := by unfold chr; rw [if_pos h]
theorem chr_0 (t : ByteArray) (a : Nat) (h : (128 ≤ b8 t a ∧ b8 t a < 194) ∨ 245 ≤ b8 t a) : chr t a = 0 := by
  unfold chr
  rw [if_neg (by omega), if_neg (by omega), if_neg (by omega), if_neg (by omega)]
theorem chr_2 (t : ByteArray) (a : Nat) (lo hi : Int) (h0 : 194 ≤ b8 t a) (h1 : b8 t a < 224) (hl : loB (b8 t a) = lo) (hh : hiB (b8 t a) = hi) : chr t a = if goB t (a + 1) lo hi = true then 2 else 0 := by
  unfold chr
  rw [if_neg (by omega), hl, hh]
  by_cases h : goB t (a + 1) lo hi = true
  · rw [if_pos ⟨h0, h1, h⟩, if_pos h]
  · rw [if_neg (fun x => h x.2.2), if_neg (by omega), if_neg (by omega), if_neg h]
theorem chr_3 (t : ByteArray) (a : Nat) (lo hi : Int) (h0 : 224 ≤ b8 t a) (h1 : b8 t a < 240) (hl : loB (b8 t a) = lo) (hh : hiB (b8 t a) = hi) : chr t a = if goB t (a + 1) lo hi = true ∧ goB t (a + 2) 128 191 = true then 3 else 0 := by
  unfold chr
  rw [if_neg (by omega), if_neg (by omega), hl, hh]
  by_cases h : goB t (a + 1) lo hi = true ∧ goB t (a + 2) 128 191 = true
  · rw [if_pos ⟨h0, h1, h.1, h.2⟩, if_pos h]
  · rw [if_neg (fun x => h x.2.2), if_neg (by omega), if_neg h]
theorem chr_4 (t : ByteArray) (a : Nat) (lo hi : Int) (h0 : 240 ≤ b8 t a) (h1 : b8 t a < 245) (hl : loB (b8 t a) = lo) (hh : hiB (b8 t a) = hi) : chr t a = if goB t (a + 1) lo hi = true ∧ goB t (a + 2) 128 191 = true ∧ goB t (a + 3) 128 191 = true then 4 else 0 := by
  unfold chr
  rw [if_neg (by omega), if_neg (by omega), if_neg (by omega), hl, hh]
  by_cases h : goB t (a + 1) lo hi = true ∧ goB t (a + 2) 128 191 = true ∧ goB t (a + 3) 128 191 = true
  · rw [if_pos ⟨h0, h1, h.1, h.2.1, h.2.2⟩, if_pos h]
  · rw [if_neg (fun x => h x.2.2), if_neg h]

set_option maxHeartbeats 400000 in
set_option maxRecDepth 100000 in
theorem char_1 (t : ByteArray) (a : Nat) (w : World) (hm : t.size ≤ 140737488355328) (ha : a < t.size) (hr : (t[a].toNat : Int) < 128) :
    Calls Tryz.prog 167 #[.string t, .int .i64 a] w fun e w' => e = .returned (.int .i64 (chr t a)) ∧ w' = w := by
  have HE : Hid ((t[a].toNat : Int) = b8 t a) := b8_get t a ha
  have hx : (t[a].toNat : Int) < 256 := by have := t[a].toNat_lt; omega
  have G1 : Hid (∀ w, Calls Tryz.prog 190 #[.string t, .int .i64 ((a : Int) + 1), .int .i64 128, .int .i64 191] w fun e w' => e = .returned (.bool (goB t (a + 1) 128 191)) ∧ w = w') := fun w => (goes_any t (a + 1) 128 191 w (by omega)).mono fun e w' h => ⟨h.1, h.2.symm⟩
  have G2 : Hid (∀ w, Calls Tryz.prog 190 #[.string t, .int .i64 ((a : Int) + 2), .int .i64 128, .int .i64 191] w fun e w' => e = .returned (.bool (goB t (a + 2) 128 191)) ∧ w = w') := fun w => (goes_any t (a + 2) 128 191 w (by omega)).mono fun e w' h => ⟨h.1, h.2.symm⟩
  have G3 : Hid (∀ w, Calls Tryz.prog 190 #[.string t, .int .i64 ((a : Int) + 3), .int .i64 128, .int .i64 191] w fun e w' => e = .returned (.bool (goB t (a + 3) 128 191)) ∧ w = w') := fun w => (goes_any t (a + 3) 128 191 w (by omega)).mono fun e w' h => ⟨h.1, h.2.symm⟩
  have HC : Hid (chr t a = 1) := chr_1 t a (by rw [← HE.out]; exact hr)
  have e224 : ((t[a].toNat : Int) == 224) = false := by rw [beq_eq_false_iff_ne]; omega
  have e237 : ((t[a].toNat : Int) == 237) = false := by rw [beq_eq_false_iff_ne]; omega
  have e240 : ((t[a].toNat : Int) == 240) = false := by rw [beq_eq_false_iff_ne]; omega
  have e244 : ((t[a].toNat : Int) == 244) = false := by rw [beq_eq_false_iff_ne]; omega
  have d1 : decide ((t[a].toNat : Int) < 128) = true := decide_eq_true (by omega)
  have d2 : decide ((194 : Int) ≤ (t[a].toNat : Int)) = false := decide_eq_false (by omega)
  have d3 : decide ((t[a].toNat : Int) < 224) = true := decide_eq_true (by omega)
  have d4 : decide ((224 : Int) ≤ (t[a].toNat : Int)) = false := decide_eq_false (by omega)
  have d5 : decide ((t[a].toNat : Int) < 240) = true := decide_eq_true (by omega)
  have d6 : decide ((240 : Int) ≤ (t[a].toNat : Int)) = false := decide_eq_false (by omega)
  have d7 : decide ((t[a].toNat : Int) < 245) = true := decide_eq_true (by omega)
  generalize chr t a = res at HC ⊢
  generalize goB t (a + 1) 128 191 = one at G1
  generalize goB t (a + 2) 128 191 = two at G2
  generalize goB t (a + 3) 128 191 = three at G3
  clear hr
  go_enter Tryz.func167, Tryz.ntmps167
  go_wp2_with fail
  refine Calls.mono (G1.out _) ?_
  rintro e w2 ⟨rfl, rfl⟩
  go_wp2_with fail
  refine Calls.mono (G2.out _) ?_
  rintro e w3 ⟨rfl, rfl⟩
  go_wp2_with fail
  refine Calls.mono (G3.out _) ?_
  rintro e w4 ⟨rfl, rfl⟩
  go_wp2_with fail
  go_ret
  exact ⟨ret_i64 (by rw [HC.out]; rfl), rfl⟩

set_option maxHeartbeats 400000 in
set_option maxRecDepth 100000 in
theorem char_2 (t : ByteArray) (a : Nat) (w : World) (hm : t.size ≤ 140737488355328) (ha : a < t.size) (hr : 128 ≤ (t[a].toNat : Int) ∧ (t[a].toNat : Int) < 194) :
    Calls Tryz.prog 167 #[.string t, .int .i64 a] w fun e w' => e = .returned (.int .i64 (chr t a)) ∧ w' = w := by
  have HE : Hid ((t[a].toNat : Int) = b8 t a) := b8_get t a ha
  have hx : (t[a].toNat : Int) < 256 := by have := t[a].toNat_lt; omega
  have G1 : Hid (∀ w, Calls Tryz.prog 190 #[.string t, .int .i64 ((a : Int) + 1), .int .i64 128, .int .i64 191] w fun e w' => e = .returned (.bool (goB t (a + 1) 128 191)) ∧ w = w') := fun w => (goes_any t (a + 1) 128 191 w (by omega)).mono fun e w' h => ⟨h.1, h.2.symm⟩
  have G2 : Hid (∀ w, Calls Tryz.prog 190 #[.string t, .int .i64 ((a : Int) + 2), .int .i64 128, .int .i64 191] w fun e w' => e = .returned (.bool (goB t (a + 2) 128 191)) ∧ w = w') := fun w => (goes_any t (a + 2) 128 191 w (by omega)).mono fun e w' h => ⟨h.1, h.2.symm⟩
  have G3 : Hid (∀ w, Calls Tryz.prog 190 #[.string t, .int .i64 ((a : Int) + 3), .int .i64 128, .int .i64 191] w fun e w' => e = .returned (.bool (goB t (a + 3) 128 191)) ∧ w = w') := fun w => (goes_any t (a + 3) 128 191 w (by omega)).mono fun e w' h => ⟨h.1, h.2.symm⟩
  have HC : Hid (chr t a = 0) := chr_0 t a (by rw [← HE.out]; omega)
  have e224 : ((t[a].toNat : Int) == 224) = false := by rw [beq_eq_false_iff_ne]; omega
  have e237 : ((t[a].toNat : Int) == 237) = false := by rw [beq_eq_false_iff_ne]; omega
  have e240 : ((t[a].toNat : Int) == 240) = false := by rw [beq_eq_false_iff_ne]; omega
  have e244 : ((t[a].toNat : Int) == 244) = false := by rw [beq_eq_false_iff_ne]; omega
  have d1 : decide ((t[a].toNat : Int) < 128) = false := decide_eq_false (by omega)
  have d2 : decide ((194 : Int) ≤ (t[a].toNat : Int)) = false := decide_eq_false (by omega)
  have d3 : decide ((t[a].toNat : Int) < 224) = true := decide_eq_true (by omega)
  have d4 : decide ((224 : Int) ≤ (t[a].toNat : Int)) = false := decide_eq_false (by omega)
  have d5 : decide ((t[a].toNat : Int) < 240) = true := decide_eq_true (by omega)
  have d6 : decide ((240 : Int) ≤ (t[a].toNat : Int)) = false := decide_eq_false (by omega)
  have d7 : decide ((t[a].toNat : Int) < 245) = true := decide_eq_true (by omega)
  generalize chr t a = res at HC ⊢
  generalize goB t (a + 1) 128 191 = one at G1
  generalize goB t (a + 2) 128 191 = two at G2
  generalize goB t (a + 3) 128 191 = three at G3
  clear hr
  go_enter Tryz.func167, Tryz.ntmps167
  go_wp2_with fail
  refine Calls.mono (G1.out _) ?_
  rintro e w2 ⟨rfl, rfl⟩
  go_wp2_with fail
  refine Calls.mono (G2.out _) ?_
  rintro e w3 ⟨rfl, rfl⟩
  go_wp2_with fail
  refine Calls.mono (G3.out _) ?_
  rintro e w4 ⟨rfl, rfl⟩
  go_wp2_with fail
  go_ret
  exact ⟨ret_i64 (by rw [HC.out]; rfl), rfl⟩

set_option maxHeartbeats 400000 in
set_option maxRecDepth 100000 in
theorem char_3 (t : ByteArray) (a : Nat) (w : World) (hm : t.size ≤ 140737488355328) (ha : a < t.size) (hr : 194 ≤ (t[a].toNat : Int) ∧ (t[a].toNat : Int) < 224) :
    Calls Tryz.prog 167 #[.string t, .int .i64 a] w fun e w' => e = .returned (.int .i64 (chr t a)) ∧ w' = w := by
  have HE : Hid ((t[a].toNat : Int) = b8 t a) := b8_get t a ha
  have hx : (t[a].toNat : Int) < 256 := by have := t[a].toNat_lt; omega
  have G1 : Hid (∀ w, Calls Tryz.prog 190 #[.string t, .int .i64 ((a : Int) + 1), .int .i64 128, .int .i64 191] w fun e w' => e = .returned (.bool (goB t (a + 1) 128 191)) ∧ w = w') := fun w => (goes_any t (a + 1) 128 191 w (by omega)).mono fun e w' h => ⟨h.1, h.2.symm⟩
  have G2 : Hid (∀ w, Calls Tryz.prog 190 #[.string t, .int .i64 ((a : Int) + 2), .int .i64 128, .int .i64 191] w fun e w' => e = .returned (.bool (goB t (a + 2) 128 191)) ∧ w = w') := fun w => (goes_any t (a + 2) 128 191 w (by omega)).mono fun e w' h => ⟨h.1, h.2.symm⟩
  have G3 : Hid (∀ w, Calls Tryz.prog 190 #[.string t, .int .i64 ((a : Int) + 3), .int .i64 128, .int .i64 191] w fun e w' => e = .returned (.bool (goB t (a + 3) 128 191)) ∧ w = w') := fun w => (goes_any t (a + 3) 128 191 w (by omega)).mono fun e w' h => ⟨h.1, h.2.symm⟩
  have HC : Hid (chr t a = if goB t (a + 1) 128 191 = true then 2 else 0) := by
    have e := HE.out
    exact chr_2 t a 128 191 (by omega) (by omega) (by unfold loB; rw [if_neg (by omega), if_neg (by omega)]) (by unfold hiB; rw [if_neg (by omega), if_neg (by omega)])
  have e224 : ((t[a].toNat : Int) == 224) = false := by rw [beq_eq_false_iff_ne]; omega
  have e237 : ((t[a].toNat : Int) == 237) = false := by rw [beq_eq_false_iff_ne]; omega
  have e240 : ((t[a].toNat : Int) == 240) = false := by rw [beq_eq_false_iff_ne]; omega
  have e244 : ((t[a].toNat : Int) == 244) = false := by rw [beq_eq_false_iff_ne]; omega
  have d1 : decide ((t[a].toNat : Int) < 128) = false := decide_eq_false (by omega)
  have d2 : decide ((194 : Int) ≤ (t[a].toNat : Int)) = true := decide_eq_true (by omega)
  have d3 : decide ((t[a].toNat : Int) < 224) = true := decide_eq_true (by omega)
  have d4 : decide ((224 : Int) ≤ (t[a].toNat : Int)) = false := decide_eq_false (by omega)
  have d5 : decide ((t[a].toNat : Int) < 240) = true := decide_eq_true (by omega)
  have d6 : decide ((240 : Int) ≤ (t[a].toNat : Int)) = false := decide_eq_false (by omega)
  have d7 : decide ((t[a].toNat : Int) < 245) = true := decide_eq_true (by omega)
  generalize chr t a = res at HC ⊢
  generalize goB t (a + 1) 128 191 = one at G1 HC
  generalize goB t (a + 2) 128 191 = two at G2
  generalize goB t (a + 3) 128 191 = three at G3
  clear hr
  go_enter Tryz.func167, Tryz.ntmps167
  go_wp2_with fail
  refine Calls.mono (G1.out _) ?_
  rintro e w2 ⟨rfl, rfl⟩
  go_wp2_with fail
  refine Calls.mono (G2.out _) ?_
  rintro e w3 ⟨rfl, rfl⟩
  go_wp2_with fail
  refine Calls.mono (G3.out _) ?_
  rintro e w4 ⟨rfl, rfl⟩
  cases one
  · go_wp2_with fail
    go_ret
    exact ⟨ret_i64 (by rw [HC.out]; rw [if_neg (by simp)]; rfl), rfl⟩
  · go_wp2_with fail
    go_ret
    exact ⟨ret_i64 (by rw [HC.out]; rw [if_pos (by simp)]; rfl), rfl⟩

set_option maxHeartbeats 400000 in
set_option maxRecDepth 100000 in
theorem char_4 (t : ByteArray) (a : Nat) (w : World) (hm : t.size ≤ 140737488355328) (ha : a < t.size) (hr : (t[a].toNat : Int) = 224) :
    Calls Tryz.prog 167 #[.string t, .int .i64 a] w fun e w' => e = .returned (.int .i64 (chr t a)) ∧ w' = w := by
  have HE : Hid ((t[a].toNat : Int) = b8 t a) := b8_get t a ha
  have hx : (t[a].toNat : Int) < 256 := by have := t[a].toNat_lt; omega
  have G1 : Hid (∀ w, Calls Tryz.prog 190 #[.string t, .int .i64 ((a : Int) + 1), .int .i64 160, .int .i64 191] w fun e w' => e = .returned (.bool (goB t (a + 1) 160 191)) ∧ w = w') := fun w => (goes_any t (a + 1) 160 191 w (by omega)).mono fun e w' h => ⟨h.1, h.2.symm⟩
  have G2 : Hid (∀ w, Calls Tryz.prog 190 #[.string t, .int .i64 ((a : Int) + 2), .int .i64 128, .int .i64 191] w fun e w' => e = .returned (.bool (goB t (a + 2) 128 191)) ∧ w = w') := fun w => (goes_any t (a + 2) 128 191 w (by omega)).mono fun e w' h => ⟨h.1, h.2.symm⟩
  have G3 : Hid (∀ w, Calls Tryz.prog 190 #[.string t, .int .i64 ((a : Int) + 3), .int .i64 128, .int .i64 191] w fun e w' => e = .returned (.bool (goB t (a + 3) 128 191)) ∧ w = w') := fun w => (goes_any t (a + 3) 128 191 w (by omega)).mono fun e w' h => ⟨h.1, h.2.symm⟩
  have HC : Hid (chr t a = if goB t (a + 1) 160 191 = true ∧ goB t (a + 2) 128 191 = true then 3 else 0) := by
    have e := HE.out
    exact chr_3 t a 160 191 (by omega) (by omega) (by unfold loB; rw [if_pos (by omega)]) (by unfold hiB; rw [if_neg (by omega), if_neg (by omega)])
  have e224 : ((t[a].toNat : Int) == 224) = true := by rw [beq_iff_eq]; omega
  have e237 : ((t[a].toNat : Int) == 237) = false := by rw [beq_eq_false_iff_ne]; omega
  have e240 : ((t[a].toNat : Int) == 240) = false := by rw [beq_eq_false_iff_ne]; omega
  have e244 : ((t[a].toNat : Int) == 244) = false := by rw [beq_eq_false_iff_ne]; omega
  have d1 : decide ((t[a].toNat : Int) < 128) = false := decide_eq_false (by omega)
  have d2 : decide ((194 : Int) ≤ (t[a].toNat : Int)) = true := decide_eq_true (by omega)
  have d3 : decide ((t[a].toNat : Int) < 224) = false := decide_eq_false (by omega)
  have d4 : decide ((224 : Int) ≤ (t[a].toNat : Int)) = true := decide_eq_true (by omega)
  have d5 : decide ((t[a].toNat : Int) < 240) = true := decide_eq_true (by omega)
  have d6 : decide ((240 : Int) ≤ (t[a].toNat : Int)) = false := decide_eq_false (by omega)
  have d7 : decide ((t[a].toNat : Int) < 245) = true := decide_eq_true (by omega)
  generalize chr t a = res at HC ⊢
  generalize goB t (a + 1) 160 191 = one at G1 HC
  generalize goB t (a + 2) 128 191 = two at G2 HC
  generalize goB t (a + 3) 128 191 = three at G3
  clear hr
  go_enter Tryz.func167, Tryz.ntmps167
  go_wp2_with fail
  refine Calls.mono (G1.out _) ?_
  rintro e w2 ⟨rfl, rfl⟩
  go_wp2_with fail
  refine Calls.mono (G2.out _) ?_
  rintro e w3 ⟨rfl, rfl⟩
  go_wp2_with fail
  refine Calls.mono (G3.out _) ?_
  rintro e w4 ⟨rfl, rfl⟩
  cases one
  · go_wp2_with fail
    go_ret
    exact ⟨ret_i64 (by rw [HC.out]; rw [if_neg (by simp)]; rfl), rfl⟩
  cases two
  · go_wp2_with fail
    go_ret
    exact ⟨ret_i64 (by rw [HC.out]; rw [if_neg (by simp)]; rfl), rfl⟩
  · go_wp2_with fail
    go_ret
    exact ⟨ret_i64 (by rw [HC.out]; rw [if_pos (by simp)]; rfl), rfl⟩

set_option maxHeartbeats 400000 in
set_option maxRecDepth 100000 in
theorem char_5 (t : ByteArray) (a : Nat) (w : World) (hm : t.size ≤ 140737488355328) (ha : a < t.size) (hr : 225 ≤ (t[a].toNat : Int) ∧ (t[a].toNat : Int) < 237) :
    Calls Tryz.prog 167 #[.string t, .int .i64 a] w fun e w' => e = .returned (.int .i64 (chr t a)) ∧ w' = w := by
  have HE : Hid ((t[a].toNat : Int) = b8 t a) := b8_get t a ha
  have hx : (t[a].toNat : Int) < 256 := by have := t[a].toNat_lt; omega
  have G1 : Hid (∀ w, Calls Tryz.prog 190 #[.string t, .int .i64 ((a : Int) + 1), .int .i64 128, .int .i64 191] w fun e w' => e = .returned (.bool (goB t (a + 1) 128 191)) ∧ w = w') := fun w => (goes_any t (a + 1) 128 191 w (by omega)).mono fun e w' h => ⟨h.1, h.2.symm⟩
  have G2 : Hid (∀ w, Calls Tryz.prog 190 #[.string t, .int .i64 ((a : Int) + 2), .int .i64 128, .int .i64 191] w fun e w' => e = .returned (.bool (goB t (a + 2) 128 191)) ∧ w = w') := fun w => (goes_any t (a + 2) 128 191 w (by omega)).mono fun e w' h => ⟨h.1, h.2.symm⟩
  have G3 : Hid (∀ w, Calls Tryz.prog 190 #[.string t, .int .i64 ((a : Int) + 3), .int .i64 128, .int .i64 191] w fun e w' => e = .returned (.bool (goB t (a + 3) 128 191)) ∧ w = w') := fun w => (goes_any t (a + 3) 128 191 w (by omega)).mono fun e w' h => ⟨h.1, h.2.symm⟩
  have HC : Hid (chr t a = if goB t (a + 1) 128 191 = true ∧ goB t (a + 2) 128 191 = true then 3 else 0) := by
    have e := HE.out
    exact chr_3 t a 128 191 (by omega) (by omega) (by unfold loB; rw [if_neg (by omega), if_neg (by omega)]) (by unfold hiB; rw [if_neg (by omega), if_neg (by omega)])
  have e224 : ((t[a].toNat : Int) == 224) = false := by rw [beq_eq_false_iff_ne]; omega
  have e237 : ((t[a].toNat : Int) == 237) = false := by rw [beq_eq_false_iff_ne]; omega
  have e240 : ((t[a].toNat : Int) == 240) = false := by rw [beq_eq_false_iff_ne]; omega
  have e244 : ((t[a].toNat : Int) == 244) = false := by rw [beq_eq_false_iff_ne]; omega
  have d1 : decide ((t[a].toNat : Int) < 128) = false := decide_eq_false (by omega)
  have d2 : decide ((194 : Int) ≤ (t[a].toNat : Int)) = true := decide_eq_true (by omega)
  have d3 : decide ((t[a].toNat : Int) < 224) = false := decide_eq_false (by omega)
  have d4 : decide ((224 : Int) ≤ (t[a].toNat : Int)) = true := decide_eq_true (by omega)
  have d5 : decide ((t[a].toNat : Int) < 240) = true := decide_eq_true (by omega)
  have d6 : decide ((240 : Int) ≤ (t[a].toNat : Int)) = false := decide_eq_false (by omega)
  have d7 : decide ((t[a].toNat : Int) < 245) = true := decide_eq_true (by omega)
  generalize chr t a = res at HC ⊢
  generalize goB t (a + 1) 128 191 = one at G1 HC
  generalize goB t (a + 2) 128 191 = two at G2 HC
  generalize goB t (a + 3) 128 191 = three at G3
  clear hr
  go_enter Tryz.func167, Tryz.ntmps167
  go_wp2_with fail
  refine Calls.mono (G1.out _) ?_
  rintro e w2 ⟨rfl, rfl⟩
  go_wp2_with fail
  refine Calls.mono (G2.out _) ?_
  rintro e w3 ⟨rfl, rfl⟩
  go_wp2_with fail
  refine Calls.mono (G3.out _) ?_
  rintro e w4 ⟨rfl, rfl⟩
  cases one
  · go_wp2_with fail
    go_ret
    exact ⟨ret_i64 (by rw [HC.out]; rw [if_neg (by simp)]; rfl), rfl⟩
  cases two
  · go_wp2_with fail
    go_ret
    exact ⟨ret_i64 (by rw [HC.out]; rw [if_neg (by simp)]; rfl), rfl⟩
  · go_wp2_with fail
    go_ret
    exact ⟨ret_i64 (by rw [HC.out]; rw [if_pos (by simp)]; rfl), rfl⟩

set_option maxHeartbeats 400000 in
set_option maxRecDepth 100000 in
theorem char_6 (t : ByteArray) (a : Nat) (w : World) (hm : t.size ≤ 140737488355328) (ha : a < t.size) (hr : (t[a].toNat : Int) = 237) :
    Calls Tryz.prog 167 #[.string t, .int .i64 a] w fun e w' => e = .returned (.int .i64 (chr t a)) ∧ w' = w := by
  have HE : Hid ((t[a].toNat : Int) = b8 t a) := b8_get t a ha
  have hx : (t[a].toNat : Int) < 256 := by have := t[a].toNat_lt; omega
  have G1 : Hid (∀ w, Calls Tryz.prog 190 #[.string t, .int .i64 ((a : Int) + 1), .int .i64 128, .int .i64 159] w fun e w' => e = .returned (.bool (goB t (a + 1) 128 159)) ∧ w = w') := fun w => (goes_any t (a + 1) 128 159 w (by omega)).mono fun e w' h => ⟨h.1, h.2.symm⟩
  have G2 : Hid (∀ w, Calls Tryz.prog 190 #[.string t, .int .i64 ((a : Int) + 2), .int .i64 128, .int .i64 191] w fun e w' => e = .returned (.bool (goB t (a + 2) 128 191)) ∧ w = w') := fun w => (goes_any t (a + 2) 128 191 w (by omega)).mono fun e w' h => ⟨h.1, h.2.symm⟩
  have G3 : Hid (∀ w, Calls Tryz.prog 190 #[.string t, .int .i64 ((a : Int) + 3), .int .i64 128, .int .i64 191] w fun e w' => e = .returned (.bool (goB t (a + 3) 128 191)) ∧ w = w') := fun w => (goes_any t (a + 3) 128 191 w (by omega)).mono fun e w' h => ⟨h.1, h.2.symm⟩
  have HC : Hid (chr t a = if goB t (a + 1) 128 159 = true ∧ goB t (a + 2) 128 191 = true then 3 else 0) := by
    have e := HE.out
    exact chr_3 t a 128 159 (by omega) (by omega) (by unfold loB; rw [if_neg (by omega), if_neg (by omega)]) (by unfold hiB; rw [if_pos (by omega)])
  have e224 : ((t[a].toNat : Int) == 224) = false := by rw [beq_eq_false_iff_ne]; omega
  have e237 : ((t[a].toNat : Int) == 237) = true := by rw [beq_iff_eq]; omega
  have e240 : ((t[a].toNat : Int) == 240) = false := by rw [beq_eq_false_iff_ne]; omega
  have e244 : ((t[a].toNat : Int) == 244) = false := by rw [beq_eq_false_iff_ne]; omega
  have d1 : decide ((t[a].toNat : Int) < 128) = false := decide_eq_false (by omega)
  have d2 : decide ((194 : Int) ≤ (t[a].toNat : Int)) = true := decide_eq_true (by omega)
  have d3 : decide ((t[a].toNat : Int) < 224) = false := decide_eq_false (by omega)
  have d4 : decide ((224 : Int) ≤ (t[a].toNat : Int)) = true := decide_eq_true (by omega)
  have d5 : decide ((t[a].toNat : Int) < 240) = true := decide_eq_true (by omega)
  have d6 : decide ((240 : Int) ≤ (t[a].toNat : Int)) = false := decide_eq_false (by omega)
  have d7 : decide ((t[a].toNat : Int) < 245) = true := decide_eq_true (by omega)
  generalize chr t a = res at HC ⊢
  generalize goB t (a + 1) 128 159 = one at G1 HC
  generalize goB t (a + 2) 128 191 = two at G2 HC
  generalize goB t (a + 3) 128 191 = three at G3
  clear hr
  go_enter Tryz.func167, Tryz.ntmps167
  go_wp2_with fail
  refine Calls.mono (G1.out _) ?_
  rintro e w2 ⟨rfl, rfl⟩
  go_wp2_with fail
  refine Calls.mono (G2.out _) ?_
  rintro e w3 ⟨rfl, rfl⟩
  go_wp2_with fail
  refine Calls.mono (G3.out _) ?_
  rintro e w4 ⟨rfl, rfl⟩
  cases one
  · go_wp2_with fail
    go_ret
    exact ⟨ret_i64 (by rw [HC.out]; rw [if_neg (by simp)]; rfl), rfl⟩
  cases two
  · go_wp2_with fail
    go_ret
    exact ⟨ret_i64 (by rw [HC.out]; rw [if_neg (by simp)]; rfl), rfl⟩
  · go_wp2_with fail
    go_ret
    exact ⟨ret_i64 (by rw [HC.out]; rw [if_pos (by simp)]; rfl), rfl⟩

set_option maxHeartbeats 400000 in
set_option maxRecDepth 100000 in
theorem char_7 (t : ByteArray) (a : Nat) (w : World) (hm : t.size ≤ 140737488355328) (ha : a < t.size) (hr : 238 ≤ (t[a].toNat : Int) ∧ (t[a].toNat : Int) < 240) :
    Calls Tryz.prog 167 #[.string t, .int .i64 a] w fun e w' => e = .returned (.int .i64 (chr t a)) ∧ w' = w := by
  have HE : Hid ((t[a].toNat : Int) = b8 t a) := b8_get t a ha
  have hx : (t[a].toNat : Int) < 256 := by have := t[a].toNat_lt; omega
  have G1 : Hid (∀ w, Calls Tryz.prog 190 #[.string t, .int .i64 ((a : Int) + 1), .int .i64 128, .int .i64 191] w fun e w' => e = .returned (.bool (goB t (a + 1) 128 191)) ∧ w = w') := fun w => (goes_any t (a + 1) 128 191 w (by omega)).mono fun e w' h => ⟨h.1, h.2.symm⟩
  have G2 : Hid (∀ w, Calls Tryz.prog 190 #[.string t, .int .i64 ((a : Int) + 2), .int .i64 128, .int .i64 191] w fun e w' => e = .returned (.bool (goB t (a + 2) 128 191)) ∧ w = w') := fun w => (goes_any t (a + 2) 128 191 w (by omega)).mono fun e w' h => ⟨h.1, h.2.symm⟩
  have G3 : Hid (∀ w, Calls Tryz.prog 190 #[.string t, .int .i64 ((a : Int) + 3), .int .i64 128, .int .i64 191] w fun e w' => e = .returned (.bool (goB t (a + 3) 128 191)) ∧ w = w') := fun w => (goes_any t (a + 3) 128 191 w (by omega)).mono fun e w' h => ⟨h.1, h.2.symm⟩
  have HC : Hid (chr t a = if goB t (a + 1) 128 191 = true ∧ goB t (a + 2) 128 191 = true then 3 else 0) := by
    have e := HE.out
    exact chr_3 t a 128 191 (by omega) (by omega) (by unfold loB; rw [if_neg (by omega), if_neg (by omega)]) (by unfold hiB; rw [if_neg (by omega), if_neg (by omega)])
  have e224 : ((t[a].toNat : Int) == 224) = false := by rw [beq_eq_false_iff_ne]; omega
  have e237 : ((t[a].toNat : Int) == 237) = false := by rw [beq_eq_false_iff_ne]; omega
  have e240 : ((t[a].toNat : Int) == 240) = false := by rw [beq_eq_false_iff_ne]; omega
  have e244 : ((t[a].toNat : Int) == 244) = false := by rw [beq_eq_false_iff_ne]; omega
  have d1 : decide ((t[a].toNat : Int) < 128) = false := decide_eq_false (by omega)
  have d2 : decide ((194 : Int) ≤ (t[a].toNat : Int)) = true := decide_eq_true (by omega)
  have d3 : decide ((t[a].toNat : Int) < 224) = false := decide_eq_false (by omega)
  have d4 : decide ((224 : Int) ≤ (t[a].toNat : Int)) = true := decide_eq_true (by omega)
  have d5 : decide ((t[a].toNat : Int) < 240) = true := decide_eq_true (by omega)
  have d6 : decide ((240 : Int) ≤ (t[a].toNat : Int)) = false := decide_eq_false (by omega)
  have d7 : decide ((t[a].toNat : Int) < 245) = true := decide_eq_true (by omega)
  generalize chr t a = res at HC ⊢
  generalize goB t (a + 1) 128 191 = one at G1 HC
  generalize goB t (a + 2) 128 191 = two at G2 HC
  generalize goB t (a + 3) 128 191 = three at G3
  clear hr
  go_enter Tryz.func167, Tryz.ntmps167
  go_wp2_with fail
  refine Calls.mono (G1.out _) ?_
  rintro e w2 ⟨rfl, rfl⟩
  go_wp2_with fail
  refine Calls.mono (G2.out _) ?_
  rintro e w3 ⟨rfl, rfl⟩
  go_wp2_with fail
  refine Calls.mono (G3.out _) ?_
  rintro e w4 ⟨rfl, rfl⟩
  cases one
  · go_wp2_with fail
    go_ret
    exact ⟨ret_i64 (by rw [HC.out]; rw [if_neg (by simp)]; rfl), rfl⟩
  cases two
  · go_wp2_with fail
    go_ret
    exact ⟨ret_i64 (by rw [HC.out]; rw [if_neg (by simp)]; rfl), rfl⟩
  · go_wp2_with fail
    go_ret
    exact ⟨ret_i64 (by rw [HC.out]; rw [if_pos (by simp)]; rfl), rfl⟩

end Go.Proofs.YtkkicodfpekbgaaGreatDoor

/-! Contents: Utf8: what the document's functions answer (the other half). -/
namespace Go.Proofs.YtkkicodfpekbgaaGreatDoor
set_option linter.unusedSimpArgs false
set_option linter.unusedVariables false
open Go.RowKit

set_option maxHeartbeats 400000 in
set_option maxRecDepth 100000 in
theorem char_8 (t : ByteArray) (a : Nat) (w : World) (hm : t.size ≤ 140737488355328) (ha : a < t.size) (hr : (t[a].toNat : Int) = 240) :
    Calls Tryz.prog 167 #[.string t, .int .i64 a] w fun e w' => e = .returned (.int .i64 (chr t a)) ∧ w' = w := by
  have HE : Hid ((t[a].toNat : Int) = b8 t a) := b8_get t a ha
  have hx : (t[a].toNat : Int) < 256 := by have := t[a].toNat_lt; omega
  have G1 : Hid (∀ w, Calls Tryz.prog 190 #[.string t, .int .i64 ((a : Int) + 1), .int .i64 144, .int .i64 191] w fun e w' => e = .returned (.bool (goB t (a + 1) 144 191)) ∧ w = w') := fun w => (goes_any t (a + 1) 144 191 w (by omega)).mono fun e w' h => ⟨h.1, h.2.symm⟩
  have G2 : Hid (∀ w, Calls Tryz.prog 190 #[.string t, .int .i64 ((a : Int) + 2), .int .i64 128, .int .i64 191] w fun e w' => e = .returned (.bool (goB t (a + 2) 128 191)) ∧ w = w') := fun w => (goes_any t (a + 2) 128 191 w (by omega)).mono fun e w' h => ⟨h.1, h.2.symm⟩
  have G3 : Hid (∀ w, Calls Tryz.prog 190 #[.string t, .int .i64 ((a : Int) + 3), .int .i64 128, .int .i64 191] w fun e w' => e = .returned (.bool (goB t (a + 3) 128 191)) ∧ w = w') := fun w => (goes_any t (a + 3) 128 191 w (by omega)).mono fun e w' h => ⟨h.1, h.2.symm⟩
  have HC : Hid (chr t a = if goB t (a + 1) 144 191 = true ∧ goB t (a + 2) 128 191 = true ∧ goB t (a + 3) 128 191 = true then 4 else 0) := by
    have e := HE.out
    exact chr_4 t a 144 191 (by omega) (by omega) (by unfold loB; rw [if_neg (by omega), if_pos (by omega)]) (by unfold hiB; rw [if_neg (by omega), if_neg (by omega)])
  have e224 : ((t[a].toNat : Int) == 224) = false := by rw [beq_eq_false_iff_ne]; omega
  have e237 : ((t[a].toNat : Int) == 237) = false := by rw [beq_eq_false_iff_ne]; omega
  have e240 : ((t[a].toNat : Int) == 240) = true := by rw [beq_iff_eq]; omega
  have e244 : ((t[a].toNat : Int) == 244) = false := by rw [beq_eq_false_iff_ne]; omega
  have d1 : decide ((t[a].toNat : Int) < 128) = false := decide_eq_false (by omega)
  have d2 : decide ((194 : Int) ≤ (t[a].toNat : Int)) = true := decide_eq_true (by omega)
  have d3 : decide ((t[a].toNat : Int) < 224) = false := decide_eq_false (by omega)
  have d4 : decide ((224 : Int) ≤ (t[a].toNat : Int)) = true := decide_eq_true (by omega)
  have d5 : decide ((t[a].toNat : Int) < 240) = false := decide_eq_false (by omega)
  have d6 : decide ((240 : Int) ≤ (t[a].toNat : Int)) = true := decide_eq_true (by omega)
  have d7 : decide ((t[a].toNat : Int) < 245) = true := decide_eq_true (by omega)
  generalize chr t a = res at HC ⊢
  generalize goB t (a + 1) 144 191 = one at G1 HC
  generalize goB t (a + 2) 128 191 = two at G2 HC
  generalize goB t (a + 3) 128 191 = three at G3 HC
  clear hr
  go_enter Tryz.func167, Tryz.ntmps167
  go_wp2_with fail
  refine Calls.mono (G1.out _) ?_
  rintro e w2 ⟨rfl, rfl⟩
  go_wp2_with fail
  refine Calls.mono (G2.out _) ?_
  rintro e w3 ⟨rfl, rfl⟩
  go_wp2_with fail
  refine Calls.mono (G3.out _) ?_
  rintro e w4 ⟨rfl, rfl⟩
  cases one
  · go_wp2_with fail
    go_ret
    exact ⟨ret_i64 (by rw [HC.out]; rw [if_neg (by simp)]; rfl), rfl⟩
  cases two
  · go_wp2_with fail
    go_ret
    exact ⟨ret_i64 (by rw [HC.out]; rw [if_neg (by simp)]; rfl), rfl⟩
  cases three
  · go_wp2_with fail
    go_ret
    exact ⟨ret_i64 (by rw [HC.out]; rw [if_neg (by simp)]; rfl), rfl⟩
  · go_wp2_with fail
    go_ret
    exact ⟨ret_i64 (by rw [HC.out]; rw [if_pos (by simp)]; rfl), rfl⟩

set_option maxHeartbeats 400000 in
set_option maxRecDepth 100000 in
theorem char_9 (t : ByteArray) (a : Nat) (w : World) (hm : t.size ≤ 140737488355328) (ha : a < t.size) (hr : 241 ≤ (t[a].toNat : Int) ∧ (t[a].toNat : Int) < 244) :
    Calls Tryz.prog 167 #[.string t, .int .i64 a] w fun e w' => e = .returned (.int .i64 (chr t a)) ∧ w' = w := by
  have HE : Hid ((t[a].toNat : Int) = b8 t a) := b8_get t a ha
  have hx : (t[a].toNat : Int) < 256 := by have := t[a].toNat_lt; omega
  have G1 : Hid (∀ w, Calls Tryz.prog 190 #[.string t, .int .i64 ((a : Int) + 1), .int .i64 128, .int .i64 191] w fun e w' => e = .returned (.bool (goB t (a + 1) 128 191)) ∧ w = w') := fun w => (goes_any t (a + 1) 128 191 w (by omega)).mono fun e w' h => ⟨h.1, h.2.symm⟩
  have G2 : Hid (∀ w, Calls Tryz.prog 190 #[.string t, .int .i64 ((a : Int) + 2), .int .i64 128, .int .i64 191] w fun e w' => e = .returned (.bool (goB t (a + 2) 128 191)) ∧ w = w') := fun w => (goes_any t (a + 2) 128 191 w (by omega)).mono fun e w' h => ⟨h.1, h.2.symm⟩
  have G3 : Hid (∀ w, Calls Tryz.prog 190 #[.string t, .int .i64 ((a : Int) + 3), .int .i64 128, .int .i64 191] w fun e w' => e = .returned (.bool (goB t (a + 3) 128 191)) ∧ w = w') := fun w => (goes_any t (a + 3) 128 191 w (by omega)).mono fun e w' h => ⟨h.1, h.2.symm⟩
  have HC : Hid (chr t a = if goB t (a + 1) 128 191 = true ∧ goB t (a + 2) 128 191 = true ∧ goB t (a + 3) 128 191 = true then 4 else 0) := by
    have e := HE.out
    exact chr_4 t a 128 191 (by omega) (by omega) (by unfold loB; rw [if_neg (by omega), if_neg (by omega)]) (by unfold hiB; rw [if_neg (by omega), if_neg (by omega)])
  have e224 : ((t[a].toNat : Int) == 224) = false := by rw [beq_eq_false_iff_ne]; omega
  have e237 : ((t[a].toNat : Int) == 237) = false := by rw [beq_eq_false_iff_ne]; omega
  have e240 : ((t[a].toNat : Int) == 240) = false := by rw [beq_eq_false_iff_ne]; omega
  have e244 : ((t[a].toNat : Int) == 244) = false := by rw [beq_eq_false_iff_ne]; omega
  have d1 : decide ((t[a].toNat : Int) < 128) = false := decide_eq_false (by omega)
  have d2 : decide ((194 : Int) ≤ (t[a].toNat : Int)) = true := decide_eq_true (by omega)
  have d3 : decide ((t[a].toNat : Int) < 224) = false := decide_eq_false (by omega)
  have d4 : decide ((224 : Int) ≤ (t[a].toNat : Int)) = true := decide_eq_true (by omega)
  have d5 : decide ((t[a].toNat : Int) < 240) = false := decide_eq_false (by omega)
  have d6 : decide ((240 : Int) ≤ (t[a].toNat : Int)) = true := decide_eq_true (by omega)
  have d7 : decide ((t[a].toNat : Int) < 245) = true := decide_eq_true (by omega)
  generalize chr t a = res at HC ⊢
  generalize goB t (a + 1) 128 191 = one at G1 HC
  generalize goB t (a + 2) 128 191 = two at G2 HC
  generalize goB t (a + 3) 128 191 = three at G3 HC
  clear hr
  go_enter Tryz.func167, Tryz.ntmps167
  go_wp2_with fail
  refine Calls.mono (G1.out _) ?_
  rintro e w2 ⟨rfl, rfl⟩
  go_wp2_with fail
  refine Calls.mono (G2.out _) ?_
  rintro e w3 ⟨rfl, rfl⟩
  go_wp2_with fail
  refine Calls.mono (G3.out _) ?_
  rintro e w4 ⟨rfl, rfl⟩
  cases one
  · go_wp2_with fail
    go_ret
    exact ⟨ret_i64 (by rw [HC.out]; rw [if_neg (by simp)]; rfl), rfl⟩
  cases two
  · go_wp2_with fail
    go_ret
    exact ⟨ret_i64 (by rw [HC.out]; rw [if_neg (by simp)]; rfl), rfl⟩
  cases three
  · go_wp2_with fail
    go_ret
    exact ⟨ret_i64 (by rw [HC.out]; rw [if_neg (by simp)]; rfl), rfl⟩
  · go_wp2_with fail
    go_ret
    exact ⟨ret_i64 (by rw [HC.out]; rw [if_pos (by simp)]; rfl), rfl⟩

set_option maxHeartbeats 400000 in
set_option maxRecDepth 100000 in
theorem char_10 (t : ByteArray) (a : Nat) (w : World) (hm : t.size ≤ 140737488355328) (ha : a < t.size) (hr : (t[a].toNat : Int) = 244) :
    Calls Tryz.prog 167 #[.string t, .int .i64 a] w fun e w' => e = .returned (.int .i64 (chr t a)) ∧ w' = w := by
  have HE : Hid ((t[a].toNat : Int) = b8 t a) := b8_get t a ha
  have hx : (t[a].toNat : Int) < 256 := by have := t[a].toNat_lt; omega
  have G1 : Hid (∀ w, Calls Tryz.prog 190 #[.string t, .int .i64 ((a : Int) + 1), .int .i64 128, .int .i64 143] w fun e w' => e = .returned (.bool (goB t (a + 1) 128 143)) ∧ w = w') := fun w => (goes_any t (a + 1) 128 143 w (by omega)).mono fun e w' h => ⟨h.1, h.2.symm⟩
  have G2 : Hid (∀ w, Calls Tryz.prog 190 #[.string t, .int .i64 ((a : Int) + 2), .int .i64 128, .int .i64 191] w fun e w' => e = .returned (.bool (goB t (a + 2) 128 191)) ∧ w = w') := fun w => (goes_any t (a + 2) 128 191 w (by omega)).mono fun e w' h => ⟨h.1, h.2.symm⟩
  have G3 : Hid (∀ w, Calls Tryz.prog 190 #[.string t, .int .i64 ((a : Int) + 3), .int .i64 128, .int .i64 191] w fun e w' => e = .returned (.bool (goB t (a + 3) 128 191)) ∧ w = w') := fun w => (goes_any t (a + 3) 128 191 w (by omega)).mono fun e w' h => ⟨h.1, h.2.symm⟩
  have HC : Hid (chr t a = if goB t (a + 1) 128 143 = true ∧ goB t (a + 2) 128 191 = true ∧ goB t (a + 3) 128 191 = true then 4 else 0) := by
    have e := HE.out
    exact chr_4 t a 128 143 (by omega) (by omega) (by unfold loB; rw [if_neg (by omega), if_neg (by omega)]) (by unfold hiB; rw [if_neg (by omega), if_pos (by omega)])
  have e224 : ((t[a].toNat : Int) == 224) = false := by rw [beq_eq_false_iff_ne]; omega
  have e237 : ((t[a].toNat : Int) == 237) = false := by rw [beq_eq_false_iff_ne]; omega
  have e240 : ((t[a].toNat : Int) == 240) = false := by rw [beq_eq_false_iff_ne]; omega
  have e244 : ((t[a].toNat : Int) == 244) = true := by rw [beq_iff_eq]; omega
  have d1 : decide ((t[a].toNat : Int) < 128) = false := decide_eq_false (by omega)
  have d2 : decide ((194 : Int) ≤ (t[a].toNat : Int)) = true := decide_eq_true (by omega)
  have d3 : decide ((t[a].toNat : Int) < 224) = false := decide_eq_false (by omega)
  have d4 : decide ((224 : Int) ≤ (t[a].toNat : Int)) = true := decide_eq_true (by omega)
  have d5 : decide ((t[a].toNat : Int) < 240) = false := decide_eq_false (by omega)
  have d6 : decide ((240 : Int) ≤ (t[a].toNat : Int)) = true := decide_eq_true (by omega)
  have d7 : decide ((t[a].toNat : Int) < 245) = true := decide_eq_true (by omega)
  generalize chr t a = res at HC ⊢
  generalize goB t (a + 1) 128 143 = one at G1 HC
  generalize goB t (a + 2) 128 191 = two at G2 HC
  generalize goB t (a + 3) 128 191 = three at G3 HC
  clear hr
  go_enter Tryz.func167, Tryz.ntmps167
  go_wp2_with fail
  refine Calls.mono (G1.out _) ?_
  rintro e w2 ⟨rfl, rfl⟩
  go_wp2_with fail
  refine Calls.mono (G2.out _) ?_
  rintro e w3 ⟨rfl, rfl⟩
  go_wp2_with fail
  refine Calls.mono (G3.out _) ?_
  rintro e w4 ⟨rfl, rfl⟩
  cases one
  · go_wp2_with fail
    go_ret
    exact ⟨ret_i64 (by rw [HC.out]; rw [if_neg (by simp)]; rfl), rfl⟩
  cases two
  · go_wp2_with fail
    go_ret
    exact ⟨ret_i64 (by rw [HC.out]; rw [if_neg (by simp)]; rfl), rfl⟩
  cases three
  · go_wp2_with fail
    go_ret
    exact ⟨ret_i64 (by rw [HC.out]; rw [if_neg (by simp)]; rfl), rfl⟩
  · go_wp2_with fail
    go_ret
    exact ⟨ret_i64 (by rw [HC.out]; rw [if_pos (by simp)]; rfl), rfl⟩

set_option maxHeartbeats 400000 in
set_option maxRecDepth 100000 in
theorem char_11 (t : ByteArray) (a : Nat) (w : World) (hm : t.size ≤ 140737488355328) (ha : a < t.size) (hr : 245 ≤ (t[a].toNat : Int)) :
    Calls Tryz.prog 167 #[.string t, .int .i64 a] w fun e w' => e = .returned (.int .i64 (chr t a)) ∧ w' = w := by
  have HE : Hid ((t[a].toNat : Int) = b8 t a) := b8_get t a ha
  have hx : (t[a].toNat : Int) < 256 := by have := t[a].toNat_lt; omega
  have G1 : Hid (∀ w, Calls Tryz.prog 190 #[.string t, .int .i64 ((a : Int) + 1), .int .i64 128, .int .i64 191] w fun e w' => e = .returned (.bool (goB t (a + 1) 128 191)) ∧ w = w') := fun w => (goes_any t (a + 1) 128 191 w (by omega)).mono fun e w' h => ⟨h.1, h.2.symm⟩
  have G2 : Hid (∀ w, Calls Tryz.prog 190 #[.string t, .int .i64 ((a : Int) + 2), .int .i64 128, .int .i64 191] w fun e w' => e = .returned (.bool (goB t (a + 2) 128 191)) ∧ w = w') := fun w => (goes_any t (a + 2) 128 191 w (by omega)).mono fun e w' h => ⟨h.1, h.2.symm⟩
  have G3 : Hid (∀ w, Calls Tryz.prog 190 #[.string t, .int .i64 ((a : Int) + 3), .int .i64 128, .int .i64 191] w fun e w' => e = .returned (.bool (goB t (a + 3) 128 191)) ∧ w = w') := fun w => (goes_any t (a + 3) 128 191 w (by omega)).mono fun e w' h => ⟨h.1, h.2.symm⟩
  have HC : Hid (chr t a = 0) := chr_0 t a (by rw [← HE.out]; omega)
  have e224 : ((t[a].toNat : Int) == 224) = false := by rw [beq_eq_false_iff_ne]; omega
  have e237 : ((t[a].toNat : Int) == 237) = false := by rw [beq_eq_false_iff_ne]; omega
  have e240 : ((t[a].toNat : Int) == 240) = false := by rw [beq_eq_false_iff_ne]; omega
  have e244 : ((t[a].toNat : Int) == 244) = false := by rw [beq_eq_false_iff_ne]; omega
  have d1 : decide ((t[a].toNat : Int) < 128) = false := decide_eq_false (by omega)
  have d2 : decide ((194 : Int) ≤ (t[a].toNat : Int)) = true := decide_eq_true (by omega)
  have d3 : decide ((t[a].toNat : Int) < 224) = false := decide_eq_false (by omega)
  have d4 : decide ((224 : Int) ≤ (t[a].toNat : Int)) = true := decide_eq_true (by omega)
  have d5 : decide ((t[a].toNat : Int) < 240) = false := decide_eq_false (by omega)
  have d6 : decide ((240 : Int) ≤ (t[a].toNat : Int)) = true := decide_eq_true (by omega)
  have d7 : decide ((t[a].toNat : Int) < 245) = false := decide_eq_false (by omega)
  generalize chr t a = res at HC ⊢
  generalize goB t (a + 1) 128 191 = one at G1
  generalize goB t (a + 2) 128 191 = two at G2
  generalize goB t (a + 3) 128 191 = three at G3
  clear hr
  go_enter Tryz.func167, Tryz.ntmps167
  go_wp2_with fail
  refine Calls.mono (G1.out _) ?_
  rintro e w2 ⟨rfl, rfl⟩
  go_wp2_with fail
  refine Calls.mono (G2.out _) ?_
  rintro e w3 ⟨rfl, rfl⟩
  go_wp2_with fail
  refine Calls.mono (G3.out _) ?_
  rintro e w4 ⟨rfl, rfl⟩
  go_wp2_with fail
  go_ret
  exact ⟨ret_i64 (by rw [HC.out]; rfl), rfl⟩

set_option maxHeartbeats 400000 in
set_option maxRecDepth 100000 in
theorem char_any (t : ByteArray) (a : Nat) (w : World) (hm : t.size ≤ 140737488355328) (ha : a < t.size) :
    Calls Tryz.prog 167 #[.string t, .int .i64 a] w fun e w' => e = .returned (.int .i64 (chr t a)) ∧ w' = w := by
  by_cases h1 : (t[a].toNat : Int) < 128
  · exact char_1 t a w hm ha h1
  by_cases h2 : 128 ≤ (t[a].toNat : Int) ∧ (t[a].toNat : Int) < 194
  · exact char_2 t a w hm ha h2
  by_cases h3 : 194 ≤ (t[a].toNat : Int) ∧ (t[a].toNat : Int) < 224
  · exact char_3 t a w hm ha h3
  by_cases h4 : (t[a].toNat : Int) = 224
  · exact char_4 t a w hm ha h4
  by_cases h5 : 225 ≤ (t[a].toNat : Int) ∧ (t[a].toNat : Int) < 237
  · exact char_5 t a w hm ha h5
  by_cases h6 : (t[a].toNat : Int) = 237
  · exact char_6 t a w hm ha h6
  by_cases h7 : 238 ≤ (t[a].toNat : Int) ∧ (t[a].toNat : Int) < 240
  · exact char_7 t a w hm ha h7
  by_cases h8 : (t[a].toNat : Int) = 240
  · exact char_8 t a w hm ha h8
  by_cases h9 : 241 ≤ (t[a].toNat : Int) ∧ (t[a].toNat : Int) < 244
  · exact char_9 t a w hm ha h9
  by_cases h10 : (t[a].toNat : Int) = 244
  · exact char_10 t a w hm ha h10
  exact char_11 t a w hm ha (by omega)

/-- From a place on: characters, to the end (n: how many at the most). -/
def uTo (t : ByteArray) : Nat → Nat → Prop
  | 0, k => t.size ≤ k
  | n + 1, k => t.size ≤ k ∨ (chr t k ≠ 0 ∧ uTo t n (k + chr t k))
theorem uTo_mono (t : ByteArray) : ∀ (n k : Nat), uTo t n k → uTo t (n + 1) k
  | 0, _, h => .inl h
  | n + 1, k, h => by
    rcases h with h | ⟨h1, h2⟩
    · exact .inl h
    · exact .inr ⟨h1, uTo_mono t n _ h2⟩
/-- Characters, to the end. -/
def Utf8From (t : ByteArray) (k : Nat) : Prop := ∃ n, uTo t n k
def Utf8Ok (t : ByteArray) : Prop := Utf8From t 0
theorem utf8_end (t : ByteArray) (k : Nat) (h : t.size ≤ k) : Utf8From t k := ⟨0, h⟩
theorem utf8_step (t : ByteArray) (k : Nat) (h : k < t.size) : Utf8From t k ↔ chr t k ≠ 0 ∧ Utf8From t (k + chr t k) := by
  constructor
  · rintro ⟨n, hn⟩
    cases n with
    | zero => have : t.size ≤ k := hn; omega
    | succ n =>
      rcases hn with h' | ⟨h1, h2⟩
      · omega
      · exact ⟨h1, n, h2⟩
  · rintro ⟨h1, n, h2⟩
    exact ⟨n + 1, .inr ⟨h1, h2⟩⟩
theorem chr_le (t : ByteArray) (k : Nat) (h : k < t.size) : k + chr t k ≤ t.size := by
  have g : ∀ {a : Nat} {lo hi : Int}, goB t a lo hi = true → a < t.size := fun {a lo hi} e => by
    unfold goB at e
    exact (of_decide_eq_true e).1
  unfold chr
  split
  · omega
  split
  · rename_i e; have := g e.2.2; omega
  split
  · rename_i e; have := g e.2.2.2; omega
  split
  · rename_i e; have := g e.2.2.2.2; omega
  · omega

set_option maxHeartbeats 1000000 in
set_option maxRecDepth 100000 in
theorem isUtf8_any (t : ByteArray) (w : World) (hm : t.size ≤ 140737488355328) :
    Calls Tryz.prog 125 #[.string t] w fun e w' => RetB (Utf8Ok t) w e w' := by
  go_enter Tryz.func125, Tryz.ntmps125
  go_wp2
  go_loop [3] (fun i => ∃ k : Nat, k ≤ t.size ∧ i = .int .i64 k ∧ (Utf8Ok t ↔ Utf8From t k)) (fun i => t.size - (intOf i).toNat)
  case atStart => exact ⟨0, by omega, rfl, Iff.rfl⟩
  case round =>
    obtain ⟨k, hk, rfl, hu⟩ := hrel
    have HU : Hid (Utf8Ok t ↔ Utf8From t k) := hu
    clear hu
    by_cases hlt : k < t.size
    · have HS : Hid (Utf8From t k ↔ chr t k ≠ 0 ∧ Utf8From t (k + chr t k)) := utf8_step t k hlt
      have hc := chr_le t k hlt
      have HC : Hid (∀ w, Calls Tryz.prog 167 #[.string t, .int .i64 k] w fun e w' => e = .returned (.int .i64 (chr t k)) ∧ w = w') := fun w => (char_any t k w hm hlt).mono fun e w' h => ⟨h.1, h.2.symm⟩
      generalize chr t k = c at HS hc HC
      go_wp2_with fail
      refine Calls.mono (HC.out _) ?_
      rintro e w2 ⟨rfl, rfl⟩
      by_cases hz : c = 0
      · have HN : Hid (¬ Utf8Ok t) := fun h => (HS.out.1 (HU.out.1 h)).1 hz
        have hz' : ((c : Int) == 0) = true := by rw [beq_iff_eq]; omega
        clear hz
        go_wp2_with fail
        go_ret
        exact ret_no HN.out (drew0 _)
      · have HX : Hid (Utf8Ok t ↔ Utf8From t (k + c)) := HU.out.trans (HS.out.trans ⟨fun h => h.2, fun h => ⟨hz, h⟩⟩)
        have hz' : ((c : Int) == 0) = false := by rw [beq_eq_false_iff_ne]; omega
        have hpos : 1 ≤ c := by omega
        clear hz
        go_wp2_with fail
        go_round
        case rel => exact ⟨k + c, by omega, by go_num, HX.out⟩
        case measure => simp [intOf]; omega
    · have HY : Hid (Utf8Ok t) := HU.out.2 (utf8_end t k (by omega))
      go_wp2
      go_ret
      exact ret_yes HY.out (drew0 w)
end Go.Proofs.YtkkicodfpekbgaaGreatDoor

/-! Contents: Utf8: the document's characters are those of utf8.ValidString (plain; no run). -/
namespace Go.Proofs.YtkkicodfpekbgaaGreatDoor
set_option linter.unusedSimpArgs false
set_option linter.unusedVariables false
open Go.Lib

/-- A byte of a text, as a number. -/
def bN (t : ByteArray) (i : Nat) : Nat := (t.data.toList.getD i 0).toNat
theorem b8_bN (t : ByteArray) (i : Nat) : b8 t i = (bN t i : Int) := rfl
theorem bN_lt (t : ByteArray) (i : Nat) : bN t i < 256 := (t.data.toList.getD i 0).toNat_lt
theorem bN_drop (t : ByteArray) (k i : Nat) : ((t.data.toList.drop k).getD i 0).toNat = bN t (k + i) := by
  unfold bN
  simp [List.getD_eq_getElem?_getD, List.getElem?_drop]
theorem goB_iff (t : ByteArray) (a : Nat) (lo hi : Nat) : goB t a lo hi = true ↔ a < t.size ∧ lo ≤ bN t a ∧ bN t a ≤ hi := by
  unfold goB
  rw [decide_eq_true_iff, b8_bN]
  omega

/-- What the length of a character says. -/
def told (c : Nat) : Option Nat := if c = 0 then none else some c
theorem told_ite (p : Prop) [Decidable p] (q : Prop) [Decidable q] (c : Nat) (hc : c ≠ 0) (h : p ↔ ¬ q) : (if q then none else some c) = told (if p then c else 0) := by
  by_cases hq : q
  · rw [if_pos hq, if_neg (fun hp => (h.1 hp) hq)]; rfl
  · rw [if_neg hq, if_pos (h.2 hq)]; unfold told; rw [if_neg hc]

theorem check_2 (t : ByteArray) (k lo hi : Nat) (h0 : 194 ≤ bN t k) (h1 : bN t k < 224) (hl : loB (b8 t k) = (lo : Int)) (hh : hiB (b8 t k) = (hi : Int)) :
    checkN (t.size - k) (bN t (k + 1)) (bN t (k + 2)) (bN t (k + 3)) 2 lo hi = told (chr t k) := by
  rw [chr_2 t k lo hi (by rw [b8_bN]; omega) (by rw [b8_bN]; omega) hl hh]
  unfold checkN
  rw [if_pos rfl]
  refine told_ite _ _ 2 (by omega) ?_
  rw [goB_iff]
  omega
theorem check_3 (t : ByteArray) (k lo hi : Nat) (h0 : 224 ≤ bN t k) (h1 : bN t k < 240) (hl : loB (b8 t k) = (lo : Int)) (hh : hiB (b8 t k) = (hi : Int)) :
    checkN (t.size - k) (bN t (k + 1)) (bN t (k + 2)) (bN t (k + 3)) 3 lo hi = told (chr t k) := by
  rw [chr_3 t k lo hi (by rw [b8_bN]; omega) (by rw [b8_bN]; omega) hl hh]
  unfold checkN
  rw [if_neg (by omega), if_pos rfl]
  refine told_ite _ _ 3 (by omega) ?_
  rw [goB_iff, show ((128 : Int) = ((128 : Nat) : Int)) from rfl, show ((191 : Int) = ((191 : Nat) : Int)) from rfl, goB_iff]
  omega
theorem check_4 (t : ByteArray) (k lo hi : Nat) (h0 : 240 ≤ bN t k) (h1 : bN t k < 245) (hl : loB (b8 t k) = (lo : Int)) (hh : hiB (b8 t k) = (hi : Int)) :
    checkN (t.size - k) (bN t (k + 1)) (bN t (k + 2)) (bN t (k + 3)) 4 lo hi = told (chr t k) := by
  rw [chr_4 t k lo hi (by rw [b8_bN]; omega) (by rw [b8_bN]; omega) hl hh]
  unfold checkN
  rw [if_neg (by omega), if_neg (by omega), if_pos rfl]
  refine told_ite _ _ 4 (by omega) ?_
  rw [goB_iff, show ((128 : Int) = ((128 : Nat) : Int)) from rfl, show ((191 : Int) = ((191 : Nat) : Int)) from rfl, goB_iff, goB_iff]
  omega

/-- At a lead byte from 128 on: the library's tables say what the document says. -/
theorem check_chr (t : ByteArray) (k : Nat) (h : 128 ≤ bN t k) :
    checkN (t.size - k) (bN t (k + 1)) (bN t (k + 2)) (bN t (k + 3)) (firstT (bN t k) % 8) (accLo (firstT (bN t k) / 16)) (accHi (firstT (bN t k) / 16)) = told (chr t k) := by
  have key : ∀ x sz lo hi, firstT (bN t k) = x → x % 8 = sz → accLo (x / 16) = lo → accHi (x / 16) = hi → checkN (t.size - k) (bN t (k + 1)) (bN t (k + 2)) (bN t (k + 3)) sz lo hi = told (chr t k) →
      checkN (t.size - k) (bN t (k + 1)) (bN t (k + 2)) (bN t (k + 3)) (firstT (bN t k) % 8) (accLo (firstT (bN t k) / 16)) (accHi (firstT (bN t k) / 16)) = told (chr t k) := fun x sz lo hi e0 e1 e2 e3 he => by
    rw [e0, e1, e2, e3]; exact he
  have hb := bN_lt t k
  have e8 := b8_bN t k
  have n128 : ¬ bN t k < 128 := by omega
  have bad : firstT (bN t k) = 241 → chr t k = 0 → checkN (t.size - k) (bN t (k + 1)) (bN t (k + 2)) (bN t (k + 3)) (firstT (bN t k) % 8) (accLo (firstT (bN t k) / 16)) (accHi (firstT (bN t k) / 16)) = told (chr t k) := fun e0 ec => by
    rw [e0, ec]; rfl
  by_cases c0 : bN t k < 194
  · exact bad (by unfold firstT; rw [if_neg n128, if_pos c0]) (chr_0 t k (.inl (by rw [e8]; omega)))
  by_cases c1 : bN t k < 224
  · exact key 2 2 128 191 (by unfold firstT; rw [if_neg n128, if_neg c0, if_pos c1]) (by decide) (by decide) (by decide)
      (check_2 t k 128 191 (by omega) c1 (by rw [e8]; unfold loB; rw [if_neg (by omega), if_neg (by omega)]; rfl) (by rw [e8]; unfold hiB; rw [if_neg (by omega), if_neg (by omega)]; rfl))
  by_cases c2 : bN t k = 224
  · exact key 19 3 160 191 (by rw [c2]; decide) (by decide) (by decide) (by decide)
      (check_3 t k 160 191 (by omega) (by omega) (by rw [e8, c2]; decide) (by rw [e8, c2]; decide))
  by_cases c3 : bN t k < 237
  · exact key 3 3 128 191 (by unfold firstT; rw [if_neg n128, if_neg c0, if_neg c1, if_neg c2, if_pos c3]) (by decide) (by decide) (by decide)
      (check_3 t k 128 191 (by omega) (by omega) (by rw [e8]; unfold loB; rw [if_neg (by omega), if_neg (by omega)]; rfl) (by rw [e8]; unfold hiB; rw [if_neg (by omega), if_neg (by omega)]; rfl))
  by_cases c4 : bN t k = 237
  · exact key 35 3 128 159 (by rw [c4]; decide) (by decide) (by decide) (by decide)
      (check_3 t k 128 159 (by omega) (by omega) (by rw [e8, c4]; decide) (by rw [e8, c4]; decide))
  by_cases c5 : bN t k < 240
  · exact key 3 3 128 191 (by unfold firstT; rw [if_neg n128, if_neg c0, if_neg c1, if_neg c2, if_neg c3, if_neg c4, if_pos c5]) (by decide) (by decide) (by decide)
      (check_3 t k 128 191 (by omega) (by omega) (by rw [e8]; unfold loB; rw [if_neg (by omega), if_neg (by omega)]; rfl) (by rw [e8]; unfold hiB; rw [if_neg (by omega), if_neg (by omega)]; rfl))
  by_cases c6 : bN t k = 240
  · exact key 52 4 144 191 (by rw [c6]; decide) (by decide) (by decide) (by decide)
      (check_4 t k 144 191 (by omega) (by omega) (by rw [e8, c6]; decide) (by rw [e8, c6]; decide))
  by_cases c7 : bN t k < 244
  · exact key 4 4 128 191 (by unfold firstT; rw [if_neg n128, if_neg c0, if_neg c1, if_neg c2, if_neg c3, if_neg c4, if_neg c5, if_neg c6, if_pos c7]) (by decide) (by decide) (by decide)
      (check_4 t k 128 191 (by omega) (by omega) (by rw [e8]; unfold loB; rw [if_neg (by omega), if_neg (by omega)]; rfl) (by rw [e8]; unfold hiB; rw [if_neg (by omega), if_neg (by omega)]; rfl))
  by_cases c8 : bN t k = 244
  · exact key 68 4 128 143 (by rw [c8]; decide) (by decide) (by decide) (by decide)
      (check_4 t k 128 143 (by omega) (by omega) (by rw [e8, c8]; decide) (by rw [e8, c8]; decide))
  · exact bad (by unfold firstT; rw [if_neg n128, if_neg c0, if_neg c1, if_neg c2, if_neg c3, if_neg c4, if_neg c5, if_neg c6, if_neg c7, if_neg c8]) (chr_0 t k (.inr (by rw [e8]; omega)))

theorem size_list (t : ByteArray) : t.data.toList.length = t.size := Array.length_toList
/-- One character on. -/
theorem valid_chr (t : ByteArray) (k : Nat) (hk : k < t.size) :
    validD (t.data.toList.drop k) = if chr t k = 0 then false else validD (t.data.toList.drop (k + chr t k)) := by
  have hlen : (t.data.toList.drop k).length = t.size - k := by rw [List.length_drop, size_list]
  have hne : t.data.toList.drop k ≠ [] := fun e => by rw [e] at hlen; simp at hlen; omega
  by_cases h : bN t k < 128
  · have hc : chr t k = 1 := chr_1 t k (by rw [b8_bN]; omega)
    have hk' : k < t.data.toList.length := by rw [size_list]; exact hk
    rw [hc, if_neg (by omega), List.drop_eq_getElem_cons hk', validD_cons]
    have : bN t k = t.data.toList[k].toNat := by
      unfold bN
      rw [List.getD_eq_getElem?_getD, List.getElem?_eq_getElem hk']
      rfl
    omega
  · rw [validD_lead _ hne (by rw [bN_drop]; show 128 ≤ bN t k; omega), hlen, bN_drop, bN_drop, bN_drop, bN_drop]
    show (match checkN (t.size - k) (bN t (k + 1)) (bN t (k + 2)) (bN t (k + 3)) (firstT (bN t k) % 8) (accLo (firstT (bN t k) / 16)) (accHi (firstT (bN t k) / 16)) with
      | none => false
      | some j => validD ((t.data.toList.drop k).drop j)) = _
    rw [check_chr t k (by omega)]
    unfold told
    by_cases hc : chr t k = 0
    · rw [if_pos hc, if_pos hc]
    · rw [if_neg hc, if_neg hc]
      show validD ((t.data.toList.drop k).drop (chr t k)) = _
      rw [List.drop_drop]
theorem utf8_valid_from (t : ByteArray) : ∀ (n k : Nat), t.size - k ≤ n → k ≤ t.size → (Utf8From t k ↔ validD (t.data.toList.drop k) = true)
  | n, k, hn, hk => by
    by_cases he : k = t.size
    · have : t.data.toList.drop k = [] := List.drop_eq_nil_of_le (by rw [size_list]; omega)
      rw [this, validD_nil]
      exact ⟨fun _ => rfl, fun _ => utf8_end t k (by omega)⟩
    · have hk' : k < t.size := by omega
      rw [utf8_step t k hk', valid_chr t k hk']
      by_cases hc : chr t k = 0
      · rw [if_pos hc]
        exact ⟨fun h => absurd hc h.1, fun h => by cases h⟩
      · rw [if_neg hc]
        match n, hn with
        | 0, hn => omega
        | n + 1, hn =>
          have ih := utf8_valid_from t n (k + chr t k) (by omega) (chr_le t k hk')
          exact ⟨fun h => ih.1 h.2, fun h => ⟨hc, ih.2 h⟩⟩
/-- A text is characters just where utf8.ValidString's plain function says so. -/
theorem utf8_valid (t : ByteArray) : Utf8Ok t ↔ validD t.data.toList = true := by
  have := utf8_valid_from t t.size 0 (by omega) (by omega)
  rw [List.drop_zero] at this
  exact this
end Go.Proofs.YtkkicodfpekbgaaGreatDoor

/-! Contents: Time: the parts. -/
namespace Go.Proofs.YtkkicodfpekbgaaGreatDoor
set_option linter.unusedSimpArgs false
set_option linter.unusedVariables false
open Go.RowKit

/-- The number that the first k digits tell. -/
def decTo (s : ByteArray) : Nat → Int
  | 0 => 0
  | k + 1 => decTo s k * 10 + (b8 s k - 48)
/-- All of a text's first n bytes are digits. -/
def DigTo (s : ByteArray) (n : Nat) : Prop := ∀ i, i < n → 48 ≤ b8 s i ∧ b8 s i ≤ 57
theorem decTo_bd (s : ByteArray) (k : Nat) (hk : k ≤ 4) (h : DigTo s k) : 0 ≤ decTo s k ∧ decTo s k < 10000 := by
  match k, hk, h with
  | 0, _, _ => simp [decTo]
  | 1, _, h => have := h 0 (by omega); simp only [decTo]; omega
  | 2, _, h => have := h 0 (by omega); have := h 1 (by omega); simp only [decTo]; omega
  | 3, _, h => have := h 0 (by omega); have := h 1 (by omega); have := h 2 (by omega); simp only [decTo]; omega
  | 4, _, h => have := h 0 (by omega); have := h 1 (by omega); have := h 2 (by omega); have := h 3 (by omega); simp only [decTo]; omega

set_option maxHeartbeats 1000000 in
set_option maxRecDepth 100000 in
theorem decimal_any (s : ByteArray) (w : World) (h4 : s.size ≤ 4) (hd : DigTo s s.size) :
    Calls Tryz.prog 197 #[.string s] w fun e w' => e = .returned (.int .i64 (decTo s s.size)) ∧ w' = w := by
  have HD : Hid (DigTo s s.size) := hd
  clear hd
  go_enter Tryz.func197, Tryz.ntmps197
  go_wp2
  go_loop [3, 7] (fun n i => ∃ k : Nat, k ≤ s.size ∧ i = .int .i64 k ∧ n = .int .i64 (decTo s k)) (fun _ i => s.size - (intOf i).toNat)
  case atStart => exact ⟨0, by omega, rfl, rfl⟩
  case round =>
    obtain ⟨k, hk, rfl, rfl⟩ := hrel
    have hb := decTo_bd s k (by omega) (fun i hi => HD.out i (by omega))
    have hb0 : 0 ≤ decTo s k := hb.1
    have hb1 : decTo s k < 10000 := hb.2
    clear hb
    by_cases hlt : k < s.size
    · have HE : Hid ((s[k].toNat : Int) = b8 s k) := b8_get s k hlt
      have hx := HD.out k hlt
      have hx0 : 48 ≤ (s[k].toNat : Int) := by rw [HE.out]; exact hx.1
      have hx1 : (s[k].toNat : Int) ≤ 57 := by rw [HE.out]; exact hx.2
      clear hx
      go_wp2
      go_round
      case rel => exact ⟨k + 1, by omega, by go_num, by show _ = Value.int .i64 (decTo s k * 10 + (b8 s k - 48)); rw [← HE.out]⟩
      case measure => simp [intOf]; omega
    · have hkc : s.size = k := by omega
      have HF : Hid (decTo s k = decTo s s.size) := by show _ = _; rw [hkc]
      clear hkc
      go_wp2
      go_ret
      exact ⟨ret_i64 HF.out, rfl⟩

set_option maxHeartbeats 1000000 in
set_option maxRecDepth 100000 in
theorem numberRef_any (s : ByteArray) (w : World) (h4 : s.size ≤ 4) (hd : DigTo s s.size) :
    Calls Tryz.prog 168 #[.string s] w fun e w' => e = .returned (.int .i64 (decTo s s.size)) ∧ w' = w := by
  have HD : Hid (DigTo s s.size) := hd
  clear hd
  go_enter Tryz.func168, Tryz.ntmps168
  go_wp2
  go_loop [3, 4] (fun n i => ∃ k : Nat, k ≤ s.size ∧ i = .int .i64 k ∧ n = .int .i64 (decTo s k)) (fun _ i => s.size - (intOf i).toNat)
  case atStart => exact ⟨0, by omega, rfl, rfl⟩
  case round =>
    obtain ⟨k, hk, rfl, rfl⟩ := hrel
    have hb := decTo_bd s k (by omega) (fun i hi => HD.out i (by omega))
    have hb0 : 0 ≤ decTo s k := hb.1
    have hb1 : decTo s k < 10000 := hb.2
    clear hb
    by_cases hlt : k < s.size
    · have HE : Hid ((s[k].toNat : Int) = b8 s k) := b8_get s k hlt
      have hx := HD.out k hlt
      have hx0 : 48 ≤ (s[k].toNat : Int) := by rw [HE.out]; exact hx.1
      have hx1 : (s[k].toNat : Int) ≤ 57 := by rw [HE.out]; exact hx.2
      clear hx
      go_wp2
      go_round
      case rel => exact ⟨k + 1, by omega, by go_num, by show _ = Value.int .i64 (decTo s k * 10 + (b8 s k - 48)); rw [← HE.out]; go_num⟩
      case measure => simp [intOf]; omega
    · have hkc : s.size = k := by omega
      have HF : Hid (decTo s k = decTo s s.size) := by show _ = _; rw [hkc]
      clear hkc
      go_wp2
      go_ret
      exact ⟨ret_i64 HF.out, rfl⟩

/-- The last day of a month. -/
def lastDay (y m : Int) : Int := if m = 2 then (if y % 400 = 0 ∨ y % 4 = 0 ∧ y % 100 ≠ 0 then 29 else 28) else if m = 4 ∨ m = 6 ∨ m = 9 ∨ m = 11 then 30 else 31
def Leap (y : Int) : Prop := y % 400 = 0 ∨ y % 4 = 0 ∧ y % 100 ≠ 0
/-- The program's table of days lies in memory. -/
def Days (w : World) : Prop := ∀ i, i < 12 → w.cell? ⟨18, i, none⟩ = some (.int .i64 ([31, 28, 31, 30, 31, 30, 31, 31, 30, 31, 30, 31].getD i 0))
theorem Days.drew {w : World} (h : Days w) (k : Nat) : Days (w.drewN k) := h

set_option maxHeartbeats 1000000 in
set_option maxRecDepth 100000 in
theorem isLeap_any (y : Int) (w : World) (h0 : 0 ≤ y) (h1 : y < 10000) :
    Calls Tryz.prog 210 #[.int .i64 y] w fun e w' => e = .returned (.bool (decide (y % 400 = 0 ∨ y % 4 = 0 ∧ y % 100 ≠ 0))) ∧ w' = w := by
  by_cases h4 : y % 4 = 0
  · have h4' : (y % 4 == 0) = true := beq_iff_eq.2 h4
    by_cases h100 : y % 100 = 0
    · have h100' : (y % 100 != 0) = false := by rw [bne_eq_false_iff_eq]; exact h100
      have HB : Hid ((y % 400 == 0) = decide (y % 400 = 0 ∨ y % 4 = 0 ∧ y % 100 ≠ 0)) := by
        show _ = _
        rw [Bool.eq_iff_iff, beq_iff_eq, decide_eq_true_iff]; omega
      clear h4 h100
      go_enter Tryz.func210, Tryz.ntmps210
      go_wp2
      go_ret
      exact ⟨ret_b HB.out, rfl⟩
    · have h100' : (y % 100 != 0) = true := by rw [bne_iff_ne]; exact h100
      have HB : Hid (true = decide (y % 400 = 0 ∨ y % 4 = 0 ∧ y % 100 ≠ 0)) := by
        show _ = _
        rw [eq_comm, decide_eq_true_iff]; omega
      clear h4 h100
      go_enter Tryz.func210, Tryz.ntmps210
      go_wp2
      go_ret
      exact ⟨ret_b HB.out, rfl⟩
  · have h4' : (y % 4 == 0) = false := beq_eq_false_iff_ne.2 h4
    have HB : Hid ((y % 400 == 0) = decide (y % 400 = 0 ∨ y % 4 = 0 ∧ y % 100 ≠ 0)) := by
      show _ = _
      rw [Bool.eq_iff_iff, beq_iff_eq, decide_eq_true_iff]; omega
    clear h4
    go_enter Tryz.func210, Tryz.ntmps210
    go_wp2
    go_ret
    exact ⟨ret_b HB.out, rfl⟩

set_option maxHeartbeats 1000000 in
set_option maxRecDepth 100000 in
theorem lastDay_any (y : Int) (m : Nat) (w : World) (h0 : 0 ≤ y) (h1 : y < 10000) (hm0 : 1 ≤ m) (hm1 : m ≤ 12) (hD : Days w) :
    Calls Tryz.prog 207 #[.int .i64 y, .int .i64 m] w fun e w' => e = .returned (.int .i64 (lastDay y m)) ∧ w' = w := by
  have hc : w.cell? ⟨18, m - 1, none⟩ = some (.int .i64 ([31, 28, 31, 30, 31, 30, 31, 31, 30, 31, 30, 31].getD (m - 1) 0)) := hD (m - 1) (by omega)
  clear hD
  by_cases h2 : m = 2
  · have HL : Hid (Calls Tryz.prog 210 #[.int .i64 y] w fun e w' => e = .returned (.bool (decide (y % 400 = 0 ∨ y % 4 = 0 ∧ y % 100 ≠ 0))) ∧ w' = w) := isLeap_any y w h0 h1
    subst h2
    have hl : lastDay y ((2 : Nat) : Int) = if y % 400 = 0 ∨ y % 4 = 0 ∧ y % 100 ≠ 0 then 29 else 28 := rfl
    rw [hl]
    by_cases hy : y % 400 = 0 ∨ y % 4 = 0 ∧ y % 100 ≠ 0
    · rw [if_pos hy]
      rw [decide_eq_true hy] at HL
      clear hy hl
      go_enter Tryz.func207, Tryz.ntmps207
      go_wp2_with fail
      refine Calls.mono HL.out ?_
      rintro e w2 ⟨rfl, rfl⟩
      go_wp2_with fail
      go_ret
      exact ⟨rfl, rfl⟩
    · rw [if_neg hy]
      rw [decide_eq_false hy] at HL
      clear hy hl
      go_enter Tryz.func207, Tryz.ntmps207
      go_wp2_with fail
      refine Calls.mono HL.out ?_
      rintro e w2 ⟨rfl, hw⟩
      subst hw
      go_wp2_with fail
      go_ret
      exact ⟨rfl, rfl⟩
  · have h2' : ((m : Int) == 2) = false := by rw [beq_eq_false_iff_ne]; omega
    have HV : Hid ([31, 28, 31, 30, 31, 30, 31, 31, 30, 31, 30, 31].getD (m - 1) 0 = lastDay y m) := by
      show _ = _
      obtain ⟨j, rfl⟩ : ∃ j, m = j + 1 := ⟨m - 1, by omega⟩
      match j, hm1, h2 with
      | 0, _, _ => rfl
      | 2, _, _ => rfl
      | 3, _, _ => rfl
      | 4, _, _ => rfl
      | 5, _, _ => rfl
      | 6, _, _ => rfl
      | 7, _, _ => rfl
      | 8, _, _ => rfl
      | 9, _, _ => rfl
      | 10, _, _ => rfl
      | 11, _, _ => rfl
    generalize ([31, 28, 31, 30, 31, 30, 31, 31, 30, 31, 30, 31].getD (m - 1) 0 : Int) = v at hc HV
    clear h2
    go_enter Tryz.func207, Tryz.ntmps207
    go_wp2
    go_ret
    exact ⟨ret_i64 HV.out, rfl⟩
end Go.Proofs.YtkkicodfpekbgaaGreatDoor
