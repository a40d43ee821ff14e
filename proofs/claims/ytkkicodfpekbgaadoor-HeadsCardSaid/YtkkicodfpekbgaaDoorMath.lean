/-
  The plain mathematics of heads: what a length's bytes tell, what a head is, what is told; no program is named here.
-/
import Derived.WalkKit
import Derived.Laws.BitsLemmas
import Derived.Lib.Strings
namespace Go.Proofs.YtkkicodfpekbgaaDoor

theorem emp_t {t : ByteArray} (h : t.size = 0) : t.toList.isEmpty = true := by
  rw [Lib.toList_data]
  have : t.data.toList.length = 0 := by rw [Array.length_toList]; exact h
  cases hl : t.data.toList with
  | nil => rfl
  | cons a l => rw [hl] at this; simp at this
theorem emp_f {t : ByteArray} (h : 0 < t.size) : t.toList.isEmpty = false := by
  rw [Lib.toList_data]
  have h2 : t.data.toList.length = t.size := by rw [Array.length_toList]; rfl
  cases hl : t.data.toList with
  | nil => rw [hl] at h2; simp at h2; omega
  | cons a l => rfl

/-- The byte at a place, as a number (0 behind the end). -/
def b8 (t : ByteArray) (i : Nat) : Int := ((t.data.toList.getD i 0).toNat : Int)
theorem b8_get (t : ByteArray) (i : Nat) (h : i < t.size) : (t[i].toNat : Int) = b8 t i := by
  unfold b8
  have hl : i < t.data.toList.length := by rw [Array.length_toList]; exact h
  rw [List.getD_eq_getElem?_getD, List.getElem?_eq_getElem hl]
  rfl
theorem b8_bd (t : ByteArray) (i : Nat) : 0 ≤ b8 t i ∧ b8 t i < 256 := by
  unfold b8
  have := (t.data.toList.getD i 0).toNat_lt
  omega
theorem b8_extract (t : ByteArray) (a i : Nat) (_h : a ≤ t.size) : b8 (t.extract a t.size) i = b8 t (a + i) := by
  unfold b8
  rw [Lib.extract_data]
  have e : (t.data.toList.drop a).take (t.size - a) = t.data.toList.drop a := by
    apply List.take_of_length_le
    rw [List.length_drop, Array.length_toList]; exact Nat.le_refl _
  first
    | (rw [e]; simp [List.getD_eq_getElem?_getD])
    | (simp [List.getD_eq_getElem?_getD]; done)

/-- The number that the bytes 1 to k tell. -/
def numTo (t : ByteArray) : Nat → Int
  | 0 => 0
  | k + 1 => numTo t k * 256 + b8 t (k + 1)
theorem numTo_bd (t : ByteArray) : ∀ k : Nat, 0 ≤ numTo t k ∧ (k ≤ 3 → numTo t k < 16777216) ∧ (k ≤ 2 → numTo t k < 65536) ∧ (k ≤ 1 → numTo t k < 256)
  | 0 => by simp [numTo]
  | k + 1 => by
    have ih := numTo_bd t k
    have hb := b8_bd t (k + 1)
    simp only [numTo]
    refine ⟨by omega, fun h => ?_, fun h => ?_, fun h => ?_⟩
    · have := ih.2.2.1 (by omega); omega
    · have := ih.2.2.2 (by omega); omega
    · have : k = 0 := by omega
      subst this
      simp only [numTo]; omega
/-- How many bytes of its own a length has. -/
def cnt (n : Int) : Int := if n < 128 then 0 else if n < 256 then 1 else if n < 65536 then 2 else 3

theorem cnt_cases (n : Int) : (n < 128 ∧ cnt n = 0) ∨ (128 ≤ n ∧ n < 256 ∧ cnt n = 1) ∨ (256 ≤ n ∧ n < 65536 ∧ cnt n = 2) ∨ (65536 ≤ n ∧ cnt n = 3) := by
  unfold cnt
  repeat' split
  all_goals omega

theorem wraps_i64 (n : Int) (h₀ : 0 ≤ n) (h₁ : n < 2 ^ 63) : IntKind.i64.wrap n = n := by rw [IntKind.wrap_i64]; omega
theorem i64_or8 (x y : Int) (h0 : 0 ≤ x) (h1 : x < 4611686018427387904) (hx : x % 256 = 0) (h2 : 0 ≤ y) (h3 : y < 256) : bits .or .i64 x y = x + y :=
  bits_join .i64 63 (by decide) wraps_i64 8 x y h0 hx (by omega) h2 h3 (by omega)
theorem i64_or6 (x y : Int) (h0 : 0 ≤ x) (h1 : x < 4611686018427387904) (hx : x % 64 = 0) (h2 : 0 ≤ y) (h3 : y < 64) : bits .or .i64 x y = x + y :=
  bits_join .i64 63 (by decide) wraps_i64 6 x y h0 hx (by omega) h2 h3 (by omega)
theorem i64_and31 (x : Int) (h0 : 0 ≤ x) (h1 : x < 256) : bits .and .i64 x 31 = x % 32 := bits_mask .i64 63 (by decide) wraps_i64 5 (by decide) x h0 (by omega)
theorem i64_and32 (x : Int) (h0 : 0 ≤ x) (h1 : x < 256) : (bits .and .i64 x 32 != 0) = (x / 32 % 2 == 1) := by
  have all : ∀ j : Fin 256, (bits .and .i64 ((j.val : Nat) : Int) 32 != 0) = (((j.val : Nat) : Int) / 32 % 2 == 1) := by decide +kernel
  obtain ⟨a, rfl⟩ := Int.eq_ofNat_of_zero_le h0
  exact all ⟨a, by omega⟩
theorem i64_or32 (c n : Int) (h0 : 0 ≤ c) (h1 : c ≤ 3) (h2 : 0 ≤ n) (h3 : n ≤ 30) : bits .or .i64 (c * 64 + n) 32 = c * 64 + n + 32 := by
  have all : ∀ j : Fin 4, ∀ k : Fin 31, bits .or .i64 (((j.val : Nat) : Int) * 64 + ((k.val : Nat) : Int)) 32 = ((j.val : Nat) : Int) * 64 + ((k.val : Nat) : Int) + 32 := by decide +kernel
  obtain ⟨a, rfl⟩ := Int.eq_ofNat_of_zero_le h0
  obtain ⟨b, rfl⟩ := Int.eq_ofNat_of_zero_le h2
  exact all ⟨a, by omega⟩ ⟨b, by omega⟩

/-- What the bytes of a length tell: which it is (0: all is well; 3: they end; 5: not told as it must be), how many they are, the length. -/
def rl (t : ByteArray) : Int × Int × Int :=
  if t.size = 0 then (3, 0, 0)
  else if b8 t 0 < 128 then (0, 1, b8 t 0)
  else if b8 t 0 = 128 ∨ 131 < b8 t 0 then (5, 0, 0)
  else if (t.size : Int) ≤ b8 t 0 - 128 then (3, 0, 0)
  else if b8 t 0 - 128 ≠ cnt (numTo t (b8 t 0 - 128).toNat) then (5, 0, 0)
  else (0, 1 + (b8 t 0 - 128), numTo t (b8 t 0 - 128).toNat)

/-- A head's five parts. -/
structure Hd where
  c : Int
  b : Bool
  n : Int
  s : Int
  l : Int
def Hd.zero : Hd := ⟨0, false, 0, 0, 0⟩

/-- The head at the front of a text: which it is (4: another tag), and its parts. -/
def hd (r : ByteArray) : Int × Hd :=
  if r.size = 0 then (3, .zero)
  else if b8 r 0 % 32 = 31 then (4, .zero)
  else if (rl (r.extract 1 r.size)).1 ≠ 0 then ((rl (r.extract 1 r.size)).1, .zero)
  else if (r.size : Int) - ((rl (r.extract 1 r.size)).2.1 + 1) < (rl (r.extract 1 r.size)).2.2 then (3, .zero)
  else (0, ⟨b8 r 0 / 64, b8 r 0 / 32 % 2 == 1, b8 r 0 % 32, (rl (r.extract 1 r.size)).2.1 + 1, (rl (r.extract 1 r.size)).2.2⟩)

theorem rl_bd (t : ByteArray) : ((rl t).1 = 0 ∨ (rl t).1 = 3 ∨ (rl t).1 = 5) ∧ 0 ≤ (rl t).2.1 ∧ (rl t).2.1 ≤ 4 ∧ 0 ≤ (rl t).2.2 ∧ (rl t).2.2 < 16777216 := by
  have hb := b8_bd t 0
  unfold rl
  split
  · simp
  split
  · simp; omega
  split
  · simp
  split
  · simp
  split
  · simp
  · rename_i h1 h2 h3 h4 h5
    have hn := numTo_bd t (b8 t 0 - 128).toNat
    have := hn.2.1 (by omega)
    refine ⟨.inl rfl, ?_, ?_, hn.1, this⟩ <;> simp only <;> omega

/-- A length's bytes. -/
def tl (n : Int) : List UInt8 :=
  if n < 128 then [UInt8.ofNat n.toNat]
  else if n < 256 then [129, UInt8.ofNat n.toNat]
  else if n < 65536 then [130, UInt8.ofNat (n / 256).toNat, UInt8.ofNat (n % 256).toNat]
  else [131, UInt8.ofNat (n / 65536).toNat, UInt8.ofNat (n / 256 % 256).toNat, UInt8.ofNat (n % 256).toNat]
theorem tl_length (n : Int) : ((tl n).length : Int) = 1 + cnt n := by
  unfold tl cnt
  split
  · rfl
  split
  · rfl
  split <;> rfl
/-- The first byte of a head. -/
def fb (h : Hd) : Int := if h.b then h.c * 64 + h.n + 32 else h.c * 64 + h.n
/-- What is told of a head: which it is, and the bytes. -/
def tsp (h : Hd) : Int × List UInt8 :=
  if h.c < 0 ∨ 3 < h.c ∨ h.n < 0 ∨ 30 < h.n then (4, [])
  else if h.l < 0 ∨ 16777215 < h.l then (5, [])
  else (0, UInt8.ofNat (fb h).toNat :: tl h.l)
theorem tsp_code (h : Hd) : (tsp h).1 = 0 ∨ (tsp h).1 = 3 ∨ (tsp h).1 = 4 ∨ (tsp h).1 = 5 := by
  unfold tsp
  repeat' split
  all_goals simp
/-- A byte as a value. -/
def bv (u : UInt8) : Value := .int .u8 u.toNat
theorem bv_of (x : Int) (h0 : 0 ≤ x) (h1 : x < 256) : bv (UInt8.ofNat x.toNat) = .int .u8 x := by
  unfold bv
  have : (UInt8.ofNat x.toNat).toNat = x.toNat := by rw [UInt8.toNat_ofNat']; omega
  rw [this, Int.toNat_of_nonneg h0]
end Go.Proofs.YtkkicodfpekbgaaDoor
