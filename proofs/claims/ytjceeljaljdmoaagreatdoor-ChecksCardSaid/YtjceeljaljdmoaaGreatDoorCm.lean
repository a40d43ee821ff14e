/-
  Which contents may be: plain mathematics; no program is named here.
-/
import Derived.Test.YtjceeljaljdmoaaGreatDoorMath
namespace Go.Proofs.YtjceeljaljdmoaaGreatDoor

/-- As few bytes as can be. -/
def IntOk (t : ByteArray) : Prop := 1 ≤ t.size ∧ t.size ≤ 20 ∧ (2 ≤ t.size → b8 t 0 * 2 + b8 t 1 / 128 ≠ 0 ∧ b8 t 0 * 2 + b8 t 1 / 128 ≠ 511)
/-- No number has been begun and not ended at k. -/
def btw (t : ByteArray) (k : Nat) : Prop := k = 0 ∨ b8 t (k - 1) < 128
/-- No number before k begins with 128. -/
def oidTo (t : ByteArray) (k : Nat) : Prop := ∀ j, j < k → ¬ (btw t j ∧ b8 t j = 128)
def OidOk (t : ByteArray) : Prop := 1 ≤ t.size ∧ t.size ≤ 20 ∧ oidTo t t.size ∧ btw t t.size
theorem oidTo_succ (t : ByteArray) (k : Nat) : oidTo t (k + 1) ↔ oidTo t k ∧ ¬ (btw t k ∧ b8 t k = 128) := by
  unfold oidTo
  constructor
  · intro h; exact ⟨fun j hj => h j (by omega), h k (by omega)⟩
  · intro h j hj
    by_cases e : j = k
    · subst e; exact h.2
    · exact h.1 j (by omega)
theorem oidTo_zero (t : ByteArray) : oidTo t 0 := fun _ h => absurd h (Nat.not_lt_zero _)
theorem oid_no (t : ByteArray) (k : Nat) (hk : k < t.size) (h : btw t k ∧ b8 t k = 128) : ¬ OidOk t := fun o => o.2.2.1 k hk h
/-- A byte and bytes. -/
def BitsOk (t : ByteArray) : Prop := 1 ≤ t.size ∧ b8 t 0 ≤ 7 ∧ (t.size = 1 → b8 t 0 = 0) ∧ (2 ≤ t.size → b8 t (t.size - 1) % 2 ^ (b8 t 0).toNat = 0)

theorem i64_or1 (x y : Int) (h0 : 0 ≤ x) (h1 : x < 4611686018427387904) (hx : x % 2 = 0) (h2 : 0 ≤ y) (h3 : y < 2) : bits .or .i64 x y = x + y :=
  bits_join .i64 63 (by decide) wraps_i64 1 x y h0 hx (by omega) h2 h3 (by omega)

/-- The trailing zeros of a byte. -/
def tz8 (x : Nat) : Nat := if x = 0 then 8 else (List.range 8).findIdx (fun k => x / 2 ^ k % 2 = 1)
theorem tz8_ge : ∀ x : Fin 256, ∀ k : Fin 8, (k.val ≤ tz8 x.val ↔ x.val % 2 ^ k.val = 0) := by decide +kernel
end Go.Proofs.YtjceeljaljdmoaaGreatDoor
