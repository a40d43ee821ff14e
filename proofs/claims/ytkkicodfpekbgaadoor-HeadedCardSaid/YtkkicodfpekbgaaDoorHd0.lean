/-
  element.Read from the front; hallmark.number of what it answers.
-/
import Derived.Test.YtkkicodfpekbgaaDoorRd
import Derived.Deep.RegionWith
namespace Go.Proofs.YtkkicodfpekbgaaDoor
open Go.RowKit

theorem extract_all (s : ByteArray) : s.extract 0 s.size = s := by
  simp
theorem read0 (s : ByteArray) (w : World) (sn : Sn → Addr) (hs : Sent w sn) (hm : s.size ≤ 9223372036854775807) :
    Calls Tryd.prog 11 #[.string s, .int .i64 0] w fun e w' => e = .returned (.tuple #[hv (hd s).2, errAt 0 sn (hd s).1]) ∧ Below w.heap.size w w' := by
  have := read_any s 0 w sn hs hm (Nat.zero_le _)
  rw [extract_all] at this
  exact this
theorem hd_code (s : ByteArray) : (hd s).1 = 0 ∨ (hd s).1 = 3 ∨ (hd s).1 = 4 ∨ (hd s).1 = 5 := by
  have hr := (rl_bd (s.extract 1 s.size)).1
  unfold hd
  repeat' split
  all_goals simp
  omega
theorem number_any (p : Int) (c : Int) (w : World) (sn : Sn → Addr) (hs : Sent w sn) (hc : c = 0 ∨ c = 3 ∨ c = 4 ∨ c = 5) :
    Calls Tryd.prog 12 #[errAt p sn c] w fun e w' => e = .returned (.int .i64 c) ∧ Below w.heap.size w w' := by
  rcases hc with rfl | rfl | rfl | rfl
  · exact (number_nil w).mono fun e w' h => ⟨h.1, h.2 ▸ Below.refl _ _⟩
  · exact number_E p w sn hs
  · exact number_T p w sn hs
  · exact number_L p w sn hs
end Go.Proofs.YtkkicodfpekbgaaDoor
