/-
  element.Read: what it answers.
-/
import Derived.Test.YtkkicodfpekbgaaDoorRl
namespace Go.Proofs.YtkkicodfpekbgaaDoor
open Go.RowKit

/-- A head as a value. -/
def hv (h : Hd) : Value := .agg #[.int .i64 h.c, .bool h.b, .int .i64 h.n, .int .i64 h.s, .int .i64 h.l]

theorem below5 {B : Nat} {w w1 : World} (h : Below B w w1) (b : Nat) (hb : B ≤ b) (v0 v1 v2 v3 v4 : Value) :
    Below B w (((((w1.setCell ⟨b, 0, none⟩ v0).setCell ⟨b, 1, none⟩ v1).setCell ⟨b, 2, none⟩ v2).setCell ⟨b, 3, none⟩ v3).setCell ⟨b, 4, none⟩ v4) :=
  ((((h.setCell (p := ⟨b, 0, none⟩) hb v0).setCell (p := ⟨b, 1, none⟩) hb v1).setCell (p := ⟨b, 2, none⟩) hb v2).setCell (p := ⟨b, 3, none⟩) hb v3).setCell (p := ⟨b, 4, none⟩) hb v4

set_option maxHeartbeats 1000000 in
set_option maxRecDepth 100000 in
theorem rd_empty (s : ByteArray) (p : Nat) (w : World) (sn : Sn → Addr) (hs : Sent w sn) (_hm : s.size ≤ 9223372036854775807) (hp : p ≤ s.size) (hz : (s.extract p s.size).size = 0) :
    Calls Tryd.prog 11 #[.string s, .int .i64 p] w fun e w' => e = .returned (.tuple #[hv .zero, fault p (sn .End)]) ∧ Below w.heap.size w w' := by
  have h0 := hs.cE
  have h0' := cell_lt hs.cE
  have he := emp_t hz
  clear hs
  unfold fault hv Hd.zero
  go_enter Tryd.func11, Tryd.ntmps11
  go_wp2
  exact bodyPost_ret (v := .tuple #[.agg #[.int .i64 0, .bool false, .int .i64 0, .int .i64 0, .int .i64 0], .iface 54 (.agg #[.int .i64 p, .iface 72 (.pointer (some (sn .End)))])]) (by simp [results, Tryd.results11, go_sem]) rfl ⟨rfl, (Below.refl _ _).alloc (Nat.le_refl _) _⟩

set_option maxHeartbeats 1000000 in
set_option maxRecDepth 100000 in
theorem rd_tag (s : ByteArray) (p : Nat) (w : World) (sn : Sn → Addr) (hs : Sent w sn) (_hm : s.size ≤ 9223372036854775807) (hp : p ≤ s.size) (hz : 0 < (s.extract p s.size).size) (hpos : 0 < s.size - p) (hx1 : ((s.extract p s.size)[0].toNat : Int) < 256) (hx2 : 30 < bits .and .i64 ((s.extract p s.size)[0].toNat : Int) 31) :
    Calls Tryd.prog 11 #[.string s, .int .i64 p] w fun e w' => e = .returned (.tuple #[hv .zero, fault p (sn .Tag)]) ∧ Below w.heap.size w w' := by
  have h1 := hs.cT
  have h1' := cell_lt hs.cT
  have he := emp_f hz
  clear hs
  unfold fault hv Hd.zero
  go_enter Tryd.func11, Tryd.ntmps11
  go_wp2
  exact bodyPost_ret (v := .tuple #[.agg #[.int .i64 0, .bool false, .int .i64 0, .int .i64 0, .int .i64 0], .iface 54 (.agg #[.int .i64 p, .iface 72 (.pointer (some (sn .Tag)))])]) (by simp [results, Tryd.results11, go_sem]) rfl ⟨rfl, (Below.refl _ _).alloc (Nat.le_refl _) _⟩

set_option maxHeartbeats 1000000 in
set_option maxRecDepth 100000 in
theorem rd_len (s : ByteArray) (p : Nat) (w : World) (sn : Sn → Addr) (z1 z2 : Int) (hs : Sent w sn) (hm : s.size ≤ 9223372036854775807) (hp : p ≤ s.size) (hz : 0 < (s.extract p s.size).size) (hpos : 0 < s.size - p) (hx1 : ((s.extract p s.size)[0].toNat : Int) < 256) (hx2 : bits .and .i64 ((s.extract p s.size)[0].toNat : Int) 31 ≤ 30) (c : Int) (a : Addr)
    (hw : rl ((s.extract p s.size).extract 1 (s.size - p)) = (c, z1, z2)) (hv' : which sn c = (.iface 72 (.pointer (some a)))) :
    Calls Tryd.prog 11 #[.string s, .int .i64 p] w fun e w' => e = .returned (.tuple #[hv .zero, fault p a]) ∧ Below w.heap.size w w' := by
  have HW : Hid (rl ((s.extract p s.size).extract 1 (s.size - p)) = (c, z1, z2)) := hw
  have HV : Hid (which sn c = (.iface 72 (.pointer (some a)))) := hv'
  clear hw hv'
  have HS : Hid (Sent w sn) := hs
  have he := emp_f hz
  clear hs
  unfold fault hv Hd.zero
  go_enter Tryd.func11, Tryd.ntmps11
  go_wp2_with fail
  refine (readLength_eq _ _ sn c z1 z2 (.iface 72 (.pointer (some a))) (HS.out.below ((Below.refl _ _).alloc (Nat.le_refl _) _)) (by simp; omega) HW.out HV.out).mono ?_
  rintro e w1 ⟨rfl, hb⟩
  obtain ⟨hc, hf⟩ := bcell hb
  have hz' : w.heap.size < w1.heap.size := by have := hb.size; simp at this; omega
  have HB : Hid (Below (w.alloc (.cells #[.int .i64 0, .bool false, .int .i64 0, .int .i64 0, .int .i64 0] 23)).heap.size (w.alloc (.cells #[.int .i64 0, .bool false, .int .i64 0, .int .i64 0, .int .i64 0] 23)) w1) := hb
  clear hb
  go_wp2
  refine bodyPost_ret (v := .tuple #[.agg #[.int .i64 0, .bool false, .int .i64 0, .int .i64 0, .int .i64 0], .iface 54 (.agg #[.int .i64 p, .iface 72 (.pointer (some a))])]) (by simp [results, Tryd.results11, go_sem, hc]) rfl ⟨rfl, ?_⟩
  exact below5 (((Below.refl w.heap.size w).alloc (Nat.le_refl _) _).trans (HB.out.mono (by simp))) _ (Nat.le_refl _) _ _ _ _ _

set_option maxHeartbeats 1000000 in
set_option maxRecDepth 100000 in
theorem rd_end (s : ByteArray) (p : Nat) (w : World) (sn : Sn → Addr) (z1 z2 : Int) (hs : Sent w sn) (hm : s.size ≤ 9223372036854775807) (hp : p ≤ s.size) (hz : 0 < (s.extract p s.size).size) (hpos : 0 < s.size - p) (hx1 : ((s.extract p s.size)[0].toNat : Int) < 256) (hx2 : bits .and .i64 ((s.extract p s.size)[0].toNat : Int) 31 ≤ 30)
    (hw : rl ((s.extract p s.size).extract 1 (s.size - p)) = (0, z1, z2)) (b1 : 0 ≤ z1) (b2 : z1 ≤ 4) (b3 : 0 ≤ z2) (b4 : z2 < 16777216) (hl : ((s.size - p : Nat) : Int) - (z1 + 1) < z2) :
    Calls Tryd.prog 11 #[.string s, .int .i64 p] w fun e w' => e = .returned (.tuple #[hv .zero, fault p (sn .End)]) ∧ Below w.heap.size w w' := by
  have HW : Hid (rl ((s.extract p s.size).extract 1 (s.size - p)) = (0, z1, z2)) := hw
  have HV : Hid (which sn 0 = .nilIface) := rfl
  clear hw
  have HS : Hid (Sent w sn) := hs
  have he := emp_f hz
  have h0 := hs.cE
  have h0' := cell_lt hs.cE
  clear hs
  unfold fault hv Hd.zero
  go_enter Tryd.func11, Tryd.ntmps11
  go_wp2_with fail
  refine (readLength_eq _ _ sn 0 z1 z2 .nilIface (HS.out.below ((Below.refl _ _).alloc (Nat.le_refl _) _)) (by simp; omega) HW.out HV.out).mono ?_
  rintro e w1 ⟨rfl, hb⟩
  have h9 := ((HS.out.below ((Below.refl _ _).alloc (Nat.le_refl _) _)).below hb).cE
  obtain ⟨hc, hf⟩ := bcell hb
  have hz' : w.heap.size < w1.heap.size := by have := hb.size; simp at this; omega
  have HB : Hid (Below (w.alloc (.cells #[.int .i64 0, .bool false, .int .i64 0, .int .i64 0, .int .i64 0] 23)).heap.size (w.alloc (.cells #[.int .i64 0, .bool false, .int .i64 0, .int .i64 0, .int .i64 0] 23)) w1) := hb
  clear hb
  go_wp2
  refine bodyPost_ret (v := .tuple #[.agg #[.int .i64 0, .bool false, .int .i64 0, .int .i64 0, .int .i64 0], .iface 54 (.agg #[.int .i64 p, .iface 72 (.pointer (some (sn .End)))])]) (by simp [results, Tryd.results11, go_sem, hc]) rfl ⟨rfl, ?_⟩
  exact below5 (((Below.refl w.heap.size w).alloc (Nat.le_refl _) _).trans (HB.out.mono (by simp))) _ (Nat.le_refl _) _ _ _ _ _

set_option maxHeartbeats 1000000 in
set_option maxRecDepth 100000 in
theorem rd_ok (s : ByteArray) (p : Nat) (w : World) (sn : Sn → Addr) (z1 z2 : Int) (hs : Sent w sn) (hm : s.size ≤ 9223372036854775807) (hp : p ≤ s.size) (hz : 0 < (s.extract p s.size).size) (hpos : 0 < s.size - p) (hx1 : ((s.extract p s.size)[0].toNat : Int) < 256) (hx2 : bits .and .i64 ((s.extract p s.size)[0].toNat : Int) 31 ≤ 30)
    (hw : rl ((s.extract p s.size).extract 1 (s.size - p)) = (0, z1, z2)) (b1 : 0 ≤ z1) (b2 : z1 ≤ 4) (b3 : 0 ≤ z2) (b4 : z2 < 16777216) (hl : z2 ≤ ((s.size - p : Nat) : Int) - (z1 + 1)) :
    Calls Tryd.prog 11 #[.string s, .int .i64 p] w fun e w' => e = .returned (.tuple #[hv ⟨((s.extract p s.size)[0].toNat : Int) / 64, bits .and .i64 ((s.extract p s.size)[0].toNat : Int) 32 != 0, bits .and .i64 ((s.extract p s.size)[0].toNat : Int) 31, z1 + 1, z2⟩, .nilIface]) ∧ Below w.heap.size w w' := by
  have HW : Hid (rl ((s.extract p s.size).extract 1 (s.size - p)) = (0, z1, z2)) := hw
  have HV : Hid (which sn 0 = .nilIface) := rfl
  clear hw
  have HS : Hid (Sent w sn) := hs
  have he := emp_f hz
  clear hs
  unfold hv
  go_enter Tryd.func11, Tryd.ntmps11
  go_wp2_with fail
  refine (readLength_eq _ _ sn 0 z1 z2 .nilIface (HS.out.below ((Below.refl _ _).alloc (Nat.le_refl _) _)) (by simp; omega) HW.out HV.out).mono ?_
  rintro e w1 ⟨rfl, hb⟩
  obtain ⟨hc, hf⟩ := bcell hb
  have hz' : w.heap.size < w1.heap.size := by have := hb.size; simp at this; omega
  have HB : Hid (Below (w.alloc (.cells #[.int .i64 0, .bool false, .int .i64 0, .int .i64 0, .int .i64 0] 23)).heap.size (w.alloc (.cells #[.int .i64 0, .bool false, .int .i64 0, .int .i64 0, .int .i64 0] 23)) w1) := hb
  clear hb
  go_wp2
  refine bodyPost_ret (v := .tuple #[.agg #[.int .i64 (((s.extract p s.size)[0].toNat : Int) / 64), .bool (bits .and .i64 ((s.extract p s.size)[0].toNat : Int) 32 != 0), .int .i64 (bits .and .i64 ((s.extract p s.size)[0].toNat : Int) 31), .int .i64 (z1 + 1), .int .i64 z2], .nilIface]) (by simp [results, Tryd.results11, go_sem, hc]) rfl ⟨rfl, ?_⟩
  exact below5 (((Below.refl w.heap.size w).alloc (Nat.le_refl _) _).trans (HB.out.mono (by simp))) _ (Nat.le_refl _) _ _ _ _ _

/-- The error at a place, by its number. -/
def errAt (p : Int) (sn : Sn → Addr) (c : Int) : Value := if c = 0 then .nilIface else if c = 3 then fault p (sn .End) else if c = 4 then fault p (sn .Tag) else fault p (sn .Length)

theorem read_any (s : ByteArray) (p : Nat) (w : World) (sn : Sn → Addr) (hs : Sent w sn) (hm : s.size ≤ 9223372036854775807) (hp : p ≤ s.size) :
    Calls Tryd.prog 11 #[.string s, .int .i64 p] w fun e w' => e = .returned (.tuple #[hv (hd (s.extract p s.size)).2, errAt p sn (hd (s.extract p s.size)).1]) ∧ Below w.heap.size w w' := by
  have hsz : (s.extract p s.size).size = s.size - p := by simp
  unfold hd
  split
  · rename_i h; exact rd_empty s p w sn hs hm hp h
  rename_i h
  have hz : 0 < (s.extract p s.size).size := by omega
  have hpos : 0 < s.size - p := by omega
  have hb := b8_bd (s.extract p s.size) 0
  have e0 := b8_get (s.extract p s.size) 0 hz
  have ea := i64_and31 (b8 (s.extract p s.size) 0) hb.1 hb.2
  split
  · rename_i h1
    exact rd_tag s p w sn hs hm hp hz hpos (by rw [e0]; exact hb.2) (by rw [e0, ea]; omega)
  rename_i h1
  have hx1 : ((s.extract p s.size)[0].toNat : Int) < 256 := by rw [e0]; exact hb.2
  have hx2 : bits .and .i64 ((s.extract p s.size)[0].toNat : Int) 31 ≤ 30 := by rw [e0, ea]; omega
  rw [hsz]
  have hr := rl_bd ((s.extract p s.size).extract 1 (s.size - p))
  obtain ⟨c, z1, z2, hw⟩ : ∃ c z1 z2, rl ((s.extract p s.size).extract 1 (s.size - p)) = (c, z1, z2) := ⟨_, _, _, rfl⟩
  rw [hw] at hr ⊢
  simp only at hr ⊢
  split
  · rename_i h2
    rcases hr.1 with h | h | h
    · exact absurd h h2
    · subst h; exact rd_len s p w sn z1 z2 hs hm hp hz hpos hx1 hx2 3 (sn .End) hw rfl
    · subst h; exact rd_len s p w sn z1 z2 hs hm hp hz hpos hx1 hx2 5 (sn .Length) hw rfl
  rename_i h2
  have h2 : c = 0 := by omega
  subst h2
  split
  · rename_i h3
    exact rd_end s p w sn z1 z2 hs hm hp hz hpos hx1 hx2 hw hr.2.1 hr.2.2.1 hr.2.2.2.1 hr.2.2.2.2 h3
  · rename_i h3
    have := rd_ok s p w sn z1 z2 hs hm hp hz hpos hx1 hx2 hw hr.2.1 hr.2.2.1 hr.2.2.2.1 hr.2.2.2.2 (by omega)
    rw [e0, ea, i64_and32 _ hb.1 hb.2] at this
    exact this
end Go.Proofs.YtkkicodfpekbgaaDoor
