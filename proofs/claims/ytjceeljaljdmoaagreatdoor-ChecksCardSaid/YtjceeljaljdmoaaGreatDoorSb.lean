/-
  hallmarkref.Begins: what it answers.
-/
import Derived.Test.YtjceeljaljdmoaaGreatDoorSl
import Derived.Test.YtjceeljaljdmoaaGreatDoorSq
namespace Go.Proofs.YtjceeljaljdmoaaGreatDoor
open Go.RowKit

theorem own_form {w : World} {base e size : Nat} {v : Value} {n : Nat} {xs : List Value} (h : w.ownsRow base e size v n xs) : ∃ a cap, v = .slice a n cap ∧ (0 < n → ∃ g, a = some ⟨g, 0, none⟩) := by
  rcases h.2 with ⟨hv, hn⟩ | ⟨g, cap, cur, hv, _⟩
  · subst hn; exact ⟨none, 0, hv, fun h => absurd h (Nat.lt_irrefl _)⟩
  · exact ⟨_, cap, hv, fun _ => ⟨g, rfl⟩⟩
/-- The kinds are those that there are. -/
def Kinds (s : List Nd) : Prop := ∀ j, j < s.length → 1 ≤ (nd s j).kind ∧ (nd s j).kind ≤ 14

set_option maxHeartbeats 4000000 in
set_option maxRecDepth 100000 in
theorem begins_any (s : List Nd) (a : Option Addr) (cp i : Nat) (c m : Int) (w : World) (hs : Sch w a s) (hw : Within s) (hkd : Kinds s) (hi : i < s.length) (hn : s.length ≤ 40) :
    Calls Tryz.prog 71 #[.slice a s.length cp, .int .i64 i, .int .i64 c, .int .i64 m] w fun e w' => RetO (Beg s i c m) w e w' := by
  have HS : Hid (Sch w a s) := hs
  have HW : Hid (Within s) := hw
  have HK : Hid (Kinds s) := hkd
  have HC : Hid (Calls Tryz.prog 26 #[.slice a s.length cp, .int .i64 i] w fun e w' => RetL s i w e w') := leaves_any s a cp i w hs hw hi hn
  clear hs hw hkd
  go_enter Tryz.func71, Tryz.ntmps71
  go_wp2_with fail
  refine HC.out.mono ?_
  rintro e w1 ⟨v, l, bk, rfl, hown, hb, hl, hlf, _⟩
  obtain ⟨va, vc, rfl, hva⟩ := own_form hown
  have HO : Hid (w1.ownsRow w.heap.size 3 1 (.slice va l.length vc) l.length (ivs l)) := hown
  have HB : Hid (Below w.heap.size w w1) := hb
  have HF : Hid (∀ j, j ∈ l ↔ Leaf s i j) := hlf
  have HA : Hid (0 < l.length → ∃ g, va = some ⟨g, 0, none⟩) := hva
  clear hown hb hlf hva HC
  go_wp2
  go_loopw [11] (fun vk wr => ∃ k : Nat, k ≤ l.length ∧ vk = .int .i64 k ∧ (∀ p, p < k → ¬ begAt (nd s (l.getD p 0)) c m) ∧ Below w1.heap.size w1 wr) (fun vk _ => l.length - (intOf vk).toNat)
  case atStart => exact ⟨0, Nat.zero_le _, rfl, fun p hp => absurd hp (Nat.not_lt_zero _), Below.refl _ _⟩
  case round =>
    obtain ⟨k, hk, rfl, hno, hbr⟩ := hrel
    have HN : Hid (∀ p, p < k → ¬ begAt (nd s (l.getD p 0)) c m) := hno
    have HBR : Hid (Below w1.heap.size w1 wr) := hbr
    by_cases hlt : k < l.length
    · obtain ⟨g, rfl⟩ := HA.out (by omega)
      have ck := own_cell (own_below HO.out hbr) hlt
      have HX : Hid (l.getD k 0 ∈ l) := by show _ ∈ l; rw [List.getD_eq_getElem?_getD, List.getElem?_eq_getElem hlt]; exact List.getElem_mem hlt
      generalize hx : l.getD k 0 = x at ck HX
      have HXE : Hid (l.getD k 0 = x) := hx
      have hxs : x < s.length := ((HF.out x).1 HX.out).1.lt HW.out hi
      have hkx := HK.out x hxs
      have HLX : Hid (Leaf s i x) := (HF.out x).1 HX.out
      obtain ⟨b, o, ka, kc, rfl, nc, kl, km, ks⟩ := HS.out x hxs
      have HBW : Hid (Below w.heap.size w wr) := HB.out.trans (hbr.mono HB.out.size)
      obtain ⟨n1, n2, n3, n4⟩ := nc.below HBW.out
      have hlt' : (k : Int) < l.length := by omega
      have hxs' : (x : Int) < s.length := by omega
      have NX : Hid (∀ (h : ¬ begAt (nd s x) c m), ∀ p, p < k + 1 → ¬ begAt (nd s (l.getD p 0)) c m) := fun h p hp => by
        by_cases e : p = k
        · subst e; rw [HXE.out]; exact h
        · exact HN.out p (by omega)
      have YES : Hid (begAt (nd s x) c m → Beg s i c m) := fun h => ⟨x, HLX.out, h⟩
      clear hno hbr hx nc ks
      by_cases ht : 0 ≤ (nd s x).tag
      · by_cases hc : c = 2
        · subst hc
          by_cases hm : m = (nd s x).tag
          · have HH : Hid (begAt (nd s x) 2 m) := .inl ⟨ht, rfl, hm⟩
            subst hm
            go_wp2
            go_ret
            exact reto_yes (YES.out HH.out) (HBW.out.alloc HBW.out.size _)
          · have HH : Hid (¬ begAt (nd s x) 2 m) := fun h => by rcases h with h | h | h <;> omega
            have hm' : (m == (nd s x).tag) = false := by rw [beq_eq_false_iff_ne]; exact hm
            clear hm
            go_wp2
            go_roundw
            case rel => exact ⟨k + 1, by omega, by go_num, NX.out HH.out, HBR.out.alloc HBR.out.size _⟩
            case measure => simp [intOf]; omega
        · have HH : Hid (¬ begAt (nd s x) c m) := fun h => by rcases h with h | h | h <;> omega
          have hc' : (c == 2) = false := by rw [beq_eq_false_iff_ne]; exact hc
          clear hc
          go_wp2
          go_roundw
          case rel => exact ⟨k + 1, by omega, by go_num, NX.out HH.out, HBR.out.alloc HBR.out.size _⟩
          case measure => simp [intOf]; omega
      · have ht' : (nd s x).tag < 0 := by omega
        clear ht
        by_cases ha : (nd s x).kind = 14
        · have HH : Hid (begAt (nd s x) c m) := .inr (.inl ⟨ht', ha⟩)
          have ha' : ((nd s x).kind == 14) = true := by rw [beq_iff_eq]; exact ha
          clear ha hkx
          go_wp2
          go_ret
          exact reto_yes (YES.out HH.out) (HBW.out.alloc HBW.out.size _)
        · have ha' : ((nd s x).kind == 14) = false := by rw [beq_eq_false_iff_ne]; exact ha
          by_cases hc : c = 0
          · subst hc
            have HO1 : Hid (∀ w, Calls Tryz.prog 101 #[.int .i64 (nd s x).kind] w fun e w' => e = .returned (.int .i64 (own (nd s x).kind)) ∧ Below w.heap.size w w') := fun w => own_any _ (by omega) (by have h3 := HLX.out.2; have : (nd s x).kind ≠ 13 := fun e => h3 ⟨e, ht'⟩; omega) w
            by_cases hm : m = own (nd s x).kind
            · have HH : Hid (begAt (nd s x) 0 m) := .inr (.inr ⟨ht', ha, rfl, hm⟩)
              have hm' : (m == own (nd s x).kind) = true := by rw [beq_iff_eq]; exact hm
              clear hm ha
              go_wp2_with fail
              refine (HO1.out _).mono ?_
              rintro e w2 ⟨rfl, hb2⟩
              have HB2 : Hid (Below w.heap.size w w2) := HBW.out.trans ((below_alloc hb2).mono HBW.out.size)
              clear hb2
              go_wp2
              go_ret
              exact reto_yes (YES.out HH.out) HB2.out
            · have HH : Hid (¬ begAt (nd s x) 0 m) := fun h => by rcases h with h | h | h <;> omega
              have hm' : (m == own (nd s x).kind) = false := by rw [beq_eq_false_iff_ne]; exact hm
              clear hm ha
              go_wp2_with fail
              refine (HO1.out _).mono ?_
              rintro e w2 ⟨rfl, hb2⟩
              have HB2 : Hid (Below w1.heap.size w1 w2) := HBR.out.trans ((below_alloc hb2).mono HBR.out.size)
              clear hb2
              go_wp2
              go_roundw
              case rel => exact ⟨k + 1, by omega, by go_num, NX.out HH.out, HB2.out⟩
              case measure => simp [intOf]; omega
          · have HH : Hid (¬ begAt (nd s x) c m) := fun h => by rcases h with h | h | h <;> omega
            have hc' : (c == 0) = false := by rw [beq_eq_false_iff_ne]; exact hc
            clear hc ha
            go_wp2
            go_roundw
            case rel => exact ⟨k + 1, by omega, by go_num, NX.out HH.out, HBR.out.alloc HBR.out.size _⟩
            case measure => simp [intOf]; omega
    · have hlt' : (l.length : Int) ≤ k := by omega
      clear hno hbr
      go_wp2
      go_ret
      exact reto_no (fun ⟨j, hj, hbg⟩ => by
        obtain ⟨p, hp, e⟩ := List.getElem_of_mem ((HF.out j).2 hj)
        refine HN.out p (by omega) ?_
        rw [List.getD_eq_getElem?_getD, List.getElem?_eq_getElem hp]; simpa [e] using hbg) (HB.out.trans (HBR.out.mono HB.out.size))
end Go.Proofs.YtjceeljaljdmoaaGreatDoor
