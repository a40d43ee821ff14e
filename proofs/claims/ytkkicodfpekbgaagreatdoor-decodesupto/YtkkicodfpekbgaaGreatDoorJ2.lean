/-
  Several texts in one:
  hallmarkref.Begins: what it answers.
  hallmarkref.common: what it answers.
  hallmarkref.told: what it answers.
  What reading a value comes to, as a function on plain data: with fuel, the reading of a node as a parameter of the parts. No walk in it.
  Reading on plain data: heads that are read again, where elements end, that there is an end, how many values there are. No walk in it.
  Calls inside regions that draw their order: a step by the callee's contract.
  The document's reader: node, of the kinds 1 to 9: the pure part.
  The document's reader: node, of the kinds 1 to 9 (without a Tag).
  The document's reader: node, of the kinds 1 to 9 (a Tag of Mode 0).
  Calls inside regions that draw their order, under a guard or with a result that is told by a relation.
  Regions that draw their order, whose operations read and whose callees leave all that was there: one walk.
  schemas.isOpen, mayLack, isTagged, kidBounds: what they answer.
  Schemas: the pure part of the search for the leaves, as the program goes (a stack; what was put on it is marked).
  schemas.reach: the nodes where one comes to, and whether one comes back.
  element.FirstOf, schemas.Around, schemas.Own: what they answer.
-/
import Derived.Test.YtkkicodfpekbgaaGreatDoorJ0
import Derived.Test.YtkkicodfpekbgaaGreatDoorJ1
import Derived.Deep.RegionWith
import Derived.Test.YtkkicodfpekbgaaGreatDoorRows
import Derived.WalkKit
import Derived.WalkSpells
import Derived.WalkLawsBesides
import Derived.Deep.RegionLaw
import Derived.BigQuiet
import Derived.Deep.LoopGhost
/-! hallmarkref.Begins: what it answers. -/
namespace Go.Proofs.YtkkicodfpekbgaaGreatDoor
set_option linter.unusedSimpArgs false
set_option linter.unusedVariables false
open Go.RowKit

theorem own_form {w : World} {base e size : Nat} {v : Value} {n : Nat} {xs : List Value} (h : w.ownsRow base e size v n xs) : ∃ a cap, v = .slice a n cap ∧ (0 < n → ∃ g, a = some ⟨g, 0, none⟩) := by
  rcases h.2 with ⟨hv, hn⟩ | ⟨g, cap, cur, hv, _⟩
  · subst hn; exact ⟨none, 0, hv, fun h => absurd h (Nat.lt_irrefl _)⟩
  · exact ⟨_, cap, hv, fun _ => ⟨g, rfl⟩⟩
/-- The kinds are those that there are. -/
def Kinds (s : List Nd) : Prop := ∀ j, j < s.length → 1 ≤ (nd s j).kind ∧ (nd s j).kind ≤ 14

set_option maxHeartbeats 4000000 in
set_option maxRecDepth 100000 in
theorem begins_any (s : List Nd) (a : Option Addr) (cp i : Nat) (c m : Int) (w : World) (hs : Sch w a s) (hw : Within s) (hkd : Kinds s) (hi : i < s.length) (hn : s.length ≤ 40) :
    Calls Tryz.prog 100 #[.slice a s.length cp, .int .i64 i, .int .i64 c, .int .i64 m] w fun e w' => RetO (Beg s i c m) w e w' := by
  have HS : Hid (Sch w a s) := hs
  have HW : Hid (Within s) := hw
  have HK : Hid (Kinds s) := hkd
  have HC : Hid (Calls Tryz.prog 37 #[.slice a s.length cp, .int .i64 i] w fun e w' => RetL s i w e w') := leaves_any s a cp i w hs hw hi hn
  clear hs hw hkd
  go_enter Tryz.func100, Tryz.ntmps100
  go_wp2_with fail
  refine HC.out.mono ?_
  rintro e w1 ⟨v, l, bk, rfl, hown, hb, hl, hlf, _⟩
  obtain ⟨va, vc, rfl, hva⟩ := own_form hown
  have HO : Hid (w1.ownsRow w.heap.size 3 1 (.slice va l.length vc) l.length (ivs l)) := hown
  have HB : Hid (Below w.heap.size w w1) := hb
  have HF : Hid (∀ j, j ∈ l ↔ Leaf s i j) := hlf
  have HA : Hid (0 < l.length → ∃ g, va = some ⟨g, 0, none⟩) := hva
  clear hown hb hlf hva HC
  go_wp2
  go_loopw [11] (fun vk wr => ∃ k : Nat, k ≤ l.length ∧ vk = .int .i64 k ∧ (∀ p, p < k → ¬ begAt (nd s (l.getD p 0)) c m) ∧ Below w1.heap.size w1 wr) (fun vk _ => l.length - (intOf vk).toNat)
  case atStart => exact ⟨0, Nat.zero_le _, rfl, fun p hp => absurd hp (Nat.not_lt_zero _), Below.refl _ _⟩
  case round =>
    obtain ⟨k, hk, rfl, hno, hbr⟩ := hrel
    have HN : Hid (∀ p, p < k → ¬ begAt (nd s (l.getD p 0)) c m) := hno
    have HBR : Hid (Below w1.heap.size w1 wr) := hbr
    by_cases hlt : k < l.length
    · obtain ⟨g, rfl⟩ := HA.out (by omega)
      have ck := own_cell (own_below HO.out hbr) hlt
      have HX : Hid (l.getD k 0 ∈ l) := by show _ ∈ l; rw [List.getD_eq_getElem?_getD, List.getElem?_eq_getElem hlt]; exact List.getElem_mem hlt
      generalize hx : l.getD k 0 = x at ck HX
      have HXE : Hid (l.getD k 0 = x) := hx
      have hxs : x < s.length := ((HF.out x).1 HX.out).1.lt HW.out hi
      have hkx := HK.out x hxs
      have HLX : Hid (Leaf s i x) := (HF.out x).1 HX.out
      obtain ⟨b, o, ka, kc, rfl, nc, kl, km, ks⟩ := HS.out x hxs
      have HBW : Hid (Below w.heap.size w wr) := HB.out.trans (hbr.mono HB.out.size)
      obtain ⟨n1, n2, n3, n4⟩ := nc.below HBW.out
      have hlt' : (k : Int) < l.length := by omega
      have hxs' : (x : Int) < s.length := by omega
      have NX : Hid (∀ (h : ¬ begAt (nd s x) c m), ∀ p, p < k + 1 → ¬ begAt (nd s (l.getD p 0)) c m) := fun h p hp => by
        by_cases e : p = k
        · subst e; rw [HXE.out]; exact h
        · exact HN.out p (by omega)
      have YES : Hid (begAt (nd s x) c m → Beg s i c m) := fun h => ⟨x, HLX.out, h⟩
      clear hno hbr hx nc ks
      by_cases ht : 0 ≤ (nd s x).tag
      · by_cases hc : c = 2
        · subst hc
          by_cases hm : m = (nd s x).tag
          · have HH : Hid (begAt (nd s x) 2 m) := .inl ⟨ht, rfl, hm⟩
            subst hm
            go_wp2
            go_ret
            exact reto_yes (YES.out HH.out) (HBW.out.alloc HBW.out.size _)
          · have HH : Hid (¬ begAt (nd s x) 2 m) := fun h => by rcases h with h | h | h <;> omega
            have hm' : (m == (nd s x).tag) = false := by rw [beq_eq_false_iff_ne]; exact hm
            clear hm
            go_wp2
            go_roundw
            case rel => exact ⟨k + 1, by omega, by go_num, NX.out HH.out, HBR.out.alloc HBR.out.size _⟩
            case measure => simp [intOf]; omega
        · have HH : Hid (¬ begAt (nd s x) c m) := fun h => by rcases h with h | h | h <;> omega
          have hc' : (c == 2) = false := by rw [beq_eq_false_iff_ne]; exact hc
          clear hc
          go_wp2
          go_roundw
          case rel => exact ⟨k + 1, by omega, by go_num, NX.out HH.out, HBR.out.alloc HBR.out.size _⟩
          case measure => simp [intOf]; omega
      · have ht' : (nd s x).tag < 0 := by omega
        clear ht
        by_cases ha : (nd s x).kind = 14
        · have HH : Hid (begAt (nd s x) c m) := .inr (.inl ⟨ht', ha⟩)
          have ha' : ((nd s x).kind == 14) = true := by rw [beq_iff_eq]; exact ha
          clear ha hkx
          go_wp2
          go_ret
          exact reto_yes (YES.out HH.out) (HBW.out.alloc HBW.out.size _)
        · have ha' : ((nd s x).kind == 14) = false := by rw [beq_eq_false_iff_ne]; exact ha
          by_cases hc : c = 0
          · subst hc
            have HO1 : Hid (∀ w, Calls Tryz.prog 142 #[.int .i64 (nd s x).kind] w fun e w' => e = .returned (.int .i64 (own (nd s x).kind)) ∧ Below w.heap.size w w') := fun w => own_any _ (by omega) (by have h3 := HLX.out.2; have : (nd s x).kind ≠ 13 := fun e => h3 ⟨e, ht'⟩; omega) w
            by_cases hm : m = own (nd s x).kind
            · have HH : Hid (begAt (nd s x) 0 m) := .inr (.inr ⟨ht', ha, rfl, hm⟩)
              have hm' : (m == own (nd s x).kind) = true := by rw [beq_iff_eq]; exact hm
              clear hm ha
              go_wp2_with fail
              refine (HO1.out _).mono ?_
              rintro e w2 ⟨rfl, hb2⟩
              have HB2 : Hid (Below w.heap.size w w2) := HBW.out.trans ((below_alloc hb2).mono HBW.out.size)
              clear hb2
              go_wp2
              go_ret
              exact reto_yes (YES.out HH.out) HB2.out
            · have HH : Hid (¬ begAt (nd s x) 0 m) := fun h => by rcases h with h | h | h <;> omega
              have hm' : (m == own (nd s x).kind) = false := by rw [beq_eq_false_iff_ne]; exact hm
              clear hm ha
              go_wp2_with fail
              refine (HO1.out _).mono ?_
              rintro e w2 ⟨rfl, hb2⟩
              have HB2 : Hid (Below w1.heap.size w1 w2) := HBR.out.trans ((below_alloc hb2).mono HBR.out.size)
              clear hb2
              go_wp2
              go_roundw
              case rel => exact ⟨k + 1, by omega, by go_num, NX.out HH.out, HB2.out⟩
              case measure => simp [intOf]; omega
          · have HH : Hid (¬ begAt (nd s x) c m) := fun h => by rcases h with h | h | h <;> omega
            have hc' : (c == 0) = false := by rw [beq_eq_false_iff_ne]; exact hc
            clear hc ha
            go_wp2
            go_roundw
            case rel => exact ⟨k + 1, by omega, by go_num, NX.out HH.out, HBR.out.alloc HBR.out.size _⟩
            case measure => simp [intOf]; omega
    · have hlt' : (l.length : Int) ≤ k := by omega
      clear hno hbr
      go_wp2
      go_ret
      exact reto_no (fun ⟨j, hj, hbg⟩ => by
        obtain ⟨p, hp, e⟩ := List.getElem_of_mem ((HF.out j).2 hj)
        refine HN.out p (by omega) ?_
        rw [List.getD_eq_getElem?_getD, List.getElem?_eq_getElem hp]; simpa [e] using hbg) (HB.out.trans (HBR.out.mono HB.out.size))
end Go.Proofs.YtkkicodfpekbgaaGreatDoor

/-! hallmarkref.common: what it answers. -/
namespace Go.Proofs.YtkkicodfpekbgaaGreatDoor
set_option linter.unusedSimpArgs false
set_option linter.unusedVariables false
open Go.RowKit

set_option maxHeartbeats 4000000 in
set_option maxRecDepth 100000 in
theorem common_any (s : List Nd) (a : Option Addr) (cp i k : Nat) (w : World) (hs : Sch w a s) (hw : Within s) (hkd : Kinds s) (hi : i < s.length) (hk : k < s.length) (hn : s.length ≤ 40) :
    Calls Tryz.prog 68 #[.slice a s.length cp, .int .i64 i, .int .i64 k] w fun e w' => RetO (Common s i k) w e w' := by
  have HC : Hid (∀ (wr : World) (j : Nat) (c m : Int), Below w.heap.size w wr → j < s.length → Calls Tryz.prog 100 #[.slice a s.length cp, .int .i64 j, .int .i64 c, .int .i64 m] wr fun e w' => RetO (Beg s j c m) wr e w') :=
    fun wr j c m hb hj => begins_any s a cp j c m wr (hs.below hb) hw hkd hj hn
  clear hs hw hkd
  go_enter Tryz.func68, Tryz.ntmps68
  go_wp2
  go_loopw [7] (fun vc wr => ∃ c : Nat, c ≤ 4 ∧ vc = .int .i64 c ∧ (∀ c' m' : Nat, c' < c → m' < 31 → ¬ (Beg s i c' m' ∧ Beg s k c' m')) ∧ Below w.heap.size w wr) (fun vc _ => 4 - (intOf vc).toNat)
  case atStart => exact ⟨0, by omega, rfl, fun _ _ h => absurd h (Nat.not_lt_zero _), Below.refl _ _⟩
  case round =>
    obtain ⟨c, hc, rfl, hno, hbr⟩ := hrel
    have HN : Hid (∀ c' m' : Nat, c' < c → m' < 31 → ¬ (Beg s i c' m' ∧ Beg s k c' m')) := hno
    have HB : Hid (Below w.heap.size w wr) := hbr
    clear hno hbr
    by_cases hlt : c < 4
    · have hlt' : (c : Int) < 4 := by omega
      go_wp2
      go_loopw [8] (fun vm wx => ∃ m : Nat, m ≤ 31 ∧ vm = .int .i64 m ∧ (∀ m' : Nat, m' < m → ¬ (Beg s i c m' ∧ Beg s k c m')) ∧ Below w.heap.size w wx) (fun vm _ => 31 - (intOf vm).toNat)
      case atStart => exact ⟨0, by omega, rfl, fun _ h => absurd h (Nat.not_lt_zero _), HB.out⟩
      case round =>
        obtain ⟨m, hm, rfl, hno, hbr⟩ := hrel
        have HN2 : Hid (∀ m' : Nat, m' < m → ¬ (Beg s i c m' ∧ Beg s k c m')) := hno
        have HB2 : Hid (Below w.heap.size w wr) := hbr
        clear hno hbr
        by_cases hml : m < 31
        · have hml' : (m : Int) < 31 := by omega
          have NX : Hid (∀ (h : ¬ (Beg s i c m ∧ Beg s k c m)), ∀ m' : Nat, m' < m + 1 → ¬ (Beg s i c m' ∧ Beg s k c m')) := fun h m' hm' => by
            by_cases e : m' = m
            · subst e; exact h
            · exact HN2.out m' (by omega)
          go_wp2_with fail
          refine (HC.out _ i c m HB2.out hi).mono ?_
          rintro e w1 ⟨r, rfl, hr, hb1⟩
          have HR : Hid (r = true ↔ Beg s i c m) := hr
          have HB3 : Hid (Below w.heap.size w w1) := HB2.out.trans (hb1.mono HB2.out.size)
          clear hr hb1
          cases r
          · go_wp2
            go_roundw
            case rel => exact ⟨m + 1, by omega, by go_num, NX.out (fun h => by have := HR.out.2 h.1; cases this), HB3.out⟩
            case measure => simp [intOf]; omega
          · go_wp2_with fail
            refine (HC.out _ k c m HB3.out hk).mono ?_
            rintro e w2 ⟨r, rfl, hr, hb2⟩
            have HR2 : Hid (r = true ↔ Beg s k c m) := hr
            have HB4 : Hid (Below w.heap.size w w2) := HB3.out.trans (hb2.mono HB3.out.size)
            clear hr hb2
            cases r
            · go_wp2
              go_roundw
              case rel => exact ⟨m + 1, by omega, by go_num, NX.out (fun h => by have := HR2.out.2 h.2; cases this), HB4.out⟩
              case measure => simp [intOf]; omega
            · go_wp2
              go_ret
              exact reto_yes ⟨c, m, by omega, by omega, by omega, by omega, HR.out.1 trivial, HR2.out.1 trivial⟩ HB4.out
        · have hml' : (31 : Int) ≤ m := by omega
          go_wp2
          go_roundw
          case rel => exact ⟨c + 1, by omega, by go_num, fun c' m' h1 h2 => by
            by_cases e : c' = c
            · subst e; exact HN2.out m' (by omega)
            · exact HN.out c' m' (by omega) h2, HB2.out⟩
          case measure => simp [intOf]; omega
    · have hlt' : (4 : Int) ≤ c := by omega
      go_wp2
      go_ret
      exact reto_no (fun ⟨c', m', h1, h2, h3, h4, h5, h6⟩ => HN.out c'.toNat m'.toNat (by omega) (by omega) (by rw [Int.toNat_of_nonneg h1, Int.toNat_of_nonneg h3]; exact ⟨h5, h6⟩)) HB.out
end Go.Proofs.YtkkicodfpekbgaaGreatDoor

/-! hallmarkref.told: what it answers. -/
namespace Go.Proofs.YtkkicodfpekbgaaGreatDoor
set_option linter.unusedSimpArgs false
set_option linter.unusedVariables false
open Go.RowKit

/-- What is behind it is never taken for what is ahead. -/
def Nd.stops (n : Nd) (k : Kd) : Prop := n.kind = 10 ∧ k.must
/-- The kid at a place. -/
def kd (n : Nd) (i : Nat) : Kd := n.kids.getD i kd0
/-- Kid by kid, up to a place: can they be told apart? (C: two nodes have a beginning in common.) -/
def ToldAt (C : Nat → Nat → Prop) (n : Nd) (i m : Nat) : Prop := n.stops (kd n i) ∨ ∀ k, i < k → k < m → (∀ j, i < j → j < k → ¬ n.stops (kd n j)) → ¬ C (kd n i).node.toNat (kd n k).node.toNat
def Told (C : Nat → Nat → Prop) (n : Nd) : Prop := ∀ i, i < n.kids.length → ToldAt C n i n.kids.length

set_option maxHeartbeats 6000000 in
set_option maxRecDepth 100000 in
theorem told_any (s : List Nd) (a : Option Addr) (cp x : Nat) (ka : Option Addr) (kc : Nat) (w : World) (hs : Sch w a s) (hw : Within s) (hkd : Kinds s) (hx : x < s.length) (hn : s.length ≤ 40)
    (hka : KidsIn w ka (nd s x).kids) (hkl : (nd s x).kids.length ≤ 8) :
    Calls Tryz.prog 38 #[.slice a s.length cp, nodeV (nd s x) ka kc] w fun e w' => RetO (Told (Common s) (nd s x)) w e w' := by
  have HC : Hid (∀ (wr : World) (i k : Nat), Below w.heap.size w wr → i < s.length → k < s.length → Calls Tryz.prog 68 #[.slice a s.length cp, .int .i64 i, .int .i64 k] wr fun e w' => RetO (Common s i k) wr e w') :=
    fun wr i k hb hi hk => common_any s a cp i k wr (hs.below hb) hw hkd hi hk hn
  have HM : Hid (∀ (wr : World) (k : Kd), Calls Tryz.prog 66 #[.agg #[.int .i64 k.node, .bool k.opt, .string k.dflt]] wr fun e w' => RetO k.must wr e w') := fun wr k => must_any k wr
  have HKI : Hid (KidsIn w ka (nd s x).kids) := hka
  have HKR : Hid (∀ j, j < (nd s x).kids.length → ∃ t : Nat, (kd (nd s x) j).node = t ∧ t < s.length) := fun j hj => by
    have := hw x hx (kd (nd s x) j) (by unfold kd; rw [List.getD_eq_getElem?_getD, List.getElem?_eq_getElem hj]; exact List.getElem_mem hj)
    exact ⟨(kd (nd s x) j).node.toNat, (Int.toNat_of_nonneg this.1).symm, by omega⟩
  clear hs hw hkd hka
  unfold nodeV
  generalize nd s x = n at *
  go_enter Tryz.func38, Tryz.ntmps38
  go_wp2
  obtain ⟨B, hB⟩ : ∃ B, B = w.heap.size := ⟨_, rfl⟩
  have HW0 : Hid (∀ wr, Below (w.alloc (.cells #[.int .i64 n.kind, .int .i64 n.tag, .int .i64 n.mode, .slice ka n.kids.length kc] 58)).heap.size (w.alloc (.cells #[.int .i64 n.kind, .int .i64 n.tag, .int .i64 n.mode, .slice ka n.kids.length kc] 58)) wr →
      wr.cell? ⟨B, 0, none⟩ = some (.int .i64 n.kind) ∧ wr.cell? ⟨B, 3, none⟩ = some (.slice ka n.kids.length kc) ∧ Below w.heap.size w wr) := fun wr h => by
    have h1 := block_below (heap_alloc_new w _) h
    subst hB
    exact ⟨by simp [World.cell?, h1], by simp [World.cell?, h1], below_alloc h⟩
  generalize (w.alloc (.cells #[.int .i64 n.kind, .int .i64 n.tag, .int .i64 n.mode, .slice ka n.kids.length kc] 58)) = W0 at *
  rw [← hB]
  clear hB
  go_loopw [5] (fun vi wr => ∃ i : Nat, i ≤ n.kids.length ∧ vi = .int .i64 i ∧ (∀ i', i' < i → ToldAt (Common s) n i' n.kids.length) ∧ Below W0.heap.size W0 wr) (fun vi _ => n.kids.length - (intOf vi).toNat)
  case atStart => exact ⟨0, Nat.zero_le _, rfl, fun _ h => absurd h (Nat.not_lt_zero _), Below.refl _ _⟩
  case round =>
    obtain ⟨i, hi, rfl, hall, hbr⟩ := hrel
    have HA : Hid (∀ i', i' < i → ToldAt (Common s) n i' n.kids.length) := hall
    have HB : Hid (Below W0.heap.size W0 wr) := hbr
    obtain ⟨c0, c3, hbw⟩ := HW0.out wr hbr
    have HBW : Hid (Below w.heap.size w wr) := hbw
    clear hall hbr hbw
    by_cases hlt : i < n.kids.length
    · have hlt' : (i : Int) < n.kids.length := by omega
      obtain ⟨kb, ko, rfl, kcl⟩ := HKI.out i hlt
      obtain ⟨k1, k2, k3⟩ := kcl.below HBW.out
      obtain ⟨ti, hti, htl⟩ := HKR.out i hlt
      have HTI : Hid ((kd n i).node = ti) := hti
      have HCL : Hid (KidCells w kb (ko + i * 3) (kd n i)) := kcl
      clear hti kcl
      obtain ⟨y, hy⟩ : ∃ y, n.kids.getD i kd0 = y := ⟨_, rfl⟩
      rw [hy] at k1 k2 k3
      have HY : Hid (kd n i = y) := hy
      clear hy
      go_wp2_with fail
      refine (HM.out _ y).mono ?_
      rintro e w1 ⟨r, rfl, hr, hb1⟩
      have HR : Hid (r = true ↔ (kd n i).must) := by show r = true ↔ (kd n i).must; rw [HY.out]; exact hr
      have HB1 : Hid (Below W0.heap.size W0 w1) := HB.out.trans (hb1.mono HB.out.size)
      obtain ⟨d0, d3, hbw1⟩ := HW0.out w1 HB1.out
      clear hr hb1 c0 c3 k1 k2 k3 hbw1
      have hcs : (n.stops (kd n i) ∧ (n.kind == 10) = true ∧ r = true) ∨ (¬ n.stops (kd n i) ∧ (n.kind == 10) = true ∧ r = false) ∨ (¬ n.stops (kd n i) ∧ (n.kind == 10) = false) := by
        by_cases e : n.kind = 10
        · cases r
          · exact .inr (.inl ⟨fun h => Bool.noConfusion (HR.out.2 h.2), by simp [e], rfl⟩)
          · exact .inl ⟨⟨e, HR.out.1 rfl⟩, by simp [e], rfl⟩
        · exact .inr (.inr ⟨fun h => e h.1, by simp [e]⟩)
      rcases hcs with ⟨hst, hk10, rfl⟩ | ⟨hst, hk10, rfl⟩ | ⟨hst, hk10⟩
      · have HST : Hid (n.stops (kd n i)) := hst
        clear hst
        go_wp2
        go_roundw
        case rel => exact ⟨i + 1, by omega, by go_num, fun i' h => by
          by_cases e : i' = i
          · subst e; exact .inl HST.out
          · exact HA.out i' (by omega), HB1.out⟩
        case measure => simp [intOf]; omega
      · have HST : Hid (¬ n.stops (kd n i)) := hst
        have HK10 : Hid (n.kind = 10) := by show n.kind = 10; simpa using hk10
        clear hst
        go_wp2
        go_loopw [7, 8] (fun vo vk wx => ∃ (k : Nat) (ov : Bool), i < k ∧ k ≤ n.kids.length ∧ vk = .int .i64 k ∧ vo = .bool ov ∧ Hid (ov = true ↔ ∃ j, i < j ∧ j < k ∧ n.stops (kd n j)) ∧ Hid (∀ k', i < k' → k' < k → (∀ j, i < j → j < k' → ¬ n.stops (kd n j)) → ¬ Common s (kd n i).node.toNat (kd n k').node.toNat) ∧ Hid (Below W0.heap.size W0 wx))
          (fun _ vk _ => n.kids.length - (intOf vk).toNat)
        case atStart => exact ⟨i + 1, false, by omega, by omega, by go_num, rfl, ⟨fun h => Bool.noConfusion h, fun ⟨j, h1, h2, _⟩ => absurd h1 (by omega)⟩, fun k' h1 h2 => absurd h1 (by omega), HB1⟩
        case round =>
          obtain ⟨k, ov, hik, hk, rfl, rfl, HOV, HT, HBX⟩ := hrel
          obtain ⟨c0, c3, hbw2⟩ := HW0.out wr HBX.out
          have HBX2 : Hid (Below w.heap.size w wr) := hbw2
          clear hbw2 d0 d3
          by_cases hkl2 : k < n.kids.length
          · have hkl' : (k : Int) < n.kids.length := by omega
            cases ov
            · obtain ⟨kb2, ko2, e2, kcl2⟩ := HKI.out k hkl2
              obtain ⟨rfl, rfl⟩ : kb = kb2 ∧ ko = ko2 := by injection e2 with e2; injection e2 with e3 e4 _; exact ⟨e3, e4⟩
              obtain ⟨tk, htk, htkl⟩ := HKR.out k hkl2
              have k1 := (HCL.out.below HBX2.out).node
              rw [HTI.out] at k1
              obtain ⟨z, hz⟩ : ∃ z, kd n k = z := ⟨_, rfl⟩
              have HZ : Hid (kd n k = z) := hz
              have HCZ : Hid (KidCells w kb (ko + k * 3) z) := by show KidCells w kb (ko + k * 3) z; rw [← hz]; exact kcl2
              rw [hz] at htk
              have z1 := (HCZ.out.below HBX2.out).node
              rw [htk] at z1
              have HTK : Hid (z.node = tk) := htk
              clear e2 kcl2 hz htk
              go_wp2_with fail
              go_region_with (go_at_call 68; refine Calls.mono (HC.out _ ti tk ?_ htl htkl) ?_; (exact below_drewN HBX2.out 1); rintro e w2 ⟨r2, rfl, hr2, hb2⟩)
              all_goals
                have HR2 : Hid (r2 = true ↔ Common s ti tk) := hr2
                have HB3 : Hid (Below W0.heap.size W0 w2) := (below_drewN HBX.out 1).trans (hb2.mono (below_drewN HBX.out 1).size)
                obtain ⟨e0, e3, hbw3⟩ := HW0.out w2 HB3.out
                have HBX3 : Hid (Below w.heap.size w w2) := hbw3
                obtain ⟨z1', z2', z3'⟩ := HCZ.out.below hbw3
                have HIN : Hid (∀ j, i < j → j < k → ¬ n.stops (kd n j)) := fun j h1 h2 h3 => Bool.noConfusion (HOV.out.2 ⟨j, h1, h2, h3⟩)
                have HCE : Hid (Common s (kd n i).node.toNat (kd n k).node.toNat ↔ Common s ti tk) := by
                  show Common s (kd n i).node.toNat (kd n k).node.toNat ↔ Common s ti tk
                  rw [HZ.out, HTI.out, HTK.out]; rfl
                clear hr2 hb2 hbw3 c0 c3 k1 z1
                cases r2
                · go_wp2_with fail
                  refine (HM.out _ z).mono ?_
                  rintro e w4 ⟨r4, rfl, hr4, hb4⟩
                  have HR4 : Hid (r4 = true ↔ z.must) := hr4
                  have HB4 : Hid (Below W0.heap.size W0 w4) := HB3.out.trans (hb4.mono HB3.out.size)
                  obtain ⟨f0, f3, hbw4⟩ := HW0.out w4 HB4.out
                  have HT' : Hid (∀ k', i < k' → k' < k + 1 → (∀ j, i < j → j < k' → ¬ n.stops (kd n j)) → ¬ Common s (kd n i).node.toNat (kd n k').node.toNat) := fun k' h1 h2 h3 => by
                    by_cases ek : k' = k
                    · subst ek; exact fun h4 => Bool.noConfusion (HR2.out.2 (HCE.out.1 h4))
                    · exact HT.out k' h1 (by omega) h3
                  have HOV' : Hid (r4 = true ↔ ∃ j, i < j ∧ j < k + 1 ∧ n.stops (kd n j)) := by
                    show r4 = true ↔ ∃ j, i < j ∧ j < k + 1 ∧ n.stops (kd n j)
                    constructor
                    · intro h; exact ⟨k, hik, by omega, by rw [HZ.out]; exact ⟨HK10.out, HR4.out.1 h⟩⟩
                    · rintro ⟨j, h1, h2, h3⟩
                      by_cases ej : j = k
                      · subst ej; rw [HZ.out] at h3; exact HR4.out.2 h3.2
                      · exact absurd h3 (HIN.out j h1 (by omega))
                  clear hr4 hb4 hbw4 e0 e3 z1' z2' z3'
                  go_wp2
                  go_roundw
                  case rel => exact ⟨k + 1, r4, by omega, by omega, by go_num, rfl, HOV', HT', HB4⟩
                  case measure => simp [intOf]; omega
                · go_wp2
                  go_ret
                  exact reto_no (fun h => by
                    rcases h i hlt with h' | h'
                    · exact HST.out h'
                    · exact h' k hik hkl2 HIN.out (HCE.out.2 (HR2.out.1 trivial))) HBX3.out
            · have HDN : Hid (ToldAt (Common s) n i n.kids.length) := .inr (fun k' h1 h2 h3 => by
                obtain ⟨j, j1, j2, j3⟩ := HOV.out.1 rfl
                by_cases ej : j < k'
                · exact absurd j3 (h3 j j1 ej)
                · exact HT.out k' h1 (by omega) h3)
              go_wp2
              go_roundw
              case rel => exact ⟨i + 1, by omega, by go_num, fun i' h => by
                by_cases e : i' = i
                · subst e; exact HDN.out
                · exact HA.out i' (by omega), HBX.out⟩
              case measure => simp [intOf]; omega
          · have hkl' : (n.kids.length : Int) ≤ k := by omega
            have HDN : Hid (ToldAt (Common s) n i n.kids.length) := .inr (fun k' h1 h2 h3 => HT.out k' h1 (by omega) h3)
            go_wp2
            go_roundw
            case rel => exact ⟨i + 1, by omega, by go_num, fun i' h => by
              by_cases e : i' = i
              · subst e; exact HDN.out
              · exact HA.out i' (by omega), HBX.out⟩
            case measure => simp [intOf]; omega
      · have HST : Hid (¬ n.stops (kd n i)) := hst
        have HK10 : Hid (¬ n.kind = 10) := by show ¬ n.kind = 10; simpa using hk10
        clear hst
        go_wp2
        go_loopw [7, 8] (fun vo vk wx => ∃ (k : Nat) (ov : Bool), i < k ∧ k ≤ n.kids.length ∧ vk = .int .i64 k ∧ vo = .bool ov ∧ Hid (ov = true ↔ ∃ j, i < j ∧ j < k ∧ n.stops (kd n j)) ∧ Hid (∀ k', i < k' → k' < k → (∀ j, i < j → j < k' → ¬ n.stops (kd n j)) → ¬ Common s (kd n i).node.toNat (kd n k').node.toNat) ∧ Hid (Below W0.heap.size W0 wx))
          (fun _ vk _ => n.kids.length - (intOf vk).toNat)
        case atStart => exact ⟨i + 1, false, by omega, by omega, by go_num, rfl, ⟨fun h => Bool.noConfusion h, fun ⟨j, h1, h2, _⟩ => absurd h1 (by omega)⟩, fun k' h1 h2 => absurd h1 (by omega), HB1⟩
        case round =>
          obtain ⟨k, ov, hik, hk, rfl, rfl, HOV, HT, HBX⟩ := hrel
          obtain ⟨c0, c3, hbw2⟩ := HW0.out wr HBX.out
          have HBX2 : Hid (Below w.heap.size w wr) := hbw2
          clear hbw2 d0 d3
          by_cases hkl2 : k < n.kids.length
          · have hkl' : (k : Int) < n.kids.length := by omega
            cases ov
            · obtain ⟨kb2, ko2, e2, kcl2⟩ := HKI.out k hkl2
              obtain ⟨rfl, rfl⟩ : kb = kb2 ∧ ko = ko2 := by injection e2 with e2; injection e2 with e3 e4 _; exact ⟨e3, e4⟩
              obtain ⟨tk, htk, htkl⟩ := HKR.out k hkl2
              have k1 := (HCL.out.below HBX2.out).node
              rw [HTI.out] at k1
              obtain ⟨z, hz⟩ : ∃ z, kd n k = z := ⟨_, rfl⟩
              have HZ : Hid (kd n k = z) := hz
              have HCZ : Hid (KidCells w kb (ko + k * 3) z) := by show KidCells w kb (ko + k * 3) z; rw [← hz]; exact kcl2
              rw [hz] at htk
              have z1 := (HCZ.out.below HBX2.out).node
              rw [htk] at z1
              have HTK : Hid (z.node = tk) := htk
              clear e2 kcl2 hz htk
              go_wp2_with fail
              go_region_with (go_at_call 68; refine Calls.mono (HC.out _ ti tk ?_ htl htkl) ?_; (exact below_drewN HBX2.out 1); rintro e w2 ⟨r2, rfl, hr2, hb2⟩)
              all_goals
                have HR2 : Hid (r2 = true ↔ Common s ti tk) := hr2
                have HB3 : Hid (Below W0.heap.size W0 w2) := (below_drewN HBX.out 1).trans (hb2.mono (below_drewN HBX.out 1).size)
                obtain ⟨e0, e3, hbw3⟩ := HW0.out w2 HB3.out
                have HBX3 : Hid (Below w.heap.size w w2) := hbw3
                obtain ⟨z1', z2', z3'⟩ := HCZ.out.below hbw3
                have HIN : Hid (∀ j, i < j → j < k → ¬ n.stops (kd n j)) := fun j h1 h2 h3 => Bool.noConfusion (HOV.out.2 ⟨j, h1, h2, h3⟩)
                have HCE : Hid (Common s (kd n i).node.toNat (kd n k).node.toNat ↔ Common s ti tk) := by
                  show Common s (kd n i).node.toNat (kd n k).node.toNat ↔ Common s ti tk
                  rw [HZ.out, HTI.out, HTK.out]; rfl
                clear hr2 hb2 hbw3 c0 c3 k1 z1
                cases r2
                · go_wp2_with fail
                  refine (HM.out _ z).mono ?_
                  rintro e w4 ⟨r4, rfl, hr4, hb4⟩
                  have HR4 : Hid (r4 = true ↔ z.must) := hr4
                  have HB4 : Hid (Below W0.heap.size W0 w4) := HB3.out.trans (hb4.mono HB3.out.size)
                  obtain ⟨f0, f3, hbw4⟩ := HW0.out w4 HB4.out
                  have HT' : Hid (∀ k', i < k' → k' < k + 1 → (∀ j, i < j → j < k' → ¬ n.stops (kd n j)) → ¬ Common s (kd n i).node.toNat (kd n k').node.toNat) := fun k' h1 h2 h3 => by
                    by_cases ek : k' = k
                    · subst ek; exact fun h4 => Bool.noConfusion (HR2.out.2 (HCE.out.1 h4))
                    · exact HT.out k' h1 (by omega) h3
                  have HOV' : Hid (false = true ↔ ∃ j, i < j ∧ j < k + 1 ∧ n.stops (kd n j)) := by
                    show false = true ↔ ∃ j, i < j ∧ j < k + 1 ∧ n.stops (kd n j)
                    constructor
                    · intro h; exact Bool.noConfusion h
                    · rintro ⟨j, h1, h2, h3⟩
                      by_cases ej : j = k
                      · subst ej; rw [HZ.out] at h3; exact absurd h3.1 HK10.out
                      · exact absurd h3 (HIN.out j h1 (by omega))
                  clear hr4 hb4 hbw4 e0 e3 z1' z2' z3'
                  go_wp2
                  go_roundw
                  case rel => exact ⟨k + 1, false, by omega, by omega, by go_num, rfl, HOV', HT', HB4⟩
                  case measure => simp [intOf]; omega
                · go_wp2
                  go_ret
                  exact reto_no (fun h => by
                    rcases h i hlt with h' | h'
                    · exact HST.out h'
                    · exact h' k hik hkl2 HIN.out (HCE.out.2 (HR2.out.1 trivial))) HBX3.out
            · have HDN : Hid (ToldAt (Common s) n i n.kids.length) := .inr (fun k' h1 h2 h3 => by
                obtain ⟨j, j1, j2, j3⟩ := HOV.out.1 rfl
                by_cases ej : j < k'
                · exact absurd j3 (h3 j j1 ej)
                · exact HT.out k' h1 (by omega) h3)
              go_wp2
              go_roundw
              case rel => exact ⟨i + 1, by omega, by go_num, fun i' h => by
                by_cases e : i' = i
                · subst e; exact HDN.out
                · exact HA.out i' (by omega), HBX.out⟩
              case measure => simp [intOf]; omega
          · have hkl' : (n.kids.length : Int) ≤ k := by omega
            have HDN : Hid (ToldAt (Common s) n i n.kids.length) := .inr (fun k' h1 h2 h3 => HT.out k' h1 (by omega) h3)
            go_wp2
            go_roundw
            case rel => exact ⟨i + 1, by omega, by go_num, fun i' h => by
              by_cases e : i' = i
              · subst e; exact HDN.out
              · exact HA.out i' (by omega), HBX.out⟩
            case measure => simp [intOf]; omega
    · have hlt' : (n.kids.length : Int) ≤ i := by omega
      go_wp2
      go_ret
      exact reto_yes (fun i' h => HA.out i' (by omega)) HBW.out
end Go.Proofs.YtkkicodfpekbgaaGreatDoor

/-! What reading a value comes to, as a function on plain data: with fuel, the reading of a node as a parameter of the parts. No walk in it. -/
namespace Go.Proofs.YtkkicodfpekbgaaGreatDoor
set_option linter.unusedSimpArgs false
set_option linter.unusedVariables false

/-- What comes of reading: which error and where, or values and the place behind. -/
abbrev Out := Except (Int × Int) (List Vl × Nat)
/-- What is read by: a schema, data, which node may begin how, which content may be, the value of a kid that is left out. -/
structure Env where
  s : List Nd
  d : ByteArray
  bg : Nat → Int → Int → Bool
  ok : Int → ByteArray → Bool
  dv : Kd → Vl
/-- The number of a kind's own tag, 0 where it has none. -/
def own0 (k : Int) : Int := if 12 < k then 0 else own k
abbrev noB : ByteArray := ⟨#[]⟩
/-- How a node is read: node, from, to, depth. -/
abbrev Rec := Nat → Nat → Nat → Int → Option Out
/-- The head at a place. -/
def Env.hd (E : Env) (x y : Nat) : Int × Hd := Go.Proofs.YtkkicodfpekbgaaGreatDoor.hd (E.d.extract x y)

/-- What follows if a part was read. -/
def Out.andThen {α : Type} (o : Option Out) (k : List Vl → Nat → Option (Except (Int × Int) α)) : Option (Except (Int × Int) α) :=
  match o with
  | none => none
  | some (.error e) => some (.error e)
  | some (.ok (vs, z)) => k vs z

def choiceF (E : Env) (rec : Rec) (h : Hd) (x to : Nat) (dp : Int) : List Kd → Nat → Option Out
  | [], _ => some (.error (4, x))
  | k :: ks, j => if E.bg k.node.toNat h.c h.n = true then Out.andThen (rec k.node.toNat x to dp) fun vs _ => some (.ok (⟨13, noB, j, 1⟩ :: vs, to)) else choiceF E rec h x to dp ks (j + 1)

def seqF (E : Env) (rec : Rec) (to : Nat) (dp : Int) : List Kd → Nat → List Vl → Option Out
  | [], x, acc => if x < to then some (.error (7, x)) else some (.ok (acc, x))
  | k :: ks, x, acc =>
    if x < to ∧ (E.hd x to).1 ≠ 0 then some (.error ((E.hd x to).1, x))
    else if x < to ∧ E.bg k.node.toNat (E.hd x to).2.c (E.hd x to).2.n = true then
      Out.andThen (rec k.node.toNat x to dp) fun vs z => if E.d.extract x z = k.dflt then some (.error (9, x)) else seqF E rec to dp ks z (acc ++ vs)
    else if k.opt = true then seqF E rec to dp ks x (acc ++ [⟨15, noB, 0, 0⟩])
    else if k.dflt.size ≠ 0 then seqF E rec to dp ks x (acc ++ [E.dv k])
    else if x < to then some (.error (4, x)) else some (.error (3, x))

/-- Is one text below another? -/
def below (a b : ByteArray) : Bool := Op.bytesLess a.toList b.toList

def manyF (E : Env) (rec : Rec) (set : Bool) (i to : Nat) (dp : Int) : Nat → Nat → ByteArray → Nat → List Vl → Option (Except (Int × Int) (Nat × List Vl))
  | 0, _, _, _, _ => none
  | m + 1, x, last, j, acc =>
    if x < to then
      Out.andThen (rec i x to dp) fun vs z => if set = true ∧ below (E.d.extract x z) last = true then some (.error (8, x)) else manyF E rec set i to dp m z (E.d.extract x z) (j + 1) (acc ++ vs)
    else some (.ok (j, acc))

/-- An element but for a Tag of Mode 1. -/
def bareF (E : Env) (rec : Rec) (m : Nat) (n : Nd) (cl nu : Int) (h : Hd) (x to : Nat) (dp : Int) : Option Out :=
  if n.kind = 13 then choiceF E rec h x to dp n.kids 0
  else if n.kind ≠ 14 ∧ ¬ (h.c = cl ∧ h.n = nu ∧ h.b = decide (10 ≤ n.kind ∧ n.kind ≤ 12)) then some (.error (4, x))
  else if 12 < dp then some (.error (10, x))
  else if n.kind = 14 then some (.ok ([⟨14, E.d.extract x to, 0, 0⟩], to))
  else if n.kind = 10 then
    match seqF E rec to (dp + 1) n.kids (x + h.s.toNat) [] with
    | none => none
    | some (.error e) => some (.error e)
    | some (.ok (vs, _)) => some (.ok (⟨10, noB, 0, n.kids.length⟩ :: vs, to))
  else if 10 ≤ n.kind ∧ n.kind ≤ 12 then
    match manyF E rec (decide (n.kind = 12)) (kd n 0).node.toNat to (dp + 1) m (x + h.s.toNat) noB 0 [] with
    | none => none
    | some (.error e) => some (.error e)
    | some (.ok (j, vs)) => some (.ok (⟨n.kind, noB, 0, j⟩ :: vs, to))
  else if E.ok n.kind (E.d.extract (x + h.s.toNat) to) = true then some (.ok ([⟨n.kind, E.d.extract (x + h.s.toNat) to, 0, 0⟩], to))
  else some (.error (6, x))

/-- Where the element of a head ends. -/
def fin (x : Nat) (h : Hd) : Nat := x + h.s.toNat + h.l.toNat

/-- A node's element whose head has been read. -/
def valF (E : Env) (rec : Rec) (m i : Nat) (h : Hd) (x to : Nat) (dp : Int) : Option Out :=
  if (nd E.s i).tag < 0 then bareF E rec m (nd E.s i) 0 (own0 (nd E.s i).kind) h x to dp
  else if (nd E.s i).mode = 0 then bareF E rec m (nd E.s i) 2 (nd E.s i).tag h x to dp
  else if ¬ (h.c = 2 ∧ h.n = (nd E.s i).tag ∧ h.b = true) then some (.error (4, x))
  else if 12 < dp then some (.error (10, x))
  else if (E.hd (x + h.s.toNat) to).1 ≠ 0 then some (.error ((E.hd (x + h.s.toNat) to).1, x + h.s.toNat))
  else
    Out.andThen (bareF E rec m (nd E.s i) 0 (own0 (nd E.s i).kind) (E.hd (x + h.s.toNat) to).2 (x + h.s.toNat) (fin (x + h.s.toNat) (E.hd (x + h.s.toNat) to).2) dp) fun vs _ =>
      if fin (x + h.s.toNat) (E.hd (x + h.s.toNat) to).2 < to then some (.error (7, fin (x + h.s.toNat) (E.hd (x + h.s.toNat) to).2)) else some (.ok (vs, to))

/-- A node's element from a place on, in what ends there. -/
def rdF (E : Env) : Nat → Rec
  | 0, _, _, _, _ => none
  | f + 1, i, x, y, dp => if (E.hd x y).1 ≠ 0 then some (.error ((E.hd x y).1, x)) else valF E (rdF E f) f i (E.hd x y).2 x (fin x (E.hd x y).2) dp

/-- All of the data. -/
def readF (E : Env) (f root : Nat) : Option (Except (Int × Int) (List Vl)) :=
  Out.andThen (rdF E f root 0 E.d.size 1) fun vs z => if z < E.d.size then some (.error (7, z)) else some (.ok vs)

/-! ### More fuel changes nothing -/
def RecLe (r r' : Rec) : Prop := ∀ i x y dp o, r i x y dp = some o → r' i x y dp = some o
theorem Out.andThen_le {α : Type} {o o' : Option Out} {k k' : List Vl → Nat → Option (Except (Int × Int) α)} {v : Except (Int × Int) α} (ho : ∀ u, o = some u → o' = some u) (hk : ∀ vs z v, k vs z = some v → k' vs z = some v) (h : Out.andThen o k = some v) : Out.andThen o' k' = some v := by
  unfold Out.andThen at h ⊢
  split at h
  · cases h
  · rename_i e; rw [ho _ rfl]; exact h
  · rename_i vs z; rw [ho _ rfl]; exact hk _ _ _ h
theorem choiceF_le {E : Env} {r r' : Rec} (hr : RecLe r r') {h : Hd} {x to : Nat} {dp : Int} : ∀ (ks : List Kd) (j : Nat) (v : Out), choiceF E r h x to dp ks j = some v → choiceF E r' h x to dp ks j = some v
  | [], _, _, e => e
  | k :: ks, j, v, e => by
    unfold choiceF at e ⊢
    split
    · rename_i q; rw [if_pos q] at e; exact Out.andThen_le (fun u => hr _ _ _ _ u) (fun _ _ _ q => q) e
    · rename_i q; rw [if_neg q] at e; exact choiceF_le hr ks (j + 1) v e
theorem seqF_le {E : Env} {r r' : Rec} (hr : RecLe r r') {to : Nat} {dp : Int} : ∀ (ks : List Kd) (x : Nat) (acc : List Vl) (v : Out), seqF E r to dp ks x acc = some v → seqF E r' to dp ks x acc = some v
  | [], _, _, _, e => e
  | k :: ks, x, acc, v, e => by
    unfold seqF at e ⊢
    split
    · rename_i q; rw [if_pos q] at e; exact e
    rename_i q; rw [if_neg q] at e
    split
    · rename_i q; rw [if_pos q] at e
      refine Out.andThen_le (fun u => hr _ _ _ _ u) (fun vs z v q => ?_) e
      split
      · rename_i q'; rw [if_pos q'] at q; exact q
      · rename_i q'; rw [if_neg q'] at q; exact seqF_le hr ks _ _ _ q
    rename_i q; rw [if_neg q] at e
    split
    · rename_i q; rw [if_pos q] at e; exact seqF_le hr ks _ _ _ e
    rename_i q; rw [if_neg q] at e
    split
    · rename_i q; rw [if_pos q] at e; exact seqF_le hr ks _ _ _ e
    rename_i q; rw [if_neg q] at e
    exact e
theorem manyF_le {E : Env} {r r' : Rec} (hr : RecLe r r') {set : Bool} {i to : Nat} {dp : Int} : ∀ (m m' : Nat) (x : Nat) (last : ByteArray) (j : Nat) (acc : List Vl) (v : Except (Int × Int) (Nat × List Vl)), m ≤ m' → manyF E r set i to dp m x last j acc = some v → manyF E r' set i to dp m' x last j acc = some v
  | 0, _, _, _, _, _, _, _, e => by cases e
  | m + 1, m', x, last, j, acc, v, hm, e => by
    obtain ⟨m'', rfl⟩ : ∃ k, m' = k + 1 := ⟨m' - 1, by omega⟩
    unfold manyF at e ⊢
    split
    · rename_i q; rw [if_pos q] at e
      refine Out.andThen_le (fun u => hr _ _ _ _ u) (fun vs z v q => ?_) e
      split
      · rename_i q'; rw [if_pos q'] at q; exact q
      · rename_i q'; rw [if_neg q'] at q; exact manyF_le hr m m'' _ _ _ _ _ (by omega) q
    · rename_i q; rw [if_neg q] at e; exact e
theorem bareF_le {E : Env} {r r' : Rec} (hr : RecLe r r') {m m' : Nat} (hm : m ≤ m') {n : Nd} {cl nu : Int} {h : Hd} {x to : Nat} {dp : Int} {v : Out} (e : bareF E r m n cl nu h x to dp = some v) : bareF E r' m' n cl nu h x to dp = some v := by
  unfold bareF at e ⊢
  split
  · rename_i q; rw [if_pos q] at e; exact choiceF_le hr _ _ _ e
  rename_i q; rw [if_neg q] at e
  split
  · rename_i q; rw [if_pos q] at e; exact e
  rename_i q; rw [if_neg q] at e
  split
  · rename_i q; rw [if_pos q] at e; exact e
  rename_i q; rw [if_neg q] at e
  split
  · rename_i q; rw [if_pos q] at e; exact e
  rename_i q; rw [if_neg q] at e
  split
  · rename_i q; rw [if_pos q] at e
    cases hs : seqF E r to (dp + 1) n.kids (x + h.s.toNat) [] with
    | none => rw [hs] at e; cases e
    | some o => rw [hs] at e; rw [seqF_le hr _ _ _ _ hs]; exact e
  rename_i q; rw [if_neg q] at e
  split
  · rename_i q; rw [if_pos q] at e
    cases hs : manyF E r (decide (n.kind = 12)) (kd n 0).node.toNat to (dp + 1) m (x + h.s.toNat) noB 0 [] with
    | none => rw [hs] at e; cases e
    | some o => rw [hs] at e; rw [manyF_le hr _ _ _ _ _ _ _ hm hs]; exact e
  rename_i q; rw [if_neg q] at e
  exact e
theorem valF_le {E : Env} {r r' : Rec} (hr : RecLe r r') {m m' : Nat} (hm : m ≤ m') {i : Nat} {h : Hd} {x to : Nat} {dp : Int} {v : Out} (e : valF E r m i h x to dp = some v) : valF E r' m' i h x to dp = some v := by
  unfold valF at e ⊢
  split
  · rename_i q; rw [if_pos q] at e; exact bareF_le hr hm e
  rename_i q; rw [if_neg q] at e
  split
  · rename_i q; rw [if_pos q] at e; exact bareF_le hr hm e
  rename_i q; rw [if_neg q] at e
  split
  · rename_i q; rw [if_pos q] at e; exact e
  rename_i q; rw [if_neg q] at e
  split
  · rename_i q; rw [if_pos q] at e; exact e
  rename_i q; rw [if_neg q] at e
  split
  · rename_i q; rw [if_pos q] at e; exact e
  rename_i q; rw [if_neg q] at e
  exact Out.andThen_le (fun u => bareF_le hr hm) (fun _ _ _ q => q) e
theorem rdF_le {E : Env} : ∀ f, RecLe (rdF E f) (rdF E (f + 1))
  | 0 => fun _ _ _ _ _ e => by cases e
  | f + 1 => fun i x y dp o e => by
    rw [rdF] at e ⊢
    split
    · rename_i q; rw [if_pos q] at e; exact e
    · rename_i q; rw [if_neg q] at e; exact valF_le (rdF_le f) (Nat.le_succ f) e
end Go.Proofs.YtkkicodfpekbgaaGreatDoor

/-! Reading on plain data: heads that are read again, where elements end, that there is an end, how many values there are. No walk in it. -/
namespace Go.Proofs.YtkkicodfpekbgaaGreatDoor
set_option linter.unusedSimpArgs false
set_option linter.unusedVariables false

theorem b8_ex (t : ByteArray) (a b i : Nat) (h : a + i < b) (hb : b ≤ t.size) : b8 (t.extract a b) i = b8 t (a + i) := by
  unfold b8
  rw [Lib.extract_data]
  congr 2
  rw [List.getD_eq_getElem?_getD, List.getD_eq_getElem?_getD]
  congr 1
  rw [List.getElem?_take]
  rw [if_pos (by omega), List.getElem?_drop]
theorem ex_size (t : ByteArray) (a b : Nat) : (t.extract a b).size = min b t.size - a := ByteArray.size_extract
theorem numTo_congr {u u' : ByteArray} : ∀ k : Nat, (∀ i, 1 ≤ i → i ≤ k → b8 u' i = b8 u i) → numTo u' k = numTo u k
  | 0, _ => rfl
  | k + 1, h => by
    simp only [numTo]
    rw [numTo_congr k (fun i a b => h i a (by omega)), h (k + 1) (by omega) (by omega)]
/-- A length that is told is read again wherever its bytes are. -/
theorem rl_same {u u' : ByteArray} (h : (rl u).1 = 0) (hs : (rl u).2.1 ≤ u'.size) (hb : ∀ i : Nat, (i : Int) < (rl u).2.1 → b8 u' i = b8 u i) : rl u' = rl u ∧ 1 ≤ (rl u).2.1 := by
  have h0 := b8_bd u 0
  unfold rl at h hs hb ⊢
  by_cases q1 : u.size = 0
  · rw [if_pos q1] at h; cases h
  rw [if_neg q1] at h hs hb ⊢
  by_cases q2 : b8 u 0 < 128
  · rw [if_pos q2] at h hs hb ⊢
    have e0 : b8 u' 0 = b8 u 0 := hb 0 (by show (0 : Int) < 1; decide)
    have s0 : ¬ u'.size = 0 := by simp only at hs; omega
    rw [if_neg s0, e0, if_pos q2]
    exact ⟨rfl, by simp⟩
  rw [if_neg q2] at h hs hb ⊢
  by_cases q3 : b8 u 0 = 128 ∨ 131 < b8 u 0
  · rw [if_pos q3] at h; cases h
  rw [if_neg q3] at h hs hb ⊢
  by_cases q4 : (u.size : Int) ≤ b8 u 0 - 128
  · rw [if_pos q4] at h; cases h
  rw [if_neg q4] at h hs hb ⊢
  by_cases q5 : b8 u 0 - 128 ≠ cnt (numTo u (b8 u 0 - 128).toNat)
  · rw [if_pos q5] at h; cases h
  rw [if_neg q5] at h hs hb ⊢
  simp only at hs hb
  have e0 : b8 u' 0 = b8 u 0 := hb 0 (by omega)
  have s0 : ¬ u'.size = 0 := by omega
  have en : numTo u' (b8 u 0 - 128).toNat = numTo u (b8 u 0 - 128).toNat := numTo_congr _ fun i _ b => hb i (by omega)
  rw [if_neg s0, e0, if_neg q2, if_neg q3, if_neg (by omega), en, if_neg q5]
  exact ⟨rfl, by simp only; omega⟩
/-- A head that is read is read again wherever its bytes, and as many behind as it says, are. -/
theorem hd_same {t t' : ByteArray} (h : (hd t).1 = 0) (hs : (hd t).2.s + (hd t).2.l ≤ t'.size) (hb : ∀ i : Nat, (i : Int) < (hd t).2.s → b8 t' i = b8 t i) : hd t' = hd t ∧ 2 ≤ (hd t).2.s := by
  have hr := rl_bd (t.extract 1 t.size)
  unfold hd at h hs hb ⊢
  by_cases q1 : t.size = 0
  · rw [if_pos q1] at h; cases h
  rw [if_neg q1] at h hs hb ⊢
  by_cases q2 : b8 t 0 % 32 = 31
  · rw [if_pos q2] at h; cases h
  rw [if_neg q2] at h hs hb ⊢
  by_cases q3 : (rl (t.extract 1 t.size)).1 ≠ 0
  · rw [if_pos q3] at h; exact absurd h q3
  rw [if_neg q3] at h hs hb ⊢
  by_cases q4 : (t.size : Int) - ((rl (t.extract 1 t.size)).2.1 + 1) < (rl (t.extract 1 t.size)).2.2
  · rw [if_pos q4] at h; cases h
  rw [if_neg q4] at h hs hb ⊢
  simp only at hs hb
  have q3' : (rl (t.extract 1 t.size)).1 = 0 := Classical.not_not.1 q3
  have e0 : b8 t' 0 = b8 t 0 := hb 0 (by omega)
  have s1 : (t'.extract 1 t'.size).size = t'.size - 1 := by rw [ex_size]; omega
  obtain ⟨er, r1⟩ := rl_same (u := t.extract 1 t.size) (u' := t'.extract 1 t'.size) q3' (by rw [s1]; omega) (fun i hi => by
    rw [b8_ex t' 1 t'.size i (by omega) (Nat.le_refl _), b8_ex t 1 t.size i (by omega) (Nat.le_refl _)]
    exact hb (1 + i) (by omega))
  rw [if_neg (by omega), e0, if_neg q2, er, if_neg q3, if_neg (by omega)]
  exact ⟨rfl, by simp only; omega⟩
theorem hd_two {t : ByteArray} (h : (hd t).1 = 0) : 2 ≤ (hd t).2.s := (hd_same (t' := t) h (hd_ok h).2.2 fun _ _ => rfl).2
/-- Where an element ends. -/
theorem fin_le {E : Env} {x y : Nat} (h : (E.hd x y).1 = 0) : x + 2 ≤ x + (E.hd x y).2.s.toNat ∧ x + (E.hd x y).2.s.toNat ≤ fin x (E.hd x y).2 ∧ fin x (E.hd x y).2 ≤ y ∧ fin x (E.hd x y).2 ≤ E.d.size := by
  have h1 := hd_two h
  have h2 := hd_ok h
  have h3 := ex_size E.d x y
  unfold fin
  unfold Env.hd at *
  omega
theorem fin_int {E : Env} {x y : Nat} (h : (E.hd x y).1 = 0) : ((fin x (E.hd x y).2 : Nat) : Int) = x + (E.hd x y).2.s + (E.hd x y).2.l ∧ (((E.hd x y).2.s.toNat : Nat) : Int) = (E.hd x y).2.s := by
  have h1 := hd_two h
  have h2 := hd_ok h
  unfold fin
  unfold Env.hd at *
  omega
/-- The head is the same in what is just its element. -/
theorem hd_again {E : Env} {x y z : Nat} (h : (E.hd x y).1 = 0) (hz : fin x (E.hd x y).2 ≤ z) (hs : z ≤ E.d.size) (hy : y ≤ E.d.size) : E.hd x z = E.hd x y := by
  have h1 := hd_two h
  have h2 := hd_ok h
  have h3 := ex_size E.d x y
  have h4 := ex_size E.d x z
  have h5 := fin_le h
  have h6 := fin_int h
  unfold Env.hd at *
  exact (hd_same h (by omega) fun i hi => by rw [b8_ex _ _ _ _ (by omega) hs, b8_ex _ _ _ _ (by omega) hy]).1

theorem andThen_ok {α : Type} {o : Option Out} {k : List Vl → Nat → Option (Except (Int × Int) α)} {v : α} (h : Out.andThen o k = some (.ok v)) : ∃ vs z, o = some (.ok (vs, z)) ∧ k vs z = some (.ok v) := by
  unfold Out.andThen at h
  split at h
  · cases h
  · cases h
  · rename_i vs z; exact ⟨vs, z, rfl, h⟩
theorem andThen_some {α : Type} {o : Option Out} {k : List Vl → Nat → Option (Except (Int × Int) α)} {u : Out} (ho : o = some u) (hk : ∀ vs z, u = .ok (vs, z) → ∃ v, k vs z = some v) : ∃ v, Out.andThen o k = some v := by
  subst ho
  unfold Out.andThen
  cases u with
  | error e => exact ⟨_, rfl⟩
  | ok p => obtain ⟨vs, z⟩ := p; exact hk vs z rfl

/-- An element that was read ends where its head says. -/
theorem choiceF_fin {E : Env} {rec : Rec} {h : Hd} {x to : Nat} {dp : Int} : ∀ (ks : List Kd) (j : Nat) {vs : List Vl} {z : Nat}, choiceF E rec h x to dp ks j = some (.ok (vs, z)) → z = to
  | [], _, _, _, e => by cases e
  | k :: ks, j, vs, z, e => by
    unfold choiceF at e
    split at e
    · obtain ⟨_, _, _, e⟩ := andThen_ok e
      simp at e; exact e.2.symm
    · exact choiceF_fin ks (j + 1) e
theorem bareF_fin {E : Env} {rec : Rec} {m : Nat} {n : Nd} {cl nu : Int} {h : Hd} {x to : Nat} {dp : Int} {vs : List Vl} {z : Nat} (e : bareF E rec m n cl nu h x to dp = some (.ok (vs, z))) : z = to := by
  unfold bareF at e
  repeat' split at e
  all_goals first | (exact choiceF_fin _ _ e) | (cases e; done) | (simp at e; exact e.2.symm)
theorem valF_fin {E : Env} {rec : Rec} {m i : Nat} {h : Hd} {x to : Nat} {dp : Int} {vs : List Vl} {z : Nat} (e : valF E rec m i h x to dp = some (.ok (vs, z))) : z = to := by
  unfold valF at e
  split at e
  · exact bareF_fin e
  split at e
  · exact bareF_fin e
  split at e
  · cases e
  split at e
  · cases e
  split at e
  · cases e
  obtain ⟨_, _, _, e⟩ := andThen_ok e
  split at e
  · cases e
  · simp at e; exact e.2.symm
theorem rdF_fin {E : Env} {f i x y : Nat} {dp : Int} {vs : List Vl} {z : Nat} (e : rdF E f i x y dp = some (.ok (vs, z))) : (E.hd x y).1 = 0 ∧ z = fin x (E.hd x y).2 := by
  cases f with
  | zero => cases e
  | succ f =>
    rw [rdF] at e
    split at e
    · cases e
    · rename_i q; exact ⟨Classical.not_not.1 q, valF_fin e⟩

/-! ### There is an end -/
/-- What of a schema is needed for that. -/
structure Fine (s : List Nd) : Prop where
  within : Within s
  back : ∀ i, i < s.length → ¬ Back s i
  len : s.length ≤ 40
  tagged : ∀ i, i < s.length → (nd s i).kind = 13 → 0 ≤ (nd s i).tag → (nd s i).mode ≠ 0
  one : ∀ i, i < s.length → ((nd s i).kind = 11 ∨ (nd s i).kind = 12) → (nd s i).kids.length = 1
  eight : ∀ i, i < s.length → (nd s i).kids.length ≤ 8
/-- One comes from one node to another by a Choice without a Tag or more. -/
def Rch1 (s : List Nd) (v i : Nat) : Prop := ∃ j, Rch s v j ∧ (nd s j).opn ∧ ∃ k ∈ (nd s j).kids, k.node.toNat = i
/-- Nodes on the way to a node. -/
structure Way (s : List Nd) (V : List Nat) (i : Nat) : Prop where
  nodup : V.Nodup
  lt : ∀ v ∈ V, v < s.length
  to : ∀ v ∈ V, Rch1 s v i
theorem Way.nil (s : List Nd) (i : Nat) : Way s [] i := ⟨.nil, by simp, by simp⟩
theorem Way.len {s : List Nd} {V : List Nat} {i : Nat} (h : Way s V i) (hf : Fine s) : V.length ≤ 40 := Nat.le_trans (nodup_le _ _ h.nodup h.lt) hf.len
theorem Way.cons {s : List Nd} {V : List Nat} {i : Nat} (h : Way s V i) (hf : Fine s) (hi : i < s.length) (ho : (nd s i).opn) {k : Kd} (hk : k ∈ (nd s i).kids) : Way s (i :: V) k.node.toNat where
  nodup := by
    refine List.nodup_cons.2 ⟨fun hm => hf.back i hi ?_, h.nodup⟩
    obtain ⟨j, hj, hjo, k', hk', e⟩ := h.to i hm
    have := hf.within j (hj.lt hf.within hi) k' hk'
    exact ⟨j, hj, hjo, k', hk', by omega⟩
  lt := fun v hv => by
    rcases List.mem_cons.1 hv with rfl | hv
    · exact hi
    · exact h.lt v hv
  to := fun v hv => by
    rcases List.mem_cons.1 hv with rfl | hv
    · exact ⟨v, .refl, ho, k, hk, rfl⟩
    · obtain ⟨j, hj, hjo, k', hk', e⟩ := h.to v hv
      exact ⟨i, e ▸ hj.step hjo hk', ho, k, hk, rfl⟩

theorem choiceF_some {E : Env} {rec : Rec} {h : Hd} {x to : Nat} {dp : Int} : ∀ (ks : List Kd) (j : Nat), (∀ k ∈ ks, ∃ o, rec k.node.toNat x to dp = some o) → ∃ o, choiceF E rec h x to dp ks j = some o
  | [], _, _ => ⟨_, rfl⟩
  | k :: ks, j, hr => by
    unfold choiceF
    split
    · obtain ⟨o, ho⟩ := hr k (by simp)
      exact andThen_some ho fun _ _ _ => ⟨_, rfl⟩
    · exact choiceF_some ks (j + 1) fun k hk => hr k (by simp [hk])
theorem seqF_some {E : Env} {rec : Rec} {to x0 : Nat} {dp : Int} (hz : ∀ i x vs z, rec i x to dp = some (.ok (vs, z)) → x ≤ z ∧ z ≤ to) : ∀ (ks : List Kd) (x : Nat) (acc : List Vl), x0 ≤ x → x ≤ to → (∀ k ∈ ks, ∀ x', x0 ≤ x' → x' ≤ to → ∃ o, rec k.node.toNat x' to dp = some o) → ∃ o, seqF E rec to dp ks x acc = some o
  | [], x, _, _, _, _ => by unfold seqF; split <;> exact ⟨_, rfl⟩
  | k :: ks, x, acc, h0, h1, hr => by
    have hr' : ∀ k ∈ ks, ∀ x', x0 ≤ x' → x' ≤ to → ∃ o, rec k.node.toNat x' to dp = some o := fun k hk => hr k (by simp [hk])
    unfold seqF
    split
    · exact ⟨_, rfl⟩
    split
    · obtain ⟨o, ho⟩ := hr k (by simp) x h0 h1
      refine andThen_some ho fun vs z e => ?_
      subst e
      have := hz _ _ _ _ ho
      split
      · exact ⟨_, rfl⟩
      · exact seqF_some hz ks z _ (by omega) (by omega) hr'
    split
    · exact seqF_some hz ks x _ h0 h1 hr'
    split
    · exact seqF_some hz ks x _ h0 h1 hr'
    split <;> exact ⟨_, rfl⟩
theorem manyF_some {E : Env} {rec : Rec} {set : Bool} {i to x0 : Nat} {dp : Int} (hz : ∀ x vs z, rec i x to dp = some (.ok (vs, z)) → x < z ∧ z ≤ to) (hr : ∀ x', x0 ≤ x' → x' ≤ to → ∃ o, rec i x' to dp = some o) : ∀ (m x : Nat) (last : ByteArray) (j : Nat) (acc : List Vl), x0 ≤ x → x ≤ to → to - x < m → ∃ o, manyF E rec set i to dp m x last j acc = some o
  | 0, _, _, _, _, _, _, h => absurd h (Nat.not_lt_zero _)
  | m + 1, x, last, j, acc, h0, h1, hm => by
    unfold manyF
    split
    · obtain ⟨o, ho⟩ := hr x h0 h1
      refine andThen_some ho fun vs z e => ?_
      subst e
      have := hz _ _ _ ho
      split
      · exact ⟨_, rfl⟩
      · exact manyF_some hz hr m z _ _ _ (by omega) (by omega) (by omega)
    · exact ⟨_, rfl⟩

theorem kd_mem {n : Nd} {i : Nat} (h : i < n.kids.length) : kd n i ∈ n.kids := by
  unfold kd; rw [List.getD_eq_getElem?_getD, List.getElem?_eq_getElem h]; exact List.getElem_mem h

theorem bareF_some {E : Env} (hf : Fine E.s) {f i : Nat} (hi : i < E.s.length) {cl nu : Int} {x x1 to : Nat} {dp : Int} {h : Hd} (hx1 : x + h.s.toNat = x1) (hxt : x1 ≤ to) (hfu : to - x1 < f)
    (hc : (nd E.s i).kind = 13 → ∀ k ∈ (nd E.s i).kids, ∃ o, rdF E f k.node.toNat x to dp = some o)
    (hr : ∀ (j : Nat) (x' : Nat), j < E.s.length → x1 ≤ x' → x' ≤ to → ∃ o, rdF E f j x' to (dp + 1) = some o) : ∃ o, bareF E (rdF E f) f (nd E.s i) cl nu h x to dp = some o := by
  have hlt : ∀ k ∈ (nd E.s i).kids, k.node.toNat < E.s.length := fun k hk => by have := hf.within i hi k hk; omega
  have hz : ∀ i x vs z, rdF E f i x to (dp + 1) = some (.ok (vs, z)) → x < z ∧ z ≤ to := fun i x vs z e => by
    obtain ⟨q1, q2⟩ := rdF_fin e
    have := fin_le q1
    omega
  unfold bareF
  split
  · rename_i q; exact choiceF_some _ _ (hc q)
  split
  · exact ⟨_, rfl⟩
  split
  · exact ⟨_, rfl⟩
  split
  · exact ⟨_, rfl⟩
  split
  · obtain ⟨o, ho⟩ := seqF_some (x0 := x1) (fun i x vs z e => by have := hz i x vs z e; omega) (nd E.s i).kids (x + h.s.toNat) [] (by omega) (by omega) (fun k hk x' a b => hr _ x' (hlt k hk) a b)
    rw [ho]
    cases o with
    | error e => exact ⟨_, rfl⟩
    | ok p => obtain ⟨vs, z⟩ := p; exact ⟨_, rfl⟩
  split
  · rename_i q10 q
    have h1 := hf.one i hi (by omega)
    have hk := hlt _ (kd_mem (n := nd E.s i) (i := 0) (by omega))
    obtain ⟨o, ho⟩ := manyF_some (set := decide ((nd E.s i).kind = 12)) (x0 := x1) (fun x vs z e => hz _ x vs z e) (fun x' a b => hr _ x' hk a b) f (x + h.s.toNat) noB 0 [] (by omega) (by omega) (by omega)
    rw [ho]
    cases o with
    | error e => exact ⟨_, rfl⟩
    | ok p => obtain ⟨vs, z⟩ := p; exact ⟨_, rfl⟩
  split <;> exact ⟨_, rfl⟩

/-- There is an end. -/
theorem rdF_some {E : Env} (hf : Fine E.s) : ∀ (f i x y : Nat) (dp : Int) (V : List Nat), i < E.s.length → Way E.s V i → 42 * (y - x) + 41 ≤ f + V.length → ∃ o, rdF E f i x y dp = some o
  | 0, i, x, y, dp, V, _, hV, h => by have := hV.len hf; omega
  | f + 1, i, x, y, dp, V, hi, hV, h => by
    have hVl := hV.len hf
    rw [rdF]
    split
    · exact ⟨_, rfl⟩
    rename_i q
    have hq : (E.hd x y).1 = 0 := Classical.not_not.1 q
    have hfin := fin_le hq
    have hlt : ∀ k ∈ (nd E.s i).kids, k.node.toNat < E.s.length := fun k hk => by have := hf.within i hi k hk; omega
    unfold valF
    split
    · rename_i ht
      exact bareF_some hf hi rfl hfin.2.1 (by omega) (fun hk k hkm => rdF_some hf f k.node.toNat x _ dp (i :: V) (hlt k hkm) (hV.cons hf hi ⟨hk, ht⟩ hkm) (by simp only [List.length_cons]; omega))
        (fun j x' hj a b => rdF_some hf f j x' _ (dp + 1) [] hj (Way.nil _ _) (by simp only [List.length_nil]; omega))
    split
    · rename_i ht hm
      exact bareF_some hf hi rfl hfin.2.1 (by omega) (fun hk => absurd hm (hf.tagged i hi hk (by omega)))
        (fun j x' hj a b => rdF_some hf f j x' _ (dp + 1) [] hj (Way.nil _ _) (by simp only [List.length_nil]; omega))
    split
    · exact ⟨_, rfl⟩
    split
    · exact ⟨_, rfl⟩
    split
    · exact ⟨_, rfl⟩
    rename_i q'
    have hq' : (E.hd (x + (E.hd x y).2.s.toNat) (fin x (E.hd x y).2)).1 = 0 := Classical.not_not.1 q'
    have hfin' := fin_le hq'
    obtain ⟨o, ho⟩ := bareF_some (cl := 0) (nu := own0 (nd E.s i).kind) (dp := dp) hf hi rfl hfin'.2.1 (f := f) (by omega) (fun hk k hkm => rdF_some hf f k.node.toNat _ _ dp [] (hlt k hkm) (Way.nil _ _) (by simp only [List.length_nil]; omega))
        (fun j x' hj a b => rdF_some hf f j x' _ (dp + 1) [] hj (Way.nil _ _) (by simp only [List.length_nil]; omega))
    refine andThen_some ho fun vs z _ => ?_
    split <;> exact ⟨_, rfl⟩
end Go.Proofs.YtkkicodfpekbgaaGreatDoor

/-! Calls inside regions that draw their order: a step by the callee's contract. -/
namespace Go.Proofs.YtkkicodfpekbgaaGreatDoor
set_option linter.unusedSimpArgs false
set_option linter.unusedVariables false
open Go.RowKit

/-- A step of a region that draws: a call of a function, by its contract. -/
theorem step_calls {P : Program} {ops : Array Oper} {o : Oper} {a : Act} {w : World} {K : Act → World → Prop} {Q : Exit → Act → World → Prop} {E : Prop} (hgd : o.guard = none) (f : FuncId) (args : Array Operand) (tys : Array TypeId)
    (ho : o.op = .call { callee := .value (.func f), args := args, argTypes := tys }) (vals : Array Value) (hv : args.map a.eval = vals) (v : Value) (S : World → Prop)
    (hrun : (callFunc f vals).run P w = .ok (.enter f vals) w)
    (hc : Calls P f vals w fun e w' => e = .returned v ∧ S w') (hk : ∀ w', S w' → K (a.put o.dst v) w') : if Region.wanted o (yielded ops a.tmps) = true then Oper.wp P o a w K Q else E := by
  have hw : Region.wanted o (yielded ops a.tmps) = true := by simp [Region.wanted, hgd]
  rw [if_pos hw]
  unfold Oper.wp
  simp only [execOp, ho, resolve, invoke]
  simp [Act.eval, Deferred.ofValue, hv, hrun, Oper.upon_enter]
  exact hc.mono fun e w' ⟨h1, h2⟩ => by subst h1; exact hk w' h2
theorem run_enter {P : Program} {f : FuncId} {fn : Func} {c : Code} (hf : P.funcs[f]? = some fn) (hname : (fn.name == "runtime.NumGoroutine") = false) (hb : fn.body = some c) (args : Array Value) (w : World) :
    (callFunc f args).run P w = .ok (.enter f args) w := by
  have h1 : fn.name ≠ "runtime.NumGoroutine" := by simpa using hname
  simp [callFunc, hf, h1, hb]
end Go.Proofs.YtkkicodfpekbgaaGreatDoor

/-! The document's reader: node, of the kinds 1 to 9: the pure part. -/
namespace Go.Proofs.YtkkicodfpekbgaaGreatDoor
set_option linter.unusedSimpArgs false
set_option linter.unusedVariables false
open Go.RowKit

/-- The disjunction of RetN. -/
def NodeD (N : Nd) (data : ByteArray) (x y : Nat) (dp : Int) (tree tree' : List Vl) (v e' : Int) : Prop :=
  (e' = 0 ∧ ∃ to u, v = (to : Nat) ∧ NodeAt N data x y dp to u ∧ tree' = tree ++ [⟨N.kind, u, 0, 0⟩]) ∨ (e' ≠ 0 ∧ ∀ to u, ¬ NodeAt N data x y dp to u)
theorem nodeA {N : Nd} {data : ByteArray} {x y z l : Nat} {dp : Int} {tree tree' : List Vl} {p e' p' hc hn : Int} {hb : Bool} (cl nu : Int) (hk : (hd (data.extract x y)).1 = 0) (hH : (hd (data.extract x y)).2 = ⟨hc, hb, hn, z, l⟩)
    (hcn : (N.tag < 0 ∧ cl = 0 ∧ nu = own N.kind) ∨ (0 ≤ N.tag ∧ N.mode = 0 ∧ cl = 2 ∧ nu = N.tag))
    (h : BareL N.kind cl nu ⟨hc, hb, hn, z, l⟩ data x z (x + z + l) dp tree p tree' e' p') : NodeD N data x y dp tree tree' ((x : Int) + z + l) e' := by
  have hto : ∀ to u, NodeAt N data x y dp to u → to = x + z + l ∧ hc = cl ∧ hn = nu ∧ hb = false ∧ dp ≤ 12 ∧ u = data.extract (x + z) (x + z + l) ∧ ContentOk N.kind u := by
    rintro to u ⟨h1, _, h3, h4⟩
    rw [hH] at h3 h4
    simp only [Int.toNat_natCast] at h3 h4
    have : to = x + z + l := by omega
    subst this
    rcases h4 with ⟨q1, q2, q3, q4, q5, q6⟩ | ⟨q1, q2, q3, q4, q5, q6, q7⟩ | ⟨q1, q2, _⟩
    · rcases hcn with ⟨_, r1, r2⟩ | ⟨r0, _⟩
      · exact ⟨rfl, q2.trans r1.symm, q3.trans r2.symm, q4, h1, q5, q6⟩
      · omega
    · rcases hcn with ⟨r0, _⟩ | ⟨_, _, r1, r2⟩
      · omega
      · exact ⟨rfl, q3.trans r1.symm, q4.trans r2.symm, q5, h1, q6, q7⟩
    · rcases hcn with ⟨r0, _⟩ | ⟨_, r1, _⟩
      · omega
      · exact absurd r1 q2
  rcases h with ⟨h1, _, h3, _⟩ | ⟨_, h2, _, h3, _⟩ | ⟨⟨h1, h2, h3⟩, h4, h5, h6, h7, _⟩ | ⟨_, _, h5, _, h7, _⟩
  · exact .inr ⟨by omega, fun to u q => h1 ⟨(hto to u q).2.1, (hto to u q).2.2.1, (hto to u q).2.2.2.1⟩⟩
  · exact .inr ⟨by omega, fun to u q => by have := (hto to u q).2.2.2.2.1; omega⟩
  · refine .inl ⟨h7, x + z + l, _, by omega, ⟨h4, hk, by rw [hH]; simp only; omega, ?_⟩, h6⟩
    rw [hH]
    simp only [Int.toNat_natCast]
    rcases hcn with ⟨r0, r1, r2⟩ | ⟨r0, r1, r2, r3⟩
    · exact .inl ⟨r0, h1.trans r1, h2.trans r2, h3, trivial, h5⟩
    · exact .inr (.inl ⟨r0, r1, h1.trans r2, h2.trans r3, h3, trivial, h5⟩)
  · exact .inr ⟨by omega, fun to u q => h5 (by have := (hto to u q).2.2.2.2.2; rw [← this.1]; exact this.2)⟩

theorem nodeC_no {N : Nd} {data : ByteArray} {x y z l : Nat} {dp : Int} {hc hn : Int} {hb : Bool} (hH : (hd (data.extract x y)).2 = ⟨hc, hb, hn, z, l⟩) (ht : 0 ≤ N.tag) (hm : N.mode = 1)
    {to : Nat} {u : ByteArray} (h : NodeAt N data x y dp to u) : to = x + z + l ∧ hc = 2 ∧ hn = N.tag ∧ hb = true ∧ dp ≤ 12 ∧ (hd (data.extract (x + z) (x + z + l))).1 = 0 ∧
      ∀ hc2 hb2 hn2 (z2 l2 : Nat), (hd (data.extract (x + z) (x + z + l))).2 = ⟨hc2, hb2, hn2, z2, l2⟩ → hc2 = 0 ∧ hn2 = own N.kind ∧ hb2 = false ∧ x + z + z2 + l2 = x + z + l ∧ u = data.extract (x + z + z2) (x + z + l) ∧ ContentOk N.kind u := by
  obtain ⟨h1, _, h3, h4⟩ := h
  rw [hH] at h3 h4
  simp only [Int.toNat_natCast] at h3 h4
  obtain rfl : to = x + z + l := by omega
  rcases h4 with ⟨q1, _⟩ | ⟨_, q1, _⟩ | ⟨_, _, q1, q2, q3, t, rfl, q4, q5, q6, q7, q8, q9, q10⟩
  · omega
  · omega
  · refine ⟨rfl, q1, q2, q3, h1, q4, fun hc2 hb2 hn2 z2 l2 hH2 => ?_⟩
    rw [hH2] at q5 q6 q7 q8 q9
    simp only [Int.toNat_natCast] at q5 q6 q7 q8 q9
    exact ⟨q5, q6, q7, by omega, q9, q10⟩
theorem nodeC {N : Nd} {data : ByteArray} {x y z l z2 l2 : Nat} {dp : Int} {tree tree' : List Vl} {p e' p' hc hn hc2 hn2 : Int} {hb hb2 : Bool} (hk : (hd (data.extract x y)).1 = 0) (hH : (hd (data.extract x y)).2 = ⟨hc, hb, hn, z, l⟩) (ht : 0 ≤ N.tag) (hm : N.mode = 1)
    (hq : hc = 2 ∧ hn = N.tag ∧ hb = true) (hdp : dp ≤ 12) (hk2 : (hd (data.extract (x + z) (x + z + l))).1 = 0) (hH2 : (hd (data.extract (x + z) (x + z + l))).2 = ⟨hc2, hb2, hn2, z2, l2⟩)
    (h : BareL N.kind 0 (own N.kind) ⟨hc2, hb2, hn2, z2, l2⟩ data (x + z) z2 (x + z + z2 + l2) dp tree p tree' e' p') :
    (x + z + z2 + l2 = x + z + l → NodeD N data x y dp tree tree' ((x : Int) + z + l) e') ∧ (x + z + z2 + l2 ≠ x + z + l → ∀ to u, ¬ NodeAt N data x y dp to u) ∧ (e' ≠ 0 → ∀ to u, ¬ NodeAt N data x y dp to u) := by
  have hno : ∀ {to u}, NodeAt N data x y dp to u → _ := fun q => nodeC_no hH ht hm q
  have hne : e' ≠ 0 → ∀ to u, ¬ NodeAt N data x y dp to u := fun he to u q => by
    obtain ⟨r1, r2, r3, r4, r5, r6, r7⟩ := hno q
    obtain ⟨s1, s2, s3, s4, s5, s6⟩ := r7 hc2 hb2 hn2 z2 l2 hH2
    rcases h with ⟨g1, _⟩ | ⟨_, g1, _⟩ | ⟨_, _, _, _, g1, _⟩ | ⟨_, _, g1, _⟩
    · exact g1 ⟨s1, s2, s3⟩
    · omega
    · exact he g1
    · exact g1 (by rw [s4, ← s5]; exact s6)
  refine ⟨fun he => ?_, fun he to u q => he ((hno q).2.2.2.2.2.2 hc2 hb2 hn2 z2 l2 hH2).2.2.2.1, hne⟩
  by_cases he0 : e' = 0
  · left
    refine ⟨he0, x + z + l, data.extract (x + z + z2) (x + z + l), by omega, ⟨hdp, hk, by rw [hH]; simp only; omega, ?_⟩, ?_⟩
    · rw [hH]
      simp only [Int.toNat_natCast]
      refine .inr (.inr ⟨ht, by omega, hq.1, hq.2.1, hq.2.2, _, rfl, hk2, ?_⟩)
      rw [hH2]
      simp only [Int.toNat_natCast]
      rcases h with ⟨_, _, g1, _⟩ | ⟨_, _, _, g1, _⟩ | ⟨⟨g1, g2, g3⟩, _, g4, _⟩ | ⟨_, _, _, _, g1, _⟩
      · omega
      · omega
      · exact ⟨g1, g2, g3, by omega, trivial, by rw [← he]; exact g4⟩
      · omega
    · rcases h with ⟨_, _, g1, _⟩ | ⟨_, _, _, g1, _⟩ | ⟨_, _, _, g4, _⟩ | ⟨_, _, _, _, g1, _⟩
      · omega
      · omega
      · rw [← he]; exact g4
      · omega
  · exact .inr ⟨he0, hne he0⟩
end Go.Proofs.YtkkicodfpekbgaaGreatDoor

/-! The document's reader: node, of the kinds 1 to 9 (without a Tag). -/
namespace Go.Proofs.YtkkicodfpekbgaaGreatDoor
set_option linter.unusedSimpArgs false
set_option linter.unusedVariables false
open Go.RowKit

set_option maxHeartbeats 8000000 in
set_option maxRecDepth 100000 in
theorem node_leafA (s : List Nd) (W w : World) (R : Nat) (a : Option Addr) (c : Nat) (data : ByteArray) (tree : List Vl) (p : Int) (i x y : Nat) (dp : Int)
    (h : RdI W w R a s.length c data tree 0 p) (hs : Sch W a s) (hi : i < s.length) (hk1 : 1 ≤ (nd s i).kind) (hk9 : (nd s i).kind ≤ 9) (htg : (nd s i).tag < 0)
    (hxy : x ≤ y) (hy : y ≤ data.size) (hm : data.size ≤ 140737488355328) (ht : tree.length ≤ 1099511627776) :
    Calls Tryz.prog 69 #[.pointer (some ⟨R, 0, none⟩), .int .i64 i, .int .i64 x, .int .i64 y, .int .i64 dp] w
      fun e w' => RetN W R a s.length c data (nd s i) x y dp tree e w' := by
  have HI : Hid (RdI W w R a s.length c data tree 0 p) := h
  have HHD : Hid (∀ (w1 : World) (p : Int) (x y : Nat), RdI W w1 R a s.length c data tree 0 p → x ≤ y → y ≤ data.size → Calls Tryz.prog 101 #[.pointer (some ⟨R, 0, none⟩), .int .i64 x, .int .i64 y] w1 fun e w' => e = .returned (hv (hd (data.extract x y)).2) ∧ RdI W w' R a s.length c data tree (hd (data.extract x y)).1 (if (hd (data.extract x y)).1 = 0 then p else x) ∧ Fr R w1 w') :=
    fun w1 p x y h1 h2 h3 => rdhead_any W w1 R a s.length c data tree p x y h1 h2 h3 hm
  obtain ⟨hb, hlo, vt, hr, _⟩ := h
  unfold rdObj at hr
  have c0 : w.cell? ⟨R, 0, none⟩ = some (.slice a s.length c) := by simp [World.cell?, hr]
  have hRl : R < w.heap.size := lt_of_cell c0
  clear hr
  obtain ⟨b, o, ka, kc, rfl, nc, kl, km, ks⟩ := hs i hi
  obtain ⟨n1, n2, n3, n4⟩ := nc.below hb
  have hi' : (i : Int) < s.length := by omega
  clear hs nc ks hb
  generalize hN : nd s i = N at *
  clear hN
  have HX : Hid (∀ to u, NodeAt N data x y dp to u → (hd (data.extract x y)).1 = 0) := fun to u q => q.2.1
  go_enter Tryz.func69, Tryz.ntmps69
  go_wp2_with fail
  refine (HHD.out _ p x y (HI.out.below ((Below.refl _ _).alloc (Nat.le_refl _) _)) hxy hy).mono ?_
  rintro e w1 ⟨rfl, hI1, hf1⟩
  have HG1 : Hid (w1.heap[w.heap.size]? = some (.cells #[.int .i64 N.kind, .int .i64 N.tag, .int .i64 N.mode, .slice ka N.kids.length kc] 58 (0, 0))) := hf1 _ _ _ (by omega) (by decide) (heap_alloc_new w _)
  obtain ⟨hc, hb, hn, hz, hl, hH⟩ : ∃ hc hb hn hz hl, (hd (data.extract x y)).2 = ⟨hc, hb, hn, hz, hl⟩ := ⟨_, _, _, _, _, rfl⟩
  have HH : Hid ((hd (data.extract x y)).2 = ⟨hc, hb, hn, hz, hl⟩) := hH
  rw [hH]
  unfold hv
  obtain ⟨k1, hk⟩ : ∃ k, (hd (data.extract x y)).1 = k := ⟨_, rfl⟩
  have HK : Hid ((hd (data.extract x y)).1 = k1) := hk
  rw [hk] at hI1
  have HI1 : Hid (RdI W w1 R (some ⟨b, o, none⟩) s.length c data tree k1 (if k1 = 0 then p else x)) := hI1
  obtain ⟨_, _, vt1, hr1, _⟩ := hI1
  unfold rdObj at hr1
  have r3 : w1.cell? ⟨R, 3, none⟩ = some (.int .i64 k1) := by simp [World.cell?, hr1]
  have hs1 : w.heap.size < w1.heap.size := by
    rcases Nat.lt_or_ge w.heap.size w1.heap.size with h' | h'
    · exact h'
    · have := HG1.out; rw [Array.getElem?_eq_none h'] at this; cases this
  have hRs : R < w1.heap.size := by omega
  have m0 : w1.cell? ⟨w.heap.size, 0, none⟩ = some (.int .i64 N.kind) := by simp [World.cell?, HG1.out]
  have m1 : w1.cell? ⟨w.heap.size, 1, none⟩ = some (.int .i64 N.tag) := by simp [World.cell?, HG1.out]
  have m2 : w1.cell? ⟨w.heap.size, 2, none⟩ = some (.int .i64 N.mode) := by simp [World.cell?, HG1.out]
  have m3 : w1.cell? ⟨w.heap.size, 3, none⟩ = some (.slice ka N.kids.length kc) := by simp [World.cell?, HG1.out]
  clear hf1 hH hk hr1 n1 n2 n3 n4 c0
  by_cases hk0 : k1 = 0
  · subst hk0
    have hok := hd_ok HK.out
    rw [HH.out] at hok
    simp only at hok
    rw [show (data.extract x y).size = y - x by simp; omega] at hok
    obtain ⟨z, rfl⟩ : ∃ z : Nat, hz = z := ⟨hz.toNat, by omega⟩
    obtain ⟨l, rfl⟩ : ∃ l : Nat, hl = l := ⟨hl.toNat, by omega⟩
    have hzl : x + z + l ≤ y := by omega
    have hto1 : (x : Int) + z ≤ 9223372036854775807 := by omega
    have hto2 : (x : Int) + z + l ≤ 9223372036854775807 := by omega
    have BA : Hid (∀ (w3 : World) (cl nu : Int), RdI W w3 R (some ⟨b, o, none⟩) s.length c data tree 0 p → Calls Tryz.prog 102 #[.pointer (some ⟨R, 0, none⟩), .agg #[.int .i64 N.kind, .int .i64 N.tag, .int .i64 N.mode, .slice ka N.kids.length kc], .int .i64 cl, .int .i64 nu, .agg #[.int .i64 hc, .bool hb, .int .i64 hn, .int .i64 z, .int .i64 l], .int .i64 x, .int .i64 ((x : Int) + z + l), .int .i64 dp] w3
      fun e w' => RetR W w3 R (some ⟨b, o, none⟩) s.length c data (.tuple #[]) (BareL N.kind cl nu ⟨hc, hb, hn, z, l⟩ data x z (x + z + l) dp tree p) e w') := fun w3 cl nu h3 => by
      have := bare_leaf W w3 R (some ⟨b, o, none⟩) s.length c data tree p N ka kc cl nu hc hb hn z l x (x + z + l) dp h3 hk1 hk9 (by omega) (by omega) hm ht
      rw [show ((x + z + l : Nat) : Int) = (x : Int) + z + l by omega] at this
      exact this
    have HI2 : Hid (∀ o1, RdI W (w1.alloc o1) R (some ⟨b, o, none⟩) s.length c data tree 0 p) := fun o1 => HI1.out.below ((Below.refl _ _).alloc (Nat.le_refl _) _)
    clear hok
    have RUN0 : Hid (∀ args w, (callFunc 103 args).run Tryz.prog w = .ok (.enter 103 args) w) := fun args w => run_enter Tryz.func103 (by kernel_rfl) (by rfl) args w
    have RUNB : Hid (∀ args w, (callFunc 102 args).run Tryz.prog w = .ok (.enter 102 args) w) := fun args w => run_enter Tryz.func102 (by kernel_rfl) (by rfl) args w
    have HO : Hid (∀ w, Calls Tryz.prog 103 #[.int .i64 N.kind] w fun e w' => e = .returned (.int .i64 (own N.kind)) ∧ Below w.heap.size w w') := fun w => own0_any N.kind (by omega) (by omega) w
    have HT : Hid (N.tag < 0) := htg
    go_wp2_with fail
    go_region_law (first | (refine step_calls rfl 103 _ _ rfl #[.int .i64 N.kind] (by simp [Act.eval, Act.put]) (.int .i64 (own N.kind)) (fun w' => Below ((w1.alloc (.cells #[.int .i64 hc, .bool hb, .int .i64 hn, .int .i64 z, .int .i64 l] 179)).drew).heap.size ((w1.alloc (.cells #[.int .i64 hc, .bool hb, .int .i64 hn, .int .i64 z, .int .i64 l] 179)).drew) w') (RUN0.out _ _) (HO.out _) ?_; intro w3 hb3; have hI3 := ((HI2.out _).below (below_drewN (Below.refl _ _) 1)).below hb3; obtain ⟨hc3, hf3⟩ := bcell hb3) | (refine step_calls rfl 102 _ _ rfl #[.pointer (some ⟨R, 0, none⟩), .agg #[.int .i64 N.kind, .int .i64 N.tag, .int .i64 N.mode, .slice ka N.kids.length kc], .int .i64 0, .int .i64 (own N.kind), .agg #[.int .i64 hc, .bool hb, .int .i64 hn, .int .i64 z, .int .i64 l], .int .i64 x, .int .i64 ((x : Int) + z + l), .int .i64 dp] (by simp [Act.eval, Act.put]) (.tuple #[]) (fun w' => ∃ tree' e' p', RdI W w' R (some ⟨b, o, none⟩) s.length c data tree' e' p' ∧ BareL N.kind 0 (own N.kind) ⟨hc, hb, hn, z, l⟩ data x z (x + z + l) dp tree p tree' e' p' ∧ Fr R w3 w') (RUNB.out _ _) (BA.out _ 0 (own N.kind) hI3) ?_; rintro w4 ⟨tree', e', p', hI4, hB4, hf4⟩))
    all_goals
      have HB4 : Hid (BareL N.kind 0 (own N.kind) ⟨hc, hb, hn, z, l⟩ data x z (x + z + l) dp tree p tree' e' p') := hB4
      have HI4 : Hid (RdI W w4 R (some ⟨b, o, none⟩) s.length c data tree' e' p') := hI4
      clear hB4 hI4 hf4 hc3 hf3 hI3 hb3
      go_wp2
      go_ret
      exact ⟨_, tree', e', p', rfl, HI4.out, nodeA 0 (own N.kind) HK.out HH.out (.inl ⟨HT.out, rfl, rfl⟩) HB4.out⟩
  · have HK0 : Hid (k1 ≠ 0) := hk0
    have e0 : (k1 != 0) = true := by simp [hk0]
    have HI1' : Hid (RdI W w1 R (some ⟨b, o, none⟩) s.length c data tree k1 x) := by have := HI1.out; rw [if_neg hk0] at this; exact this
    have HI3 : Hid (∀ o1, RdI W (w1.alloc o1) R (some ⟨b, o, none⟩) s.length c data tree k1 x) := fun o1 => HI1'.out.below ((Below.refl _ _).alloc (Nat.le_refl _) _)
    clear hk0
    go_wp2
    go_ret
    exact ⟨y, tree, k1, x, rfl, HI3.out _, .inr ⟨HK0.out, fun to u q => HK0.out (HK.out.symm.trans (HX.out to u q))⟩⟩
end Go.Proofs.YtkkicodfpekbgaaGreatDoor

/-! The document's reader: node, of the kinds 1 to 9 (a Tag of Mode 0). -/
namespace Go.Proofs.YtkkicodfpekbgaaGreatDoor
set_option linter.unusedSimpArgs false
set_option linter.unusedVariables false
open Go.RowKit

set_option maxHeartbeats 8000000 in
set_option maxRecDepth 100000 in
theorem node_leafB (s : List Nd) (W w : World) (R : Nat) (a : Option Addr) (c : Nat) (data : ByteArray) (tree : List Vl) (p : Int) (i x y : Nat) (dp : Int)
    (h : RdI W w R a s.length c data tree 0 p) (hs : Sch W a s) (hi : i < s.length) (hk1 : 1 ≤ (nd s i).kind) (hk9 : (nd s i).kind ≤ 9) (htg' : 0 ≤ (nd s i).tag) (hm0 : (nd s i).mode = 0)
    (hxy : x ≤ y) (hy : y ≤ data.size) (hm : data.size ≤ 140737488355328) (ht : tree.length ≤ 1099511627776) :
    Calls Tryz.prog 69 #[.pointer (some ⟨R, 0, none⟩), .int .i64 i, .int .i64 x, .int .i64 y, .int .i64 dp] w
      fun e w' => RetN W R a s.length c data (nd s i) x y dp tree e w' := by
  have HI : Hid (RdI W w R a s.length c data tree 0 p) := h
  have HHD : Hid (∀ (w1 : World) (p : Int) (x y : Nat), RdI W w1 R a s.length c data tree 0 p → x ≤ y → y ≤ data.size → Calls Tryz.prog 101 #[.pointer (some ⟨R, 0, none⟩), .int .i64 x, .int .i64 y] w1 fun e w' => e = .returned (hv (hd (data.extract x y)).2) ∧ RdI W w' R a s.length c data tree (hd (data.extract x y)).1 (if (hd (data.extract x y)).1 = 0 then p else x) ∧ Fr R w1 w') :=
    fun w1 p x y h1 h2 h3 => rdhead_any W w1 R a s.length c data tree p x y h1 h2 h3 hm
  obtain ⟨hb, hlo, vt, hr, _⟩ := h
  unfold rdObj at hr
  have c0 : w.cell? ⟨R, 0, none⟩ = some (.slice a s.length c) := by simp [World.cell?, hr]
  have hRl : R < w.heap.size := lt_of_cell c0
  clear hr
  obtain ⟨b, o, ka, kc, rfl, nc, kl, km, ks⟩ := hs i hi
  obtain ⟨n1, n2, n3, n4⟩ := nc.below hb
  have hi' : (i : Int) < s.length := by omega
  clear hs nc ks hb
  generalize hN : nd s i = N at *
  clear hN
  have HM0 : Hid (N.mode = 0) := hm0
  have e0 : (N.mode == 0) = true := by simp [hm0]
  clear hm0
  have HX : Hid (∀ to u, NodeAt N data x y dp to u → (hd (data.extract x y)).1 = 0) := fun to u q => q.2.1
  go_enter Tryz.func69, Tryz.ntmps69
  go_wp2_with fail
  refine (HHD.out _ p x y (HI.out.below ((Below.refl _ _).alloc (Nat.le_refl _) _)) hxy hy).mono ?_
  rintro e w1 ⟨rfl, hI1, hf1⟩
  have HG1 : Hid (w1.heap[w.heap.size]? = some (.cells #[.int .i64 N.kind, .int .i64 N.tag, .int .i64 N.mode, .slice ka N.kids.length kc] 58 (0, 0))) := hf1 _ _ _ (by omega) (by decide) (heap_alloc_new w _)
  obtain ⟨hc, hb, hn, hz, hl, hH⟩ : ∃ hc hb hn hz hl, (hd (data.extract x y)).2 = ⟨hc, hb, hn, hz, hl⟩ := ⟨_, _, _, _, _, rfl⟩
  have HH : Hid ((hd (data.extract x y)).2 = ⟨hc, hb, hn, hz, hl⟩) := hH
  rw [hH]
  unfold hv
  obtain ⟨k1, hk⟩ : ∃ k, (hd (data.extract x y)).1 = k := ⟨_, rfl⟩
  have HK : Hid ((hd (data.extract x y)).1 = k1) := hk
  rw [hk] at hI1
  have HI1 : Hid (RdI W w1 R (some ⟨b, o, none⟩) s.length c data tree k1 (if k1 = 0 then p else x)) := hI1
  obtain ⟨_, _, vt1, hr1, _⟩ := hI1
  unfold rdObj at hr1
  have r3 : w1.cell? ⟨R, 3, none⟩ = some (.int .i64 k1) := by simp [World.cell?, hr1]
  have hs1 : w.heap.size < w1.heap.size := by
    rcases Nat.lt_or_ge w.heap.size w1.heap.size with h' | h'
    · exact h'
    · have := HG1.out; rw [Array.getElem?_eq_none h'] at this; cases this
  have hRs : R < w1.heap.size := by omega
  have m0 : w1.cell? ⟨w.heap.size, 0, none⟩ = some (.int .i64 N.kind) := by simp [World.cell?, HG1.out]
  have m1 : w1.cell? ⟨w.heap.size, 1, none⟩ = some (.int .i64 N.tag) := by simp [World.cell?, HG1.out]
  have m2 : w1.cell? ⟨w.heap.size, 2, none⟩ = some (.int .i64 N.mode) := by simp [World.cell?, HG1.out]
  have m3 : w1.cell? ⟨w.heap.size, 3, none⟩ = some (.slice ka N.kids.length kc) := by simp [World.cell?, HG1.out]
  clear hf1 hH hk hr1 n1 n2 n3 n4 c0
  by_cases hk0 : k1 = 0
  · subst hk0
    have hok := hd_ok HK.out
    rw [HH.out] at hok
    simp only at hok
    rw [show (data.extract x y).size = y - x by simp; omega] at hok
    obtain ⟨z, rfl⟩ : ∃ z : Nat, hz = z := ⟨hz.toNat, by omega⟩
    obtain ⟨l, rfl⟩ : ∃ l : Nat, hl = l := ⟨hl.toNat, by omega⟩
    have hzl : x + z + l ≤ y := by omega
    have hto1 : (x : Int) + z ≤ 9223372036854775807 := by omega
    have hto2 : (x : Int) + z + l ≤ 9223372036854775807 := by omega
    have BA : Hid (∀ (w3 : World) (cl nu : Int), RdI W w3 R (some ⟨b, o, none⟩) s.length c data tree 0 p → Calls Tryz.prog 102 #[.pointer (some ⟨R, 0, none⟩), .agg #[.int .i64 N.kind, .int .i64 N.tag, .int .i64 N.mode, .slice ka N.kids.length kc], .int .i64 cl, .int .i64 nu, .agg #[.int .i64 hc, .bool hb, .int .i64 hn, .int .i64 z, .int .i64 l], .int .i64 x, .int .i64 ((x : Int) + z + l), .int .i64 dp] w3
      fun e w' => RetR W w3 R (some ⟨b, o, none⟩) s.length c data (.tuple #[]) (BareL N.kind cl nu ⟨hc, hb, hn, z, l⟩ data x z (x + z + l) dp tree p) e w') := fun w3 cl nu h3 => by
      have := bare_leaf W w3 R (some ⟨b, o, none⟩) s.length c data tree p N ka kc cl nu hc hb hn z l x (x + z + l) dp h3 hk1 hk9 (by omega) (by omega) hm ht
      rw [show ((x + z + l : Nat) : Int) = (x : Int) + z + l by omega] at this
      exact this
    have HI2 : Hid (∀ o1, RdI W (w1.alloc o1) R (some ⟨b, o, none⟩) s.length c data tree 0 p) := fun o1 => HI1.out.below ((Below.refl _ _).alloc (Nat.le_refl _) _)
    clear hok
    have RUN0 : Hid (∀ args w, (callFunc 103 args).run Tryz.prog w = .ok (.enter 103 args) w) := fun args w => run_enter Tryz.func103 (by kernel_rfl) (by rfl) args w
    have RUNB : Hid (∀ args w, (callFunc 102 args).run Tryz.prog w = .ok (.enter 102 args) w) := fun args w => run_enter Tryz.func102 (by kernel_rfl) (by rfl) args w
    have HT : Hid (0 ≤ N.tag) := htg'
    go_wp2_with fail
    refine (BA.out _ 2 N.tag (HI2.out _)).mono ?_
    rintro e w4 ⟨rfl, tree', e', p', hI4, hB4, hf4⟩
    have HB4 : Hid (BareL N.kind 2 N.tag ⟨hc, hb, hn, z, l⟩ data x z (x + z + l) dp tree p tree' e' p') := hB4
    have HI4 : Hid (RdI W w4 R (some ⟨b, o, none⟩) s.length c data tree' e' p') := hI4
    clear hB4 hI4 hf4
    go_wp2
    go_ret
    exact ⟨_, tree', e', p', rfl, HI4.out, nodeA 2 N.tag HK.out HH.out (.inr ⟨HT.out, HM0.out, rfl, rfl⟩) HB4.out⟩
  · have HK0 : Hid (k1 ≠ 0) := hk0
    have e0 : (k1 != 0) = true := by simp [hk0]
    have HI1' : Hid (RdI W w1 R (some ⟨b, o, none⟩) s.length c data tree k1 x) := by have := HI1.out; rw [if_neg hk0] at this; exact this
    have HI3 : Hid (∀ o1, RdI W (w1.alloc o1) R (some ⟨b, o, none⟩) s.length c data tree k1 x) := fun o1 => HI1'.out.below ((Below.refl _ _).alloc (Nat.le_refl _) _)
    clear hk0
    go_wp2
    go_ret
    exact ⟨y, tree, k1, x, rfl, HI3.out _, .inr ⟨HK0.out, fun to u q => HK0.out (HK.out.symm.trans (HX.out to u q))⟩⟩
end Go.Proofs.YtkkicodfpekbgaaGreatDoor

/-! Calls inside regions that draw their order, under a guard or with a result that is told by a relation. -/
namespace Go.Proofs.YtkkicodfpekbgaaGreatDoor
set_option linter.unusedSimpArgs false
set_option linter.unusedVariables false
open Go.RowKit

theorem step_callsW {P : Program} {ops : Array Oper} {o : Oper} {a : Act} {w : World} {K : Act → World → Prop} {Q : Exit → Act → World → Prop} {E : Prop} (hw : Region.wanted o (yielded ops a.tmps) = true) (f : FuncId) (args : Array Operand) (tys : Array TypeId)
    (ho : o.op = .call { callee := .value (.func f), args := args, argTypes := tys }) (vals : Array Value) (hv : args.map a.eval = vals) (R : Ending → World → Prop)
    (hrun : (callFunc f vals).run P w = .ok (.enter f vals) w) (hc : Calls P f vals w R) (hk : ∀ e w', R e w' → ∃ v, e = .returned v ∧ K (a.put o.dst v) w') :
    if Region.wanted o (yielded ops a.tmps) = true then Oper.wp P o a w K Q else E := by
  rw [if_pos hw]
  unfold Oper.wp
  simp only [execOp, ho, resolve, invoke]
  simp [Act.eval, Deferred.ofValue, hv, hrun, Oper.upon_enter]
  refine hc.mono fun e w' h => ?_
  obtain ⟨v, rfl, h2⟩ := hk e w' h
  exact h2
end Go.Proofs.YtkkicodfpekbgaaGreatDoor

/-! Regions that draw their order, whose operations read and whose callees leave all that was there: one walk. -/
namespace Go.Proofs.YtkkicodfpekbgaaGreatDoor
set_option linter.unusedSimpArgs false
set_option linter.unusedVariables false
open Go.RowKit

/-- A world that goes on from this one. -/
structure Ext (w : World) where
  v : World
  h : Below w.heap.size w v
theorem ext_ne (w : World) : Nonempty (Ext w) := ⟨⟨w, Below.refl _ _⟩⟩
theorem Ext.cell {w : World} (x : Ext w) {a : Addr} {u : Value} (h : w.cell? a = some u) : x.v.cell? a = some u := (x.h.cell (lt_of_cell h)).trans h
theorem Ext.block {w : World} (x : Ext w) {g : Nat} {o : Obj} (h : w.heap[g]? = some o) : x.v.heap[g]? = some o := block_below h x.h
theorem Ext.old {w : World} {o : Obj} (x : Ext (w.alloc o)) {a : Addr} {u : Value} (h : w.cell? a = some u) : x.v.cell? a = some u := x.cell ((((Below.refl w.heap.size w).alloc (Nat.le_refl _) o).cell (lt_of_cell h)).trans h)
theorem Ext.bel {w0 w : World} (hb : Below w0.heap.size w0 w) (x : Ext w) : Below w0.heap.size w0 x.v := hb.trans (x.h.mono hb.size)
theorem Ext.far {w0 w : World} (hb : Below w0.heap.size w0 w) (x : Ext w) {a : Addr} {u : Value} (h : w0.cell? a = some u) : x.v.cell? a = some u := ((Ext.bel hb x).cell (lt_of_cell h)).trans h
theorem Ext.new {w : World} {A : Array Value} {T : TypeId} (x : Ext (w.alloc (.cells A T))) {i : Nat} {u : Value} (h : A[i]? = some u) : x.v.cell? ⟨w.heap.size, i, none⟩ = some u := x.cell (by have q := heap_alloc_new w (.cells A T); unfold World.cell?; simp only [q]; exact h)
theorem wp_region_ext {P : Program} {id : Nat} {Q : Exit → Act → World → Prop} {a : Act} {w : World} {l : List Oper} (hm : P.follows .mixedOrders = true) (hB : Region.lexB .any l.toArray = true)
    (h : wpQuiet P l.toArray (fun w' => ∃ x : Ext w, w' = x.v) (fun a' => ∀ w', (∃ x : Ext w, w' = x.v) → Q .normal a' w') l a) : (Code.region id l.toArray true).wp P Q a w :=
  wp_region_quiet (C := fun w' => ∃ x : Ext w, w' = x.v) hm hB ⟨⟨w.drew, (Below.refl _ _).drew⟩, rfl⟩ (by simpa using h)
theorem nil_ext {P : Program} {ops : Array Oper} {Q : Exit → Act → World → Prop} {a : Act} {w : World} (h : ∀ w', Below w.heap.size w w' → Q .normal a w') :
    wpQuiet P ops (fun w' => ∃ x : Ext w, w' = x.v) (fun a' => ∀ w', (∃ x : Ext w, w' = x.v) → Q .normal a' w') [] a := fun _ hx => by obtain ⟨x, rfl⟩ := hx; exact h x.v x.h
theorem Ext.calls {P : Program} {f : FuncId} {args : Array Value} {w : World} {x : Ext w} {v : Value} (h : Calls P f args x.v fun e w' => e = .returned v ∧ Below x.v.heap.size x.v w') :
    Calls P f args x.v fun e w'' => e = .returned v ∧ ∃ y : Ext w, w'' = y.v := h.mono fun _ w' q => ⟨q.1, ⟨w', x.h.trans (q.2.mono x.h.size)⟩, rfl⟩
theorem Ext.callsO {P : Program} {f : FuncId} {args : Array Value} {w : World} {x : Ext w} {R : Prop} [Decidable R] (h : Calls P f args x.v fun e w' => RetO R x.v e w') :
    Calls P f args x.v fun e w'' => e = .returned (.bool (decide R)) ∧ ∃ y : Ext w, w'' = y.v := h.mono fun _ w' q => by
  obtain ⟨r, rfl, h1, h2⟩ := q
  refine ⟨?_, ⟨w', x.h.trans (h2.mono x.h.size)⟩, rfl⟩
  by_cases hR : R
  · rw [decide_eq_true hR, h1.2 hR]
  · rw [decide_eq_false hR]
    cases r
    · rfl
    · exact absurd (h1.1 rfl) hR
theorem Ext.callsR {P : Program} {f : FuncId} {args : Array Value} {w : World} {x : Ext w} {R : Prop} {r : Bool} (hr : r = true ↔ R) (h : Calls P f args x.v fun e w' => RetO R x.v e w') :
    Calls P f args x.v fun e w'' => e = .returned (.bool r) ∧ ∃ y : Ext w, w'' = y.v := h.mono fun _ w' q => by
  obtain ⟨r', rfl, h1, h2⟩ := q
  refine ⟨?_, ⟨w', x.h.trans (h2.mono x.h.size)⟩, rfl⟩
  have : r' = r := by
    cases r <;> cases r'
    · rfl
    · exact absurd (hr.2 (h1.1 rfl)) (by simp)
    · exact absurd (h1.2 (hr.1 rfl)) (by simp)
    · rfl
  rw [this]
/-- A bool for whatever may be asked. -/
theorem bool_of (R : Prop) : ∃ r : Bool, r = true ↔ R := by
  by_cases h : R
  · exact ⟨true, by simp [h]⟩
  · exact ⟨false, by simp [h]⟩
end Go.Proofs.YtkkicodfpekbgaaGreatDoor

/-! schemas.isOpen, mayLack, isTagged, kidBounds: what they answer. -/
namespace Go.Proofs.YtkkicodfpekbgaaGreatDoor
set_option linter.unusedSimpArgs false
set_option linter.unusedVariables false
open Go.RowKit

/-- A Choice without a Tag, as the program asks. -/
def Nd.opn1 (n : Nd) : Prop := n.kind = 13 ∧ n.tag = -1
/-- A node's Tag and Mode. -/
def Tagged (n : Nd) : Prop := -1 ≤ n.tag ∧ n.tag ≤ 30 ∧ (n.tag = -1 → n.mode = 0) ∧ (0 ≤ n.tag → (n.kind = 13 ∨ n.kind = 14) → n.mode = 1) ∧ (0 ≤ n.tag → n.kind ≠ 13 → n.kind ≠ 14 → n.mode = 0 ∨ n.mode = 1)
set_option maxHeartbeats 1000000 in
set_option maxRecDepth 100000 in
theorem isOpen_any (n : Nd) (ka : Option Addr) (kc : Nat) (w : World) :
    Calls Tryz.prog 139 #[.agg #[.int .i64 n.kind, .int .i64 n.tag, .int .i64 n.mode, .slice ka n.kids.length kc]] w fun e w' => RetO n.opn1 w e w' := by
  by_cases h1 : n.kind = 13
  · have h1' : (n.kind == 13) = true := by simp [h1]
    by_cases h2 : n.tag = -1
    · have HP : Hid n.opn1 := ⟨h1, h2⟩
      have h2' : (n.tag == -1) = true := by simp [h2]
      clear h1 h2
      go_enter Tryz.func139, Tryz.ntmps139
      go_wp2
      go_ret
      exact reto_yes HP.out ((Below.refl _ _).alloc (Nat.le_refl _) _)
    · have HP : Hid (¬ n.opn1) := fun h => h2 h.2
      have h2' : (n.tag == -1) = false := by simp [h2]
      clear h1 h2
      go_enter Tryz.func139, Tryz.ntmps139
      go_wp2
      go_ret
      exact reto_no HP.out ((Below.refl _ _).alloc (Nat.le_refl _) _)
  · have h1' : (n.kind == 13) = false := by simp [h1]
    have HP : Hid (¬ n.opn1) := fun h => h1 h.1
    clear h1
    go_enter Tryz.func139, Tryz.ntmps139
    go_wp2
    go_ret
    exact reto_no HP.out ((Below.refl _ _).alloc (Nat.le_refl _) _)
set_option maxHeartbeats 1000000 in
set_option maxRecDepth 100000 in
theorem mayLack_any (k : Kd) (w : World) :
    Calls Tryz.prog 94 #[.agg #[.int .i64 k.node, .bool k.opt, .string k.dflt]] w fun e w' => RetO (¬ k.must) w e w' := by
  cases h : k.opt with
  | true =>
    have HP : Hid (¬ k.must) := fun q => by have := q.1; rw [h] at this; cases this
    clear h
    go_enter Tryz.func94, Tryz.ntmps94
    go_wp2
    go_ret
    exact reto_yes HP.out ((Below.refl _ _).alloc (Nat.le_refl _) _)
  | false =>
    have HO : Hid (k.opt = false) := h
    clear h
    by_cases h2 : k.dflt.size = 0
    · have e := emp_t h2
      have HP : Hid (¬ ¬ k.must) := fun q => q ⟨HO.out, h2⟩
      clear h2
      go_enter Tryz.func94, Tryz.ntmps94
      go_wp2
      go_ret
      exact reto_no HP.out ((Below.refl _ _).alloc (Nat.le_refl _) _)
    · have e := emp_f (t := k.dflt) (by omega)
      have HP : Hid (¬ k.must) := fun q => h2 q.2
      clear h2
      go_enter Tryz.func94, Tryz.ntmps94
      go_wp2
      go_ret
      exact reto_yes HP.out ((Below.refl _ _).alloc (Nat.le_refl _) _)
set_option maxHeartbeats 2000000 in
set_option maxRecDepth 100000 in
theorem isTagged_any (n : Nd) (ka : Option Addr) (kc : Nat) (w : World) :
    Calls Tryz.prog 92 #[.agg #[.int .i64 n.kind, .int .i64 n.tag, .int .i64 n.mode, .slice ka n.kids.length kc]] w fun e w' => RetO (Tagged n) w e w' := by
  by_cases h1 : n.tag < -1
  · have HP : Hid (¬ Tagged n) := by show ¬ Tagged n; unfold Tagged; omega
    go_enter Tryz.func92, Tryz.ntmps92
    go_wp2
    go_ret
    exact reto_no HP.out ((Below.refl _ _).alloc (Nat.le_refl _) _)
  have h1' : -1 ≤ n.tag := by omega
  clear h1
  by_cases h2 : 30 < n.tag
  · have HP : Hid (¬ Tagged n) := by show ¬ Tagged n; unfold Tagged; omega
    go_enter Tryz.func92, Tryz.ntmps92
    go_wp2
    go_ret
    exact reto_no HP.out ((Below.refl _ _).alloc (Nat.le_refl _) _)
  have h2' : n.tag ≤ 30 := by omega
  clear h2
  by_cases h3 : n.tag = -1
  · have e3 : (n.tag == -1) = true := by simp [h3]
    by_cases h4 : n.mode = 0
    · have e4 : (n.mode == 0) = true := by simp [h4]
      have HP : Hid (Tagged n) := by show Tagged n; unfold Tagged; omega
      clear h3 h4 h1' h2'
      have h1' : -1 ≤ n.tag := by have := HP.out.1; omega
      have h2' : n.tag ≤ 30 := by have := HP.out.2.1; omega
      go_enter Tryz.func92, Tryz.ntmps92
      go_wp2
      go_ret
      exact reto_yes HP.out ((Below.refl _ _).alloc (Nat.le_refl _) _)
    · have e4 : (n.mode == 0) = false := by simp [h4]
      have HP : Hid (¬ Tagged n) := by show ¬ Tagged n; unfold Tagged; omega
      clear h3 h4
      go_enter Tryz.func92, Tryz.ntmps92
      go_wp2
      go_ret
      exact reto_no HP.out ((Below.refl _ _).alloc (Nat.le_refl _) _)
  have e3 : (n.tag == -1) = false := by simp [h3]
  have h3' : 0 ≤ n.tag := by omega
  clear h3
  have hk : (n.kind = 13 ∧ (n.kind == 13) = true) ∨ (n.kind = 14 ∧ (n.kind == 13) = false ∧ (n.kind == 14) = true) ∨ (n.kind ≠ 13 ∧ n.kind ≠ 14 ∧ (n.kind == 13) = false ∧ (n.kind == 14) = false) := by
    by_cases a : n.kind = 13
    · exact .inl ⟨a, by simp [a]⟩
    · by_cases b : n.kind = 14
      · exact .inr (.inl ⟨b, by simp [b], by simp [b]⟩)
      · exact .inr (.inr ⟨a, b, by simp [a], by simp [b]⟩)
  have hm : (n.mode = 0 ∧ (n.mode == 0) = true ∧ (n.mode == 1) = false) ∨ (n.mode = 1 ∧ (n.mode == 0) = false ∧ (n.mode == 1) = true) ∨ (n.mode ≠ 0 ∧ n.mode ≠ 1 ∧ (n.mode == 0) = false ∧ (n.mode == 1) = false) := by
    by_cases a : n.mode = 0
    · exact .inl ⟨a, by simp [a], by simp [a]⟩
    · by_cases b : n.mode = 1
      · exact .inr (.inl ⟨b, by simp [b], by simp [b]⟩)
      · exact .inr (.inr ⟨a, b, by simp [a], by simp [b]⟩)
  rcases hk with ⟨k0, k1⟩ | ⟨k0, k1, k2⟩ | ⟨k0, k3, k1, k2⟩
  · rcases hm with ⟨m0, m1, m2⟩ | ⟨m0, m1, m2⟩ | ⟨m0, m3, m1, m2⟩
    · have HP : Hid (¬ Tagged n) := by show ¬ Tagged n; unfold Tagged; omega
      clear k0 m0
      go_enter Tryz.func92, Tryz.ntmps92
      go_wp2
      go_ret
      exact reto_no HP.out ((Below.refl _ _).alloc (Nat.le_refl _) _)
    · have HP : Hid (Tagged n) := by show Tagged n; unfold Tagged; omega
      clear k0 m0
      go_enter Tryz.func92, Tryz.ntmps92
      go_wp2
      go_ret
      exact reto_yes HP.out ((Below.refl _ _).alloc (Nat.le_refl _) _)
    · have HP : Hid (¬ Tagged n) := by show ¬ Tagged n; unfold Tagged; omega
      clear k0 m0 m3
      go_enter Tryz.func92, Tryz.ntmps92
      go_wp2
      go_ret
      exact reto_no HP.out ((Below.refl _ _).alloc (Nat.le_refl _) _)
  · rcases hm with ⟨m0, m1, m2⟩ | ⟨m0, m1, m2⟩ | ⟨m0, m3, m1, m2⟩
    · have HP : Hid (¬ Tagged n) := by show ¬ Tagged n; unfold Tagged; omega
      clear k0 m0
      go_enter Tryz.func92, Tryz.ntmps92
      go_wp2
      go_ret
      exact reto_no HP.out ((Below.refl _ _).alloc (Nat.le_refl _) _)
    · have HP : Hid (Tagged n) := by show Tagged n; unfold Tagged; omega
      clear k0 m0
      go_enter Tryz.func92, Tryz.ntmps92
      go_wp2
      go_ret
      exact reto_yes HP.out ((Below.refl _ _).alloc (Nat.le_refl _) _)
    · have HP : Hid (¬ Tagged n) := by show ¬ Tagged n; unfold Tagged; omega
      clear k0 m0 m3
      go_enter Tryz.func92, Tryz.ntmps92
      go_wp2
      go_ret
      exact reto_no HP.out ((Below.refl _ _).alloc (Nat.le_refl _) _)
  · rcases hm with ⟨m0, m1, m2⟩ | ⟨m0, m1, m2⟩ | ⟨m0, m3, m1, m2⟩
    · have HP : Hid (Tagged n) := by show Tagged n; unfold Tagged; omega
      clear k0 m0 k3
      go_enter Tryz.func92, Tryz.ntmps92
      go_wp2
      go_ret
      exact reto_yes HP.out ((Below.refl _ _).alloc (Nat.le_refl _) _)
    · have HP : Hid (Tagged n) := by show Tagged n; unfold Tagged; omega
      clear k0 m0 k3
      go_enter Tryz.func92, Tryz.ntmps92
      go_wp2
      go_ret
      exact reto_yes HP.out ((Below.refl _ _).alloc (Nat.le_refl _) _)
    · have HP : Hid (¬ Tagged n) := by show ¬ Tagged n; unfold Tagged; omega
      clear k0 m0 k3 m3
      go_enter Tryz.func92, Tryz.ntmps92
      go_wp2
      go_ret
      exact reto_no HP.out ((Below.refl _ _).alloc (Nat.le_refl _) _)
/-- The least and the most kids of a kind. -/
def bnd (k : Int) : Int × Int := if k = 10 then (0, 8) else if k = 11 ∨ k = 12 then (1, 1) else if k = 13 then (1, 8) else (0, 0)
set_option maxHeartbeats 1000000 in
set_option maxRecDepth 100000 in
theorem kidBounds_any (k : Int) (w : World) :
    Calls Tryz.prog 93 #[.int .i64 k] w fun e w' => e = .returned (.tuple #[.int .i64 (bnd k).1, .int .i64 (bnd k).2]) ∧ Below w.heap.size w w' := by
  by_cases h10 : k = 10
  · subst h10
    have e : bnd 10 = (0, 8) := by unfold bnd; rfl
    rw [e]
    clear e
    go_enter Tryz.func93, Tryz.ntmps93
    go_wp2
    go_ret2
    exact ⟨rfl, Below.refl _ _⟩
  have e10 : (k == 10) = false := by simp [h10]
  by_cases h11 : k = 11
  · subst h11
    have e : bnd 11 = (1, 1) := by unfold bnd; rfl
    rw [e]
    clear e
    go_enter Tryz.func93, Tryz.ntmps93
    go_wp2
    go_ret2
    exact ⟨rfl, Below.refl _ _⟩
  have e11 : (k == 11) = false := by simp [h11]
  by_cases h12 : k = 12
  · subst h12
    have e : bnd 12 = (1, 1) := by unfold bnd; rfl
    rw [e]
    clear e
    go_enter Tryz.func93, Tryz.ntmps93
    go_wp2
    go_ret2
    exact ⟨rfl, Below.refl _ _⟩
  have e12 : (k == 12) = false := by simp [h12]
  by_cases h13 : k = 13
  · subst h13
    have e : bnd 13 = (1, 8) := by unfold bnd; rfl
    rw [e]
    clear e
    go_enter Tryz.func93, Tryz.ntmps93
    go_wp2
    go_ret2
    exact ⟨rfl, Below.refl _ _⟩
  have e13 : (k == 13) = false := by simp [h13]
  have e : bnd k = (0, 0) := by unfold bnd; rw [if_neg h10, if_neg (by omega), if_neg h13]
  rw [e]
  clear e h10 h11 h12 h13
  go_enter Tryz.func93, Tryz.ntmps93
  go_wp2
  go_ret2
  exact ⟨rfl, Below.refl _ _⟩
end Go.Proofs.YtkkicodfpekbgaaGreatDoor

/-! Schemas: the pure part of the search for the leaves, as the program goes (a stack; what was put on it is marked). -/
namespace Go.Proofs.YtkkicodfpekbgaaGreatDoor
set_option linter.unusedSimpArgs false
set_option linter.unusedVariables false

structure Re (s : List Nd) (i : Nat) (V A S : List Nat) (bk : Bool) : Prop where
  mem : i ∈ V ++ A
  rch : ∀ x ∈ V ++ A, Rch s i x
  sin : ∀ x ∈ S, x ∈ V ++ A
  snd : S.Nodup
  slt : ∀ x ∈ S, x < s.length
  cnt : V.length + A.length = 1 + S.length
  cl : ∀ x ∈ V, (nd s x).opn → ∀ k ∈ (nd s x).kids, k.node.toNat ∈ S
  back : bk = true ↔ ∃ x ∈ V, (nd s x).opn ∧ ∃ k ∈ (nd s x).kids, k.node = i
structure ReM (s : List Nd) (i : Nat) (V : List Nat) (x j : Nat) (A S : List Nat) (bk : Bool) : Prop where
  mem : i ∈ V ++ x :: A
  rch : ∀ y ∈ V ++ x :: A, Rch s i y
  sin : ∀ y ∈ S, y ∈ V ++ x :: A
  snd : S.Nodup
  slt : ∀ y ∈ S, y < s.length
  cnt : V.length + (A.length + 1) = 1 + S.length
  cl : ∀ y ∈ V, (nd s y).opn → ∀ k ∈ (nd s y).kids, k.node.toNat ∈ S
  cl2 : ∀ m, m < j → ((nd s x).kids.getD m kd0).node.toNat ∈ S
  back : bk = true ↔ (∃ y ∈ V, (nd s y).opn ∧ ∃ k ∈ (nd s y).kids, k.node = i) ∨ ∃ m, m < j ∧ ((nd s x).kids.getD m kd0).node = i

theorem Re.start (s : List Nd) (i : Nat) : Re s i [] [i] [] false where
  mem := by simp
  rch := fun x hx => by simp at hx; subst hx; exact .refl
  sin := fun x hx => by cases hx
  snd := List.nodup_nil
  slt := fun x hx => by cases hx
  cnt := rfl
  cl := fun x hx => by cases hx
  back := by simp
theorem Re.len {s : List Nd} {i : Nat} {V A S : List Nat} {bk : Bool} (h : Re s i V A S bk) : V.length + A.length ≤ 1 + s.length := by
  have := nodup_le s.length S h.snd h.slt; have := h.cnt; omega
theorem ReM.len {s : List Nd} {i : Nat} {V A S : List Nat} {x j : Nat} {bk : Bool} (h : ReM s i V x j A S bk) : V.length + A.length ≤ s.length ∧ S.length ≤ s.length := by
  have := nodup_le s.length S h.snd h.slt; have := h.cnt; omega
theorem mem_mid {V A : List Nat} {x y : Nat} : y ∈ V ++ x :: A ↔ y ∈ V ++ [x] ++ A := by simp
theorem Re.leaf {s : List Nd} {i x : Nat} {V A S : List Nat} {bk : Bool} (h : Re s i V (A ++ [x]) S bk) (ho : ¬ (nd s x).opn) : Re s i (V ++ [x]) A S bk where
  mem := by have := h.mem; simp at this ⊢; rcases this with q | q | q <;> simp [q]
  rch := fun y hy => h.rch y (by simp at hy ⊢; rcases hy with hy | hy | hy <;> simp [hy])
  sin := fun y hy => by have := h.sin y hy; simp at this ⊢; rcases this with q | q | q <;> simp [q]
  snd := h.snd
  slt := h.slt
  cnt := by have := h.cnt; simp at this ⊢; omega
  cl := fun y hy hyo => by
    rcases List.mem_append.1 hy with hy | hy
    · exact h.cl y hy hyo
    · simp at hy; subst hy; exact absurd hyo ho
  back := by
    rw [h.back]
    constructor
    · rintro ⟨y, hy, hr⟩; exact ⟨y, by simp [hy], hr⟩
    · rintro ⟨y, hy, hyo, hr⟩
      rcases List.mem_append.1 hy with hy | hy
      · exact ⟨y, hy, hyo, hr⟩
      · simp at hy; subst hy; exact absurd hyo ho
theorem Re.mid {s : List Nd} {i x : Nat} {V A S : List Nat} {bk : Bool} (h : Re s i V (A ++ [x]) S bk) : ReM s i V x 0 A S bk where
  mem := by have := h.mem; simp at this ⊢; rcases this with q | q | q <;> simp [q]
  rch := fun y hy => h.rch y (by simp at hy ⊢; rcases hy with hy | hy | hy <;> simp [hy])
  sin := fun y hy => by have := h.sin y hy; simp at this ⊢; rcases this with q | q | q <;> simp [q]
  snd := h.snd
  slt := h.slt
  cnt := by have := h.cnt; simp at this ⊢; omega
  cl := h.cl
  cl2 := fun m hm => absurd hm (Nat.not_lt_zero _)
  back := by rw [h.back]; simp
theorem back_step {P : Prop} {f : Nat → Int} {j t i : Nat} {bk : Bool} (h : bk = true ↔ P ∨ ∃ m, m < j ∧ f m = i) (ht : f j = t) : (bk || decide ((t : Int) = i)) = true ↔ P ∨ ∃ m, m < j + 1 ∧ f m = i := by
  rw [Bool.or_eq_true, h, or_assoc, decide_eq_true_iff]
  refine or_congr Iff.rfl ⟨?_, ?_⟩
  · rintro (⟨m, h1, h2⟩ | e)
    · exact ⟨m, by omega, h2⟩
    · exact ⟨j, by omega, ht.trans e⟩
  · rintro ⟨m, h1, h2⟩
    by_cases e : m = j
    · subst e; exact .inr (ht.symm.trans h2)
    · exact .inl ⟨m, by omega, h2⟩
theorem ReM.step_old {s : List Nd} {i : Nat} {V A S : List Nat} {x j t : Nat} {bk : Bool} (h : ReM s i V x j A S bk) (ht : ((nd s x).kids.getD j kd0).node = t) (hm : t ∈ S) :
    ReM s i V x (j + 1) A S (bk || decide ((t : Int) = i)) where
  mem := h.mem
  rch := h.rch
  sin := h.sin
  snd := h.snd
  slt := h.slt
  cnt := h.cnt
  cl := h.cl
  cl2 := fun m hm' => by
    by_cases e : m = j
    · subst e; rw [ht]; exact hm
    · exact h.cl2 m (by omega)
  back := back_step (f := fun m => ((nd s x).kids.getD m kd0).node) h.back ht
theorem ReM.step_new {s : List Nd} {i : Nat} {V A S : List Nat} {x j t : Nat} {bk : Bool} (h : ReM s i V x j A S bk) (ht : ((nd s x).kids.getD j kd0).node = t) (hj : j < (nd s x).kids.length) (ho : (nd s x).opn) (htl : t < s.length) (hm : t ∉ S) :
    ReM s i V x (j + 1) (A ++ [t]) (S ++ [t]) (bk || decide ((t : Int) = i)) := by
  have hk : (nd s x).kids.getD j kd0 ∈ (nd s x).kids := by
    rw [List.getD_eq_getElem?_getD, List.getElem?_eq_getElem hj]; exact List.getElem_mem hj
  have hx : Rch s i x := h.rch x (by simp)
  have ht' : ((nd s x).kids.getD j kd0).node.toNat = t := by rw [ht]; rfl
  exact {
    mem := by have := h.mem; simp at this ⊢; rcases this with q | q | q <;> simp [q]
    rch := fun y hy => by
      rw [← List.cons_append, ← List.append_assoc] at hy
      rcases List.mem_append.1 hy with hy | hy
      · exact h.rch y hy
      · simp at hy; subst hy; rw [← ht']; exact .step hx ho hk
    sin := fun y hy => by
      rcases List.mem_append.1 hy with hy | hy
      · have := h.sin y hy; simp at this ⊢; rcases this with q | q | q <;> simp [q]
      · simp at hy; subst hy; simp
    snd := by rw [List.nodup_append]; exact ⟨h.snd, by simp, fun a ha b hb => by simp at hb; subst hb; intro e; subst e; exact hm ha⟩
    slt := fun y hy => by
      rcases List.mem_append.1 hy with hy | hy
      · exact h.slt y hy
      · simp at hy; subst hy; exact htl
    cnt := by have := h.cnt; simp; omega
    cl := fun y hy hyo k hk => List.mem_append_left _ (h.cl y hy hyo k hk)
    cl2 := fun m hm' => by
      by_cases e : m = j
      · subst e; rw [ht']; simp
      · exact List.mem_append_left _ (h.cl2 m (by omega))
    back := back_step (f := fun m => ((nd s x).kids.getD m kd0).node) h.back ht }
theorem ReM.finish {s : List Nd} {i : Nat} {V A S : List Nat} {x : Nat} {bk : Bool} (h : ReM s i V x (nd s x).kids.length A S bk) (ho : (nd s x).opn) : Re s i (V ++ [x]) A S bk := by
  have hget : ∀ k ∈ (nd s x).kids, ∃ m, m < (nd s x).kids.length ∧ (nd s x).kids.getD m kd0 = k := fun k hk => by
    obtain ⟨m, hm, e⟩ := List.getElem_of_mem hk
    exact ⟨m, hm, by rw [List.getD_eq_getElem?_getD, List.getElem?_eq_getElem hm]; exact e⟩
  exact {
    mem := mem_mid.1 h.mem
    rch := fun y hy => h.rch y (mem_mid.2 hy)
    sin := fun y hy => mem_mid.1 (h.sin y hy)
    snd := h.snd
    slt := h.slt
    cnt := by have := h.cnt; simp; omega
    cl := fun y hy hyo k hk => by
      rcases List.mem_append.1 hy with hy | hy
      · exact h.cl y hy hyo k hk
      · simp at hy; subst hy
        obtain ⟨m, hm, e⟩ := hget k hk
        rw [← e]; exact h.cl2 m hm
    back := by
      rw [h.back]
      constructor
      · rintro (⟨y, hy, hr⟩ | ⟨m, hm, e⟩)
        · exact ⟨y, by simp [hy], hr⟩
        · exact ⟨x, by simp, ho, _, by rw [List.getD_eq_getElem?_getD, List.getElem?_eq_getElem hm]; exact List.getElem_mem hm, e⟩
      · rintro ⟨y, hy, hyo, k, hk, e⟩
        rcases List.mem_append.1 hy with hy | hy
        · exact .inl ⟨y, hy, hyo, k, hk, e⟩
        · simp at hy; subst hy
          obtain ⟨m, hm, e'⟩ := hget k hk
          exact .inr ⟨m, hm, by rw [e']; exact e⟩ }
theorem Re.reached {s : List Nd} {i : Nat} {V S : List Nat} {bk : Bool} (h : Re s i V [] S bk) {j : Nat} (hj : Rch s i j) : j ∈ V := by
  exact Rch.ind (P := fun j => j ∈ V) (by simpa using h.mem) (fun _ _ _ ho hk ih => by simpa using h.sin _ (h.cl _ ih ho _ hk)) hj
theorem Re.leaves {s : List Nd} {i : Nat} {V S : List Nat} {bk : Bool} (h : Re s i V [] S bk) (j : Nat) : j ∈ outs s V ↔ Leaf s i j := by
  unfold outs Leaf
  rw [List.mem_filter]
  simp only [Bool.not_eq_true', ← Bool.not_eq_true, Nd.opnB_iff]
  exact and_congr ⟨fun hm => h.rch j (by simp [hm]), fun hr => h.reached hr⟩ Iff.rfl
theorem Re.backs {s : List Nd} {i : Nat} {V S : List Nat} {bk : Bool} (h : Re s i V [] S bk) : bk = true ↔ Back s i := by
  rw [h.back]
  unfold Back
  constructor
  · rintro ⟨x, hx, ho, k, hk, e⟩; exact ⟨x, h.rch x (by simp [hx]), ho, k, hk, e⟩
  · rintro ⟨x, hx, ho, k, hk, e⟩; exact ⟨x, h.reached hx, ho, k, hk, e⟩
end Go.Proofs.YtkkicodfpekbgaaGreatDoor

/-! schemas.reach: the nodes where one comes to, and whether one comes back. -/
namespace Go.Proofs.YtkkicodfpekbgaaGreatDoor
set_option linter.unusedSimpArgs false
set_option linter.unusedVariables false
open Go.RowKit

/-- Tags are -1 or more. -/
def Tags (s : List Nd) : Prop := ∀ j, j < s.length → -1 ≤ (nd s j).tag
theorem opn_iff {n : Nd} (h : -1 ≤ n.tag) : n.opn1 ↔ n.opn := by unfold Nd.opn1 Nd.opn; omega
/-- What the search holds in memory. -/
structure ReW (s : List Nd) (w wr : World) (V A S : List Nat) (va vend : Value) (gs : Nat) : Prop where
  inn : wr.ownsRow w.heap.size 3 1 va A.length (ivs A)
  out : wr.ownsRow w.heap.size 3 1 vend (outs s V).length (ivs (outs s V))
  ap : va.ownBlock = none ∨ vend.ownBlock = none ∨ vend.ownBlock ≠ va.ownBlock
  bel : Below w.heap.size w wr
  glo : w.heap.size ≤ gs
  see : ∃ C : Array Value, wr.heap[gs]? = some (.cells C 232 (0, 0)) ∧ ∀ j, j < 40 → C[j]? = some (.bool (decide (j ∈ S)))

/-- What it answers. -/
def RetE (s : List Nd) (i : Nat) (w : World) (e : Ending) (w' : World) : Prop :=
  ∃ (v : Value) (l : List Nat) (bk : Bool), e = .returned (.tuple #[v, .bool bk]) ∧ w'.ownsRow w.heap.size 3 1 v l.length (ivs l) ∧ Below w.heap.size w w' ∧ l.length ≤ s.length + 1 ∧ (∀ j, j ∈ l ↔ Leaf s i j) ∧ (bk = true ↔ Back s i)
theorem own_pop {w : World} {base g ca : Nat} {A : List Nat} {x : Nat} (h : w.ownsRow base 3 1 (.slice (some ⟨g, 0, none⟩) (A ++ [x]).length ca) (A ++ [x]).length (ivs (A ++ [x]))) : w.ownsRow base 3 1 (.slice (some ⟨g, 0, none⟩) A.length ca) A.length (ivs A) := by
  obtain ⟨h1, h2⟩ := h
  refine ⟨by simp [ivs], ?_⟩
  rcases h2 with ⟨h2, _⟩ | ⟨g', cap, cur, hv, h3, h4, h5, h6, h7, h8⟩
  · cases h2
  · refine .inr ⟨g', cap, cur, ?_, h3, h4, ?_, h6, h7, ?_⟩
    · injection hv with a b d
      rw [a, d]
    · simp at h5; omega
    · have e : cur.toList.take A.length = (cur.toList.take (A.length + 1)).take A.length := by rw [List.take_take]; congr 1; omega
      simp only [Nat.mul_one, List.length_append, List.length_singleton] at h8 ⊢
      rw [e, h8, ivs_append, List.take_append_of_le_length (by simp [ivs]), List.take_of_length_le (by simp [ivs])]
theorem ReW.below {s : List Nd} {w wr w' : World} {V A S : List Nat} {va vend : Value} {gs : Nat} (h : ReW s w wr V A S va vend gs) (hb : Below wr.heap.size wr w') : ReW s w w' V A S va vend gs where
  inn := own_below h.inn hb
  out := own_below h.out hb
  ap := h.ap
  bel := h.bel.trans (hb.mono h.bel.size)
  glo := h.glo
  see := by obtain ⟨C, h1, h2⟩ := h.see; exact ⟨C, block_below h1 hb, h2⟩
theorem keep_other {w w' : World} {k : Nat} {A : Array Value} {T : TypeId} {row : Option Nat} {o : Obj} (hg : w.heap[k]? = some (.cells A T (0, 0))) (hne : row ≠ some k) (h2 : (w.alloc o).grownBy w' row) : w'.heap[k]? = some (.cells A T (0, 0)) := by
  have hlt : k < w.heap.size := by
    rcases Nat.lt_or_ge k w.heap.size with h' | h'
    · exact h'
    · rw [Array.getElem?_eq_none h'] at hg; cases hg
  rw [h2.block k (by simp; omega) (fun e => hne e.symm), Below.heap_alloc w o _ hlt, hg]
theorem row_ne1 {w : World} {R base size n : Nat} {e T : TypeId} {v : Value} {xs : List Value} {A : Array Value} (hg : w.heap[R]? = some (.cells A T (0, 0))) (h : w.ownsRow base e size v n xs) (hT : T ≠ e) : v.ownBlock ≠ some R := by
  intro hv
  rcases h.2 with ⟨h', _⟩ | ⟨g, cap, cur, h', _, hg', _⟩
  · subst h'; cases hv
  · subst h'
    obtain rfl : g = R := by simpa [Value.ownBlock] using hv
    rw [hg] at hg'
    injection hg' with hg'
    injection hg' with _ e _
    exact hT e
/-- A leaf more. -/
theorem ReW.put {s : List Nd} {w wr w' : World} {x : Nat} {V A S : List Nat} {va vend : Value} {gs g cap : Nat} {o : Obj} (h : ReW s w wr V A S va vend gs) (ho : ¬ (nd s x).opn)
    (h1 : w'.ownsRow w.heap.size 3 1 (.slice (some ⟨g, 0, none⟩) ((outs s V).length + 1) cap) ((outs s V).length + 1) (ivs (outs s V) ++ [.int .i64 (x : Int)]))
    (h2 : (wr.alloc o).grownBy w' vend.ownBlock) (h3 : vend.ownBlock = some g ∨ g = wr.heap.size + 1) : ReW s w w' (V ++ [x]) A S va (.slice (some ⟨g, 0, none⟩) ((outs s V).length + 1) cap) gs := by
  have hb : Below w.heap.size w (wr.alloc o) := h.bel.alloc h.bel.size o
  exact {
    inn := by
      refine (h.inn.alloc o).kept h2 ?_
      rcases h.ap with q | q | q
      · exact .inl q
      · rw [q]
        by_cases e : va.ownBlock = none
        · exact .inl e
        · exact .inr e
      · exact .inr (fun e => q e.symm)
    out := by rw [outs_leaf ho, ivs_append, List.length_append]; exact h1
    ap := by
      by_cases e : va.ownBlock = none
      · exact .inl e
      · refine .inr (.inr (fun e' => ?_))
        have e'' : va.ownBlock = some g := by rw [← e']; rfl
        rcases h3 with h3 | h3
        · rcases h.ap with q | q | q
          · exact e q
          · rw [h3] at q; cases q
          · exact q (by rw [h3, e''])
        · have := (h.inn.lt g e'').2; omega
    bel := hb.grown h2 hb.size (fun k hk => (h.out.lt k hk).1)
    glo := h.glo
    see := by
      obtain ⟨C, q1, q2⟩ := h.see
      exact ⟨C, keep_other q1 (row_ne1 q1 h.out (by decide)) h2, q2⟩ }
/-- A place more to go to, marked. -/
theorem ReW.push {s : List Nd} {w wr w' : World} {t : Nat} {V A S : List Nat} {va vend : Value} {gs g cap : Nat} {o : Obj} (h : ReW s w wr V A S va vend gs)
    (h1 : w'.ownsRow w.heap.size 3 1 (.slice (some ⟨g, 0, none⟩) (A.length + 1) cap) (A.length + 1) (ivs A ++ [.int .i64 (t : Int)]))
    (h2 : (wr.alloc o).grownBy w' va.ownBlock) (h3 : va.ownBlock = some g ∨ g = wr.heap.size + 1) : ReW s w w' V (A ++ [t]) S (.slice (some ⟨g, 0, none⟩) (A.length + 1) cap) vend gs := by
  have hb : Below w.heap.size w (wr.alloc o) := h.bel.alloc h.bel.size o
  exact {
    inn := by rw [ivs_append, List.length_append]; exact h1
    out := by
      refine (h.out.alloc o).kept h2 ?_
      rcases h.ap with q | q | q
      · rw [q]
        by_cases e : vend.ownBlock = none
        · exact .inl e
        · exact .inr e
      · exact .inl q
      · exact .inr q
    ap := by
      by_cases e : vend.ownBlock = none
      · exact .inr (.inl e)
      · refine .inr (.inr (fun e' => ?_))
        have e'' : vend.ownBlock = some g := by rw [e']; rfl
        rcases h3 with h3 | h3
        · rcases h.ap with q | q | q
          · rw [h3] at q; cases q
          · exact e q
          · exact q (by rw [h3, e''])
        · have := (h.out.lt g e'').2; omega
    bel := hb.grown h2 hb.size (fun k hk => (h.inn.lt k hk).1)
    glo := h.glo
    see := by
      obtain ⟨C, q1, q2⟩ := h.see
      exact ⟨C, keep_other q1 (row_ne1 q1 h.inn (by decide)) h2, q2⟩ }
/-- A mark. -/
theorem ReW.mark {s : List Nd} {w wr : World} {t : Nat} {V A S : List Nat} {va vend : Value} {gs : Nat} (h : ReW s w wr V A S va vend gs) (ht : t < 40) : ReW s w (wr.setCell ⟨gs, t, none⟩ (.bool true)) V A (S ++ [t]) va vend gs := by
  obtain ⟨C, q1, q2⟩ := h.see
  exact {
    inn := ownsRow_setCell_other h.inn (row_ne1 q1 h.inn (by decide)) _
    out := ownsRow_setCell_other h.out (row_ne1 q1 h.out (by decide)) _
    ap := h.ap
    bel := h.bel.setCell h.glo _
    glo := h.glo
    see := ⟨C.setIfInBounds t (.bool true), heap_setCell_same wr gs t C _ _ q1, fun j hj => by
      have hsz : t < C.size := by
        have := q2 t ht
        rcases Nat.lt_or_ge t C.size with h' | h'
        · exact h'
        · rw [Array.getElem?_eq_none h'] at this; cases this
      rw [Array.getElem?_setIfInBounds]
      by_cases e : t = j
      · subst e; rw [if_pos rfl, if_pos hsz]; simp
      · rw [if_neg e, q2 j hj]; congr 2; simp; omega⟩ }

set_option maxHeartbeats 4000000 in
set_option maxRecDepth 100000 in
theorem reach_any (s : List Nd) (a : Option Addr) (c i : Nat) (w : World) (hs : Sch w a s) (hw : Within s) (htg : Tags s) (hi : i < s.length) (hn : s.length ≤ 40) :
    Calls Tryz.prog 96 #[.slice a s.length c, .int .i64 i] w fun e w' => RetE s i w e w' := by
  have HS : Hid (Sch w a s) := hs
  have HW : Hid (Within s) := hw
  have HTG : Hid (Tags s) := htg
  clear hs hw htg
  obtain ⟨i0, hi0, hz0, hz1, hz2⟩ := info_parts Tryz.infoInt
  go_enter Tryz.func96, Tryz.ntmps96
  go_wp2
  go_loopg [4, 5, 7] 41 (fun gk vend vbk va wr => ∃ V A S bk aa ca, va = .slice aa A.length ca ∧ (0 < A.length → ∃ g, aa = some ⟨g, 0, none⟩) ∧ vbk = .bool bk ∧ gk + V.length = 41 ∧ Re s i V A S bk ∧ ReW s w wr V A S va vend w.heap.size)
  case atStart =>
    refine ⟨[], [i], [], false, _, 1, rfl, fun _ => ⟨w.heap.size + 1, rfl⟩, rfl, rfl, Re.start s i, ?_⟩
    exact ⟨⟨rfl, .inr ⟨w.heap.size + 1, 1, _, rfl, by omega, by simpa using heap_alloc_new (w.alloc _) _, Nat.le_refl _, by decide, rfl, rfl⟩⟩, World.ownsRow_nil _ _ _ _, .inr (.inl rfl), ((Below.refl _ _).alloc (Nat.le_refl _) _).alloc (by simp) _, Nat.le_refl _, _, block_below (heap_alloc_new w _) ((Below.refl _ _).alloc (Nat.le_refl _) _), fun j hj => by
      match j, hj with
      | 0, _ | 1, _ | 2, _ | 3, _ | 4, _ | 5, _ | 6, _ | 7, _ | 8, _ | 9, _ | 10, _ | 11, _ | 12, _ | 13, _ | 14, _ | 15, _ | 16, _ | 17, _ | 18, _ | 19, _ | 20, _ | 21, _ | 22, _ | 23, _ | 24, _ | 25, _ | 26, _ | 27, _ | 28, _ | 29, _ | 30, _ | 31, _ | 32, _ | 33, _ | 34, _ | 35, _ | 36, _ | 37, _ | 38, _ | 39, _ => rfl
      | n + 40, h => exact absurd h (by omega)⟩
  case round =>
    obtain ⟨V, A, S, bk, aa, ca, rfl, haa, rfl, hgk, hL, hM⟩ := hrel
    have hlen := hL.len
    have HL : Hid (Re s i V A S bk) := hL
    have HM : Hid (ReW s w wr V A S (.slice aa A.length ca) u4 w.heap.size) := hM
    rcases List.eq_nil_or_concat A with rfl | ⟨A', x, hA⟩
    · clear hL hM
      go_wp2
      go_ret2
      exact ⟨u4, outs s V, bk, rfl, HM.out.out, HM.out.bel, Nat.le_trans (outs_le s V) (by simp at hlen; omega), HL.out.leaves, HL.out.backs⟩
    · have hA' : A = A' ++ [x] := by rw [hA]; simp
      subst hA'
      clear hA
      have hlm : (A' ++ [x]).length = A'.length + 1 := by simp
      obtain ⟨g, rfl⟩ := haa (by omega)
      have cx : wr.cell? ⟨g, A'.length, none⟩ = some (.int .i64 (x : Int)) := by
        have := own_cell (j := A'.length) hM.inn (by omega)
        rw [this]; congr 3; simp
      have HM' : Hid (ReW s w wr V A' S (.slice (some ⟨g, 0, none⟩) A'.length ca) u4 w.heap.size) := ⟨own_pop hM.inn, hM.out, hM.ap, hM.bel, hM.glo, hM.see⟩
      have hxs : x < s.length := (hL.rch x (by simp)).lt HW.out hi
      obtain ⟨b, o, ka, kc, rfl, nc, kl, km, ks⟩ := HS.out x hxs
      obtain ⟨n1, n2, n3, n4⟩ := nc.below hM.bel
      have KS : Hid (KidsIn w ka (nd s x).kids) := ks
      have hxs' : (x : Int) < s.length := by omega
      have hmc : A'.length + 1 ≤ ca ∧ ca ≤ maxLen := by
        rcases hM.inn.2 with ⟨q, _⟩ | ⟨g', cap, cur, hv, _, _, q1, q2, _⟩
        · cases q
        · injection hv with _ _ e; subst e; exact ⟨by omega, q2⟩
      have hm40 : A'.length ≤ 40 := by omega
      have hsz : w.heap.size < wr.heap.size := by
        obtain ⟨C, q1, _⟩ := hM.see
        rcases Nat.lt_or_ge w.heap.size wr.heap.size with h' | h'
        · exact h'
        · rw [Array.getElem?_eq_none h'] at q1; cases q1
      have HO : Hid (∀ wr, Calls Tryz.prog 139 #[.agg #[.int .i64 (nd s x).kind, .int .i64 (nd s x).tag, .int .i64 (nd s x).mode, .slice ka (nd s x).kids.length kc]] wr fun e w' => RetO (nd s x).opn wr e w') := fun wr => by
        have := isOpen_any (nd s x) ka kc wr
        refine this.mono fun e w' q => ?_
        obtain ⟨r, h1, h2, h3⟩ := q
        exact ⟨r, h1, h2.trans (opn_iff (HTG.out x hxs)), h3⟩
      have hV : V.length + A'.length ≤ s.length := by omega
      clear hL hM hlm ks nc haa
      go_wp2_with fail
      refine (HO.out _).mono ?_
      by_cases ho : (nd s x).opn
      · intro e w2 hq
        obtain ⟨rfl, hb2⟩ := hq.yes ho
        have HM2 : Hid (ReW s w w2 V A' S (.slice (some ⟨g, 0, none⟩) A'.length ca) u4 w.heap.size) := HM'.out.below hb2
        have HLM : Hid (ReM s i V x 0 A' S bk) := HL.out.mid
        have e4 : w2.cell? ⟨b, o + x * 4 + 3, none⟩ = some (.slice ka (nd s x).kids.length kc) := (hb2.cell (lt_of_cell n4)).trans n4
        have hkm : (nd s x).kids.length ≤ 9223372036854775807 := by unfold maxLen at km; omega
        clear hq hb2 cx n1 n2 n3 n4
        go_wp2
        go_loopw [5, 7, 43] (fun vbk va vj wx => ∃ A1 S1 bk1 aa1 ca1 j, va = .slice aa1 A1.length ca1 ∧ (0 < A1.length → ∃ g, aa1 = some ⟨g, 0, none⟩) ∧ vbk = .bool bk1 ∧ vj = .int .i64 (j : Nat) ∧ j ≤ (nd s x).kids.length ∧ ReM s i V x j A1 S1 bk1 ∧ ReW s w wx V A1 S1 (.slice aa1 A1.length ca1) u4 w.heap.size)
          (fun _ _ vj _ => (nd s x).kids.length - (intOf vj).toNat)
        case atStart => exact ⟨A', S, bk, _, ca, 0, rfl, fun _ => ⟨g, rfl⟩, rfl, rfl, Nat.zero_le _, HLM.out, HM2.out⟩
        case round =>
          clear HLM HM2 e4
          obtain ⟨A1, S1, bk1, aa1, ca1, j, rfl, haa1, rfl, rfl, hj, hLM, hM3⟩ := hrel
          have HAA : Hid (0 < A1.length → ∃ g, aa1 = some ⟨g, 0, none⟩) := haa1
          have HLM : Hid (ReM s i V x j A1 S1 bk1) := hLM
          have HM3 : Hid (ReW s w wr V A1 S1 (.slice aa1 A1.length ca1) u4 w.heap.size) := hM3
          have hlen1 := hLM.len
          have hszw : w.heap.size < wr.heap.size := by
            obtain ⟨C, q1, _⟩ := hM3.see
            rcases Nat.lt_or_ge w.heap.size wr.heap.size with h' | h'
            · exact h'
            · rw [Array.getElem?_eq_none h'] at q1; cases q1
          have cS : ∀ t, t < 40 → wr.cell? ⟨w.heap.size, t, none⟩ = some (.bool (decide (t ∈ S1))) := fun t ht => by
            obtain ⟨C, q1, q2⟩ := hM3.see
            simp only [World.cell?, q1]
            exact q2 t ht
          have fS : ∀ t, wr.frozen? ⟨w.heap.size, t, none⟩ = false := fun t => by
            obtain ⟨C, q1, q2⟩ := hM3.see
            simp [World.frozen?, q1]
          by_cases hjl : j < (nd s x).kids.length
          · obtain ⟨kb, ko, rfl, kcl⟩ := KS.out j hjl
            have hkr := HW.out x hxs ((nd s x).kids.getD j kd0) (by rw [List.getD_eq_getElem?_getD, List.getElem?_eq_getElem hjl]; exact List.getElem_mem hjl)
            obtain ⟨t, ht⟩ : ∃ t : Nat, ((nd s x).kids.getD j kd0).node = t := ⟨_, (Int.toNat_of_nonneg hkr.1).symm⟩
            obtain ⟨k1, k2, k3⟩ := kcl.below hM3.bel
            have HT : Hid (((nd s x).kids.getD j kd0).node = t) := ht
            rw [ht] at k1 hkr
            obtain ⟨bo, hbo⟩ : ∃ v, ((nd s x).kids.getD j kd0).opt = v := ⟨_, rfl⟩
            obtain ⟨bd, hbd⟩ : ∃ v, ((nd s x).kids.getD j kd0).dflt = v := ⟨_, rfl⟩
            rw [hbo] at k2
            rw [hbd] at k3
            have htl : t < s.length := by omega
            have ht40 : t < 40 := by omega
            have ht40' : (t : Int) < 40 := by omega
            have hjl' : (j : Int) < (nd s x).kids.length := by omega
            have ft := fS t
            have cs := cS t ht40
            obtain ⟨bk2, hbk2⟩ : ∃ b2, b2 = (bk1 || decide ((t : Int) = i)) := ⟨_, rfl⟩
            have HBK : Hid (bk2 = (bk1 || decide ((t : Int) = i))) := hbk2
            have hcs : (bk1 = true ∧ bk2 = true) ∨ (bk1 = false ∧ ((t : Int) == i) = bk2) := by
              cases bk1
              · right; exact ⟨rfl, by rw [hbk2, Bool.false_or, Bool.eq_iff_iff]; simp⟩
              · left; exact ⟨rfl, by rw [hbk2]; simp⟩
            clear hbk2 hLM hM3 kcl ht hkr hbo hbd fS cS haa1
            rcases hcs with ⟨rfl, rfl⟩ | ⟨rfl, hti⟩
            · by_cases hts : t ∈ S1
              · have HS1 : Hid (t ∈ S1) := hts
                rw [decide_eq_true hts] at cs
                clear hts
                have HLM' : Hid (ReM s i V x (j + 1) A1 S1 true) := HBK.out ▸ HLM.out.step_old HT.out HS1.out
                have HM4 : Hid (∀ o, ReW s w (wr.alloc o) V A1 S1 (.slice aa1 A1.length ca1) u4 w.heap.size) := fun o => HM3.out.below ((Below.refl _ _).alloc (Nat.le_refl _) o)
                go_wp2
                go_roundw
                case rel => exact ⟨A1, S1, true, aa1, ca1, j + 1, rfl, HAA.out, rfl, by go_num, by omega, HLM'.out, HM4.out _⟩
                case measure => simp [intOf]; omega
              · have HS1 : Hid (t ∉ S1) := hts
                rw [decide_eq_false hts] at cs
                clear hts
                have HLM' : Hid (ReM s i V x (j + 1) (A1 ++ [t]) (S1 ++ [t]) true) := HBK.out ▸ HLM.out.step_new HT.out hjl ho htl HS1.out
                have HM4 : Hid (∀ o, ReW s w ((wr.setCell ⟨w.heap.size, t, none⟩ (.bool true)).alloc o) V A1 (S1 ++ [t]) (.slice aa1 A1.length ca1) u4 w.heap.size) := fun o => (HM3.out.mark ht40).below ((Below.refl _ _).alloc (Nat.le_refl _) o)
                have hsz3 : w.heap.size ≤ wr.heap.size + 2 := by omega
                have NEWS : Hid (∀ (j : Nat) (u : Value), [Value.int .i64 (t : Int)][j]? = some u → (((wr.setCell ⟨w.heap.size, t, none⟩ (.bool true)).alloc (.cells #[.int .i64 (t : Int), .bool bo, .string bd] 55)).alloc (.cells #[.int .i64 (t : Int)] 3)).cell? ((⟨wr.heap.size + 1, 0, none⟩ : Addr).add j) = some u) := by
                  have q := cell_one_new ((wr.setCell ⟨w.heap.size, t, none⟩ (.bool true)).alloc (.cells #[.int .i64 (t : Int), .bool bo, .string bd] 55)) (.int .i64 (t : Int)) 3
                  rw [show ((wr.setCell ⟨w.heap.size, t, none⟩ (.bool true)).alloc (.cells #[.int .i64 (t : Int), .bool bo, .string bd] 55)).heap.size = wr.heap.size + 1 by simp] at q
                  exact q
                go_wp2_with (at_builtin; refine wpList_append_lies _ rfl (.tmp 62) (.tmp 65) 32 rfl w.heap.size 3 i0 (.int .i64 0) 1 8 Tryz.underlying32 hi0 hz0 hz1 hz2 rfl (by decide) (.slice aa1 A1.length ca1) A1.length (ivs A1) rfl ((HM4.out _).inn.alloc _) ⟨wr.heap.size + 1, 0, none⟩ 1 1 [.int .i64 (t : Int)] rfl rfl NEWS.out (by intro u hu; simp at hu; subst hu; rfl) (by decide) (by unfold maxLen; omega) (by omega) (by simpa using hsz3) (wr.heap.size + 2) (by simp) ?_)
                intro g' cap w3 h1 h2 h3 h4
                have HM5 : Hid (ReW s w w3 V (A1 ++ [t]) (S1 ++ [t]) (.slice (some ⟨g', 0, none⟩) (A1.length + 1) cap) u4 w.heap.size) := (HM4.out _).push h1 h2 (by simpa using h3)
                clear h1 h2 h3 h4
                go_wp2
                go_roundw
                case rel => exact ⟨A1 ++ [t], S1 ++ [t], true, _, cap, j + 1, by simp, fun _ => ⟨g', rfl⟩, rfl, by go_num, by omega, HLM'.out, by simpa using HM5.out⟩
                case measure => simp [intOf]; omega
            · by_cases hts : t ∈ S1
              · have HS1 : Hid (t ∈ S1) := hts
                rw [decide_eq_true hts] at cs
                clear hts
                have HLM' : Hid (ReM s i V x (j + 1) A1 S1 bk2) := HBK.out ▸ HLM.out.step_old HT.out HS1.out
                have HM4 : Hid (∀ o, ReW s w (wr.alloc o) V A1 S1 (.slice aa1 A1.length ca1) u4 w.heap.size) := fun o => HM3.out.below ((Below.refl _ _).alloc (Nat.le_refl _) o)
                go_wp2
                go_roundw
                case rel => exact ⟨A1, S1, bk2, aa1, ca1, j + 1, rfl, HAA.out, rfl, by go_num, by omega, HLM'.out, HM4.out _⟩
                case measure => simp [intOf]; omega
              · have HS1 : Hid (t ∉ S1) := hts
                rw [decide_eq_false hts] at cs
                clear hts
                have HLM' : Hid (ReM s i V x (j + 1) (A1 ++ [t]) (S1 ++ [t]) bk2) := HBK.out ▸ HLM.out.step_new HT.out hjl ho htl HS1.out
                have HM4 : Hid (∀ o, ReW s w ((wr.setCell ⟨w.heap.size, t, none⟩ (.bool true)).alloc o) V A1 (S1 ++ [t]) (.slice aa1 A1.length ca1) u4 w.heap.size) := fun o => (HM3.out.mark ht40).below ((Below.refl _ _).alloc (Nat.le_refl _) o)
                have hsz3 : w.heap.size ≤ wr.heap.size + 2 := by omega
                have NEWS : Hid (∀ (j : Nat) (u : Value), [Value.int .i64 (t : Int)][j]? = some u → (((wr.setCell ⟨w.heap.size, t, none⟩ (.bool true)).alloc (.cells #[.int .i64 (t : Int), .bool bo, .string bd] 55)).alloc (.cells #[.int .i64 (t : Int)] 3)).cell? ((⟨wr.heap.size + 1, 0, none⟩ : Addr).add j) = some u) := by
                  have q := cell_one_new ((wr.setCell ⟨w.heap.size, t, none⟩ (.bool true)).alloc (.cells #[.int .i64 (t : Int), .bool bo, .string bd] 55)) (.int .i64 (t : Int)) 3
                  rw [show ((wr.setCell ⟨w.heap.size, t, none⟩ (.bool true)).alloc (.cells #[.int .i64 (t : Int), .bool bo, .string bd] 55)).heap.size = wr.heap.size + 1 by simp] at q
                  exact q
                go_wp2_with (at_builtin; refine wpList_append_lies _ rfl (.tmp 62) (.tmp 65) 32 rfl w.heap.size 3 i0 (.int .i64 0) 1 8 Tryz.underlying32 hi0 hz0 hz1 hz2 rfl (by decide) (.slice aa1 A1.length ca1) A1.length (ivs A1) rfl ((HM4.out _).inn.alloc _) ⟨wr.heap.size + 1, 0, none⟩ 1 1 [.int .i64 (t : Int)] rfl rfl NEWS.out (by intro u hu; simp at hu; subst hu; rfl) (by decide) (by unfold maxLen; omega) (by omega) (by simpa using hsz3) (wr.heap.size + 2) (by simp) ?_)
                intro g' cap w3 h1 h2 h3 h4
                have HM5 : Hid (ReW s w w3 V (A1 ++ [t]) (S1 ++ [t]) (.slice (some ⟨g', 0, none⟩) (A1.length + 1) cap) u4 w.heap.size) := (HM4.out _).push h1 h2 (by simpa using h3)
                clear h1 h2 h3 h4
                go_wp2
                go_roundw
                case rel => exact ⟨A1 ++ [t], S1 ++ [t], bk2, _, cap, j + 1, by simp, fun _ => ⟨g', rfl⟩, rfl, by go_num, by omega, HLM'.out, by simpa using HM5.out⟩
                case measure => simp [intOf]; omega
          · have hjl' : ((nd s x).kids.length : Int) ≤ j := by omega
            obtain rfl : j = (nd s x).kids.length := by omega
            have HL' : Hid (Re s i (V ++ [x]) A1 S1 bk1) := hLM.finish ho
            have HM' : Hid (ReW s w wr (V ++ [x]) A1 S1 (.slice aa1 A1.length ca1) u4 w.heap.size) := ⟨hM3.inn, by rw [outs_open ho]; exact hM3.out, hM3.ap, hM3.bel, hM3.glo, hM3.see⟩
            clear hLM hM3 cS fS haa1
            go_wp2
            go_roundg (gk - 1)
            case rel => exact ⟨V ++ [x], A1, S1, bk1, aa1, ca1, rfl, HAA.out, rfl, by simp; omega, HL'.out, HM'.out⟩
            case measure => omega
      · intro e w2 hq
        obtain ⟨rfl, hb2⟩ := hq.no ho
        have HM2 : Hid (ReW s w w2 V A' S (.slice (some ⟨g, 0, none⟩) A'.length ca) u4 w.heap.size) := HM'.out.below hb2
        have hol : (outs s V).length ≤ 41 := by have := outs_le s V; omega
        have hsz2 : w.heap.size ≤ w2.heap.size + 1 := by have := HM2.out.bel.size; omega
        clear hq hb2 cx n1 n2 n3 n4
        go_wp2_with (at_builtin; refine wpList_append_lies _ rfl (.tmp 33) (.tmp 35) 32 rfl w.heap.size 3 i0 (.int .i64 0) 1 8 Tryz.underlying32 hi0 hz0 hz1 hz2 rfl (by decide) u4 (outs s V).length (ivs (outs s V)) rfl (HM2.out.out.alloc _) ⟨w2.heap.size, 0, none⟩ 1 1 [.int .i64 (x : Int)] rfl rfl (cell_one_new _ _ _) (by intro u hu; simp at hu; subst hu; rfl) (by decide) (by unfold maxLen; omega) (by omega) (by simpa using hsz2) (w2.heap.size + 1) (by simp) ?_)
        intro g' cap w3 h1 h2 h3 h4
        have HM3 : Hid (ReW s w w3 (V ++ [x]) A' S (.slice (some ⟨g, 0, none⟩) A'.length ca) (.slice (some ⟨g', 0, none⟩) ((outs s V).length + 1) cap) w.heap.size) := HM2.out.put ho h1 h2 h3
        clear h1 h2 h3 h4
        go_wp2
        go_roundg (gk - 1)
        case rel => exact ⟨V ++ [x], A', S, bk, _, ca, rfl, fun _ => ⟨g, rfl⟩, rfl, by simp; omega, HL.out.leaf ho, HM3.out⟩
        case measure => omega
end Go.Proofs.YtkkicodfpekbgaaGreatDoor

/-! element.FirstOf, schemas.Around, schemas.Own: what they answer. -/
namespace Go.Proofs.YtkkicodfpekbgaaGreatDoor
set_option linter.unusedSimpArgs false
set_option linter.unusedVariables false
open Go.RowKit

/-- What a head's first byte says, as Go's value. -/
def fv (c n : Int) (b : Bool) : Value := .agg #[.int .i64 c, .int .i64 n, .bool b]

set_option maxHeartbeats 1000000 in
set_option maxRecDepth 100000 in
theorem firstOf_any (c : Int) (b : Bool) (n z l : Int) (w : World) :
    Calls Tryz.prog 157 #[.agg #[.int .i64 c, .bool b, .int .i64 n, .int .i64 z, .int .i64 l]] w fun e w' => e = .returned (fv c n b) ∧ Below w.heap.size w w' := by
  unfold fv
  go_enter Tryz.func157, Tryz.ntmps157
  go_wp2
  refine bodyPost_ret (v := .agg #[.int .i64 c, .int .i64 n, .bool b]) (by simp [results, Tryz.results157, go_sem]) rfl ⟨rfl, ?_⟩
  exact ((Below.refl _ _).alloc (Nat.le_refl _) _).alloc (by simp) _

set_option maxHeartbeats 1000000 in
set_option maxRecDepth 100000 in
theorem around_no (n : Nd) (ka : Option Addr) (kc : Nat) (w : World) (hm : n.mode ≠ 1) :
    Calls Tryz.prog 110 #[.agg #[.int .i64 n.kind, .int .i64 n.tag, .int .i64 n.mode, .slice ka n.kids.length kc]] w fun e w' => e = .returned (.tuple #[fv 0 0 false, .bool false]) ∧ Below w.heap.size w w' := by
  have e : (n.mode != 1) = true := by simp [hm]
  unfold fv
  clear hm
  go_enter Tryz.func110, Tryz.ntmps110
  go_wp2
  refine bodyPost_ret (v := .tuple #[.agg #[.int .i64 0, .int .i64 0, .bool false], .bool false]) (by simp [results, Tryz.results110, go_sem]) rfl ⟨rfl, ?_⟩
  exact ((Below.refl _ _).alloc (Nat.le_refl _) _).alloc (by simp) _

theorem setCell3 {B : Nat} {w w1 : World} (h : Below B w w1) (b : Nat) (hb : B ≤ b) (v0 v1 v2 : Value) : Below B w (((w1.setCell ⟨b, 0, none⟩ v0).setCell ⟨b, 1, none⟩ v1).setCell ⟨b, 2, none⟩ v2) :=
  ((h.setCell (p := ⟨b, 0, none⟩) hb v0).setCell (p := ⟨b, 1, none⟩) hb v1).setCell (p := ⟨b, 2, none⟩) hb v2

set_option maxHeartbeats 1000000 in
set_option maxRecDepth 100000 in
theorem around_yes (n : Nd) (ka : Option Addr) (kc : Nat) (w : World) (hm : n.mode = 1) (hn : Nums w) (ht : 0 ≤ n.tag) (hk : 0 ≤ n.kind) :
    Calls Tryz.prog 110 #[.agg #[.int .i64 n.kind, .int .i64 n.tag, .int .i64 n.mode, .slice ka n.kids.length kc]] w fun e w' => e = .returned (.tuple #[fv 2 n.tag true, .bool true]) ∧ Below w.heap.size w w' := by
  have e : (n.mode != 1) = false := by simp [hm]
  have HC : Hid (∀ w', Nums w' → Calls Tryz.prog 140 #[.agg #[.int .i64 n.kind, .int .i64 n.tag, .int .i64 n.mode, .slice ka n.kids.length kc]] w' fun e w'' => e = .returned (.agg #[.int .i64 2, .int .i64 n.tag]) ∧ Below w'.heap.size w' w'') := fun w' q => by
    have := outerTag_any n ka kc w' q (by omega) hk (fun h => by omega)
    unfold Nd.outer at this
    rw [if_pos ht] at this
    exact this
  have HN : Hid (∀ o1 o2, Nums ((w.alloc o1).alloc o2)) := fun o1 o2 => hn.below (((Below.refl _ _).alloc (Nat.le_refl _) _).alloc (by simp) _)
  unfold fv
  clear hm hn
  go_enter Tryz.func110, Tryz.ntmps110
  go_wp2_with fail
  refine (HC.out _ (HN.out _ _)).mono ?_
  rintro e w1 ⟨rfl, hb⟩
  have HB : Hid (Below w.heap.size w w1) := below_alloc (below_alloc hb)
  have hG : w1.heap[w.heap.size + 1]? = some (.cells #[.int .i64 0, .int .i64 0, .bool false] 149 (0, 0)) := block_below (by simpa using heap_alloc_new (w.alloc _) _) hb
  have q0 : w1.cell? ⟨w.heap.size + 1, 0, none⟩ = some (.int .i64 0) := by simp [World.cell?, hG]
  have q1 : w1.cell? ⟨w.heap.size + 1, 1, none⟩ = some (.int .i64 0) := by simp [World.cell?, hG]
  have q2 : w1.cell? ⟨w.heap.size + 1, 2, none⟩ = some (.bool false) := by simp [World.cell?, hG]
  have f0 : w1.frozen? ⟨w.heap.size + 1, 0, none⟩ = false := by simp [World.frozen?, hG]
  have f1 : w1.frozen? ⟨w.heap.size + 1, 1, none⟩ = false := by simp [World.frozen?, hG]
  have f2 : w1.frozen? ⟨w.heap.size + 1, 2, none⟩ = false := by simp [World.frozen?, hG]
  clear hb hG
  go_wp2
  refine bodyPost_ret (v := .tuple #[.agg #[.int .i64 2, .int .i64 n.tag, .bool true], .bool true]) (by simp [results, Tryz.results110, go_sem, q0, q1, q2]) rfl ⟨rfl, ?_⟩
  exact setCell3 HB.out _ (by simp) _ _ _
/-- The own tag of a node, as class and number. -/
def Nd.ownT (n : Nd) : Int × Int := if n.mode = 0 ∧ 0 ≤ n.tag then (2, n.tag) else (0, own n.kind)

set_option maxHeartbeats 2000000 in
set_option maxRecDepth 100000 in
theorem own_first (n : Nd) (ka : Option Addr) (kc : Nat) (w : World) (hn : Nums w) (ht : -1 ≤ n.tag) (hk : 0 ≤ n.kind) (hk' : n.kind ≤ 9) :
    Calls Tryz.prog 152 #[.agg #[.int .i64 n.kind, .int .i64 n.tag, .int .i64 n.mode, .slice ka n.kids.length kc]] w fun e w' => e = .returned (fv n.ownT.1 n.ownT.2 false) ∧ Below w.heap.size w w' := by
  have HC : Hid (∀ w', Nums w' → Calls Tryz.prog 140 #[.agg #[.int .i64 n.kind, .int .i64 n.tag, .int .i64 n.mode, .slice ka n.kids.length kc]] w' fun e w'' => e = .returned (.agg #[.int .i64 n.outer.1, .int .i64 n.outer.2]) ∧ Below w'.heap.size w' w'') := fun w' q => outerTag_any n ka kc w' q ht hk (fun h => by omega)
  have HW : Hid (∀ w', Nums w' → Calls Tryz.prog 179 #[.int .i64 n.kind] w' fun e w'' => e = .returned (.agg #[.int .i64 0, .int .i64 (own n.kind)]) ∧ Below w'.heap.size w' w'') := fun w' q => ownTag_any n.kind hk (by omega) w' q
  have HN : Hid (∀ wq, Below w.heap.size w wq → Nums wq) := fun wq q => hn.below q
  have hk10 : n.kind < 10 := by omega
  have hd10 : decide (10 ≤ n.kind) = false := by simp; omega
  obtain ⟨T1, T2, hT⟩ : ∃ T1 T2, n.ownT = (T1, T2) := ⟨_, _, rfl⟩
  have HT : Hid (n.ownT = (T1, T2)) := hT
  rw [hT]
  unfold fv
  clear hn hT
  go_enter Tryz.func152, Tryz.ntmps152
  go_wp2_with fail
  refine (HW.out _ (HN.out _ (((Below.refl _ _).alloc (Nat.le_refl _) _).alloc (by simp) _))).mono ?_
  rintro e w1 ⟨rfl, hb⟩
  have HB : Hid (Below w.heap.size w w1) := below_alloc (below_alloc hb)
  have HG : Hid (w1.heap[w.heap.size + 1]? = some (.cells #[.int .i64 0, .int .i64 0, .bool false] 149 (0, 0))) := block_below (by simpa using heap_alloc_new (w.alloc _) _) hb
  have HG0 : Hid (w1.heap[w.heap.size]? = some (.cells #[.int .i64 n.kind, .int .i64 n.tag, .int .i64 n.mode, .slice ka n.kids.length kc] 58 (0, 0))) := block_below (block_below (heap_alloc_new w _) ((Below.refl _ _).alloc (Nat.le_refl _) _)) hb
  have hs1 : w.heap.size + 1 < w1.heap.size := by have := hb.size; simp at this; omega
  have hs0 : w.heap.size < w1.heap.size := by omega
  have p0 : w1.cell? ⟨w.heap.size, 0, none⟩ = some (.int .i64 n.kind) := by simp [World.cell?, HG0.out]
  have p1 : w1.cell? ⟨w.heap.size, 1, none⟩ = some (.int .i64 n.tag) := by simp [World.cell?, HG0.out]
  have p2 : w1.cell? ⟨w.heap.size, 2, none⟩ = some (.int .i64 n.mode) := by simp [World.cell?, HG0.out]
  have p3 : w1.cell? ⟨w.heap.size, 3, none⟩ = some (.slice ka n.kids.length kc) := by simp [World.cell?, HG0.out]
  have q0 : w1.cell? ⟨w.heap.size + 1, 0, none⟩ = some (.int .i64 0) := by simp [World.cell?, HG.out]
  have q1 : w1.cell? ⟨w.heap.size + 1, 1, none⟩ = some (.int .i64 0) := by simp [World.cell?, HG.out]
  have q2 : w1.cell? ⟨w.heap.size + 1, 2, none⟩ = some (.bool false) := by simp [World.cell?, HG.out]
  have f0 : w1.frozen? ⟨w.heap.size + 1, 0, none⟩ = false := by simp [World.frozen?, HG.out]
  have f1 : w1.frozen? ⟨w.heap.size + 1, 1, none⟩ = false := by simp [World.frozen?, HG.out]
  have f2 : w1.frozen? ⟨w.heap.size + 1, 2, none⟩ = false := by simp [World.frozen?, HG.out]
  clear hb
  by_cases hm : n.mode = 0
  · have e0 : (n.mode == 0) = true := by simp [hm]
    have HE : Hid (n.ownT = n.outer) := by
      show n.ownT = n.outer
      unfold Nd.ownT Nd.outer
      by_cases q : 0 ≤ n.tag
      · rw [if_pos ⟨hm, q⟩, if_pos q]
      · rw [if_neg (fun r => q r.2), if_neg q]
    obtain ⟨rfl, rfl⟩ : T1 = n.outer.1 ∧ T2 = n.outer.2 := by rw [← HE.out, HT.out]; exact ⟨rfl, rfl⟩
    clear hm
    go_wp2_with fail
    refine (HC.out _ (HN.out _ (HB.out.alloc HB.out.size _))).mono ?_
    rintro e w2 ⟨rfl, hb2⟩
    have HB2 : Hid (Below w.heap.size w w2) := HB.out.trans ((below_alloc hb2).mono HB.out.size)
    have hA : w2.heap[w1.heap.size]? = some (.cells #[.int .i64 0, .int .i64 (own n.kind)] 147 (0, 0)) := block_below (heap_alloc_new w1 _) hb2
    have hG2 := block_below HG.out (below_alloc hb2)
    have hG02 := block_below HG0.out (below_alloc hb2)
    have hs2 : w1.heap.size < w2.heap.size := by have := hb2.size; simp at this; omega
    have t0 : w2.cell? ⟨w1.heap.size, 0, none⟩ = some (.int .i64 0) := by simp [World.cell?, hA]
    have t1 : w2.cell? ⟨w1.heap.size, 1, none⟩ = some (.int .i64 (own n.kind)) := by simp [World.cell?, hA]
    have t2 : w2.frozen? ⟨w1.heap.size, 0, none⟩ = false := by simp [World.frozen?, hA]
    have t3 : w2.frozen? ⟨w1.heap.size, 1, none⟩ = false := by simp [World.frozen?, hA]
    have r0 : w2.cell? ⟨w.heap.size + 1, 0, none⟩ = some (.int .i64 0) := by simp [World.cell?, hG2]
    have r1 : w2.cell? ⟨w.heap.size + 1, 1, none⟩ = some (.int .i64 0) := by simp [World.cell?, hG2]
    have r2 : w2.cell? ⟨w.heap.size + 1, 2, none⟩ = some (.bool false) := by simp [World.cell?, hG2]
    have g0 : w2.frozen? ⟨w.heap.size + 1, 0, none⟩ = false := by simp [World.frozen?, hG2]
    have g1 : w2.frozen? ⟨w.heap.size + 1, 1, none⟩ = false := by simp [World.frozen?, hG2]
    have g2 : w2.frozen? ⟨w.heap.size + 1, 2, none⟩ = false := by simp [World.frozen?, hG2]
    have d0 : w2.cell? ⟨w.heap.size, 0, none⟩ = some (.int .i64 n.kind) := by simp [World.cell?, hG02]
    have hne1 : ¬ w1.heap.size = w.heap.size + 1 := by omega
    have hne0 : ¬ w1.heap.size = w.heap.size := by omega
    have hne2 : ¬ w.heap.size + 1 = w1.heap.size := by omega
    have hne3 : ¬ w.heap.size = w1.heap.size := by omega
    clear hb2 hA hG2 hG02 p0 p1 p2 p3 q0 q1 q2 f0 f1 f2
    go_wp2
    refine bodyPost_ret (v := .agg #[.int .i64 n.outer.1, .int .i64 n.outer.2, .bool false]) (by simp [results, Tryz.results152, go_sem, r0, r1, r2, t0, t1, hne1, hne2, hd10]) rfl ⟨rfl, ?_⟩
    exact setCell3 ((HB2.out.setCell (p := ⟨w1.heap.size, 0, none⟩) (by exact Nat.le_of_lt hs0) _).setCell (p := ⟨w1.heap.size, 1, none⟩) (by exact Nat.le_of_lt hs0) _) _ (by simp) _ _ _
  · have e0 : (n.mode == 0) = false := by simp [hm]
    have HE : Hid (n.ownT = (0, own n.kind)) := by
      show n.ownT = (0, own n.kind)
      unfold Nd.ownT
      rw [if_neg (fun r => hm r.1)]
    obtain ⟨rfl, rfl⟩ : T1 = 0 ∧ T2 = own n.kind := by have := HE.out; rw [HT.out] at this; injection this with a b; exact ⟨a, b⟩
    clear hm
    go_wp2
    refine bodyPost_ret (v := .agg #[.int .i64 0, .int .i64 (own n.kind), .bool false]) (by simp [results, Tryz.results152, go_sem, q0, q1, q2, hs1, hd10]) rfl ⟨rfl, ?_⟩
    first
      | exact (setCell3 HB.out _ (by simp) _ _ _).alloc (setCell3 HB.out _ (by simp) _ _ _).size _
      | exact setCell3 (HB.out.alloc HB.out.size _) _ (by simp) _ _ _
end Go.Proofs.YtkkicodfpekbgaaGreatDoor
