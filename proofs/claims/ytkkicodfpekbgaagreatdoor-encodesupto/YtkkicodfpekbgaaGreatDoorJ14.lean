/-
  Several texts in one:
  The document's reader: node, of the kinds 1 to 9.
  hallmarkref.Read, of a root of the kinds 1 to 9.
  hallmarkref.Right: what it answers.
  The document's writer: element; the writer in memory; choice.
  The document's writer: choice.
  The document's writer: many.
-/
import Derived.Test.YtkkicodfpekbgaaGreatDoorJ6
import Derived.Test.YtkkicodfpekbgaaGreatDoorJRwc
import Derived.Test.YtkkicodfpekbgaaGreatDoorJ3
import Derived.Test.YtkkicodfpekbgaaGreatDoorJ12
import Derived.Test.YtkkicodfpekbgaaGreatDoorJ4
import Derived.Test.YtkkicodfpekbgaaGreatDoorJ10
import Derived.Test.YtkkicodfpekbgaaGreatDoorJ11
/-! The document's reader: node, of the kinds 1 to 9. -/
namespace Go.Proofs.YtkkicodfpekbgaaGreatDoor
set_option linter.unusedSimpArgs false
set_option linter.unusedVariables false
open Go.RowKit

theorem node_leaf (s : List Nd) (W w : World) (R : Nat) (a : Option Addr) (c : Nat) (data : ByteArray) (tree : List Vl) (p : Int) (i x y : Nat) (dp : Int)
    (h : RdI W w R a s.length c data tree 0 p) (hs : Sch W a s) (hi : i < s.length) (hk1 : 1 ≤ (nd s i).kind) (hk9 : (nd s i).kind ≤ 9) (hmo : 0 ≤ (nd s i).tag → (nd s i).mode = 0 ∨ (nd s i).mode = 1)
    (hxy : x ≤ y) (hy : y ≤ data.size) (hm : data.size ≤ 140737488355328) (ht : tree.length ≤ 1099511627776) :
    Calls Tryz.prog 69 #[.pointer (some ⟨R, 0, none⟩), .int .i64 i, .int .i64 x, .int .i64 y, .int .i64 dp] w
      fun e w' => RetN W R a s.length c data (nd s i) x y dp tree e w' := by
  by_cases htg : (nd s i).tag < 0
  · exact node_leafA s W w R a c data tree p i x y dp h hs hi hk1 hk9 htg hxy hy hm ht
  · have htg' : 0 ≤ (nd s i).tag := by omega
    rcases hmo htg' with hm0 | hm0
    · exact node_leafB s W w R a c data tree p i x y dp h hs hi hk1 hk9 htg' hm0 hxy hy hm ht
    · exact node_leafC s W w R a c data tree p i x y dp h hs hi hk1 hk9 htg' hm0 hxy hy hm ht
end Go.Proofs.YtkkicodfpekbgaaGreatDoor

/-! hallmarkref.Read, of a root of the kinds 1 to 9. -/
namespace Go.Proofs.YtkkicodfpekbgaaGreatDoor
set_option linter.unusedSimpArgs false
set_option linter.unusedVariables false
open Go.RowKit

/-- What Read answers. -/
def RetRd (N : Nd) (t : ByteArray) (w : World) (e : Ending) (w' : World) : Prop :=
  ∃ (v : Value) (p c : Int), e = .returned (.tuple #[v, .int .i64 p, .int .i64 c]) ∧ Below w.heap.size w w' ∧
    ((c = 0 ∧ p = 0 ∧ ∃ u, ElemOk N t u ∧ w'.ownsRow w.heap.size 60 4 v 1 (vcells [⟨N.kind, u, 0, 0⟩])) ∨ (c ≠ 0 ∧ v = .slice none 0 0 ∧ ∀ u, ¬ ElemOk N t u))

set_option maxHeartbeats 2000000 in
set_option maxRecDepth 100000 in
theorem read_leaf (s : List Nd) (a : Option Addr) (c i : Nat) (t : ByteArray) (w : World) (hs : Sch w a s) (hi : i < s.length) (hk1 : 1 ≤ (nd s i).kind) (hk9 : (nd s i).kind ≤ 9) (hmo : 0 ≤ (nd s i).tag → (nd s i).mode = 0 ∨ (nd s i).mode = 1) (hm : t.size ≤ 140737488355328) :
    Calls Tryz.prog 39 #[.slice a s.length c, .int .i64 i, .string t] w fun e w' => RetRd (nd s i) t w e w' := by
  have HI : Hid (RdI w (w.alloc (rdObj a s.length c t (.slice none 0 0) 0 0)) w.heap.size a s.length c t [] 0 0) := ⟨(Below.refl _ _).alloc (Nat.le_refl _) _, Nat.le_refl _, _, heap_alloc_new w _, World.ownsRow_nil _ _ _ _⟩
  have HN : Hid (Calls Tryz.prog 69 #[.pointer (some ⟨w.heap.size, 0, none⟩), .int .i64 i, .int .i64 0, .int .i64 t.size, .int .i64 1] (w.alloc (rdObj a s.length c t (.slice none 0 0) 0 0)) fun e w' => RetN w w.heap.size a s.length c t (nd s i) 0 t.size 1 [] e w') :=
    node_leaf s w _ w.heap.size a c t [] 0 i 0 t.size 1 HI.out hs hi hk1 hk9 hmo (Nat.zero_le _) (Nat.le_refl _) hm (by simp)
  clear hs hmo
  generalize nd s i = N at *
  unfold rdObj at HN
  go_enter Tryz.func39, Tryz.ntmps39
  go_wp2_with fail
  refine HN.out.mono ?_
  rintro e w1 ⟨v, tree', e', p', rfl, hI1, hD⟩
  have HI1 : Hid (RdI w w1 w.heap.size a s.length c t tree' e' p') := hI1
  have HD : Hid ((e' = 0 ∧ ∃ tq u, v = ((tq : Nat) : Int) ∧ NodeAt N t 0 t.size 1 tq u ∧ tree' = [] ++ [⟨N.kind, u, 0, 0⟩]) ∨ (e' ≠ 0 ∧ ∀ tq u, ¬ NodeAt N t 0 t.size 1 tq u)) := hD
  obtain ⟨_, _, vt, hr, ho⟩ := hI1
  have HO : Hid (w1.ownsRow w.heap.size 60 4 vt tree'.length (vcells tree')) := ho
  unfold rdObj at hr
  have c2 : w1.cell? ⟨w.heap.size, 2, none⟩ = some vt := by simp [World.cell?, hr]
  have c3 : w1.cell? ⟨w.heap.size, 3, none⟩ = some (.int .i64 e') := by simp [World.cell?, hr]
  have c4 : w1.cell? ⟨w.heap.size, 4, none⟩ = some (.int .i64 p') := by simp [World.cell?, hr]
  clear hr ho HN HI
  rcases hD with ⟨rfl, tq, u, rfl, hAt, htr⟩ | ⟨he, hno⟩
  · have hto : tq ≤ t.size := by
      obtain ⟨_, h1, h2, _⟩ := hAt
      have := hd_ok h1
      rw [show (t.extract 0 t.size).size = t.size by simp] at this
      omega
    have HAT : Hid (NodeAt N t 0 t.size 1 tq u) := hAt
    have HTR : Hid (tree' = [⟨N.kind, u, 0, 0⟩]) := htr
    clear hAt htr HD
    by_cases hlt : tq < t.size
    · have hlt' : (tq : Int) < t.size := by omega
      go_wp2_with fail
      refine (stop_first w _ w.heap.size a s.length c t tree' p' 7 tq HI1.out).mono ?_
      rintro e w2 ⟨rfl, hI2, _⟩
      have HI2 : Hid (RdI w w2 w.heap.size a s.length c t tree' 7 tq) := hI2
      obtain ⟨_, _, vt2, hr2, _⟩ := hI2
      unfold rdObj at hr2
      have d3 : w2.cell? ⟨w.heap.size, 3, none⟩ = some (.int .i64 7) := by simp [World.cell?, hr2]
      have d4 : w2.cell? ⟨w.heap.size, 4, none⟩ = some (.int .i64 tq) := by simp [World.cell?, hr2]
      clear hr2 c2 c3 c4
      go_wp2
      go_quiet (fail)
      go_wp2
      refine bodyPost_ret (v := .tuple #[.slice none 0 0, .int .i64 tq, .int .i64 7]) (by simp [results, Tryz.results39, go_sem]) rfl ⟨_, tq, 7, rfl, below_drewN HI2.out.bel _, .inr ⟨by decide, rfl, fun u' q => ?_⟩⟩
      have q1 := q.2.2.1
      have q2 := HAT.out.2.2.1
      omega
    · have hlt' : (t.size : Int) ≤ tq := by omega
      obtain rfl : tq = t.size := by omega
      obtain ⟨ta, tc, rfl, _⟩ : ∃ ta tc, vt = .slice ta tree'.length tc ∧ True := by
        rcases HO.out.2 with ⟨q, q'⟩ | ⟨g, cap, cur, q, _⟩
        · exact ⟨none, 0, by rw [q, q'], trivial⟩
        · exact ⟨_, cap, q, trivial⟩
      go_wp2
      refine bodyPost_ret (v := .tuple #[.slice ta tree'.length tc, .int .i64 0, .int .i64 0]) (by simp [results, Tryz.results39, go_sem]) rfl ⟨_, 0, 0, rfl, HI1.out.bel, .inl ⟨rfl, rfl, u, HAT.out, ?_⟩⟩
      have := HO.out
      rw [HTR.out] at this ⊢
      exact this
  · have HE : Hid (e' ≠ 0) := he
    have HNO : Hid (∀ tq u, ¬ NodeAt N t 0 t.size 1 tq u) := hno
    have he1 : (e' == 0) = false := by simp [he]
    have he2 : (e' != 0) = true := by simp [he]
    clear he hno HD
    go_wp2
    go_quiet (fail)
    go_wp2
    refine bodyPost_ret (v := .tuple #[.slice none 0 0, .int .i64 p', .int .i64 e']) (by simp [results, Tryz.results39, go_sem]) rfl ⟨_, p', e', rfl, below_drewN HI1.out.bel _, .inr ⟨HE.out, rfl, fun u' q => HNO.out _ _ q⟩⟩
end Go.Proofs.YtkkicodfpekbgaaGreatDoor

/-! hallmarkref.Right: what it answers. -/
namespace Go.Proofs.YtkkicodfpekbgaaGreatDoor
set_option linter.unusedSimpArgs false
set_option linter.unusedVariables false
open Go.RowKit

set_option maxHeartbeats 8000000 in
set_option maxRecDepth 100000 in
theorem right_any (s : List Nd) (a : Option Addr) (c : Nat) (w : World) (hs : Sch w a s) (hok : SchOk s) (hn0 : s.length ≤ 140737488351232) :
    Calls Tryz.prog 15 #[.slice a s.length c] w fun e w' => RetO (RightP s) w e w' := by
  have HS : Hid (Sch w a s) := hs
  have HOK : Hid (SchOk s) := hok
  by_cases hb : s.length < 1
  · have hb' : (s.length : Int) < 1 := by omega
    have HX : Hid (¬ RightP s) := fun h => by have := h.1; omega
    clear hs hok
    go_enter Tryz.func15, Tryz.ntmps15
    go_wp2
    go_ret
    exact reto_no HX.out (Below.refl _ _)
  by_cases hb2 : 40 < s.length
  · have hb' : (40 : Int) < s.length := by omega
    have hb1' : (1 : Int) ≤ s.length := by omega
    have HX : Hid (¬ RightP s) := fun h => by have := h.2.1; omega
    clear hs hok hb
    go_enter Tryz.func15, Tryz.ntmps15
    go_wp2
    go_ret
    exact reto_no HX.out (Below.refl _ _)
  have h1 : 1 ≤ s.length := by omega
  have h40 : s.length ≤ 40 := by omega
  have h1' : (1 : Int) ≤ s.length := by omega
  have h40' : (s.length : Int) ≤ 40 := by omega
  clear hb hb2 hs hok hn0
  go_enter Tryz.func15, Tryz.ntmps15
  go_wp2
  go_loopw [3] (fun vi wr => ∃ i : Nat, i ≤ s.length ∧ vi = .int .i64 i ∧ (∀ j, j < i → Alone s.length (nd s j)) ∧ Below w.heap.size w wr) (fun vi _ => s.length - (intOf vi).toNat)
  case atStart => exact ⟨0, Nat.zero_le _, rfl, fun _ h => absurd h (Nat.not_lt_zero _), Below.refl _ _⟩
  case round =>
    obtain ⟨i, hi, rfl, hall, hbr⟩ := hrel
    have HA : Hid (∀ j, j < i → Alone s.length (nd s j)) := hall
    have HB : Hid (Below w.heap.size w wr) := hbr
    clear hall hbr
    by_cases hlt : i < s.length
    · have hlt' : (i : Int) < s.length := by omega
      obtain ⟨b, o, ka, kc, rfl, nc, kl, km, ks⟩ := (HS.out.below HB.out) i hlt
      obtain ⟨n1, n2, n3, n4⟩ := nc
      have HC : Hid (Calls Tryz.prog 36 #[.slice (some ⟨b, o, none⟩) s.length c, .agg #[.int .i64 (nd s i).kind, .int .i64 (nd s i).tag, .int .i64 (nd s i).mode, .slice ka (nd s i).kids.length kc]] wr fun e w' => RetO (Alone s.length (nd s i)) wr e w') := alone_any s _ c (nd s i) ka kc wr h40 ks (by omega)
      clear ks
      go_wp2_with fail
      refine HC.out.mono ?_
      rintro e w1 ⟨r, rfl, hr, hb1⟩
      have HR : Hid (r = true ↔ Alone s.length (nd s i)) := hr
      have HB1 : Hid (Below w.heap.size w w1) := HB.out.trans (hb1.mono HB.out.size)
      clear hr hb1 n1 n2 n3 n4 HC
      cases r
      · go_wp2
        go_ret
        exact reto_no (fun h => Bool.noConfusion (HR.out.2 (h.2.2.1 i hlt))) HB1.out
      · go_wp2
        go_roundw
        case rel => exact ⟨i + 1, by omega, by go_num, fun j hj => by
          by_cases e : j = i
          · subst e; exact HR.out.1 trivial
          · exact HA.out j (by omega), HB1.out⟩
        case measure => simp [intOf]; omega
    · have hlt' : (s.length : Int) ≤ i := by omega
      obtain rfl : i = s.length := by omega
      go_wp2
      go_loopw [5] (fun vi wr => ∃ i : Nat, i ≤ s.length ∧ vi = .int .i64 i ∧ (∀ j, j < i → ¬ Back s j) ∧ Below w.heap.size w wr) (fun vi _ => s.length - (intOf vi).toNat)
      case atStart => exact ⟨0, Nat.zero_le _, rfl, fun _ h => absurd h (Nat.not_lt_zero _), HB.out⟩
      case round =>
        obtain ⟨i, hi, rfl, hall, hbr⟩ := hrel
        have HBK : Hid (∀ j, j < i → ¬ Back s j) := hall
        have HB2 : Hid (Below w.heap.size w wr) := hbr
        clear hall hbr
        by_cases hlt : i < s.length
        · have hlt' : (i : Int) < s.length := by omega
          have HC : Hid (Calls Tryz.prog 37 #[.slice a s.length c, .int .i64 i] wr fun e w' => RetL s i wr e w') := leaves_any s a c i wr (HS.out.below HB2.out) (within_of HA.out) hlt h40
          go_wp2_with fail
          refine HC.out.mono ?_
          rintro e w1 ⟨v, l, bk, rfl, hown, hb1, _, _, hbk⟩
          have HR : Hid (bk = true ↔ Back s i) := hbk
          have HB3 : Hid (Below w.heap.size w w1) := HB2.out.trans (hb1.mono HB2.out.size)
          clear hown hb1 hbk HC
          cases bk
          · go_wp2
            go_roundw
            case rel => exact ⟨i + 1, by omega, by go_num, fun j hj => by
              by_cases e : j = i
              · subst e; exact fun q => Bool.noConfusion (HR.out.2 q)
              · exact HBK.out j (by omega), HB3.out⟩
            case measure => simp [intOf]; omega
          · go_wp2
            go_ret
            exact reto_no (fun h => h.2.2.2.1 i hlt (HR.out.1 trivial)) HB3.out
        · have hlt' : (s.length : Int) ≤ i := by omega
          obtain rfl : i = s.length := by omega
          go_wp2
          go_loopw [8] (fun vi wr => ∃ i : Nat, i ≤ s.length ∧ vi = .int .i64 i ∧ (∀ j, j < i → ((nd s j).kind = 10 ∨ (nd s j).kind = 13 → Told (Common s) (nd s j)) ∧ DfltOk s (nd s j) (nd s j).kids.length) ∧ Below w.heap.size w wr) (fun vi _ => s.length - (intOf vi).toNat)
          case atStart => exact ⟨0, Nat.zero_le _, rfl, fun _ h => absurd h (Nat.not_lt_zero _), HB2.out⟩
          case round =>
            obtain ⟨i, hi, rfl, hall, hbr⟩ := hrel
            have HL : Hid (∀ j, j < i → ((nd s j).kind = 10 ∨ (nd s j).kind = 13 → Told (Common s) (nd s j)) ∧ DfltOk s (nd s j) (nd s j).kids.length) := hall
            have HB3 : Hid (Below w.heap.size w wr) := hbr
            clear hall hbr
            by_cases hlt : i < s.length
            · have hlt' : (i : Int) < s.length := by omega
              obtain ⟨b, o, ka, kc, rfl, nc, kl, km, ks⟩ := HS.out i hlt
              obtain ⟨n1, n2, n3, n4⟩ := nc.below HB3.out
              have KS : Hid (KidsIn w ka (nd s i).kids) := ks
              have h8 := count8 HA.out hlt
              obtain ⟨Bn, hBn⟩ : ∃ Bn, Bn = wr.heap.size := ⟨_, rfl⟩
              have HBN : Hid (Bn = wr.heap.size) := hBn
              have HB4' : Hid (Below w.heap.size w (wr.alloc (.cells #[.int .i64 (nd s i).kind, .int .i64 (nd s i).tag, .int .i64 (nd s i).mode, .slice ka (nd s i).kids.length kc] 58))) := HB3.out.alloc HB3.out.size _
              have W3' : (wr.alloc (.cells #[.int .i64 (nd s i).kind, .int .i64 (nd s i).tag, .int .i64 (nd s i).mode, .slice ka (nd s i).kids.length kc] 58)).cell? ⟨Bn, 3, none⟩ = some (.slice ka (nd s i).kids.length kc) := by rw [hBn]; simp
              clear ks nc hBn
              by_cases hk : (nd s i).kind = 10 ∨ (nd s i).kind = 13
              · have hkb : ((nd s i).kind == 10) = true ∨ (((nd s i).kind == 10) = false ∧ ((nd s i).kind == 13) = true) := by
                  rcases hk with hk | hk
                  · left; simp [hk]
                  · right; simp [hk]
                have HTD : Hid (Calls Tryz.prog 38 #[.slice (some ⟨b, o, none⟩) s.length c, .agg #[.int .i64 (nd s i).kind, .int .i64 (nd s i).tag, .int .i64 (nd s i).mode, .slice ka (nd s i).kids.length kc]] (wr.alloc (.cells #[.int .i64 (nd s i).kind, .int .i64 (nd s i).tag, .int .i64 (nd s i).mode, .slice ka (nd s i).kids.length kc] 58)) fun e w' => RetO (Told (Common s) (nd s i)) (wr.alloc (.cells #[.int .i64 (nd s i).kind, .int .i64 (nd s i).tag, .int .i64 (nd s i).mode, .slice ka (nd s i).kids.length kc] 58)) e w') :=
                  told_any s _ c i ka kc _ (HS.out.below HB4'.out) (within_of HA.out) (kinds_of HA.out) hlt h40 (KS.out.below HB4'.out) h8
                have HK : Hid ((nd s i).kind = 10 ∨ (nd s i).kind = 13) := hk
                clear hk
                rcases hkb with e1 | ⟨e1, e2⟩
                · go_wp2_with fail
                  refine HTD.out.mono ?_
                  rintro e W1 ⟨r, rfl, hr, hb4⟩
                  have HR : Hid (r = true ↔ Told (Common s) (nd s i)) := hr
                  have HB4 : Hid (Below w.heap.size w W1) := HB4'.out.trans (hb4.mono HB4'.out.size)
                  have W3 : W1.cell? ⟨Bn, 3, none⟩ = some (.slice ka (nd s i).kids.length kc) := (hb4.cell (lt_of_cell W3')).trans W3'
                  clear hr hb4 n1 n2 n3 n4 W3' HTD
                  cases r
                  · go_wp2
                    go_ret
                    exact reto_no (fun h => Bool.noConfusion (HR.out.2 ((h.2.2.2.2 i hlt).1 HK.out))) HB4.out
                  · go_wp2
                    rw [← HBN.out]
                    go_loopw [11] (fun vj wx => ∃ j : Nat, j ≤ (nd s i).kids.length ∧ vj = .int .i64 j ∧ DfltOk s (nd s i) j ∧ Below W1.heap.size W1 wx) (fun vj _ => (nd s i).kids.length - (intOf vj).toNat)
                    case atStart => exact ⟨0, Nat.zero_le _, rfl, fun _ h => absurd h (Nat.not_lt_zero _), Below.refl _ _⟩
                    case round =>
                      obtain ⟨j, hj, rfl, hdf, hbr⟩ := hrel
                      have HDF : Hid (DfltOk s (nd s i) j) := hdf
                      have HBX : Hid (Below W1.heap.size W1 wr) := hbr
                      have HBW : Hid (Below w.heap.size w wr) := HB4.out.trans (hbr.mono HB4.out.size)
                      have g3 : wr.cell? ⟨Bn, 3, none⟩ = some (.slice ka (nd s i).kids.length kc) := (hbr.cell (lt_of_cell W3)).trans W3
                      clear hdf hbr
                      by_cases hjl : j < (nd s i).kids.length
                      · have hjl' : (j : Int) < (nd s i).kids.length := by omega
                        obtain ⟨kb, ko, rfl, kcl⟩ := KS.out j hjl
                        obtain ⟨y, hy⟩ : ∃ y, kd (nd s i) j = y := ⟨_, rfl⟩
                        have HY : Hid (kd (nd s i) j = y) := hy
                        have hkc : KidCells w kb (ko + j * 3) y := by rw [← hy]; exact kcl
                        obtain ⟨k1, k2, k3⟩ := hkc.below HBW.out
                        have hko := (HA.out i hlt).2.2.2 j hjl
                        rw [hy] at hko
                        obtain ⟨t, ht⟩ : ∃ t : Nat, y.node = t := ⟨_, (Int.toNat_of_nonneg hko.1).symm⟩
                        have HT : Hid (y.node = t) := ht
                        have htl : t < s.length := by have := hko.2.1; omega
                        have htl' : (t : Int) < s.length := by omega
                        have hds : y.dflt.size ≤ 140737488351232 := HOK.out i hlt y (by rw [← hy]; unfold kd; rw [List.getD_eq_getElem?_getD, List.getElem?_eq_getElem hjl]; exact List.getElem_mem hjl)
                        rw [ht] at k1
                        have YES : Hid ((y.dflt.size = 0 ∨ ((nd s t).kind ≤ 9 ∧ ∃ u, ElemOk (nd s t) y.dflt u)) → DfltOk s (nd s i) (j + 1)) := fun h q hq => by
                          by_cases e : q = j
                          · subst e; rw [HY.out, HT.out]; exact h
                          · exact HDF.out q (by omega)
                        have NO : Hid (¬ (y.dflt.size = 0 ∨ ((nd s t).kind ≤ 9 ∧ ∃ u, ElemOk (nd s t) y.dflt u)) → ¬ RightP s) := fun h q => h (by have := (q.2.2.2.2 i hlt).2 j hjl; rw [HY.out, HT.out] at this; exact this)
                        clear hy kcl hkc hko ht
                        by_cases hz : y.dflt.size = 0
                        · have e := emp_t hz
                          have HZ : Hid (y.dflt.size = 0) := hz
                          have HB5 : Hid (∀ o, Below W1.heap.size W1 (wr.alloc o)) := fun o => HBX.out.alloc HBX.out.size o
                          clear hz
                          go_wp2
                          go_roundw
                          case rel => exact ⟨j + 1, by omega, by go_num, YES.out (.inl HZ.out), HB5.out _⟩
                          case measure => simp [intOf]; omega
                        · have e := emp_f (t := y.dflt) (by omega)
                          have HZ : Hid (¬ y.dflt.size = 0) := hz
                          obtain ⟨b', o', ka', kc', e', nc', _, _, _⟩ := (HS.out.below HBW.out) t htl
                          have nt := nc'.kind
                          obtain ⟨rfl, rfl⟩ : b = b' ∧ o = o' := by injection e' with e'; injection e' with a1 a2 _; exact ⟨a1, a2⟩
                          have hbl := lt_of_cell nt
                          simp only at hbl
                          clear hz e' nc'
                          by_cases hk9 : 9 < (nd s t).kind
                          · have HK : Hid (9 < (nd s t).kind) := hk9
                            have HB6 : Hid (∀ o, Below w.heap.size w (wr.alloc o)) := fun o => HBW.out.alloc HBW.out.size o
                            go_wp2
                            go_ret
                            exact reto_no (NO.out (fun q => by rcases q with q | q; exact HZ.out q; have := HK.out; have := q.1; omega)) (HB6.out _)
                          · have hk9' : (nd s t).kind ≤ 9 := by omega
                            have HK : Hid ((nd s t).kind ≤ 9) := hk9'
                            have HB6 : Hid (∀ o, Below w.heap.size w (wr.alloc o)) := fun o => HBW.out.alloc HBW.out.size o
                            have HB7 : Hid (∀ o, Below W1.heap.size W1 (wr.alloc o)) := fun o => HBX.out.alloc HBX.out.size o
                            have HRD : Hid (∀ wq, Below w.heap.size w wq → Calls Tryz.prog 39 #[.slice (some ⟨b, o, none⟩) s.length c, .int .i64 t, .string y.dflt] wq fun e w' => RetRd (nd s t) y.dflt wq e w') := fun wq hq => read_leaf s _ c t y.dflt wq (HS.out.below hq) htl (kinds_of HA.out t htl).1 hk9' (fun _ => mode_of HA.out htl) (by omega)
                            clear hk9
                            go_wp2_with fail
                            refine (HRD.out _ (HB6.out _)).mono ?_
                            rintro e w5 ⟨v5, p5, c5, rfl, hb5, hD⟩
                            have HD : Hid ((c5 = 0 ∧ p5 = 0 ∧ ∃ u, ElemOk (nd s t) y.dflt u ∧ w5.ownsRow _ 60 4 v5 1 (vcells [⟨(nd s t).kind, u, 0, 0⟩])) ∨ (c5 ≠ 0 ∧ v5 = .slice none 0 0 ∧ ∀ u, ¬ ElemOk (nd s t) y.dflt u)) := hD
                            have HB8 : Hid (Below w.heap.size w w5) := (HB6.out _).trans (hb5.mono (HB6.out _).size)
                            have HB9 : Hid (Below W1.heap.size W1 w5) := (HB7.out _).trans (hb5.mono (HB7.out _).size)
                            clear hb5
                            rcases hD with ⟨rfl, _, u, hu, _⟩ | ⟨hne, _, hno⟩
                            · have HU : Hid (ElemOk (nd s t) y.dflt u) := hu
                              clear hu HD
                              go_wp2
                              go_roundw
                              case rel => exact ⟨j + 1, by omega, by go_num, YES.out (.inr ⟨HK.out, u, HU.out⟩), HB9.out⟩
                              case measure => simp [intOf]; omega
                            · have hne' : (c5 != 0) = true := by simp [hne]
                              have HNO : Hid (∀ u, ¬ ElemOk (nd s t) y.dflt u) := hno
                              clear hno hne HD
                              go_wp2
                              go_ret
                              exact reto_no (NO.out (fun q => by rcases q with q | ⟨_, u, q⟩; exact HZ.out q; exact HNO.out u q)) HB8.out
                      · have hjl' : ((nd s i).kids.length : Int) ≤ j := by omega
                        obtain rfl : j = (nd s i).kids.length := by omega
                        go_wp2
                        go_roundw
                        case rel => exact ⟨i + 1, by omega, by go_num, fun q hq => by
                          by_cases e : q = i
                          · subst e; exact ⟨fun _ => HR.out.1 trivial, HDF.out⟩
                          · exact HL.out q (by omega), HBW.out⟩
                        case measure => simp [intOf]; omega
                · go_wp2_with fail
                  refine HTD.out.mono ?_
                  rintro e W1 ⟨r, rfl, hr, hb4⟩
                  have HR : Hid (r = true ↔ Told (Common s) (nd s i)) := hr
                  have HB4 : Hid (Below w.heap.size w W1) := HB4'.out.trans (hb4.mono HB4'.out.size)
                  have W3 : W1.cell? ⟨Bn, 3, none⟩ = some (.slice ka (nd s i).kids.length kc) := (hb4.cell (lt_of_cell W3')).trans W3'
                  clear hr hb4 n1 n2 n3 n4 W3' HTD
                  cases r
                  · go_wp2
                    go_ret
                    exact reto_no (fun h => Bool.noConfusion (HR.out.2 ((h.2.2.2.2 i hlt).1 HK.out))) HB4.out
                  · go_wp2
                    rw [← HBN.out]
                    go_loopw [11] (fun vj wx => ∃ j : Nat, j ≤ (nd s i).kids.length ∧ vj = .int .i64 j ∧ DfltOk s (nd s i) j ∧ Below W1.heap.size W1 wx) (fun vj _ => (nd s i).kids.length - (intOf vj).toNat)
                    case atStart => exact ⟨0, Nat.zero_le _, rfl, fun _ h => absurd h (Nat.not_lt_zero _), Below.refl _ _⟩
                    case round =>
                      obtain ⟨j, hj, rfl, hdf, hbr⟩ := hrel
                      have HDF : Hid (DfltOk s (nd s i) j) := hdf
                      have HBX : Hid (Below W1.heap.size W1 wr) := hbr
                      have HBW : Hid (Below w.heap.size w wr) := HB4.out.trans (hbr.mono HB4.out.size)
                      have g3 : wr.cell? ⟨Bn, 3, none⟩ = some (.slice ka (nd s i).kids.length kc) := (hbr.cell (lt_of_cell W3)).trans W3
                      clear hdf hbr
                      by_cases hjl : j < (nd s i).kids.length
                      · have hjl' : (j : Int) < (nd s i).kids.length := by omega
                        obtain ⟨kb, ko, rfl, kcl⟩ := KS.out j hjl
                        obtain ⟨y, hy⟩ : ∃ y, kd (nd s i) j = y := ⟨_, rfl⟩
                        have HY : Hid (kd (nd s i) j = y) := hy
                        have hkc : KidCells w kb (ko + j * 3) y := by rw [← hy]; exact kcl
                        obtain ⟨k1, k2, k3⟩ := hkc.below HBW.out
                        have hko := (HA.out i hlt).2.2.2 j hjl
                        rw [hy] at hko
                        obtain ⟨t, ht⟩ : ∃ t : Nat, y.node = t := ⟨_, (Int.toNat_of_nonneg hko.1).symm⟩
                        have HT : Hid (y.node = t) := ht
                        have htl : t < s.length := by have := hko.2.1; omega
                        have htl' : (t : Int) < s.length := by omega
                        have hds : y.dflt.size ≤ 140737488351232 := HOK.out i hlt y (by rw [← hy]; unfold kd; rw [List.getD_eq_getElem?_getD, List.getElem?_eq_getElem hjl]; exact List.getElem_mem hjl)
                        rw [ht] at k1
                        have YES : Hid ((y.dflt.size = 0 ∨ ((nd s t).kind ≤ 9 ∧ ∃ u, ElemOk (nd s t) y.dflt u)) → DfltOk s (nd s i) (j + 1)) := fun h q hq => by
                          by_cases e : q = j
                          · subst e; rw [HY.out, HT.out]; exact h
                          · exact HDF.out q (by omega)
                        have NO : Hid (¬ (y.dflt.size = 0 ∨ ((nd s t).kind ≤ 9 ∧ ∃ u, ElemOk (nd s t) y.dflt u)) → ¬ RightP s) := fun h q => h (by have := (q.2.2.2.2 i hlt).2 j hjl; rw [HY.out, HT.out] at this; exact this)
                        clear hy kcl hkc hko ht
                        by_cases hz : y.dflt.size = 0
                        · have e := emp_t hz
                          have HZ : Hid (y.dflt.size = 0) := hz
                          have HB5 : Hid (∀ o, Below W1.heap.size W1 (wr.alloc o)) := fun o => HBX.out.alloc HBX.out.size o
                          clear hz
                          go_wp2
                          go_roundw
                          case rel => exact ⟨j + 1, by omega, by go_num, YES.out (.inl HZ.out), HB5.out _⟩
                          case measure => simp [intOf]; omega
                        · have e := emp_f (t := y.dflt) (by omega)
                          have HZ : Hid (¬ y.dflt.size = 0) := hz
                          obtain ⟨b', o', ka', kc', e', nc', _, _, _⟩ := (HS.out.below HBW.out) t htl
                          have nt := nc'.kind
                          obtain ⟨rfl, rfl⟩ : b = b' ∧ o = o' := by injection e' with e'; injection e' with a1 a2 _; exact ⟨a1, a2⟩
                          have hbl := lt_of_cell nt
                          simp only at hbl
                          clear hz e' nc'
                          by_cases hk9 : 9 < (nd s t).kind
                          · have HK : Hid (9 < (nd s t).kind) := hk9
                            have HB6 : Hid (∀ o, Below w.heap.size w (wr.alloc o)) := fun o => HBW.out.alloc HBW.out.size o
                            go_wp2
                            go_ret
                            exact reto_no (NO.out (fun q => by rcases q with q | q; exact HZ.out q; have := HK.out; have := q.1; omega)) (HB6.out _)
                          · have hk9' : (nd s t).kind ≤ 9 := by omega
                            have HK : Hid ((nd s t).kind ≤ 9) := hk9'
                            have HB6 : Hid (∀ o, Below w.heap.size w (wr.alloc o)) := fun o => HBW.out.alloc HBW.out.size o
                            have HB7 : Hid (∀ o, Below W1.heap.size W1 (wr.alloc o)) := fun o => HBX.out.alloc HBX.out.size o
                            have HRD : Hid (∀ wq, Below w.heap.size w wq → Calls Tryz.prog 39 #[.slice (some ⟨b, o, none⟩) s.length c, .int .i64 t, .string y.dflt] wq fun e w' => RetRd (nd s t) y.dflt wq e w') := fun wq hq => read_leaf s _ c t y.dflt wq (HS.out.below hq) htl (kinds_of HA.out t htl).1 hk9' (fun _ => mode_of HA.out htl) (by omega)
                            clear hk9
                            go_wp2_with fail
                            refine (HRD.out _ (HB6.out _)).mono ?_
                            rintro e w5 ⟨v5, p5, c5, rfl, hb5, hD⟩
                            have HD : Hid ((c5 = 0 ∧ p5 = 0 ∧ ∃ u, ElemOk (nd s t) y.dflt u ∧ w5.ownsRow _ 60 4 v5 1 (vcells [⟨(nd s t).kind, u, 0, 0⟩])) ∨ (c5 ≠ 0 ∧ v5 = .slice none 0 0 ∧ ∀ u, ¬ ElemOk (nd s t) y.dflt u)) := hD
                            have HB8 : Hid (Below w.heap.size w w5) := (HB6.out _).trans (hb5.mono (HB6.out _).size)
                            have HB9 : Hid (Below W1.heap.size W1 w5) := (HB7.out _).trans (hb5.mono (HB7.out _).size)
                            clear hb5
                            rcases hD with ⟨rfl, _, u, hu, _⟩ | ⟨hne, _, hno⟩
                            · have HU : Hid (ElemOk (nd s t) y.dflt u) := hu
                              clear hu HD
                              go_wp2
                              go_roundw
                              case rel => exact ⟨j + 1, by omega, by go_num, YES.out (.inr ⟨HK.out, u, HU.out⟩), HB9.out⟩
                              case measure => simp [intOf]; omega
                            · have hne' : (c5 != 0) = true := by simp [hne]
                              have HNO : Hid (∀ u, ¬ ElemOk (nd s t) y.dflt u) := hno
                              clear hno hne HD
                              go_wp2
                              go_ret
                              exact reto_no (NO.out (fun q => by rcases q with q | ⟨_, u, q⟩; exact HZ.out q; exact HNO.out u q)) HB8.out
                      · have hjl' : ((nd s i).kids.length : Int) ≤ j := by omega
                        obtain rfl : j = (nd s i).kids.length := by omega
                        go_wp2
                        go_roundw
                        case rel => exact ⟨i + 1, by omega, by go_num, fun q hq => by
                          by_cases e : q = i
                          · subst e; exact ⟨fun _ => HR.out.1 trivial, HDF.out⟩
                          · exact HL.out q (by omega), HBW.out⟩
                        case measure => simp [intOf]; omega
              · have e1 : ((nd s i).kind == 10) = false := by simp; exact fun q => hk (.inl q)
                have e2 : ((nd s i).kind == 13) = false := by simp; exact fun q => hk (.inr q)
                have HK : Hid (¬ ((nd s i).kind = 10 ∨ (nd s i).kind = 13)) := hk
                have W3 := W3'
                have HB4 := HB4'
                clear hk W3' HB4'
                go_wp2
                rw [← HBN.out]
                generalize (wr.alloc (.cells #[.int .i64 (nd s i).kind, .int .i64 (nd s i).tag, .int .i64 (nd s i).mode, .slice ka (nd s i).kids.length kc] 58)) = W1 at *
                go_loopw [11] (fun vj wx => ∃ j : Nat, j ≤ (nd s i).kids.length ∧ vj = .int .i64 j ∧ DfltOk s (nd s i) j ∧ Below W1.heap.size W1 wx) (fun vj _ => (nd s i).kids.length - (intOf vj).toNat)
                case atStart => exact ⟨0, Nat.zero_le _, rfl, fun _ h => absurd h (Nat.not_lt_zero _), Below.refl _ _⟩
                case round =>
                  obtain ⟨j, hj, rfl, hdf, hbr⟩ := hrel
                  have HDF : Hid (DfltOk s (nd s i) j) := hdf
                  have HBX : Hid (Below W1.heap.size W1 wr) := hbr
                  have HBW : Hid (Below w.heap.size w wr) := HB4.out.trans (hbr.mono HB4.out.size)
                  have g3 : wr.cell? ⟨Bn, 3, none⟩ = some (.slice ka (nd s i).kids.length kc) := (hbr.cell (lt_of_cell W3)).trans W3
                  clear hdf hbr
                  by_cases hjl : j < (nd s i).kids.length
                  · have hjl' : (j : Int) < (nd s i).kids.length := by omega
                    obtain ⟨kb, ko, rfl, kcl⟩ := KS.out j hjl
                    obtain ⟨y, hy⟩ : ∃ y, kd (nd s i) j = y := ⟨_, rfl⟩
                    have HY : Hid (kd (nd s i) j = y) := hy
                    have hkc : KidCells w kb (ko + j * 3) y := by rw [← hy]; exact kcl
                    obtain ⟨k1, k2, k3⟩ := hkc.below HBW.out
                    have hko := (HA.out i hlt).2.2.2 j hjl
                    rw [hy] at hko
                    obtain ⟨t, ht⟩ : ∃ t : Nat, y.node = t := ⟨_, (Int.toNat_of_nonneg hko.1).symm⟩
                    have HT : Hid (y.node = t) := ht
                    have htl : t < s.length := by have := hko.2.1; omega
                    have htl' : (t : Int) < s.length := by omega
                    have hds : y.dflt.size ≤ 140737488351232 := HOK.out i hlt y (by rw [← hy]; unfold kd; rw [List.getD_eq_getElem?_getD, List.getElem?_eq_getElem hjl]; exact List.getElem_mem hjl)
                    rw [ht] at k1
                    have YES : Hid ((y.dflt.size = 0 ∨ ((nd s t).kind ≤ 9 ∧ ∃ u, ElemOk (nd s t) y.dflt u)) → DfltOk s (nd s i) (j + 1)) := fun h q hq => by
                      by_cases e : q = j
                      · subst e; rw [HY.out, HT.out]; exact h
                      · exact HDF.out q (by omega)
                    have NO : Hid (¬ (y.dflt.size = 0 ∨ ((nd s t).kind ≤ 9 ∧ ∃ u, ElemOk (nd s t) y.dflt u)) → ¬ RightP s) := fun h q => h (by have := (q.2.2.2.2 i hlt).2 j hjl; rw [HY.out, HT.out] at this; exact this)
                    clear hy kcl hkc hko ht
                    by_cases hz : y.dflt.size = 0
                    · have e := emp_t hz
                      have HZ : Hid (y.dflt.size = 0) := hz
                      have HB5 : Hid (∀ o, Below W1.heap.size W1 (wr.alloc o)) := fun o => HBX.out.alloc HBX.out.size o
                      clear hz
                      go_wp2
                      go_roundw
                      case rel => exact ⟨j + 1, by omega, by go_num, YES.out (.inl HZ.out), HB5.out _⟩
                      case measure => simp [intOf]; omega
                    · have e := emp_f (t := y.dflt) (by omega)
                      have HZ : Hid (¬ y.dflt.size = 0) := hz
                      obtain ⟨b', o', ka', kc', e', nc', _, _, _⟩ := (HS.out.below HBW.out) t htl
                      have nt := nc'.kind
                      obtain ⟨rfl, rfl⟩ : b = b' ∧ o = o' := by injection e' with e'; injection e' with a1 a2 _; exact ⟨a1, a2⟩
                      have hbl := lt_of_cell nt
                      simp only at hbl
                      clear hz e' nc'
                      by_cases hk9 : 9 < (nd s t).kind
                      · have HK : Hid (9 < (nd s t).kind) := hk9
                        have HB6 : Hid (∀ o, Below w.heap.size w (wr.alloc o)) := fun o => HBW.out.alloc HBW.out.size o
                        go_wp2
                        go_ret
                        exact reto_no (NO.out (fun q => by rcases q with q | q; exact HZ.out q; have := HK.out; have := q.1; omega)) (HB6.out _)
                      · have hk9' : (nd s t).kind ≤ 9 := by omega
                        have HK : Hid ((nd s t).kind ≤ 9) := hk9'
                        have HB6 : Hid (∀ o, Below w.heap.size w (wr.alloc o)) := fun o => HBW.out.alloc HBW.out.size o
                        have HB7 : Hid (∀ o, Below W1.heap.size W1 (wr.alloc o)) := fun o => HBX.out.alloc HBX.out.size o
                        have HRD : Hid (∀ wq, Below w.heap.size w wq → Calls Tryz.prog 39 #[.slice (some ⟨b, o, none⟩) s.length c, .int .i64 t, .string y.dflt] wq fun e w' => RetRd (nd s t) y.dflt wq e w') := fun wq hq => read_leaf s _ c t y.dflt wq (HS.out.below hq) htl (kinds_of HA.out t htl).1 hk9' (fun _ => mode_of HA.out htl) (by omega)
                        clear hk9
                        go_wp2_with fail
                        refine (HRD.out _ (HB6.out _)).mono ?_
                        rintro e w5 ⟨v5, p5, c5, rfl, hb5, hD⟩
                        have HD : Hid ((c5 = 0 ∧ p5 = 0 ∧ ∃ u, ElemOk (nd s t) y.dflt u ∧ w5.ownsRow _ 60 4 v5 1 (vcells [⟨(nd s t).kind, u, 0, 0⟩])) ∨ (c5 ≠ 0 ∧ v5 = .slice none 0 0 ∧ ∀ u, ¬ ElemOk (nd s t) y.dflt u)) := hD
                        have HB8 : Hid (Below w.heap.size w w5) := (HB6.out _).trans (hb5.mono (HB6.out _).size)
                        have HB9 : Hid (Below W1.heap.size W1 w5) := (HB7.out _).trans (hb5.mono (HB7.out _).size)
                        clear hb5
                        rcases hD with ⟨rfl, _, u, hu, _⟩ | ⟨hne, _, hno⟩
                        · have HU : Hid (ElemOk (nd s t) y.dflt u) := hu
                          clear hu HD
                          go_wp2
                          go_roundw
                          case rel => exact ⟨j + 1, by omega, by go_num, YES.out (.inr ⟨HK.out, u, HU.out⟩), HB9.out⟩
                          case measure => simp [intOf]; omega
                        · have hne' : (c5 != 0) = true := by simp [hne]
                          have HNO : Hid (∀ u, ¬ ElemOk (nd s t) y.dflt u) := hno
                          clear hno hne HD
                          go_wp2
                          go_ret
                          exact reto_no (NO.out (fun q => by rcases q with q | ⟨_, u, q⟩; exact HZ.out q; exact HNO.out u q)) HB8.out
                  · have hjl' : ((nd s i).kids.length : Int) ≤ j := by omega
                    obtain rfl : j = (nd s i).kids.length := by omega
                    go_wp2
                    go_roundw
                    case rel => exact ⟨i + 1, by omega, by go_num, fun q hq => by
                      by_cases e : q = i
                      · subst e; exact ⟨fun q => absurd q HK.out, HDF.out⟩
                      · exact HL.out q (by omega), HBW.out⟩
                    case measure => simp [intOf]; omega
            · have hlt' : (s.length : Int) ≤ i := by omega
              obtain rfl : i = s.length := by omega
              go_wp2
              go_ret
              exact reto_yes ⟨h1, h40, HA.out, HBK.out, HL.out⟩ HB3.out
end Go.Proofs.YtkkicodfpekbgaaGreatDoor

/-! The document's writer: element; the writer in memory; choice. -/
namespace Go.Proofs.YtkkicodfpekbgaaGreatDoor
set_option linter.unusedSimpArgs false
set_option linter.unusedVariables false
open Go.RowKit

set_option maxHeartbeats 400000 in
set_option maxRecDepth 100000 in
theorem element_any (c : Int) (b : Bool) (n : Int) (s : ByteArray) (w : World) (q1 : 0 ≤ c) (q2 : c ≤ 3) (q3 : 0 ≤ n) (q4 : n ≤ 30) (hs : s.size ≤ 16777215) :
    Calls Tryz.prog 83 #[.int .i64 c, .bool b, .int .i64 n, .string s] w fun e w' => e = .returned (.string (elB c b n s)) ∧ Below w.heap.size w w' := by
  have HT : Hid (∀ wq, Calls Tryz.prog 130 #[.int .i64 c, .bool b, .int .i64 n, .int .i64 s.size] wq fun e w' => e = .returned (.string ⟨(UInt8.ofNat (fb ⟨c, b, n, 0, s.size⟩).toNat :: tl s.size).toArray⟩) ∧ Below wq.heap.size wq w') := fun wq => Told_any ⟨c, b, n, 0, s.size⟩ wq q1 q2 q3 q4 (by show (0 : Int) ≤ s.size; omega) (by show (s.size : Int) ≤ 16777215; omega)
  have hts : (⟨(UInt8.ofNat (fb ⟨c, b, n, 0, s.size⟩).toNat :: tl s.size).toArray⟩ : ByteArray).size ≤ 5 := by
    have h := tl_le s.size
    show (UInt8.ofNat _ :: tl s.size).toArray.size ≤ 5
    rw [List.size_toArray, List.length_cons]
    omega
  have hel : Hid (elB c b n s = ⟨(UInt8.ofNat (fb ⟨c, b, n, 0, s.size⟩).toNat :: tl s.size).toArray⟩ ++ s) := rfl
  rw [hel.out]
  clear hel
  generalize (⟨(UInt8.ofNat (fb ⟨c, b, n, 0, s.size⟩).toNat :: tl s.size).toArray⟩ : ByteArray) = t at HT hts
  go_enter Tryz.func83, Tryz.ntmps83
  go_wp2_with fail
  refine (HT.out _).mono ?_
  rintro e w1 ⟨rfl, hb1⟩
  have HB1 := hide hb1
  clear hb1
  go_wp2
  go_ret
  exact ⟨rfl, HB1.out⟩

/-- The writer's cells. -/
def wwObj (a : Option Addr) (n c : Nat) (ta : Option Addr) (tn tc : Nat) (x : Nat) (no tu : Bool) : Obj := .cells #[.slice a n c, .slice ta tn tc, .int .i64 x, .bool no, .bool tu] 133 (0, 0)
/-- The writer in memory: W: the world when it was made. -/
structure WrD (W w : World) (R : Nat) (a : Option Addr) (n c : Nat) (ta : Option Addr) (tn tc : Nat) (x : Nat) (no tu : Bool) : Prop where
  bel : Below W.heap.size W w
  lo : W.heap.size ≤ R
  own : w.heap[R]? = some (wwObj a n c ta tn tc x no tu)
theorem WrD.below {W w w' : World} {R : Nat} {a : Option Addr} {n c : Nat} {ta : Option Addr} {tn tc x : Nat} {no tu : Bool} (h : WrD W w R a n c ta tn tc x no tu) (hb : Below w.heap.size w w') : WrD W w' R a n c ta tn tc x no tu :=
  ⟨h.bel.trans (hb.mono h.bel.size), h.lo, block_below h.own hb⟩
/-- All blocks but one stay. -/
def FrW (R : Nat) (w w' : World) : Prop := ∀ (k : Nat) (o : Obj), k ≠ R → w.heap[k]? = some o → w'.heap[k]? = some o
theorem FrW.refl (R : Nat) (w : World) : FrW R w w := fun _ _ _ h => h
theorem FrW.trans {R : Nat} {w w1 w2 : World} (h : FrW R w w1) (k : FrW R w1 w2) : FrW R w w2 := fun j o hj hg => k j o hj (h j o hj hg)
theorem FrW.of_below {R : Nat} {w w' : World} (h : Below w.heap.size w w') : FrW R w w' := fun _ _ _ hg => block_below hg h
theorem FrW.set {R : Nat} {w : World} (i : Nat) (u : Value) : FrW R w (w.setCell ⟨R, i, none⟩ u) := fun j o hj hg => by rw [heap_setCell_other _ _ _ _ hj]; exact hg
/-- What a method of the writer leaves, by what writing comes to. -/
def AfterW (E : WEnv) (W : World) (R : Nat) (a : Option Addr) (c : Nat) (ta : Option Addr) (tc : Nat) (r : WOut) (x0 : Nat) (u0 : Bool) (w : World) (e : Ending) (w' : World) : Prop :=
  FrW R w w' ∧ ((∃ b x u, r = some (b, x, u) ∧ e = .returned (.string b) ∧ b.size + pz E.t x0 ≤ pz E.t x ∧ x ≤ E.t.length ∧ WrD W w' R a E.s.length c ta E.t.length tc x false (u0 || u)) ∨
    (r = none ∧ ∃ b x u, e = .returned (.string b) ∧ b.size + pz E.t x0 ≤ pz E.t x ∧ x ≤ E.t.length ∧ WrD W w' R a E.s.length c ta E.t.length tc x true u))
theorem AfterW.of {E : WEnv} {W : World} {R : Nat} {a : Option Addr} {c : Nat} {ta : Option Addr} {tc : Nat} {r : WOut} {x0 : Nat} {u0 : Bool} {w w1 w' : World} {e : Ending} (h : AfterW E W R a c ta tc r x0 u0 w1 e w') (hf : FrW R w w1) : AfterW E W R a c ta tc r x0 u0 w e w' := ⟨hf.trans h.1, h.2⟩
/-- What node answers, with so much fuel. -/
def NodeW (E : WEnv) (W : World) (R : Nat) (a : Option Addr) (c : Nat) (ta : Option Addr) (tc : Nat) (f : Nat) : Prop :=
  ∀ (i x : Nat) (dp : Int) (r : WOut) (u0 : Bool) (w : World), wrF E f i x dp = some r → i < E.s.length → x ≤ E.t.length → 1 ≤ dp → dp ≤ 13 → WrD W w R a E.s.length c ta E.t.length tc x false u0 →
    Calls Tryz.prog 71 #[.pointer (some ⟨R, 0, none⟩), .int .i64 i, .int .i64 dp] w fun e w' => AfterW E W R a c ta tc r x u0 w e w'
end Go.Proofs.YtkkicodfpekbgaaGreatDoor

/-! The document's writer: choice. -/
namespace Go.Proofs.YtkkicodfpekbgaaGreatDoor
set_option linter.unusedSimpArgs false
set_option linter.unusedVariables false
open Go.RowKit

/-- The cells of a value. -/
abbrev vlCells (v : Vl) : Array Value := #[.int .i64 v.kind, .string v.text, .int .i64 v.alt, .int .i64 v.kids]
abbrev ndC (n : Nd) (ka : Option Addr) (kc : Nat) : Array Value := #[.int .i64 n.kind, .int .i64 n.tag, .int .i64 n.mode, .slice ka n.kids.length kc]
/-- None is set. -/
theorem WrD.setNo {W w : World} {R : Nat} {a : Option Addr} {n c : Nat} {ta : Option Addr} {tn tc x : Nat} {no tu : Bool} (h : WrD W w R a n c ta tn tc x no tu) (b : Bool) : WrD W (w.setCell ⟨R, 3, none⟩ (.bool b)) R a n c ta tn tc x b tu :=
  ⟨h.bel.setCell (p := ⟨R, 3, none⟩) h.lo _, h.lo, heap_setCell_same w R 3 _ _ _ h.own⟩

set_option maxHeartbeats 1000000 in
set_option maxRecDepth 100000 in
theorem wchoice_any (E : WEnv) (W : World) (R : Nat) (a : Option Addr) (c : Nat) (ta : Option Addr) (tc f : Nat) (hc : WC E W a ta) (hN : NodeW E W R a c ta tc f) (i : Nat) (hi : i < E.s.length) (ka : Option Addr) (kc : Nat) (hka : KidsIn W ka (nd E.s i).kids) (hkc : (nd E.s i).kids.length ≤ kc)
    (v : Vl) (x : Nat) (dp : Int) (r : WOut) (u0 : Bool) (w : World) (hm : (if v.text.size = 0 ∧ v.kids = 1 ∧ 0 ≤ v.alt ∧ v.alt < (nd E.s i).kids.length then wrF E f (kd (nd E.s i) v.alt.toNat).node.toNat x dp else some none) = some r)
    (hx : x ≤ E.t.length) (hd1 : 1 ≤ dp) (hd2 : dp ≤ 13) (hI : WrD W w R a E.s.length c ta E.t.length tc x false u0) :
    Calls Tryz.prog 104 #[.pointer (some ⟨R, 0, none⟩), .agg (ndC (nd E.s i) ka kc), .agg (vlCells v), .int .i64 dp] w fun e w' => AfterW E W R a c ta tc r x u0 w e w' := by
  have HI := hide hI
  have hk8 := hc.right.fine.eight i hi
  have HKI := hide hka
  have HN := hide hN
  have own0 := hI.own
  unfold wwObj at own0
  have c3 : w.cell? ⟨R, 3, none⟩ = some (.bool false) := by simp [World.cell?, own0]
  have f3 : w.frozen? ⟨R, 3, none⟩ = false := by simp [World.frozen?, own0]
  have hRl : R < w.heap.size := lt_of_cell c3
  have HKR : Hid (∀ j, j < (nd E.s i).kids.length → ∃ t : Nat, (kd (nd E.s i) j).node = t ∧ t < E.s.length) := fun j hj => by
    have := hc.right.fine.within i hi _ (kd_mem hj)
    exact ⟨(kd (nd E.s i) j).node.toNat, by omega, by omega⟩
  have HNO : Hid (r = none → ∀ A B, AfterW E W R a c ta tc r x u0 w (.returned (.string ⟨#[]⟩)) (((w.setCell ⟨R, 3, none⟩ (.bool true)).alloc A).alloc B)) := fun hr A B => by
    have hb : Below (w.setCell ⟨R, 3, none⟩ (.bool true)).heap.size (w.setCell ⟨R, 3, none⟩ (.bool true)) (((w.setCell ⟨R, 3, none⟩ (.bool true)).alloc A).alloc B) := ((Below.refl _ _).alloc (Nat.le_refl _) A).alloc (by simp) B
    exact ⟨(FrW.set 3 _).trans (FrW.of_below hb), .inr ⟨hr, ⟨#[]⟩, x, u0, rfl, by show 0 + pz E.t x ≤ pz E.t x; omega, hx, (hI.setNo true).below hb⟩⟩
  have HA : Hid (∀ A B, Below w.heap.size w ((w.alloc A).alloc B)) := fun A B => ((Below.refl w.heap.size w).alloc (Nat.le_refl _) A).alloc (by simp) B
  unfold ndC vlCells
  by_cases q : v.text.size = 0 ∧ v.kids = 1 ∧ 0 ≤ v.alt ∧ v.alt < (nd E.s i).kids.length
  · rw [if_pos q] at hm
    obtain ⟨q1, q2, q3, q4⟩ := q
    obtain ⟨al, hal⟩ : ∃ al : Nat, v.alt = al := ⟨v.alt.toNat, by omega⟩
    rw [hal, Int.toNat_natCast] at hm
    have hll : al < (nd E.s i).kids.length := by omega
    have hll' : (al : Int) < (nd E.s i).kids.length := by omega
    have t1 := emp_t q1
    obtain ⟨kb, ko, rfl, kcl⟩ := hka al hll
    obtain ⟨t, ht, htl⟩ := HKR.out al hll
    rw [ht, Int.toNat_natCast] at hm
    obtain ⟨k1, _, _⟩ := kcl.below hI.bel
    have k1' : w.cell? ⟨kb, ko + al * 3, none⟩ = some (.int .i64 t) := by rw [← ht]; exact k1
    have hkl := lt_of_cell k1'
    simp only at hkl
    have HCL : Hid (∀ wq, Below w.heap.size w wq → Calls Tryz.prog 71 #[.pointer (some ⟨R, 0, none⟩), .int .i64 t, .int .i64 dp] wq fun e w' => AfterW E W R a c ta tc r x u0 wq e w') := fun wq hq => hN t x dp r u0 wq hm htl hx hd1 hd2 (hI.below hq)
    rw [hal, q2]
    clear hI hN hc hka hm own0 k1 kcl hal q1 q2 q3 q4 HNO
    go_enter Tryz.func104, Tryz.ntmps104
    go_wp2_with fail
    refine (HCL.out _ (HA.out _ _)).mono ?_
    rintro e w1 ha1
    have HA1 := hide (ha1.of (FrW.of_below (HA.out _ _)))
    have hcase : ∃ b, e = .returned (.string b) := by
      rcases ha1.2 with ⟨b, _, _, _, he, _⟩ | ⟨_, b, _, _, he, _⟩
      · exact ⟨b, he⟩
      · exact ⟨b, he⟩
    clear ha1
    obtain ⟨b, rfl⟩ := hcase
    go_wp2
    go_ret
    exact HA1.out
  · rw [if_neg q] at hm
    have HR : Hid (r = none) := (Option.some.inj hm).symm
    clear hI hN hc hka hm own0
    go_enter Tryz.func104, Tryz.ntmps104
    by_cases q1 : v.text.size = 0
    · have t1 := emp_t q1
      by_cases q2 : v.kids = 1
      · rw [q2]
        by_cases q3 : v.alt < 0
        · clear q q1 q2
          go_wp2
          go_ret
          exact HNO.out HR.out _ _
        · have q3' : 0 ≤ v.alt := by omega
          have q4 : ((nd E.s i).kids.length : Int) ≤ v.alt := by
            by_cases h : v.alt < (nd E.s i).kids.length
            · exact absurd ⟨q1, q2, q3', h⟩ q
            · omega
          clear q q1 q2 q3
          go_wp2
          go_ret
          exact HNO.out HR.out _ _
      · clear q q1
        go_wp2
        go_ret
        exact HNO.out HR.out _ _
    · have t1 := emp_f (t := v.text) (by omega)
      clear q q1
      go_wp2
      go_ret
      exact HNO.out HR.out _ _
end Go.Proofs.YtkkicodfpekbgaaGreatDoor

/-! The document's writer: many. -/
namespace Go.Proofs.YtkkicodfpekbgaaGreatDoor
set_option linter.unusedSimpArgs false
set_option linter.unusedVariables false
open Go.RowKit

theorem wmanyF_go {E : WEnv} {rec : WRec} {set : Bool} {i : Nat} {dp : Int} {m : Nat} {c : Int} {x : Nat} {out last : ByteArray} {u : Bool} {r : WOut} (hc : 0 < c) (e : wmanyF E rec set i dp m c x out last u = some r) :
    ∃ r1, rec i x dp = some r1 ∧ ((r1 = none ∧ r = none) ∨ ∃ b x' u', r1 = some (b, x', u') ∧ ∃ m', wmanyF E rec set i dp m' (c - 1) x' (out ++ b) b (u || u' || (set && below b last)) = some r) := by
  cases m with
  | zero => cases e
  | succ m =>
    unfold wmanyF at e
    rw [if_pos hc] at e
    rcases wandThen_cases e with ⟨h1, rfl⟩ | ⟨b1, x1, u1, h1, h2⟩
    · exact ⟨_, h1, .inl ⟨rfl, rfl⟩⟩
    · exact ⟨_, h1, .inr ⟨b1, x1, u1, rfl, m, h2⟩⟩
theorem wmanyF_end {E : WEnv} {rec : WRec} {set : Bool} {i : Nat} {dp : Int} {m : Nat} {c : Int} {x : Nat} {out last : ByteArray} {u : Bool} {r : WOut} (hc : ¬ 0 < c) (e : wmanyF E rec set i dp m c x out last u = some r) : r = some (out, x, u) := by
  cases m with
  | zero => cases e
  | succ m => unfold wmanyF at e; rw [if_neg hc] at e; exact (Option.some.inj e).symm
/-- Turned is set. -/
theorem WrD.setTu {W w : World} {R : Nat} {a : Option Addr} {n c : Nat} {ta : Option Addr} {tn tc x : Nat} {no tu : Bool} (h : WrD W w R a n c ta tn tc x no tu) (b : Bool) : WrD W (w.setCell ⟨R, 4, none⟩ (.bool b)) R a n c ta tn tc x no b :=
  ⟨h.bel.setCell (p := ⟨R, 4, none⟩) h.lo _, h.lo, heap_setCell_same w R 4 _ _ _ h.own⟩
/-- Where many stands at a round. -/
def ManyAt (E : WEnv) (W : World) (R : Nat) (a : Option Addr) (c : Nat) (ta : Option Addr) (tc f : Nat) (set : Bool) (t : Nat) (dp : Int) (cnt : Int) (r : WOut) (x0 : Nat) (u0 : Bool) (w0 : World) (vo vl' vk : Value) (wr : World) : Prop :=
  ∃ (k : Nat) (out last : ByteArray) (x : Nat) (no tu : Bool), vo = .string out ∧ vl' = .string last ∧ vk = .int .i64 k ∧ (k : Int) ≤ cnt ∧ FrW R w0 wr ∧ WrD W wr R a E.s.length c ta E.t.length tc x no tu ∧ x ≤ E.t.length ∧ out.size + pz E.t x0 ≤ pz E.t x ∧
    ((no = false ∧ ∃ m u1, tu = (u0 || u1) ∧ wmanyF E (wrF E f) set t dp m (cnt - k) x out last u1 = some r) ∨ (no = true ∧ r = none))

set_option maxHeartbeats 2000000 in
set_option maxRecDepth 100000 in
theorem wmany_any (E : WEnv) (W : World) (R : Nat) (a : Option Addr) (c : Nat) (ta : Option Addr) (tc f : Nat) (hc : WC E W a ta) (hN : NodeW E W R a c ta tc f) (i : Nat) (hi : i < E.s.length) (hkd : (nd E.s i).kind = 11 ∨ (nd E.s i).kind = 12) (ka : Option Addr) (kc : Nat) (hka : KidsIn W ka (nd E.s i).kids) (hkc : (nd E.s i).kids.length ≤ kc)
    (v : Vl) (x : Nat) (dp : Int) (r : WOut) (u0 : Bool) (w : World) (hm : (if v.text.size = 0 ∧ v.alt = 0 ∧ 0 ≤ v.kids then wmanyF E (wrF E f) (decide ((nd E.s i).kind = 12)) (kd (nd E.s i) 0).node.toNat (dp + 1) f v.kids x noB noB false else some none) = some r)
    (hx : x ≤ E.t.length) (hvk : v.kids ≤ 9223372036854775807) (hd1 : 1 ≤ dp) (hd2 : dp ≤ 12) (hI : WrD W w R a E.s.length c ta E.t.length tc x false u0) :
    Calls Tryz.prog 107 #[.pointer (some ⟨R, 0, none⟩), .agg (ndC (nd E.s i) ka kc), .agg (vlCells v), .int .i64 dp] w fun e w' => AfterW E W R a c ta tc r x u0 w e w' := by
  have HC := hide hc
  have HI := hide hI
  have h1k : 0 < (nd E.s i).kids.length := by have := hc.right.fine.one i hi hkd; omega
  have HN := hide hN
  have own0 := hI.own
  unfold wwObj at own0
  have c3 : w.cell? ⟨R, 3, none⟩ = some (.bool false) := by simp [World.cell?, own0]
  have f3 : w.frozen? ⟨R, 3, none⟩ = false := by simp [World.frozen?, own0]
  have hRl : R < w.heap.size := lt_of_cell c3
  obtain ⟨kb, ko, rfl, kcl⟩ := hka 0 (by omega)
  obtain ⟨t, ht, htl⟩ : ∃ t : Nat, (kd (nd E.s i) 0).node = t ∧ t < E.s.length := by
    have := hc.right.fine.within i hi _ (kd_mem (n := nd E.s i) (i := 0) h1k)
    exact ⟨(kd (nd E.s i) 0).node.toNat, by omega, by omega⟩
  rw [ht, Int.toNat_natCast] at hm
  have HK0 : Hid (W.cell? ⟨kb, ko, none⟩ = some (.int .i64 t)) := by
    have := kcl.node
    rw [show (nd E.s i).kids.getD 0 kd0 = kd (nd E.s i) 0 from rfl, ht] at this
    show W.cell? ⟨kb, ko, none⟩ = _
    simpa using this
  have HNO : Hid (r = none → ∀ A B, AfterW E W R a c ta tc r x u0 w (.returned (.string ⟨#[]⟩)) (((w.setCell ⟨R, 3, none⟩ (.bool true)).alloc A).alloc B)) := fun hr A B => by
    have hb : Below (w.setCell ⟨R, 3, none⟩ (.bool true)).heap.size (w.setCell ⟨R, 3, none⟩ (.bool true)) (((w.setCell ⟨R, 3, none⟩ (.bool true)).alloc A).alloc B) := ((Below.refl _ _).alloc (Nat.le_refl _) A).alloc (by simp) B
    exact ⟨(FrW.set 3 _).trans (FrW.of_below hb), .inr ⟨hr, ⟨#[]⟩, x, u0, rfl, by show 0 + pz E.t x ≤ pz E.t x; omega, hx, (hI.setNo true).below hb⟩⟩
  have HA : Hid (∀ A B, Below w.heap.size w ((w.alloc A).alloc B)) := fun A B => ((Below.refl w.heap.size w).alloc (Nat.le_refl _) A).alloc (by simp) B
  unfold ndC vlCells
  clear hc hN hka own0 kcl hI
  by_cases q : v.text.size = 0 ∧ v.alt = 0 ∧ 0 ≤ v.kids
  · rw [if_pos q] at hm
    have HM := hide hm
    obtain ⟨q1, q2, q3⟩ := q
    have t1 := emp_t q1
    have q3' : decide (v.kids < 0) = false := by simpa using q3
    rw [q2]
    clear hm q1 q2 HNO
    go_enter Tryz.func107, Tryz.ntmps107
    go_wp2
    have hG1 : ((w.alloc (.cells #[.int .i64 (nd E.s i).kind, .int .i64 (nd E.s i).tag, .int .i64 (nd E.s i).mode, .slice (some ⟨kb, ko, none⟩) (nd E.s i).kids.length kc] 58)).alloc (.cells #[.int .i64 v.kind, .string v.text, .int .i64 0, .int .i64 v.kids] 60)).heap[w.heap.size]? = some (.cells #[.int .i64 (nd E.s i).kind, .int .i64 (nd E.s i).tag, .int .i64 (nd E.s i).mode, .slice (some ⟨kb, ko, none⟩) (nd E.s i).kids.length kc] 58 (0, 0)) := block_below (heap_alloc_new w _) ((Below.refl _ _).alloc (Nat.le_refl _) _)
    have hG2 : ((w.alloc (.cells #[.int .i64 (nd E.s i).kind, .int .i64 (nd E.s i).tag, .int .i64 (nd E.s i).mode, .slice (some ⟨kb, ko, none⟩) (nd E.s i).kids.length kc] 58)).alloc (.cells #[.int .i64 v.kind, .string v.text, .int .i64 0, .int .i64 v.kids] 60)).heap[w.heap.size + 1]? = some (.cells #[.int .i64 v.kind, .string v.text, .int .i64 0, .int .i64 v.kids] 60 (0, 0)) := by
      have q := heap_alloc_new (w.alloc (.cells #[.int .i64 (nd E.s i).kind, .int .i64 (nd E.s i).tag, .int .i64 (nd E.s i).mode, .slice (some ⟨kb, ko, none⟩) (nd E.s i).kids.length kc] 58)) (.cells #[.int .i64 v.kind, .string v.text, .int .i64 0, .int .i64 v.kids] 60)
      simpa using q
    have hB0 : Below w.heap.size w ((w.alloc (.cells #[.int .i64 (nd E.s i).kind, .int .i64 (nd E.s i).tag, .int .i64 (nd E.s i).mode, .slice (some ⟨kb, ko, none⟩) (nd E.s i).kids.length kc] 58)).alloc (.cells #[.int .i64 v.kind, .string v.text, .int .i64 0, .int .i64 v.kids] 60)) := HA.out _ _
    generalize (w.alloc (.cells #[.int .i64 (nd E.s i).kind, .int .i64 (nd E.s i).tag, .int .i64 (nd E.s i).mode, .slice (some ⟨kb, ko, none⟩) (nd E.s i).kids.length kc] 58)).alloc (.cells #[.int .i64 v.kind, .string v.text, .int .i64 0, .int .i64 v.kids] 60) = w0 at hG1 hG2 hB0 ⊢
    have HG1 := hide hG1
    have HG2 := hide hG2
    have HB0 := hide hB0
    have HI0 := hide (HI.out.below hB0)
    have hne1 : w.heap.size ≠ R := by omega
    have hne2 : w.heap.size + 1 ≠ R := by omega
    clear hG1 hG2 hB0 HA c3 f3
    go_loopw [9, 10, 11] (fun vo vl' vk wr => ManyAt E W R a c ta tc f (decide ((nd E.s i).kind = 12)) t (dp + 1) v.kids r x u0 w0 vo vl' vk wr) (fun _ _ vk _ => v.kids.toNat - (intOf vk).toNat)
    case atStart => exact ⟨0, noB, noB, x, false, u0, rfl, rfl, rfl, q3, FrW.refl _ _, HI0.out, hx, by show 0 + pz E.t x ≤ pz E.t x; omega, .inl ⟨rfl, f, false, by simp, by simpa using HM.out⟩⟩
    case round =>
      obtain ⟨k, out, last, x1, no, tu, rfl, rfl, rfl, hk, hF, hI1, hx1, hsz, hcs⟩ := hrel
      have HF := hide hF
      have HI1 := hide hI1
      have HSZ := hide hsz
      have HCS := hide hcs
      have own1 := hI1.own
      unfold wwObj at own1
      have d3 : wr.cell? ⟨R, 3, none⟩ = some (.bool no) := by simp [World.cell?, own1]
      have hRw : R < wr.heap.size := lt_of_cell d3
      have hN1 := hF _ _ hne1 HG1.out
      have hV1 := hF _ _ hne2 HG2.out
      have n3 : wr.cell? ⟨w.heap.size, 3, none⟩ = some (.slice (some ⟨kb, ko, none⟩) (nd E.s i).kids.length kc) := cell_of_row hN1 rfl
      have v3 : wr.cell? ⟨w.heap.size + 1, 3, none⟩ = some (.int .i64 v.kids) := cell_of_row hV1 rfl
      have k0 : wr.cell? ⟨kb, ko, none⟩ = some (.int .i64 t) := (hI1.bel.cell (lt_of_cell HK0.out)).trans HK0.out
      have hlN := lt_of_cell n3
      have hlV := lt_of_cell v3
      have hlK := lt_of_cell k0
      simp only at hlN hlV hlK
      clear hF hI1 hsz hcs own1 hN1 hV1
      cases no with
      | true =>
        have HR : Hid (r = none) := by
          rcases HCS.out with ⟨h, _⟩ | ⟨_, h⟩
          · cases h
          · exact h
        by_cases hlt : (k : Int) < v.kids
        · go_wp2
          go_ret
          exact ⟨(FrW.of_below HB0.out).trans HF.out, .inr ⟨HR.out, out, x1, tu, rfl, HSZ.out, hx1, HI1.out⟩⟩
        · go_wp2
          go_ret
          exact ⟨(FrW.of_below HB0.out).trans HF.out, .inr ⟨HR.out, out, x1, tu, rfl, HSZ.out, hx1, HI1.out⟩⟩
      | false =>
        obtain ⟨m, u1, htu, hmm⟩ : ∃ m u1, tu = (u0 || u1) ∧ wmanyF E (wrF E f) (decide ((nd E.s i).kind = 12)) t (dp + 1) m (v.kids - k) x1 out last u1 = some r := by
          rcases HCS.out with ⟨_, h⟩ | ⟨h, _⟩
          · exact h
          · cases h
        by_cases hlt : (k : Int) < v.kids
        · obtain ⟨r1, hrec, hr1⟩ := wmanyF_go (by omega) hmm
          have HCL := hide (HN.out t x1 (dp + 1) r1 tu wr hrec htl hx1 (by omega) (by omega) HI1.out)
          obtain ⟨ks, hks⟩ : ∃ ks, decide ((nd E.s i).kind = 12) = ks := ⟨_, rfl⟩
          have HKS := hide hks
          rw [hks] at hr1
          have HR1 := hide hr1
          have HTU := hide htu
          clear hmm hrec hr1 htu hks
          go_wp2_with fail
          refine HCL.out.mono ?_
          rintro e w1 ha1
          have HF1 : Hid (FrW R w0 w1) := HF.out.trans ha1.1
          have hN2 := ha1.1 _ _ hne1 (HF.out _ _ hne1 HG1.out)
          have hV2 := ha1.1 _ _ hne2 (HF.out _ _ hne2 HG2.out)
          obtain ⟨b, x2, no2, tu2, rfl, hsb, hx2, hI2, hgo⟩ : ∃ b x2 no2 tu2, e = .returned (.string b) ∧ b.size + pz E.t x1 ≤ pz E.t x2 ∧ x2 ≤ E.t.length ∧ WrD W w1 R a E.s.length c ta E.t.length tc x2 no2 tu2 ∧ ((no2 = false ∧ ∃ m u1, (tu2 || (ks && below b last)) = (u0 || u1) ∧ wmanyF E (wrF E f) ks t (dp + 1) m (v.kids - ((k + 1 : Nat) : Int)) x2 (out ++ b) b u1 = some r) ∨ (no2 = true ∧ r = none)) := by
            rcases ha1.2 with ⟨b, x2, u2, hr, he, hsb, hx2, hI2⟩ | ⟨hr, b, x2, u2, he, hsb, hx2, hI2⟩
            · refine ⟨b, x2, false, _, he, hsb, hx2, hI2, .inl ⟨rfl, ?_⟩⟩
              rcases HR1.out with ⟨q, _⟩ | ⟨b', x', u', q, m', hm'⟩
              · rw [q] at hr; cases hr
              · rw [q] at hr
                cases hr
                refine ⟨m', (u1 || u2 || (ks && below b last)), ?_, ?_⟩
                · rw [HTU.out, Bool.or_assoc, Bool.or_assoc, Bool.or_assoc]
                · rw [show v.kids - ((k + 1 : Nat) : Int) = v.kids - k - 1 by omega]; exact hm'
            · refine ⟨b, x2, true, u2, he, hsb, hx2, hI2, .inr ⟨rfl, ?_⟩⟩
              rcases HR1.out with ⟨_, q⟩ | ⟨b', x', u', q, _⟩
              · exact q
              · rw [q] at hr; cases hr
          have HSB := hide hsb
          have HI2 := hide hI2
          have HGO := hide hgo
          have own2 := hI2.own
          unfold wwObj at own2
          have e4 : w1.cell? ⟨R, 4, none⟩ = some (.bool tu2) := by simp [World.cell?, own2]
          have g4 : w1.frozen? ⟨R, 4, none⟩ = false := by simp [World.frozen?, own2]
          have hR1 : R < w1.heap.size := lt_of_cell e4
          have n0 : w1.cell? ⟨w.heap.size, 0, none⟩ = some (.int .i64 (nd E.s i).kind) := cell_of_row hN2 rfl
          have hlN2 := lt_of_cell n0
          simp only at hlN2
          have hosz : (out.size : Int) + b.size ≤ 16777000 := by
            have h1 := HSZ.out
            have h2 := HC.out.size
            have h3 := pz_mono hx2 (Nat.le_refl _)
            omega
          have hkk : (k : Int) + 1 ≤ v.kids := by omega
          have HFI : Hid (∀ tn, tn = (tu2 || (ks && below b last)) → ManyAt E W R a c ta tc f (decide ((nd E.s i).kind = 12)) t (dp + 1) v.kids r x u0 w0 (.string (out ++ b)) (.string b) (.int .i64 ((k + 1 : Nat) : Int)) (w1.setCell ⟨R, 4, none⟩ (.bool tn))) := fun tn htn => by
            refine ⟨k + 1, out ++ b, b, x2, no2, tn, rfl, rfl, rfl, by omega, HF1.out.trans (FrW.set 4 _), HI2.out.setTu tn, hx2, ?_, ?_⟩
            · rw [ByteArray.size_append]; have := HSZ.out; have := HSB.out; omega
            · rw [HKS.out, htn]; exact HGO.out
          clear ha1 hsb hI2 hgo own2 hN2 hV2 HCL HR1 d3 n3 v3 k0
          cases tu2 with
          | true =>
            go_wp2
            go_roundw
            case rel => exact HFI.out true (by simp)
            case measure => simp [intOf]; omega
          | false =>
            rcases hkd with h11 | h12
            · have hk11 : ks = false := by rw [← HKS.out, h11]; rfl
              rw [h11] at n0
              clear h11
              go_wp2
              go_roundw
              case rel => exact HFI.out false (by rw [hk11]; rfl)
              case measure => simp [intOf]; omega
            · have hk12 : ks = true := by rw [← HKS.out, h12]; rfl
              rw [h12] at n0
              clear h12
              go_wp2
              go_roundw
              case rel => exact HFI.out _ (by rw [hk12, Bool.false_or, Bool.true_and]; unfold below; rfl)
              case measure => simp [intOf]; omega
        · have HE := hide (wmanyF_end (by omega) hmm)
          have HTU := hide htu
          clear hmm htu
          go_wp2
          go_ret
          refine ⟨(FrW.of_below HB0.out).trans HF.out, .inl ⟨out, x1, u1, HE.out, rfl, HSZ.out, hx1, ?_⟩⟩
          have := HI1.out
          rwa [HTU.out] at this
  · rw [if_neg q] at hm
    have HR : Hid (r = none) := (Option.some.inj hm).symm
    clear hm
    go_enter Tryz.func107, Tryz.ntmps107
    by_cases q1 : v.text.size = 0
    · have t1 := emp_t q1
      by_cases q2 : v.alt = 0
      · rw [q2]
        have q3 : v.kids < 0 := by
          by_cases h : v.kids < 0
          · exact h
          · exact absurd ⟨q1, q2, by omega⟩ q
        clear q q1 q2
        go_wp2
        refine wp_loop_rounds 1 ?_
        rw [rounds_succ]
        go_wp2
        go_ret
        exact HNO.out HR.out _ _
      · clear q q1
        go_wp2
        refine wp_loop_rounds 1 ?_
        rw [rounds_succ]
        by_cases hk0 : 0 < v.kids
        · go_wp2
          go_ret
          exact HNO.out HR.out _ _
        · go_wp2
          go_ret
          exact HNO.out HR.out _ _
    · have t1 := emp_f (t := v.text) (by omega)
      clear q q1
      go_wp2
      refine wp_loop_rounds 1 ?_
      rw [rounds_succ]
      by_cases hk0 : 0 < v.kids
      · go_wp2
        go_ret
        exact HNO.out HR.out _ _
      · go_wp2
        go_ret
        exact HNO.out HR.out _ _
end Go.Proofs.YtkkicodfpekbgaaGreatDoor
