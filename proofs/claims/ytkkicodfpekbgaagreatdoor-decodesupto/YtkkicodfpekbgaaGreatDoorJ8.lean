/-
  Several texts in one:
  The document's reader: node, of the kinds 1 to 9.
  hallmarkref.Read, of a root of the kinds 1 to 9.
  hallmarkref.Right: what it answers.
  The document's reader, in general: what its methods leave, by the function on plain data; what stays the same throughout.
  Reading on plain data: how many values come of so many bytes. No walk in it.
  The document's reader: one more kid of a value that has been put.
  The document's reader: many, in general.
  The document's reader: seq, in general.
  The document's reader: choice, in general.
-/
import Derived.Test.YtkkicodfpekbgaaGreatDoorJ2
import Derived.Test.YtkkicodfpekbgaaGreatDoorJRwc
import Derived.Test.YtkkicodfpekbgaaGreatDoorJSd
import Derived.Laws.OwnMore
import Derived.Deep.DeepCutAuto
/-! The document's reader: node, of the kinds 1 to 9. -/
namespace Go.Proofs.YtkkicodfpekbgaaGreatDoor
set_option linter.unusedSimpArgs false
set_option linter.unusedVariables false
open Go.RowKit

theorem node_leaf (s : List Nd) (W w : World) (R : Nat) (a : Option Addr) (c : Nat) (data : ByteArray) (tree : List Vl) (p : Int) (i x y : Nat) (dp : Int)
    (h : RdI W w R a s.length c data tree 0 p) (hs : Sch W a s) (hi : i < s.length) (hk1 : 1 ≤ (nd s i).kind) (hk9 : (nd s i).kind ≤ 9) (hmo : 0 ≤ (nd s i).tag → (nd s i).mode = 0 ∨ (nd s i).mode = 1)
    (hxy : x ≤ y) (hy : y ≤ data.size) (hm : data.size ≤ 140737488355328) (ht : tree.length ≤ 1099511627776) :
    Calls Tryz.prog 69 #[.pointer (some ⟨R, 0, none⟩), .int .i64 i, .int .i64 x, .int .i64 y, .int .i64 dp] w
      fun e w' => RetN W R a s.length c data (nd s i) x y dp tree e w' := by
  by_cases htg : (nd s i).tag < 0
  · exact node_leafA s W w R a c data tree p i x y dp h hs hi hk1 hk9 htg hxy hy hm ht
  · have htg' : 0 ≤ (nd s i).tag := by omega
    rcases hmo htg' with hm0 | hm0
    · exact node_leafB s W w R a c data tree p i x y dp h hs hi hk1 hk9 htg' hm0 hxy hy hm ht
    · exact node_leafC s W w R a c data tree p i x y dp h hs hi hk1 hk9 htg' hm0 hxy hy hm ht
end Go.Proofs.YtkkicodfpekbgaaGreatDoor

/-! hallmarkref.Read, of a root of the kinds 1 to 9. -/
namespace Go.Proofs.YtkkicodfpekbgaaGreatDoor
set_option linter.unusedSimpArgs false
set_option linter.unusedVariables false
open Go.RowKit

/-- The whole text is an element of the node, with this content. -/
def ElemOk (N : Nd) (t u : ByteArray) : Prop := NodeAt N t 0 t.size 1 t.size u
/-- What Read answers. -/
def RetRd (N : Nd) (t : ByteArray) (w : World) (e : Ending) (w' : World) : Prop :=
  ∃ (v : Value) (p c : Int), e = .returned (.tuple #[v, .int .i64 p, .int .i64 c]) ∧ Below w.heap.size w w' ∧
    ((c = 0 ∧ p = 0 ∧ ∃ u, ElemOk N t u ∧ w'.ownsRow w.heap.size 60 4 v 1 (vcells [⟨N.kind, u, 0, 0⟩])) ∨ (c ≠ 0 ∧ v = .slice none 0 0 ∧ ∀ u, ¬ ElemOk N t u))

set_option maxHeartbeats 2000000 in
set_option maxRecDepth 100000 in
theorem read_leaf (s : List Nd) (a : Option Addr) (c i : Nat) (t : ByteArray) (w : World) (hs : Sch w a s) (hi : i < s.length) (hk1 : 1 ≤ (nd s i).kind) (hk9 : (nd s i).kind ≤ 9) (hmo : 0 ≤ (nd s i).tag → (nd s i).mode = 0 ∨ (nd s i).mode = 1) (hm : t.size ≤ 140737488355328) :
    Calls Tryz.prog 39 #[.slice a s.length c, .int .i64 i, .string t] w fun e w' => RetRd (nd s i) t w e w' := by
  have HI : Hid (RdI w (w.alloc (rdObj a s.length c t (.slice none 0 0) 0 0)) w.heap.size a s.length c t [] 0 0) := ⟨(Below.refl _ _).alloc (Nat.le_refl _) _, Nat.le_refl _, _, heap_alloc_new w _, World.ownsRow_nil _ _ _ _⟩
  have HN : Hid (Calls Tryz.prog 69 #[.pointer (some ⟨w.heap.size, 0, none⟩), .int .i64 i, .int .i64 0, .int .i64 t.size, .int .i64 1] (w.alloc (rdObj a s.length c t (.slice none 0 0) 0 0)) fun e w' => RetN w w.heap.size a s.length c t (nd s i) 0 t.size 1 [] e w') :=
    node_leaf s w _ w.heap.size a c t [] 0 i 0 t.size 1 HI.out hs hi hk1 hk9 hmo (Nat.zero_le _) (Nat.le_refl _) hm (by simp)
  clear hs hmo
  generalize nd s i = N at *
  unfold rdObj at HN
  go_enter Tryz.func39, Tryz.ntmps39
  go_wp2_with fail
  refine HN.out.mono ?_
  rintro e w1 ⟨v, tree', e', p', rfl, hI1, hD⟩
  have HI1 : Hid (RdI w w1 w.heap.size a s.length c t tree' e' p') := hI1
  have HD : Hid ((e' = 0 ∧ ∃ tq u, v = ((tq : Nat) : Int) ∧ NodeAt N t 0 t.size 1 tq u ∧ tree' = [] ++ [⟨N.kind, u, 0, 0⟩]) ∨ (e' ≠ 0 ∧ ∀ tq u, ¬ NodeAt N t 0 t.size 1 tq u)) := hD
  obtain ⟨_, _, vt, hr, ho⟩ := hI1
  have HO : Hid (w1.ownsRow w.heap.size 60 4 vt tree'.length (vcells tree')) := ho
  unfold rdObj at hr
  have c2 : w1.cell? ⟨w.heap.size, 2, none⟩ = some vt := by simp [World.cell?, hr]
  have c3 : w1.cell? ⟨w.heap.size, 3, none⟩ = some (.int .i64 e') := by simp [World.cell?, hr]
  have c4 : w1.cell? ⟨w.heap.size, 4, none⟩ = some (.int .i64 p') := by simp [World.cell?, hr]
  clear hr ho HN HI
  rcases hD with ⟨rfl, tq, u, rfl, hAt, htr⟩ | ⟨he, hno⟩
  · have hto : tq ≤ t.size := by
      obtain ⟨_, h1, h2, _⟩ := hAt
      have := hd_ok h1
      rw [show (t.extract 0 t.size).size = t.size by simp] at this
      omega
    have HAT : Hid (NodeAt N t 0 t.size 1 tq u) := hAt
    have HTR : Hid (tree' = [⟨N.kind, u, 0, 0⟩]) := htr
    clear hAt htr HD
    by_cases hlt : tq < t.size
    · have hlt' : (tq : Int) < t.size := by omega
      go_wp2_with fail
      refine (stop_first w _ w.heap.size a s.length c t tree' p' 7 tq HI1.out).mono ?_
      rintro e w2 ⟨rfl, hI2, _⟩
      have HI2 : Hid (RdI w w2 w.heap.size a s.length c t tree' 7 tq) := hI2
      obtain ⟨_, _, vt2, hr2, _⟩ := hI2
      unfold rdObj at hr2
      have d3 : w2.cell? ⟨w.heap.size, 3, none⟩ = some (.int .i64 7) := by simp [World.cell?, hr2]
      have d4 : w2.cell? ⟨w.heap.size, 4, none⟩ = some (.int .i64 tq) := by simp [World.cell?, hr2]
      clear hr2 c2 c3 c4
      go_wp2
      go_quiet (fail)
      go_wp2
      refine bodyPost_ret (v := .tuple #[.slice none 0 0, .int .i64 tq, .int .i64 7]) (by simp [results, Tryz.results39, go_sem]) rfl ⟨_, tq, 7, rfl, below_drewN HI2.out.bel _, .inr ⟨by decide, rfl, fun u' q => ?_⟩⟩
      have q1 := q.2.2.1
      have q2 := HAT.out.2.2.1
      omega
    · have hlt' : (t.size : Int) ≤ tq := by omega
      obtain rfl : tq = t.size := by omega
      obtain ⟨ta, tc, rfl, _⟩ : ∃ ta tc, vt = .slice ta tree'.length tc ∧ True := by
        rcases HO.out.2 with ⟨q, q'⟩ | ⟨g, cap, cur, q, _⟩
        · exact ⟨none, 0, by rw [q, q'], trivial⟩
        · exact ⟨_, cap, q, trivial⟩
      go_wp2
      refine bodyPost_ret (v := .tuple #[.slice ta tree'.length tc, .int .i64 0, .int .i64 0]) (by simp [results, Tryz.results39, go_sem]) rfl ⟨_, 0, 0, rfl, HI1.out.bel, .inl ⟨rfl, rfl, u, HAT.out, ?_⟩⟩
      have := HO.out
      rw [HTR.out] at this ⊢
      exact this
  · have HE : Hid (e' ≠ 0) := he
    have HNO : Hid (∀ tq u, ¬ NodeAt N t 0 t.size 1 tq u) := hno
    have he1 : (e' == 0) = false := by simp [he]
    have he2 : (e' != 0) = true := by simp [he]
    clear he hno HD
    go_wp2
    go_quiet (fail)
    go_wp2
    refine bodyPost_ret (v := .tuple #[.slice none 0 0, .int .i64 p', .int .i64 e']) (by simp [results, Tryz.results39, go_sem]) rfl ⟨_, p', e', rfl, below_drewN HI1.out.bel _, .inr ⟨HE.out, rfl, fun u' q => HNO.out _ _ q⟩⟩
end Go.Proofs.YtkkicodfpekbgaaGreatDoor

/-! hallmarkref.Right: what it answers. -/
namespace Go.Proofs.YtkkicodfpekbgaaGreatDoor
set_option linter.unusedSimpArgs false
set_option linter.unusedVariables false
open Go.RowKit

/-- The Defaults of a node's kids are elements of these kids. -/
def DfltOk (s : List Nd) (n : Nd) (m : Nat) : Prop := ∀ j, j < m → (kd n j).dflt.size = 0 ∨ ((nd s (kd n j).node.toNat).kind ≤ 9 ∧ ∃ u, ElemOk (nd s (kd n j).node.toNat) (kd n j).dflt u)
/-- A schema is right. -/
def RightP (s : List Nd) : Prop := 1 ≤ s.length ∧ s.length ≤ 40 ∧ (∀ i, i < s.length → Alone s.length (nd s i)) ∧ (∀ i, i < s.length → ¬ Back s i) ∧
  ∀ i, i < s.length → ((nd s i).kind = 10 ∨ (nd s i).kind = 13 → Told (Common s) (nd s i)) ∧ DfltOk s (nd s i) (nd s i).kids.length
theorem within_of {s : List Nd} (h : ∀ i, i < s.length → Alone s.length (nd s i)) : Within s := fun i hi k hk => by
  obtain ⟨j, hj, e⟩ := List.getElem_of_mem hk
  have := (h i hi).2.2.2 j hj
  unfold kd at this
  rw [List.getD_eq_getElem?_getD, List.getElem?_eq_getElem hj] at this
  simp only [Option.getD_some, e] at this
  exact ⟨this.1, this.2.1⟩
theorem kinds_of {s : List Nd} (h : ∀ i, i < s.length → Alone s.length (nd s i)) : Kinds s := fun i hi => by have := (h i hi).1; unfold Bad1 at this; omega
theorem count8 {s : List Nd} (h : ∀ i, i < s.length → Alone s.length (nd s i)) {i : Nat} (hi : i < s.length) : (nd s i).kids.length ≤ 8 := by
  have := (h i hi).2.2.1
  unfold Count at this
  repeat' split at this
  all_goals omega
theorem mode_of {s : List Nd} (h : ∀ i, i < s.length → Alone s.length (nd s i)) {i : Nat} (hi : i < s.length) : (nd s i).mode = 0 ∨ (nd s i).mode = 1 := by have := (h i hi).1; unfold Bad1 at this; omega

set_option maxHeartbeats 8000000 in
set_option maxRecDepth 100000 in
theorem right_any (s : List Nd) (a : Option Addr) (c : Nat) (w : World) (hs : Sch w a s) (hok : SchOk s) (hn0 : s.length ≤ 140737488351232) :
    Calls Tryz.prog 15 #[.slice a s.length c] w fun e w' => RetO (RightP s) w e w' := by
  have HS : Hid (Sch w a s) := hs
  have HOK : Hid (SchOk s) := hok
  by_cases hb : s.length < 1
  · have hb' : (s.length : Int) < 1 := by omega
    have HX : Hid (¬ RightP s) := fun h => by have := h.1; omega
    clear hs hok
    go_enter Tryz.func15, Tryz.ntmps15
    go_wp2
    go_ret
    exact reto_no HX.out (Below.refl _ _)
  by_cases hb2 : 40 < s.length
  · have hb' : (40 : Int) < s.length := by omega
    have hb1' : (1 : Int) ≤ s.length := by omega
    have HX : Hid (¬ RightP s) := fun h => by have := h.2.1; omega
    clear hs hok hb
    go_enter Tryz.func15, Tryz.ntmps15
    go_wp2
    go_ret
    exact reto_no HX.out (Below.refl _ _)
  have h1 : 1 ≤ s.length := by omega
  have h40 : s.length ≤ 40 := by omega
  have h1' : (1 : Int) ≤ s.length := by omega
  have h40' : (s.length : Int) ≤ 40 := by omega
  clear hb hb2 hs hok hn0
  go_enter Tryz.func15, Tryz.ntmps15
  go_wp2
  go_loopw [3] (fun vi wr => ∃ i : Nat, i ≤ s.length ∧ vi = .int .i64 i ∧ (∀ j, j < i → Alone s.length (nd s j)) ∧ Below w.heap.size w wr) (fun vi _ => s.length - (intOf vi).toNat)
  case atStart => exact ⟨0, Nat.zero_le _, rfl, fun _ h => absurd h (Nat.not_lt_zero _), Below.refl _ _⟩
  case round =>
    obtain ⟨i, hi, rfl, hall, hbr⟩ := hrel
    have HA : Hid (∀ j, j < i → Alone s.length (nd s j)) := hall
    have HB : Hid (Below w.heap.size w wr) := hbr
    clear hall hbr
    by_cases hlt : i < s.length
    · have hlt' : (i : Int) < s.length := by omega
      obtain ⟨b, o, ka, kc, rfl, nc, kl, km, ks⟩ := (HS.out.below HB.out) i hlt
      obtain ⟨n1, n2, n3, n4⟩ := nc
      have HC : Hid (Calls Tryz.prog 36 #[.slice (some ⟨b, o, none⟩) s.length c, .agg #[.int .i64 (nd s i).kind, .int .i64 (nd s i).tag, .int .i64 (nd s i).mode, .slice ka (nd s i).kids.length kc]] wr fun e w' => RetO (Alone s.length (nd s i)) wr e w') := alone_any s _ c (nd s i) ka kc wr h40 ks (by omega)
      clear ks
      go_wp2_with fail
      refine HC.out.mono ?_
      rintro e w1 ⟨r, rfl, hr, hb1⟩
      have HR : Hid (r = true ↔ Alone s.length (nd s i)) := hr
      have HB1 : Hid (Below w.heap.size w w1) := HB.out.trans (hb1.mono HB.out.size)
      clear hr hb1 n1 n2 n3 n4 HC
      cases r
      · go_wp2
        go_ret
        exact reto_no (fun h => Bool.noConfusion (HR.out.2 (h.2.2.1 i hlt))) HB1.out
      · go_wp2
        go_roundw
        case rel => exact ⟨i + 1, by omega, by go_num, fun j hj => by
          by_cases e : j = i
          · subst e; exact HR.out.1 trivial
          · exact HA.out j (by omega), HB1.out⟩
        case measure => simp [intOf]; omega
    · have hlt' : (s.length : Int) ≤ i := by omega
      obtain rfl : i = s.length := by omega
      go_wp2
      go_loopw [5] (fun vi wr => ∃ i : Nat, i ≤ s.length ∧ vi = .int .i64 i ∧ (∀ j, j < i → ¬ Back s j) ∧ Below w.heap.size w wr) (fun vi _ => s.length - (intOf vi).toNat)
      case atStart => exact ⟨0, Nat.zero_le _, rfl, fun _ h => absurd h (Nat.not_lt_zero _), HB.out⟩
      case round =>
        obtain ⟨i, hi, rfl, hall, hbr⟩ := hrel
        have HBK : Hid (∀ j, j < i → ¬ Back s j) := hall
        have HB2 : Hid (Below w.heap.size w wr) := hbr
        clear hall hbr
        by_cases hlt : i < s.length
        · have hlt' : (i : Int) < s.length := by omega
          have HC : Hid (Calls Tryz.prog 37 #[.slice a s.length c, .int .i64 i] wr fun e w' => RetL s i wr e w') := leaves_any s a c i wr (HS.out.below HB2.out) (within_of HA.out) hlt h40
          go_wp2_with fail
          refine HC.out.mono ?_
          rintro e w1 ⟨v, l, bk, rfl, hown, hb1, _, _, hbk⟩
          have HR : Hid (bk = true ↔ Back s i) := hbk
          have HB3 : Hid (Below w.heap.size w w1) := HB2.out.trans (hb1.mono HB2.out.size)
          clear hown hb1 hbk HC
          cases bk
          · go_wp2
            go_roundw
            case rel => exact ⟨i + 1, by omega, by go_num, fun j hj => by
              by_cases e : j = i
              · subst e; exact fun q => Bool.noConfusion (HR.out.2 q)
              · exact HBK.out j (by omega), HB3.out⟩
            case measure => simp [intOf]; omega
          · go_wp2
            go_ret
            exact reto_no (fun h => h.2.2.2.1 i hlt (HR.out.1 trivial)) HB3.out
        · have hlt' : (s.length : Int) ≤ i := by omega
          obtain rfl : i = s.length := by omega
          go_wp2
          go_loopw [8] (fun vi wr => ∃ i : Nat, i ≤ s.length ∧ vi = .int .i64 i ∧ (∀ j, j < i → ((nd s j).kind = 10 ∨ (nd s j).kind = 13 → Told (Common s) (nd s j)) ∧ DfltOk s (nd s j) (nd s j).kids.length) ∧ Below w.heap.size w wr) (fun vi _ => s.length - (intOf vi).toNat)
          case atStart => exact ⟨0, Nat.zero_le _, rfl, fun _ h => absurd h (Nat.not_lt_zero _), HB2.out⟩
          case round =>
            obtain ⟨i, hi, rfl, hall, hbr⟩ := hrel
            have HL : Hid (∀ j, j < i → ((nd s j).kind = 10 ∨ (nd s j).kind = 13 → Told (Common s) (nd s j)) ∧ DfltOk s (nd s j) (nd s j).kids.length) := hall
            have HB3 : Hid (Below w.heap.size w wr) := hbr
            clear hall hbr
            by_cases hlt : i < s.length
            · have hlt' : (i : Int) < s.length := by omega
              obtain ⟨b, o, ka, kc, rfl, nc, kl, km, ks⟩ := HS.out i hlt
              obtain ⟨n1, n2, n3, n4⟩ := nc.below HB3.out
              have KS : Hid (KidsIn w ka (nd s i).kids) := ks
              have h8 := count8 HA.out hlt
              obtain ⟨Bn, hBn⟩ : ∃ Bn, Bn = wr.heap.size := ⟨_, rfl⟩
              have HBN : Hid (Bn = wr.heap.size) := hBn
              have HB4' : Hid (Below w.heap.size w (wr.alloc (.cells #[.int .i64 (nd s i).kind, .int .i64 (nd s i).tag, .int .i64 (nd s i).mode, .slice ka (nd s i).kids.length kc] 58))) := HB3.out.alloc HB3.out.size _
              have W3' : (wr.alloc (.cells #[.int .i64 (nd s i).kind, .int .i64 (nd s i).tag, .int .i64 (nd s i).mode, .slice ka (nd s i).kids.length kc] 58)).cell? ⟨Bn, 3, none⟩ = some (.slice ka (nd s i).kids.length kc) := by rw [hBn]; simp
              clear ks nc hBn
              by_cases hk : (nd s i).kind = 10 ∨ (nd s i).kind = 13
              · have hkb : ((nd s i).kind == 10) = true ∨ (((nd s i).kind == 10) = false ∧ ((nd s i).kind == 13) = true) := by
                  rcases hk with hk | hk
                  · left; simp [hk]
                  · right; simp [hk]
                have HTD : Hid (Calls Tryz.prog 38 #[.slice (some ⟨b, o, none⟩) s.length c, .agg #[.int .i64 (nd s i).kind, .int .i64 (nd s i).tag, .int .i64 (nd s i).mode, .slice ka (nd s i).kids.length kc]] (wr.alloc (.cells #[.int .i64 (nd s i).kind, .int .i64 (nd s i).tag, .int .i64 (nd s i).mode, .slice ka (nd s i).kids.length kc] 58)) fun e w' => RetO (Told (Common s) (nd s i)) (wr.alloc (.cells #[.int .i64 (nd s i).kind, .int .i64 (nd s i).tag, .int .i64 (nd s i).mode, .slice ka (nd s i).kids.length kc] 58)) e w') :=
                  told_any s _ c i ka kc _ (HS.out.below HB4'.out) (within_of HA.out) (kinds_of HA.out) hlt h40 (KS.out.below HB4'.out) h8
                have HK : Hid ((nd s i).kind = 10 ∨ (nd s i).kind = 13) := hk
                clear hk
                rcases hkb with e1 | ⟨e1, e2⟩
                · go_wp2_with fail
                  refine HTD.out.mono ?_
                  rintro e W1 ⟨r, rfl, hr, hb4⟩
                  have HR : Hid (r = true ↔ Told (Common s) (nd s i)) := hr
                  have HB4 : Hid (Below w.heap.size w W1) := HB4'.out.trans (hb4.mono HB4'.out.size)
                  have W3 : W1.cell? ⟨Bn, 3, none⟩ = some (.slice ka (nd s i).kids.length kc) := (hb4.cell (lt_of_cell W3')).trans W3'
                  clear hr hb4 n1 n2 n3 n4 W3' HTD
                  cases r
                  · go_wp2
                    go_ret
                    exact reto_no (fun h => Bool.noConfusion (HR.out.2 ((h.2.2.2.2 i hlt).1 HK.out))) HB4.out
                  · go_wp2
                    rw [← HBN.out]
                    go_loopw [11] (fun vj wx => ∃ j : Nat, j ≤ (nd s i).kids.length ∧ vj = .int .i64 j ∧ DfltOk s (nd s i) j ∧ Below W1.heap.size W1 wx) (fun vj _ => (nd s i).kids.length - (intOf vj).toNat)
                    case atStart => exact ⟨0, Nat.zero_le _, rfl, fun _ h => absurd h (Nat.not_lt_zero _), Below.refl _ _⟩
                    case round =>
                      obtain ⟨j, hj, rfl, hdf, hbr⟩ := hrel
                      have HDF : Hid (DfltOk s (nd s i) j) := hdf
                      have HBX : Hid (Below W1.heap.size W1 wr) := hbr
                      have HBW : Hid (Below w.heap.size w wr) := HB4.out.trans (hbr.mono HB4.out.size)
                      have g3 : wr.cell? ⟨Bn, 3, none⟩ = some (.slice ka (nd s i).kids.length kc) := (hbr.cell (lt_of_cell W3)).trans W3
                      clear hdf hbr
                      by_cases hjl : j < (nd s i).kids.length
                      · have hjl' : (j : Int) < (nd s i).kids.length := by omega
                        obtain ⟨kb, ko, rfl, kcl⟩ := KS.out j hjl
                        obtain ⟨y, hy⟩ : ∃ y, kd (nd s i) j = y := ⟨_, rfl⟩
                        have HY : Hid (kd (nd s i) j = y) := hy
                        have hkc : KidCells w kb (ko + j * 3) y := by rw [← hy]; exact kcl
                        obtain ⟨k1, k2, k3⟩ := hkc.below HBW.out
                        have hko := (HA.out i hlt).2.2.2 j hjl
                        rw [hy] at hko
                        obtain ⟨t, ht⟩ : ∃ t : Nat, y.node = t := ⟨_, (Int.toNat_of_nonneg hko.1).symm⟩
                        have HT : Hid (y.node = t) := ht
                        have htl : t < s.length := by have := hko.2.1; omega
                        have htl' : (t : Int) < s.length := by omega
                        have hds : y.dflt.size ≤ 140737488351232 := HOK.out i hlt y (by rw [← hy]; unfold kd; rw [List.getD_eq_getElem?_getD, List.getElem?_eq_getElem hjl]; exact List.getElem_mem hjl)
                        rw [ht] at k1
                        have YES : Hid ((y.dflt.size = 0 ∨ ((nd s t).kind ≤ 9 ∧ ∃ u, ElemOk (nd s t) y.dflt u)) → DfltOk s (nd s i) (j + 1)) := fun h q hq => by
                          by_cases e : q = j
                          · subst e; rw [HY.out, HT.out]; exact h
                          · exact HDF.out q (by omega)
                        have NO : Hid (¬ (y.dflt.size = 0 ∨ ((nd s t).kind ≤ 9 ∧ ∃ u, ElemOk (nd s t) y.dflt u)) → ¬ RightP s) := fun h q => h (by have := (q.2.2.2.2 i hlt).2 j hjl; rw [HY.out, HT.out] at this; exact this)
                        clear hy kcl hkc hko ht
                        by_cases hz : y.dflt.size = 0
                        · have e := emp_t hz
                          have HZ : Hid (y.dflt.size = 0) := hz
                          have HB5 : Hid (∀ o, Below W1.heap.size W1 (wr.alloc o)) := fun o => HBX.out.alloc HBX.out.size o
                          clear hz
                          go_wp2
                          go_roundw
                          case rel => exact ⟨j + 1, by omega, by go_num, YES.out (.inl HZ.out), HB5.out _⟩
                          case measure => simp [intOf]; omega
                        · have e := emp_f (t := y.dflt) (by omega)
                          have HZ : Hid (¬ y.dflt.size = 0) := hz
                          obtain ⟨b', o', ka', kc', e', nc', _, _, _⟩ := (HS.out.below HBW.out) t htl
                          have nt := nc'.kind
                          obtain ⟨rfl, rfl⟩ : b = b' ∧ o = o' := by injection e' with e'; injection e' with a1 a2 _; exact ⟨a1, a2⟩
                          have hbl := lt_of_cell nt
                          simp only at hbl
                          clear hz e' nc'
                          by_cases hk9 : 9 < (nd s t).kind
                          · have HK : Hid (9 < (nd s t).kind) := hk9
                            have HB6 : Hid (∀ o, Below w.heap.size w (wr.alloc o)) := fun o => HBW.out.alloc HBW.out.size o
                            go_wp2
                            go_ret
                            exact reto_no (NO.out (fun q => by rcases q with q | q; exact HZ.out q; have := HK.out; have := q.1; omega)) (HB6.out _)
                          · have hk9' : (nd s t).kind ≤ 9 := by omega
                            have HK : Hid ((nd s t).kind ≤ 9) := hk9'
                            have HB6 : Hid (∀ o, Below w.heap.size w (wr.alloc o)) := fun o => HBW.out.alloc HBW.out.size o
                            have HB7 : Hid (∀ o, Below W1.heap.size W1 (wr.alloc o)) := fun o => HBX.out.alloc HBX.out.size o
                            have HRD : Hid (∀ wq, Below w.heap.size w wq → Calls Tryz.prog 39 #[.slice (some ⟨b, o, none⟩) s.length c, .int .i64 t, .string y.dflt] wq fun e w' => RetRd (nd s t) y.dflt wq e w') := fun wq hq => read_leaf s _ c t y.dflt wq (HS.out.below hq) htl (kinds_of HA.out t htl).1 hk9' (fun _ => mode_of HA.out htl) (by omega)
                            clear hk9
                            go_wp2_with fail
                            refine (HRD.out _ (HB6.out _)).mono ?_
                            rintro e w5 ⟨v5, p5, c5, rfl, hb5, hD⟩
                            have HD : Hid ((c5 = 0 ∧ p5 = 0 ∧ ∃ u, ElemOk (nd s t) y.dflt u ∧ w5.ownsRow _ 60 4 v5 1 (vcells [⟨(nd s t).kind, u, 0, 0⟩])) ∨ (c5 ≠ 0 ∧ v5 = .slice none 0 0 ∧ ∀ u, ¬ ElemOk (nd s t) y.dflt u)) := hD
                            have HB8 : Hid (Below w.heap.size w w5) := (HB6.out _).trans (hb5.mono (HB6.out _).size)
                            have HB9 : Hid (Below W1.heap.size W1 w5) := (HB7.out _).trans (hb5.mono (HB7.out _).size)
                            clear hb5
                            rcases hD with ⟨rfl, _, u, hu, _⟩ | ⟨hne, _, hno⟩
                            · have HU : Hid (ElemOk (nd s t) y.dflt u) := hu
                              clear hu HD
                              go_wp2
                              go_roundw
                              case rel => exact ⟨j + 1, by omega, by go_num, YES.out (.inr ⟨HK.out, u, HU.out⟩), HB9.out⟩
                              case measure => simp [intOf]; omega
                            · have hne' : (c5 != 0) = true := by simp [hne]
                              have HNO : Hid (∀ u, ¬ ElemOk (nd s t) y.dflt u) := hno
                              clear hno hne HD
                              go_wp2
                              go_ret
                              exact reto_no (NO.out (fun q => by rcases q with q | ⟨_, u, q⟩; exact HZ.out q; exact HNO.out u q)) HB8.out
                      · have hjl' : ((nd s i).kids.length : Int) ≤ j := by omega
                        obtain rfl : j = (nd s i).kids.length := by omega
                        go_wp2
                        go_roundw
                        case rel => exact ⟨i + 1, by omega, by go_num, fun q hq => by
                          by_cases e : q = i
                          · subst e; exact ⟨fun _ => HR.out.1 trivial, HDF.out⟩
                          · exact HL.out q (by omega), HBW.out⟩
                        case measure => simp [intOf]; omega
                · go_wp2_with fail
                  refine HTD.out.mono ?_
                  rintro e W1 ⟨r, rfl, hr, hb4⟩
                  have HR : Hid (r = true ↔ Told (Common s) (nd s i)) := hr
                  have HB4 : Hid (Below w.heap.size w W1) := HB4'.out.trans (hb4.mono HB4'.out.size)
                  have W3 : W1.cell? ⟨Bn, 3, none⟩ = some (.slice ka (nd s i).kids.length kc) := (hb4.cell (lt_of_cell W3')).trans W3'
                  clear hr hb4 n1 n2 n3 n4 W3' HTD
                  cases r
                  · go_wp2
                    go_ret
                    exact reto_no (fun h => Bool.noConfusion (HR.out.2 ((h.2.2.2.2 i hlt).1 HK.out))) HB4.out
                  · go_wp2
                    rw [← HBN.out]
                    go_loopw [11] (fun vj wx => ∃ j : Nat, j ≤ (nd s i).kids.length ∧ vj = .int .i64 j ∧ DfltOk s (nd s i) j ∧ Below W1.heap.size W1 wx) (fun vj _ => (nd s i).kids.length - (intOf vj).toNat)
                    case atStart => exact ⟨0, Nat.zero_le _, rfl, fun _ h => absurd h (Nat.not_lt_zero _), Below.refl _ _⟩
                    case round =>
                      obtain ⟨j, hj, rfl, hdf, hbr⟩ := hrel
                      have HDF : Hid (DfltOk s (nd s i) j) := hdf
                      have HBX : Hid (Below W1.heap.size W1 wr) := hbr
                      have HBW : Hid (Below w.heap.size w wr) := HB4.out.trans (hbr.mono HB4.out.size)
                      have g3 : wr.cell? ⟨Bn, 3, none⟩ = some (.slice ka (nd s i).kids.length kc) := (hbr.cell (lt_of_cell W3)).trans W3
                      clear hdf hbr
                      by_cases hjl : j < (nd s i).kids.length
                      · have hjl' : (j : Int) < (nd s i).kids.length := by omega
                        obtain ⟨kb, ko, rfl, kcl⟩ := KS.out j hjl
                        obtain ⟨y, hy⟩ : ∃ y, kd (nd s i) j = y := ⟨_, rfl⟩
                        have HY : Hid (kd (nd s i) j = y) := hy
                        have hkc : KidCells w kb (ko + j * 3) y := by rw [← hy]; exact kcl
                        obtain ⟨k1, k2, k3⟩ := hkc.below HBW.out
                        have hko := (HA.out i hlt).2.2.2 j hjl
                        rw [hy] at hko
                        obtain ⟨t, ht⟩ : ∃ t : Nat, y.node = t := ⟨_, (Int.toNat_of_nonneg hko.1).symm⟩
                        have HT : Hid (y.node = t) := ht
                        have htl : t < s.length := by have := hko.2.1; omega
                        have htl' : (t : Int) < s.length := by omega
                        have hds : y.dflt.size ≤ 140737488351232 := HOK.out i hlt y (by rw [← hy]; unfold kd; rw [List.getD_eq_getElem?_getD, List.getElem?_eq_getElem hjl]; exact List.getElem_mem hjl)
                        rw [ht] at k1
                        have YES : Hid ((y.dflt.size = 0 ∨ ((nd s t).kind ≤ 9 ∧ ∃ u, ElemOk (nd s t) y.dflt u)) → DfltOk s (nd s i) (j + 1)) := fun h q hq => by
                          by_cases e : q = j
                          · subst e; rw [HY.out, HT.out]; exact h
                          · exact HDF.out q (by omega)
                        have NO : Hid (¬ (y.dflt.size = 0 ∨ ((nd s t).kind ≤ 9 ∧ ∃ u, ElemOk (nd s t) y.dflt u)) → ¬ RightP s) := fun h q => h (by have := (q.2.2.2.2 i hlt).2 j hjl; rw [HY.out, HT.out] at this; exact this)
                        clear hy kcl hkc hko ht
                        by_cases hz : y.dflt.size = 0
                        · have e := emp_t hz
                          have HZ : Hid (y.dflt.size = 0) := hz
                          have HB5 : Hid (∀ o, Below W1.heap.size W1 (wr.alloc o)) := fun o => HBX.out.alloc HBX.out.size o
                          clear hz
                          go_wp2
                          go_roundw
                          case rel => exact ⟨j + 1, by omega, by go_num, YES.out (.inl HZ.out), HB5.out _⟩
                          case measure => simp [intOf]; omega
                        · have e := emp_f (t := y.dflt) (by omega)
                          have HZ : Hid (¬ y.dflt.size = 0) := hz
                          obtain ⟨b', o', ka', kc', e', nc', _, _, _⟩ := (HS.out.below HBW.out) t htl
                          have nt := nc'.kind
                          obtain ⟨rfl, rfl⟩ : b = b' ∧ o = o' := by injection e' with e'; injection e' with a1 a2 _; exact ⟨a1, a2⟩
                          have hbl := lt_of_cell nt
                          simp only at hbl
                          clear hz e' nc'
                          by_cases hk9 : 9 < (nd s t).kind
                          · have HK : Hid (9 < (nd s t).kind) := hk9
                            have HB6 : Hid (∀ o, Below w.heap.size w (wr.alloc o)) := fun o => HBW.out.alloc HBW.out.size o
                            go_wp2
                            go_ret
                            exact reto_no (NO.out (fun q => by rcases q with q | q; exact HZ.out q; have := HK.out; have := q.1; omega)) (HB6.out _)
                          · have hk9' : (nd s t).kind ≤ 9 := by omega
                            have HK : Hid ((nd s t).kind ≤ 9) := hk9'
                            have HB6 : Hid (∀ o, Below w.heap.size w (wr.alloc o)) := fun o => HBW.out.alloc HBW.out.size o
                            have HB7 : Hid (∀ o, Below W1.heap.size W1 (wr.alloc o)) := fun o => HBX.out.alloc HBX.out.size o
                            have HRD : Hid (∀ wq, Below w.heap.size w wq → Calls Tryz.prog 39 #[.slice (some ⟨b, o, none⟩) s.length c, .int .i64 t, .string y.dflt] wq fun e w' => RetRd (nd s t) y.dflt wq e w') := fun wq hq => read_leaf s _ c t y.dflt wq (HS.out.below hq) htl (kinds_of HA.out t htl).1 hk9' (fun _ => mode_of HA.out htl) (by omega)
                            clear hk9
                            go_wp2_with fail
                            refine (HRD.out _ (HB6.out _)).mono ?_
                            rintro e w5 ⟨v5, p5, c5, rfl, hb5, hD⟩
                            have HD : Hid ((c5 = 0 ∧ p5 = 0 ∧ ∃ u, ElemOk (nd s t) y.dflt u ∧ w5.ownsRow _ 60 4 v5 1 (vcells [⟨(nd s t).kind, u, 0, 0⟩])) ∨ (c5 ≠ 0 ∧ v5 = .slice none 0 0 ∧ ∀ u, ¬ ElemOk (nd s t) y.dflt u)) := hD
                            have HB8 : Hid (Below w.heap.size w w5) := (HB6.out _).trans (hb5.mono (HB6.out _).size)
                            have HB9 : Hid (Below W1.heap.size W1 w5) := (HB7.out _).trans (hb5.mono (HB7.out _).size)
                            clear hb5
                            rcases hD with ⟨rfl, _, u, hu, _⟩ | ⟨hne, _, hno⟩
                            · have HU : Hid (ElemOk (nd s t) y.dflt u) := hu
                              clear hu HD
                              go_wp2
                              go_roundw
                              case rel => exact ⟨j + 1, by omega, by go_num, YES.out (.inr ⟨HK.out, u, HU.out⟩), HB9.out⟩
                              case measure => simp [intOf]; omega
                            · have hne' : (c5 != 0) = true := by simp [hne]
                              have HNO : Hid (∀ u, ¬ ElemOk (nd s t) y.dflt u) := hno
                              clear hno hne HD
                              go_wp2
                              go_ret
                              exact reto_no (NO.out (fun q => by rcases q with q | ⟨_, u, q⟩; exact HZ.out q; exact HNO.out u q)) HB8.out
                      · have hjl' : ((nd s i).kids.length : Int) ≤ j := by omega
                        obtain rfl : j = (nd s i).kids.length := by omega
                        go_wp2
                        go_roundw
                        case rel => exact ⟨i + 1, by omega, by go_num, fun q hq => by
                          by_cases e : q = i
                          · subst e; exact ⟨fun _ => HR.out.1 trivial, HDF.out⟩
                          · exact HL.out q (by omega), HBW.out⟩
                        case measure => simp [intOf]; omega
              · have e1 : ((nd s i).kind == 10) = false := by simp; exact fun q => hk (.inl q)
                have e2 : ((nd s i).kind == 13) = false := by simp; exact fun q => hk (.inr q)
                have HK : Hid (¬ ((nd s i).kind = 10 ∨ (nd s i).kind = 13)) := hk
                have W3 := W3'
                have HB4 := HB4'
                clear hk W3' HB4'
                go_wp2
                rw [← HBN.out]
                generalize (wr.alloc (.cells #[.int .i64 (nd s i).kind, .int .i64 (nd s i).tag, .int .i64 (nd s i).mode, .slice ka (nd s i).kids.length kc] 58)) = W1 at *
                go_loopw [11] (fun vj wx => ∃ j : Nat, j ≤ (nd s i).kids.length ∧ vj = .int .i64 j ∧ DfltOk s (nd s i) j ∧ Below W1.heap.size W1 wx) (fun vj _ => (nd s i).kids.length - (intOf vj).toNat)
                case atStart => exact ⟨0, Nat.zero_le _, rfl, fun _ h => absurd h (Nat.not_lt_zero _), Below.refl _ _⟩
                case round =>
                  obtain ⟨j, hj, rfl, hdf, hbr⟩ := hrel
                  have HDF : Hid (DfltOk s (nd s i) j) := hdf
                  have HBX : Hid (Below W1.heap.size W1 wr) := hbr
                  have HBW : Hid (Below w.heap.size w wr) := HB4.out.trans (hbr.mono HB4.out.size)
                  have g3 : wr.cell? ⟨Bn, 3, none⟩ = some (.slice ka (nd s i).kids.length kc) := (hbr.cell (lt_of_cell W3)).trans W3
                  clear hdf hbr
                  by_cases hjl : j < (nd s i).kids.length
                  · have hjl' : (j : Int) < (nd s i).kids.length := by omega
                    obtain ⟨kb, ko, rfl, kcl⟩ := KS.out j hjl
                    obtain ⟨y, hy⟩ : ∃ y, kd (nd s i) j = y := ⟨_, rfl⟩
                    have HY : Hid (kd (nd s i) j = y) := hy
                    have hkc : KidCells w kb (ko + j * 3) y := by rw [← hy]; exact kcl
                    obtain ⟨k1, k2, k3⟩ := hkc.below HBW.out
                    have hko := (HA.out i hlt).2.2.2 j hjl
                    rw [hy] at hko
                    obtain ⟨t, ht⟩ : ∃ t : Nat, y.node = t := ⟨_, (Int.toNat_of_nonneg hko.1).symm⟩
                    have HT : Hid (y.node = t) := ht
                    have htl : t < s.length := by have := hko.2.1; omega
                    have htl' : (t : Int) < s.length := by omega
                    have hds : y.dflt.size ≤ 140737488351232 := HOK.out i hlt y (by rw [← hy]; unfold kd; rw [List.getD_eq_getElem?_getD, List.getElem?_eq_getElem hjl]; exact List.getElem_mem hjl)
                    rw [ht] at k1
                    have YES : Hid ((y.dflt.size = 0 ∨ ((nd s t).kind ≤ 9 ∧ ∃ u, ElemOk (nd s t) y.dflt u)) → DfltOk s (nd s i) (j + 1)) := fun h q hq => by
                      by_cases e : q = j
                      · subst e; rw [HY.out, HT.out]; exact h
                      · exact HDF.out q (by omega)
                    have NO : Hid (¬ (y.dflt.size = 0 ∨ ((nd s t).kind ≤ 9 ∧ ∃ u, ElemOk (nd s t) y.dflt u)) → ¬ RightP s) := fun h q => h (by have := (q.2.2.2.2 i hlt).2 j hjl; rw [HY.out, HT.out] at this; exact this)
                    clear hy kcl hkc hko ht
                    by_cases hz : y.dflt.size = 0
                    · have e := emp_t hz
                      have HZ : Hid (y.dflt.size = 0) := hz
                      have HB5 : Hid (∀ o, Below W1.heap.size W1 (wr.alloc o)) := fun o => HBX.out.alloc HBX.out.size o
                      clear hz
                      go_wp2
                      go_roundw
                      case rel => exact ⟨j + 1, by omega, by go_num, YES.out (.inl HZ.out), HB5.out _⟩
                      case measure => simp [intOf]; omega
                    · have e := emp_f (t := y.dflt) (by omega)
                      have HZ : Hid (¬ y.dflt.size = 0) := hz
                      obtain ⟨b', o', ka', kc', e', nc', _, _, _⟩ := (HS.out.below HBW.out) t htl
                      have nt := nc'.kind
                      obtain ⟨rfl, rfl⟩ : b = b' ∧ o = o' := by injection e' with e'; injection e' with a1 a2 _; exact ⟨a1, a2⟩
                      have hbl := lt_of_cell nt
                      simp only at hbl
                      clear hz e' nc'
                      by_cases hk9 : 9 < (nd s t).kind
                      · have HK : Hid (9 < (nd s t).kind) := hk9
                        have HB6 : Hid (∀ o, Below w.heap.size w (wr.alloc o)) := fun o => HBW.out.alloc HBW.out.size o
                        go_wp2
                        go_ret
                        exact reto_no (NO.out (fun q => by rcases q with q | q; exact HZ.out q; have := HK.out; have := q.1; omega)) (HB6.out _)
                      · have hk9' : (nd s t).kind ≤ 9 := by omega
                        have HK : Hid ((nd s t).kind ≤ 9) := hk9'
                        have HB6 : Hid (∀ o, Below w.heap.size w (wr.alloc o)) := fun o => HBW.out.alloc HBW.out.size o
                        have HB7 : Hid (∀ o, Below W1.heap.size W1 (wr.alloc o)) := fun o => HBX.out.alloc HBX.out.size o
                        have HRD : Hid (∀ wq, Below w.heap.size w wq → Calls Tryz.prog 39 #[.slice (some ⟨b, o, none⟩) s.length c, .int .i64 t, .string y.dflt] wq fun e w' => RetRd (nd s t) y.dflt wq e w') := fun wq hq => read_leaf s _ c t y.dflt wq (HS.out.below hq) htl (kinds_of HA.out t htl).1 hk9' (fun _ => mode_of HA.out htl) (by omega)
                        clear hk9
                        go_wp2_with fail
                        refine (HRD.out _ (HB6.out _)).mono ?_
                        rintro e w5 ⟨v5, p5, c5, rfl, hb5, hD⟩
                        have HD : Hid ((c5 = 0 ∧ p5 = 0 ∧ ∃ u, ElemOk (nd s t) y.dflt u ∧ w5.ownsRow _ 60 4 v5 1 (vcells [⟨(nd s t).kind, u, 0, 0⟩])) ∨ (c5 ≠ 0 ∧ v5 = .slice none 0 0 ∧ ∀ u, ¬ ElemOk (nd s t) y.dflt u)) := hD
                        have HB8 : Hid (Below w.heap.size w w5) := (HB6.out _).trans (hb5.mono (HB6.out _).size)
                        have HB9 : Hid (Below W1.heap.size W1 w5) := (HB7.out _).trans (hb5.mono (HB7.out _).size)
                        clear hb5
                        rcases hD with ⟨rfl, _, u, hu, _⟩ | ⟨hne, _, hno⟩
                        · have HU : Hid (ElemOk (nd s t) y.dflt u) := hu
                          clear hu HD
                          go_wp2
                          go_roundw
                          case rel => exact ⟨j + 1, by omega, by go_num, YES.out (.inr ⟨HK.out, u, HU.out⟩), HB9.out⟩
                          case measure => simp [intOf]; omega
                        · have hne' : (c5 != 0) = true := by simp [hne]
                          have HNO : Hid (∀ u, ¬ ElemOk (nd s t) y.dflt u) := hno
                          clear hno hne HD
                          go_wp2
                          go_ret
                          exact reto_no (NO.out (fun q => by rcases q with q | ⟨_, u, q⟩; exact HZ.out q; exact HNO.out u q)) HB8.out
                  · have hjl' : ((nd s i).kids.length : Int) ≤ j := by omega
                    obtain rfl : j = (nd s i).kids.length := by omega
                    go_wp2
                    go_roundw
                    case rel => exact ⟨i + 1, by omega, by go_num, fun q hq => by
                      by_cases e : q = i
                      · subst e; exact ⟨fun q => absurd q HK.out, HDF.out⟩
                      · exact HL.out q (by omega), HBW.out⟩
                    case measure => simp [intOf]; omega
            · have hlt' : (s.length : Int) ≤ i := by omega
              obtain rfl : i = s.length := by omega
              go_wp2
              go_ret
              exact reto_yes ⟨h1, h40, HA.out, HBK.out, HL.out⟩ HB3.out
end Go.Proofs.YtkkicodfpekbgaaGreatDoor

/-! The document's reader, in general: what its methods leave, by the function on plain data; what stays the same throughout. -/
namespace Go.Proofs.YtkkicodfpekbgaaGreatDoor
set_option linter.unusedSimpArgs false
set_option linter.unusedVariables false
open Go.RowKit

theorem RightP.fine {s : List Nd} (h : RightP s) : Fine s where
  within := within_of h.2.2.1
  back := h.2.2.2.1
  len := h.2.1
  tagged := fun i hi hk ht hm => by have := (h.2.2.1 i hi).2.1; unfold Bad2 at this; omega
  one := fun i hi hk => by
    have := (h.2.2.1 i hi).2.2.1
    unfold Count at this
    rw [if_neg (by omega), if_pos hk] at this
    exact this
  eight := fun i hi => by
    have := (h.2.2.1 i hi).2.2.1
    unfold Count at this
    repeat' split at this
    all_goals omega

/-- What reads: the schema is right and lies in memory; the functions of the environment are what they say. -/
structure RC (E : Env) (W : World) (a : Option Addr) : Prop where
  sch : Sch W a E.s
  right : RightP E.s
  sok : SchOk E.s
  bg : ∀ i, i < E.s.length → ∀ c m, E.bg i c m = true ↔ Beg E.s i c m
  ok : ∀ k t, E.ok k t = true ↔ ContentOk k t
  size : E.d.size ≤ 4000
/-- What a method leaves, by what reading comes to. -/
def OutIs (o : Out) (tree tree' : List Vl) (e' p p' : Int) : Prop :=
  match o with
  | .error (e, q) => e' = e ∧ p' = q ∧ e ≠ 0
  | .ok (vs, _) => e' = 0 ∧ tree' = tree ++ vs ∧ p' = p
/-- .. in memory. -/
def AfterR (E : Env) (W : World) (R : Nat) (a : Option Addr) (c : Nat) (o : Out) (tree : List Vl) (p : Int) (w w' : World) : Prop :=
  ∃ tree' e' p', RdI W w' R a E.s.length c E.d tree' e' p' ∧ OutIs o tree tree' e' p p' ∧ Fr R w w'
/-- Room for as many values as may come. -/
def Room (tree : List Vl) (f x y : Nat) : Prop := tree.length + 10 * f + 100 * (y - x) ≤ 1099511627776
/-- What node answers, with so much fuel. -/
def NodeC (E : Env) (W : World) (R : Nat) (a : Option Addr) (c f : Nat) : Prop :=
  ∀ (i x y : Nat) (dp : Int) (o : Out) (tree : List Vl) (p : Int) (w : World), rdF E f i x y dp = some o → i < E.s.length → x ≤ y → y ≤ E.d.size → 1 ≤ dp → dp ≤ 13 → Room tree f x y → RdI W w R a E.s.length c E.d tree 0 p →
    Calls Tryz.prog 69 #[.pointer (some ⟨R, 0, none⟩), .int .i64 i, .int .i64 x, .int .i64 y, .int .i64 dp] w fun e w' => ∃ v : Int, e = .returned (.int .i64 v) ∧ AfterR E W R a c o tree p w w' ∧ ∀ vs z, o = .ok (vs, z) → v = z

theorem RdI.r0 {W w : World} {R : Nat} {a : Option Addr} {n c : Nat} {data : ByteArray} {tree : List Vl} {e p : Int} (h : RdI W w R a n c data tree e p) : w.cell? ⟨R, 0, none⟩ = some (.slice a n c) := by
  obtain ⟨_, _, vt, hr, _⟩ := h; unfold rdObj at hr; simp [World.cell?, hr]
theorem RdI.r1 {W w : World} {R : Nat} {a : Option Addr} {n c : Nat} {data : ByteArray} {tree : List Vl} {e p : Int} (h : RdI W w R a n c data tree e p) : w.cell? ⟨R, 1, none⟩ = some (.string data) := by
  obtain ⟨_, _, vt, hr, _⟩ := h; unfold rdObj at hr; simp [World.cell?, hr]
theorem RdI.r3 {W w : World} {R : Nat} {a : Option Addr} {n c : Nat} {data : ByteArray} {tree : List Vl} {e p : Int} (h : RdI W w R a n c data tree e p) : w.cell? ⟨R, 3, none⟩ = some (.int .i64 e) := by
  obtain ⟨_, _, vt, hr, _⟩ := h; unfold rdObj at hr; simp [World.cell?, hr]
theorem cell_of_row {w : World} {k : Nat} {A : Array Value} {T : TypeId} (h : w.heap[k]? = some (.cells A T (0, 0))) {i : Nat} {u : Value} (hi : A[i]? = some u) : w.cell? ⟨k, i, none⟩ = some u := by
  simp [World.cell?, h, hi]
theorem Fr.below {R : Nat} {w w1 w2 : World} (h : Fr R w w1) (hb : Below w1.heap.size w1 w2) : Fr R w w2 := h.trans (Fr.of_below hb)
theorem AfterR.of {E : Env} {W : World} {R : Nat} {a : Option Addr} {c : Nat} {o : Out} {tree : List Vl} {p : Int} {w w1 w' : World} (h : AfterR E W R a c o tree p w1 w') (hf : Fr R w w1) : AfterR E W R a c o tree p w w' := by
  obtain ⟨t, e, q, h1, h2, h3⟩ := h
  exact ⟨t, e, q, h1, h2, hf.trans h3⟩
theorem drop_kid {n : Nd} {j : Nat} (h : j < n.kids.length) : n.kids.drop j = kd n j :: n.kids.drop (j + 1) := by
  rw [List.drop_eq_getElem_cons h]
  congr 1
  unfold kd
  rw [List.getD_eq_getElem?_getD, List.getElem?_eq_getElem h]; rfl
theorem andThen_cases {α : Type} {o : Option Out} {k : List Vl → Nat → Option (Except (Int × Int) α)} {v : Except (Int × Int) α} (h : Out.andThen o k = some v) : (∃ e, o = some (.error e) ∧ v = .error e) ∨ ∃ vs z, o = some (.ok (vs, z)) ∧ k vs z = some v := by
  unfold Out.andThen at h
  split at h
  · cases h
  · rename_i e; exact .inl ⟨e, rfl, (Option.some.inj h).symm⟩
  · rename_i vs z; exact .inr ⟨vs, z, rfl, h⟩

/-! ### Errors that are told are errors -/
def IsErr (o : Out) : Prop := ∀ e q, o = .error (e, q) → e ≠ 0
theorem choiceF_err {E : Env} {rec : Rec} (hr : ∀ i x y dp o, rec i x y dp = some o → IsErr o) {h : Hd} {x tz : Nat} {dp : Int} : ∀ (ks : List Kd) (j : Nat) {o : Out}, choiceF E rec h x tz dp ks j = some o → IsErr o
  | [], _, o, e => by unfold choiceF at e; cases e; intro a b q; cases q; decide
  | k :: ks, j, o, e => by
    unfold choiceF at e
    split at e
    · rcases andThen_cases e with ⟨u, h1, rfl⟩ | ⟨vs, z, h1, h2⟩
      · exact hr _ _ _ _ _ h1
      · cases h2; intro a b q; cases q
    · exact choiceF_err hr ks (j + 1) e
theorem seqF_err {E : Env} {rec : Rec} (hr : ∀ i x y dp o, rec i x y dp = some o → IsErr o) {tz : Nat} {dp : Int} : ∀ (ks : List Kd) (x : Nat) (acc : List Vl) {o : Out}, seqF E rec tz dp ks x acc = some o → IsErr o
  | [], x, acc, o, e => by unfold seqF at e; split at e <;> (cases e; intro a b q; cases q <;> decide)
  | k :: ks, x, acc, o, e => by
    unfold seqF at e
    split at e
    · rename_i q; cases e; intro a b p; cases p; exact q.2
    split at e
    · rcases andThen_cases e with ⟨u, h1, rfl⟩ | ⟨vs, z, h1, h2⟩
      · exact hr _ _ _ _ _ h1
      · split at h2
        · cases h2; intro a b q; cases q; decide
        · exact seqF_err hr ks _ _ h2
    split at e
    · exact seqF_err hr ks _ _ e
    split at e
    · exact seqF_err hr ks _ _ e
    split at e <;> (cases e; intro a b q; cases q <;> decide)
theorem manyF_err {E : Env} {rec : Rec} (hr : ∀ i x y dp o, rec i x y dp = some o → IsErr o) {set : Bool} {i tz : Nat} {dp : Int} : ∀ (m x : Nat) (last : ByteArray) (j : Nat) (acc : List Vl) {v : Except (Int × Int) (Nat × List Vl)}, manyF E rec set i tz dp m x last j acc = some v → ∀ e q, v = .error (e, q) → e ≠ 0
  | 0, _, _, _, _, _, e => by cases e
  | m + 1, x, last, j, acc, v, e => by
    unfold manyF at e
    split at e
    · rcases andThen_cases e with ⟨u, h1, rfl⟩ | ⟨vs, z, h1, h2⟩
      · intro a b q; cases q; exact hr _ _ _ _ _ h1 _ _ rfl
      · split at h2
        · cases h2; intro a b q; cases q; decide
        · exact manyF_err hr m _ _ _ _ h2
    · cases e; intro a b q; cases q
theorem bareF_err {E : Env} {rec : Rec} (hr : ∀ i x y dp o, rec i x y dp = some o → IsErr o) {m : Nat} {n : Nd} {cl nu : Int} {h : Hd} {x tz : Nat} {dp : Int} {o : Out} (e : bareF E rec m n cl nu h x tz dp = some o) : IsErr o := by
  unfold bareF at e
  split at e
  · exact choiceF_err hr _ _ e
  split at e
  · cases e; intro a b q; cases q; decide
  split at e
  · cases e; intro a b q; cases q; decide
  split at e
  · cases e; intro a b q; cases q
  split at e
  · split at e
    · cases e
    · rename_i u hs; cases e; intro a b q; cases q; exact seqF_err hr _ _ _ hs _ _ rfl
    · cases e; intro a b q; cases q
  split at e
  · split at e
    · cases e
    · rename_i u hs; cases e; intro a b q; cases q; exact manyF_err hr _ _ _ _ _ hs _ _ rfl
    · cases e; intro a b q; cases q
  split at e
  · cases e; intro a b q; cases q
  · cases e; intro a b q; cases q; decide
theorem valF_err {E : Env} {rec : Rec} (hr : ∀ i x y dp o, rec i x y dp = some o → IsErr o) {m i : Nat} {h : Hd} {x tz : Nat} {dp : Int} {o : Out} (e : valF E rec m i h x tz dp = some o) : IsErr o := by
  unfold valF at e
  split at e
  · exact bareF_err hr e
  split at e
  · exact bareF_err hr e
  split at e
  · cases e; intro a b q; cases q; decide
  split at e
  · cases e; intro a b q; cases q; decide
  split at e
  · rename_i q; cases e; intro a b p; cases p; exact q
  rcases andThen_cases e with ⟨u, h1, rfl⟩ | ⟨vs, z, h1, h2⟩
  · exact bareF_err hr h1
  · split at h2 <;> (cases h2; intro a b q; cases q <;> decide)
theorem rdF_err {E : Env} : ∀ (f i x y : Nat) (dp : Int) (o : Out), rdF E f i x y dp = some o → IsErr o
  | 0, _, _, _, _, _, e => by cases e
  | f + 1, i, x, y, dp, o, e => by
    rw [rdF] at e
    split at e
    · rename_i q; cases e; intro a b p; cases p; exact q
    · exact valF_err (rdF_err f) e
theorem out_err {o : Out} {e q : Int} (h : IsErr o) (ho : o = .error (e, q)) (tree tree' : List Vl) (p : Int) : OutIs o tree tree' e p q := by
  subst ho; exact ⟨rfl, rfl, h e q rfl⟩
theorem out_ok (vs : List Vl) (z : Nat) (tree : List Vl) (p : Int) : OutIs (.ok (vs, z)) tree (tree ++ vs) 0 p p := ⟨rfl, rfl, rfl⟩
end Go.Proofs.YtkkicodfpekbgaaGreatDoor

/-! Reading on plain data: how many values come of so many bytes. No walk in it. -/
namespace Go.Proofs.YtkkicodfpekbgaaGreatDoor
set_option linter.unusedSimpArgs false
set_option linter.unusedVariables false

theorem choiceF_len {E : Env} {rec : Rec} {h : Hd} {x tz B : Nat} {dp : Int} : ∀ (ks : List Kd) (j : Nat) {vs : List Vl} {z : Nat}, (∀ k ∈ ks, ∀ vs z, rec k.node.toNat x tz dp = some (.ok (vs, z)) → vs.length + 1 ≤ B) → choiceF E rec h x tz dp ks j = some (.ok (vs, z)) → vs.length ≤ B
  | [], _, _, _, _, e => by cases e
  | k :: ks, j, vs, z, hB, e => by
    unfold choiceF at e
    split at e
    · obtain ⟨us, z', h1, h2⟩ := andThen_ok e
      have := hB k (by simp) us z' h1
      simp at h2
      rw [← h2.1]; simpa using this
    · exact choiceF_len ks (j + 1) (fun k hk => hB k (by simp [hk])) e
theorem seqF_len {E : Env} {rec : Rec} {tz : Nat} {dp : Int} : ∀ (ks : List Kd) (x : Nat) (acc : List Vl) {vs : List Vl} {z : Nat}, (∀ k ∈ ks, ∀ x vs z, rec k.node.toNat x tz dp = some (.ok (vs, z)) → vs.length ≤ 100 * (z - x) ∧ x ≤ z ∧ z ≤ tz) → x ≤ tz → seqF E rec tz dp ks x acc = some (.ok (vs, z)) → vs.length ≤ acc.length + ks.length + 100 * (z - x) ∧ x ≤ z ∧ z ≤ tz
  | [], x, acc, vs, z, _, hx, e => by
    unfold seqF at e
    split at e
    · cases e
    · simp at e; obtain ⟨rfl, rfl⟩ := e; simp; exact hx
  | k :: ks, x, acc, vs, z, hr, hx, e => by
    have hr' : ∀ k ∈ ks, ∀ x vs z, rec k.node.toNat x tz dp = some (.ok (vs, z)) → vs.length ≤ 100 * (z - x) ∧ x ≤ z ∧ z ≤ tz := fun k hk => hr k (by simp [hk])
    unfold seqF at e
    split at e
    · cases e
    split at e
    · obtain ⟨us, z', h1, h2⟩ := andThen_ok e
      have h3 := hr k (by simp) x us z' h1
      split at h2
      · cases h2
      · have := seqF_len ks z' _ hr' (by omega) h2
        simp only [List.length_append, List.length_cons] at this ⊢
        omega
    split at e
    · have := seqF_len ks x _ hr' hx e
      simp only [List.length_append, List.length_cons, List.length_nil] at this ⊢
      omega
    split at e
    · have := seqF_len ks x _ hr' hx e
      simp only [List.length_append, List.length_cons, List.length_nil] at this ⊢
      omega
    split at e <;> cases e
theorem manyF_len {E : Env} {rec : Rec} {set : Bool} {i tz : Nat} {dp : Int} (hr : ∀ x vs z, rec i x tz dp = some (.ok (vs, z)) → vs.length ≤ 100 * (z - x) ∧ x ≤ z ∧ z ≤ tz) : ∀ (m x : Nat) (last : ByteArray) (j : Nat) (acc : List Vl) {j' : Nat} {vs : List Vl}, x ≤ tz → manyF E rec set i tz dp m x last j acc = some (.ok (j', vs)) → vs.length ≤ acc.length + 100 * (tz - x)
  | 0, _, _, _, _, _, _, _, e => by cases e
  | m + 1, x, last, j, acc, j', vs, hx, e => by
    unfold manyF at e
    split at e
    · obtain ⟨us, z', h1, h2⟩ := andThen_ok e
      have h3 := hr x us z' h1
      split at h2
      · cases h2
      · have := manyF_len hr m z' _ _ _ (by omega) h2
        simp only [List.length_append] at this
        omega
    · simp at e; rw [← e.2]; omega
theorem bareF_len {E : Env} (hf : Fine E.s) {f i : Nat} (hi : i < E.s.length) {cl nu : Int} {x tz : Nat} {dp : Int} {h : Hd} {V C : Nat} (hV : V ≤ 40) (hh : 2 ≤ h.s.toNat) (hxt : x + h.s.toNat ≤ tz)
    (hc : (nd E.s i).kind = 13 → ∀ k ∈ (nd E.s i).kids, ∀ vs z, rdF E f k.node.toNat x tz dp = some (.ok (vs, z)) → vs.length + (V + 1) ≤ 100 * (tz - x) + C)
    (hr : ∀ (j : Nat) (x' : Nat) vs z, j < E.s.length → rdF E f j x' tz (dp + 1) = some (.ok (vs, z)) → vs.length ≤ 100 * (z - x'))
    {vs : List Vl} {z : Nat} (e : bareF E (rdF E f) f (nd E.s i) cl nu h x tz dp = some (.ok (vs, z))) : vs.length + V ≤ 100 * (tz - x) + C := by
  have hlt : ∀ k ∈ (nd E.s i).kids, k.node.toNat < E.s.length := fun k hk => by have := hf.within i hi k hk; omega
  have hz : ∀ i x vs z, rdF E f i x tz (dp + 1) = some (.ok (vs, z)) → x ≤ z ∧ z ≤ tz := fun i x vs z e => by
    obtain ⟨q1, q2⟩ := rdF_fin e
    have := fin_le q1
    omega
  unfold bareF at e
  split at e
  · rename_i q
    have := choiceF_len (B := 100 * (tz - x) + C - V) _ _ (fun k hk us z' h1 => by have := hc q k hk us z' h1; omega) e
    omega
  split at e
  · cases e
  split at e
  · cases e
  split at e
  · simp at e; rw [← e.1]; simp; omega
  split at e
  · split at e
    · cases e
    · cases e
    · rename_i us z' hs
      have h8 := hf.eight i hi
      have := seqF_len _ _ _ (fun k hk x' us z' h1 => ⟨hr _ _ _ _ (hlt k hk) h1, hz _ _ _ _ h1⟩) hxt hs
      simp at e; rw [← e.1]
      simp only [List.length_nil, List.length_cons] at this ⊢
      omega
  split at e
  · rename_i q
    split at e
    · cases e
    · cases e
    · rename_i j us hs
      have h1 := hf.one i hi (by omega)
      have hk := hlt _ (kd_mem (n := nd E.s i) (i := 0) (by omega))
      have := manyF_len (fun x' us z' h1 => ⟨hr _ _ _ _ hk h1, hz _ _ _ _ h1⟩) _ _ _ _ _ hxt hs
      simp at e; rw [← e.1]
      simp only [List.length_nil, List.length_cons] at this ⊢
      omega
  split at e
  · simp at e; rw [← e.1]; simp; omega
  · cases e
/-- So many bytes, so many values at most. -/
theorem rdF_len {E : Env} (hf : Fine E.s) : ∀ (f i x y : Nat) (dp : Int) (V : List Nat), i < E.s.length → Way E.s V i → ∀ vs z, rdF E f i x y dp = some (.ok (vs, z)) → vs.length + V.length ≤ 100 * (z - x)
  | 0, _, _, _, _, _, _, _, _, _, e => by cases e
  | f + 1, i, x, y, dp, V, hi, hV, vs, z, e => by
    have hVl := hV.len hf
    obtain ⟨hq, rfl⟩ := rdF_fin e
    have hfin := fin_le hq
    have hlt : ∀ k ∈ (nd E.s i).kids, k.node.toNat < E.s.length := fun k hk => by have := hf.within i hi k hk; omega
    have hr : ∀ (j : Nat) (x' : Nat) (tz : Nat) vs z, j < E.s.length → rdF E f j x' tz (dp + 1) = some (.ok (vs, z)) → vs.length ≤ 100 * (z - x') := fun j x' tz vs z hj e => by
      have := rdF_len hf f j x' tz (dp + 1) [] hj (Way.nil _ _) vs z e
      simpa using this
    rw [rdF, if_neg (by rw [hq]; decide)] at e
    unfold valF at e
    split at e
    · rename_i ht
      refine bareF_len (C := 0) hf hi hVl (by omega) hfin.2.1 (fun hk k hkm us z' h1 => ?_) (fun j x' us z' hj h1 => hr j x' _ us z' hj h1) e
      have := rdF_len hf f k.node.toNat x _ dp (i :: V) (hlt k hkm) (hV.cons hf hi ⟨hk, ht⟩ hkm) us z' h1
      obtain ⟨a1, a2⟩ := rdF_fin h1
      have := fin_le a1
      simp only [List.length_cons] at *
      omega
    split at e
    · rename_i ht hm
      exact bareF_len (C := 0) hf hi hVl (by omega) hfin.2.1 (fun hk => absurd hm (hf.tagged i hi hk (by omega))) (fun j x' us z' hj h1 => hr j x' _ us z' hj h1) e
    split at e
    · cases e
    split at e
    · cases e
    split at e
    · cases e
    rename_i q'
    have hq' : (E.hd (x + (E.hd x y).2.s.toNat) (fin x (E.hd x y).2)).1 = 0 := Classical.not_not.1 q'
    have hfin' := fin_le hq'
    obtain ⟨us, z', h1, h2⟩ := andThen_ok e
    have h3 := bareF_len (V := 0) (C := 1) hf hi (by omega) (by omega) hfin'.2.1 (fun hk k hkm us z' h1 => by
      have := rdF_len hf f k.node.toNat _ _ dp [] (hlt k hkm) (Way.nil _ _) us z' h1
      obtain ⟨a1, a2⟩ := rdF_fin h1
      have := fin_le a1
      simp only [List.length_nil] at *
      omega) (fun j x' us z' hj h1 => hr j x' _ us z' hj h1) h1
    split at h2
    · cases h2
    · simp at h2
      rw [← h2]
      omega
theorem rdF_len0 {E : Env} (hf : Fine E.s) {f i x y : Nat} {dp : Int} {vs : List Vl} {z : Nat} (hi : i < E.s.length) (e : rdF E f i x y dp = some (.ok (vs, z))) : vs.length ≤ 100 * (z - x) ∧ x + 2 ≤ z ∧ z ≤ y ∧ z ≤ E.d.size := by
  have := rdF_len hf f i x y dp [] hi (Way.nil _ _) vs z e
  obtain ⟨a1, a2⟩ := rdF_fin e
  have := fin_le a1
  simp only [List.length_nil] at *
  omega
end Go.Proofs.YtkkicodfpekbgaaGreatDoor

/-! The document's reader: one more kid of a value that has been put. -/
namespace Go.Proofs.YtkkicodfpekbgaaGreatDoor
set_option linter.unusedSimpArgs false
set_option linter.unusedVariables false
open Go.RowKit

theorem vcells_app (l m : List Vl) : vcells (l ++ m) = vcells l ++ vcells m := by unfold vcells; simp
theorem vcells_len (l : List Vl) : (vcells l).length = l.length * 4 := by
  induction l with
  | nil => rfl
  | cons v l ih => show (v.cells ++ vcells l).length = _; rw [List.length_append, ih]; show 4 + l.length * 4 = _; simp; omega
theorem vcells_cons (v : Vl) (l : List Vl) : vcells (v :: l) = v.cells ++ vcells l := by unfold vcells; simp
theorem vcells_at (l : List Vl) (v : Vl) (m : List Vl) : (vcells (l ++ v :: m))[l.length * 4 + 3]? = some (.int .i64 v.kids) := by
  rw [vcells_app, List.getElem?_append_right (by rw [vcells_len]; omega), vcells_len, vcells_cons]
  rw [show l.length * 4 + 3 - l.length * 4 = 3 by omega]
  rfl
theorem vcells_set (l : List Vl) (v : Vl) (m : List Vl) (k : Int) : (vcells (l ++ v :: m)).set (l.length * 4 + 3) (.int .i64 k) = vcells (l ++ ⟨v.kind, v.text, v.alt, k⟩ :: m) := by
  rw [vcells_app, vcells_app, List.set_append_right _ _ (by rw [vcells_len]; omega), vcells_len, vcells_cons, vcells_cons]
  rw [show l.length * 4 + 3 - l.length * 4 = 3 by omega]
  rfl
/-- The cell that holds how many kids a value has, and a store there. -/
theorem RdI.bump {W w : World} {R : Nat} {a : Option Addr} {n c : Nat} {data : ByteArray} {tree acc : List Vl} {v : Vl} {e p : Int} (h : RdI W w R a n c data (tree ++ v :: acc) e p) :
    ∃ g cap, w.cell? ⟨R, 2, none⟩ = some (.slice (some ⟨g, 0, none⟩) (tree ++ v :: acc).length cap) ∧ w.cell? ⟨g, tree.length * 4 + 3, none⟩ = some (.int .i64 v.kids) ∧ w.frozen? ⟨g, tree.length * 4 + 3, none⟩ = false ∧
      ∀ k : Int, RdI W (w.setCell ⟨g, tree.length * 4 + 3, none⟩ (.int .i64 k)) R a n c data (tree ++ ⟨v.kind, v.text, v.alt, k⟩ :: acc) e p ∧ Fr R w (w.setCell ⟨g, tree.length * 4 + 3, none⟩ (.int .i64 k)) := by
  obtain ⟨hb, hlo, vt, hr, ho⟩ := h
  obtain ⟨g, cap, rfl⟩ : ∃ g cap, vt = .slice (some ⟨g, 0, none⟩) (tree ++ v :: acc).length cap := by
    obtain ⟨g, cap, q⟩ := ho.form (by simp only [List.length_append, List.length_cons]; omega)
    exact ⟨g, cap, q.1⟩
  have hgR : g ≠ R := fun q => row_ne hr ho (by decide) (by simp [Value.ownBlock, q])
  have hlt := (ho.lt g rfl)
  have hT : ∃ cur, w.heap[g]? = some (.cells cur 60 (0, 0)) := by
    rcases ho.2 with ⟨q, _⟩ | ⟨g', cap', cur, q, _, q2, _⟩
    · cases q
    · injection q with q; injection q with q; injection q with q; subst q; exact ⟨cur, q2⟩
  refine ⟨g, cap, ?_, ?_, ?_, fun k => ⟨⟨hb.setCell hlt.1 _, hlo, .slice (some ⟨g, 0, none⟩) (tree ++ v :: acc).length cap, ?_, ?_⟩, ?_⟩⟩
  · unfold rdObj at hr; simp [World.cell?, hr]
  · rw [ho.cellAt _ (by simp only [List.length_append, List.length_cons]; omega)]; exact vcells_at tree v acc
  · exact ho.frozenAt _
  · rw [heap_setCell_other _ _ _ _ (Ne.symm hgR)]; exact hr
  · have := (ho.stored (tree.length * 4 + 3) (.int .i64 k)).1
    rw [vcells_set] at this
    simpa using this
  · intro j A T hj hTn hA
    obtain ⟨cur, hcur⟩ := hT
    have hne : j ≠ g := fun q => by
      subst q; rw [hcur] at hA; injection hA with hA; injection hA with _ q _; exact hTn q.symm
    rw [heap_setCell_other _ _ _ _ hne]; exact hA
end Go.Proofs.YtkkicodfpekbgaaGreatDoor

/-! The document's reader: many, in general. -/
namespace Go.Proofs.YtkkicodfpekbgaaGreatDoor
set_option linter.unusedSimpArgs false
set_option linter.unusedVariables false
open Go.RowKit

/-- Behind some of many elements. -/
def ManyRun (E : Env) (W : World) (R : Nat) (a : Option Addr) (c f : Nat) (kset : Bool) (t x tz : Nat) (dp kind : Int) (o : Except (Int × Int) (Nat × List Vl)) (tree : List Vl) (p : Int) (x' : Nat) (last : ByteArray) (wq : World) : Prop :=
  ∃ (m j : Nat) (acc : List Vl), manyF E (rdF E f) kset t tz (dp + 1) m x' last j acc = some o ∧ RdI W wq R a E.s.length c E.d (tree ++ ⟨kind, ⟨#[]⟩, 0, (j : Int)⟩ :: acc) 0 p ∧ acc.length ≤ 100 * (x' - x) ∧ j ≤ x' - x
/-- Behind an error. -/
def ManyStop (E : Env) (W : World) (R : Nat) (a : Option Addr) (c : Nat) (o : Except (Int × Int) (Nat × List Vl)) (wq : World) : Prop :=
  ∃ (e q : Int) (tree' : List Vl), o = .error (e, q) ∧ RdI W wq R a E.s.length c E.d tree' e q
theorem manyF_on {E : Env} {rec : Rec} {set : Bool} {i tz : Nat} {dp : Int} {m x : Nat} {last : ByteArray} {j : Nat} {acc : List Vl} {o : Except (Int × Int) (Nat × List Vl)} (e : manyF E rec set i tz dp m x last j acc = some o) (hx : x < tz) :
    ∃ o', rec i x tz dp = some o' ∧ ((∃ u, o' = .error u ∧ o = .error u) ∨ ∃ vs z, o' = .ok (vs, z) ∧ ((set = true ∧ below (E.d.extract x z) last = true ∧ o = .error (8, (x : Int))) ∨ (¬ (set = true ∧ below (E.d.extract x z) last = true) ∧ ∃ m', manyF E rec set i tz dp m' z (E.d.extract x z) (j + 1) (acc ++ vs) = some o))) := by
  cases m with
  | zero => cases e
  | succ m =>
    unfold manyF at e
    rw [if_pos hx] at e
    rcases andThen_cases e with ⟨u, h1, rfl⟩ | ⟨vs, z, h1, h2⟩
    · exact ⟨_, h1, .inl ⟨u, rfl, rfl⟩⟩
    · refine ⟨_, h1, .inr ⟨vs, z, rfl, ?_⟩⟩
      split at h2
      · rename_i q; cases h2; exact .inl ⟨q.1, q.2, rfl⟩
      · rename_i q; exact .inr ⟨q, m, h2⟩
theorem manyF_off {E : Env} {rec : Rec} {set : Bool} {i tz : Nat} {dp : Int} {m x : Nat} {last : ByteArray} {j : Nat} {acc : List Vl} {o : Except (Int × Int) (Nat × List Vl)} (e : manyF E rec set i tz dp m x last j acc = some o) (hx : ¬ x < tz) : o = .ok (j, acc) := by
  cases m with
  | zero => cases e
  | succ m => unfold manyF at e; rw [if_neg hx] at e; exact (Option.some.inj e).symm
/-- What comes of many elements, as a method leaves it. -/
def OutM (kind : Int) (tz : Nat) (v : Except (Int × Int) (Nat × List Vl)) : Out :=
  match v with
  | .error e => .error e
  | .ok (j, vs) => .ok (⟨kind, noB, 0, j⟩ :: vs, tz)

set_option maxHeartbeats 4000000 in
set_option maxRecDepth 100000 in
theorem many_any (E : Env) (W : World) (R : Nat) (a : Option Addr) (c f : Nat) (hc : RC E W a) (hN : NodeC E W R a c f) (i : Nat) (hi : i < E.s.length) (hk : (nd E.s i).kind = 11 ∨ (nd E.s i).kind = 12) (ka : Option Addr) (kc : Nat) (hka : KidsIn W ka (nd E.s i).kids) (hkc : (nd E.s i).kids.length ≤ kc)
    (x tz m : Nat) (dp : Int) (o : Except (Int × Int) (Nat × List Vl)) (tree : List Vl) (p : Int) (w : World) (hm : manyF E (rdF E f) (decide ((nd E.s i).kind = 12)) (kd (nd E.s i) 0).node.toNat tz (dp + 1) m x noB 0 [] = some o) (hxz : x ≤ tz) (hz : tz ≤ E.d.size) (hd1 : 1 ≤ dp) (hd2 : dp ≤ 12) (hroom : Room tree (f + 1) x tz) (hI : RdI W w R a E.s.length c E.d tree 0 p) :
    Calls Tryz.prog 146 #[.pointer (some ⟨R, 0, none⟩), .agg #[.int .i64 (nd E.s i).kind, .int .i64 (nd E.s i).tag, .int .i64 (nd E.s i).mode, .slice ka (nd E.s i).kids.length kc], .int .i64 x, .int .i64 tz, .int .i64 dp] w
      fun e w' => e = .returned (.tuple #[]) ∧ AfterR E W R a c (OutM (nd E.s i).kind tz o) tree p w w' := by
  have HE : Hid (∀ e q, o = .error (e, q) → e ≠ 0) := manyF_err (rdF_err f) _ _ _ _ _ hm
  have HC : Hid (RC E W a) := hc
  have HN : Hid (NodeC E W R a c f) := hN
  have HI : Hid (RdI W w R a E.s.length c E.d tree 0 p) := hI
  have hRl : R < w.heap.size := lt_of_cell hI.r0
  have HRO : Hid (Room tree (f + 1) x tz) := hroom
  have h1 := hc.right.fine.one i hi hk
  obtain ⟨kb, ko, rfl, kcl⟩ := hka 0 (by omega)
  have hkr := hc.right.fine.within i hi _ (kd_mem (n := nd E.s i) (i := 0) (by omega))
  obtain ⟨t, ht⟩ : ∃ t : Nat, (kd (nd E.s i) 0).node = t := ⟨(kd (nd E.s i) 0).node.toNat, by omega⟩
  have htl : t < E.s.length := by omega
  have htn : (kd (nd E.s i) 0).node.toNat = t := by omega
  have k0 : W.cell? ⟨kb, ko, none⟩ = some (.int .i64 t) := by rw [← ht]; have := kcl.node; rw [Nat.zero_mul, Nat.add_zero] at this; exact this
  have hkl : (0 : Int) < (nd E.s i).kids.length := by omega
  rw [htn] at hm
  obtain ⟨kset, hks⟩ : ∃ b : Bool, b = decide ((nd E.s i).kind = 12) := ⟨_, rfl⟩
  have hkb : ((nd E.s i).kind == 12) = kset := by rw [hks]; exact rfl
  rw [← hks] at hm
  have HM : Hid (manyF E (rdF E f) kset t tz (dp + 1) m x noB 0 [] = some o) := hm
  have hl0 : tree.length ≤ 1099511627776 := by unfold Room at hroom; omega
  have HKD : Hid ((nd E.s i).kind = 11 ∨ (nd E.s i).kind = 12) := hk
  have HKN : Hid (W.cell? ⟨kb, ko, none⟩ = some (.int .i64 t)) := k0
  have HB0 : Hid (∀ A, Below w.heap.size w (w.alloc A)) := fun A => (Below.refl w.heap.size w).alloc (Nat.le_refl _) A
  clear hc hN hka hm hI hroom hi hk kcl hkr ht htn hks k0 h1
  go_enter Tryz.func146, Tryz.ntmps146
  go_wp2_with fail
  refine (put_any W _ R a E.s.length c E.d tree 0 p ⟨(nd E.s i).kind, ⟨#[]⟩, 0, 0⟩ (HI.out.below (HB0.out _)) hl0).mono ?_
  rintro e w1 ⟨rfl, hI1, hf1⟩
  have HI1 : Hid (RdI W w1 R a E.s.length c E.d (tree ++ [⟨(nd E.s i).kind, ⟨#[]⟩, 0, 0⟩]) 0 p) := hI1
  have HG1 : Hid (w1.heap[w.heap.size]? = some (.cells #[.int .i64 (nd E.s i).kind, .int .i64 (nd E.s i).tag, .int .i64 (nd E.s i).mode, .slice (some ⟨kb, ko, none⟩) (nd E.s i).kids.length kc] 58 (0, 0))) := hf1 _ _ _ (by omega) (by decide) (heap_alloc_new w _)
  have HF1 : Hid (Fr R w w1) := (Fr.of_below (HB0.out _)).trans hf1
  clear hI1 hf1
  go_wp2
  go_loopw [2, 11] (fun va vl wq => ∃ (x' : Nat) (last : ByteArray), va = .int .i64 x' ∧ vl = .string last ∧ x ≤ x' ∧ x' ≤ tz ∧ Fr R w wq ∧ wq.heap[w.heap.size]? = some (.cells #[.int .i64 (nd E.s i).kind, .int .i64 (nd E.s i).tag, .int .i64 (nd E.s i).mode, .slice (some ⟨kb, ko, none⟩) (nd E.s i).kids.length kc] 58 (0, 0)) ∧ (ManyRun E W R a c f kset t x tz dp (nd E.s i).kind o tree p x' last wq ∨ ManyStop E W R a c o wq)) (fun va _ _ => tz - (intOf va).toNat)
  case atStart => exact ⟨x, ⟨#[]⟩, rfl, rfl, Nat.le_refl _, hxz, HF1.out, HG1.out, .inl ⟨m, 0, [], HM.out, HI1.out, by simp, by omega⟩⟩
  case round =>
    obtain ⟨x', last, rfl, rfl, hx1, hx2, hfr, hbox, hcase⟩ := hrel
    have HFR : Hid (Fr R w wr) := hfr
    have HBX : Hid (wr.heap[w.heap.size]? = some (.cells #[.int .i64 (nd E.s i).kind, .int .i64 (nd E.s i).tag, .int .i64 (nd E.s i).mode, .slice (some ⟨kb, ko, none⟩) (nd E.s i).kids.length kc] 58 (0, 0))) := hbox
    clear hfr hbox
    rcases hcase with hrun | hstop
    · obtain ⟨m', j, acc, hmm, hIr, hacc, hjx⟩ := hrun
      have HMM : Hid (manyF E (rdF E f) kset t tz (dp + 1) m' x' last j acc = some o) := hmm
      have HIR : Hid (RdI W wr R a E.s.length c E.d (tree ++ ⟨(nd E.s i).kind, ⟨#[]⟩, 0, (j : Int)⟩ :: acc) 0 p) := hIr
      have r3 := hIr.r3
      have hRr : R < wr.heap.size := lt_of_cell r3
      clear hmm hIr
      by_cases hlt : x' < tz
      · have hlt' : (x' : Int) < tz := by omega
        obtain ⟨o', hrec, ho⟩ := manyF_on HMM.out hlt
        have HREC : Hid (rdF E f t x' tz (dp + 1) = some o') := hrec
        have HO : Hid ((∃ u, o' = .error u ∧ o = .error u) ∨ ∃ vs z, o' = .ok (vs, z) ∧ ((kset = true ∧ below (E.d.extract x' z) last = true ∧ o = .error (8, (x' : Int))) ∨ (¬ (kset = true ∧ below (E.d.extract x' z) last = true) ∧ ∃ m', manyF E (rdF E f) kset t tz (dp + 1) m' z (E.d.extract x' z) (j + 1) (acc ++ vs) = some o))) := ho
        have n3 : wr.cell? ⟨w.heap.size, 3, none⟩ = some (.slice (some ⟨kb, ko, none⟩) (nd E.s i).kids.length kc) := cell_of_row HBX.out rfl
        have k3 : wr.cell? ⟨kb, ko, none⟩ = some (.int .i64 t) := (HIR.out.bel.cell (p := ⟨kb, ko, none⟩) (lt_of_cell HKN.out)).trans HKN.out
        have HRO2 : Hid (Room (tree ++ ⟨(nd E.s i).kind, ⟨#[]⟩, 0, (j : Int)⟩ :: acc) f x' tz) := by
          show Room _ _ _ _
          have := HRO.out
          unfold Room at this ⊢
          simp only [List.length_append, List.length_cons]
          omega
        clear hrec ho
        go_wp2_with fail
        refine (HN.out t x' tz (dp + 1) o' _ p _ HREC.out htl (by omega) hz (by omega) (by omega) HRO2.out HIR.out).mono ?_
        rintro e w7 ⟨v, rfl, ha7, hv7⟩
        obtain ⟨t7, e7, p7, hI7, hO7, hF7⟩ := ha7
        have HI7 : Hid (RdI W w7 R a E.s.length c E.d t7 e7 p7) := hI7
        have HF7 : Hid (Fr R w w7) := HFR.out.trans hF7
        have HG7 : Hid (w7.heap[w.heap.size]? = some (.cells #[.int .i64 (nd E.s i).kind, .int .i64 (nd E.s i).tag, .int .i64 (nd E.s i).mode, .slice (some ⟨kb, ko, none⟩) (nd E.s i).kids.length kc] 58 (0, 0))) := hF7 _ _ _ (by omega) (by decide) HBX.out
        have s3 := hI7.r3
        clear hI7 hF7 n3 k3 r3
        rcases HO.out with ⟨u, rfl, ho⟩ | ⟨vs, z, rfl, ho⟩
        · obtain ⟨u1, u2⟩ := u
          obtain ⟨r1, r2, r3⟩ := hO7
          subst r1 r2
          have hne : (e7 != 0) = true := by rw [bne_iff_ne]; exact r3
          have HOE : Hid (o = .error (e7, p7)) := ho
          clear r3 ho hv7
          go_wp2
          refine bodyPost_ret (results_none rfl _ _ _) rfl ?_
          refine ⟨rfl, t7, e7, p7, HI7.out, ?_, HF7.out⟩
          rw [HOE.out]
          exact ⟨rfl, rfl, HE.out _ _ HOE.out⟩
        · obtain ⟨r1, r2, r3⟩ := hO7
          subst r1 r2 r3
          obtain rfl : v = (z : Int) := hv7 vs z rfl
          have hlen := rdF_len0 HC.out.right.fine htl HREC.out
          have HOO : Hid ((kset = true ∧ below (E.d.extract x' z) last = true ∧ o = .error (8, (x' : Int))) ∨ (¬ (kset = true ∧ below (E.d.extract x' z) last = true) ∧ ∃ m', manyF E (rdF E f) kset t tz (dp + 1) m' z (E.d.extract x' z) (j + 1) (acc ++ vs) = some o)) := ho
          have s1 := HI7.out.r1
          have hq1 : (x' : Int) ≤ z := by omega
          have hq2 : (z : Int) ≤ E.d.size := by omega
          have g0 : w7.cell? ⟨w.heap.size, 0, none⟩ = some (.int .i64 (nd E.s i).kind) := cell_of_row HG7.out rfl
          have hI8 : RdI W w7 R a E.s.length c E.d (tree ++ ⟨(nd E.s i).kind, ⟨#[]⟩, 0, (j : Int)⟩ :: (acc ++ vs)) 0 p7 := by have := HI7.out; simpa using this
          obtain ⟨gg, cap, b1, b2, b3, b4⟩ := hI8.bump
          obtain ⟨N, hN⟩ : ∃ N, N = (tree ++ ⟨(nd E.s i).kind, ⟨#[]⟩, 0, (j : Int)⟩ :: (acc ++ vs)).length := ⟨_, rfl⟩
          have hNl : (tree.length : Int) < N := by rw [hN]; simp; omega
          rw [← hN] at b1
          have HB4 : Hid (∀ k : Int, RdI W (w7.setCell ⟨gg, tree.length * 4 + 3, none⟩ (.int .i64 k)) R a E.s.length c E.d (tree ++ ⟨(nd E.s i).kind, ⟨#[]⟩, 0, k⟩ :: (acc ++ vs)) 0 p7 ∧ Fr R w7 (w7.setCell ⟨gg, tree.length * 4 + 3, none⟩ (.int .i64 k))) := b4
          have hj1 : (j : Int) + 1 < 1000000 := by have := HC.out.size; omega
          simp only at b2
          clear ho hv7 hI8 b4 hN
          have HFZ : Hid (∀ k : Int, Fr R w (w7.setCell ⟨gg, tree.length * 4 + 3, none⟩ (.int .i64 k))) := fun k => HF7.out.trans (HB4.out k).2
          have HBZ : Hid (∀ k : Int, (w7.setCell ⟨gg, tree.length * 4 + 3, none⟩ (.int .i64 k)).heap[w.heap.size]? = some (.cells #[.int .i64 (nd E.s i).kind, .int .i64 (nd E.s i).tag, .int .i64 (nd E.s i).mode, .slice (some ⟨kb, ko, none⟩) (nd E.s i).kids.length kc] 58 (0, 0))) := fun k => (HB4.out k).2 _ _ _ (by omega) (by decide) HG7.out
          by_cases hord : kset = true ∧ below (E.d.extract x' z) last = true
          · obtain ⟨rfl, hbl⟩ := hord
            have HOE : Hid (o = .error (8, (x' : Int))) := by
              rcases HOO.out with q | q
              · exact q.2.2
              · exact absurd ⟨rfl, hbl⟩ q.1
            unfold below at hbl
            go_wp2_with fail
            refine (stop_first W _ R a E.s.length c E.d _ p7 8 x' HI7.out).mono ?_
            rintro e w8 ⟨rfl, hI8, hoth⟩
            have hI9 : RdI W w8 R a E.s.length c E.d (tree ++ ⟨(nd E.s i).kind, ⟨#[]⟩, 0, (j : Int)⟩ :: (acc ++ vs)) 8 x' := by have := hI8; simpa using this
            obtain ⟨gg', cap', d1, d2, d3, d4⟩ := hI9.bump
            have hF8 : Fr R w w8 := HF7.out.trans (Fr.of_same hoth)
            have hG8 : w8.heap[w.heap.size]? = some (.cells #[.int .i64 (nd E.s i).kind, .int .i64 (nd E.s i).tag, .int .i64 (nd E.s i).mode, .slice (some ⟨kb, ko, none⟩) (nd E.s i).kids.length kc] 58 (0, 0)) := (hoth _ (by omega)).trans HG7.out
            have HD4 : Hid (RdI W (w8.setCell ⟨gg', tree.length * 4 + 3, none⟩ (.int .i64 ((j : Int) + 1))) R a E.s.length c E.d (tree ++ ⟨(nd E.s i).kind, ⟨#[]⟩, 0, (j : Int) + 1⟩ :: (acc ++ vs)) 8 x' ∧ Fr R w (w8.setCell ⟨gg', tree.length * 4 + 3, none⟩ (.int .i64 ((j : Int) + 1))) ∧ (w8.setCell ⟨gg', tree.length * 4 + 3, none⟩ (.int .i64 ((j : Int) + 1))).heap[w.heap.size]? = some (.cells #[.int .i64 (nd E.s i).kind, .int .i64 (nd E.s i).tag, .int .i64 (nd E.s i).mode, .slice (some ⟨kb, ko, none⟩) (nd E.s i).kids.length kc] 58 (0, 0))) :=
              ⟨(d4 _).1, hF8.trans (d4 _).2, (d4 _).2 _ _ _ (by omega) (by decide) hG8⟩
            obtain ⟨N', hN'⟩ : ∃ N, N = (tree ++ ⟨(nd E.s i).kind, ⟨#[]⟩, 0, (j : Int)⟩ :: (acc ++ vs)).length := ⟨_, rfl⟩
            have hNl' : (tree.length : Int) < N' := by rw [hN']; simp; omega
            rw [← hN'] at d1
            simp only at d2
            clear hI8 hoth hI9 d4 hF8 hG8 hN' b1 b2 b3 hbl
            go_wp2
            go_roundw
            case rel => exact ⟨z, _, rfl, rfl, by omega, by omega, HD4.out.2.1, HD4.out.2.2, .inr ⟨8, x', _, HOE.out, HD4.out.1⟩⟩
            case measure => simp [intOf]; omega
          · have HNX : Hid (∃ m', manyF E (rdF E f) kset t tz (dp + 1) m' z (E.d.extract x' z) (j + 1) (acc ++ vs) = some o) := by
              rcases HOO.out with q | q
              · exact absurd ⟨q.1, q.2.1⟩ hord
              · exact q.2
            have hd : kset = false ∨ (kset = true ∧ Op.bytesLess (E.d.extract x' z).toList last.toList = false) := by
              cases kset
              · exact .inl rfl
              · refine .inr ⟨rfl, ?_⟩
                cases q : Op.bytesLess (E.d.extract x' z).toList last.toList
                · rfl
                · exact absurd ⟨rfl, q⟩ hord
            clear hord
            rcases hd with rfl | ⟨rfl, hbl⟩
            all_goals
              go_wp2
              go_roundw
              case rel =>
                obtain ⟨m'', hm''⟩ := HNX.out
                exact ⟨z, _, rfl, rfl, by omega, by omega, HFZ.out _, HBZ.out _, .inl ⟨m'', j + 1, acc ++ vs, hm'', by have := (HB4.out ((j : Int) + 1)).1; simpa using this, by simp only [List.length_append]; omega, by omega⟩⟩
              case measure => simp [intOf]; omega
      · have hlt' : (tz : Int) ≤ x' := by omega
        have HOK : Hid (o = .ok (j, acc)) := manyF_off HMM.out hlt
        go_wp2
        go_end0
        refine ⟨rfl, _, _, _, HIR.out, ?_, HFR.out⟩
        rw [HOK.out]
        exact ⟨rfl, rfl, rfl⟩
    · obtain ⟨e, q, tree', ho, hIr⟩ := hstop
      have HOE : Hid (o = .error (e, q)) := ho
      have HIR : Hid (RdI W wr R a E.s.length c E.d tree' e q) := hIr
      have r3 := hIr.r3
      have hne : (e == 0) = false := by rw [beq_eq_false_iff_ne]; exact HE.out _ _ ho
      clear hIr ho
      by_cases hlt : x' < tz
      · have hlt' : (x' : Int) < tz := by omega
        go_wp2
        go_end0
        refine ⟨rfl, _, _, _, HIR.out, ?_, HFR.out⟩
        rw [HOE.out]
        exact ⟨rfl, rfl, HE.out _ _ HOE.out⟩
      · have hlt' : (tz : Int) ≤ x' := by omega
        go_wp2
        go_end0
        refine ⟨rfl, _, _, _, HIR.out, ?_, HFR.out⟩
        rw [HOE.out]
        exact ⟨rfl, rfl, HE.out _ _ HOE.out⟩
end Go.Proofs.YtkkicodfpekbgaaGreatDoor

/-! The document's reader: seq, in general. -/
namespace Go.Proofs.YtkkicodfpekbgaaGreatDoor
set_option linter.unusedSimpArgs false
set_option linter.unusedVariables false
open Go.RowKit

theorem seqF_herr {E : Env} {rec : Rec} {tz : Nat} {dp : Int} {n : Nd} {j x : Nat} {acc : List Vl} {o : Out} (hj : j < n.kids.length) (e : seqF E rec tz dp (n.kids.drop j) x acc = some o) (hx : x < tz) (hh : (E.hd x tz).1 ≠ 0) : o = .error ((E.hd x tz).1, (x : Int)) := by
  rw [drop_kid hj] at e
  unfold seqF at e
  rw [if_pos ⟨hx, hh⟩] at e
  exact (Option.some.inj e).symm
theorem seqF_yes {E : Env} {rec : Rec} {tz : Nat} {dp : Int} {n : Nd} {j x : Nat} {acc : List Vl} {o : Out} (hj : j < n.kids.length) (e : seqF E rec tz dp (n.kids.drop j) x acc = some o) (hx : x < tz) (hh : (E.hd x tz).1 = 0) (hb : E.bg (kd n j).node.toNat (E.hd x tz).2.c (E.hd x tz).2.n = true) :
    ∃ o', rec (kd n j).node.toNat x tz dp = some o' ∧ ((∃ u, o' = .error u ∧ o = .error u) ∨ ∃ vs z, o' = .ok (vs, z) ∧ ((E.d.extract x z = (kd n j).dflt ∧ o = .error (9, (x : Int))) ∨ (E.d.extract x z ≠ (kd n j).dflt ∧ seqF E rec tz dp (n.kids.drop (j + 1)) z (acc ++ vs) = some o))) := by
  rw [drop_kid hj] at e
  unfold seqF at e
  rw [if_neg (fun q => q.2 hh), if_pos ⟨hx, hb⟩] at e
  rcases andThen_cases e with ⟨u, h1, rfl⟩ | ⟨vs, z, h1, h2⟩
  · exact ⟨_, h1, .inl ⟨u, rfl, rfl⟩⟩
  · refine ⟨_, h1, .inr ⟨vs, z, rfl, ?_⟩⟩
    split at h2
    · rename_i q; exact .inl ⟨q, (Option.some.inj h2).symm⟩
    · rename_i q; exact .inr ⟨q, h2⟩
theorem seqF_no {E : Env} {rec : Rec} {tz : Nat} {dp : Int} {n : Nd} {j x : Nat} {acc : List Vl} {o : Out} (hj : j < n.kids.length) (e : seqF E rec tz dp (n.kids.drop j) x acc = some o) (hx : (x < tz ∧ (E.hd x tz).1 = 0 ∧ E.bg (kd n j).node.toNat (E.hd x tz).2.c (E.hd x tz).2.n = false) ∨ ¬ x < tz) :
    ((kd n j).opt = true ∧ seqF E rec tz dp (n.kids.drop (j + 1)) x (acc ++ [⟨15, noB, 0, 0⟩]) = some o) ∨ ((kd n j).opt = false ∧ (kd n j).dflt.size ≠ 0 ∧ seqF E rec tz dp (n.kids.drop (j + 1)) x (acc ++ [E.dv (kd n j)]) = some o) ∨
    ((kd n j).opt = false ∧ (kd n j).dflt.size = 0 ∧ ((x < tz ∧ o = .error (4, (x : Int))) ∨ (¬ x < tz ∧ o = .error (3, (x : Int))))) := by
  rw [drop_kid hj] at e
  unfold seqF at e
  rw [if_neg (by rintro ⟨a, b⟩; rcases hx with q | q; exact b q.2.1; exact q a), if_neg (by rintro ⟨a, b⟩; rcases hx with q | q; (rw [q.2.2] at b; cases b); exact q a)] at e
  split at e
  · rename_i q; exact .inl ⟨q, e⟩
  rename_i q
  have q' : (kd n j).opt = false := by simpa using q
  split at e
  · rename_i q2; exact .inr (.inl ⟨q', q2, e⟩)
  rename_i q2
  refine .inr (.inr ⟨q', Classical.not_not.1 q2, ?_⟩)
  split at e
  · rename_i q3; exact .inl ⟨q3, (Option.some.inj e).symm⟩
  · rename_i q3; exact .inr ⟨q3, (Option.some.inj e).symm⟩
theorem seqF_end {E : Env} {rec : Rec} {tz : Nat} {dp : Int} {n : Nd} {j x : Nat} {acc : List Vl} {o : Out} (hj : ¬ j < n.kids.length) (e : seqF E rec tz dp (n.kids.drop j) x acc = some o) : (x < tz ∧ o = .error (7, (x : Int))) ∨ (¬ x < tz ∧ o = .ok (acc, x)) := by
  rw [List.drop_of_length_le (by omega)] at e
  unfold seqF at e
  split at e
  · rename_i q; exact .inl ⟨q, (Option.some.inj e).symm⟩
  · rename_i q; exact .inr ⟨q, (Option.some.inj e).symm⟩
/-- What comes of a Seq's kids, as a method leaves it. -/
def OutS (n tz : Nat) (v : Out) : Out :=
  match v with
  | .error e => .error e
  | .ok (vs, _) => .ok (⟨10, noB, 0, n⟩ :: vs, tz)
/-- Behind some of the kids. -/
def SeqRun (E : Env) (W : World) (R : Nat) (a : Option Addr) (c f : Nat) (n : Nd) (x tz : Nat) (dp : Int) (o : Out) (tree : List Vl) (p : Int) (j x' : Nat) (wq : World) : Prop :=
  ∃ acc : List Vl, seqF E (rdF E f) tz (dp + 1) (n.kids.drop j) x' acc = some o ∧ RdI W wq R a E.s.length c E.d (tree ++ ⟨10, ⟨#[]⟩, 0, (n.kids.length : Int)⟩ :: acc) 0 p ∧ acc.length ≤ j + 100 * (x' - x) ∧ x ≤ x' ∧ x' ≤ tz
def SeqStop (E : Env) (W : World) (R : Nat) (a : Option Addr) (c : Nat) (o : Out) (wq : World) : Prop :=
  ∃ (e q : Int) (tree' : List Vl), o = .error (e, q) ∧ RdI W wq R a E.s.length c E.d tree' e q
/-- What a kid with a Default is when it is left out. -/
def DvOk (E : Env) : Prop := ∀ i, i < E.s.length → ∀ k ∈ (nd E.s i).kids, k.dflt.size ≠ 0 → ∃ u, ElemOk (nd E.s k.node.toNat) k.dflt u ∧ E.dv k = ⟨(nd E.s k.node.toNat).kind, u, 0, 0⟩ ∧ 1 ≤ (nd E.s k.node.toNat).kind ∧ (nd E.s k.node.toNat).kind ≤ 9
theorem hide {p : Prop} (h : p) : Hid p := h
theorem elem_one {N : Nd} {t u u' : ByteArray} (h : ElemOk N t u) (h' : ElemOk N t u') : u = u' := by
  unfold ElemOk NodeAt at h h'
  obtain ⟨_, _, _, h⟩ := h
  obtain ⟨_, _, _, h'⟩ := h'
  rcases h with ⟨a1, _, _, _, a2, _⟩ | ⟨a1, b1, _, _, _, a2, _⟩ | ⟨a1, b1, _, _, _, t1, e1, _, _, _, _, _, a2, _⟩ <;> rcases h' with ⟨c1, _, _, _, c2, _⟩ | ⟨c1, d1, _, _, _, c2, _⟩ | ⟨c1, d1, _, _, _, t2, e2, _, _, _, _, _, c2, _⟩
  all_goals first | (rw [a2, c2]; done) | (exfalso; omega) | (subst e1 e2; rw [a2, c2])

set_option maxHeartbeats 8000000 in
set_option maxRecDepth 100000 in
theorem seq_any (E : Env) (W : World) (R : Nat) (a : Option Addr) (c f : Nat) (hc : RC E W a) (hdv : DvOk E) (hN : NodeC E W R a c f) (i : Nat) (hi : i < E.s.length) (ka : Option Addr) (kc : Nat) (hka : KidsIn W ka (nd E.s i).kids) (hkc : (nd E.s i).kids.length ≤ kc)
    (x tz : Nat) (dp : Int) (o : Out) (tree : List Vl) (p : Int) (w : World) (hm : seqF E (rdF E f) tz (dp + 1) (nd E.s i).kids x [] = some o) (hxz : x ≤ tz) (hz : tz ≤ E.d.size) (hd1 : 1 ≤ dp) (hd2 : dp ≤ 12) (hroom : Room tree (f + 1) x tz) (hI : RdI W w R a E.s.length c E.d tree 0 p) :
    Calls Tryz.prog 145 #[.pointer (some ⟨R, 0, none⟩), .agg #[.int .i64 (nd E.s i).kind, .int .i64 (nd E.s i).tag, .int .i64 (nd E.s i).mode, .slice ka (nd E.s i).kids.length kc], .int .i64 x, .int .i64 tz, .int .i64 dp] w
      fun e w' => e = .returned (.tuple #[]) ∧ AfterR E W R a c (OutS (nd E.s i).kids.length tz o) tree p w w' := by
  have HE : Hid (IsErr o) := seqF_err (rdF_err f) _ _ _ hm
  have HC : Hid (RC E W a) := hc
  have HDV : Hid (DvOk E) := hdv
  have HN : Hid (NodeC E W R a c f) := hN
  have HI : Hid (RdI W w R a E.s.length c E.d tree 0 p) := hI
  have hRl : R < w.heap.size := lt_of_cell hI.r0
  have HRO : Hid (Room tree (f + 1) x tz) := hroom
  have HKI : Hid (KidsIn W ka (nd E.s i).kids) := hka
  have HM : Hid (seqF E (rdF E f) tz (dp + 1) ((nd E.s i).kids.drop 0) x [] = some o) := hm
  have HKR : Hid (∀ j, j < (nd E.s i).kids.length → ∃ t : Nat, (kd (nd E.s i) j).node = t ∧ t < E.s.length) := fun j hj => by
    have := hc.right.fine.within i hi _ (kd_mem hj)
    exact ⟨(kd (nd E.s i) j).node.toNat, by omega, by omega⟩
  have HIL : Hid (i < E.s.length) := hi
  have hk8 := hc.right.fine.eight i hi
  have hs40 := hc.right.fine.len
  have hl0 : tree.length ≤ 1099511627776 := by unfold Room at hroom; omega
  have HB0 : Hid (∀ A, Below w.heap.size w (w.alloc A)) := fun A => (Below.refl w.heap.size w).alloc (Nat.le_refl _) A
  clear hc hN hka hm hI hroom hi hdv
  go_enter Tryz.func145, Tryz.ntmps145
  go_wp2_with fail
  refine (put_any W _ R a E.s.length c E.d tree 0 p ⟨10, ⟨#[]⟩, 0, (nd E.s i).kids.length⟩ (HI.out.below (HB0.out _)) hl0).mono ?_
  rintro e w1 ⟨rfl, hI1, hf1⟩
  have HI1 : Hid (RdI W w1 R a E.s.length c E.d (tree ++ [⟨10, ⟨#[]⟩, 0, ((nd E.s i).kids.length : Int)⟩]) 0 p) := hI1
  have HG1 : Hid (w1.heap[w.heap.size]? = some (.cells #[.int .i64 (nd E.s i).kind, .int .i64 (nd E.s i).tag, .int .i64 (nd E.s i).mode, .slice ka (nd E.s i).kids.length kc] 58 (0, 0))) := hf1 _ _ _ (by omega) (by decide) (heap_alloc_new w _)
  have HF1 : Hid (Fr R w w1) := (Fr.of_below (HB0.out _)).trans hf1
  clear hI1 hf1
  go_wp2
  go_loopw [2, 10] (fun va vk wq => ∃ (j : Nat) (z : Int), va = .int .i64 z ∧ vk = .int .i64 j ∧ j ≤ (nd E.s i).kids.length ∧ Fr R w wq ∧ wq.heap[w.heap.size]? = some (.cells #[.int .i64 (nd E.s i).kind, .int .i64 (nd E.s i).tag, .int .i64 (nd E.s i).mode, .slice ka (nd E.s i).kids.length kc] 58 (0, 0)) ∧ ((∃ x' : Nat, z = x' ∧ SeqRun E W R a c f (nd E.s i) x tz dp o tree p j x' wq) ∨ SeqStop E W R a c o wq)) (fun _ vk _ => (nd E.s i).kids.length - (intOf vk).toNat)
  case atStart => exact ⟨0, x, rfl, rfl, Nat.zero_le _, HF1.out, HG1.out, .inl ⟨x, rfl, [], HM.out, HI1.out, by simp, Nat.le_refl _, hxz⟩⟩
  case round =>
    obtain ⟨j, z, rfl, rfl, hj, hfr, hbox, hcase⟩ := hrel
    have HFR : Hid (Fr R w wr) := hfr
    have HBX : Hid (wr.heap[w.heap.size]? = some (.cells #[.int .i64 (nd E.s i).kind, .int .i64 (nd E.s i).tag, .int .i64 (nd E.s i).mode, .slice ka (nd E.s i).kids.length kc] 58 (0, 0))) := hbox
    have n3 : wr.cell? ⟨w.heap.size, 3, none⟩ = some (.slice ka (nd E.s i).kids.length kc) := cell_of_row hbox rfl
    clear hfr hbox
    rcases hcase with hrun | hstop
    · obtain ⟨x', rfl, acc, hmm, hIr, hacc, hx1, hx2⟩ := hrun
      have HMM : Hid (seqF E (rdF E f) tz (dp + 1) ((nd E.s i).kids.drop j) x' acc = some o) := hmm
      have HIR : Hid (RdI W wr R a E.s.length c E.d (tree ++ ⟨10, ⟨#[]⟩, 0, ((nd E.s i).kids.length : Int)⟩ :: acc) 0 p) := hIr
      have r3 := hIr.r3
      have hRr : R < wr.heap.size := lt_of_cell r3
      have hwr : w.heap.size < wr.heap.size := lt_of_cell n3
      clear hmm hIr
      by_cases hlt : j < (nd E.s i).kids.length
      · have hlt' : (j : Int) < (nd E.s i).kids.length := by omega
        obtain ⟨kb, ko, rfl, kcl⟩ := HKI.out j hlt
        obtain ⟨t, ht, htl⟩ := HKR.out j hlt
        obtain ⟨k1, k2, k3⟩ := kcl.below HIR.out.bel
        have htn : (kd (nd E.s i) j).node.toNat = t := by omega
        have HT : Hid ((kd (nd E.s i) j).node.toNat = t) := htn
        have k1' : wr.cell? ⟨kb, ko + j * 3, none⟩ = some (.int .i64 t) := by rw [← ht]; exact k1
        obtain ⟨yo, hyo⟩ : ∃ b, (kd (nd E.s i) j).opt = b := ⟨_, rfl⟩
        obtain ⟨yd, hyd⟩ : ∃ b, (kd (nd E.s i) j).dflt = b := ⟨_, rfl⟩
        have HYO : Hid ((kd (nd E.s i) j).opt = yo) := hyo
        have HYD : Hid ((kd (nd E.s i) j).dflt = yd) := hyd
        have k2' : wr.cell? ⟨kb, ko + j * 3 + 1, none⟩ = some (.bool yo) := by rw [← hyo]; exact k2
        have k3' : wr.cell? ⟨kb, ko + j * 3 + 2, none⟩ = some (.string yd) := by rw [← hyd]; exact k3
        have HIA : Hid (∀ A, RdI W (wr.alloc A) R a E.s.length c E.d (tree ++ ⟨10, ⟨#[]⟩, 0, ((nd E.s i).kids.length : Int)⟩ :: acc) 0 p) := fun A => HIR.out.below ((Below.refl _ _).alloc (Nat.le_refl _) _)
        have HFA : Hid (∀ A, Fr R w (wr.alloc A)) := fun A => HFR.out.below ((Below.refl _ _).alloc (Nat.le_refl _) _)
        have HGA : Hid (∀ A, (wr.alloc A).heap[w.heap.size]? = some (.cells #[.int .i64 (nd E.s i).kind, .int .i64 (nd E.s i).tag, .int .i64 (nd E.s i).mode, .slice (some ⟨kb, ko, none⟩) (nd E.s i).kids.length kc] 58 (0, 0))) := fun A => block_below HBX.out ((Below.refl _ _).alloc (Nat.le_refl _) _)
        clear k1 k2 k3 kcl ht htn hyo hyd
        have HGK : Hid ((wr.alloc (.cells #[.int .i64 t, .bool yo, .string yd] 55)).heap[wr.heap.size]? = some (.cells #[.int .i64 t, .bool yo, .string yd] 55 (0, 0))) := heap_alloc_new wr _
        obtain ⟨G, hG⟩ : ∃ G, hd (E.d.extract x' tz) = G := ⟨_, rfl⟩
        obtain ⟨ge, gc, gb, gn, gs, gl⟩ := G
        have HHD : Hid (E.hd x' tz = (ge, ⟨gc, gb, gn, gs, gl⟩)) := hG
        have HRH : Hid (∀ wq, RdI W wq R a E.s.length c E.d (tree ++ ⟨10, ⟨#[]⟩, 0, ((nd E.s i).kids.length : Int)⟩ :: acc) 0 p → Calls Tryz.prog 101 #[.pointer (some ⟨R, 0, none⟩), .int .i64 x', .int .i64 tz] wq fun e w' => e = .returned (.agg #[.int .i64 gc, .bool gb, .int .i64 gn, .int .i64 gs, .int .i64 gl]) ∧ RdI W w' R a E.s.length c E.d (tree ++ ⟨10, ⟨#[]⟩, 0, ((nd E.s i).kids.length : Int)⟩ :: acc) ge (if ge = 0 then p else x') ∧ Fr R wq w') := fun wq q => by
          have := rdhead_any W wq R a E.s.length c E.d (tree ++ ⟨10, ⟨#[]⟩, 0, ((nd E.s i).kids.length : Int)⟩ :: acc) p x' tz q hx2 hz (by have := HC.out.size; omega)
          rw [hG] at this
          exact this
        have HBG : Hid (∀ (wq : World) (hq : Below W.heap.size W wq) (y : Ext wq), Calls Tryz.prog 100 #[.slice a E.s.length c, .int .i64 t, .int .i64 gc, .int .i64 gn] y.v fun e w'' => e = .returned (.bool (E.bg t gc gn)) ∧ ∃ y : Ext wq, w'' = y.v) := fun wq hq y =>
          Ext.callsR (HC.out.bg t htl gc gn) (begins_any E.s a c t gc gn y.v (HC.out.sch.below (hq.trans (y.h.mono hq.size))) (within_of HC.out.right.2.2.1) (kinds_of HC.out.right.2.2.1) htl hs40)
        clear hG
        go_upto_if 45 with fail
        clear k1' k2' k3' n3 r3
        go_cut [12] (fun th wx => ∃ b : Bool, th = .bool b ∧ RdI W wx R a E.s.length c E.d (tree ++ ⟨10, ⟨#[]⟩, 0, ((nd E.s i).kids.length : Int)⟩ :: acc) 0 p ∧ Fr R w wx ∧ wx.heap[w.heap.size]? = some (.cells #[.int .i64 (nd E.s i).kind, .int .i64 (nd E.s i).tag, .int .i64 (nd E.s i).mode, .slice (some ⟨kb, ko, none⟩) (nd E.s i).kids.length kc] 58 (0, 0)) ∧ wx.heap[wr.heap.size]? = some (.cells #[.int .i64 t, .bool yo, .string yd] 55 (0, 0)) ∧
          ((x' < tz ∧ ge = 0 ∧ b = E.bg t gc gn) ∨ (¬ x' < tz ∧ b = false)))
        case first =>
          by_cases hxt : x' < tz
          · have hxt' : (x' : Int) < tz := by omega
            go_wp2_with fail
            refine (HRH.out _ (HIA.out _)).mono ?_
            rintro e w2 ⟨rfl, hI2, hf2⟩
            have HF2 : Hid (Fr R w w2) := (HFA.out _).trans hf2
            have HG2 : Hid (w2.heap[w.heap.size]? = some (.cells #[.int .i64 (nd E.s i).kind, .int .i64 (nd E.s i).tag, .int .i64 (nd E.s i).mode, .slice (some ⟨kb, ko, none⟩) (nd E.s i).kids.length kc] 58 (0, 0))) := hf2 _ _ _ (by omega) (by decide) (HGA.out _)
            have HK2 : Hid (w2.heap[wr.heap.size]? = some (.cells #[.int .i64 t, .bool yo, .string yd] 55 (0, 0))) := hf2 _ _ _ (by omega) (by decide) HGK.out
            have hsz2 : wr.heap.size < w2.heap.size := row_lt HK2.out
            have hR2 : R < w2.heap.size := lt_of_cell hI2.r0
            by_cases hge : ge = 0
            · rw [if_pos hge] at hI2
              have hge' : (ge != 0) = false := by simp [hge]
              have HGE : Hid (ge = 0) := hge
              have HI2 : Hid (RdI W w2 R a E.s.length c E.d (tree ++ ⟨10, ⟨#[]⟩, 0, ((nd E.s i).kids.length : Int)⟩ :: acc) ge p) := hI2
              have s3 := hI2.r3
              have s0 := hI2.r0
              clear hI2 hf2 hge
              have HB2 : Hid (Below W.heap.size W (w2.alloc (.cells #[.int .i64 gc, .bool gb, .int .i64 gn, .int .i64 gs, .int .i64 gl] 179))) := HI2.out.bel.alloc HI2.out.bel.size _
              have X0 : ∀ y : Ext (w2.alloc (.cells #[.int .i64 gc, .bool gb, .int .i64 gn, .int .i64 gs, .int .i64 gl] 179)), y.v.cell? ⟨R, 0, none⟩ = some (.slice a E.s.length c) := fun y => y.old s0
              have X1 : ∀ y : Ext (w2.alloc (.cells #[.int .i64 gc, .bool gb, .int .i64 gn, .int .i64 gs, .int .i64 gl] 179)), y.v.cell? ⟨wr.heap.size, 0, none⟩ = some (.int .i64 t) := fun y => y.old (cell_of_row HK2.out rfl)
              have X2 : ∀ y : Ext (w2.alloc (.cells #[.int .i64 gc, .bool gb, .int .i64 gn, .int .i64 gs, .int .i64 gl] 179)), y.v.cell? ⟨w2.heap.size, 0, none⟩ = some (.int .i64 gc) := fun y => y.new rfl
              have X3 : ∀ y : Ext (w2.alloc (.cells #[.int .i64 gc, .bool gb, .int .i64 gn, .int .i64 gs, .int .i64 gl] 179)), y.v.cell? ⟨w2.heap.size, 2, none⟩ = some (.int .i64 gn) := fun y => y.new rfl
              go_wp2_with fail
              (have ne := ext_ne; refine wp_region_ext (by kernel_rfl) (by kernel_rfl) ?_; (repeat (first | go_big_quiet_skip | (go_big_quiet_want; go_big_quiet_op; first | go_big_quiet_on | (apply Exists.intro; refine ⟨fun x => ?_, ?_⟩; (· (exact HBG.out _ HB2.out x)); go_big_quiet_on)))); refine nil_ext ?_)
              intro w5 hb5
              have hb6 : Below w2.heap.size w2 w5 := below_alloc hb5
              have HI5 : Hid (RdI W w5 R a E.s.length c E.d (tree ++ ⟨10, ⟨#[]⟩, 0, ((nd E.s i).kids.length : Int)⟩ :: acc) 0 p) := by have := HI2.out.below hb6; rw [HGE.out] at this; exact this
              have HF5 : Hid (Fr R w w5) := HF2.out.below hb6
              have HG5 : Hid (w5.heap[w.heap.size]? = some (.cells #[.int .i64 (nd E.s i).kind, .int .i64 (nd E.s i).tag, .int .i64 (nd E.s i).mode, .slice (some ⟨kb, ko, none⟩) (nd E.s i).kids.length kc] 58 (0, 0))) := block_below HG2.out hb6
              have HK5 : Hid (w5.heap[wr.heap.size]? = some (.cells #[.int .i64 t, .bool yo, .string yd] 55 (0, 0))) := block_below HK2.out hb6
              clear X0 X1 X2 X3 hb5 hb6 s0 s3
              go_wp2_with fail
              go_meet
              exact ⟨_, rfl, HI5.out, HF5.out, HG5.out, HK5.out, .inl ⟨hxt, HGE.out, rfl⟩⟩
            · rw [if_neg hge] at hI2
              have hge' : (ge != 0) = true := by simp [hge]
              have HGE : Hid (ge ≠ 0) := hge
              have HI2 : Hid (RdI W w2 R a E.s.length c E.d (tree ++ ⟨10, ⟨#[]⟩, 0, ((nd E.s i).kids.length : Int)⟩ :: acc) ge x') := hI2
              have HIA2 : Hid (∀ A, RdI W (w2.alloc A) R a E.s.length c E.d (tree ++ ⟨10, ⟨#[]⟩, 0, ((nd E.s i).kids.length : Int)⟩ :: acc) ge x' ∧ Fr R w (w2.alloc A)) := fun A => ⟨hI2.below ((Below.refl _ _).alloc (Nat.le_refl _) _), HF2.out.below ((Below.refl _ _).alloc (Nat.le_refl _) _)⟩
              have s3 := hI2.r3
              have HOE : Hid (o = .error (ge, (x' : Int))) := by
                have := seqF_herr hlt HMM.out hxt (by rw [HHD.out]; exact hge)
                rw [HHD.out] at this
                exact this
              clear hI2 hf2 hge
              go_wp2
              refine bodyPost_ret (results_none rfl _ _ _) rfl ?_
              refine ⟨rfl, _, _, _, (HIA2.out _).1, ?_, (HIA2.out _).2⟩
              rw [HOE.out]
              exact ⟨rfl, rfl, HGE.out⟩
          · have hxt' : (tz : Int) ≤ x' := by omega
            go_wp2_with fail
            go_meet
            exact ⟨false, rfl, HIA.out _, HFA.out _, HGA.out _, HGK.out, .inr ⟨hxt, rfl⟩⟩
        case rest =>
          obtain ⟨bb, rfl, hIc, hfc, hGc, hKc, hbb⟩ := hcut
          have HIC : Hid (RdI W wc R a E.s.length c E.d (tree ++ ⟨10, ⟨#[]⟩, 0, ((nd E.s i).kids.length : Int)⟩ :: acc) 0 p) := hIc
          have HFC : Hid (Fr R w wc) := hfc
          have HGC : Hid (wc.heap[w.heap.size]? = some (.cells #[.int .i64 (nd E.s i).kind, .int .i64 (nd E.s i).tag, .int .i64 (nd E.s i).mode, .slice (some ⟨kb, ko, none⟩) (nd E.s i).kids.length kc] 58 (0, 0))) := hGc
          have HKC : Hid (wc.heap[wr.heap.size]? = some (.cells #[.int .i64 t, .bool yo, .string yd] 55 (0, 0))) := hKc
          have hKl : wr.heap.size < wc.heap.size := row_lt hKc
          have c0 : wc.cell? ⟨wr.heap.size, 0, none⟩ = some (.int .i64 t) := cell_of_row hKc rfl
          have c1 : wc.cell? ⟨wr.heap.size, 1, none⟩ = some (.bool yo) := cell_of_row hKc rfl
          have c2 : wc.cell? ⟨wr.heap.size, 2, none⟩ = some (.string yd) := cell_of_row hKc rfl
          clear hIc hfc hGc hKc HIA HFA HGA HGK HRH HBG
          have HRO2 : Hid (Room (tree ++ ⟨10, ⟨#[]⟩, 0, ((nd E.s i).kids.length : Int)⟩ :: acc) f x' tz) := by
            show Room _ _ _ _
            have := HRO.out
            unfold Room at this ⊢
            simp only [List.length_append, List.length_cons]
            omega
          have hl2 : (tree ++ ⟨10, ⟨#[]⟩, 0, ((nd E.s i).kids.length : Int)⟩ :: acc).length ≤ 1099511627776 := by have := HRO2.out; unfold Room at this; omega
          cases bb
          · have hno := seqF_no hlt HMM.out (by
              rw [HT.out, HHD.out]
              rcases hbb with ⟨q1, q2, q3⟩ | ⟨q1, _⟩
              · exact .inl ⟨q1, q2, q3.symm⟩
              · exact .inr q1)
            rw [HYO.out, HYD.out] at hno
            clear hbb
            rcases hno with ⟨rfl, hnx⟩ | ⟨rfl, hyd, hnx⟩ | ⟨rfl, hyd, hnx⟩
            · have HNX : Hid (seqF E (rdF E f) tz (dp + 1) ((nd E.s i).kids.drop (j + 1)) x' (acc ++ [⟨15, noB, 0, 0⟩]) = some o) := hnx
              clear hnx
              go_wp2_with fail
              refine (put_any W _ R a E.s.length c E.d _ 0 p ⟨15, ⟨#[]⟩, 0, 0⟩ HIC.out hl2).mono ?_
              rintro e w6 ⟨rfl, hI6, hf6⟩
              have HI6 : Hid (RdI W w6 R a E.s.length c E.d ((tree ++ ⟨10, ⟨#[]⟩, 0, ((nd E.s i).kids.length : Int)⟩ :: acc) ++ [⟨15, ⟨#[]⟩, 0, 0⟩]) 0 p) := hI6
              have HF6 : Hid (Fr R w w6) := HFC.out.trans hf6
              have HG6 : Hid (w6.heap[w.heap.size]? = some (.cells #[.int .i64 (nd E.s i).kind, .int .i64 (nd E.s i).tag, .int .i64 (nd E.s i).mode, .slice (some ⟨kb, ko, none⟩) (nd E.s i).kids.length kc] 58 (0, 0))) := hf6 _ _ _ (by omega) (by decide) HGC.out
              clear hI6 hf6 c0 c1 c2
              go_wp2
              go_roundw
              case rel => exact ⟨j + 1, x', rfl, by go_num, by omega, HF6.out, HG6.out, .inl ⟨x', rfl, acc ++ [⟨15, noB, 0, 0⟩], HNX.out, by have := HI6.out; simpa using this, by simp only [List.length_append, List.length_cons, List.length_nil]; omega, hx1, hx2⟩⟩
              case measure => simp [intOf]; omega
            · have hde : yd.toList.isEmpty = false := emp_f (by omega)
              obtain ⟨u, hel, hdv, hk1, hk9⟩ := HDV.out i HIL.out _ (kd_mem hlt) (by rw [HYD.out]; exact hyd)
              rw [HT.out, HYD.out] at hel
              rw [HT.out] at hdv hk1 hk9
              rw [hdv] at hnx
              have HNX : Hid (seqF E (rdF E f) tz (dp + 1) ((nd E.s i).kids.drop (j + 1)) x' (acc ++ [⟨(nd E.s t).kind, u, 0, 0⟩]) = some o) := hnx
              have hyds : yd.size ≤ 140737488355328 := by have := HC.out.sok i HIL.out _ (kd_mem hlt); rw [HYD.out] at this; omega
              have HRD : Hid (∀ wq, Below W.heap.size W wq → Calls Tryz.prog 39 #[.slice a E.s.length c, .int .i64 t, .string yd] wq fun e w' => ∃ gv cv, e = .returned (.tuple #[.slice (some ⟨gv, 0, none⟩) 1 cv, .int .i64 0, .int .i64 0]) ∧ Below wq.heap.size wq w' ∧ w'.ownsRow wq.heap.size 60 4 (.slice (some ⟨gv, 0, none⟩) 1 cv) 1 (vcells [⟨(nd E.s t).kind, u, 0, 0⟩])) := fun wq hq =>
                (read_leaf E.s a c t yd wq (HC.out.sch.below hq) htl hk1 hk9 (fun _ => by have := (HC.out.right.2.2.1 t htl).1; unfold Bad1 at this; omega) hyds).mono fun e w' hr => by
                  obtain ⟨v, p0, c0, rfl, hb, ⟨rfl, rfl, u', hu', ho'⟩ | ⟨_, _, hno⟩⟩ := hr
                  · rw [elem_one hu' hel] at ho'
                    obtain ⟨gv, cv, rfl⟩ : ∃ g cap, v = .slice (some ⟨g, 0, none⟩) 1 cap := by obtain ⟨g, cap, q⟩ := ho'.form (by decide); exact ⟨g, cap, q.1⟩
                    exact ⟨gv, cv, rfl, hb, ho'⟩
                  · exact absurd hel (hno u)
              have RUN : Hid (∀ args w, (callFunc 39 args).run Tryz.prog w = .ok (.enter 39 args) w) := fun args w => run_enter Tryz.func39 (by kernel_rfl) (by rfl) args w
              have s0 := HIC.out.r0
              clear hnx hel hdv hk1 hk9 hyd hyds
              go_upto_region 20 with fail
              go_cut [15, 16, 17] (fun l q1 q2 wx => ∃ gv cv, l = .slice (some ⟨gv, 0, none⟩) 1 cv ∧ Below wc.heap.size wc wx ∧ wx.ownsRow wc.heap.size 60 4 (.slice (some ⟨gv, 0, none⟩) 1 cv) 1 (vcells [⟨(nd E.s t).kind, u, 0, 0⟩]) ∧ q1 = .int .i64 0 ∧ q2 = .int .i64 0)
              case first =>
                go_region_law (refine step_callsW rfl 39 _ _ rfl #[.slice a E.s.length c, .int .i64 t, .string yd] (by simp [Act.eval, Act.put]) _ (RUN.out _ _) (HRD.out _ (HIC.out.bel.trans ((below_drewN (Below.refl _ _) 1).mono HIC.out.bel.size))) ?_; rintro e w5 ⟨gv, cv, rfl, hb5, ho5⟩; refine ⟨_, rfl, ?_⟩)
                all_goals
                  have hb6 : Below wc.heap.size wc w5 := (below_drewN (Below.refl wc.heap.size wc) 1).trans hb5
                  have HFN : Hid (Below wc.heap.size wc w5 ∧ w5.ownsRow wc.heap.size 60 4 (.slice (some ⟨gv, 0, none⟩) 1 cv) 1 (vcells [⟨(nd E.s t).kind, u, 0, 0⟩])) := ⟨hb6, ho5⟩
                  clear hb5 hb6 ho5
                  go_simp
                  go_wp2_with fail
                  go_meet
                  exact ⟨gv, cv, rfl, HFN.out.1, HFN.out.2, rfl, rfl⟩
              case rest =>
                obtain ⟨gv, cv, rfl, hbx, hox, rfl, rfl⟩ := hcut
                obtain ⟨TL, hTL⟩ : ∃ TL : List Vl, (tree ++ ⟨10, ⟨#[]⟩, 0, ((nd E.s i).kids.length : Int)⟩ :: acc) = TL := ⟨_, rfl⟩
                have HTL : Hid ((tree ++ ⟨10, ⟨#[]⟩, 0, ((nd E.s i).kids.length : Int)⟩ :: acc) = TL) := hTL
                have hl3 : TL.length ≤ 1099511627776 := by rw [← hTL]; exact hl2
                have HIX : Hid (RdI W wc R a E.s.length c E.d TL 0 p) := by show RdI W wc R a E.s.length c E.d TL 0 p; rw [← hTL]; exact HIC.out.below hbx
                have HFX : Hid (Fr R w wc) := HFC.out.below hbx
                have HGX : Hid (wc.heap[w.heap.size]? = some (.cells #[.int .i64 (nd E.s i).kind, .int .i64 (nd E.s i).tag, .int .i64 (nd E.s i).mode, .slice (some ⟨kb, ko, none⟩) (nd E.s i).kids.length kc] 58 (0, 0))) := block_below HGC.out hbx
                have HOX : Hid (∃ B, R < B ∧ wc.ownsRow B 60 4 (.slice (some ⟨gv, 0, none⟩) 1 cv) 1 (vcells [⟨(nd E.s t).kind, u, 0, 0⟩])) := ⟨_, lt_of_cell HIC.out.r0, hox⟩
                clear hbx hox c0 c1 c2 s0 HRD RUN hTL hl2
                go_wp2
                go_loopw [18] (fun vi wq => (vi = .int .i64 0 ∧ wq = wc) ∨ (vi = .int .i64 1 ∧ RdI W wq R a E.s.length c E.d (TL ++ [⟨(nd E.s t).kind, u, 0, 0⟩]) 0 p ∧ Fr R w wq ∧ wq.heap[w.heap.size]? = some (.cells #[.int .i64 (nd E.s i).kind, .int .i64 (nd E.s i).tag, .int .i64 (nd E.s i).mode, .slice (some ⟨kb, ko, none⟩) (nd E.s i).kids.length kc] 58 (0, 0)))) (fun vi _ => 1 - (intOf vi).toNat)
                case atStart => exact .inl ⟨rfl, rfl⟩
                case round =>
                  rcases hrel with ⟨rfl, rfl⟩ | ⟨rfl, hI6, hF6, hG6⟩
                  · obtain ⟨i0, hi0, hz0, hz1, hz2⟩ := info_parts Tryz.infoVal
                    obtain ⟨B, hRB, hox⟩ := HOX.out
                    obtain ⟨hb, hlo, vt, hr, ho⟩ := HIX.out
                    have HB : Hid (Below W.heap.size W wr) := hb
                    have HO : Hid (wr.ownsRow W.heap.size 60 4 vt TL.length (vcells TL)) := ho
                    have HR : Hid (wr.heap[R]? = some (rdObj a E.s.length c E.d vt 0 p)) := hr
                    unfold rdObj at hr
                    have y2 : wr.cell? ⟨R, 2, none⟩ = some vt := by simp [World.cell?, hr]
                    have f2 : wr.frozen? ⟨R, 2, none⟩ = false := by simp [World.frozen?, hr]
                    have hRl2 : R < wr.heap.size := lt_of_cell y2
                    have hgl : gv < wr.heap.size := (hox.lt gv rfl).2
                    have z0 : wr.cell? ⟨gv, 0, none⟩ = some (.int .i64 (nd E.s t).kind) := hox.cellAt 0 (by decide)
                    have z1 : wr.cell? ⟨gv, 1, none⟩ = some (.string u) := hox.cellAt 1 (by decide)
                    have z2 : wr.cell? ⟨gv, 2, none⟩ = some (.int .i64 0) := hox.cellAt 2 (by decide)
                    have z3 : wr.cell? ⟨gv, 3, none⟩ = some (.int .i64 0) := hox.cellAt 3 (by decide)
                    have hsz : W.heap.size ≤ wr.heap.size + 1 := by have := hb.size; omega
                    clear hb ho hr hox
                    have HAP : Hid (∀ g cap w3, w3.ownsRow W.heap.size 60 4 (.slice (some ⟨g, 0, none⟩) (TL.length + 1) cap) (TL.length + 1) (vcells TL ++ [.int .i64 (nd E.s t).kind, .string u, .int .i64 0, .int .i64 0]) → (wr.drew.alloc (.cells #[.int .i64 (nd E.s t).kind, .string u, .int .i64 0, .int .i64 0] 60)).grownBy w3 vt.ownBlock →
                        w3.cell? ⟨R, 2, none⟩ = some vt ∧ w3.frozen? ⟨R, 2, none⟩ = false ∧ RdI W (w3.setCell ⟨R, 2, none⟩ (.slice (some ⟨g, 0, none⟩) (TL.length + 1) cap)) R a E.s.length c E.d (TL ++ [⟨(nd E.s t).kind, u, 0, 0⟩]) 0 p ∧ Fr R wr (w3.setCell ⟨R, 2, none⟩ (.slice (some ⟨g, 0, none⟩) (TL.length + 1) cap))) := fun g cap w3 h1 h2 => by
                      have hR3 : w3.heap[R]? = some (rdObj a E.s.length c E.d vt 0 p) := by
                        rw [h2.block R (by simp; omega) (fun q => row_ne HR.out HO.out (by decide) q.symm), Below.heap_alloc wr.drew _ _ hRl2]; exact HR.out
                      have hb3 : Below W.heap.size W w3 := by
                        have hb0 : Below W.heap.size W (wr.drew.alloc (.cells #[.int .i64 (nd E.s t).kind, .string u, .int .i64 0, .int .i64 0] 60)) := HB.out.drew.alloc HB.out.size _
                        exact hb0.grown h2 hb0.size (fun k hk => (HO.out.lt k hk).1)
                      have ho3 : w3.ownsRow W.heap.size 60 4 (.slice (some ⟨g, 0, none⟩) (TL.length + 1) cap) (TL ++ [(⟨(nd E.s t).kind, u, 0, 0⟩ : Vl)]).length (vcells (TL ++ [(⟨(nd E.s t).kind, u, 0, 0⟩ : Vl)])) := by rw [vcells_append, List.length_append]; exact h1
                      obtain ⟨b1, r1, o1⟩ := rd_set 2 (.slice (some ⟨g, 0, none⟩) (TL.length + 1) cap) hb3 HIX.out.lo hR3 ho3
                      refine ⟨by unfold rdObj at hR3; simp [World.cell?, hR3], by unfold rdObj at hR3; simp [World.frozen?, hR3], ⟨b1, HIX.out.lo, _, r1, o1⟩, fun k A T hk hT hg => ?_⟩
                      have hlt : k < wr.heap.size := row_lt hg
                      rw [heap_setCell_other _ _ _ _ hk, h2.block k (by simp; omega) (fun q => row_ne hg HO.out hT q.symm), Below.heap_alloc wr.drew _ _ hlt]
                      exact hg
                    go_wp2_with fail
                    go_region_law (refine step_append_lies _ rfl (.tmp 132) (.tmp 137) 39 rfl W.heap.size 60 i0 Tryz.zeroVal 4 40 Tryz.underlying39 hi0 hz0 hz1 hz2 rfl (by decide) vt TL.length (vcells TL) (by simp [Act.eval, Act.put]) (HO.out.drew.alloc _) ⟨wr.heap.size, 0, none⟩ 1 1 [.int .i64 (nd E.s t).kind, .string u, .int .i64 0, .int .i64 0] (by simp [Act.eval, Act.put]) rfl (World.news_of_block (heap_alloc_new wr.drew _)) (by intro u hu; simp at hu; rcases hu with rfl | rfl | rfl | rfl <;> rfl) (by decide) (by unfold maxLen; omega) (by omega) (by simpa using hsz) (wr.heap.size + 1) (by simp) ?_; intro g6 cap6 w6 h61 h62 h63 h64; obtain ⟨e2, q2, hI6, hF6⟩ := HAP.out g6 cap6 w6 h61 (by exact h62); have HI6 := hide hI6; have HF6 := hide hF6; clear h61 h62 h63 h64 hI6 hF6)
                    all_goals
                      go_simp
                      go_wp2
                      go_roundw
                      case rel => exact .inr ⟨by go_num, HI6.out, HFX.out.trans HF6.out, HF6.out _ _ _ (by omega) (by decide) HGX.out⟩
                      case measure => simp [intOf]
                  · have HI6 : Hid (RdI W wr R a E.s.length c E.d (TL ++ [⟨(nd E.s t).kind, u, 0, 0⟩]) 0 p) := hI6
                    have HF6 : Hid (Fr R w wr) := hF6
                    have HG6 : Hid (wr.heap[w.heap.size]? = some (.cells #[.int .i64 (nd E.s i).kind, .int .i64 (nd E.s i).tag, .int .i64 (nd E.s i).mode, .slice (some ⟨kb, ko, none⟩) (nd E.s i).kids.length kc] 58 (0, 0))) := hG6
                    clear hI6 hF6 hG6
                    go_wp2
                    go_roundw
                    case rel => exact ⟨j + 1, x', rfl, by go_num, by omega, HF6.out, HG6.out, .inl ⟨x', rfl, acc ++ [⟨(nd E.s t).kind, u, 0, 0⟩], HNX.out, by have := HI6.out; rw [← HTL.out] at this; simpa using this, by simp only [List.length_append, List.length_cons, List.length_nil]; omega, hx1, hx2⟩⟩
                    case measure => simp [intOf]; omega
            · have hde : yd.toList.isEmpty = true := emp_t hyd
              clear hyd
              rcases hnx with ⟨hxt, ho⟩ | ⟨hxt, ho⟩
              · have HOE : Hid (o = .error (4, (x' : Int))) := ho
                have hxt' : (x' : Int) < tz := by omega
                clear ho
                go_wp2_with fail
                refine (stop_first W _ R a E.s.length c E.d _ p 4 x' HIC.out).mono ?_
                rintro e w6 ⟨rfl, hI6, hoth⟩
                have HI6 : Hid (RdI W w6 R a E.s.length c E.d (tree ++ ⟨10, ⟨#[]⟩, 0, ((nd E.s i).kids.length : Int)⟩ :: acc) 4 x') := hI6
                have HF6 : Hid (Fr R w w6) := HFC.out.trans (Fr.of_same hoth)
                have HG6 : Hid (w6.heap[w.heap.size]? = some (.cells #[.int .i64 (nd E.s i).kind, .int .i64 (nd E.s i).tag, .int .i64 (nd E.s i).mode, .slice (some ⟨kb, ko, none⟩) (nd E.s i).kids.length kc] 58 (0, 0))) := (hoth _ (by omega)).trans HGC.out
                clear hI6 hoth c0 c1 c2
                go_wp2
                go_roundw
                case rel => exact ⟨j + 1, x', rfl, by go_num, by omega, HF6.out, HG6.out, .inr ⟨4, x', _, HOE.out, HI6.out⟩⟩
                case measure => simp [intOf]; omega
              · have HOE : Hid (o = .error (3, (x' : Int))) := ho
                have hxt' : (tz : Int) ≤ x' := by omega
                clear ho
                go_wp2_with fail
                refine (stop_first W _ R a E.s.length c E.d _ p 3 x' HIC.out).mono ?_
                rintro e w6 ⟨rfl, hI6, hoth⟩
                have HI6 : Hid (RdI W w6 R a E.s.length c E.d (tree ++ ⟨10, ⟨#[]⟩, 0, ((nd E.s i).kids.length : Int)⟩ :: acc) 3 x') := hI6
                have HF6 : Hid (Fr R w w6) := HFC.out.trans (Fr.of_same hoth)
                have HG6 : Hid (w6.heap[w.heap.size]? = some (.cells #[.int .i64 (nd E.s i).kind, .int .i64 (nd E.s i).tag, .int .i64 (nd E.s i).mode, .slice (some ⟨kb, ko, none⟩) (nd E.s i).kids.length kc] 58 (0, 0))) := (hoth _ (by omega)).trans HGC.out
                clear hI6 hoth c0 c1 c2
                go_wp2
                go_roundw
                case rel => exact ⟨j + 1, x', rfl, by go_num, by omega, HF6.out, HG6.out, .inr ⟨3, x', _, HOE.out, HI6.out⟩⟩
                case measure => simp [intOf]; omega
          · obtain ⟨hxt, rfl, hbg⟩ : x' < tz ∧ ge = 0 ∧ E.bg t gc gn = true := by
              rcases hbb with ⟨q1, q2, q3⟩ | ⟨_, q⟩
              · exact ⟨q1, q2, q3.symm⟩
              · cases q
            obtain ⟨o', hrec, ho⟩ := seqF_yes hlt HMM.out hxt (by rw [HHD.out]) (by rw [HT.out, HHD.out]; exact hbg)
            rw [HT.out] at hrec
            rw [HYD.out] at ho
            have HREC : Hid (rdF E f t x' tz (dp + 1) = some o') := hrec
            have HO : Hid ((∃ u, o' = .error u ∧ o = .error u) ∨ ∃ vs z, o' = .ok (vs, z) ∧ ((E.d.extract x' z = yd ∧ o = .error (9, (x' : Int))) ∨ (E.d.extract x' z ≠ yd ∧ seqF E (rdF E f) tz (dp + 1) ((nd E.s i).kids.drop (j + 1)) z (acc ++ vs) = some o))) := ho
            clear hrec ho hbg hbb
            go_wp2_with fail
            refine (HN.out t x' tz (dp + 1) o' _ p _ HREC.out htl hx2 hz (by omega) (by omega) HRO2.out HIC.out).mono ?_
            rintro e w7 ⟨v, rfl, ha7, hv7⟩
            obtain ⟨t7, e7, p7, hI7, hO7, hF7⟩ := ha7
            have HI7 : Hid (RdI W w7 R a E.s.length c E.d t7 e7 p7) := hI7
            have HF7 : Hid (Fr R w w7) := HFC.out.trans hF7
            have HG7 : Hid (w7.heap[w.heap.size]? = some (.cells #[.int .i64 (nd E.s i).kind, .int .i64 (nd E.s i).tag, .int .i64 (nd E.s i).mode, .slice (some ⟨kb, ko, none⟩) (nd E.s i).kids.length kc] 58 (0, 0))) := hF7 _ _ _ (by omega) (by decide) HGC.out
            have d2 : w7.cell? ⟨wr.heap.size, 2, none⟩ = some (.string yd) := cell_of_row (hF7 _ _ _ (by omega) (by decide) HKC.out) rfl
            have s3 := hI7.r3
            have s1 := hI7.r1
            clear hI7 hF7 c0 c1 c2
            rcases HO.out with ⟨u, rfl, ho⟩ | ⟨vs, z, rfl, ho⟩
            · obtain ⟨u1, u2⟩ := u
              obtain ⟨r1, r2, r3⟩ := hO7
              subst r1 r2
              have hne : (e7 == 0) = false := by rw [beq_eq_false_iff_ne]; exact r3
              have HOE : Hid (o = .error (e7, p7)) := ho
              clear r3 ho hv7
              go_wp2_with fail
              go_quiet (fail)
              go_wp2
              go_roundw
              case rel => exact ⟨j + 1, v, rfl, by go_num, by omega, HF7.out, HG7.out, .inr ⟨_, _, _, HOE.out, HI7.out.below (below_drewN (Below.refl _ _) _)⟩⟩
              case measure => simp [intOf]; omega
            · obtain ⟨r1, r2, r3⟩ := hO7
              subst r1 r2 r3
              obtain rfl : v = (z : Int) := hv7 vs z rfl
              have hlen := rdF_len0 HC.out.right.fine htl HREC.out
              have hq1 : (x' : Int) ≤ z := by omega
              have hq2 : (z : Int) ≤ E.d.size := by omega
              rcases ho with ⟨heq, ho⟩ | ⟨hneq, ho⟩
              · have HOE : Hid (o = .error (9, (x' : Int))) := ho
                have hbe : ((E.d.extract x' z).toList == yd.toList) = true := by rw [heq]; simp
                clear heq ho hv7
                go_wp2_with fail
                go_quiet (fail)
                go_wp2_with fail
                refine (stop_first W _ R a E.s.length c E.d _ p7 9 x' (HI7.out.below (below_drewN (Below.refl _ _) _))).mono ?_
                rintro e w8 ⟨rfl, hI8, hoth⟩
                have HI8 : Hid (∃ t8, RdI W w8 R a E.s.length c E.d t8 9 x') := ⟨_, hI8⟩
                have HF8 : Hid (Fr R w w8) := (HF7.out.below (below_drewN (Below.refl _ _) _)).trans (Fr.of_same hoth)
                have HG8 : Hid (w8.heap[w.heap.size]? = some (.cells #[.int .i64 (nd E.s i).kind, .int .i64 (nd E.s i).tag, .int .i64 (nd E.s i).mode, .slice (some ⟨kb, ko, none⟩) (nd E.s i).kids.length kc] 58 (0, 0))) := (hoth _ (by omega)).trans HG7.out
                clear hI8 hoth
                go_wp2
                go_roundw
                case rel => obtain ⟨t8, h8⟩ := HI8.out; exact ⟨j + 1, z, rfl, by go_num, by omega, HF8.out, HG8.out, .inr ⟨9, x', t8, HOE.out, h8⟩⟩
                case measure => simp [intOf]; omega
              · have HNX : Hid (seqF E (rdF E f) tz (dp + 1) ((nd E.s i).kids.drop (j + 1)) z (acc ++ vs) = some o) := ho
                have hbe : ((E.d.extract x' z).toList == yd.toList) = false := by
                  rw [beq_eq_false_iff_ne, Lib.toList_data, Lib.toList_data]
                  intro q
                  exact hneq (ByteArray.ext (Array.ext' q))
                clear hneq ho hv7
                go_wp2_with fail
                go_quiet (fail)
                go_wp2
                go_roundw
                case rel => exact ⟨j + 1, z, rfl, by go_num, by omega, HF7.out, HG7.out, .inl ⟨z, rfl, acc ++ vs, HNX.out, by have := HI7.out.below (below_drewN (Below.refl _ _) nq); simpa using this, by simp only [List.length_append]; omega, by omega, by omega⟩⟩
                case measure => simp [intOf]; omega
      · have hlt' : ((nd E.s i).kids.length : Int) ≤ j := by omega
        rcases seqF_end hlt HMM.out with ⟨hxt, ho⟩ | ⟨hxt, ho⟩
        · have HOE : Hid (o = .error (7, (x' : Int))) := ho
          have hxt' : (x' : Int) < tz := by omega
          clear ho
          go_wp2_with fail
          refine (stop_first W _ R a E.s.length c E.d _ p 7 x' HIR.out).mono ?_
          rintro e w6 ⟨rfl, hI6, hoth⟩
          have HI6 : Hid (RdI W w6 R a E.s.length c E.d (tree ++ ⟨10, ⟨#[]⟩, 0, ((nd E.s i).kids.length : Int)⟩ :: acc) 7 x') := hI6
          have HF6 : Hid (Fr R w w6) := HFR.out.trans (Fr.of_same hoth)
          clear hI6 hoth
          go_wp2
          go_end0
          refine ⟨rfl, _, _, _, HI6.out, ?_, HF6.out⟩
          rw [HOE.out]
          exact ⟨rfl, rfl, by decide⟩
        · have HOE : Hid (o = .ok (acc, x')) := ho
          have hxt' : (tz : Int) ≤ x' := by omega
          clear ho
          go_wp2
          go_end0
          refine ⟨rfl, _, _, _, HIR.out, ?_, HFR.out⟩
          rw [HOE.out]
          exact ⟨rfl, rfl, rfl⟩
    · obtain ⟨e, q, tree', ho, hIr⟩ := hstop
      have HOE : Hid (o = .error (e, q)) := ho
      have HIR : Hid (RdI W wr R a E.s.length c E.d tree' e q) := hIr
      have r3 := hIr.r3
      have hne : (e == 0) = false := by rw [beq_eq_false_iff_ne]; exact HE.out _ _ ho
      clear hIr ho
      by_cases hlt : j < (nd E.s i).kids.length
      · have hlt' : (j : Int) < (nd E.s i).kids.length := by omega
        go_wp2
        go_end0
        refine ⟨rfl, _, _, _, HIR.out, ?_, HFR.out⟩
        rw [HOE.out]
        exact ⟨rfl, rfl, HE.out _ _ HOE.out⟩
      · have hlt' : ((nd E.s i).kids.length : Int) ≤ j := by omega
        go_wp2
        go_end0
        refine ⟨rfl, _, _, _, HIR.out, ?_, HFR.out⟩
        rw [HOE.out]
        exact ⟨rfl, rfl, HE.out _ _ HOE.out⟩
end Go.Proofs.YtkkicodfpekbgaaGreatDoor

/-! The document's reader: choice, in general. -/
namespace Go.Proofs.YtkkicodfpekbgaaGreatDoor
set_option linter.unusedSimpArgs false
set_option linter.unusedVariables false
open Go.RowKit

theorem choiceF_yes {E : Env} {rec : Rec} {h : Hd} {x tz : Nat} {dp : Int} {n : Nd} {j : Nat} {o : Out} (hj : j < n.kids.length) (e : choiceF E rec h x tz dp (n.kids.drop j) j = some o) (hb : E.bg (kd n j).node.toNat h.c h.n = true) :
    ∃ o', rec (kd n j).node.toNat x tz dp = some o' ∧ ((∃ u, o' = .error u ∧ o = .error u) ∨ ∃ vs z, o' = .ok (vs, z) ∧ o = .ok (⟨13, noB, j, 1⟩ :: vs, tz)) := by
  rw [drop_kid hj] at e
  unfold choiceF at e
  rw [if_pos hb] at e
  rcases andThen_cases e with ⟨u, h1, rfl⟩ | ⟨vs, z, h1, h2⟩
  · exact ⟨_, h1, .inl ⟨u, rfl, rfl⟩⟩
  · cases h2; exact ⟨_, h1, .inr ⟨vs, z, rfl, rfl⟩⟩
theorem choiceF_no {E : Env} {rec : Rec} {h : Hd} {x tz : Nat} {dp : Int} {n : Nd} {j : Nat} {o : Out} (hj : j < n.kids.length) (e : choiceF E rec h x tz dp (n.kids.drop j) j = some o) (hb : E.bg (kd n j).node.toNat h.c h.n = false) :
    choiceF E rec h x tz dp (n.kids.drop (j + 1)) (j + 1) = some o := by
  rw [drop_kid hj] at e
  unfold choiceF at e
  rw [if_neg (by rw [hb]; decide)] at e
  exact e

set_option maxHeartbeats 4000000 in
set_option maxRecDepth 100000 in
theorem choice_any (E : Env) (W : World) (R : Nat) (a : Option Addr) (c f : Nat) (hc : RC E W a) (hN : NodeC E W R a c f) (i : Nat) (hi : i < E.s.length) (ka : Option Addr) (kc : Nat) (hka : KidsIn W ka (nd E.s i).kids) (hkc : (nd E.s i).kids.length ≤ kc)
    (g : Hd) (x tz : Nat) (dp : Int) (o : Out) (tree : List Vl) (p : Int) (w : World) (hm : choiceF E (rdF E f) g x tz dp (nd E.s i).kids 0 = some o) (hxz : x ≤ tz) (hz : tz ≤ E.d.size) (hd1 : 1 ≤ dp) (hd2 : dp ≤ 13) (hroom : Room tree (f + 1) x tz) (hI : RdI W w R a E.s.length c E.d tree 0 p) :
    Calls Tryz.prog 143 #[.pointer (some ⟨R, 0, none⟩), .agg #[.int .i64 (nd E.s i).kind, .int .i64 (nd E.s i).tag, .int .i64 (nd E.s i).mode, .slice ka (nd E.s i).kids.length kc], .agg #[.int .i64 g.c, .bool g.b, .int .i64 g.n, .int .i64 g.s, .int .i64 g.l], .int .i64 x, .int .i64 tz, .int .i64 dp] w
      fun e w' => e = .returned (.tuple #[]) ∧ AfterR E W R a c o tree p w w' := by
  have hE := choiceF_err (rdF_err f) _ _ hm
  have HE : Hid (IsErr o) := hE
  have HC : Hid (RC E W a) := hc
  have HN : Hid (NodeC E W R a c f) := hN
  have HKI : Hid (KidsIn W ka (nd E.s i).kids) := hka
  have HM : Hid (choiceF E (rdF E f) g x tz dp ((nd E.s i).kids.drop 0) 0 = some o) := hm
  have HI : Hid (RdI W w R a E.s.length c E.d tree 0 p) := hI
  have hRl : R < w.heap.size := lt_of_cell hI.r0
  have HRO : Hid (Room tree (f + 1) x tz) := hroom
  have HKR : Hid (∀ j, j < (nd E.s i).kids.length → ∃ t : Nat, (kd (nd E.s i) j).node = t ∧ t < E.s.length) := fun j hj => by
    have := hc.right.fine.within i hi _ (kd_mem hj)
    exact ⟨(kd (nd E.s i) j).node.toNat, by omega, by omega⟩
  have hk8 := hc.right.fine.eight i hi
  have hs40 := hc.right.fine.len
  have HA : Hid (∀ A B, Below w.heap.size w ((w.alloc A).alloc B)) := fun A B => ((Below.refl w.heap.size w).alloc (Nat.le_refl _) A).alloc (by simp) B
  clear hc hN hka hm hI hroom hE hi
  go_enter Tryz.func143, Tryz.ntmps143
  go_wp2
  generalize hW0 : (w.alloc (.cells #[.int .i64 (nd E.s i).kind, .int .i64 (nd E.s i).tag, .int .i64 (nd E.s i).mode, .slice ka (nd E.s i).kids.length kc] 58)).alloc (.cells #[.int .i64 g.c, .bool g.b, .int .i64 g.n, .int .i64 g.s, .int .i64 g.l] 179) = w0
  have HB0 : Hid (Below w.heap.size w w0) := by show Below w.heap.size w w0; rw [← hW0]; exact HA.out _ _
  have HG1 : Hid (w0.heap[w.heap.size]? = some (.cells #[.int .i64 (nd E.s i).kind, .int .i64 (nd E.s i).tag, .int .i64 (nd E.s i).mode, .slice ka (nd E.s i).kids.length kc] 58 (0, 0))) := by
    show w0.heap[w.heap.size]? = _
    rw [← hW0]; exact block_below (heap_alloc_new w _) ((Below.refl _ _).alloc (Nat.le_refl _) _)
  have HG2 : Hid (w0.heap[w.heap.size + 1]? = some (.cells #[.int .i64 g.c, .bool g.b, .int .i64 g.n, .int .i64 g.s, .int .i64 g.l] 179 (0, 0))) := by
    show w0.heap[w.heap.size + 1]? = _
    rw [← hW0]
    have q := heap_alloc_new (w.alloc (.cells #[.int .i64 (nd E.s i).kind, .int .i64 (nd E.s i).tag, .int .i64 (nd E.s i).mode, .slice ka (nd E.s i).kids.length kc] 58)) (.cells #[.int .i64 g.c, .bool g.b, .int .i64 g.n, .int .i64 g.s, .int .i64 g.l] 179)
    simpa using q
  have HI0 : Hid (RdI W w0 R a E.s.length c E.d tree 0 p) := HI.out.below HB0.out
  clear hW0 HA
  go_loopw [12] (fun vj wq => ∃ j : Nat, j ≤ (nd E.s i).kids.length ∧ vj = .int .i64 j ∧ choiceF E (rdF E f) g x tz dp ((nd E.s i).kids.drop j) j = some o ∧ Below w0.heap.size w0 wq) (fun vj _ => (nd E.s i).kids.length - (intOf vj).toNat)
  case atStart => exact ⟨0, Nat.zero_le _, rfl, HM.out, Below.refl _ _⟩
  case round =>
    obtain ⟨j, hj, rfl, hmj, hbr⟩ := hrel
    have HMJ : Hid (choiceF E (rdF E f) g x tz dp ((nd E.s i).kids.drop j) j = some o) := hmj
    have HB : Hid (Below w0.heap.size w0 wr) := hbr
    have HIr : Hid (RdI W wr R a E.s.length c E.d tree 0 p) := HI0.out.below hbr
    have HFr : Hid (Fr R w wr) := (Fr.of_below HB0.out).below hbr
    have HR1 : Hid (wr.heap[w.heap.size]? = some (.cells #[.int .i64 (nd E.s i).kind, .int .i64 (nd E.s i).tag, .int .i64 (nd E.s i).mode, .slice ka (nd E.s i).kids.length kc] 58 (0, 0))) := block_below HG1.out hbr
    have HR2 : Hid (wr.heap[w.heap.size + 1]? = some (.cells #[.int .i64 g.c, .bool g.b, .int .i64 g.n, .int .i64 g.s, .int .i64 g.l] 179 (0, 0))) := block_below HG2.out hbr
    have n3 : wr.cell? ⟨w.heap.size, 3, none⟩ = some (.slice ka (nd E.s i).kids.length kc) := cell_of_row HR1.out rfl
    clear hmj hbr
    by_cases hlt : j < (nd E.s i).kids.length
    · have hlt' : (j : Int) < (nd E.s i).kids.length := by omega
      obtain ⟨kb, ko, rfl, kcl⟩ := HKI.out j hlt
      obtain ⟨t, ht, htl⟩ := HKR.out j hlt
      obtain ⟨k1, _, _⟩ := kcl.below HIr.out.bel
      have k1' : wr.cell? ⟨kb, ko + j * 3, none⟩ = some (.int .i64 t) := by rw [← ht]; exact k1
      have htn : (kd (nd E.s i) j).node.toNat = t := by omega
      have HT : Hid ((kd (nd E.s i) j).node.toNat = t) := htn
      have HBG : Hid (∀ x : Ext wr, Calls Tryz.prog 100 #[.slice a E.s.length c, .int .i64 t, .int .i64 g.c, .int .i64 g.n] x.v fun e w'' => e = .returned (.bool (E.bg t g.c g.n)) ∧ ∃ y : Ext wr, w'' = y.v) := fun x =>
        Ext.callsR (HC.out.bg t htl g.c g.n) (begins_any E.s a c t g.c g.n x.v (HC.out.sch.below (HIr.out.bel.trans (x.h.mono HIr.out.bel.size))) (within_of HC.out.right.2.2.1) (kinds_of HC.out.right.2.2.1) htl hs40)
      have X0 : ∀ x : Ext wr, x.v.cell? ⟨R, 0, none⟩ = some (.slice a E.s.length c) := fun x => x.cell HIr.out.r0
      have X1 : ∀ x : Ext wr, x.v.cell? ⟨w.heap.size, 3, none⟩ = some (.slice (some ⟨kb, ko, none⟩) (nd E.s i).kids.length kc) := fun x => x.cell n3
      have X2 : ∀ x : Ext wr, x.v.cell? ⟨kb, ko + j * 3, none⟩ = some (.int .i64 t) := fun x => x.cell k1'
      have X3 : ∀ x : Ext wr, x.v.cell? ⟨w.heap.size + 1, 0, none⟩ = some (.int .i64 g.c) := fun x => x.cell (cell_of_row HR2.out rfl)
      have X4 : ∀ x : Ext wr, x.v.cell? ⟨w.heap.size + 1, 2, none⟩ = some (.int .i64 g.n) := fun x => x.cell (cell_of_row HR2.out rfl)
      clear k1 kcl ht htn
      go_wp2_with fail
      (have ne := ext_ne; refine wp_region_ext (by kernel_rfl) (by kernel_rfl) ?_; (repeat (first | go_big_quiet_skip | (go_big_quiet_want; go_big_quiet_op; first | go_big_quiet_on | (apply Exists.intro; refine ⟨fun x => ?_, ?_⟩; (· (exact HBG.out x)); go_big_quiet_on)))); refine nil_ext ?_)
      intro w5 hb5
      have HB5 : Hid (Below wr.heap.size wr w5) := hb5
      have HI5 : Hid (RdI W w5 R a E.s.length c E.d tree 0 p) := HIr.out.below hb5
      have HF5 : Hid (Fr R w w5) := HFr.out.below hb5
      have HS1 : Hid (w5.heap[w.heap.size]? = some (.cells #[.int .i64 (nd E.s i).kind, .int .i64 (nd E.s i).tag, .int .i64 (nd E.s i).mode, .slice (some ⟨kb, ko, none⟩) (nd E.s i).kids.length kc] 58 (0, 0))) := block_below HR1.out hb5
      have HK5 : Hid (w5.cell? ⟨kb, ko + j * 3, none⟩ = some (.int .i64 t)) := (hb5.cell (lt_of_cell k1')).trans k1'
      have HBW : Hid (kb < W.heap.size ∧ W.cell? ⟨kb, ko + j * 3, none⟩ = some (.int .i64 t)) := by
        obtain ⟨kb', ko', he, kcl⟩ := HKI.out j hlt
        obtain ⟨rfl, rfl⟩ : kb = kb' ∧ ko = ko' := by injection he with he; injection he with e1 e2; exact ⟨e1, e2⟩
        obtain ⟨t', ht', _⟩ := HKR.out j hlt
        have : t' = t := by have := HT.out; omega
        subst this
        exact ⟨lt_of_cell kcl.node, by rw [← ht']; exact kcl.node⟩
      clear X0 X1 X2 X3 X4 hb5 HBG n3 k1'
      cases hbg : E.bg t g.c g.n
      · have HNX : Hid (choiceF E (rdF E f) g x tz dp ((nd E.s i).kids.drop (j + 1)) (j + 1) = some o) := choiceF_no hlt HMJ.out (by rw [HT.out]; exact hbg)
        clear hbg
        go_wp2
        go_roundw
        case rel => exact ⟨j + 1, by omega, by go_num, HNX.out, HB.out.trans (HB5.out.mono HB.out.size)⟩
        case measure => simp [intOf]; omega
      · obtain ⟨o', hr, ho⟩ := choiceF_yes hlt HMJ.out (by rw [HT.out]; exact hbg)
        rw [HT.out] at hr
        have HREC : Hid (rdF E f t x tz dp = some o') := hr
        have HO : Hid ((∃ u, o' = .error u ∧ o = .error u) ∨ ∃ vs z, o' = .ok (vs, z) ∧ o = .ok (⟨13, noB, j, 1⟩ :: vs, tz)) := ho
        clear hbg hr ho
        have hl1 : tree.length ≤ 1099511627776 := by have := HRO.out; unfold Room at this; omega
        have HRO2 : Hid (Room (tree ++ [⟨13, ⟨#[]⟩, (j : Int), 1⟩]) f x tz) := by show Room _ _ _ _; have := HRO.out; unfold Room at this ⊢; simp only [List.length_append, List.length_cons, List.length_nil]; omega
        go_wp2_with fail
        refine (put_any W _ R a E.s.length c E.d tree 0 p ⟨13, ⟨#[]⟩, j, 1⟩ HI5.out hl1).mono ?_
        rintro e w6 ⟨rfl, hI6, hf6⟩
        have HI6 : Hid (RdI W w6 R a E.s.length c E.d (tree ++ [⟨13, ⟨#[]⟩, (j : Int), 1⟩]) 0 p) := hI6
        have HF6 : Hid (Fr R w w6) := HF5.out.trans hf6
        have m3 : w6.cell? ⟨w.heap.size, 3, none⟩ = some (.slice (some ⟨kb, ko, none⟩) (nd E.s i).kids.length kc) := cell_of_row (hf6 _ _ _ (by omega) (by decide) HS1.out) rfl
        have k6 : w6.cell? ⟨kb, ko + j * 3, none⟩ = some (.int .i64 t) := (hI6.bel.cell (p := ⟨kb, ko + j * 3, none⟩) HBW.out.1).trans HBW.out.2
        clear hI6 hf6
        go_wp2_with fail
        refine (HN.out t x tz dp o' _ p _ HREC.out htl hxz hz hd1 hd2 HRO2.out HI6.out).mono ?_
        rintro e w7 ⟨v, rfl, ha7, _⟩
        have HA7 : Hid (AfterR E W R a c o' (tree ++ [⟨13, ⟨#[]⟩, (j : Int), 1⟩]) p w6 w7) := ha7
        clear ha7 m3 k6
        go_wp2
        refine bodyPost_ret (results_none rfl _ _ _) rfl ?_
        refine ⟨rfl, ?_⟩
        obtain ⟨t', e', p', q1, q2, q3⟩ := HA7.out
        refine ⟨t', e', p', q1, ?_, HF6.out.trans q3⟩
        rcases HO.out with ⟨u, rfl, ho⟩ | ⟨vs, z, rfl, ho⟩
        · obtain ⟨u1, u2⟩ := u
          obtain ⟨r1, r2, _⟩ := q2
          subst r1 r2
          exact out_err HE.out ho _ _ _
        · obtain ⟨r1, r2, r3⟩ := q2
          subst r1 r2 r3 ho
          have := out_ok (⟨13, noB, (j : Int), 1⟩ :: vs) tz tree p'
          simpa using this
    · have hlt' : ((nd E.s i).kids.length : Int) ≤ j := by omega
      have HEQ : Hid (o = .error (4, (x : Int))) := by
        show o = _
        have := HMJ.out
        rw [List.drop_of_length_le (by omega)] at this
        unfold choiceF at this
        exact (Option.some.inj this).symm
      go_wp2_with fail
      refine (stop_first W _ R a E.s.length c E.d tree p 4 x HIr.out).mono ?_
      rintro e w6 ⟨rfl, hI6, hoth⟩
      have HI6 : Hid (RdI W w6 R a E.s.length c E.d tree 4 x) := hI6
      have HF6 : Hid (Fr R w w6) := HFr.out.trans (Fr.of_same hoth)
      clear hI6 hoth
      go_wp2
      go_end0
      exact ⟨rfl, tree, 4, x, HI6.out, out_err HE.out HEQ.out _ _ _, HF6.out⟩
end Go.Proofs.YtkkicodfpekbgaaGreatDoor
