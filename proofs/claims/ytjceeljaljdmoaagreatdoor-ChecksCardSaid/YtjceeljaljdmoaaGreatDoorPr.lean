/-
  schemas.reach: the nodes where one comes to, and whether one comes back.
-/
import Derived.Test.YtjceeljaljdmoaaGreatDoorSl
import Derived.Test.YtjceeljaljdmoaaGreatDoorPa
import Derived.Test.YtjceeljaljdmoaaGreatDoorPp
import Derived.Deep.LoopGhost
namespace Go.Proofs.YtjceeljaljdmoaaGreatDoor
open Go.RowKit

/-- Tags are -1 or more. -/
def Tags (s : List Nd) : Prop := ∀ j, j < s.length → -1 ≤ (nd s j).tag
theorem opn_iff {n : Nd} (h : -1 ≤ n.tag) : n.opn1 ↔ n.opn := by unfold Nd.opn1 Nd.opn; omega
/-- What the search holds in memory. -/
structure ReW (s : List Nd) (w wr : World) (V A S : List Nat) (va vend : Value) (gs : Nat) : Prop where
  inn : wr.ownsRow w.heap.size 3 1 va A.length (ivs A)
  out : wr.ownsRow w.heap.size 3 1 vend (outs s V).length (ivs (outs s V))
  ap : va.ownBlock = none ∨ vend.ownBlock = none ∨ vend.ownBlock ≠ va.ownBlock
  bel : Below w.heap.size w wr
  glo : w.heap.size ≤ gs
  see : ∃ C : Array Value, wr.heap[gs]? = some (.cells C 193 (0, 0)) ∧ ∀ j, j < 40 → C[j]? = some (.bool (decide (j ∈ S)))

/-- What it answers. -/
def RetE (s : List Nd) (i : Nat) (w : World) (e : Ending) (w' : World) : Prop :=
  ∃ (v : Value) (l : List Nat) (bk : Bool), e = .returned (.tuple #[v, .bool bk]) ∧ w'.ownsRow w.heap.size 3 1 v l.length (ivs l) ∧ Below w.heap.size w w' ∧ l.length ≤ s.length + 1 ∧ (∀ j, j ∈ l ↔ Leaf s i j) ∧ (bk = true ↔ Back s i)
theorem own_pop {w : World} {base g ca : Nat} {A : List Nat} {x : Nat} (h : w.ownsRow base 3 1 (.slice (some ⟨g, 0, none⟩) (A ++ [x]).length ca) (A ++ [x]).length (ivs (A ++ [x]))) : w.ownsRow base 3 1 (.slice (some ⟨g, 0, none⟩) A.length ca) A.length (ivs A) := by
  obtain ⟨h1, h2⟩ := h
  refine ⟨by simp [ivs], ?_⟩
  rcases h2 with ⟨h2, _⟩ | ⟨g', cap, cur, hv, h3, h4, h5, h6, h7, h8⟩
  · cases h2
  · refine .inr ⟨g', cap, cur, ?_, h3, h4, ?_, h6, h7, ?_⟩
    · injection hv with a b d
      rw [a, d]
    · simp at h5; omega
    · have e : cur.toList.take A.length = (cur.toList.take (A.length + 1)).take A.length := by rw [List.take_take]; congr 1; omega
      simp only [Nat.mul_one, List.length_append, List.length_singleton] at h8 ⊢
      rw [e, h8, ivs_append, List.take_append_of_le_length (by simp [ivs]), List.take_of_length_le (by simp [ivs])]
theorem ReW.below {s : List Nd} {w wr w' : World} {V A S : List Nat} {va vend : Value} {gs : Nat} (h : ReW s w wr V A S va vend gs) (hb : Below wr.heap.size wr w') : ReW s w w' V A S va vend gs where
  inn := own_below h.inn hb
  out := own_below h.out hb
  ap := h.ap
  bel := h.bel.trans (hb.mono h.bel.size)
  glo := h.glo
  see := by obtain ⟨C, h1, h2⟩ := h.see; exact ⟨C, block_below h1 hb, h2⟩
theorem keep_other {w w' : World} {k : Nat} {A : Array Value} {T : TypeId} {row : Option Nat} {o : Obj} (hg : w.heap[k]? = some (.cells A T (0, 0))) (hne : row ≠ some k) (h2 : (w.alloc o).grownBy w' row) : w'.heap[k]? = some (.cells A T (0, 0)) := by
  have hlt : k < w.heap.size := by
    rcases Nat.lt_or_ge k w.heap.size with h' | h'
    · exact h'
    · rw [Array.getElem?_eq_none h'] at hg; cases hg
  rw [h2.block k (by simp; omega) (fun e => hne e.symm), Below.heap_alloc w o _ hlt, hg]
theorem row_ne1 {w : World} {R base size n : Nat} {e T : TypeId} {v : Value} {xs : List Value} {A : Array Value} (hg : w.heap[R]? = some (.cells A T (0, 0))) (h : w.ownsRow base e size v n xs) (hT : T ≠ e) : v.ownBlock ≠ some R := by
  intro hv
  rcases h.2 with ⟨h', _⟩ | ⟨g, cap, cur, h', _, hg', _⟩
  · subst h'; cases hv
  · subst h'
    obtain rfl : g = R := by simpa [Value.ownBlock] using hv
    rw [hg] at hg'
    injection hg' with hg'
    injection hg' with _ e _
    exact hT e
/-- A leaf more. -/
theorem ReW.put {s : List Nd} {w wr w' : World} {x : Nat} {V A S : List Nat} {va vend : Value} {gs g cap : Nat} {o : Obj} (h : ReW s w wr V A S va vend gs) (ho : ¬ (nd s x).opn)
    (h1 : w'.ownsRow w.heap.size 3 1 (.slice (some ⟨g, 0, none⟩) ((outs s V).length + 1) cap) ((outs s V).length + 1) (ivs (outs s V) ++ [.int .i64 (x : Int)]))
    (h2 : (wr.alloc o).grownBy w' vend.ownBlock) (h3 : vend.ownBlock = some g ∨ g = wr.heap.size + 1) : ReW s w w' (V ++ [x]) A S va (.slice (some ⟨g, 0, none⟩) ((outs s V).length + 1) cap) gs := by
  have hb : Below w.heap.size w (wr.alloc o) := h.bel.alloc h.bel.size o
  exact {
    inn := by
      refine (h.inn.alloc o).kept h2 ?_
      rcases h.ap with q | q | q
      · exact .inl q
      · rw [q]
        by_cases e : va.ownBlock = none
        · exact .inl e
        · exact .inr e
      · exact .inr (fun e => q e.symm)
    out := by rw [outs_leaf ho, ivs_append, List.length_append]; exact h1
    ap := by
      by_cases e : va.ownBlock = none
      · exact .inl e
      · refine .inr (.inr (fun e' => ?_))
        have e'' : va.ownBlock = some g := by rw [← e']; rfl
        rcases h3 with h3 | h3
        · rcases h.ap with q | q | q
          · exact e q
          · rw [h3] at q; cases q
          · exact q (by rw [h3, e''])
        · have := (h.inn.lt g e'').2; omega
    bel := hb.grown h2 hb.size (fun k hk => (h.out.lt k hk).1)
    glo := h.glo
    see := by
      obtain ⟨C, q1, q2⟩ := h.see
      exact ⟨C, keep_other q1 (row_ne1 q1 h.out (by decide)) h2, q2⟩ }
/-- A place more to go to, marked. -/
theorem ReW.push {s : List Nd} {w wr w' : World} {t : Nat} {V A S : List Nat} {va vend : Value} {gs g cap : Nat} {o : Obj} (h : ReW s w wr V A S va vend gs)
    (h1 : w'.ownsRow w.heap.size 3 1 (.slice (some ⟨g, 0, none⟩) (A.length + 1) cap) (A.length + 1) (ivs A ++ [.int .i64 (t : Int)]))
    (h2 : (wr.alloc o).grownBy w' va.ownBlock) (h3 : va.ownBlock = some g ∨ g = wr.heap.size + 1) : ReW s w w' V (A ++ [t]) S (.slice (some ⟨g, 0, none⟩) (A.length + 1) cap) vend gs := by
  have hb : Below w.heap.size w (wr.alloc o) := h.bel.alloc h.bel.size o
  exact {
    inn := by rw [ivs_append, List.length_append]; exact h1
    out := by
      refine (h.out.alloc o).kept h2 ?_
      rcases h.ap with q | q | q
      · rw [q]
        by_cases e : vend.ownBlock = none
        · exact .inl e
        · exact .inr e
      · exact .inl q
      · exact .inr q
    ap := by
      by_cases e : vend.ownBlock = none
      · exact .inr (.inl e)
      · refine .inr (.inr (fun e' => ?_))
        have e'' : vend.ownBlock = some g := by rw [e']; rfl
        rcases h3 with h3 | h3
        · rcases h.ap with q | q | q
          · rw [h3] at q; cases q
          · exact e q
          · exact q (by rw [h3, e''])
        · have := (h.out.lt g e'').2; omega
    bel := hb.grown h2 hb.size (fun k hk => (h.inn.lt k hk).1)
    glo := h.glo
    see := by
      obtain ⟨C, q1, q2⟩ := h.see
      exact ⟨C, keep_other q1 (row_ne1 q1 h.inn (by decide)) h2, q2⟩ }
/-- A mark. -/
theorem ReW.mark {s : List Nd} {w wr : World} {t : Nat} {V A S : List Nat} {va vend : Value} {gs : Nat} (h : ReW s w wr V A S va vend gs) (ht : t < 40) : ReW s w (wr.setCell ⟨gs, t, none⟩ (.bool true)) V A (S ++ [t]) va vend gs := by
  obtain ⟨C, q1, q2⟩ := h.see
  exact {
    inn := ownsRow_setCell_other h.inn (row_ne1 q1 h.inn (by decide)) _
    out := ownsRow_setCell_other h.out (row_ne1 q1 h.out (by decide)) _
    ap := h.ap
    bel := h.bel.setCell h.glo _
    glo := h.glo
    see := ⟨C.setIfInBounds t (.bool true), heap_setCell_same wr gs t C _ _ q1, fun j hj => by
      have hsz : t < C.size := by
        have := q2 t ht
        rcases Nat.lt_or_ge t C.size with h' | h'
        · exact h'
        · rw [Array.getElem?_eq_none h'] at this; cases this
      rw [Array.getElem?_setIfInBounds]
      by_cases e : t = j
      · subst e; rw [if_pos rfl, if_pos hsz]; simp
      · rw [if_neg e, q2 j hj]; congr 2; simp; omega⟩ }

set_option maxHeartbeats 4000000 in
set_option maxRecDepth 100000 in
theorem reach_any (s : List Nd) (a : Option Addr) (c i : Nat) (w : World) (hs : Sch w a s) (hw : Within s) (htg : Tags s) (hi : i < s.length) (hn : s.length ≤ 40) :
    Calls Tryz.prog 67 #[.slice a s.length c, .int .i64 i] w fun e w' => RetE s i w e w' := by
  have HS : Hid (Sch w a s) := hs
  have HW : Hid (Within s) := hw
  have HTG : Hid (Tags s) := htg
  clear hs hw htg
  obtain ⟨i0, hi0, hz0, hz1, hz2⟩ := info_parts Tryz.infoInt
  go_enter Tryz.func67, Tryz.ntmps67
  go_wp2
  go_loopg [4, 5, 7] 41 (fun gk vend vbk va wr => ∃ V A S bk aa ca, va = .slice aa A.length ca ∧ (0 < A.length → ∃ g, aa = some ⟨g, 0, none⟩) ∧ vbk = .bool bk ∧ gk + V.length = 41 ∧ Re s i V A S bk ∧ ReW s w wr V A S va vend w.heap.size)
  case atStart =>
    refine ⟨[], [i], [], false, _, 1, rfl, fun _ => ⟨w.heap.size + 1, rfl⟩, rfl, rfl, Re.start s i, ?_⟩
    exact ⟨⟨rfl, .inr ⟨w.heap.size + 1, 1, _, rfl, by omega, by simpa using heap_alloc_new (w.alloc _) _, Nat.le_refl _, by decide, rfl, rfl⟩⟩, World.ownsRow_nil _ _ _ _, .inr (.inl rfl), ((Below.refl _ _).alloc (Nat.le_refl _) _).alloc (by simp) _, Nat.le_refl _, _, block_below (heap_alloc_new w _) ((Below.refl _ _).alloc (Nat.le_refl _) _), fun j hj => by
      match j, hj with
      | 0, _ | 1, _ | 2, _ | 3, _ | 4, _ | 5, _ | 6, _ | 7, _ | 8, _ | 9, _ | 10, _ | 11, _ | 12, _ | 13, _ | 14, _ | 15, _ | 16, _ | 17, _ | 18, _ | 19, _ | 20, _ | 21, _ | 22, _ | 23, _ | 24, _ | 25, _ | 26, _ | 27, _ | 28, _ | 29, _ | 30, _ | 31, _ | 32, _ | 33, _ | 34, _ | 35, _ | 36, _ | 37, _ | 38, _ | 39, _ => rfl
      | n + 40, h => exact absurd h (by omega)⟩
  case round =>
    obtain ⟨V, A, S, bk, aa, ca, rfl, haa, rfl, hgk, hL, hM⟩ := hrel
    have hlen := hL.len
    have HL : Hid (Re s i V A S bk) := hL
    have HM : Hid (ReW s w wr V A S (.slice aa A.length ca) u4 w.heap.size) := hM
    rcases List.eq_nil_or_concat A with rfl | ⟨A', x, hA⟩
    · clear hL hM
      go_wp2
      go_ret2
      exact ⟨u4, outs s V, bk, rfl, HM.out.out, HM.out.bel, Nat.le_trans (outs_le s V) (by simp at hlen; omega), HL.out.leaves, HL.out.backs⟩
    · have hA' : A = A' ++ [x] := by rw [hA]; simp
      subst hA'
      clear hA
      have hlm : (A' ++ [x]).length = A'.length + 1 := by simp
      obtain ⟨g, rfl⟩ := haa (by omega)
      have cx : wr.cell? ⟨g, A'.length, none⟩ = some (.int .i64 (x : Int)) := by
        have := own_cell (j := A'.length) hM.inn (by omega)
        rw [this]; congr 3; simp
      have HM' : Hid (ReW s w wr V A' S (.slice (some ⟨g, 0, none⟩) A'.length ca) u4 w.heap.size) := ⟨own_pop hM.inn, hM.out, hM.ap, hM.bel, hM.glo, hM.see⟩
      have hxs : x < s.length := (hL.rch x (by simp)).lt HW.out hi
      obtain ⟨b, o, ka, kc, rfl, nc, kl, km, ks⟩ := HS.out x hxs
      obtain ⟨n1, n2, n3, n4⟩ := nc.below hM.bel
      have KS : Hid (KidsIn w ka (nd s x).kids) := ks
      have hxs' : (x : Int) < s.length := by omega
      have hmc : A'.length + 1 ≤ ca ∧ ca ≤ maxLen := by
        rcases hM.inn.2 with ⟨q, _⟩ | ⟨g', cap, cur, hv, _, _, q1, q2, _⟩
        · cases q
        · injection hv with _ _ e; subst e; exact ⟨by omega, q2⟩
      have hm40 : A'.length ≤ 40 := by omega
      have hsz : w.heap.size < wr.heap.size := by
        obtain ⟨C, q1, _⟩ := hM.see
        rcases Nat.lt_or_ge w.heap.size wr.heap.size with h' | h'
        · exact h'
        · rw [Array.getElem?_eq_none h'] at q1; cases q1
      have HO : Hid (∀ wr, Calls Tryz.prog 98 #[.agg #[.int .i64 (nd s x).kind, .int .i64 (nd s x).tag, .int .i64 (nd s x).mode, .slice ka (nd s x).kids.length kc]] wr fun e w' => RetO (nd s x).opn wr e w') := fun wr => by
        have := isOpen_any (nd s x) ka kc wr
        refine this.mono fun e w' q => ?_
        obtain ⟨r, h1, h2, h3⟩ := q
        exact ⟨r, h1, h2.trans (opn_iff (HTG.out x hxs)), h3⟩
      have hV : V.length + A'.length ≤ s.length := by omega
      clear hL hM hlm ks nc haa
      go_wp2_with fail
      refine (HO.out _).mono ?_
      by_cases ho : (nd s x).opn
      · intro e w2 hq
        obtain ⟨rfl, hb2⟩ := hq.yes ho
        have HM2 : Hid (ReW s w w2 V A' S (.slice (some ⟨g, 0, none⟩) A'.length ca) u4 w.heap.size) := HM'.out.below hb2
        have HLM : Hid (ReM s i V x 0 A' S bk) := HL.out.mid
        have e4 : w2.cell? ⟨b, o + x * 4 + 3, none⟩ = some (.slice ka (nd s x).kids.length kc) := (hb2.cell (lt_of_cell n4)).trans n4
        have hkm : (nd s x).kids.length ≤ 9223372036854775807 := by unfold maxLen at km; omega
        clear hq hb2 cx n1 n2 n3 n4
        go_wp2
        go_loopw [5, 7, 43] (fun vbk va vj wx => ∃ A1 S1 bk1 aa1 ca1 j, va = .slice aa1 A1.length ca1 ∧ (0 < A1.length → ∃ g, aa1 = some ⟨g, 0, none⟩) ∧ vbk = .bool bk1 ∧ vj = .int .i64 (j : Nat) ∧ j ≤ (nd s x).kids.length ∧ ReM s i V x j A1 S1 bk1 ∧ ReW s w wx V A1 S1 (.slice aa1 A1.length ca1) u4 w.heap.size)
          (fun _ _ vj _ => (nd s x).kids.length - (intOf vj).toNat)
        case atStart => exact ⟨A', S, bk, _, ca, 0, rfl, fun _ => ⟨g, rfl⟩, rfl, rfl, Nat.zero_le _, HLM.out, HM2.out⟩
        case round =>
          clear HLM HM2 e4
          obtain ⟨A1, S1, bk1, aa1, ca1, j, rfl, haa1, rfl, rfl, hj, hLM, hM3⟩ := hrel
          have HAA : Hid (0 < A1.length → ∃ g, aa1 = some ⟨g, 0, none⟩) := haa1
          have HLM : Hid (ReM s i V x j A1 S1 bk1) := hLM
          have HM3 : Hid (ReW s w wr V A1 S1 (.slice aa1 A1.length ca1) u4 w.heap.size) := hM3
          have hlen1 := hLM.len
          have hszw : w.heap.size < wr.heap.size := by
            obtain ⟨C, q1, _⟩ := hM3.see
            rcases Nat.lt_or_ge w.heap.size wr.heap.size with h' | h'
            · exact h'
            · rw [Array.getElem?_eq_none h'] at q1; cases q1
          have cS : ∀ t, t < 40 → wr.cell? ⟨w.heap.size, t, none⟩ = some (.bool (decide (t ∈ S1))) := fun t ht => by
            obtain ⟨C, q1, q2⟩ := hM3.see
            simp only [World.cell?, q1]
            exact q2 t ht
          have fS : ∀ t, wr.frozen? ⟨w.heap.size, t, none⟩ = false := fun t => by
            obtain ⟨C, q1, q2⟩ := hM3.see
            simp [World.frozen?, q1]
          by_cases hjl : j < (nd s x).kids.length
          · obtain ⟨kb, ko, rfl, kcl⟩ := KS.out j hjl
            have hkr := HW.out x hxs ((nd s x).kids.getD j kd0) (by rw [List.getD_eq_getElem?_getD, List.getElem?_eq_getElem hjl]; exact List.getElem_mem hjl)
            obtain ⟨t, ht⟩ : ∃ t : Nat, ((nd s x).kids.getD j kd0).node = t := ⟨_, (Int.toNat_of_nonneg hkr.1).symm⟩
            obtain ⟨k1, k2, k3⟩ := kcl.below hM3.bel
            have HT : Hid (((nd s x).kids.getD j kd0).node = t) := ht
            rw [ht] at k1 hkr
            obtain ⟨bo, hbo⟩ : ∃ v, ((nd s x).kids.getD j kd0).opt = v := ⟨_, rfl⟩
            obtain ⟨bd, hbd⟩ : ∃ v, ((nd s x).kids.getD j kd0).dflt = v := ⟨_, rfl⟩
            rw [hbo] at k2
            rw [hbd] at k3
            have htl : t < s.length := by omega
            have ht40 : t < 40 := by omega
            have ht40' : (t : Int) < 40 := by omega
            have hjl' : (j : Int) < (nd s x).kids.length := by omega
            have ft := fS t
            have cs := cS t ht40
            obtain ⟨bk2, hbk2⟩ : ∃ b2, b2 = (bk1 || decide ((t : Int) = i)) := ⟨_, rfl⟩
            have HBK : Hid (bk2 = (bk1 || decide ((t : Int) = i))) := hbk2
            have hcs : (bk1 = true ∧ bk2 = true) ∨ (bk1 = false ∧ ((t : Int) == i) = bk2) := by
              cases bk1
              · right; exact ⟨rfl, by rw [hbk2, Bool.false_or, Bool.eq_iff_iff]; simp⟩
              · left; exact ⟨rfl, by rw [hbk2]; simp⟩
            clear hbk2 hLM hM3 kcl ht hkr hbo hbd fS cS haa1
            rcases hcs with ⟨rfl, rfl⟩ | ⟨rfl, hti⟩
            · by_cases hts : t ∈ S1
              · have HS1 : Hid (t ∈ S1) := hts
                rw [decide_eq_true hts] at cs
                clear hts
                have HLM' : Hid (ReM s i V x (j + 1) A1 S1 true) := HBK.out ▸ HLM.out.step_old HT.out HS1.out
                have HM4 : Hid (∀ o, ReW s w (wr.alloc o) V A1 S1 (.slice aa1 A1.length ca1) u4 w.heap.size) := fun o => HM3.out.below ((Below.refl _ _).alloc (Nat.le_refl _) o)
                go_wp2
                go_roundw
                case rel => exact ⟨A1, S1, true, aa1, ca1, j + 1, rfl, HAA.out, rfl, by go_num, by omega, HLM'.out, HM4.out _⟩
                case measure => simp [intOf]; omega
              · have HS1 : Hid (t ∉ S1) := hts
                rw [decide_eq_false hts] at cs
                clear hts
                have HLM' : Hid (ReM s i V x (j + 1) (A1 ++ [t]) (S1 ++ [t]) true) := HBK.out ▸ HLM.out.step_new HT.out hjl ho htl HS1.out
                have HM4 : Hid (∀ o, ReW s w ((wr.setCell ⟨w.heap.size, t, none⟩ (.bool true)).alloc o) V A1 (S1 ++ [t]) (.slice aa1 A1.length ca1) u4 w.heap.size) := fun o => (HM3.out.mark ht40).below ((Below.refl _ _).alloc (Nat.le_refl _) o)
                have hsz3 : w.heap.size ≤ wr.heap.size + 2 := by omega
                have NEWS : Hid (∀ (j : Nat) (u : Value), [Value.int .i64 (t : Int)][j]? = some u → (((wr.setCell ⟨w.heap.size, t, none⟩ (.bool true)).alloc (.cells #[.int .i64 (t : Int), .bool bo, .string bd] 55)).alloc (.cells #[.int .i64 (t : Int)] 3)).cell? ((⟨wr.heap.size + 1, 0, none⟩ : Addr).add j) = some u) := by
                  have q := cell_one_new ((wr.setCell ⟨w.heap.size, t, none⟩ (.bool true)).alloc (.cells #[.int .i64 (t : Int), .bool bo, .string bd] 55)) (.int .i64 (t : Int)) 3
                  rw [show ((wr.setCell ⟨w.heap.size, t, none⟩ (.bool true)).alloc (.cells #[.int .i64 (t : Int), .bool bo, .string bd] 55)).heap.size = wr.heap.size + 1 by simp] at q
                  exact q
                go_wp2_with (at_builtin; refine wpList_append_lies _ rfl (.tmp 62) (.tmp 65) 32 rfl w.heap.size 3 i0 (.int .i64 0) 1 8 Tryz.underlying32 hi0 hz0 hz1 hz2 rfl (by decide) (.slice aa1 A1.length ca1) A1.length (ivs A1) rfl ((HM4.out _).inn.alloc _) ⟨wr.heap.size + 1, 0, none⟩ 1 1 [.int .i64 (t : Int)] rfl rfl NEWS.out (by intro u hu; simp at hu; subst hu; rfl) (by decide) (by unfold maxLen; omega) (by omega) (by simpa using hsz3) (wr.heap.size + 2) (by simp) ?_)
                intro g' cap w3 h1 h2 h3 h4
                have HM5 : Hid (ReW s w w3 V (A1 ++ [t]) (S1 ++ [t]) (.slice (some ⟨g', 0, none⟩) (A1.length + 1) cap) u4 w.heap.size) := (HM4.out _).push h1 h2 (by simpa using h3)
                clear h1 h2 h3 h4
                go_wp2
                go_roundw
                case rel => exact ⟨A1 ++ [t], S1 ++ [t], true, _, cap, j + 1, by simp, fun _ => ⟨g', rfl⟩, rfl, by go_num, by omega, HLM'.out, by simpa using HM5.out⟩
                case measure => simp [intOf]; omega
            · by_cases hts : t ∈ S1
              · have HS1 : Hid (t ∈ S1) := hts
                rw [decide_eq_true hts] at cs
                clear hts
                have HLM' : Hid (ReM s i V x (j + 1) A1 S1 bk2) := HBK.out ▸ HLM.out.step_old HT.out HS1.out
                have HM4 : Hid (∀ o, ReW s w (wr.alloc o) V A1 S1 (.slice aa1 A1.length ca1) u4 w.heap.size) := fun o => HM3.out.below ((Below.refl _ _).alloc (Nat.le_refl _) o)
                go_wp2
                go_roundw
                case rel => exact ⟨A1, S1, bk2, aa1, ca1, j + 1, rfl, HAA.out, rfl, by go_num, by omega, HLM'.out, HM4.out _⟩
                case measure => simp [intOf]; omega
              · have HS1 : Hid (t ∉ S1) := hts
                rw [decide_eq_false hts] at cs
                clear hts
                have HLM' : Hid (ReM s i V x (j + 1) (A1 ++ [t]) (S1 ++ [t]) bk2) := HBK.out ▸ HLM.out.step_new HT.out hjl ho htl HS1.out
                have HM4 : Hid (∀ o, ReW s w ((wr.setCell ⟨w.heap.size, t, none⟩ (.bool true)).alloc o) V A1 (S1 ++ [t]) (.slice aa1 A1.length ca1) u4 w.heap.size) := fun o => (HM3.out.mark ht40).below ((Below.refl _ _).alloc (Nat.le_refl _) o)
                have hsz3 : w.heap.size ≤ wr.heap.size + 2 := by omega
                have NEWS : Hid (∀ (j : Nat) (u : Value), [Value.int .i64 (t : Int)][j]? = some u → (((wr.setCell ⟨w.heap.size, t, none⟩ (.bool true)).alloc (.cells #[.int .i64 (t : Int), .bool bo, .string bd] 55)).alloc (.cells #[.int .i64 (t : Int)] 3)).cell? ((⟨wr.heap.size + 1, 0, none⟩ : Addr).add j) = some u) := by
                  have q := cell_one_new ((wr.setCell ⟨w.heap.size, t, none⟩ (.bool true)).alloc (.cells #[.int .i64 (t : Int), .bool bo, .string bd] 55)) (.int .i64 (t : Int)) 3
                  rw [show ((wr.setCell ⟨w.heap.size, t, none⟩ (.bool true)).alloc (.cells #[.int .i64 (t : Int), .bool bo, .string bd] 55)).heap.size = wr.heap.size + 1 by simp] at q
                  exact q
                go_wp2_with (at_builtin; refine wpList_append_lies _ rfl (.tmp 62) (.tmp 65) 32 rfl w.heap.size 3 i0 (.int .i64 0) 1 8 Tryz.underlying32 hi0 hz0 hz1 hz2 rfl (by decide) (.slice aa1 A1.length ca1) A1.length (ivs A1) rfl ((HM4.out _).inn.alloc _) ⟨wr.heap.size + 1, 0, none⟩ 1 1 [.int .i64 (t : Int)] rfl rfl NEWS.out (by intro u hu; simp at hu; subst hu; rfl) (by decide) (by unfold maxLen; omega) (by omega) (by simpa using hsz3) (wr.heap.size + 2) (by simp) ?_)
                intro g' cap w3 h1 h2 h3 h4
                have HM5 : Hid (ReW s w w3 V (A1 ++ [t]) (S1 ++ [t]) (.slice (some ⟨g', 0, none⟩) (A1.length + 1) cap) u4 w.heap.size) := (HM4.out _).push h1 h2 (by simpa using h3)
                clear h1 h2 h3 h4
                go_wp2
                go_roundw
                case rel => exact ⟨A1 ++ [t], S1 ++ [t], bk2, _, cap, j + 1, by simp, fun _ => ⟨g', rfl⟩, rfl, by go_num, by omega, HLM'.out, by simpa using HM5.out⟩
                case measure => simp [intOf]; omega
          · have hjl' : ((nd s x).kids.length : Int) ≤ j := by omega
            obtain rfl : j = (nd s x).kids.length := by omega
            have HL' : Hid (Re s i (V ++ [x]) A1 S1 bk1) := hLM.finish ho
            have HM' : Hid (ReW s w wr (V ++ [x]) A1 S1 (.slice aa1 A1.length ca1) u4 w.heap.size) := ⟨hM3.inn, by rw [outs_open ho]; exact hM3.out, hM3.ap, hM3.bel, hM3.glo, hM3.see⟩
            clear hLM hM3 cS fS haa1
            go_wp2
            go_roundg (gk - 1)
            case rel => exact ⟨V ++ [x], A1, S1, bk1, aa1, ca1, rfl, HAA.out, rfl, by simp; omega, HL'.out, HM'.out⟩
            case measure => omega
      · intro e w2 hq
        obtain ⟨rfl, hb2⟩ := hq.no ho
        have HM2 : Hid (ReW s w w2 V A' S (.slice (some ⟨g, 0, none⟩) A'.length ca) u4 w.heap.size) := HM'.out.below hb2
        have hol : (outs s V).length ≤ 41 := by have := outs_le s V; omega
        have hsz2 : w.heap.size ≤ w2.heap.size + 1 := by have := HM2.out.bel.size; omega
        clear hq hb2 cx n1 n2 n3 n4
        go_wp2_with (at_builtin; refine wpList_append_lies _ rfl (.tmp 33) (.tmp 35) 32 rfl w.heap.size 3 i0 (.int .i64 0) 1 8 Tryz.underlying32 hi0 hz0 hz1 hz2 rfl (by decide) u4 (outs s V).length (ivs (outs s V)) rfl (HM2.out.out.alloc _) ⟨w2.heap.size, 0, none⟩ 1 1 [.int .i64 (x : Int)] rfl rfl (cell_one_new _ _ _) (by intro u hu; simp at hu; subst hu; rfl) (by decide) (by unfold maxLen; omega) (by omega) (by simpa using hsz2) (w2.heap.size + 1) (by simp) ?_)
        intro g' cap w3 h1 h2 h3 h4
        have HM3 : Hid (ReW s w w3 (V ++ [x]) A' S (.slice (some ⟨g, 0, none⟩) A'.length ca) (.slice (some ⟨g', 0, none⟩) ((outs s V).length + 1) cap) w.heap.size) := HM2.out.put ho h1 h2 h3
        clear h1 h2 h3 h4
        go_wp2
        go_roundg (gk - 1)
        case rel => exact ⟨V ++ [x], A', S, bk, _, ca, rfl, fun _ => ⟨g, rfl⟩, rfl, by simp; omega, HL.out.leaf ho, HM3.out⟩
        case measure => omega
end Go.Proofs.YtjceeljaljdmoaaGreatDoor
