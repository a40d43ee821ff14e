/-
  Several texts in one:
  schemas.beginningsOf: what it answers.
  A plan that came in, as plain data.
-/
import Derived.Test.YtkkicodfpekbgaaGreatDoorJ1
import Derived.ChangeSlices
import Derived.SliceStrings
import Derived.OpenShut
/-! schemas.beginningsOf: what it answers. -/
namespace Go.Proofs.YtkkicodfpekbgaaGreatDoor
set_option linter.unusedSimpArgs false
set_option linter.unusedVariables false
open Go.RowKit

/-- Tags as Go's cells. -/
def tcells (ts : List (Int × Int)) : List Value := ts.flatMap fun t => [.int .i64 t.1, .int .i64 t.2]
theorem tcells_append (l : List (Int × Int)) (t : Int × Int) : tcells (l ++ [t]) = tcells l ++ [.int .i64 t.1, .int .i64 t.2] := by unfold tcells; simp
/-- The tags of leaves. -/
def tgs (s : List Nd) (l : List Nat) : List (Int × Int) := (l.filter fun j => !(nd s j).everyB).map fun j => (nd s j).outer
theorem tgs_no {s : List Nd} {l : List Nat} {x : Nat} (h : ¬ (nd s x).every) : tgs s (l ++ [x]) = tgs s l ++ [(nd s x).outer] := by unfold tgs; rw [List.filter_append]; simp [Nd.everyB_no h]
theorem tgs_yes {s : List Nd} {l : List Nat} {x : Nat} (h : (nd s x).every) : tgs s (l ++ [x]) = tgs s l := by unfold tgs; rw [List.filter_append]; simp [Nd.everyB_yes h]
theorem tgs_le (s : List Nd) (l : List Nat) : (tgs s l).length ≤ l.length := by unfold tgs; simp; exact List.length_filter_le _ _
theorem mem_tgs {s : List Nd} {l : List Nat} {t : Int × Int} : t ∈ tgs s l ↔ ∃ j ∈ l, ¬ (nd s j).every ∧ (nd s j).outer = t := by
  unfold tgs
  rw [List.mem_map]
  constructor
  · rintro ⟨j, hj, e⟩
    rw [List.mem_filter] at hj
    exact ⟨j, hj.1, fun q => (by have := hj.2; rw [Nd.everyB_yes q] at this; cases this), e⟩
  · rintro ⟨j, hj, h, e⟩
    exact ⟨j, by rw [List.mem_filter]; exact ⟨hj, by rw [Nd.everyB_no h]; rfl⟩, e⟩
/-- What it answers. -/
def RetT (s : List Nd) (i : Nat) (w : World) (e : Ending) (w' : World) : Prop :=
  ∃ (all : Bool) (vt : Value) (ts : List (Int × Int)), e = .returned (.agg #[.bool all, vt]) ∧ w'.ownsRow w.heap.size 147 2 vt ts.length (tcells ts) ∧ Below w.heap.size w w' ∧ ts.length ≤ 41 ∧
    (all = true ↔ ∃ j, Leaf s i j ∧ (nd s j).every) ∧ (∀ t, t ∈ ts ↔ ∃ j, Leaf s i j ∧ ¬ (nd s j).every ∧ (nd s j).outer = t)
def Tryz.zeroTag : Value := .agg #[.int .i64 0, .int .i64 0]
theorem Tryz.infoTag : (Tryz.prog.info? 147).map (fun i => (i.zero, i.size, i.bytes)) = some (some Tryz.zeroTag, 2, 16) := by kernel_rfl
/-- What beginningsOf holds in memory. -/
structure BgW (s : List Nd) (w wr : World) (dn : List Nat) (all : Bool) (vt : Value) : Prop where
  res : wr.heap[w.heap.size]? = some (.cells #[.bool false, .slice none 0 0] 174 (0, 0))
  blk : wr.heap[w.heap.size + 1]? = some (.cells #[.bool all, vt] 174 (0, 0))
  own : wr.ownsRow w.heap.size 147 2 vt (tgs s dn).length (tcells (tgs s dn))
  alls : all = true ↔ ∃ j ∈ dn, (nd s j).every
  bel : Below w.heap.size w wr
theorem BgW.below {s : List Nd} {w wr w' : World} {dn : List Nat} {all : Bool} {vt : Value} (h : BgW s w wr dn all vt) (hb : Below wr.heap.size wr w') : BgW s w w' dn all vt :=
  ⟨block_below h.res hb, block_below h.blk hb, own_below h.own hb, h.alls, h.bel.trans (hb.mono h.bel.size)⟩

theorem BgW.setAll {s : List Nd} {w wr : World} {dn : List Nat} {all : Bool} {vt : Value} {x : Nat} (h : BgW s w wr dn all vt) (hx : (nd s x).every) : BgW s w (wr.setCell ⟨w.heap.size + 1, 0, none⟩ (.bool true)) (dn ++ [x]) true vt where
  res := by rw [heap_setCell_other _ _ _ _ (by simp)]; exact h.res
  blk := heap_setCell_same wr _ 0 _ _ _ h.blk
  own := by rw [tgs_yes hx]; exact ownsRow_setCell_other h.own (row_ne1 h.blk h.own (by decide)) _
  alls := ⟨fun _ => ⟨x, by simp, hx⟩, fun _ => rfl⟩
  bel := h.bel.setCell (by simp) _
theorem BgW.put {s : List Nd} {w wr w' : World} {dn : List Nat} {all : Bool} {vt : Value} {x g cap : Nat} {o : Obj} (h : BgW s w wr dn all vt) (hx : ¬ (nd s x).every)
    (h1 : w'.ownsRow w.heap.size 147 2 (.slice (some ⟨g, 0, none⟩) ((tgs s dn).length + 1) cap) ((tgs s dn).length + 1) (tcells (tgs s dn) ++ [.int .i64 (nd s x).outer.1, .int .i64 (nd s x).outer.2]))
    (h2 : (wr.alloc o).grownBy w' vt.ownBlock) : BgW s w (w'.setCell ⟨w.heap.size + 1, 1, none⟩ (.slice (some ⟨g, 0, none⟩) ((tgs s dn).length + 1) cap)) (dn ++ [x]) all (.slice (some ⟨g, 0, none⟩) ((tgs s dn).length + 1) cap) := by
  have hb : Below w.heap.size w (wr.alloc o) := h.bel.alloc h.bel.size o
  have k1 : w'.heap[w.heap.size]? = some _ := keep_other h.res (row_ne1 h.res h.own (by decide)) h2
  have k2 : w'.heap[w.heap.size + 1]? = some _ := keep_other h.blk (row_ne1 h.blk h.own (by decide)) h2
  exact {
    res := by rw [heap_setCell_other _ _ _ _ (by simp)]; exact k1
    blk := heap_setCell_same w' _ 1 _ _ _ k2
    own := by
      rw [tgs_no hx, tcells_append, List.length_append]
      exact ownsRow_setCell_other h1 (row_ne1 k2 h1 (by decide)) _
    alls := by
      rw [h.alls]
      constructor
      · rintro ⟨j, hj, q⟩; exact ⟨j, by simp [hj], q⟩
      · rintro ⟨j, hj, q⟩
        rcases List.mem_append.1 hj with hj | hj
        · exact ⟨j, hj, q⟩
        · simp at hj; subst hj; exact absurd q hx
    bel := (hb.grown h2 hb.size (fun k hk => (h.own.lt k hk).1)).setCell (by simp) _ }
theorem BgW.cell1 {s : List Nd} {w wr : World} {dn : List Nat} {all : Bool} {vt : Value} (h : BgW s w wr dn all vt) : wr.cell? ⟨w.heap.size + 1, 1, none⟩ = some vt := by simp [World.cell?, h.blk]
theorem BgW.froz1 {s : List Nd} {w wr : World} {dn : List Nat} {all : Bool} {vt : Value} (h : BgW s w wr dn all vt) : wr.frozen? ⟨w.heap.size + 1, 1, none⟩ = false := by simp [World.frozen?, h.blk]
theorem BgW.cell_kept {s : List Nd} {w wr w' : World} {dn : List Nat} {all : Bool} {vt : Value} {o : Obj} (h : BgW s w wr dn all vt) (h2 : (wr.alloc o).grownBy w' vt.ownBlock) : w'.cell? ⟨w.heap.size + 1, 1, none⟩ = some vt ∧ w'.frozen? ⟨w.heap.size + 1, 1, none⟩ = false := by
  have k2 := keep_other h.blk (row_ne1 h.blk h.own (by decide)) h2
  exact ⟨by simp [World.cell?, k2], by simp [World.frozen?, k2]⟩
/-- Two rows of different types lie apart. -/
theorem row_ne2 {w : World} {b1 b2 s1 s2 n1 n2 : Nat} {e1 e2 : TypeId} {v1 v2 : Value} {x1 x2 : List Value} (h1 : w.ownsRow b1 e1 s1 v1 n1 x1) (h2 : w.ownsRow b2 e2 s2 v2 n2 x2) (hT : e2 ≠ e1) : v2.ownBlock = none ∨ v2.ownBlock ≠ v1.ownBlock := by
  rcases h2.2 with ⟨q, _⟩ | ⟨g, cap, cur, q, _, hg, _⟩
  · left; rw [q]; rfl
  · right
    intro e
    have : v1.ownBlock = some g := by rw [← e, q]; rfl
    exact row_ne1 hg h1 hT this
set_option maxHeartbeats 2000000 in
set_option maxRecDepth 100000 in
theorem beginningsOf_any (s : List Nd) (a : Option Addr) (c i : Nat) (w : World) (hs : Sch w a s) (hw : Within s) (htg : Tags s) (hkd : Kinds s) (hnm : Nums w) (hi : i < s.length) (hn : s.length ≤ 40) :
    Calls Tryz.prog 97 #[.slice a s.length c, .int .i64 i] w fun e w' => RetT s i w e w' := by
  have HS : Hid (Sch w a s) := hs
  have HN : Hid (Nums w) := hnm
  have HTG : Hid (Tags s) := htg
  have HKD : Hid (Kinds s) := hkd
  have HW : Hid (Within s) := hw
  have HR : Hid (∀ wr, Below w.heap.size w wr → Calls Tryz.prog 96 #[.slice a s.length c, .int .i64 i] wr fun e w' => RetE s i wr e w') := fun wr hb => reach_any s a c i wr (hs.below hb) hw htg hi hn
  clear hs hw htg hkd hnm
  obtain ⟨i0, hi0, hz0, hz1, hz2⟩ := info_parts Tryz.infoTag
  go_enter Tryz.func97, Tryz.ntmps97
  go_wp2_with fail
  refine (HR.out _ (((Below.refl _ _).alloc (Nat.le_refl _) _).alloc (by simp) _)).mono ?_
  rintro e w1 ⟨v, l, bk, rfl, hown, hb1, hl, hlf, _⟩
  obtain ⟨va, vc, rfl, hva⟩ := own_form hown
  have HA : Hid (0 < l.length → ∃ g, va = some ⟨g, 0, none⟩) := hva
  have HF : Hid (∀ j, j ∈ l ↔ Leaf s i j) := hlf
  have HB0 : Hid (BgW s w w1 [] false (.slice none 0 0)) := ⟨block_below (block_below (heap_alloc_new w _) ((Below.refl _ _).alloc (Nat.le_refl _) _)) hb1, block_below (by simpa using heap_alloc_new (w.alloc _) _) hb1, World.ownsRow_nil _ _ _ _, by simp, below_alloc (below_alloc hb1)⟩
  have HO : Hid (w1.ownsRow w.heap.size 3 1 (.slice va l.length vc) l.length (ivs l)) := by
    obtain ⟨q1, q2⟩ := hown
    refine ⟨q1, ?_⟩
    rcases q2 with q2 | ⟨g, cap, cur, q3, q4, q5⟩
    · exact .inl q2
    · exact .inr ⟨g, cap, cur, q3, by simp at q4; omega, q5⟩
  clear hown hb1 hlf hva HR
  go_wp2
  go_loopw [19] (fun vj wr => ∃ j all vt, vj = .int .i64 (j : Nat) ∧ j ≤ l.length ∧ BgW s w wr (l.take j) all vt ∧ wr.ownsRow w.heap.size 3 1 (.slice va l.length vc) l.length (ivs l)) (fun vj _ => l.length - (intOf vj).toNat)
  case atStart => exact ⟨0, false, _, rfl, Nat.zero_le _, by simpa using HB0.out, HO.out⟩
  case round =>
    obtain ⟨j, all, vt, rfl, hj, hB, hO⟩ := hrel
    have HB : Hid (BgW s w wr (l.take j) all vt) := hB
    have HOw : Hid (wr.ownsRow w.heap.size 3 1 (.slice va l.length vc) l.length (ivs l)) := hO
    have hsz : w.heap.size + 1 < wr.heap.size := by
      have := hB.blk
      rcases Nat.lt_or_ge (w.heap.size + 1) wr.heap.size with h' | h'
      · exact h'
      · rw [Array.getElem?_eq_none h'] at this; cases this
    have t0 : wr.cell? ⟨w.heap.size + 1, 0, none⟩ = some (.bool all) := by simp [World.cell?, hB.blk]
    have t1 : wr.cell? ⟨w.heap.size + 1, 1, none⟩ = some vt := by simp [World.cell?, hB.blk]
    have f0 : wr.frozen? ⟨w.heap.size + 1, 0, none⟩ = false := by simp [World.frozen?, hB.blk]
    have f1 : wr.frozen? ⟨w.heap.size + 1, 1, none⟩ = false := by simp [World.frozen?, hB.blk]
    by_cases hlt : j < l.length
    · obtain ⟨g, rfl⟩ := HA.out (by omega)
      have cj := own_cell hO hlt
      have HX : Hid (l.getD j 0 ∈ l) := by show _ ∈ l; rw [List.getD_eq_getElem?_getD, List.getElem?_eq_getElem hlt]; exact List.getElem_mem hlt
      have HTK : Hid (l.take (j + 1) = l.take j ++ [l.getD j 0]) := by show l.take (j + 1) = _; rw [List.take_add_one, List.getElem?_eq_getElem hlt]; simp [hlt]
      generalize l.getD j 0 = x at cj HX HTK
      have hLX : Leaf s i x := (HF.out x).1 HX.out
      have hxs : x < s.length := hLX.1.lt HW.out hi
      have hkx := HKD.out x hxs
      have htx := HTG.out x hxs
      have hx12 : ¬ (nd s x).every → (nd s x).tag < 0 → (nd s x).kind ≤ 12 := fun h1 h2 => by
        have a1 : (nd s x).kind ≠ 14 := fun e => h1 ⟨e, h2⟩
        have a2 : (nd s x).kind ≠ 13 := fun e => hLX.2 ⟨e, h2⟩
        omega
      have HX12 : Hid (¬ (nd s x).every → (nd s x).tag < 0 → (nd s x).kind ≤ 12) := hx12
      obtain ⟨b, o, ka, kc, rfl, nc, kl, km, ks⟩ := HS.out x hxs
      obtain ⟨n1, n2, n3, n4⟩ := nc.below hB.bel
      have hlt' : (j : Int) < l.length := by omega
      have hxs' : (x : Int) < s.length := by omega
      clear hB hO ks nc hLX hx12
      by_cases hev : (nd s x).every
      · have e1 : ((nd s x).kind == 14) = true := by simp [hev.1]
        have e2 : ((nd s x).tag == -1) = true := by have := hev.2; rw [beq_iff_eq]; omega
        have HEV : Hid (nd s x).every := hev
        clear hev hkx htx
        go_wp2
        go_roundw
        case rel => exact ⟨j + 1, true, vt, by go_num, by omega, by rw [HTK.out]; exact (HB.out.setAll HEV.out).below ((Below.refl _ _).alloc (Nat.le_refl _) _), (ownsRow_setCell_other HOw.out (row_ne1 HB.out.blk HOw.out (by decide)) _).alloc _⟩
        case measure => simp [intOf]; omega
      · have HEV : Hid (¬ (nd s x).every) := hev
        have e12 : ((nd s x).kind == 14) = false ∨ (((nd s x).kind == 14) = true ∧ ((nd s x).tag == -1) = false) := by
          by_cases q : (nd s x).kind = 14
          · right
            exact ⟨by simp [q], by rw [beq_eq_false_iff_ne]; intro q2; exact hev ⟨q, by omega⟩⟩
          · left; simp [q]
        have HOT : Hid (∀ w', Nums w' → Calls Tryz.prog 140 #[.agg #[.int .i64 (nd s x).kind, .int .i64 (nd s x).tag, .int .i64 (nd s x).mode, .slice ka (nd s x).kids.length kc]] w' fun e w'' => e = .returned (.agg #[.int .i64 (nd s x).outer.1, .int .i64 (nd s x).outer.2]) ∧ Below w'.heap.size w' w'') := fun w' q => outerTag_any (nd s x) ka kc w' q htx (by omega) (fun q' => HX12.out HEV.out q')
        have RUN : Hid (∀ args w, (callFunc 140 args).run Tryz.prog w = .ok (.enter 140 args) w) := fun args w => run_enter Tryz.func140 (by kernel_rfl) (by rfl) args w
        have HNW : Hid (∀ o, Nums (wr.alloc o).drew) := fun o => HN.out.below ((HB.out.bel.alloc HB.out.bel.size o).drew)
        have BH : Hid (∀ o w5, Below (wr.alloc o).drew.heap.size (wr.alloc o).drew w5 → BgW s w w5 (l.take j) all vt) := fun o w5 q => (HB.out.below ((Below.refl wr.heap.size wr).alloc (Nat.le_refl _) o).drew).below q
        have OH : Hid (∀ o w5, Below (wr.alloc o).drew.heap.size (wr.alloc o).drew w5 → w5.ownsRow w.heap.size 3 1 (.slice (some ⟨g, 0, none⟩) l.length vc) l.length (ivs l)) := fun o w5 q => own_below (own_below HOw.out ((Below.refl wr.heap.size wr).alloc (Nat.le_refl _) o).drew) q
        have htl : (tgs s (l.take j)).length ≤ 41 := by have := tgs_le s (l.take j); have := List.length_take_le j l; omega
        clear hev hkx htx
        rcases e12 with e1 | ⟨e1, e2⟩
        · go_wp2_with fail
          go_region_law (first | (refine step_calls rfl 140 _ _ rfl #[.agg #[.int .i64 (nd s x).kind, .int .i64 (nd s x).tag, .int .i64 (nd s x).mode, .slice ka (nd s x).kids.length kc]] (by simp [Act.eval, Act.put]) (.agg #[.int .i64 (nd s x).outer.1, .int .i64 (nd s x).outer.2]) (fun w'' => Below ((wr.alloc (.cells #[.int .i64 (nd s x).kind, .int .i64 (nd s x).tag, .int .i64 (nd s x).mode, .slice ka (nd s x).kids.length kc] 58)).drew).heap.size ((wr.alloc (.cells #[.int .i64 (nd s x).kind, .int .i64 (nd s x).tag, .int .i64 (nd s x).mode, .slice ka (nd s x).kids.length kc] 58)).drew) w'') (RUN.out _ _) (HOT.out _ (HNW.out _)) ?_; intro w5 hb5; have HB5 := BH.out _ _ hb5; have HO5 := OH.out _ _ hb5; have t15 := HB5.cell1; have f15 := HB5.froz1; have hs5 := HB5.bel.size; have hl5 : w.heap.size + 1 < w5.heap.size := lt_of_cell t15; clear hb5) | (refine step_append_lies _ rfl (.tmp 37) (.tmp 40) 172 rfl w.heap.size 147 i0 Tryz.zeroTag 2 16 Tryz.underlying172 hi0 hz0 hz1 hz2 rfl (by decide) vt (tgs s (l.take j)).length (tcells (tgs s (l.take j))) (by simp [Act.eval, Act.put]) (HB5.own.alloc _) ⟨w5.heap.size, 0, none⟩ 1 1 [.int .i64 (nd s x).outer.1, .int .i64 (nd s x).outer.2] (by simp [Act.eval, Act.put]) rfl (World.news_of_block (heap_alloc_new w5 _)) (by intro u hu; simp at hu; rcases hu with rfl | rfl <;> rfl) (by decide) (by unfold maxLen; omega) (by omega) (by simp; omega) (w5.heap.size + 1) (by simp) ?_; intro g6 cap6 w6 h61 h62 h63 h64; have HB6 := HB5.put HEV.out h61 h62; have HO6 := (HO5.alloc _).kept h62 (row_ne2 HB5.own HO5 (by decide)); have t16 := HB5.cell_kept h62; have BK6 := keep_other HB5.blk (row_ne1 HB5.blk HB5.own (by decide)) h62; clear h61 h62 h63 h64))
          all_goals
            have HB7 : Hid (BgW s w (w6.setCell ⟨w.heap.size + 1, 1, none⟩ (.slice (some ⟨g6, 0, none⟩) ((tgs s (l.take j)).length + 1) cap6)) (l.take j ++ [x]) all (.slice (some ⟨g6, 0, none⟩) ((tgs s (l.take j)).length + 1) cap6)) := HB6
            have HO7 : Hid ((w6.setCell ⟨w.heap.size + 1, 1, none⟩ (.slice (some ⟨g6, 0, none⟩) ((tgs s (l.take j)).length + 1) cap6)).ownsRow w.heap.size 3 1 (.slice (some ⟨g, 0, none⟩) l.length vc) l.length (ivs l)) := ownsRow_setCell_other HO6 (row_ne1 BK6 HO6 (by decide)) _
            clear HB6 HO6 HB5 HO5 t15 f15 t16 hs5 hl5 BK6
            go_wp2
            go_roundw
            case rel => exact ⟨j + 1, all, _, by go_num, by omega, by rw [HTK.out]; exact HB7.out, HO7.out⟩
            case measure => simp [intOf]; omega
        · go_wp2_with fail
          go_region_law (first | (refine step_calls rfl 140 _ _ rfl #[.agg #[.int .i64 (nd s x).kind, .int .i64 (nd s x).tag, .int .i64 (nd s x).mode, .slice ka (nd s x).kids.length kc]] (by simp [Act.eval, Act.put]) (.agg #[.int .i64 (nd s x).outer.1, .int .i64 (nd s x).outer.2]) (fun w'' => Below ((wr.alloc (.cells #[.int .i64 (nd s x).kind, .int .i64 (nd s x).tag, .int .i64 (nd s x).mode, .slice ka (nd s x).kids.length kc] 58)).drew).heap.size ((wr.alloc (.cells #[.int .i64 (nd s x).kind, .int .i64 (nd s x).tag, .int .i64 (nd s x).mode, .slice ka (nd s x).kids.length kc] 58)).drew) w'') (RUN.out _ _) (HOT.out _ (HNW.out _)) ?_; intro w5 hb5; have HB5 := BH.out _ _ hb5; have HO5 := OH.out _ _ hb5; have t15 := HB5.cell1; have f15 := HB5.froz1; have hs5 := HB5.bel.size; have hl5 : w.heap.size + 1 < w5.heap.size := lt_of_cell t15; clear hb5) | (refine step_append_lies _ rfl (.tmp 37) (.tmp 40) 172 rfl w.heap.size 147 i0 Tryz.zeroTag 2 16 Tryz.underlying172 hi0 hz0 hz1 hz2 rfl (by decide) vt (tgs s (l.take j)).length (tcells (tgs s (l.take j))) (by simp [Act.eval, Act.put]) (HB5.own.alloc _) ⟨w5.heap.size, 0, none⟩ 1 1 [.int .i64 (nd s x).outer.1, .int .i64 (nd s x).outer.2] (by simp [Act.eval, Act.put]) rfl (World.news_of_block (heap_alloc_new w5 _)) (by intro u hu; simp at hu; rcases hu with rfl | rfl <;> rfl) (by decide) (by unfold maxLen; omega) (by omega) (by simp; omega) (w5.heap.size + 1) (by simp) ?_; intro g6 cap6 w6 h61 h62 h63 h64; have HB6 := HB5.put HEV.out h61 h62; have HO6 := (HO5.alloc _).kept h62 (row_ne2 HB5.own HO5 (by decide)); have t16 := HB5.cell_kept h62; have BK6 := keep_other HB5.blk (row_ne1 HB5.blk HB5.own (by decide)) h62; clear h61 h62 h63 h64))
          all_goals
            have HB7 : Hid (BgW s w (w6.setCell ⟨w.heap.size + 1, 1, none⟩ (.slice (some ⟨g6, 0, none⟩) ((tgs s (l.take j)).length + 1) cap6)) (l.take j ++ [x]) all (.slice (some ⟨g6, 0, none⟩) ((tgs s (l.take j)).length + 1) cap6)) := HB6
            have HO7 : Hid ((w6.setCell ⟨w.heap.size + 1, 1, none⟩ (.slice (some ⟨g6, 0, none⟩) ((tgs s (l.take j)).length + 1) cap6)).ownsRow w.heap.size 3 1 (.slice (some ⟨g, 0, none⟩) l.length vc) l.length (ivs l)) := ownsRow_setCell_other HO6 (row_ne1 BK6 HO6 (by decide)) _
            clear HB6 HO6 HB5 HO5 t15 f15 t16 hs5 hl5 BK6
            go_wp2
            go_roundw
            case rel => exact ⟨j + 1, all, _, by go_num, by omega, by rw [HTK.out]; exact HB7.out, HO7.out⟩
            case measure => simp [intOf]; omega
    · have hlt' : (l.length : Int) ≤ j := by omega
      obtain rfl : j = l.length := by omega
      have q0 : wr.cell? ⟨w.heap.size, 0, none⟩ = some (.bool false) := by simp [World.cell?, hB.res]
      have q1 : wr.cell? ⟨w.heap.size, 1, none⟩ = some (.slice none 0 0) := by simp [World.cell?, hB.res]
      have p0 : wr.frozen? ⟨w.heap.size, 0, none⟩ = false := by simp [World.frozen?, hB.res]
      have p1 : wr.frozen? ⟨w.heap.size, 1, none⟩ = false := by simp [World.frozen?, hB.res]
      have hsz' : w.heap.size < wr.heap.size := by omega
      rw [List.take_length] at HB
      obtain ⟨ta, tc, rfl, _⟩ := own_form hB.own
      have hle : (tgs s l).length ≤ 41 := by have := tgs_le s l; omega
      clear hB hO
      go_wp2
      refine bodyPost_ret (v := .agg #[.bool all, .slice ta (tgs s (l.take l.length)).length tc]) (by simp [results, Tryz.results97, go_sem, q0, q1, hsz']) rfl ⟨all, _, tgs s l, rfl, ?_, ?_, hle, ?_, ?_⟩
      · rw [List.take_length] at *
        have ne := row_ne1 HB.out.res HB.out.own (by decide)
        exact ownsRow_setCell_other (ownsRow_setCell_other HB.out.own ne _) ne _
      · exact (HB.out.bel.setCell (p := ⟨w.heap.size, 0, none⟩) (Nat.le_refl _) _).setCell (p := ⟨w.heap.size, 1, none⟩) (Nat.le_refl _) _
      · rw [HB.out.alls]
        exact ⟨fun ⟨j, h1, h2⟩ => ⟨j, (HF.out j).1 h1, h2⟩, fun ⟨j, h1, h2⟩ => ⟨j, (HF.out j).2 h1, h2⟩⟩
      · intro t
        rw [mem_tgs]
        exact ⟨fun ⟨j, h1, h2⟩ => ⟨j, (HF.out j).1 h1, h2⟩, fun ⟨j, h1, h2⟩ => ⟨j, (HF.out j).2 h1, h2⟩⟩
end Go.Proofs.YtkkicodfpekbgaaGreatDoor

/-! A plan that came in, as plain data. -/
namespace Go.Proofs.YtkkicodfpekbgaaGreatDoor
set_option linter.unusedSimpArgs false
set_option linter.unusedVariables false
open Go.RowKit Go.ChangeShapes Go.WideShapes
set_option maxRecDepth 100000

theorem Tryz.cIl : Tryz.prog.cellsOf 3 = 1 := by kernel_rfl
theorem Tryz.cSl : Tryz.prog.cellsOf 9 = 1 := by kernel_rfl
theorem Tryz.cPl : Tryz.prog.cellsOf 42 = 2 := by kernel_rfl
theorem Tryz.cIs : Tryz.prog.cellsOf 32 = 1 := by kernel_rfl
theorem Tryz.cSs : Tryz.prog.cellsOf 29 = 1 := by kernel_rfl
theorem plain_addr {w : World} {a : Addr} {v : Value} (h : w.cell? a = some v) : a = ⟨a.block, a.off, none⟩ := by
  obtain ⟨b, o, sp⟩ := a
  cases sp with
  | none => rfl
  | some k =>
    unfold World.cell? at h
    simp only at h
    split at h
    · simp at h
    · cases h
theorem plain_plus (b o n : Nat) : (⟨b, o, none⟩ : Addr).add n = ⟨b, o + n, none⟩ := by unfold Addr.add; split <;> simp_all

section
variable {H : Type} {enc : TypeId × Value → H} {w : World} {base : Nat} {sp : Nat → Bool} {held : Bool}
theorem open_plan {fuel : Nat} {cs : List Value} {x : DataW H × List MemPlace} (h : DataW.trod enc Tryz.prog w base sp held fuel 42 cs = some x) :
    ∃ (na ta : Option Addr) (nl nc tl tc : Nat), cs = [.slice na nl nc, .slice ta tl tc] ∧ PlanIn w na ta nl tl := by
  obtain ⟨xs, n, _, hx, hl, hlen, hel⟩ := DataW.trod_struct Tryz.underlying42 h
  rw [Tryz.cPl] at hl
  match cs, hl, xs, hlen, hx, hel with
  | [c0, c1], _, [x0, x1], _, hx, hel =>
    have k0 := hel 0 _ rfl
    have k1 := hel 1 _ rfl
    simp [Tryz.cIs, Tryz.cSs] at k0 k1
    obtain ⟨na, nl, nc, e0, hn, hnl⟩ : ∃ (na : Option Addr) (nl nc : Nat), c0 = .slice na nl nc ∧ (∀ i, i < nl → ∃ b o z, na = some ⟨b, o, none⟩ ∧ w.cell? ⟨b, o + i, none⟩ = some (.int .i64 z) ∧ -9223372036854775808 ≤ z ∧ z ≤ 9223372036854775807) ∧ nl ≤ maxLen := by
      rcases open_ints Tryz.underlying32 Tryz.underlying3 Tryz.cIl k0 with ⟨e, _⟩ | ⟨a, len, cap, zs, e, _, hlc, hcm, hzl, _, hcell, hwf⟩
      · exact ⟨none, 0, 0, by simpa using e, fun i hi => absurd hi (Nat.not_lt_zero _), Nat.zero_le _⟩
      · refine ⟨some a, len, cap, by simpa using e, fun i hi => ?_, by omega⟩
        have hil : i < zs.length := by rw [hzl]; split <;> omega
        have q := hcell i hil
        have q0 := hcell 0 (by omega)
        have ea : a = ⟨a.block, a.off, none⟩ := plain_addr (w := w) (a := a) (by simpa [Addr.add] using q0)
        rw [ea, plain_plus] at q
        have hb := bounds_i64 (hwf (zs.getD i 0) (by rw [List.getD_eq_getElem?_getD, List.getElem?_eq_getElem hil]; exact List.getElem_mem hil))
        exact ⟨a.block, a.off, _, congrArg some ea, q, by omega, by omega⟩
    obtain ⟨ta, tl, tc, e1, ht, htl⟩ : ∃ (ta : Option Addr) (tl tc : Nat), c1 = .slice ta tl tc ∧ (∀ i, i < tl → ∃ b o z, ta = some ⟨b, o, none⟩ ∧ w.cell? ⟨b, o + i, none⟩ = some (.string z) ∧ z.size ≤ 9223372036854775807) ∧ tl ≤ maxLen := by
      rcases open_strings Tryz.underlying29 Tryz.underlying9 Tryz.cSl k1 with ⟨e, _⟩ | ⟨a, len, cap, zs, e, _, hlc, hcm, hzl, _, hcell, hwf⟩
      · exact ⟨none, 0, 0, by simpa using e, fun i hi => absurd hi (Nat.not_lt_zero _), Nat.zero_le _⟩
      · refine ⟨some a, len, cap, by simpa using e, fun i hi => ?_, by omega⟩
        have hil : i < zs.length := by rw [hzl]; split <;> omega
        have q := hcell i hil
        have q0 := hcell 0 (by omega)
        have ea : a = ⟨a.block, a.off, none⟩ := plain_addr (w := w) (a := a) (by simpa [Addr.add] using q0)
        rw [ea, plain_plus] at q
        have hb := hwf (zs.getD i ByteArray.empty) (by rw [List.getD_eq_getElem?_getD, List.getElem?_eq_getElem hil]; exact List.getElem_mem hil)
        unfold maxLen at hb
        exact ⟨a.block, a.off, _, congrArg some ea, q, by omega⟩
    subst e0 e1
    exact ⟨na, ta, nl, nc, tl, tc, rfl, ⟨hn, ht, hnl, htl⟩⟩
end
end Go.Proofs.YtkkicodfpekbgaaGreatDoor
