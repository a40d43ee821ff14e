/-
  Several texts in one:
  The program's writer: value.
  encode.Bytes: what it answers.
  errors.Is and hallmark.number of a fault in a fault (written by gen_ne.py).
  hallmark.Encode: what it answers: what the document's Encode answers.
  hallmarkref.alone: what it answers.
-/
import Derived.Test.YtkkicodfpekbgaaGreatDoorJ11
import Derived.Test.YtkkicodfpekbgaaGreatDoorJ5
import Derived.Deep.DeepCutAuto
import Derived.Test.YtkkicodfpekbgaaGreatDoorJ10
import Derived.Test.YtkkicodfpekbgaaGreatDoorJ6
/-! The program's writer: value. -/
namespace Go.Proofs.YtkkicodfpekbgaaGreatDoor
set_option linter.unusedSimpArgs false
set_option linter.unusedVariables false
open Go.RowKit Go.Shelf

attribute [local go_sem] Oper.semAt_some

theorem EwD.grown {W w : World} {R : Nat} {a : Option Addr} {n c : Nat} {ta : Option Addr} {tn tc x : Nat} {told : ByteArray} {lg : Bool} {ov : Value} (h : EwD W w R a n c ta tn tc x told lg ov) {w' : World} {row : Option Nat} (hg : w.grownBy w' row)
    (hr : ∀ g, row = some g → W.heap.size ≤ g ∧ g ≠ R ∧ ∀ A, w.heap[g]? ≠ some (.cells A 5 (0, 0))) : EwD W w' R a n c ta tn tc x told lg ov := by
  obtain ⟨tv, h1, h2⟩ := h.own
  refine ⟨h.bel.grown hg h.bel.size (fun k e => (hr k e).1), h.lo, tv, ?_, h2.kept hg ?_⟩
  · rw [hg.block R (row_lt h1) (fun e => (hr R e.symm).2.1 rfl)]; exact h1
  · rcases h2.2 with ⟨rfl, _⟩ | ⟨g, _, cur, rfl, _, hgg, _⟩
    · exact .inl rfl
    · exact .inr fun q => (hr g q.symm).2.2 cur hgg
theorem own_frE {R : Nat} {w w' : World} {B : Nat} {T : TypeId} {s : Nat} {v : Value} {n : Nat} {xs : List Value} (h : w.ownsRow B T s v n xs) (hf : FrE R w w') (hT : T ≠ 5) (hR : R < B) : w'.ownsRow B T s v n xs := by
  refine ⟨h.1, ?_⟩
  rcases h.2 with hn | ⟨g, cap, cur, rfl, hb, hg, rest⟩
  · exact .inl hn
  · exact .inr ⟨g, cap, cur, rfl, hb, hf g cur T (by omega) hT hg, rest⟩
theorem own_formF {w : World} {B : Nat} {v : Value} {n : Nat} {xs : List Value} (h : w.ownsRow B 149 3 v n xs) : ∃ bs cp, v = .slice bs n cp := by
  rcases h.2 with ⟨rfl, h0⟩ | ⟨g, cp, cur, rfl, _⟩
  · exact ⟨none, 0, by rw [h0]⟩
  · exact ⟨_, _, rfl⟩
theorem frX_keeps {R : Nat} {w w' : World} (h : FrX R w w') {A : Array Value} {T : TypeId} {z : Nat × Nat} (hR : w.heap[R]? = some (.cells A T z)) (B : Nat) : KeepsFrom B w w' :=
  ⟨h.size, fun k o _ hk ho => by
    by_cases hkR : k = R
    · subst hkR
      rw [hR] at hk
      injection hk with hk
      subst hk
      cases ho
    · exact h.stay k o hkR (fun A q => by rw [q] at ho; cases ho) hk⟩
theorem Tryz.infoFirst : (Tryz.prog.info? 149).map (fun i => (i.zero, i.size, i.bytes)) = some (some (.agg #[.int .i64 0, .int .i64 0, .bool false]), 3, 24) := by kernel_rfl

theorem fold2 (T : Array Value) (p q : Tmp) (u v : Value) : Array.foldl (fun t (x : Tmp × Value) => match x with | (p, v) => t.setIfInBounds p v) T (#[p, q].zip #[u, v]) = (T.setIfInBounds p u).setIfInBounds q v := by simp
/-- Where the loop over Choices is. -/
def ValAt (E : WEnv) (W : World) (R : Nat) (a : Option Addr) (c : Nat) (ta : Option Addr) (tc : Nat) (sn : Sn → Addr) (F : Nat) (dp : Int) (r : WOut) (t0 : ByteArray) (l0 : Bool) (o0 : Option Int) (w1 : World) (gk : Nat) (vi va : Value) (wr : World) : Prop :=
  ∃ (i x : Nat) (r' : WOut) (lc : Bool) (ars : List TagI), vi = .int .i64 i ∧ i < E.s.length ∧ gk ≤ F ∧ wrF E gk i x dp = some r' ∧ E.t.length + 1 ≤ gk + x ∧ 1 ≤ gk ∧ x ≤ E.t.length ∧ wr.ownsRow w1.heap.size 149 3 va ars.length (acells ars) ∧
    EwD W wr R a E.s.length c ta E.t.length tc x t0 lc (ovV sn o0) ∧ FrE R w1 wr ∧ Chain l0 lc ars r r'

set_option maxHeartbeats 16000000 in
set_option maxRecDepth 100000 in
theorem evalue_step (E : WEnv) (W : World) (R : Nat) (a : Option Addr) (c : Nat) (ta : Option Addr) (tc : Nat) (sn : Sn → Addr) (hc : EC E W a ta sn) (htc : E.t.length ≤ tc) (F : Nat) (hN : ∀ g, g < F → NodeE E W R a c ta tc sn g) : NodeE E W R a c ta tc sn F := by
  intro i x dp r t0 l0 o0 w e hi hx hfx hf1 hd1 hd2 h4 hI
  have HC := hide hc
  have HNN := hide hN
  have HI := hide hI
  have HTC := hide htc
  have hlen := hc.len
  have HLEN := hide hlen
  obtain ⟨bs, cp, hform⟩ : ∃ bs cp, ∃ tvx, tvx = Value.slice bs t0.size cp ∧ w.heap[R]? = some (ewObj a E.s.length c ta E.t.length tc x tvx l0 (ovV sn o0)) := by
    obtain ⟨tv, h1, h2⟩ := hI.own
    obtain ⟨bs, cp, rfl, _⟩ := own8 h2
    exact ⟨bs, cp, _, rfl, h1⟩
  obtain ⟨_, rfl, hown⟩ := hform
  have hRl : R < w.heap.size := row_lt hown
  have HE := hide e
  have HDP := hide (And.intro hd1 hd2)
  have hB1 : Below w.heap.size w ((w.alloc (.cells #[.pointer (some ⟨R, 0, none⟩)] 138)).alloc (.cells #[.int .i64 t0.size] 3)) := ((Below.refl w.heap.size w).alloc (Nat.le_refl _) _).alloc (by simp) _
  have hG1 : ((w.alloc (.cells #[.pointer (some ⟨R, 0, none⟩)] 138)).alloc (.cells #[.int .i64 t0.size] 3)).heap[w.heap.size]? = some (.cells #[.pointer (some ⟨R, 0, none⟩)] 138 (0, 0)) := block_below (heap_alloc_new w _) ((Below.refl _ _).alloc (Nat.le_refl _) _)
  have hG2 : ((w.alloc (.cells #[.pointer (some ⟨R, 0, none⟩)] 138)).alloc (.cells #[.int .i64 t0.size] 3)).heap[w.heap.size + 1]? = some (.cells #[.int .i64 t0.size] 3 (0, 0)) := by
    simpa using heap_alloc_new (w.alloc (.cells #[.pointer (some ⟨R, 0, none⟩)] 138)) (.cells #[.int .i64 t0.size] 3)
  have hg3 := block_below hown ((Below.refl w.heap.size w).alloc (Nat.le_refl _) (.cells #[.pointer (some ⟨R, 0, none⟩)] 138))
  unfold ewObj at hg3
  have c3 : (w.alloc (.cells #[.pointer (some ⟨R, 0, none⟩)] 138)).cell? ⟨R, 3, none⟩ = some (.slice bs t0.size cp) := by simp [World.cell?, hg3]
  have hsz1 : ((w.alloc (.cells #[.pointer (some ⟨R, 0, none⟩)] 138)).alloc (.cells #[.int .i64 t0.size] 3)).heap.size = w.heap.size + 1 + 1 := by simp
  clear hc hN hI htc e hown hd1 hd2 hg3
  refine (callsIn_wide (n := 3)).1 (callsIn_of_wp_marks Tryz.func75 rfl trivial ?_ rfl)
  refine wpIn_wide.2 ?_
  simp only [Tryz.ntmps75, List.size_toArray, List.length_cons, List.length_nil, Nat.reduceAdd, Nat.reduceSub, Array.replicate_succ, Array.replicate_zero, List.push_toArray, List.append_toArray, List.nil_append, List.cons_append]
  go_upto_region 2 with fail
  obtain ⟨wb, hwb⟩ : ∃ wb, w.heap.size = wb := ⟨_, rfl⟩
  obtain ⟨sb, hsb⟩ : ∃ sb, w.heap.size + 1 = sb := ⟨_, rfl⟩
  rw [hsb] at hG2 hsz1 ⊢
  rw [hwb] at hG1 ⊢
  generalize (w.alloc (.cells #[.pointer (some ⟨R, 0, none⟩)] 138)).alloc (.cells #[.int .i64 t0.size] 3) = w1 at hB1 hG1 hG2 hsz1 ⊢
  have hneW : wb ≠ R := by omega
  have hneS : sb ≠ R := by omega
  have HB1 := hide hB1
  have HG1 := hide hG1
  have HG2 := hide hG2
  have HI1 := hide (HI.out.below hB1)
  have hR1 : R < w1.heap.size := by have := hB1.size; omega
  have hW1 : W.heap.size ≤ w1.heap.size := HI1.out.bel.size
  have HSZ : Hid (∀ wq, FrE R w1 wq → w1.heap.size ≤ wq.heap.size) := fun wq q => by have := row_lt (q _ _ _ hneS (by decide) HG2.out); omega
  clear hB1 hG1 hG2 hwb hsb c3 hRl hsz1
  go_wp2_with fail
  go_loopg [1, 8] F (fun gk vi va wr => ValAt E W R a c ta tc sn F dp r t0 l0 o0 w1 gk vi va wr)
  case atStart => exact ⟨i, x, r, l0, [], rfl, hi, Nat.le_refl _, HE.out, hfx, hf1, hx, World.ownsRow_nil _ _ _ _, HI1.out, fun _ _ _ _ _ h => h, Chain.start l0 r⟩
  case round =>
    clear hi hfx hf1 hx HE HI HI1
    obtain ⟨i, x, r', lc, ars, rfl, hi, hgF, hE, hfx, hf1, hx, hown, hEw, hFr, hCh⟩ := hrel
    obtain ⟨G, rfl⟩ : ∃ G, gk = G + 1 := ⟨gk - 1, by omega⟩
    obtain ⟨bsO, cpO, rfl⟩ := own_formF hown
    have HEW := hide hEw
    have HOW := hide hown
    have HFR := hide hFr
    have HCH := hide hCh
    have HEE := hide hE
    have HHI := hide hi
    obtain ⟨b, o, ka, kc, hab, ncl, hkc, hkm, hka⟩ := HC.out.wc.sch i hi
    have hk8 := count8 HC.out.wc.right.2.2.1 hi
    obtain ⟨hk1, hk14, hT1, hT2, hT3, hT4, hT5⟩ := tagged_of HC.out.wc.right hi
    obtain ⟨N, hN⟩ : ∃ N, nd E.s i = N := ⟨_, rfl⟩
    have HN := hide hN
    rw [hN] at ncl hkc hka hk8 hk1 hk14 hT1 hT2 hT3 hT4 hT5
    have HKA := hide hka
    have HKM := hide hkm
    obtain ⟨n0, n1, n2, n3⟩ := ncl
    have hbW := HEW.out.bel
    have m0 : wr.cell? ⟨b, o + i * 4, none⟩ = some (.int .i64 N.kind) := (hbW.cell (lt_of_cell n0)).trans n0
    have m1 : wr.cell? ⟨b, o + i * 4 + 1, none⟩ = some (.int .i64 N.tag) := (hbW.cell (lt_of_cell n1)).trans n1
    have m2 : wr.cell? ⟨b, o + i * 4 + 2, none⟩ = some (.int .i64 N.mode) := (hbW.cell (lt_of_cell n2)).trans n2
    have m3 : wr.cell? ⟨b, o + i * 4 + 3, none⟩ = some (.slice ka N.kids.length kc) := (hbW.cell (lt_of_cell n3)).trans n3
    have hlb := lt_of_cell m0
    simp only at hlb
    have hgw := HFR.out _ _ _ hneW (by decide) HG1.out
    have p0 : wr.cell? ⟨wb, 0, none⟩ = some (.pointer (some ⟨R, 0, none⟩)) := cell_of_row hgw rfl
    have hlw := row_lt hgw
    obtain ⟨tv, hrow, _⟩ := HEW.out.own
    unfold ewObj at hrow
    have r0 : wr.cell? ⟨R, 0, none⟩ = some (.slice (some ⟨b, o, none⟩) E.s.length c) := by rw [← hab]; simp [World.cell?, hrow]
    have hRr : R < wr.heap.size := lt_of_cell r0
    have hi' : (i : Int) < (E.s.length : Int) := by omega
    have HTK : Hid (∀ wq, EwD W wq R a E.s.length c ta E.t.length tc x t0 lc (ovV sn o0) → Calls Tryz.prog 109 #[.pointer (some ⟨R, 0, none⟩), .agg #[.int .i64 N.kind, .int .i64 N.tag, .int .i64 N.mode, .slice ka N.kids.length kc], .int .i64 dp] wq fun e w' => RetTk W R a E.s.length c ta E.t tc x t0 lc (ovV sn o0) sn N dp wq e w') := fun wq q =>
      take_any W wq R a E.s.length c ta E.t tc x t0 lc (ovV sn o0) sn N ka kc dp HC.out.lay hk8 HLEN.out HTC.out hx (fun j hj => ⟨by have := HC.out.txt hj; omega, HC.out.wc.tree j hj⟩) q
    have hB2 : Below wr.heap.size wr (wr.alloc (.cells #[.int .i64 N.kind, .int .i64 N.tag, .int .i64 N.mode, .slice ka N.kids.length kc] 58)) := (Below.refl _ _).alloc (Nat.le_refl _) _
    have hGN : (wr.alloc (.cells #[.int .i64 N.kind, .int .i64 N.tag, .int .i64 N.mode, .slice ka N.kids.length kc] 58)).heap[wr.heap.size]? = some (.cells #[.int .i64 N.kind, .int .i64 N.tag, .int .i64 N.mode, .slice ka N.kids.length kc] 58 (0, 0)) := heap_alloc_new wr _
    have HB2 := hide hB2
    have HGN := hide hGN
    have hneN : wr.heap.size ≠ R := by omega
    clear hEw hown hFr hCh hE hi hN hka hkm n0 n1 n2 n3 hbW hgw hrow hab hB2 hGN
    go_upto_region 4 with fail
    obtain ⟨nb, hnb⟩ : ∃ nb, wr.heap.size = nb := ⟨_, rfl⟩
    rw [hnb] at HGN hneN ⊢
    have HEW2 := hide (HEW.out.below HB2.out)
    have HOW2 := hide (own_below HOW.out HB2.out)
    have HFR2 : Hid (FrE R w1 (wr.alloc (.cells #[.int .i64 N.kind, .int .i64 N.tag, .int .i64 N.mode, .slice ka N.kids.length kc] 58))) := HFR.out.trans (FrE.of_below HB2.out)
    have hs2 := HB2.out.size
    generalize wr.alloc (.cells #[.int .i64 N.kind, .int .i64 N.tag, .int .i64 N.mode, .slice ka N.kids.length kc] 58) = w2 at HGN HEW2 HOW2 HFR2 HB2 hs2 ⊢
    have hgw := HFR2.out _ _ _ hneW (by decide) HG1.out
    have p0' : w2.cell? ⟨wb, 0, none⟩ = some (.pointer (some ⟨R, 0, none⟩)) := cell_of_row hgw rfl
    have k0 : w2.cell? ⟨nb, 0, none⟩ = some (.int .i64 N.kind) := cell_of_row HGN.out rfl
    have k1 : w2.cell? ⟨nb, 1, none⟩ = some (.int .i64 N.tag) := cell_of_row HGN.out rfl
    have k2 : w2.cell? ⟨nb, 2, none⟩ = some (.int .i64 N.mode) := cell_of_row HGN.out rfl
    have k3 : w2.cell? ⟨nb, 3, none⟩ = some (.slice ka N.kids.length kc) := cell_of_row HGN.out rfl
    have hlw2 := row_lt hgw
    have hln2 := row_lt HGN.out
    clear m0 m1 m2 m3 hlb p0 hlw r0 hRr hgw hnb HEW HOW HFR HB2 hs2
    go_wp2_with fail
    refine (HTK.out _ HEW2.out).mono ?_
    rintro e w3 ⟨hF3, ⟨hxl, hdl, hfit, rfl, hE3⟩ | ⟨hno, rfl, hE3⟩⟩
    · obtain ⟨r'', hb'', hr''⟩ := outR_of (by rw [← wrF_yes hxl hdl (by rw [HN.out]; exact hfit)]; exact HEE.out)
      rw [HN.out] at hr''
      have HBF := hide hb''
      have HFIT : Hid (FitP N (vl E.t x)) := hfit
      have HDL := hide hdl
      have HE3 := hide hE3
      have HF3 := hide hF3
      have hCh := HCH.out
      rw [hr''] at hCh
      have HCH3 : Hid (Chain l0 lc ars r (outR N r'')) := hCh
      have HOW3 := hide (own_frE HOW2.out hF3 (by decide) hR1)
      obtain ⟨v, hv⟩ : ∃ v, vl E.t x = v := ⟨_, rfl⟩
      have HV := hide hv
      have hg3 := hF3 _ _ _ hneN (by decide) HGN.out
      have HGN3 := hide hg3
      have hgw := HFR2.out.trans hF3 _ _ _ hneW (by decide) HG1.out
      have HFR3 : Hid (FrE R w1 w3) := HFR2.out.trans hF3
      rw [hv]
      clear hxl hdl hfit hE3 hF3 hb'' hr'' hCh hg3 hgw hv p0' k0 k1 k2 k3 hlw2 hln2 HOW2 HFR2 HEW2 HGN HTK HCH HEE
      have hB4 : Below w3.heap.size w3 (w3.alloc (.cells #[.int .i64 v.kind, .string v.text, .int .i64 v.alt, .int .i64 v.kids] 60)) := (Below.refl _ _).alloc (Nat.le_refl _) _
      have hGV : (w3.alloc (.cells #[.int .i64 v.kind, .string v.text, .int .i64 v.alt, .int .i64 v.kids] 60)).heap[w3.heap.size]? = some (.cells #[.int .i64 v.kind, .string v.text, .int .i64 v.alt, .int .i64 v.kids] 60 (0, 0)) := heap_alloc_new w3 _
      have HB4 := hide hB4
      have hneV : w3.heap.size ≠ R := by obtain ⟨tv, h1, _⟩ := HE3.out.own; have := row_lt h1; omega
      go_upto_region 7 with fail
      obtain ⟨vb, hvb⟩ : ∃ vb, w3.heap.size = vb := ⟨_, rfl⟩
      rw [hvb] at hGV hneV ⊢
      have HE4 := hide (HE3.out.below HB4.out)
      have HO4 := hide (own_below HOW3.out HB4.out)
      have HF4 : Hid (FrE R w1 (w3.alloc (.cells #[.int .i64 v.kind, .string v.text, .int .i64 v.alt, .int .i64 v.kids] 60))) := HFR3.out.trans (FrE.of_below HB4.out)
      have HN4 := hide (block_below HGN3.out HB4.out)
      have HV4 := hide hGV
      generalize w3.alloc (.cells #[.int .i64 v.kind, .string v.text, .int .i64 v.alt, .int .i64 v.kids] 60) = w4 at hGV HE4 HO4 HF4 HN4 HV4 HB4 ⊢
      have k0 : w4.cell? ⟨nb, 0, none⟩ = some (.int .i64 N.kind) := cell_of_row HN4.out rfl
      have k1 : w4.cell? ⟨nb, 1, none⟩ = some (.int .i64 N.tag) := cell_of_row HN4.out rfl
      have k2 : w4.cell? ⟨nb, 2, none⟩ = some (.int .i64 N.mode) := cell_of_row HN4.out rfl
      have k3 : w4.cell? ⟨nb, 3, none⟩ = some (.slice ka N.kids.length kc) := cell_of_row HN4.out rfl
      have hln4 := row_lt HN4.out
      obtain ⟨c0, n0, b0, ok, hok1, hok2, HAR⟩ : ∃ (c0 n0 : Int) (b0 ok : Bool), (ok = true → N.mode = 1 ∧ c0 = 2 ∧ n0 = N.tag ∧ b0 = true) ∧ (ok = false → ¬ N.mode = 1) ∧ Hid (∀ wq, Below W.heap.size W wq → Calls Tryz.prog 110 #[.agg #[.int .i64 N.kind, .int .i64 N.tag, .int .i64 N.mode, .slice ka N.kids.length kc]] wq fun e w' => e = .returned (.tuple #[.agg #[.int .i64 c0, .int .i64 n0, .bool b0], .bool ok]) ∧ Below wq.heap.size wq w') := by
        by_cases hm : N.mode = 1
        · have htg : 0 ≤ N.tag := by
            by_cases q : N.tag < 0
            · have := hT3 (by omega); omega
            · omega
          exact ⟨2, N.tag, true, true, fun _ => ⟨hm, rfl, rfl, rfl⟩, fun q => (by cases q), fun wq q => around_yes N ka kc wq hm (HC.out.lay.below q).n htg (by omega)⟩
        · exact ⟨0, 0, false, false, fun q => (by cases q), fun _ => hm, fun wq q => around_no N ka kc wq hm⟩
      have HOK1 := hide hok1
      have HOK2 := hide hok2
      clear hvb hGV hB4 HE3 HOW3 HFR3 HGN3 HB4 hok1 hok2
      go_wp2_with fail
      refine (HAR.out _ HE4.out.bel).mono ?_
      rintro e w5 ⟨rfl, hb5⟩
      have HB5 := hide hb5
      clear hb5 k0 k1 k2 k3 hln4
      have hB6 : Below w4.heap.size w4 (w5.alloc (.cells #[.int .i64 c0, .int .i64 n0, .bool b0] 149)) := HB5.out.alloc HB5.out.size _
      have hGF : (w5.alloc (.cells #[.int .i64 c0, .int .i64 n0, .bool b0] 149)).heap[w5.heap.size]? = some (.cells #[.int .i64 c0, .int .i64 n0, .bool b0] 149 (0, 0)) := heap_alloc_new w5 _
      go_upto_region 8 with fail
      obtain ⟨fb', hfb⟩ : ∃ fb', w5.heap.size = fb' := ⟨_, rfl⟩
      rw [hfb] at hGF ⊢
      have HE6 := hide (HE4.out.below hB6)
      have HO6 := hide (own_below HO4.out hB6)
      have HF6 : Hid (FrE R w1 (w5.alloc (.cells #[.int .i64 c0, .int .i64 n0, .bool b0] 149))) := HF4.out.trans (FrE.of_below hB6)
      have HN6 := hide (block_below HN4.out hB6)
      have HV6 := hide (block_below HV4.out hB6)
      have HG6 := hide hGF
      generalize w5.alloc (.cells #[.int .i64 c0, .int .i64 n0, .bool b0] 149) = w6 at hGF HE6 HO6 HF6 HN6 HV6 HG6 hB6 ⊢
      have hgw := HF6.out _ _ _ hneW (by decide) HG1.out
      have p6 : w6.cell? ⟨wb, 0, none⟩ = some (.pointer (some ⟨R, 0, none⟩)) := cell_of_row hgw rfl
      obtain ⟨tv6, hrow6, _⟩ := HE6.out.own
      have HR6 := hide hrow6
      unfold ewObj at hrow6
      have r4 : w6.cell? ⟨R, 4, none⟩ = some (.bool lc) := by simp [World.cell?, hrow6]
      have hRr : R < w6.heap.size := lt_of_cell r4
      have hlw6 := row_lt hgw
      clear hfb hGF hB6 hgw hrow6 HE4 HO4 HF4 HN4 HV4 HB5 HAR
      go_cut [51] from 22 to 79 (fun vq wx => vq = .bool (ok && !lc) ∧ wx = w6)
      case first =>
        cases ok
        · go_wp2_with fail
          go_meet
          exact ⟨rfl, rfl⟩
        · cases lc
          · go_wp2_with fail
            go_meet
            exact ⟨rfl, rfl⟩
          · go_wp2_with fail
            go_meet
            exact ⟨rfl, rfl⟩
      case rest =>
        obtain ⟨rfl, hw⟩ := hcut
        obtain rfl : w6 = wc := hw.symm
        clear hw
        go_upto_if 51 with fail
        go_cut [8] from 22 to 79 (fun va wx => ∃ (lc' : Bool) (ars' : List TagI), wx.ownsRow w1.heap.size 149 3 va ars'.length (acells ars') ∧ EwD W wx R a E.s.length c ta E.t.length tc (x + 1) t0 lc' (ovV sn o0) ∧ FrE R w1 wx ∧ wx.heap[nb]? = some (.cells #[.int .i64 N.kind, .int .i64 N.tag, .int .i64 N.mode, .slice ka N.kids.length kc] 58 (0, 0)) ∧ wx.heap[vb]? = some (.cells #[.int .i64 v.kind, .string v.text, .int .i64 v.alt, .int .i64 v.kids] 60 (0, 0)) ∧ Chain l0 lc' ars' r r'')
        case first =>
          by_cases hq : (ok && !lc) = true
          · obtain ⟨rfl, rfl⟩ : ok = true ∧ lc = false := by simpa using hq
            obtain ⟨hm, rfl, rfl, rfl⟩ := HOK1.out rfl
            have hlen2 := HCH3.out.len
            have htg : 0 ≤ N.tag ∧ N.tag ≤ 30 := by
              refine ⟨?_, by omega⟩
              by_cases q : N.tag < 0
              · have := hT3 (by omega); omega
              · omega
            have HCH7 : Hid (Chain l0 (decide (2000 < ars.length + 1)) (ars ++ [⟨N.tag, htg⟩]) r r'') := HCH3.out.head hm ⟨N.tag, htg⟩ rfl
            obtain ⟨i0, hi0, hz0, hz1, hz2⟩ := info_parts Tryz.infoFirst
            have g0 : w6.cell? ⟨fb', 0, none⟩ = some (.int .i64 2) := cell_of_row HG6.out rfl
            have g1 : w6.cell? ⟨fb', 1, none⟩ = some (.int .i64 N.tag) := cell_of_row HG6.out rfl
            have g2 : w6.cell? ⟨fb', 2, none⟩ = some (.bool true) := cell_of_row HG6.out rfl
            have hlf := row_lt HG6.out
            have hsz6 := HSZ.out _ HF6.out
            have HAPP : Hid (∀ g7 cap7 w7, w7.ownsRow w1.heap.size 149 3 (.slice (some ⟨g7, 0, none⟩) (ars.length + 1) cap7) (ars.length + 1) (acells ars ++ [.int .i64 2, .int .i64 N.tag, .bool true]) → (w6.alloc (.cells #[.int .i64 2, .int .i64 N.tag, .bool true] 149)).grownBy w7 (Value.slice bsO ars.length cpO).ownBlock →
                w7.cell? ⟨wb, 0, none⟩ = some (.pointer (some ⟨R, 0, none⟩)) ∧ w7.cell? ⟨R, 4, none⟩ = some (.bool false) ∧ w7.frozen? ⟨R, 4, none⟩ = false ∧ R < w7.heap.size ∧ wb < w7.heap.size ∧
                ∀ lq : Bool, lq = decide (2000 < ars.length + 1) → ∃ (lc' : Bool) (ars' : List TagI), (w7.setCell ⟨R, 4, none⟩ (.bool lq)).ownsRow w1.heap.size 149 3 (.slice (some ⟨g7, 0, none⟩) (ars.length + 1) cap7) ars'.length (acells ars') ∧ EwD W (w7.setCell ⟨R, 4, none⟩ (.bool lq)) R a E.s.length c ta E.t.length tc (x + 1) t0 lc' (ovV sn o0) ∧ FrE R w1 (w7.setCell ⟨R, 4, none⟩ (.bool lq)) ∧ (w7.setCell ⟨R, 4, none⟩ (.bool lq)).heap[nb]? = some (.cells #[.int .i64 N.kind, .int .i64 N.tag, .int .i64 N.mode, .slice ka N.kids.length kc] 58 (0, 0)) ∧ (w7.setCell ⟨R, 4, none⟩ (.bool lq)).heap[vb]? = some (.cells #[.int .i64 v.kind, .string v.text, .int .i64 v.alt, .int .i64 v.kids] 60 (0, 0)) ∧ Chain l0 lc' ars' r r'') := fun g7 cap7 w7 h1 h2 => by
              have hB := (Below.refl w6.heap.size w6).alloc (Nat.le_refl _) (.cells #[.int .i64 2, .int .i64 N.tag, .bool true] 149)
              have hrow : ∀ g, (Value.slice bsO ars.length cpO).ownBlock = some g → w1.heap.size ≤ g ∧ ∃ cur, w6.heap[g]? = some (.cells cur 149 (0, 0)) := fun g q => by
                refine ⟨(HO6.out.lt g q).1, ?_⟩
                rcases HO6.out.2 with ⟨h, _⟩ | ⟨g', cp', cur, h, _, hgg, _⟩
                · rw [h] at q; cases q
                · rw [h] at q
                  simp only [Value.ownBlock, Option.some.injEq] at q
                  subst q
                  exact ⟨cur, hgg⟩
              have hold : ∀ (k : Nat) (A : Array Value) (T : TypeId), T ≠ 149 → w6.heap[k]? = some (.cells A T (0, 0)) → w7.heap[k]? = some (.cells A T (0, 0)) := fun k A T hT hk => by
                have hk' := block_below hk hB
                rw [h2.block k (row_lt hk') (fun q => ?_)]
                · exact hk'
                · obtain ⟨_, cur, hcur⟩ := hrow k q.symm
                  rw [hk] at hcur
                  injection hcur with hcur
                  injection hcur with _ hcur _
                  exact hT hcur
              have hE7 : EwD W w7 R a E.s.length c ta E.t.length tc (x + 1) t0 false (ovV sn o0) := (HE6.out.below hB).grown h2 fun g q => by
                obtain ⟨h3, cur, hcur⟩ := hrow g q
                refine ⟨by omega, by omega, fun A hA => ?_⟩
                have := block_below hcur hB
                rw [hA] at this
                injection this with this
                injection this with _ this _
                revert this
                decide
              have hgw7 := hold _ _ _ (by decide) (HF6.out _ _ _ hneW (by decide) HG1.out)
              have hR7 := hold _ _ _ (by decide) (show w6.heap[R]? = some (.cells #[.slice a E.s.length c, .slice ta E.t.length tc, .int .i64 ((x + 1 : Nat) : Int), tv6, .bool false, ovV sn o0] 140 (0, 0)) from HR6.out)
              refine ⟨cell_of_row hgw7 rfl, cell_of_row hR7 rfl, frozen_row hR7, row_lt hR7, row_lt hgw7, fun lq hlq => ⟨lq, ars ++ [⟨N.tag, htg⟩], ?_, hE7.setLong lq, ?_, ?_, ?_, by rw [hlq]; exact HCH7.out⟩⟩
              · refine ownsRow_setCell_other ?_ ?_ _
                · rw [acells_snoc, List.length_append]; exact h1
                · exact row_ne hR7 h1 (by decide)
              · intro k A T hk hT hg
                rw [heap_setCell_other _ _ _ _ hk]
                have hg6 := HF6.out k A T hk hT hg
                have hk' := block_below hg6 hB
                rw [h2.block k (row_lt hk') (fun q => ?_)]
                · exact hk'
                · have := (hrow k q.symm).1
                  have := row_lt hg
                  omega
              · rw [heap_setCell_other _ _ _ _ hneN]
                exact hold _ _ _ (by decide) HN6.out
              · rw [heap_setCell_other _ _ _ _ hneV]
                exact hold _ _ _ (by decide) HV6.out
            have hlz : (2000 : Int) < ((ars.length + 1 : Nat) : Int) ↔ 2000 < ars.length + 1 := by omega
            clear hq hm
            go_wp2_with (at_builtin; refine wpList_append_lies _ rfl _ _ 186 rfl w1.heap.size 149 i0 _ 3 24 Tryz.underlying186 hi0 hz0 hz1 hz2 rfl (by decide) (.slice bsO ars.length cpO) ars.length (acells ars) rfl (HO6.out.alloc _) ⟨w6.heap.size, 0, none⟩ 1 1 [.int .i64 2, .int .i64 N.tag, .bool true] rfl rfl (World.news_of_block (heap_alloc_new w6 (.cells #[.int .i64 2, .int .i64 N.tag, .bool true] 149))) (by intro u hu; simp at hu; rcases hu with rfl | rfl | rfl <;> rfl) (by decide) (by unfold maxLen; omega) (by omega) (by simp; omega) (w6.heap.size + 1) (by simp) ?_; intro g7 cap7 w7 h71 h72 h73 h74; obtain ⟨e7, e8, e9, e10, e11, hfin⟩ := HAPP.out g7 cap7 w7 h71 h72; have HFIN := hide hfin; clear h71 h72 h73 h74 hfin)
            go_meet
            refine HFIN.out _ ?_
            first | rfl | exact decide_eq_decide.2 (by omega) | (simp; omega)
          · have HCH7 : Hid (Chain l0 lc ars r r'') := by
              refine HCH3.out.plain ?_
              cases hok : ok
              · exact .inl (HOK2.out hok)
              · right
                cases hlc : lc
                · rw [hok, hlc] at hq; exact absurd rfl hq
                · rfl
            have hqb : (ok && !lc) = false := by simpa using hq
            rw [hqb]
            clear hq
            go_wp2_with fail
            go_meet
            exact ⟨lc, ars, HO6.out, HE6.out, HF6.out, HN6.out, HV6.out, HCH7.out⟩
        case rest =>
          obtain ⟨lc', ars', hO7, hE7, hF7, hN7, hV7, hC7⟩ := hcut
          obtain ⟨bsA, cpA, rfl⟩ := own_formF hO7
          have HO7 := hide hO7
          have HE7 := hide hE7
          have HF7 := hide hF7
          have HN7 := hide hN7
          have HV7 := hide hV7
          have HC7 := hide hC7
          have hgw := hF7 _ _ _ hneW (by decide) HG1.out
          have p7 : wc.cell? ⟨wb, 0, none⟩ = some (.pointer (some ⟨R, 0, none⟩)) := cell_of_row hgw rfl
          have k0 : wc.cell? ⟨nb, 0, none⟩ = some (.int .i64 N.kind) := cell_of_row hN7 rfl
          have k1 : wc.cell? ⟨nb, 1, none⟩ = some (.int .i64 N.tag) := cell_of_row hN7 rfl
          have k2 : wc.cell? ⟨nb, 2, none⟩ = some (.int .i64 N.mode) := cell_of_row hN7 rfl
          have k3 : wc.cell? ⟨nb, 3, none⟩ = some (.slice ka N.kids.length kc) := cell_of_row hN7 rfl
          have v0 : wc.cell? ⟨vb, 0, none⟩ = some (.int .i64 v.kind) := cell_of_row hV7 rfl
          have v1 : wc.cell? ⟨vb, 1, none⟩ = some (.string v.text) := cell_of_row hV7 rfl
          have v2 : wc.cell? ⟨vb, 2, none⟩ = some (.int .i64 v.alt) := cell_of_row hV7 rfl
          have v3 : wc.cell? ⟨vb, 3, none⟩ = some (.int .i64 v.kids) := cell_of_row hV7 rfl
          have hlw7 := row_lt hgw
          have hln7 := row_lt hN7
          have hlv7 := row_lt hV7
          have hxl : x < E.t.length := by
            rcases Nat.lt_or_ge x E.t.length with q | q
            · exact q
            · have h1 := HFIT.out.1
              have h2 : vl E.t x = ⟨0, noB, 0, 0⟩ := by unfold vl; rw [List.getD_eq_getElem?_getD, List.getElem?_eq_none q]; rfl
              rw [h2] at h1
              simp only at h1
              omega
          clear hO7 hE7 hF7 hN7 hV7 hC7 hgw p6 r4 hRr hlw6 HE6 HO6 HF6 HN6 HV6 HG6 HR6 HCH3 HOK1 HOK2
          by_cases h13 : N.kind = 13
          · have hf13 := (fit13 h13 HFIT.out.1).1 HFIT.out
            rw [HV.out] at hf13
            obtain ⟨al, hal⟩ : ∃ al : Nat, v.alt = al := ⟨v.alt.toNat, by omega⟩
            have hall : al < N.kids.length := by omega
            obtain ⟨b', o', hkaE, kcl⟩ := HKA.out al hall
            obtain ⟨kc0, _, _⟩ := kcl
            have hmem : N.kids.getD al kd0 ∈ N.kids := kd_mem (n := N) hall
            obtain ⟨y, hy⟩ : ∃ y, N.kids.getD al kd0 = y := ⟨_, rfl⟩
            rw [hy] at kc0 hmem
            have hwn := HC.out.wc.right.fine.within i HHI.out y (by rw [HN.out]; exact hmem)
            obtain ⟨t, ht⟩ : ∃ t : Nat, y.node = t := ⟨y.node.toNat, by omega⟩
            have htl : t < E.s.length := by omega
            rw [ht] at kc0
            have q0 : wc.cell? ⟨b', o' + al * 3, none⟩ = some (.int .i64 t) := (HE7.out.bel.cell (lt_of_cell kc0)).trans kc0
            have hlq := lt_of_cell q0
            simp only at hlq
            have HNX : Hid (wrF E G t (x + 1) dp = some r'') := by
              have h := HBF.out
              rw [HN.out, HV.out] at h
              unfold wbareF at h
              rw [if_pos h13, if_pos hf13] at h
              have e1 : (kd N v.alt.toNat).node.toNat = t := by
                have : kd N v.alt.toNat = y := by unfold kd; rw [hal]; exact hy
                rw [this, ht]; rfl
              rw [e1] at h
              exact h
            rw [hkaE] at k3
            rw [hal] at v2
            rw [h13] at k0
            have hall' : (al : Int) < (N.kids.length : Int) := by omega
            clear kc0 hmem hy hwn hf13 h13 hkaE hal
            go_wp2
            go_roundg G
            case rel => exact ⟨t, x + 1, r'', lc', ars', rfl, htl, by omega, HNX.out, by omega, by omega, by omega, HO7.out, HE7.out, HF7.out, HC7.out⟩
            case measure => omega
          · have h13b : (N.kind != 13) = true := by simpa using h13
            have h13c : (N.kind == 13) = false := by simpa using h13
            have HOE : Hid (Calls Tryz.prog 111 #[.pointer (some ⟨R, 0, none⟩), .agg #[.int .i64 N.kind, .int .i64 N.tag, .int .i64 N.mode, .slice ka N.kids.length kc], .agg #[.int .i64 v.kind, .string v.text, .int .i64 v.alt, .int .i64 v.kids], .int .i64 dp] wc fun e w' => AfterE E W R a c ta tc sn r'' t0 lc' o0 wc e w') := by
              have := own_e E W R a c ta tc G sn HC.out HTC.out (HNN.out G (by omega)) (by omega) i HHI.out ka kc (by rw [HN.out]; exact HKA.out) (by rw [HN.out]; exact hkc) HKM.out x dp r'' t0 lc' o0 wc (by rw [HN.out]; exact HFIT.out) HBF.out hxl (by omega) HDP.out.1 HDL.out h4 HE7.out (by rw [HN.out]; exact h13)
              rw [HN.out, HV.out] at this
              exact this
            go_wp2_with fail
            refine HOE.out.mono ?_
            rintro e w8 ⟨hF8, ⟨b8', x8, u8', t8, l8, o8, hq, rfl, hT8, hE8⟩ | ⟨hq, p, x8, t8, l8, ov, rfl, hE8⟩⟩
            · have HE8 := hide hE8
              have HT8 := hide hT8
              have HF8 : Hid (FrE R w1 w8) := HF7.out.trans hF8
              have HO8 := hide (own_frE HO7.out hF8 (by decide) hR1)
              have hC8 := HC7.out
              rw [hq] at hC8
              have HC8 := hide hC8
              clear hF8 hq hT8 hE8 hC8 HO7 HE7 HF7 HN7 HV7 HC7 p7 k0 k1 k2 k3 v0 v1 v2 v3 hlw7 hln7 hlv7 HOE
              go_wp2_with fail
              refine (backward_any _ _ _ _).mono ?_
              rintro e w9 ⟨rfl, rfl⟩
              have hB9 : Below w8.heap.size w8 (w8.alloc (.cells #[.slice bsA ars'.length cpA] 186)) := (Below.refl _ _).alloc (Nat.le_refl _) _
              have hG9 : (w8.alloc (.cells #[.slice bsA ars'.length cpA] 186)).heap[w8.heap.size]? = some (.cells #[.slice bsA ars'.length cpA] 186 (0, 0)) := heap_alloc_new w8 _
              have hne9 : w8.heap.size ≠ R := by obtain ⟨tv, h1, _⟩ := HE8.out.own; have := row_lt h1; omega
              have hAr := AroundIn.of_own (own_below HO8.out hB9) hG9 hR1 hne9
              have HE9 := hide (HE8.out.below hB9)
              have HF9 : Hid (FrE R w1 (w8.alloc (.cells #[.slice bsA ars'.length cpA] 186))) := HF8.out.trans (FrE.of_below hB9)
              obtain ⟨Bs, hBs⟩ : ∃ Bs, w8.heap.size = Bs := ⟨_, rfl⟩
              rw [hBs] at hAr ⊢
              generalize w8.alloc (.cells #[.slice bsA ars'.length cpA] 186) = w9 at hAr HE9 HF9 ⊢
              have hl9 : ars'.length ≤ 1000000 := by have := HC8.out.len; omega
              clear hB9 hG9 hne9 hBs HE8 HF8 HO8
              have hW9 : W.heap.size ≤ w9.heap.size := HE9.out.bel.size
              have HFIN : Hid (∀ (D : Nat) (W' : World), w9.heap.size ≤ D → ((∃ (t9 : ByteArray) (l9 : Bool), EwD W W' R a E.s.length c ta E.t.length tc x8 t9 l9 (ovV sn o8) ∧ Tld t0 lc' o0 (wrapsB (backTo ars' ars'.length) b8') u8' t9 l9 o8) ∧ FrE R w9 W') → W'.heap[D]? = some (.deferred (some [])) → AfterE E W R a c ta tc sn r t0 l0 o0 w (.returned .nilIface) (W'.putObj D (.deferred none))) := fun D W' hD hs hK => by
                obtain ⟨⟨t9, l9, h1, h2⟩, h3⟩ := hs
                rw [wrapsB_all] at h2
                obtain ⟨b0, hr0, hT0⟩ := HC8.out.end h2
                have nc : ∀ (A : Array Value) (T : TypeId) (z : Nat × Nat), W'.heap[D]? ≠ some (.cells A T z) := fun A T z hA => by rw [hK] at hA; cases hA
                have hg := grownBy_putObj' W' D (.deferred none)
                have hE9 := h1.grown hg (fun g q => by
                  injection q with q
                  subst q
                  refine ⟨by omega, ?_, fun A => nc A _ _⟩
                  rintro rfl
                  obtain ⟨tv, hR, _⟩ := h1.own
                  exact nc _ _ _ hR)
                have hF9 : FrE R w9 (W'.putObj D (.deferred none)) := fun k A T hk hT hk' => by
                  have hX := h3 k A T hk hT hk'
                  rw [hg.block k (row_lt hX) (fun q => by injection q with q; subst q; exact nc _ _ _ hX)]
                  exact hX
                exact ⟨(FrE.of_below HB1.out).trans (HF9.out.trans hF9), .inl ⟨b0, x8, u8', t9, l9, o8, hr0, rfl, hT0, hE9⟩⟩
              go_wp2_with fail
              refine (wpIn_wide (n := 3)).1 ?_
              refine wpIn_rangeFunc_box (F := Fence.wide) rfl (by decide) (gf := 153) (lb := #[.pointer (some ⟨Bs, 0, none⟩)]) rfl trivial (enters_of Tryz.func153 (by kernel_rfl) rfl)
                (back_stops (3 - 1) (by decide) Bs R ars' hl9 w9 hAr) (fun h k q A T h1 h2 h3 => k q A T h1 h2 (h q A T h1 h2 h3)) ?kb (fun W' o' k A T _ _ hg => block_below hg ((Below.refl _ _).alloc (Nat.le_refl _) _)) (Below.refl _ _) (fun _ => rfl)
                (fun pre W' => (∃ (t9 : ByteArray) (l9 : Bool), EwD W W' R a E.s.length c ta E.t.length tc x8 t9 l9 (ovV sn o8) ∧ Tld t0 lc' o0 (wrapsB pre b8') u8' t9 l9 o8) ∧ FrE R w9 W') ?own ⟨⟨t8, l8, HE9.out, HT8.out⟩, fun _ _ _ _ _ h => h⟩
                16 149 (fun x => #[.int .i64 2, .int .i64 x.2.1, .bool true]) ?assign ?body ?done
              case kb =>
                intro W' l o1 o' _ hl' hc' _ k A T hk hT hg
                have hkl : k ≠ l := by
                  rintro rfl
                  rw [hg] at hl'
                  injection hl' with hl'
                  subst hl'
                  cases hc'
                exact (World.putObj_heap_other hkl).trans hg
              case own =>
                intro pre X Y row hs hg hr
                obtain ⟨⟨t9, l9, h1, h2⟩, h3⟩ := hs
                have nc : ∀ g, row = some g → ∀ (A : Array Value) (T : TypeId) (z : Nat × Nat), X.heap[g]? ≠ some (.cells A T z) := fun g q A T z hA => by
                  obtain ⟨_, o1, ho, hc'⟩ := hr g q
                  rw [hA] at ho
                  injection ho with ho
                  subst ho
                  cases hc'
                refine ⟨⟨t9, l9, h1.grown hg (fun g q => ⟨?_, ?_, fun A => nc g q A _ _⟩), h2⟩, fun k A T hk hT hk' => ?_⟩
                · have := (hr g q).1
                  omega
                · rintro rfl
                  obtain ⟨tv, hR, _⟩ := h1.own
                  exact nc _ q _ _ _ hR
                · have hX := h3 k A T hk hT hk'
                  rw [hg.block k (row_lt hX) (fun q => nc k q.symm _ _ _ hX)]
                  exact hX
              case assign =>
                intro l x1 W' K hK
                unfold encB at hK ⊢
                simp only [fold2, List.setIfInBounds_toArray, List.set_cons_zero, List.set_cons_succ] at hK ⊢
                gi_wp2
                exact hK
              case body =>
                rintro l pre x1 Bx W' ⟨⟨t9, l9, hE, hT⟩, hF⟩ hBx hlt
                unfold encB
                simp only [fold2, List.setIfInBounds_toArray, List.set_cons_zero, List.set_cons_succ]
                have hgw := (HF9.out.trans hF) _ _ _ hneW (by decide) HG1.out
                have hgs := (HF9.out.trans hF) _ _ _ hneS (by decide) HG2.out
                have p1 : W'.cell? ⟨wb, 0, none⟩ = some (.pointer (some ⟨R, 0, none⟩)) := cell_of_row hgw rfl
                have p2 : W'.cell? ⟨sb, 0, none⟩ = some (.int .i64 t0.size) := cell_of_row hgs rfl
                have p3 : W'.cell? ⟨Bx, 0, none⟩ = some (.int .i64 2) := cell_of_row hBx rfl
                have p4 : W'.cell? ⟨Bx, 1, none⟩ = some (.int .i64 x1.2.1) := cell_of_row hBx rfl
                have p5 : W'.cell? ⟨Bx, 2, none⟩ = some (.bool true) := cell_of_row hBx rfl
                have hl1 := row_lt hgw
                have hl2 := row_lt hgs
                have hl3 := row_lt hBx
                have HWR : Hid (Calls Tryz.prog 113 #[.pointer (some ⟨R, 0, none⟩), .int .i64 t0.size, .agg #[.int .i64 2, .int .i64 x1.2.1, .bool true]] W' fun e w' => AfterI W R a E.s.length c ta E.t.length tc x8 t9 l9 (ovV sn o8) t0.size (hdB 2 true x1.2.1 (t9.size - t0.size)) W' e w') := wrap_any W W' R a E.s.length c ta E.t.length tc x8 t9 l9 (ovV sn o8) sn HC.out.lay t0.size 2 x1.2.1 true (by decide) (by decide) x1.2.2.1 x1.2.2.2 hT.le hT.mx hE
                have HFI : Hid (∀ W4 t10 l10, FrX R W' W4 → Ins t9 l9 t0.size (hdB 2 true x1.2.1 (t9.size - t0.size)) t10 l10 → EwD W W4 R a E.s.length c ta E.t.length tc x8 t10 l10 (ovV sn o8) → KeepsFrom w9.heap.size W' W4 ∧ FrK R W' W4 ∧ ((∃ (t9 : ByteArray) (l9 : Bool), EwD W W4 R a E.s.length c ta E.t.length tc x8 t9 l9 (ovV sn o8) ∧ Tld t0 lc' o0 (wrapsB (pre ++ [x1]) b8') u8' t9 l9 o8) ∧ FrE R w9 W4)) := fun W4 t10 l10 h1 h2 h3 => by
                  obtain ⟨tv, hR, _⟩ := hE.own
                  refine ⟨frX_keeps h1 hR _, h1.fr, ⟨t10, l10, h3, ?_⟩, hF.trans h1.fr⟩
                  rw [wrapsB_snoc]
                  exact hT.wrap h2
                clear hgw hgs hBx hE hT hF
                gi_wp2_with (refine ⟨trivial, ?_⟩; gi_at_call 113; refine (CallsIn.inRound l (callsIn_wide.2 HWR.out)).mono ?_; rintro e W4 ⟨rfl, hF4, t10, l10, hi10, hE10⟩)
                exact HFI.out W4 t10 l10 hF4 hi10 hE10
              case done =>
                rintro D xs W' hD rfl hs hK
                have hA := HFIN.out D W' hD hs hK
                have HA := hide hA
                have HK := hide hK
                clear hA hs hK
                go_wp2
                refine leavesM_one HK.out (v := .nilIface) (by simp [results, Tryz.results75, go_sem]) rfl ?_
                exact HA.out
            · have HX : Hid (r = none) := by
                have h := HC7.out
                rw [hq] at h
                exact h.none
              have HE8 := hide hE8
              have HF8 : Hid (FrE R w w8) := (FrE.of_below HB1.out).trans (HF7.out.trans hF8)
              clear hq hE8 hF8
              unfold fault
              go_wp2
              refine leavesM_ret (v := fault p (sn .Tree)) (by simp [results, Tryz.results75, go_sem, fault]) rfl ?_
              exact ⟨HF8.out, .inr ⟨HX.out, p, x8, t8, l8, ov, rfl, HE8.out⟩⟩
    · have HX : Hid (r = none) := by
        have h := HEE.out
        rw [wrF_no HC.out.wc.ok (by rw [HN.out]; exact hno)] at h
        injection h with h
        have := HCH.out
        rw [← h] at this
        exact this.none
      have HE3 := hide hE3
      have HF3 : Hid (FrE R w w3) := (FrE.of_below HB1.out).trans (HFR2.out.trans hF3)
      clear hno hE3 hF3
      unfold fault
      go_wp2
      refine leavesM_ret (v := fault x (sn .Tree)) (by simp [results, Tryz.results75, go_sem, fault]) rfl ?_
      exact ⟨HF3.out.trans (FrE.of_below ((Below.refl _ _).alloc (Nat.le_refl _) _)), .inr ⟨HX.out, x, x, t0, lc, ovV sn o0, rfl, HE3.out.below ((Below.refl _ _).alloc (Nat.le_refl _) _)⟩⟩
end Go.Proofs.YtkkicodfpekbgaaGreatDoor

/-! encode.Bytes: what it answers. -/
namespace Go.Proofs.YtkkicodfpekbgaaGreatDoor
set_option linter.unusedSimpArgs false
set_option linter.unusedVariables false
open Go.RowKit

theorem evalue_all (E : WEnv) (W : World) (R : Nat) (a : Option Addr) (c : Nat) (ta : Option Addr) (tc : Nat) (sn : Sn → Addr) (hc : EC E W a ta sn) (htc : E.t.length ≤ tc) (f : Nat) : NodeE E W R a c ta tc sn f :=
  Nat.strongRecOn f fun F ih => evalue_step E W R a c ta tc sn hc htc F ih
/-- The error of a number. -/
def snW (k : Int) : Sn := if k = 2 then .Long else if k = 8 then .Order else .Tree
/-- What Bytes answers. -/
def RetBy (sn : Sn → Addr) (za : Addr) (v : Except Int ByteArray) (w : World) (e : Ending) (w' : World) : Prop :=
  Below w.heap.size w w' ∧
  ((∃ b, v = .ok b ∧ e = .returned (.tuple #[.string b, .nilIface])) ∨
   (∃ p, v = .error 1 ∧ e = .returned (.tuple #[.string ⟨#[]⟩, faultV 0 (fault p za)])) ∨
   (v = .error 1 ∧ e = .returned (.tuple #[.string ⟨#[]⟩, fault 0 za])) ∨
   (∃ k q, v = .error k ∧ (k = 2 ∨ k = 8 ∨ k = 11) ∧ e = .returned (.tuple #[.string ⟨#[]⟩, fault q (sn (snW k))])))

set_option maxHeartbeats 4000000 in
set_option maxRecDepth 100000 in
theorem bytes_any (E : WEnv) (s : List Nd) (a : Option Addr) (c : Nat) (root : Int) (t : List Vl) (ta : Option Addr) (tc : Nat) (v : Except Int ByteArray) (w : World) (sn : Sn → Addr) (za : Addr) (hl : Lay w sn) (hz : LayZ w sn za) (hs : Sch w a s) (hok : SchOk s) (hn0 : s.length ≤ 140737488351232) (ht : TreeIn w ta t) (htc : t.length ≤ tc) (hpz : pz t t.length ≤ 16777000) (hkd : ∀ j, j < t.length → (vl t j).kids ≤ 9223372036854775807) (hv : EncV E s root t v) :
    Calls Tryz.prog 46 #[.slice a s.length c, .int .i64 root, .slice ta t.length tc] w fun e w' => RetBy sn za v w e w' := by
  have HCR : Hid (∀ wq, Below w.heap.size w wq → Calls Tryz.prog 74 #[.slice a s.length c, .int .i64 root] wq fun e w' => RetRt s root za wq e w') := fun wq q => checkRoot_any s a c root wq sn za (hl.below q) (hz.below q) (hs.below q) hok hn0
  have HL := hide hl
  have HS := hide hs
  have HOK := hide hok
  have HT := hide ht
  have HV := hide hv
  have HKD := hide hkd
  have HPZ := hide hpz
  have HTC := hide htc
  have htl : t.length ≤ 16777000 := by unfold pz at hpz; omega
  clear hl hz hs hok ht hv hkd hpz htc
  go_enter Tryz.func46, Tryz.ntmps46
  go_wp2_with fail
  refine (HCR.out _ (Below.refl _ _)).mono ?_
  rintro e w1 ⟨hb1, h1⟩
  have HB1 := hide hb1
  clear hb1
  rcases h1 with ⟨rfl, hr, h0, h1⟩ | ⟨⟨p, rfl⟩, hr⟩ | ⟨rfl, hr, h0⟩
  · have HR := hide hr
    obtain ⟨rfl, rfl, hkk, f0, r, hrd0, hvr⟩ : E.s = s ∧ E.t = t ∧ (∀ k u, E.ok k u = true ↔ ContentOk k u) ∧ ∃ f r, wrF E f root.toNat 0 1 = some r ∧ v = encR r t.length := by
      rcases HV.out with ⟨q, _⟩ | ⟨_, q⟩
      · exact absurd ⟨hr, h0, h1⟩ q
      · exact q
    obtain ⟨rt, rfl⟩ : ∃ n : Nat, root = n := ⟨root.toNat, by omega⟩
    have hrd := wrF_add f0 (E.t.length + 1) _ _ _ _ hrd0
    have hEC : EC E w1 a ta sn := ⟨⟨HS.out.below HB1.out, HR.out, HOK.out, hkk, HT.out.below HB1.out, HPZ.out, HKD.out⟩, HL.out.below HB1.out⟩
    have hG2 : (w1.alloc (ewObj a E.s.length c ta E.t.length tc 0 (.slice none 0 0) false .nilIface)).heap[w1.heap.size]? = some (ewObj a E.s.length c ta E.t.length tc 0 (.slice none 0 0) false .nilIface) := heap_alloc_new w1 _
    have hI2 : EwD w1 (w1.alloc (ewObj a E.s.length c ta E.t.length tc 0 (.slice none 0 0) false .nilIface)) w1.heap.size a E.s.length c ta E.t.length tc 0 noB false (ovV sn none) := ⟨(Below.refl _ _).alloc (Nat.le_refl _) _, Nat.le_refl _, _, hG2, World.ownsRow_nil _ _ _ _⟩
    have HCL : Hid (Calls Tryz.prog 75 #[.pointer (some ⟨w1.heap.size, 0, none⟩), .int .i64 rt, .int .i64 1] (w1.alloc (ewObj a E.s.length c ta E.t.length tc 0 (.slice none 0 0) false .nilIface)) fun e w' => AfterE E w1 w1.heap.size a c ta tc sn r noB false none (w1.alloc (ewObj a E.s.length c ta E.t.length tc 0 (.slice none 0 0) false .nilIface)) e w') :=
      evalue_all E w1 w1.heap.size a c ta tc sn hEC HTC.out (f0 + (E.t.length + 1)) rt 0 1 r noB false none _ (by simpa using hrd) (by omega) (Nat.zero_le _) (by omega) (by omega) (by decide) (by decide) (by decide) hI2
    have HVR := hide hvr
    unfold ewObj at HCL
    clear hrd hrd0 hvr hEC hG2 hI2 hkk hr
    go_wp2_with fail
    refine HCL.out.mono ?_
    rintro e w3 ha3
    have hcase := ha3.2
    clear ha3
    rcases hcase with ⟨b, x, u, t1, l1, o1, hr, rfl, hT, hI3⟩ | ⟨hr, p, x, t1, l1, ov, rfl, hI3⟩
    · have HB3 : Hid (Below w.heap.size w w3) := HB1.out.trans (hI3.bel.mono HB1.out.size)
      have HRR := hide hr
      have HTT := hide hT
      obtain ⟨tv, own3, hrow⟩ := hI3.own
      unfold ewObj at own3
      have HROW := hide hrow
      have c2 : w3.cell? ⟨w1.heap.size, 2, none⟩ = some (.int .i64 (x : Int)) := by simp [World.cell?, own3]
      have c3 : w3.cell? ⟨w1.heap.size, 3, none⟩ = some tv := by simp [World.cell?, own3]
      have c4 : w3.cell? ⟨w1.heap.size, 4, none⟩ = some (.bool l1) := by simp [World.cell?, own3]
      have c5 : w3.cell? ⟨w1.heap.size, 5, none⟩ = some (ovV sn o1) := by simp [World.cell?, own3]
      have hR3 := lt_of_cell c2
      simp only at hR3
      have cT := (HL.out.below HB3.out).s.cTree
      have cL := (HL.out.below HB3.out).s.cLong
      have hgT := lt_of_cell cT
      have hgL := lt_of_cell cL
      simp only at hgT hgL
      have HAT : Hid (∀ (q : Int) (k : Sn) wq, Calls Tryz.prog 60 #[.int .i64 q, .iface 291 (.pointer (some (sn k)))] wq fun e w' => e = .returned (fault q (sn k)) ∧ w' = wq) := fun q k wq => at_any q _ wq
      unfold fault at HAT
      clear hI3 own3 hr HCL hT hrow
      by_cases hxl : x < E.t.length
      · have hxl' : (x : Int) < E.t.length := by omega
        have HE : Hid (v = .error 11) := by show v = _; rw [HVR.out, HRR.out]; unfold encR; simp only; rw [if_pos hxl]
        go_wp2_with fail
        go_region_held_law (fun w' => w'.cell? ⟨w1.heap.size, 2, none⟩ = some (.int .i64 (x : Int)) ∧ w'.cell? ⟨9, 0, none⟩ = some (.iface 291 (.pointer (some (sn .Tree))))) (first | exact ⟨c2, cT⟩ | go_keep) ((go_at_call 60; refine (HAT.out _ _ _).mono ?_; rintro e w4 ⟨rfl, rfl⟩))
        all_goals
          rename_i hHeld
          clear hHeld
          go_wp2
          refine bodyPost_ret (v := .tuple #[.string ⟨#[]⟩, fault x (sn .Tree)]) (by simp [results, Tryz.results46, go_sem, fault]) rfl ?_
          exact ⟨HB3.out.drew, .inr (.inr (.inr ⟨11, x, HE.out, by decide, rfl⟩))⟩
      · have hxl' : (E.t.length : Int) ≤ x := by omega
        cases l1 with
        | true =>
          have HE : Hid (v = .error 2) := by
            show v = _
            have := HTT.out.long rfl rfl
            rw [HVR.out, HRR.out]; unfold encR; simp only; rw [if_neg hxl, if_pos (by have h0 : noB.size = 0 := rfl; omega)]
          go_wp2_with fail
          refine (HAT.out _ _ _).mono ?_
          rintro e w4 ⟨rfl, rfl⟩
          go_wp2
          refine bodyPost_ret (v := .tuple #[.string ⟨#[]⟩, fault 0 (sn .Long)]) (by simp [results, Tryz.results46, go_sem, fault]) rfl ?_
          exact ⟨HB3.out, .inr (.inr (.inr ⟨2, 0, HE.out, by decide, rfl⟩))⟩
        | false =>
          have htb : t1 = b := by
            have := HTT.out.told rfl
            rw [this]
            apply ByteArray.ext
            simp [noB]
          have hb4 : b.size ≤ 4000 := by rw [← htb]; exact HTT.out.mx
          cases o1 with
          | some p =>
            have HE : Hid (v = .error 8) := by
              show v = _
              have hu := HTT.out.ord rfl
              simp only [Option.isSome_some, Option.isSome_none, Bool.false_or] at hu
              rw [HVR.out, HRR.out]; unfold encR; simp only; rw [if_neg hxl, if_neg (by omega), if_pos hu.symm]
            unfold ovV fault at c5
            go_wp2_with fail
            go_quiet (fail)
            have HB4 : Hid (Below w.heap.size w (w3.drewN nq)) := below_drewN HB3.out nq
            go_wp2
            refine bodyPost_ret (v := .tuple #[.string ⟨#[]⟩, fault p (sn .Order)]) (by simp [results, Tryz.results46, go_sem, fault]) rfl ?_
            exact ⟨HB4.out, .inr (.inr (.inr ⟨8, p, HE.out, by decide, rfl⟩))⟩
          | none =>
            have HE : Hid (v = .ok b) := by
              show v = _
              have hu := HTT.out.ord rfl
              simp only [Option.isSome_none, Bool.false_or] at hu
              rw [HVR.out, HRR.out]; unfold encR; simp only; rw [if_neg hxl, if_neg (by omega), if_neg (by rw [← hu]; decide)]
            unfold ovV at c5
            subst htb
            have hcv : (convert 52 9 tv).run Tryz.prog w3 = .ok (.string t1) w3 := by
              by_cases h0 : t1.size = 0
              · have e1 : t1 = noB := noB_of h0
                rcases HROW.out.2 with ⟨q, _⟩ | ⟨g, cap, cur, q, _, hg, _⟩
                · rw [q, e1]
                  simp [convert, run_underlying Tryz.underlying52, run_underlying Tryz.underlying5, run_underlying Tryz.underlying9, noB]
                  rfl
                · rw [q, e1]
                  exact run_convert_bytes_back w3 52 9 5 ⟨g, 0, none⟩ cap [] Tryz.underlying52 Tryz.underlying5 Tryz.underlying9 (fun j hj => by simp at hj)
              · have h2 := conv_own (w := w3) (v := tv) (l := t1.data.toList) (ownsRow_cast HROW.out rfl rfl) (fun q => h0 (by have := congrArg List.length q; simpa using this))
                rw [h2]
            go_wp2
            refine bodyPost_ret (v := .tuple #[.string t1, .nilIface]) (by simp [results, Tryz.results46, go_sem]) rfl ?_
            exact ⟨HB3.out, .inl ⟨_, HE.out, rfl⟩⟩
    · have HB3 : Hid (Below w.heap.size w w3) := HB1.out.trans (hI3.bel.mono HB1.out.size)
      have HE : Hid (v = .error 11) := by show v = _; rw [HVR.out, hr]; rfl
      clear hI3 hr HCL
      unfold fault
      go_wp2
      refine bodyPost_ret (v := .tuple #[.string ⟨#[]⟩, fault p (sn .Tree)]) (by simp [results, Tryz.results46, go_sem, fault]) rfl ?_
      exact ⟨HB3.out, .inr (.inr (.inr ⟨11, p, HE.out, by decide, rfl⟩))⟩
  · have HE : Hid (v = .error 1) := by
      rcases HV.out with ⟨_, q⟩ | ⟨q, _⟩
      · exact q
      · exact absurd q.1 hr
    clear hr
    unfold faultV fault
    go_wp2
    refine bodyPost_ret (v := .tuple #[.string ⟨#[]⟩, faultV 0 (fault p za)]) (by simp [results, Tryz.results46, go_sem, faultV, fault]) rfl ?_
    exact ⟨HB1.out, .inr (.inl ⟨p, HE.out, rfl⟩)⟩
  · have HE : Hid (v = .error 1) := by
      rcases HV.out with ⟨_, q⟩ | ⟨q, _⟩
      · exact q
      · exact absurd q.2 (fun z => by omega)
    clear hr
    unfold fault
    go_wp2
    refine bodyPost_ret (v := .tuple #[.string ⟨#[]⟩, fault 0 za]) (by simp [results, Tryz.results46, go_sem, fault]) rfl ?_
    exact ⟨HB1.out, .inr (.inr (.inl ⟨HE.out, rfl⟩))⟩
end Go.Proofs.YtkkicodfpekbgaaGreatDoor

/-! errors.Is and hallmark.number of a fault in a fault (written by gen_ne.py). -/
namespace Go.Proofs.YtkkicodfpekbgaaGreatDoor
set_option linter.unusedSimpArgs false
set_option linter.unusedVariables false
open Go.RowKit Go.Extern.Stop Go.Stop Go.Extern

set_option maxHeartbeats 1000000 in
set_option maxRecDepth 100000 in
theorem is_two (p0 p : Int) (a b : Addr) (ca cb : Array Value) (ta tb : TypeId) (w : World) (hne : a ≠ b) (ha : w.heap[a.block]? = some (.cells ca ta (0, 0))) (hb : w.heap[b.block]? = some (.cells cb tb (0, 0))) :
    Calls Tryz.prog 59 #[.iface 155 (.agg #[.int .i64 p0, .iface 155 (.agg #[.int .i64 p, .iface 291 (.pointer (some a))])]), .iface 291 (.pointer (some b))] w fun e w' => e = .returned (.bool false) ∧ Below w.heap.size w w' := by
  obtain ⟨i, hi, hcmp⟩ := Option.map_eq_some_iff.1 Tryz.isComp
  obtain ⟨j, hj, hjs⟩ := Option.map_eq_some_iff.1 Tryz.isSize
  have lt : ∀ {k : Nat} {o : Obj}, w.heap[k]? = some o → k < w.heap.size := fun {k o} h => by
    rcases Nat.lt_or_ge k w.heap.size with h' | h'
    · exact h'
    · rw [Array.getElem?_eq_none h'] at h; cases h
  have heq := fun o o2 => run_eql_iface_ptr_other (P := Tryz.prog) ((w.alloc o).alloc o2) Tryz.underlying85 Tryz.underlying291 hi hcmp hj (by rw [hjs]; decide) hne ((Below.heap_alloc (w.alloc o) o2 _ (by have := lt ha; simp; omega)).trans ((Below.heap_alloc w o _ (lt ha)).trans ha)) ((Below.heap_alloc (w.alloc o) o2 _ (by have := lt hb; simp; omega)).trans ((Below.heap_alloc w o _ (lt hb)).trans hb))
  clear lt ha hb
  have h8 := Tryz.callTypeOf
  have h32 := Tryz.callComparable
  have mR := Tryz.isMethodComparable
  have nF := Tryz.noIsF
  have uF := Tryz.hasUnwrapF
  have mU := Tryz.methodUnwrap
  have nE := Tryz.noIsE
  have uE := Tryz.noUnwrapE
  have vE := Tryz.noUnwrapsE
  have hty := fun x w => run_eql_iface_types (P := Tryz.prog) 155 291 x (.pointer (some b)) Tryz.underlying85 (by decide) w
  go_enter Tryz.func59, Tryz.ntmps59
  go_wp2
  refine wp_loop_rounds 3 ?_
  rw [rounds_succ]
  go_wp2
  rw [rounds_succ]
  go_wp2
  rw [rounds_succ]
  go_wp2
  go_ret
  exact ⟨rfl, ((Below.refl _ _).alloc (Nat.le_refl _) _).alloc (by simp) _⟩


set_option maxHeartbeats 4000000 in
set_option maxRecDepth 100000 in
theorem number_two (p0 p : Int) (za : Addr) (w : World) (sn : Sn → Addr) (hs : Sent w sn) (hz : LayZ w sn za) :
    Calls Tryz.prog 34 #[faultV p0 (fault p za)] w fun e w' => e = .returned (.int .i64 1) ∧ Below w.heap.size w w' := by
  have IS : Hid (∀ (s : Sn) wq, Below w.heap.size w wq → Calls Tryz.prog 59 #[.iface 155 (.agg #[.int .i64 p0, .iface 155 (.agg #[.int .i64 p, .iface 291 (.pointer (some za))])]), .iface 291 (.pointer (some (sn s)))] wq fun e w' => e = .returned (.bool false) ∧ Below w.heap.size w w') := fun s wq hq => by
    obtain ⟨c1, t1, r1⟩ := row_below hz.r hq
    obtain ⟨c2, t2, r2⟩ := row_below (hs.r s) hq
    refine (is_two p0 p za (sn s) c1 c2 t1 t2 wq (fun q => hz.d s q.symm) r1 r2).mono ?_
    rintro e w' ⟨he, hb⟩
    exact ⟨he, hq.trans (hb.mono hq.size)⟩
  have S0 := hide hs
  have B0 : Hid (Below w.heap.size w w) := Below.refl _ _
  have h0 := hs.cLong
  clear hs hz
  unfold faultV fault
  go_enter Tryz.func34, Tryz.ntmps34
  go_wp2_with fail
  refine (IS.out .Long _ B0.out).mono ?_
  rintro e w1 ⟨rfl, hb⟩
  have B1 := hide hb
  clear hb h0
  have h1 := (S0.out.below B1.out).cEnd
  go_wp2_with fail
  refine (IS.out .End _ B1.out).mono ?_
  rintro e w2 ⟨rfl, hb⟩
  have B2 := hide hb
  clear hb h1
  have h2 := (S0.out.below B2.out).cTag
  go_wp2_with fail
  refine (IS.out .Tag _ B2.out).mono ?_
  rintro e w3 ⟨rfl, hb⟩
  have B3 := hide hb
  clear hb h2
  have h3 := (S0.out.below B3.out).cLength
  go_wp2_with fail
  refine (IS.out .Length _ B3.out).mono ?_
  rintro e w4 ⟨rfl, hb⟩
  have B4 := hide hb
  clear hb h3
  have h4 := (S0.out.below B4.out).cValue
  go_wp2_with fail
  refine (IS.out .Value _ B4.out).mono ?_
  rintro e w5 ⟨rfl, hb⟩
  have B5 := hide hb
  clear hb h4
  have h5 := (S0.out.below B5.out).cMore
  go_wp2_with fail
  refine (IS.out .More _ B5.out).mono ?_
  rintro e w6 ⟨rfl, hb⟩
  have B6 := hide hb
  clear hb h5
  have h6 := (S0.out.below B6.out).cOrder
  go_wp2_with fail
  refine (IS.out .Order _ B6.out).mono ?_
  rintro e w7 ⟨rfl, hb⟩
  have B7 := hide hb
  clear hb h6
  have h7 := (S0.out.below B7.out).cDefault
  go_wp2_with fail
  refine (IS.out .Default _ B7.out).mono ?_
  rintro e w8 ⟨rfl, hb⟩
  have B8 := hide hb
  clear hb h7
  have h8 := (S0.out.below B8.out).cDeep
  go_wp2_with fail
  refine (IS.out .Deep _ B8.out).mono ?_
  rintro e w9 ⟨rfl, hb⟩
  have B9 := hide hb
  clear hb h8
  have h9 := (S0.out.below B9.out).cTree
  go_wp2_with fail
  refine (IS.out .Tree _ B9.out).mono ?_
  rintro e w10 ⟨rfl, hb⟩
  have B10 := hide hb
  clear hb h9
  have h10 := (S0.out.below B10.out).cCard
  go_wp2_with fail
  refine (IS.out .Card _ B10.out).mono ?_
  rintro e w11 ⟨rfl, hb⟩
  have B11 := hide hb
  clear hb h10
  have h11 := (S0.out.below B11.out).cMark
  go_wp2_with fail
  refine (IS.out .Mark _ B11.out).mono ?_
  rintro e w12 ⟨rfl, hb⟩
  have B12 := hide hb
  clear hb h11
  go_wp2_with fail
  go_ret
  exact ⟨rfl, B12.out⟩
end Go.Proofs.YtkkicodfpekbgaaGreatDoor

/-! hallmark.Encode: what it answers: what the document's Encode answers. -/
namespace Go.Proofs.YtkkicodfpekbgaaGreatDoor
set_option linter.unusedSimpArgs false
set_option linter.unusedVariables false
open Go.RowKit

theorem snW_code (k : Int) (h : k = 2 ∨ k = 8 ∨ k = 11) : (snW k).code = k := by
  rcases h with rfl | rfl | rfl <;> rfl

set_option maxHeartbeats 1000000 in
set_option maxRecDepth 100000 in
theorem encode_any (E : WEnv) (s : List Nd) (a : Option Addr) (c : Nat) (root : Int) (t : List Vl) (ta : Option Addr) (tc : Nat) (v : Except Int ByteArray) (w : World) (sn : Sn → Addr) (za : Addr) (hl : Lay w sn) (hz : LayZ w sn za) (hs : Sch w a s) (hok : SchOk s) (hn0 : s.length ≤ 140737488351232) (ht : TreeIn w ta t) (htc : t.length ≤ tc) (hpz : pz t t.length ≤ 16777000) (hkd : ∀ j, j < t.length → (vl t j).kids ≤ 9223372036854775807) (hv : EncV E s root t v) :
    Calls Tryz.prog 22 #[.slice a s.length c, .int .i64 root, .slice ta t.length tc] w fun e w' => RetEnc v w e w' := by
  have HT := hide (bytes_any E s a c root t ta tc v w sn za hl hz hs hok hn0 ht htc hpz hkd hv)
  have HL := hide hl
  have HZ := hide hz
  have HNN : Hid (∀ wq, Calls Tryz.prog 34 #[.nilIface] wq fun e w' => e = .returned (.int .i64 0) ∧ w' = wq) := fun wq => number_nil wq
  clear hl hz hs hok hv ht htc hpz hkd
  go_enter Tryz.func22, Tryz.ntmps22
  go_wp2_with fail
  refine HT.out.mono ?_
  rintro e w1 ⟨hb1, h1⟩
  have HB1 := hide hb1
  clear hb1
  rcases h1 with ⟨b, hvv, rfl⟩ | ⟨p, hvv, rfl⟩ | ⟨hvv, rfl⟩ | ⟨k, q, hvv, hk, rfl⟩
  · have HVV := hide hvv
    clear hvv
    go_wp2_with fail
    refine (HNN.out _).mono ?_
    rintro e w3 ⟨rfl, rfl⟩
    go_wp2
    refine bodyPost_ret (v := .tuple #[.string b, .int .i64 0]) (by simp [results, Tryz.results22, go_sem]) rfl ?_
    rw [HVV.out]
    exact ⟨HB1.out, rfl⟩
  · have HVV := hide hvv
    have HN : Hid (∀ wq, Below w.heap.size w wq → Calls Tryz.prog 34 #[faultV 0 (fault p za)] wq fun e w' => e = .returned (.int .i64 1) ∧ Below w.heap.size w w') := fun wq hq => (number_two 0 p za wq sn (HL.out.below hq).s (HZ.out.below hq)).mono fun e w' h => ⟨h.1, hq.trans (h.2.mono hq.size)⟩
    unfold faultV fault at HN ⊢
    clear hvv
    go_wp2_with fail
    refine (HN.out _ HB1.out).mono ?_
    rintro e w3 ⟨rfl, hb3⟩
    have HB3 := hide hb3
    clear hb3
    go_wp2
    refine bodyPost_ret (v := .tuple #[.string ⟨#[]⟩, .int .i64 1]) (by simp [results, Tryz.results22, go_sem]) rfl ?_
    rw [HVV.out]
    exact ⟨HB3.out, rfl⟩
  · have HVV := hide hvv
    have HN : Hid (∀ wq, Below w.heap.size w wq → Calls Tryz.prog 34 #[fault 0 za] wq fun e w' => e = .returned (.int .i64 1) ∧ Below w.heap.size w w') := fun wq hq => by
      have h := number_at 0 za wq sn (HL.out.below hq).s (HZ.out.below hq).r
      rw [nm_none (fun s q => HZ.out.d s q.symm)] at h
      exact h.mono fun e w' h => ⟨h.1, hq.trans (h.2.mono hq.size)⟩
    unfold fault at HN ⊢
    clear hvv
    go_wp2_with fail
    refine (HN.out _ HB1.out).mono ?_
    rintro e w3 ⟨rfl, hb3⟩
    have HB3 := hide hb3
    clear hb3
    go_wp2
    refine bodyPost_ret (v := .tuple #[.string ⟨#[]⟩, .int .i64 1]) (by simp [results, Tryz.results22, go_sem]) rfl ?_
    rw [HVV.out]
    exact ⟨HB3.out, rfl⟩
  · have HVV := hide hvv
    have HN : Hid (∀ wq, Below w.heap.size w wq → Calls Tryz.prog 34 #[fault q (sn (snW k))] wq fun e w' => e = .returned (.int .i64 k) ∧ Below w.heap.size w w') := fun wq hq => by
      have h := number_sn q (snW k) wq sn (HL.out.below hq).s
      rw [snW_code k hk] at h
      exact h.mono fun e w' h => ⟨h.1, hq.trans (h.2.mono hq.size)⟩
    unfold fault at HN ⊢
    generalize sn (snW k) = ak at HN
    clear hvv hk
    go_wp2_with fail
    refine (HN.out _ HB1.out).mono ?_
    rintro e w3 ⟨rfl, hb3⟩
    have HB3 := hide hb3
    clear hb3
    go_wp2
    refine bodyPost_ret (v := .tuple #[.string ⟨#[]⟩, .int .i64 k]) (by simp [results, Tryz.results22, go_sem]) rfl ?_
    rw [HVV.out]
    exact ⟨HB3.out, rfl⟩
end Go.Proofs.YtkkicodfpekbgaaGreatDoor

/-! hallmarkref.alone: what it answers. -/
namespace Go.Proofs.YtkkicodfpekbgaaGreatDoor
set_option linter.unusedSimpArgs false
set_option linter.unusedVariables false
open Go.RowKit Classical

set_option maxHeartbeats 8000000 in
set_option maxRecDepth 100000 in
theorem alone_any (s : List Nd) (a : Option Addr) (cp : Nat) (n : Nd) (ka : Option Addr) (kc : Nat) (w : World) (hn : s.length ≤ 40) (hka : KidsIn w ka n.kids) (hkm : n.kids.length ≤ maxLen) :
    Calls Tryz.prog 36 #[.slice a s.length cp, nodeV n ka kc] w fun e w' => RetO (Alone s.length n) w e w' := by
  have HM : Hid (∀ (wr : World) (k : Kd), Calls Tryz.prog 66 #[.agg #[.int .i64 k.node, .bool k.opt, .string k.dflt]] wr fun e w' => RetO k.must wr e w') := fun wr k => must_any k wr
  have HKI : Hid (KidsIn w ka n.kids) := hka
  clear hka
  unfold nodeV
  go_enter Tryz.func36, Tryz.ntmps36
  go_upto_region 1 with fail
  go_cut [36] (fun c wx => c = .bool (decide (Bad1 n)) ∧ wx = w.alloc (.cells #[.int .i64 n.kind, .int .i64 n.tag, .int .i64 n.mode, .slice ka n.kids.length kc] 58))
  case first =>
    by_cases h1 : n.kind < 1
    · go_wp2_with fail; go_meet; exact ⟨congrArg Value.bool (decide_eq_true (p := Bad1 n) (by unfold Bad1; omega)).symm, rfl⟩
    have h1' : 1 ≤ n.kind := by omega
    clear h1
    by_cases h2 : 14 < n.kind
    · go_wp2_with fail; go_meet; exact ⟨congrArg Value.bool (decide_eq_true (p := Bad1 n) (by unfold Bad1; omega)).symm, rfl⟩
    have h2' : n.kind ≤ 14 := by omega
    clear h2
    by_cases h3 : n.tag < -1
    · go_wp2_with fail; go_meet; exact ⟨congrArg Value.bool (decide_eq_true (p := Bad1 n) (by unfold Bad1; omega)).symm, rfl⟩
    have h3' : -1 ≤ n.tag := by omega
    clear h3
    by_cases h4 : 30 < n.tag
    · go_wp2_with fail; go_meet; exact ⟨congrArg Value.bool (decide_eq_true (p := Bad1 n) (by unfold Bad1; omega)).symm, rfl⟩
    have h4' : n.tag ≤ 30 := by omega
    clear h4
    by_cases h5 : n.mode = 0
    · have e5 : (n.mode != 0) = false := by simp [h5]
      have Hh5 : Hid (n.mode = 0) := h5
      clear h5
      go_wp2_with fail; go_meet; exact ⟨congrArg Value.bool (by have q := Hh5.out; rw [decide_eq_false (p := Bad1 n) (by unfold Bad1; omega)]; simp; omega), rfl⟩
    have e5 : (n.mode != 0) = true := by simp [h5]
    by_cases h6 : n.mode = 1
    · have e6 : (n.mode != 1) = false := by simp [h6]
      have Hh6 : Hid (n.mode = 1) := h6
      clear h5 h6
      go_wp2_with fail; go_meet; exact ⟨congrArg Value.bool (by have q := Hh6.out; rw [decide_eq_false (p := Bad1 n) (by unfold Bad1; omega)]; simp; omega), rfl⟩
    have e6 : (n.mode != 1) = true := by simp [h6]
    have Hh7 : Hid (n.mode ≠ 0 ∧ n.mode ≠ 1) := ⟨h5, h6⟩
    clear h5 h6
    go_wp2_with fail; go_meet; exact ⟨congrArg Value.bool (decide_eq_true (p := Bad1 n) (by have q_h7 := Hh7.out; unfold Bad1; omega)).symm, rfl⟩
  case rest =>
    obtain ⟨hc1, rfl⟩ := hcut
    by_cases hb1 : Bad1 n
    · rw [decide_eq_true hb1] at hc1
      subst hc1
      have HX : Hid (Bad1 n) := hb1
      clear hb1
      go_wp2
      go_ret
      exact reto_no (fun h => h.1 HX.out) ((Below.refl _ _).alloc (Nat.le_refl _) _)
    rw [decide_eq_false hb1] at hc1
    subst hc1
    have hr : 1 ≤ n.kind ∧ n.kind ≤ 14 ∧ -1 ≤ n.tag ∧ n.tag ≤ 30 ∧ (n.mode = 0 ∨ n.mode = 1) := by unfold Bad1 at hb1; omega
    have HB1 : Hid (¬ Bad1 n) := hb1
    have HR : Hid (1 ≤ n.kind ∧ n.kind ≤ 14 ∧ -1 ≤ n.tag ∧ n.tag ≤ 30 ∧ (n.mode = 0 ∨ n.mode = 1)) := hr
    clear hb1 hr
    go_upto_region 3 with fail
    go_cut [64] (fun c wx => c = .bool (decide (Bad2 n)) ∧ wx = w.alloc (.cells #[.int .i64 n.kind, .int .i64 n.tag, .int .i64 n.mode, .slice ka n.kids.length kc] 58))
    case first =>
      obtain ⟨r1, r2, r3, r4, r5⟩ := HR.out
      have hk : n.kind = 13 ∨ n.kind = 14 ∨ (n.kind ≠ 13 ∧ n.kind ≠ 14) := by omega
      rcases r5 with h5 | h5
      · have e5 : (n.mode == 1) = false := by simp [h5]
        have e5' : (n.mode == 0) = true := by simp [h5]
        have Hh5 : Hid (n.mode = 0) := h5
        clear h5
        by_cases h6 : 0 ≤ n.tag
        · rcases hk with h7 | h7 | h7
          · have e7 : (n.kind == 13) = true := by simp [h7]
            have Hh7 : Hid (n.kind = 13) := h7
            clear h7
            go_wp2_with fail; go_meet; exact ⟨congrArg Value.bool (decide_eq_true (p := Bad2 n) (by have q_h5 := Hh5.out; have q_h7 := Hh7.out; unfold Bad2; omega)).symm, rfl⟩
          · have e7 : (n.kind == 13) = false := by simp [h7]
            have e8 : (n.kind == 14) = true := by simp [h7]
            have Hh7 : Hid (n.kind = 14) := h7
            clear h7
            go_wp2_with fail; go_meet; exact ⟨congrArg Value.bool (decide_eq_true (p := Bad2 n) (by have q_h5 := Hh5.out; have q_h7 := Hh7.out; unfold Bad2; omega)).symm, rfl⟩
          · have e7 : (n.kind == 13) = false := by simp [h7.1]
            have e8 : (n.kind == 14) = false := by simp [h7.2]
            have Hh7 : Hid (n.kind ≠ 13 ∧ n.kind ≠ 14) := h7
            clear h7
            go_wp2_with fail; go_meet; exact ⟨congrArg Value.bool (decide_eq_false (p := Bad2 n) (by have q_h5 := Hh5.out; have q_h7 := Hh7.out; unfold Bad2; omega)).symm, rfl⟩
        · have h6' : n.tag < 0 := by omega
          clear h6
          rcases hk with h7 | h7 | h7
          · have e7 : (n.kind == 13) = true := by simp [h7]
            have Hh7 : Hid (n.kind = 13) := h7
            clear h7
            go_wp2_with fail; go_meet; exact ⟨congrArg Value.bool (decide_eq_false (p := Bad2 n) (by have q_h5 := Hh5.out; have q_h7 := Hh7.out; unfold Bad2; omega)).symm, rfl⟩
          · have e7 : (n.kind == 13) = false := by simp [h7]
            have e8 : (n.kind == 14) = true := by simp [h7]
            have Hh7 : Hid (n.kind = 14) := h7
            clear h7
            go_wp2_with fail; go_meet; exact ⟨congrArg Value.bool (decide_eq_false (p := Bad2 n) (by have q_h5 := Hh5.out; have q_h7 := Hh7.out; unfold Bad2; omega)).symm, rfl⟩
          · have e7 : (n.kind == 13) = false := by simp [h7.1]
            have e8 : (n.kind == 14) = false := by simp [h7.2]
            have Hh7 : Hid (n.kind ≠ 13 ∧ n.kind ≠ 14) := h7
            clear h7
            go_wp2_with fail; go_meet; exact ⟨congrArg Value.bool (decide_eq_false (p := Bad2 n) (by have q_h5 := Hh5.out; have q_h7 := Hh7.out; unfold Bad2; omega)).symm, rfl⟩
      · have e5 : (n.mode == 1) = true := by simp [h5]
        have e5' : (n.mode == 0) = false := by simp [h5]
        have Hh5 : Hid (n.mode = 1) := h5
        clear h5
        by_cases h6 : n.tag = -1
        · have e6 : (n.tag == -1) = true := by simp [h6]
          have Hh6 : Hid (n.tag = -1) := h6
          clear h6
          go_wp2_with fail; go_meet; exact ⟨congrArg Value.bool (decide_eq_true (p := Bad2 n) (by have q_h5 := Hh5.out; have q_h6 := Hh6.out; unfold Bad2; omega)).symm, rfl⟩
        · have e6 : (n.tag == -1) = false := by simp [h6]
          have h6' : 0 ≤ n.tag := by omega
          clear h6
          rcases hk with h7 | h7 | h7
          · have e7 : (n.kind == 13) = true := by simp [h7]
            have Hh7 : Hid (n.kind = 13) := h7
            clear h7
            go_wp2_with fail; go_meet; exact ⟨congrArg Value.bool (decide_eq_false (p := Bad2 n) (by have q_h5 := Hh5.out; have q_h7 := Hh7.out; unfold Bad2; omega)).symm, rfl⟩
          · have e7 : (n.kind == 13) = false := by simp [h7]
            have e8 : (n.kind == 14) = true := by simp [h7]
            have Hh7 : Hid (n.kind = 14) := h7
            clear h7
            go_wp2_with fail; go_meet; exact ⟨congrArg Value.bool (decide_eq_false (p := Bad2 n) (by have q_h5 := Hh5.out; have q_h7 := Hh7.out; unfold Bad2; omega)).symm, rfl⟩
          · have e7 : (n.kind == 13) = false := by simp [h7.1]
            have e8 : (n.kind == 14) = false := by simp [h7.2]
            have Hh7 : Hid (n.kind ≠ 13 ∧ n.kind ≠ 14) := h7
            clear h7
            go_wp2_with fail; go_meet; exact ⟨congrArg Value.bool (decide_eq_false (p := Bad2 n) (by have q_h5 := Hh5.out; have q_h7 := Hh7.out; unfold Bad2; omega)).symm, rfl⟩
    case rest =>
      obtain ⟨hc2, rfl⟩ := hcut
      by_cases hb2 : Bad2 n
      · rw [decide_eq_true hb2] at hc2
        subst hc2
        have HX : Hid (Bad2 n) := hb2
        clear hb2
        go_wp2
        go_ret
        exact reto_no (fun h => h.2.1 HX.out) ((Below.refl _ _).alloc (Nat.le_refl _) _)
      rw [decide_eq_false hb2] at hc2
      subst hc2
      have HB2 : Hid (¬ Bad2 n) := hb2
      clear hb2
      obtain ⟨B, hB⟩ : ∃ B, B = w.heap.size := ⟨_, rfl⟩
      have HW0 : Hid (∀ wr, Below (w.alloc (.cells #[.int .i64 n.kind, .int .i64 n.tag, .int .i64 n.mode, .slice ka n.kids.length kc] 58)).heap.size (w.alloc (.cells #[.int .i64 n.kind, .int .i64 n.tag, .int .i64 n.mode, .slice ka n.kids.length kc] 58)) wr →
          wr.cell? ⟨B, 0, none⟩ = some (.int .i64 n.kind) ∧ wr.cell? ⟨B, 3, none⟩ = some (.slice ka n.kids.length kc) ∧ Below w.heap.size w wr) := fun wr h => by
        have h1 := block_below (heap_alloc_new w _) h
        subst hB
        exact ⟨by simp [World.cell?, h1], by simp [World.cell?, h1], below_alloc h⟩
      generalize (w.alloc (.cells #[.int .i64 n.kind, .int .i64 n.tag, .int .i64 n.mode, .slice ka n.kids.length kc] 58)) = W0 at *
      obtain ⟨c0, c3, bw⟩ := HW0.out W0 (Below.refl _ _)
      have HBW0 : Hid (Below w.heap.size w W0) := bw
      clear bw
      rw [← hB]
      clear hB
      by_cases h10 : n.kind = 10
      · have e10 : (n.kind == 10) = true := by simp [h10]
        by_cases hc : ¬ n.kids.length ≤ 8
        · have HX : Hid (¬ Count n.kind n.kids.length) := by show ¬ Count n.kind n.kids.length; unfold Count; rw [if_pos h10]; exact hc
          have hc' : (8 : Int) < n.kids.length := by omega
          clear hc h10
          go_wp2
          go_ret
          exact reto_no (fun h => HX.out h.2.2.1) HBW0.out
        have hc : n.kids.length ≤ 8 := by omega
        have HC : Hid (Count n.kind n.kids.length) := by show Count n.kind n.kids.length; unfold Count; rw [if_pos h10]; exact hc
        have hkm' : n.kids.length ≤ 8 := by omega
        clear h10
        go_wp2
        go_loopw [6] (fun vi wr => ∃ i : Nat, i ≤ n.kids.length ∧ vi = .int .i64 i ∧ (∀ j, j < i → KidOk s.length n (kd n j)) ∧ Below W0.heap.size W0 wr) (fun vi _ => n.kids.length - (intOf vi).toNat)
        case atStart => exact ⟨0, Nat.zero_le _, rfl, fun _ h => absurd h (Nat.not_lt_zero _), Below.refl _ _⟩
        case round =>
          obtain ⟨i, hi, rfl, hall, hbr⟩ := hrel
          have HA : Hid (∀ j, j < i → KidOk s.length n (kd n j)) := hall
          have HB : Hid (Below W0.heap.size W0 wr) := hbr
          obtain ⟨d0, d3, hbw⟩ := HW0.out wr hbr
          have HBW : Hid (Below w.heap.size w wr) := hbw
          clear hall hbr hbw
          by_cases hlt : i < n.kids.length
          · have hlt' : (i : Int) < n.kids.length := by omega
            obtain ⟨kb, ko, rfl, kcl⟩ := HKI.out i hlt
            obtain ⟨y, hy⟩ : ∃ y, kd n i = y := ⟨_, rfl⟩
            have HY : Hid (kd n i = y) := hy
            have hkc : KidCells w kb (ko + i * 3) y := by rw [← hy]; exact kcl
            obtain ⟨k1, k2, k3⟩ := hkc.below HBW.out
            clear hy kcl hkc
            go_wp2_with fail
            refine (HM.out _ y).mono ?_
            rintro e w1 ⟨r, rfl, hr, hb1⟩
            have HRM : Hid (r = true ↔ y.must) := hr
            have HB1' : Hid (Below W0.heap.size W0 w1) := HB.out.trans ((below_alloc hb1).mono HB.out.size)
            have HYB : Hid (w1.heap[wr.heap.size]? = some (.cells #[.int .i64 y.node, .bool y.opt, .string y.dflt] 55 (0, 0))) := block_below (heap_alloc_new wr _) hb1
            obtain ⟨f0, f3, hbw1⟩ := HW0.out w1 HB1'.out
            have HBW1 : Hid (Below w.heap.size w w1) := hbw1
            have y0 : w1.cell? ⟨wr.heap.size, 0, none⟩ = some (.int .i64 y.node) := by simp [World.cell?, HYB.out]
            have y1 : w1.cell? ⟨wr.heap.size, 1, none⟩ = some (.bool y.opt) := by simp [World.cell?, HYB.out]
            have y2 : w1.cell? ⟨wr.heap.size, 2, none⟩ = some (.string y.dflt) := by simp [World.cell?, HYB.out]
            clear hr hb1 hbw1 d0 d3 k1 k2 k3
            have NO : Hid (¬ KidOk s.length n y → ¬ Alone s.length n) := fun h h' => h (HY.out ▸ h'.2.2.2 i hlt)
            have YES : Hid (KidOk s.length n y → ∀ j, j < i + 1 → KidOk s.length n (kd n j)) := fun h j hj => by
              by_cases e : j = i
              · subst e; rw [HY.out]; exact h
              · exact HA.out j (by omega)
            by_cases q1 : y.node < 0
            · have HX : Hid (¬ KidOk s.length n y) := fun h => by have := h.1; omega
              go_wp2
              go_ret
              exact reto_no (NO.out HX.out) HBW1.out
            have q1' : 0 ≤ y.node := by omega
            by_cases q2 : ¬ y.node < s.length
            · have HX : Hid (¬ KidOk s.length n y) := fun h => q2 h.2.1
              have q2' : (s.length : Int) ≤ y.node := by omega
              clear q1 q2
              go_wp2
              go_ret
              exact reto_no (NO.out HX.out) HBW1.out
            have q2 : y.node < s.length := by omega
            clear q1
            by_cases q3 : ¬ (y.must ∨ n.kind = 10)
            · have HX : Hid (¬ KidOk s.length n y) := fun h => q3 h.2.2.1
              obtain rfl : r = false := by cases r; rfl; exact absurd (.inl (HRM.out.1 rfl)) q3
              have q4 : (n.kind != 10) = true := by simp; exact fun e => q3 (.inr e)
              clear q3
              go_wp2
              go_ret
              exact reto_no (NO.out HX.out) HBW1.out
            have q3 : y.must ∨ n.kind = 10 := Classical.not_not.1 q3
            have HQ3 : Hid (y.must ∨ n.kind = 10) := q3
            have q5 : r = true ∨ (r = false ∧ (n.kind != 10) = false) := by
              cases r
              · right
                refine ⟨rfl, ?_⟩
                rcases q3 with q3 | q3
                · exact Bool.noConfusion (HRM.out.2 q3)
                · simp [q3]
              · exact .inl rfl
            clear q3
            by_cases q6 : y.opt = true
            · by_cases q7 : y.dflt.size = 0
              · have e7 := emp_t q7
                have HX : Hid (KidOk s.length n y) := ⟨q1', q2, HQ3.out, fun h => h.2 q7⟩
                clear q7
                rw [q6] at y1
                clear q6
                rcases q5 with rfl | ⟨rfl, q8⟩
                · go_wp2
                  go_roundw
                  case rel => exact ⟨i + 1, by omega, by go_num, YES.out HX.out, HB1'.out⟩
                  case measure => simp [intOf]; omega
                · go_wp2
                  go_roundw
                  case rel => exact ⟨i + 1, by omega, by go_num, YES.out HX.out, HB1'.out⟩
                  case measure => simp [intOf]; omega
              · have e7 := emp_f (t := y.dflt) (by omega)
                have HX : Hid (¬ KidOk s.length n y) := fun h => h.2.2.2 ⟨q6, q7⟩
                clear q7
                rw [q6] at y1
                clear q6
                rcases q5 with rfl | ⟨rfl, q8⟩
                · go_wp2
                  go_ret
                  exact reto_no (NO.out HX.out) HBW1.out
                · go_wp2
                  go_ret
                  exact reto_no (NO.out HX.out) HBW1.out
            · have q6' : y.opt = false := by simpa using q6
              have HX : Hid (KidOk s.length n y) := ⟨q1', q2, HQ3.out, fun h => q6 h.1⟩
              rw [q6'] at y1
              clear q6 q6'
              rcases q5 with rfl | ⟨rfl, q8⟩
              · go_wp2
                go_roundw
                case rel => exact ⟨i + 1, by omega, by go_num, YES.out HX.out, HB1'.out⟩
                case measure => simp [intOf]; omega
              · go_wp2
                go_roundw
                case rel => exact ⟨i + 1, by omega, by go_num, YES.out HX.out, HB1'.out⟩
                case measure => simp [intOf]; omega
          · have hlt' : (n.kids.length : Int) ≤ i := by omega
            go_wp2
            go_ret
            exact reto_yes ⟨HB1.out, HB2.out, HC.out, fun j h => HA.out j (by omega)⟩ HBW.out
      have e10 : (n.kind == 10) = false := by simp [h10]
      by_cases h11 : n.kind = 11
      · have e11 : (n.kind == 11) = true := by simp [h11]
        by_cases hc : ¬ n.kids.length = 1
        · have HX : Hid (¬ Count n.kind n.kids.length) := by show ¬ Count n.kind n.kids.length; unfold Count; rw [if_neg h10, if_pos (.inl h11)]; exact hc
          have hc' : ((n.kids.length : Int) != 1) = true := by rw [bne_iff_ne]; omega
          clear hc h10 h11
          go_wp2
          go_ret
          exact reto_no (fun h => HX.out h.2.2.1) HBW0.out
        have hc : n.kids.length = 1 := by omega
        have hc' : ((n.kids.length : Int) != 1) = false := by simp [hc]
        have HC : Hid (Count n.kind n.kids.length) := by show Count n.kind n.kids.length; unfold Count; rw [if_neg h10, if_pos (.inl h11)]; exact hc
        have hkm' : n.kids.length ≤ 8 := by omega
        clear h10 h11 hc
        go_wp2
        go_loopw [6] (fun vi wr => ∃ i : Nat, i ≤ n.kids.length ∧ vi = .int .i64 i ∧ (∀ j, j < i → KidOk s.length n (kd n j)) ∧ Below W0.heap.size W0 wr) (fun vi _ => n.kids.length - (intOf vi).toNat)
        case atStart => exact ⟨0, Nat.zero_le _, rfl, fun _ h => absurd h (Nat.not_lt_zero _), Below.refl _ _⟩
        case round =>
          obtain ⟨i, hi, rfl, hall, hbr⟩ := hrel
          have HA : Hid (∀ j, j < i → KidOk s.length n (kd n j)) := hall
          have HB : Hid (Below W0.heap.size W0 wr) := hbr
          obtain ⟨d0, d3, hbw⟩ := HW0.out wr hbr
          have HBW : Hid (Below w.heap.size w wr) := hbw
          clear hall hbr hbw
          by_cases hlt : i < n.kids.length
          · have hlt' : (i : Int) < n.kids.length := by omega
            obtain ⟨kb, ko, rfl, kcl⟩ := HKI.out i hlt
            obtain ⟨y, hy⟩ : ∃ y, kd n i = y := ⟨_, rfl⟩
            have HY : Hid (kd n i = y) := hy
            have hkc : KidCells w kb (ko + i * 3) y := by rw [← hy]; exact kcl
            obtain ⟨k1, k2, k3⟩ := hkc.below HBW.out
            clear hy kcl hkc
            go_wp2_with fail
            refine (HM.out _ y).mono ?_
            rintro e w1 ⟨r, rfl, hr, hb1⟩
            have HRM : Hid (r = true ↔ y.must) := hr
            have HB1' : Hid (Below W0.heap.size W0 w1) := HB.out.trans ((below_alloc hb1).mono HB.out.size)
            have HYB : Hid (w1.heap[wr.heap.size]? = some (.cells #[.int .i64 y.node, .bool y.opt, .string y.dflt] 55 (0, 0))) := block_below (heap_alloc_new wr _) hb1
            obtain ⟨f0, f3, hbw1⟩ := HW0.out w1 HB1'.out
            have HBW1 : Hid (Below w.heap.size w w1) := hbw1
            have y0 : w1.cell? ⟨wr.heap.size, 0, none⟩ = some (.int .i64 y.node) := by simp [World.cell?, HYB.out]
            have y1 : w1.cell? ⟨wr.heap.size, 1, none⟩ = some (.bool y.opt) := by simp [World.cell?, HYB.out]
            have y2 : w1.cell? ⟨wr.heap.size, 2, none⟩ = some (.string y.dflt) := by simp [World.cell?, HYB.out]
            clear hr hb1 hbw1 d0 d3 k1 k2 k3
            have NO : Hid (¬ KidOk s.length n y → ¬ Alone s.length n) := fun h h' => h (HY.out ▸ h'.2.2.2 i hlt)
            have YES : Hid (KidOk s.length n y → ∀ j, j < i + 1 → KidOk s.length n (kd n j)) := fun h j hj => by
              by_cases e : j = i
              · subst e; rw [HY.out]; exact h
              · exact HA.out j (by omega)
            by_cases q1 : y.node < 0
            · have HX : Hid (¬ KidOk s.length n y) := fun h => by have := h.1; omega
              go_wp2
              go_ret
              exact reto_no (NO.out HX.out) HBW1.out
            have q1' : 0 ≤ y.node := by omega
            by_cases q2 : ¬ y.node < s.length
            · have HX : Hid (¬ KidOk s.length n y) := fun h => q2 h.2.1
              have q2' : (s.length : Int) ≤ y.node := by omega
              clear q1 q2
              go_wp2
              go_ret
              exact reto_no (NO.out HX.out) HBW1.out
            have q2 : y.node < s.length := by omega
            clear q1
            by_cases q3 : ¬ (y.must ∨ n.kind = 10)
            · have HX : Hid (¬ KidOk s.length n y) := fun h => q3 h.2.2.1
              obtain rfl : r = false := by cases r; rfl; exact absurd (.inl (HRM.out.1 rfl)) q3
              have q4 : (n.kind != 10) = true := by simp; exact fun e => q3 (.inr e)
              clear q3
              go_wp2
              go_ret
              exact reto_no (NO.out HX.out) HBW1.out
            have q3 : y.must ∨ n.kind = 10 := Classical.not_not.1 q3
            have HQ3 : Hid (y.must ∨ n.kind = 10) := q3
            have q5 : r = true ∨ (r = false ∧ (n.kind != 10) = false) := by
              cases r
              · right
                refine ⟨rfl, ?_⟩
                rcases q3 with q3 | q3
                · exact Bool.noConfusion (HRM.out.2 q3)
                · simp [q3]
              · exact .inl rfl
            clear q3
            by_cases q6 : y.opt = true
            · by_cases q7 : y.dflt.size = 0
              · have e7 := emp_t q7
                have HX : Hid (KidOk s.length n y) := ⟨q1', q2, HQ3.out, fun h => h.2 q7⟩
                clear q7
                rw [q6] at y1
                clear q6
                rcases q5 with rfl | ⟨rfl, q8⟩
                · go_wp2
                  go_roundw
                  case rel => exact ⟨i + 1, by omega, by go_num, YES.out HX.out, HB1'.out⟩
                  case measure => simp [intOf]; omega
                · go_wp2
                  go_roundw
                  case rel => exact ⟨i + 1, by omega, by go_num, YES.out HX.out, HB1'.out⟩
                  case measure => simp [intOf]; omega
              · have e7 := emp_f (t := y.dflt) (by omega)
                have HX : Hid (¬ KidOk s.length n y) := fun h => h.2.2.2 ⟨q6, q7⟩
                clear q7
                rw [q6] at y1
                clear q6
                rcases q5 with rfl | ⟨rfl, q8⟩
                · go_wp2
                  go_ret
                  exact reto_no (NO.out HX.out) HBW1.out
                · go_wp2
                  go_ret
                  exact reto_no (NO.out HX.out) HBW1.out
            · have q6' : y.opt = false := by simpa using q6
              have HX : Hid (KidOk s.length n y) := ⟨q1', q2, HQ3.out, fun h => q6 h.1⟩
              rw [q6'] at y1
              clear q6 q6'
              rcases q5 with rfl | ⟨rfl, q8⟩
              · go_wp2
                go_roundw
                case rel => exact ⟨i + 1, by omega, by go_num, YES.out HX.out, HB1'.out⟩
                case measure => simp [intOf]; omega
              · go_wp2
                go_roundw
                case rel => exact ⟨i + 1, by omega, by go_num, YES.out HX.out, HB1'.out⟩
                case measure => simp [intOf]; omega
          · have hlt' : (n.kids.length : Int) ≤ i := by omega
            go_wp2
            go_ret
            exact reto_yes ⟨HB1.out, HB2.out, HC.out, fun j h => HA.out j (by omega)⟩ HBW.out
      have e11 : (n.kind == 11) = false := by simp [h11]
      by_cases h12 : n.kind = 12
      · have e12 : (n.kind == 12) = true := by simp [h12]
        by_cases hc : ¬ n.kids.length = 1
        · have HX : Hid (¬ Count n.kind n.kids.length) := by show ¬ Count n.kind n.kids.length; unfold Count; rw [if_neg h10, if_pos (.inr h12)]; exact hc
          have hc' : ((n.kids.length : Int) != 1) = true := by rw [bne_iff_ne]; omega
          clear hc h10 h11 h12
          go_wp2
          go_ret
          exact reto_no (fun h => HX.out h.2.2.1) HBW0.out
        have hc : n.kids.length = 1 := by omega
        have hc' : ((n.kids.length : Int) != 1) = false := by simp [hc]
        have HC : Hid (Count n.kind n.kids.length) := by show Count n.kind n.kids.length; unfold Count; rw [if_neg h10, if_pos (.inr h12)]; exact hc
        have hkm' : n.kids.length ≤ 8 := by omega
        clear h10 h11 h12 hc
        go_wp2
        go_loopw [6] (fun vi wr => ∃ i : Nat, i ≤ n.kids.length ∧ vi = .int .i64 i ∧ (∀ j, j < i → KidOk s.length n (kd n j)) ∧ Below W0.heap.size W0 wr) (fun vi _ => n.kids.length - (intOf vi).toNat)
        case atStart => exact ⟨0, Nat.zero_le _, rfl, fun _ h => absurd h (Nat.not_lt_zero _), Below.refl _ _⟩
        case round =>
          obtain ⟨i, hi, rfl, hall, hbr⟩ := hrel
          have HA : Hid (∀ j, j < i → KidOk s.length n (kd n j)) := hall
          have HB : Hid (Below W0.heap.size W0 wr) := hbr
          obtain ⟨d0, d3, hbw⟩ := HW0.out wr hbr
          have HBW : Hid (Below w.heap.size w wr) := hbw
          clear hall hbr hbw
          by_cases hlt : i < n.kids.length
          · have hlt' : (i : Int) < n.kids.length := by omega
            obtain ⟨kb, ko, rfl, kcl⟩ := HKI.out i hlt
            obtain ⟨y, hy⟩ : ∃ y, kd n i = y := ⟨_, rfl⟩
            have HY : Hid (kd n i = y) := hy
            have hkc : KidCells w kb (ko + i * 3) y := by rw [← hy]; exact kcl
            obtain ⟨k1, k2, k3⟩ := hkc.below HBW.out
            clear hy kcl hkc
            go_wp2_with fail
            refine (HM.out _ y).mono ?_
            rintro e w1 ⟨r, rfl, hr, hb1⟩
            have HRM : Hid (r = true ↔ y.must) := hr
            have HB1' : Hid (Below W0.heap.size W0 w1) := HB.out.trans ((below_alloc hb1).mono HB.out.size)
            have HYB : Hid (w1.heap[wr.heap.size]? = some (.cells #[.int .i64 y.node, .bool y.opt, .string y.dflt] 55 (0, 0))) := block_below (heap_alloc_new wr _) hb1
            obtain ⟨f0, f3, hbw1⟩ := HW0.out w1 HB1'.out
            have HBW1 : Hid (Below w.heap.size w w1) := hbw1
            have y0 : w1.cell? ⟨wr.heap.size, 0, none⟩ = some (.int .i64 y.node) := by simp [World.cell?, HYB.out]
            have y1 : w1.cell? ⟨wr.heap.size, 1, none⟩ = some (.bool y.opt) := by simp [World.cell?, HYB.out]
            have y2 : w1.cell? ⟨wr.heap.size, 2, none⟩ = some (.string y.dflt) := by simp [World.cell?, HYB.out]
            clear hr hb1 hbw1 d0 d3 k1 k2 k3
            have NO : Hid (¬ KidOk s.length n y → ¬ Alone s.length n) := fun h h' => h (HY.out ▸ h'.2.2.2 i hlt)
            have YES : Hid (KidOk s.length n y → ∀ j, j < i + 1 → KidOk s.length n (kd n j)) := fun h j hj => by
              by_cases e : j = i
              · subst e; rw [HY.out]; exact h
              · exact HA.out j (by omega)
            by_cases q1 : y.node < 0
            · have HX : Hid (¬ KidOk s.length n y) := fun h => by have := h.1; omega
              go_wp2
              go_ret
              exact reto_no (NO.out HX.out) HBW1.out
            have q1' : 0 ≤ y.node := by omega
            by_cases q2 : ¬ y.node < s.length
            · have HX : Hid (¬ KidOk s.length n y) := fun h => q2 h.2.1
              have q2' : (s.length : Int) ≤ y.node := by omega
              clear q1 q2
              go_wp2
              go_ret
              exact reto_no (NO.out HX.out) HBW1.out
            have q2 : y.node < s.length := by omega
            clear q1
            by_cases q3 : ¬ (y.must ∨ n.kind = 10)
            · have HX : Hid (¬ KidOk s.length n y) := fun h => q3 h.2.2.1
              obtain rfl : r = false := by cases r; rfl; exact absurd (.inl (HRM.out.1 rfl)) q3
              have q4 : (n.kind != 10) = true := by simp; exact fun e => q3 (.inr e)
              clear q3
              go_wp2
              go_ret
              exact reto_no (NO.out HX.out) HBW1.out
            have q3 : y.must ∨ n.kind = 10 := Classical.not_not.1 q3
            have HQ3 : Hid (y.must ∨ n.kind = 10) := q3
            have q5 : r = true ∨ (r = false ∧ (n.kind != 10) = false) := by
              cases r
              · right
                refine ⟨rfl, ?_⟩
                rcases q3 with q3 | q3
                · exact Bool.noConfusion (HRM.out.2 q3)
                · simp [q3]
              · exact .inl rfl
            clear q3
            by_cases q6 : y.opt = true
            · by_cases q7 : y.dflt.size = 0
              · have e7 := emp_t q7
                have HX : Hid (KidOk s.length n y) := ⟨q1', q2, HQ3.out, fun h => h.2 q7⟩
                clear q7
                rw [q6] at y1
                clear q6
                rcases q5 with rfl | ⟨rfl, q8⟩
                · go_wp2
                  go_roundw
                  case rel => exact ⟨i + 1, by omega, by go_num, YES.out HX.out, HB1'.out⟩
                  case measure => simp [intOf]; omega
                · go_wp2
                  go_roundw
                  case rel => exact ⟨i + 1, by omega, by go_num, YES.out HX.out, HB1'.out⟩
                  case measure => simp [intOf]; omega
              · have e7 := emp_f (t := y.dflt) (by omega)
                have HX : Hid (¬ KidOk s.length n y) := fun h => h.2.2.2 ⟨q6, q7⟩
                clear q7
                rw [q6] at y1
                clear q6
                rcases q5 with rfl | ⟨rfl, q8⟩
                · go_wp2
                  go_ret
                  exact reto_no (NO.out HX.out) HBW1.out
                · go_wp2
                  go_ret
                  exact reto_no (NO.out HX.out) HBW1.out
            · have q6' : y.opt = false := by simpa using q6
              have HX : Hid (KidOk s.length n y) := ⟨q1', q2, HQ3.out, fun h => q6 h.1⟩
              rw [q6'] at y1
              clear q6 q6'
              rcases q5 with rfl | ⟨rfl, q8⟩
              · go_wp2
                go_roundw
                case rel => exact ⟨i + 1, by omega, by go_num, YES.out HX.out, HB1'.out⟩
                case measure => simp [intOf]; omega
              · go_wp2
                go_roundw
                case rel => exact ⟨i + 1, by omega, by go_num, YES.out HX.out, HB1'.out⟩
                case measure => simp [intOf]; omega
          · have hlt' : (n.kids.length : Int) ≤ i := by omega
            go_wp2
            go_ret
            exact reto_yes ⟨HB1.out, HB2.out, HC.out, fun j h => HA.out j (by omega)⟩ HBW.out
      have e12 : (n.kind == 12) = false := by simp [h12]
      by_cases h13 : n.kind = 13
      · have e13 : (n.kind == 13) = true := by simp [h13]
        by_cases hc : ¬ 1 ≤ n.kids.length
        · have HX : Hid (¬ Count n.kind n.kids.length) := by show ¬ Count n.kind n.kids.length; unfold Count; rw [if_neg h10, if_neg (by omega), if_pos h13]; omega
          have hc' : (n.kids.length : Int) < 1 := by omega
          clear hc h10 h11 h12 h13
          go_wp2
          go_ret
          exact reto_no (fun h => HX.out h.2.2.1) HBW0.out
        by_cases hc2 : ¬ n.kids.length ≤ 8
        · have HX : Hid (¬ Count n.kind n.kids.length) := by show ¬ Count n.kind n.kids.length; unfold Count; rw [if_neg h10, if_neg (by omega), if_pos h13]; omega
          have hc' : (8 : Int) < n.kids.length := by omega
          clear hc2 h10 h11 h12 h13
          go_wp2
          go_ret
          exact reto_no (fun h => HX.out h.2.2.1) HBW0.out
        have hc : 1 ≤ n.kids.length := by omega
        have hc2 : n.kids.length ≤ 8 := by omega
        have HC : Hid (Count n.kind n.kids.length) := by show Count n.kind n.kids.length; unfold Count; rw [if_neg h10, if_neg (by omega), if_pos h13]; omega
        have hkm' : n.kids.length ≤ 8 := by omega
        clear h10 h11 h12 h13
        go_wp2
        go_loopw [6] (fun vi wr => ∃ i : Nat, i ≤ n.kids.length ∧ vi = .int .i64 i ∧ (∀ j, j < i → KidOk s.length n (kd n j)) ∧ Below W0.heap.size W0 wr) (fun vi _ => n.kids.length - (intOf vi).toNat)
        case atStart => exact ⟨0, Nat.zero_le _, rfl, fun _ h => absurd h (Nat.not_lt_zero _), Below.refl _ _⟩
        case round =>
          obtain ⟨i, hi, rfl, hall, hbr⟩ := hrel
          have HA : Hid (∀ j, j < i → KidOk s.length n (kd n j)) := hall
          have HB : Hid (Below W0.heap.size W0 wr) := hbr
          obtain ⟨d0, d3, hbw⟩ := HW0.out wr hbr
          have HBW : Hid (Below w.heap.size w wr) := hbw
          clear hall hbr hbw
          by_cases hlt : i < n.kids.length
          · have hlt' : (i : Int) < n.kids.length := by omega
            obtain ⟨kb, ko, rfl, kcl⟩ := HKI.out i hlt
            obtain ⟨y, hy⟩ : ∃ y, kd n i = y := ⟨_, rfl⟩
            have HY : Hid (kd n i = y) := hy
            have hkc : KidCells w kb (ko + i * 3) y := by rw [← hy]; exact kcl
            obtain ⟨k1, k2, k3⟩ := hkc.below HBW.out
            clear hy kcl hkc
            go_wp2_with fail
            refine (HM.out _ y).mono ?_
            rintro e w1 ⟨r, rfl, hr, hb1⟩
            have HRM : Hid (r = true ↔ y.must) := hr
            have HB1' : Hid (Below W0.heap.size W0 w1) := HB.out.trans ((below_alloc hb1).mono HB.out.size)
            have HYB : Hid (w1.heap[wr.heap.size]? = some (.cells #[.int .i64 y.node, .bool y.opt, .string y.dflt] 55 (0, 0))) := block_below (heap_alloc_new wr _) hb1
            obtain ⟨f0, f3, hbw1⟩ := HW0.out w1 HB1'.out
            have HBW1 : Hid (Below w.heap.size w w1) := hbw1
            have y0 : w1.cell? ⟨wr.heap.size, 0, none⟩ = some (.int .i64 y.node) := by simp [World.cell?, HYB.out]
            have y1 : w1.cell? ⟨wr.heap.size, 1, none⟩ = some (.bool y.opt) := by simp [World.cell?, HYB.out]
            have y2 : w1.cell? ⟨wr.heap.size, 2, none⟩ = some (.string y.dflt) := by simp [World.cell?, HYB.out]
            clear hr hb1 hbw1 d0 d3 k1 k2 k3
            have NO : Hid (¬ KidOk s.length n y → ¬ Alone s.length n) := fun h h' => h (HY.out ▸ h'.2.2.2 i hlt)
            have YES : Hid (KidOk s.length n y → ∀ j, j < i + 1 → KidOk s.length n (kd n j)) := fun h j hj => by
              by_cases e : j = i
              · subst e; rw [HY.out]; exact h
              · exact HA.out j (by omega)
            by_cases q1 : y.node < 0
            · have HX : Hid (¬ KidOk s.length n y) := fun h => by have := h.1; omega
              go_wp2
              go_ret
              exact reto_no (NO.out HX.out) HBW1.out
            have q1' : 0 ≤ y.node := by omega
            by_cases q2 : ¬ y.node < s.length
            · have HX : Hid (¬ KidOk s.length n y) := fun h => q2 h.2.1
              have q2' : (s.length : Int) ≤ y.node := by omega
              clear q1 q2
              go_wp2
              go_ret
              exact reto_no (NO.out HX.out) HBW1.out
            have q2 : y.node < s.length := by omega
            clear q1
            by_cases q3 : ¬ (y.must ∨ n.kind = 10)
            · have HX : Hid (¬ KidOk s.length n y) := fun h => q3 h.2.2.1
              obtain rfl : r = false := by cases r; rfl; exact absurd (.inl (HRM.out.1 rfl)) q3
              have q4 : (n.kind != 10) = true := by simp; exact fun e => q3 (.inr e)
              clear q3
              go_wp2
              go_ret
              exact reto_no (NO.out HX.out) HBW1.out
            have q3 : y.must ∨ n.kind = 10 := Classical.not_not.1 q3
            have HQ3 : Hid (y.must ∨ n.kind = 10) := q3
            have q5 : r = true ∨ (r = false ∧ (n.kind != 10) = false) := by
              cases r
              · right
                refine ⟨rfl, ?_⟩
                rcases q3 with q3 | q3
                · exact Bool.noConfusion (HRM.out.2 q3)
                · simp [q3]
              · exact .inl rfl
            clear q3
            by_cases q6 : y.opt = true
            · by_cases q7 : y.dflt.size = 0
              · have e7 := emp_t q7
                have HX : Hid (KidOk s.length n y) := ⟨q1', q2, HQ3.out, fun h => h.2 q7⟩
                clear q7
                rw [q6] at y1
                clear q6
                rcases q5 with rfl | ⟨rfl, q8⟩
                · go_wp2
                  go_roundw
                  case rel => exact ⟨i + 1, by omega, by go_num, YES.out HX.out, HB1'.out⟩
                  case measure => simp [intOf]; omega
                · go_wp2
                  go_roundw
                  case rel => exact ⟨i + 1, by omega, by go_num, YES.out HX.out, HB1'.out⟩
                  case measure => simp [intOf]; omega
              · have e7 := emp_f (t := y.dflt) (by omega)
                have HX : Hid (¬ KidOk s.length n y) := fun h => h.2.2.2 ⟨q6, q7⟩
                clear q7
                rw [q6] at y1
                clear q6
                rcases q5 with rfl | ⟨rfl, q8⟩
                · go_wp2
                  go_ret
                  exact reto_no (NO.out HX.out) HBW1.out
                · go_wp2
                  go_ret
                  exact reto_no (NO.out HX.out) HBW1.out
            · have q6' : y.opt = false := by simpa using q6
              have HX : Hid (KidOk s.length n y) := ⟨q1', q2, HQ3.out, fun h => q6 h.1⟩
              rw [q6'] at y1
              clear q6 q6'
              rcases q5 with rfl | ⟨rfl, q8⟩
              · go_wp2
                go_roundw
                case rel => exact ⟨i + 1, by omega, by go_num, YES.out HX.out, HB1'.out⟩
                case measure => simp [intOf]; omega
              · go_wp2
                go_roundw
                case rel => exact ⟨i + 1, by omega, by go_num, YES.out HX.out, HB1'.out⟩
                case measure => simp [intOf]; omega
          · have hlt' : (n.kids.length : Int) ≤ i := by omega
            go_wp2
            go_ret
            exact reto_yes ⟨HB1.out, HB2.out, HC.out, fun j h => HA.out j (by omega)⟩ HBW.out
      have e13 : (n.kind == 13) = false := by simp [h13]
      by_cases hc : ¬ n.kids.length = 0
      · have HX : Hid (¬ Count n.kind n.kids.length) := by show ¬ Count n.kind n.kids.length; unfold Count; rw [if_neg h10, if_neg (by omega), if_neg h13]; exact hc
        have hc' : ((n.kids.length : Int) != 0) = true := by rw [bne_iff_ne]; omega
        clear hc h10 h11 h12 h13
        go_wp2
        go_ret
        exact reto_no (fun h => HX.out h.2.2.1) HBW0.out
      have hc : n.kids.length = 0 := by omega
      have HC : Hid (Count n.kind n.kids.length) := by show Count n.kind n.kids.length; unfold Count; rw [if_neg h10, if_neg (by omega), if_neg h13]; exact hc
      have hc' : ((n.kids.length : Int) != 0) = false := by simp [hc]
      have hl' : (n.kids.length : Int) ≤ 0 := by omega
      have HZ : Hid (n.kids.length = 0) := hc
      clear h10 h11 h12 h13 hc
      go_wp2
      refine wp_loop_rounds 1 ?_
      rw [rounds_succ]
      go_wp2
      go_ret
      exact reto_yes ⟨HB1.out, HB2.out, HC.out, fun j h => absurd h (by have := HZ.out; omega)⟩ HBW0.out
end Go.Proofs.YtkkicodfpekbgaaGreatDoor
