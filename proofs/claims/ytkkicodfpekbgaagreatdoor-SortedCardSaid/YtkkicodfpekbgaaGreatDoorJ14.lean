/-
  Several texts in one:
  The program's writer: own (written by gen_yh.py).
  The program's writer: value.
  encode.Bytes: what it answers.
  hallmark.Encode: what it answers: what the document's Encode answers.
  hallmarkkeep.Sorted: it answers true.
-/
import Derived.Test.YtkkicodfpekbgaaGreatDoorJ13
import Derived.Test.YtkkicodfpekbgaaGreatDoorJ5
import Derived.Deep.DeepCutAuto
import Derived.Test.YtkkicodfpekbgaaGreatDoorJYo
import Derived.Test.YtkkicodfpekbgaaGreatDoorJ9
import Derived.Test.YtkkicodfpekbgaaGreatDoorJ10
import Derived.Test.YtkkicodfpekbgaaGreatDoorJ11
import Derived.Lib.OwnKind
import Derived.Deep.AppendLies
/-! The program's writer: own (written by gen_yh.py). -/
namespace Go.Proofs.YtkkicodfpekbgaaGreatDoor
set_option linter.unusedSimpArgs false
set_option linter.unusedVariables false
open Go.RowKit

theorem EwD.bel' {W w : World} {R : Nat} {a : Option Addr} {n c : Nat} {ta : Option Addr} {tn tc x : Nat} {told : ByteArray} {lg : Bool} {ov : Value} (h : EwD W w R a n c ta tn tc x told lg ov) {w' : World} (hb : Below w.heap.size w w') : EwD W w' R a n c ta tn tc x told lg ov := h.below hb

set_option maxHeartbeats 8000000 in
set_option maxRecDepth 100000 in
theorem own14_e (E : WEnv) (W : World) (R : Nat) (a : Option Addr) (c : Nat) (ta : Option Addr) (tc f : Nat) (sn : Sn → Addr) (hc : EC E W a ta sn) (htc : E.t.length ≤ tc) (hN : NodeE E W R a c ta tc sn f) (hf1 : 1 ≤ f) (i : Nat) (hi : i < E.s.length) (ka : Option Addr) (kc : Nat) (hka : KidsIn W ka (nd E.s i).kids) (hkc : (nd E.s i).kids.length ≤ kc) (hkm : kc ≤ maxLen)
    (x : Nat) (dp : Int) (r : WOut) (t0 : ByteArray) (l0 : Bool) (o0 : Option Int) (w : World) (hfit : FitP (nd E.s i) (vl E.t x)) (e : wbareF E (wrF E f) f (nd E.s i) (wcl (nd E.s i)) (wnu (nd E.s i)) (vl E.t x) (x + 1) dp = some r) (hx : x < E.t.length) (hfx : E.t.length + 1 ≤ f + (x + 1)) (hd1 : 1 ≤ dp) (hd2 : dp ≤ 12) (h4 : t0.size ≤ 4000) (hI : EwD W w R a E.s.length c ta E.t.length tc (x + 1) t0 l0 (ovV sn o0)) (hk : (nd E.s i).kind = 14) :
    Calls Tryz.prog 111 #[.pointer (some ⟨R, 0, none⟩), .agg #[.int .i64 (nd E.s i).kind, .int .i64 (nd E.s i).tag, .int .i64 (nd E.s i).mode, .slice ka (nd E.s i).kids.length kc], .agg #[.int .i64 (vl E.t x).kind, .string (vl E.t x).text, .int .i64 (vl E.t x).alt, .int .i64 (vl E.t x).kids], .int .i64 dp] w fun e w' => AfterE E W R a c ta tc sn r t0 l0 o0 w e w' := by
  have HC := hide hc
  have HI := hide hI
  have htx := hc.txt hx
  have hwnb := wnu_bd hc.wc.right hi
  obtain ⟨hk1, hk14, hT1, hT2, hT3, hT4, hT5⟩ := tagged_of hc.wc.right hi
  have hnums := hc.lay.n
  obtain ⟨bs, cp, hform⟩ : ∃ bs cp, ∃ tvx, tvx = Value.slice bs t0.size cp ∧ w.heap[R]? = some (ewObj a E.s.length c ta E.t.length tc (x + 1) tvx l0 (ovV sn o0)) := by
    obtain ⟨tv, h1, h2⟩ := hI.own
    obtain ⟨bs, cp, rfl, _⟩ := own8 h2
    exact ⟨bs, cp, _, rfl, h1⟩
  obtain ⟨_, rfl, hown⟩ := hform
  have hRl : R < w.heap.size := row_lt hown
  have HX : Hid (r = some ((vl E.t x).text, x + 1, false)) := by
    have h := e
    unfold wbareF at h
    rw [if_neg (by omega), if_pos hk, if_pos ((fit14 hk hfit.1).1 hfit)] at h
    injection h with h
    exact h.symm
  rw [hk]
  obtain ⟨K, hK⟩ : ∃ K : Int, K = 14 := ⟨_, rfl⟩
  generalize hTG : (nd E.s i).tag = TG
  generalize hMD : (nd E.s i).mode = MD
  generalize hKL : (nd E.s i).kids.length = KL
  generalize hVK : (vl E.t x).kind = VK
  generalize hVT : (vl E.t x).text = VT at HX htx ⊢
  generalize hVA : (vl E.t x).alt = VA
  generalize hVD : (vl E.t x).kids = VD
  have HIN : Hid (∀ wq, EwD W wq R a E.s.length c ta E.t.length tc (x + 1) t0 l0 (ovV sn o0) → Calls Tryz.prog 149 #[.pointer (some ⟨R, 0, none⟩), .int .i64 t0.size, .string VT] wq fun e w' => AfterI W R a E.s.length c ta E.t.length tc (x + 1) t0 l0 (ovV sn o0) t0.size VT wq e w') := fun wq q => insert_any W wq R a E.s.length c ta E.t.length tc (x + 1) t0 l0 (ovV sn o0) t0.size VT (Nat.le_refl _) h4 (by omega) q
  have hB1 : Below w.heap.size w ((w.alloc (.cells #[.int .i64 14, .int .i64 TG, .int .i64 MD, .slice ka KL kc] 58)).alloc (.cells #[.int .i64 VK, .string VT, .int .i64 VA, .int .i64 VD] 60)) := ((Below.refl w.heap.size w).alloc (Nat.le_refl _) _).alloc (by simp) _
  have hG1 : ((w.alloc (.cells #[.int .i64 14, .int .i64 TG, .int .i64 MD, .slice ka KL kc] 58)).alloc (.cells #[.int .i64 VK, .string VT, .int .i64 VA, .int .i64 VD] 60)).heap[w.heap.size]? = some (.cells #[.int .i64 14, .int .i64 TG, .int .i64 MD, .slice ka KL kc] 58 (0, 0)) := block_below (heap_alloc_new w _) ((Below.refl _ _).alloc (Nat.le_refl _) _)
  have hG2 : ((w.alloc (.cells #[.int .i64 14, .int .i64 TG, .int .i64 MD, .slice ka KL kc] 58)).alloc (.cells #[.int .i64 VK, .string VT, .int .i64 VA, .int .i64 VD] 60)).heap[w.heap.size + 1]? = some (.cells #[.int .i64 VK, .string VT, .int .i64 VA, .int .i64 VD] 60 (0, 0)) := by simpa using heap_alloc_new (w.alloc (.cells #[.int .i64 14, .int .i64 TG, .int .i64 MD, .slice ka KL kc] 58)) (.cells #[.int .i64 VK, .string VT, .int .i64 VA, .int .i64 VD] 60)
  have hg3 := block_below hown hB1
  unfold ewObj at hg3
  have c3 : ((w.alloc (.cells #[.int .i64 14, .int .i64 TG, .int .i64 MD, .slice ka KL kc] 58)).alloc (.cells #[.int .i64 VK, .string VT, .int .i64 VA, .int .i64 VD] 60)).cell? ⟨R, 3, none⟩ = some (.slice bs t0.size cp) := by simp [World.cell?, hg3]
  clear hown hg3
  clear hc hI e hfit hwnb hT1 hT2 hT3 hT4 hT5 hnums hTG hMD hKL hVK hVT hVA hVD hk hk1 hk14 hK hka hN
  go_enter Tryz.func111, Tryz.ntmps111
  go_upto_region 1 with fail
  obtain ⟨nb, hnb⟩ : ∃ nb, w.heap.size = nb := ⟨_, rfl⟩
  obtain ⟨vb, hvb⟩ : ∃ vb, w.heap.size + 1 = vb := ⟨_, rfl⟩
  rw [hvb] at hG2 ⊢
  rw [hnb] at hG1 ⊢
  generalize (w.alloc (.cells #[.int .i64 14, .int .i64 TG, .int .i64 MD, .slice ka KL kc] 58)).alloc (.cells #[.int .i64 VK, .string VT, .int .i64 VA, .int .i64 VD] 60) = w1 at hB1 hG1 hG2 c3 ⊢
  have hneN : nb ≠ R := by omega
  have HB1 := hide hB1
  have HG1 := hide hG1
  have HI1 := hide (HI.out.below hB1)
  have v1 : w1.cell? ⟨vb, 1, none⟩ = some (.string VT) := cell_of_row hG2 rfl
  have v3 : w1.cell? ⟨vb, 3, none⟩ = some (.int .i64 VD) := cell_of_row hG2 rfl
  have k0 : w1.cell? ⟨nb, 0, none⟩ = some (.int .i64 14) := cell_of_row hG1 rfl
  have k1 : w1.cell? ⟨nb, 1, none⟩ = some (.int .i64 TG) := cell_of_row hG1 rfl
  have k2 : w1.cell? ⟨nb, 2, none⟩ = some (.int .i64 MD) := cell_of_row hG1 rfl
  have k3 : w1.cell? ⟨nb, 3, none⟩ = some (.slice ka KL kc) := cell_of_row hG1 rfl
  have hR1 : R < w1.heap.size := lt_of_cell c3
  have hlv := row_lt hG2
  have hln := row_lt hG1
  clear hB1 hG1 hG2 hnb hvb
  go_wp2_with fail
  refine (HIN.out _ HI1.out).mono ?_
  rintro e w2 ⟨rfl, hF2, t2, l2, hi2, hE2⟩
  have HF2 := hide hF2
  have HI2 := hide hi2
  have HE2 := hide hE2
  clear hF2 hi2 hE2
  go_wp2
  go_ret
  exact ⟨(FrE.of_below HB1.out).trans HF2.out.fr, .inl ⟨_, _, _, t2, l2, _, HX.out, rfl, Tld.ofIns h4 HI2.out, HE2.out⟩⟩

set_option maxHeartbeats 8000000 in
set_option maxRecDepth 100000 in
theorem own9_e (E : WEnv) (W : World) (R : Nat) (a : Option Addr) (c : Nat) (ta : Option Addr) (tc f : Nat) (sn : Sn → Addr) (hc : EC E W a ta sn) (htc : E.t.length ≤ tc) (hN : NodeE E W R a c ta tc sn f) (hf1 : 1 ≤ f) (i : Nat) (hi : i < E.s.length) (ka : Option Addr) (kc : Nat) (hka : KidsIn W ka (nd E.s i).kids) (hkc : (nd E.s i).kids.length ≤ kc) (hkm : kc ≤ maxLen)
    (x : Nat) (dp : Int) (r : WOut) (t0 : ByteArray) (l0 : Bool) (o0 : Option Int) (w : World) (hfit : FitP (nd E.s i) (vl E.t x)) (e : wbareF E (wrF E f) f (nd E.s i) (wcl (nd E.s i)) (wnu (nd E.s i)) (vl E.t x) (x + 1) dp = some r) (hx : x < E.t.length) (hfx : E.t.length + 1 ≤ f + (x + 1)) (hd1 : 1 ≤ dp) (hd2 : dp ≤ 12) (h4 : t0.size ≤ 4000) (hI : EwD W w R a E.s.length c ta E.t.length tc (x + 1) t0 l0 (ovV sn o0)) (hk : (nd E.s i).kind ≤ 9) :
    Calls Tryz.prog 111 #[.pointer (some ⟨R, 0, none⟩), .agg #[.int .i64 (nd E.s i).kind, .int .i64 (nd E.s i).tag, .int .i64 (nd E.s i).mode, .slice ka (nd E.s i).kids.length kc], .agg #[.int .i64 (vl E.t x).kind, .string (vl E.t x).text, .int .i64 (vl E.t x).alt, .int .i64 (vl E.t x).kids], .int .i64 dp] w fun e w' => AfterE E W R a c ta tc sn r t0 l0 o0 w e w' := by
  have HC := hide hc
  have HI := hide hI
  have htx := hc.txt hx
  have hwnb := wnu_bd hc.wc.right hi
  have hcn := wnu_own (n := nd E.s i) (by omega)
  obtain ⟨hk1, hk14, hT1, hT2, hT3, hT4, hT5⟩ := tagged_of hc.wc.right hi
  have hnums := hc.lay.n
  obtain ⟨bs, cp, hform⟩ : ∃ bs cp, ∃ tvx, tvx = Value.slice bs t0.size cp ∧ w.heap[R]? = some (ewObj a E.s.length c ta E.t.length tc (x + 1) tvx l0 (ovV sn o0)) := by
    obtain ⟨tv, h1, h2⟩ := hI.own
    obtain ⟨bs, cp, rfl, _⟩ := own8 h2
    exact ⟨bs, cp, _, rfl, h1⟩
  obtain ⟨_, rfl, hown⟩ := hform
  have hRl : R < w.heap.size := row_lt hown
  have HX : Hid (r = some (elB (wcl (nd E.s i)) false (wnu (nd E.s i)) (vl E.t x).text, x + 1, false)) := by
    have h := e
    have hf := (fit9 (.inl (by omega)) hfit.1).1 hfit
    unfold wbareF at h
    rw [if_neg (by omega), if_neg (by omega), if_neg (by omega), if_neg (by omega), if_pos ⟨(hc.wc.ok _ _).2 hf.1, hf.2⟩] at h
    injection h with h
    exact h.symm
  obtain ⟨CL, hCL⟩ : ∃ CL, wcl (nd E.s i) = CL := ⟨_, rfl⟩
  obtain ⟨NU, hNU⟩ : ∃ NU, wnu (nd E.s i) = NU := ⟨_, rfl⟩
  rw [hCL, hNU] at hcn hwnb HX
  obtain ⟨K, hK⟩ : ∃ K, (nd E.s i).kind = K := ⟨_, rfl⟩
  rw [hK] at hk ⊢
  obtain ⟨BT, hBT⟩ : ∃ BT : Bool, BT = false := ⟨_, rfl⟩
  replace HX : Hid (r = some (elB CL BT NU (vl E.t x).text, x + 1, false)) := by rw [hBT]; exact HX.out
  generalize hTG : (nd E.s i).tag = TG
  generalize hMD : (nd E.s i).mode = MD
  generalize hKL : (nd E.s i).kids.length = KL
  generalize hVK : (vl E.t x).kind = VK
  generalize hVT : (vl E.t x).text = VT at HX htx ⊢
  generalize hVA : (vl E.t x).alt = VA
  generalize hVD : (vl E.t x).kids = VD
  have HIN : Hid (∀ wq, EwD W wq R a E.s.length c ta E.t.length tc (x + 1) t0 l0 (ovV sn o0) → Calls Tryz.prog 149 #[.pointer (some ⟨R, 0, none⟩), .int .i64 t0.size, .string VT] wq fun e w' => AfterI W R a E.s.length c ta E.t.length tc (x + 1) t0 l0 (ovV sn o0) t0.size VT wq e w') := fun wq q => insert_any W wq R a E.s.length c ta E.t.length tc (x + 1) t0 l0 (ovV sn o0) t0.size VT (Nat.le_refl _) h4 (by omega) q
  have HOW : Hid (∀ wq, Below W.heap.size W wq → Calls Tryz.prog 152 #[.agg #[.int .i64 K, .int .i64 TG, .int .i64 MD, .slice ka KL kc]] wq fun e w' => e = .returned (.agg #[.int .i64 CL, .int .i64 NU, .bool BT]) ∧ Below wq.heap.size wq w') := fun wq q => by
    have := own_all (nd E.s i) ka kc wq (HC.out.lay.below q).n (by omega) (by omega) (by omega)
    unfold fv at this
    rw [← hcn, hTG, hMD, hKL] at this
    rw [hK, decide_eq_false (by omega), ← hBT] at this
    exact this
  have HWR : Hid (∀ wq t1 l1 o1 x1, EwD W wq R a E.s.length c ta E.t.length tc x1 t1 l1 (ovV sn o1) → t0.size ≤ t1.size → t1.size ≤ 4000 → Calls Tryz.prog 113 #[.pointer (some ⟨R, 0, none⟩), .int .i64 t0.size, .agg #[.int .i64 CL, .int .i64 NU, .bool BT]] wq fun e w' => AfterI W R a E.s.length c ta E.t.length tc x1 t1 l1 (ovV sn o1) t0.size (hdB CL BT NU (t1.size - t0.size)) wq e w') := fun wq t1 l1 o1 x1 q h1 h2 => wrap_any W wq R a E.s.length c ta E.t.length tc x1 t1 l1 (ovV sn o1) sn HC.out.lay t0.size CL NU BT hwnb.1 hwnb.2.1 hwnb.2.2.1 hwnb.2.2.2 h1 h2 q
  have hB1 : Below w.heap.size w ((w.alloc (.cells #[.int .i64 K, .int .i64 TG, .int .i64 MD, .slice ka KL kc] 58)).alloc (.cells #[.int .i64 VK, .string VT, .int .i64 VA, .int .i64 VD] 60)) := ((Below.refl w.heap.size w).alloc (Nat.le_refl _) _).alloc (by simp) _
  have hG1 : ((w.alloc (.cells #[.int .i64 K, .int .i64 TG, .int .i64 MD, .slice ka KL kc] 58)).alloc (.cells #[.int .i64 VK, .string VT, .int .i64 VA, .int .i64 VD] 60)).heap[w.heap.size]? = some (.cells #[.int .i64 K, .int .i64 TG, .int .i64 MD, .slice ka KL kc] 58 (0, 0)) := block_below (heap_alloc_new w _) ((Below.refl _ _).alloc (Nat.le_refl _) _)
  have hG2 : ((w.alloc (.cells #[.int .i64 K, .int .i64 TG, .int .i64 MD, .slice ka KL kc] 58)).alloc (.cells #[.int .i64 VK, .string VT, .int .i64 VA, .int .i64 VD] 60)).heap[w.heap.size + 1]? = some (.cells #[.int .i64 VK, .string VT, .int .i64 VA, .int .i64 VD] 60 (0, 0)) := by simpa using heap_alloc_new (w.alloc (.cells #[.int .i64 K, .int .i64 TG, .int .i64 MD, .slice ka KL kc] 58)) (.cells #[.int .i64 VK, .string VT, .int .i64 VA, .int .i64 VD] 60)
  have hg3 := block_below hown hB1
  unfold ewObj at hg3
  have c3 : ((w.alloc (.cells #[.int .i64 K, .int .i64 TG, .int .i64 MD, .slice ka KL kc] 58)).alloc (.cells #[.int .i64 VK, .string VT, .int .i64 VA, .int .i64 VD] 60)).cell? ⟨R, 3, none⟩ = some (.slice bs t0.size cp) := by simp [World.cell?, hg3]
  clear hown hg3
  have b14 : (K == 14) = false := by simp; omega
  have b10 : (K == 10) = false := by simp; omega
  have b11 : (K == 11) = false := by simp; omega
  have b12 : (K == 12) = false := by simp; omega
  clear hc hI e hfit hcn hwnb hT1 hT2 hT3 hT4 hT5 hnums hTG hMD hKL hVK hVT hVA hVD hk hk1 hk14 hK hka hN hBT hCL hNU
  go_enter Tryz.func111, Tryz.ntmps111
  go_upto_region 1 with fail
  obtain ⟨nb, hnb⟩ : ∃ nb, w.heap.size = nb := ⟨_, rfl⟩
  obtain ⟨vb, hvb⟩ : ∃ vb, w.heap.size + 1 = vb := ⟨_, rfl⟩
  rw [hvb] at hG2 ⊢
  rw [hnb] at hG1 ⊢
  generalize (w.alloc (.cells #[.int .i64 K, .int .i64 TG, .int .i64 MD, .slice ka KL kc] 58)).alloc (.cells #[.int .i64 VK, .string VT, .int .i64 VA, .int .i64 VD] 60) = w1 at hB1 hG1 hG2 c3 ⊢
  have hneN : nb ≠ R := by omega
  have HB1 := hide hB1
  have HG1 := hide hG1
  have HI1 := hide (HI.out.below hB1)
  have v1 : w1.cell? ⟨vb, 1, none⟩ = some (.string VT) := cell_of_row hG2 rfl
  have v3 : w1.cell? ⟨vb, 3, none⟩ = some (.int .i64 VD) := cell_of_row hG2 rfl
  have k0 : w1.cell? ⟨nb, 0, none⟩ = some (.int .i64 K) := cell_of_row hG1 rfl
  have k1 : w1.cell? ⟨nb, 1, none⟩ = some (.int .i64 TG) := cell_of_row hG1 rfl
  have k2 : w1.cell? ⟨nb, 2, none⟩ = some (.int .i64 MD) := cell_of_row hG1 rfl
  have k3 : w1.cell? ⟨nb, 3, none⟩ = some (.slice ka KL kc) := cell_of_row hG1 rfl
  have hR1 : R < w1.heap.size := lt_of_cell c3
  have hlv := row_lt hG2
  have hln := row_lt hG1
  clear hB1 hG1 hG2 hnb hvb
  go_wp2_with fail
  refine (HIN.out _ HI1.out).mono ?_
  rintro e w2 ⟨rfl, hF2, t2, l2, hi2, hE2⟩
  have HF2 : Hid (FrE R w1 w2) := hF2.fr
  have HT2 : Hid (Tld t0 l0 o0 VT false t2 l2 o0) := Tld.ofIns h4 hi2
  have HE2 := hide hE2
  clear hF2 hi2 hE2 k0 k1 k2 k3 v1 v3 c3 hln
  have kn := HF2.out _ _ _ hneN (by decide) HG1.out
  have q0 : w2.cell? ⟨nb, 0, none⟩ = some (.int .i64 K) := cell_of_row kn rfl
  have q1 : w2.cell? ⟨nb, 1, none⟩ = some (.int .i64 TG) := cell_of_row kn rfl
  have q2 : w2.cell? ⟨nb, 2, none⟩ = some (.int .i64 MD) := cell_of_row kn rfl
  have q3 : w2.cell? ⟨nb, 3, none⟩ = some (.slice ka KL kc) := cell_of_row kn rfl
  have hlq := row_lt kn
  clear kn
  go_wp2_with fail
  refine (HOW.out _ HE2.out.bel).mono ?_
  rintro e w8 ⟨rfl, hb8⟩
  have HB8 := hide hb8
  clear hb8
  go_wp2_with fail
  refine (HWR.out _ _ _ _ _ (HE2.out.below HB8.out) HT2.out.le HT2.out.mx).mono ?_
  rintro e w9 ⟨rfl, hF9, t9, l9, hi9, hE9⟩
  have HF9 := hide hF9
  have HI9 := hide hi9
  have HE9 := hide hE9
  clear hF9 hi9 hE9
  go_wp2
  go_ret
  exact ⟨(FrE.of_below HB1.out).trans (HF2.out.trans ((FrE.of_below HB8.out).trans HF9.out.fr)), .inl ⟨_, _, _, t9, l9, _, HX.out, rfl, HT2.out.wrap HI9.out, HE9.out⟩⟩

set_option maxHeartbeats 8000000 in
set_option maxRecDepth 100000 in
theorem own10_e (E : WEnv) (W : World) (R : Nat) (a : Option Addr) (c : Nat) (ta : Option Addr) (tc f : Nat) (sn : Sn → Addr) (hc : EC E W a ta sn) (htc : E.t.length ≤ tc) (hN : NodeE E W R a c ta tc sn f) (hf1 : 1 ≤ f) (i : Nat) (hi : i < E.s.length) (ka : Option Addr) (kc : Nat) (hka : KidsIn W ka (nd E.s i).kids) (hkc : (nd E.s i).kids.length ≤ kc) (hkm : kc ≤ maxLen)
    (x : Nat) (dp : Int) (r : WOut) (t0 : ByteArray) (l0 : Bool) (o0 : Option Int) (w : World) (hfit : FitP (nd E.s i) (vl E.t x)) (e : wbareF E (wrF E f) f (nd E.s i) (wcl (nd E.s i)) (wnu (nd E.s i)) (vl E.t x) (x + 1) dp = some r) (hx : x < E.t.length) (hfx : E.t.length + 1 ≤ f + (x + 1)) (hd1 : 1 ≤ dp) (hd2 : dp ≤ 12) (h4 : t0.size ≤ 4000) (hI : EwD W w R a E.s.length c ta E.t.length tc (x + 1) t0 l0 (ovV sn o0)) (hk : (nd E.s i).kind = 10) :
    Calls Tryz.prog 111 #[.pointer (some ⟨R, 0, none⟩), .agg #[.int .i64 (nd E.s i).kind, .int .i64 (nd E.s i).tag, .int .i64 (nd E.s i).mode, .slice ka (nd E.s i).kids.length kc], .agg #[.int .i64 (vl E.t x).kind, .string (vl E.t x).text, .int .i64 (vl E.t x).alt, .int .i64 (vl E.t x).kids], .int .i64 dp] w fun e w' => AfterE E W R a c ta tc sn r t0 l0 o0 w e w' := by
  have HC := hide hc
  have HI := hide hI
  have htx := hc.txt hx
  have hwnb := wnu_bd hc.wc.right hi
  have hcn := wnu_own (n := nd E.s i) (by omega)
  obtain ⟨hk1, hk14, hT1, hT2, hT3, hT4, hT5⟩ := tagged_of hc.wc.right hi
  have hnums := hc.lay.n
  obtain ⟨bs, cp, hform⟩ : ∃ bs cp, ∃ tvx, tvx = Value.slice bs t0.size cp ∧ w.heap[R]? = some (ewObj a E.s.length c ta E.t.length tc (x + 1) tvx l0 (ovV sn o0)) := by
    obtain ⟨tv, h1, h2⟩ := hI.own
    obtain ⟨bs, cp, rfl, _⟩ := own8 h2
    exact ⟨bs, cp, _, rfl, h1⟩
  obtain ⟨_, rfl, hown⟩ := hform
  have hRl : R < w.heap.size := row_lt hown
  obtain ⟨r1, hr1, HX⟩ : ∃ r1, wseqF E (wrF E f) dp (nd E.s i).kids (x + 1) noB false = some r1 ∧ Hid ((r1 = none → r = none) ∧ ∀ b x' u, r1 = some (b, x', u) → r = some (elB (wcl (nd E.s i)) true (wnu (nd E.s i)) b, x', u)) := by
    have h := e
    unfold wbareF at h
    rw [if_neg (by omega), if_neg (by omega), if_pos hk, if_pos ((fit10 hk hfit.1).1 hfit)] at h
    rcases wandThen_cases h with ⟨h1, h2⟩ | ⟨b, x', u, h1, h2⟩
    · exact ⟨none, h1, fun _ => h2, fun _ _ _ q => by cases q⟩
    · refine ⟨_, h1, fun q => (by cases q), fun b' x'' u' q => ?_⟩
      injection q with q
      injection q with e1 q
      injection q with e2 e3
      subst e1 e2 e3
      injection h2 with h2
      exact h2.symm
  obtain ⟨CL, hCL⟩ : ∃ CL, wcl (nd E.s i) = CL := ⟨_, rfl⟩
  obtain ⟨NU, hNU⟩ : ∃ NU, wnu (nd E.s i) = NU := ⟨_, rfl⟩
  rw [hCL, hNU] at hcn hwnb HX
  obtain ⟨K, hK⟩ : ∃ K, (nd E.s i).kind = K := ⟨_, rfl⟩
  rw [hK] at hk ⊢
  obtain ⟨BT, hBT⟩ : ∃ BT : Bool, BT = true := ⟨_, rfl⟩
  rw [← hBT] at HX
  have HCA : Hid (∀ wq, EwD W wq R a E.s.length c ta E.t.length tc (x + 1) t0 l0 (ovV sn o0) → Calls Tryz.prog 150 #[.pointer (some ⟨R, 0, none⟩), .agg #[.int .i64 K, .int .i64 (nd E.s i).tag, .int .i64 (nd E.s i).mode, .slice ka (nd E.s i).kids.length kc], .int .i64 dp] wq fun e w' => AfterE E W R a c ta tc sn r1 t0 l0 o0 wq e w') := fun wq q => by
    rw [← hK]
    exact eseq_any E W R a c ta tc f sn hc htc hN hf1 i hi ka kc hka hkc hkm (x + 1) dp r1 t0 l0 o0 wq hr1 hx hfx hd1 hd2 h4 q
  generalize hTG : (nd E.s i).tag = TG at HCA ⊢
  generalize hMD : (nd E.s i).mode = MD at HCA ⊢
  generalize hKL : (nd E.s i).kids.length = KL at HCA ⊢
  generalize hVK : (vl E.t x).kind = VK
  generalize hVT : (vl E.t x).text = VT
  generalize hVA : (vl E.t x).alt = VA
  generalize hVD : (vl E.t x).kids = VD at HCA ⊢
  have HOW : Hid (∀ wq, Below W.heap.size W wq → Calls Tryz.prog 152 #[.agg #[.int .i64 K, .int .i64 TG, .int .i64 MD, .slice ka KL kc]] wq fun e w' => e = .returned (.agg #[.int .i64 CL, .int .i64 NU, .bool BT]) ∧ Below wq.heap.size wq w') := fun wq q => by
    have := own_all (nd E.s i) ka kc wq (HC.out.lay.below q).n (by omega) (by omega) (by omega)
    unfold fv at this
    rw [← hcn, hTG, hMD, hKL] at this
    rw [hK, decide_eq_true (by omega), ← hBT] at this
    exact this
  have HWR : Hid (∀ wq t1 l1 o1 x1, EwD W wq R a E.s.length c ta E.t.length tc x1 t1 l1 (ovV sn o1) → t0.size ≤ t1.size → t1.size ≤ 4000 → Calls Tryz.prog 113 #[.pointer (some ⟨R, 0, none⟩), .int .i64 t0.size, .agg #[.int .i64 CL, .int .i64 NU, .bool BT]] wq fun e w' => AfterI W R a E.s.length c ta E.t.length tc x1 t1 l1 (ovV sn o1) t0.size (hdB CL BT NU (t1.size - t0.size)) wq e w') := fun wq t1 l1 o1 x1 q h1 h2 => wrap_any W wq R a E.s.length c ta E.t.length tc x1 t1 l1 (ovV sn o1) sn HC.out.lay t0.size CL NU BT hwnb.1 hwnb.2.1 hwnb.2.2.1 hwnb.2.2.2 h1 h2 q
  have hB1 : Below w.heap.size w ((w.alloc (.cells #[.int .i64 K, .int .i64 TG, .int .i64 MD, .slice ka KL kc] 58)).alloc (.cells #[.int .i64 VK, .string VT, .int .i64 VA, .int .i64 VD] 60)) := ((Below.refl w.heap.size w).alloc (Nat.le_refl _) _).alloc (by simp) _
  have hG1 : ((w.alloc (.cells #[.int .i64 K, .int .i64 TG, .int .i64 MD, .slice ka KL kc] 58)).alloc (.cells #[.int .i64 VK, .string VT, .int .i64 VA, .int .i64 VD] 60)).heap[w.heap.size]? = some (.cells #[.int .i64 K, .int .i64 TG, .int .i64 MD, .slice ka KL kc] 58 (0, 0)) := block_below (heap_alloc_new w _) ((Below.refl _ _).alloc (Nat.le_refl _) _)
  have hG2 : ((w.alloc (.cells #[.int .i64 K, .int .i64 TG, .int .i64 MD, .slice ka KL kc] 58)).alloc (.cells #[.int .i64 VK, .string VT, .int .i64 VA, .int .i64 VD] 60)).heap[w.heap.size + 1]? = some (.cells #[.int .i64 VK, .string VT, .int .i64 VA, .int .i64 VD] 60 (0, 0)) := by simpa using heap_alloc_new (w.alloc (.cells #[.int .i64 K, .int .i64 TG, .int .i64 MD, .slice ka KL kc] 58)) (.cells #[.int .i64 VK, .string VT, .int .i64 VA, .int .i64 VD] 60)
  have hg3 := block_below hown hB1
  unfold ewObj at hg3
  have c3 : ((w.alloc (.cells #[.int .i64 K, .int .i64 TG, .int .i64 MD, .slice ka KL kc] 58)).alloc (.cells #[.int .i64 VK, .string VT, .int .i64 VA, .int .i64 VD] 60)).cell? ⟨R, 3, none⟩ = some (.slice bs t0.size cp) := by simp [World.cell?, hg3]
  clear hown hg3
  clear hc hI e hfit hcn hwnb hT1 hT2 hT3 hT4 hT5 hnums hTG hMD hKL hVK hVT hVA hVD hK hk1 hk14 hka hN hBT hCL hNU
  subst hk
  go_enter Tryz.func111, Tryz.ntmps111
  go_upto_region 1 with fail
  obtain ⟨nb, hnb⟩ : ∃ nb, w.heap.size = nb := ⟨_, rfl⟩
  obtain ⟨vb, hvb⟩ : ∃ vb, w.heap.size + 1 = vb := ⟨_, rfl⟩
  rw [hvb] at hG2 ⊢
  rw [hnb] at hG1 ⊢
  generalize (w.alloc (.cells #[.int .i64 10, .int .i64 TG, .int .i64 MD, .slice ka KL kc] 58)).alloc (.cells #[.int .i64 VK, .string VT, .int .i64 VA, .int .i64 VD] 60) = w1 at hB1 hG1 hG2 c3 ⊢
  have hneN : nb ≠ R := by omega
  have HB1 := hide hB1
  have HG1 := hide hG1
  have HI1 := hide (HI.out.below hB1)
  have v1 : w1.cell? ⟨vb, 1, none⟩ = some (.string VT) := cell_of_row hG2 rfl
  have v3 : w1.cell? ⟨vb, 3, none⟩ = some (.int .i64 VD) := cell_of_row hG2 rfl
  have k0 : w1.cell? ⟨nb, 0, none⟩ = some (.int .i64 10) := cell_of_row hG1 rfl
  have k1 : w1.cell? ⟨nb, 1, none⟩ = some (.int .i64 TG) := cell_of_row hG1 rfl
  have k2 : w1.cell? ⟨nb, 2, none⟩ = some (.int .i64 MD) := cell_of_row hG1 rfl
  have k3 : w1.cell? ⟨nb, 3, none⟩ = some (.slice ka KL kc) := cell_of_row hG1 rfl
  have hR1 : R < w1.heap.size := lt_of_cell c3
  have hlv := row_lt hG2
  have hln := row_lt hG1
  clear hB1 hG1 hG2 hnb hvb
  go_wp2_with fail
  refine (HCA.out _ HI1.out).mono ?_
  rintro e w2 ⟨hF2, ⟨b2, x2, u2, t2, l2, o2, hq, rfl, hT2, hE2⟩ | ⟨hq, p, x2, t2, l2, ov, rfl, hE2⟩⟩
  · have HF2 := hide hF2
    have HT2 := hide hT2
    have HE2 := hide hE2
    have HXX : Hid (r = some (elB CL BT NU b2, x2, u2)) := HX.out.2 b2 x2 u2 hq
    clear hF2 hT2 hE2 hq HX k0 k1 k2 k3 v1 v3 c3 hln
    have HX := HXX
    have kn := HF2.out _ _ _ hneN (by decide) HG1.out
    have q0 : w2.cell? ⟨nb, 0, none⟩ = some (.int .i64 10) := cell_of_row kn rfl
    have q1 : w2.cell? ⟨nb, 1, none⟩ = some (.int .i64 TG) := cell_of_row kn rfl
    have q2 : w2.cell? ⟨nb, 2, none⟩ = some (.int .i64 MD) := cell_of_row kn rfl
    have q3 : w2.cell? ⟨nb, 3, none⟩ = some (.slice ka KL kc) := cell_of_row kn rfl
    have hlq := row_lt kn
    clear kn
    go_wp2_with fail
    refine (HOW.out _ HE2.out.bel).mono ?_
    rintro e w8 ⟨rfl, hb8⟩
    have HB8 := hide hb8
    clear hb8
    go_wp2_with fail
    refine (HWR.out _ _ _ _ _ (HE2.out.below HB8.out) HT2.out.le HT2.out.mx).mono ?_
    rintro e w9 ⟨rfl, hF9, t9, l9, hi9, hE9⟩
    have HF9 := hide hF9
    have HI9 := hide hi9
    have HE9 := hide hE9
    clear hF9 hi9 hE9
    go_wp2
    go_ret
    exact ⟨(FrE.of_below HB1.out).trans (HF2.out.trans ((FrE.of_below HB8.out).trans HF9.out.fr)), .inl ⟨_, _, _, t9, l9, _, HX.out, rfl, HT2.out.wrap HI9.out, HE9.out⟩⟩
  · have HF2 : Hid (FrE R w w2) := (FrE.of_below HB1.out).trans hF2
    have HE2 := hide hE2
    have HXX : Hid (r = none) := HX.out.1 hq
    clear hF2 hE2 hq
    unfold fault
    go_wp2
    go_ret
    exact ⟨HF2.out, .inr ⟨HXX.out, p, x2, t2, l2, ov, rfl, HE2.out⟩⟩

set_option maxHeartbeats 8000000 in
set_option maxRecDepth 100000 in
theorem own11_e (E : WEnv) (W : World) (R : Nat) (a : Option Addr) (c : Nat) (ta : Option Addr) (tc f : Nat) (sn : Sn → Addr) (hc : EC E W a ta sn) (htc : E.t.length ≤ tc) (hN : NodeE E W R a c ta tc sn f) (hf1 : 1 ≤ f) (i : Nat) (hi : i < E.s.length) (ka : Option Addr) (kc : Nat) (hka : KidsIn W ka (nd E.s i).kids) (hkc : (nd E.s i).kids.length ≤ kc) (hkm : kc ≤ maxLen)
    (x : Nat) (dp : Int) (r : WOut) (t0 : ByteArray) (l0 : Bool) (o0 : Option Int) (w : World) (hfit : FitP (nd E.s i) (vl E.t x)) (e : wbareF E (wrF E f) f (nd E.s i) (wcl (nd E.s i)) (wnu (nd E.s i)) (vl E.t x) (x + 1) dp = some r) (hx : x < E.t.length) (hfx : E.t.length + 1 ≤ f + (x + 1)) (hd1 : 1 ≤ dp) (hd2 : dp ≤ 12) (h4 : t0.size ≤ 4000) (hI : EwD W w R a E.s.length c ta E.t.length tc (x + 1) t0 l0 (ovV sn o0)) (hk : (nd E.s i).kind = 11) :
    Calls Tryz.prog 111 #[.pointer (some ⟨R, 0, none⟩), .agg #[.int .i64 (nd E.s i).kind, .int .i64 (nd E.s i).tag, .int .i64 (nd E.s i).mode, .slice ka (nd E.s i).kids.length kc], .agg #[.int .i64 (vl E.t x).kind, .string (vl E.t x).text, .int .i64 (vl E.t x).alt, .int .i64 (vl E.t x).kids], .int .i64 dp] w fun e w' => AfterE E W R a c ta tc sn r t0 l0 o0 w e w' := by
  have HC := hide hc
  have HI := hide hI
  have htx := hc.txt hx
  have hwnb := wnu_bd hc.wc.right hi
  have hcn := wnu_own (n := nd E.s i) (by omega)
  obtain ⟨hk1, hk14, hT1, hT2, hT3, hT4, hT5⟩ := tagged_of hc.wc.right hi
  have hnums := hc.lay.n
  obtain ⟨bs, cp, hform⟩ : ∃ bs cp, ∃ tvx, tvx = Value.slice bs t0.size cp ∧ w.heap[R]? = some (ewObj a E.s.length c ta E.t.length tc (x + 1) tvx l0 (ovV sn o0)) := by
    obtain ⟨tv, h1, h2⟩ := hI.own
    obtain ⟨bs, cp, rfl, _⟩ := own8 h2
    exact ⟨bs, cp, _, rfl, h1⟩
  obtain ⟨_, rfl, hown⟩ := hform
  have hRl : R < w.heap.size := row_lt hown
  obtain ⟨r1, hr1, HX⟩ : ∃ r1, wmanyF E (wrF E f) (decide ((nd E.s i).kind = 12)) (kd (nd E.s i) 0).node.toNat (dp + 1) f (vl E.t x).kids (x + 1) noB noB false = some r1 ∧ Hid ((r1 = none → r = none) ∧ ∀ b x' u, r1 = some (b, x', u) → r = some (elB (wcl (nd E.s i)) true (wnu (nd E.s i)) b, x', u)) := by
    have h := e
    unfold wbareF at h
    rw [if_neg (by omega), if_neg (by omega), if_neg (by omega), if_pos (by omega), if_pos ((fit12 (.inl hk) hfit.1).1 hfit)] at h
    rcases wandThen_cases h with ⟨h1, h2⟩ | ⟨b, x', u, h1, h2⟩
    · exact ⟨none, h1, fun _ => h2, fun _ _ _ q => by cases q⟩
    · refine ⟨_, h1, fun q => (by cases q), fun b' x'' u' q => ?_⟩
      injection q with q
      injection q with e1 q
      injection q with e2 e3
      subst e1 e2 e3
      injection h2 with h2
      exact h2.symm
  obtain ⟨CL, hCL⟩ : ∃ CL, wcl (nd E.s i) = CL := ⟨_, rfl⟩
  obtain ⟨NU, hNU⟩ : ∃ NU, wnu (nd E.s i) = NU := ⟨_, rfl⟩
  rw [hCL, hNU] at hcn hwnb HX
  obtain ⟨K, hK⟩ : ∃ K, (nd E.s i).kind = K := ⟨_, rfl⟩
  rw [hK] at hk ⊢
  obtain ⟨BT, hBT⟩ : ∃ BT : Bool, BT = true := ⟨_, rfl⟩
  rw [← hBT] at HX
  have hvd := ((fit12 (.inl (hK ▸ hk)) hfit.1).1 hfit).2.2
  have HCA : Hid (∀ wq, EwD W wq R a E.s.length c ta E.t.length tc (x + 1) t0 l0 (ovV sn o0) → Calls Tryz.prog 151 #[.pointer (some ⟨R, 0, none⟩), .agg #[.int .i64 K, .int .i64 (nd E.s i).tag, .int .i64 (nd E.s i).mode, .slice ka (nd E.s i).kids.length kc], .int .i64 (vl E.t x).kids, .int .i64 dp] wq fun e w' => AfterE E W R a c ta tc sn r1 t0 l0 o0 wq e w') := fun wq q => by
    rw [← hK]
    exact elist_any E W R a c ta tc f sn hc htc hN hf1 i hi (hc.wc.right.fine.one i hi (.inl (hK ▸ hk))) ka kc hka hkc hkm (x + 1) f (vl E.t x).kids dp r1 t0 l0 o0 wq hr1 hvd (hc.wc.kids x hx) hx hfx hd1 hd2 h4 q
  generalize hTG : (nd E.s i).tag = TG at HCA ⊢
  generalize hMD : (nd E.s i).mode = MD at HCA ⊢
  generalize hKL : (nd E.s i).kids.length = KL at HCA ⊢
  generalize hVK : (vl E.t x).kind = VK
  generalize hVT : (vl E.t x).text = VT
  generalize hVA : (vl E.t x).alt = VA
  generalize hVD : (vl E.t x).kids = VD at HCA ⊢
  have HOW : Hid (∀ wq, Below W.heap.size W wq → Calls Tryz.prog 152 #[.agg #[.int .i64 K, .int .i64 TG, .int .i64 MD, .slice ka KL kc]] wq fun e w' => e = .returned (.agg #[.int .i64 CL, .int .i64 NU, .bool BT]) ∧ Below wq.heap.size wq w') := fun wq q => by
    have := own_all (nd E.s i) ka kc wq (HC.out.lay.below q).n (by omega) (by omega) (by omega)
    unfold fv at this
    rw [← hcn, hTG, hMD, hKL] at this
    rw [hK, decide_eq_true (by omega), ← hBT] at this
    exact this
  have HWR : Hid (∀ wq t1 l1 o1 x1, EwD W wq R a E.s.length c ta E.t.length tc x1 t1 l1 (ovV sn o1) → t0.size ≤ t1.size → t1.size ≤ 4000 → Calls Tryz.prog 113 #[.pointer (some ⟨R, 0, none⟩), .int .i64 t0.size, .agg #[.int .i64 CL, .int .i64 NU, .bool BT]] wq fun e w' => AfterI W R a E.s.length c ta E.t.length tc x1 t1 l1 (ovV sn o1) t0.size (hdB CL BT NU (t1.size - t0.size)) wq e w') := fun wq t1 l1 o1 x1 q h1 h2 => wrap_any W wq R a E.s.length c ta E.t.length tc x1 t1 l1 (ovV sn o1) sn HC.out.lay t0.size CL NU BT hwnb.1 hwnb.2.1 hwnb.2.2.1 hwnb.2.2.2 h1 h2 q
  have hB1 : Below w.heap.size w ((w.alloc (.cells #[.int .i64 K, .int .i64 TG, .int .i64 MD, .slice ka KL kc] 58)).alloc (.cells #[.int .i64 VK, .string VT, .int .i64 VA, .int .i64 VD] 60)) := ((Below.refl w.heap.size w).alloc (Nat.le_refl _) _).alloc (by simp) _
  have hG1 : ((w.alloc (.cells #[.int .i64 K, .int .i64 TG, .int .i64 MD, .slice ka KL kc] 58)).alloc (.cells #[.int .i64 VK, .string VT, .int .i64 VA, .int .i64 VD] 60)).heap[w.heap.size]? = some (.cells #[.int .i64 K, .int .i64 TG, .int .i64 MD, .slice ka KL kc] 58 (0, 0)) := block_below (heap_alloc_new w _) ((Below.refl _ _).alloc (Nat.le_refl _) _)
  have hG2 : ((w.alloc (.cells #[.int .i64 K, .int .i64 TG, .int .i64 MD, .slice ka KL kc] 58)).alloc (.cells #[.int .i64 VK, .string VT, .int .i64 VA, .int .i64 VD] 60)).heap[w.heap.size + 1]? = some (.cells #[.int .i64 VK, .string VT, .int .i64 VA, .int .i64 VD] 60 (0, 0)) := by simpa using heap_alloc_new (w.alloc (.cells #[.int .i64 K, .int .i64 TG, .int .i64 MD, .slice ka KL kc] 58)) (.cells #[.int .i64 VK, .string VT, .int .i64 VA, .int .i64 VD] 60)
  have hg3 := block_below hown hB1
  unfold ewObj at hg3
  have c3 : ((w.alloc (.cells #[.int .i64 K, .int .i64 TG, .int .i64 MD, .slice ka KL kc] 58)).alloc (.cells #[.int .i64 VK, .string VT, .int .i64 VA, .int .i64 VD] 60)).cell? ⟨R, 3, none⟩ = some (.slice bs t0.size cp) := by simp [World.cell?, hg3]
  clear hown hg3
  clear hc hI e hfit hcn hwnb hT1 hT2 hT3 hT4 hT5 hnums hTG hMD hKL hVK hVT hVA hVD hvd hK hk1 hk14 hka hN hBT hCL hNU
  subst hk
  go_enter Tryz.func111, Tryz.ntmps111
  go_upto_region 1 with fail
  obtain ⟨nb, hnb⟩ : ∃ nb, w.heap.size = nb := ⟨_, rfl⟩
  obtain ⟨vb, hvb⟩ : ∃ vb, w.heap.size + 1 = vb := ⟨_, rfl⟩
  rw [hvb] at hG2 ⊢
  rw [hnb] at hG1 ⊢
  generalize (w.alloc (.cells #[.int .i64 11, .int .i64 TG, .int .i64 MD, .slice ka KL kc] 58)).alloc (.cells #[.int .i64 VK, .string VT, .int .i64 VA, .int .i64 VD] 60) = w1 at hB1 hG1 hG2 c3 ⊢
  have hneN : nb ≠ R := by omega
  have HB1 := hide hB1
  have HG1 := hide hG1
  have HI1 := hide (HI.out.below hB1)
  have v1 : w1.cell? ⟨vb, 1, none⟩ = some (.string VT) := cell_of_row hG2 rfl
  have v3 : w1.cell? ⟨vb, 3, none⟩ = some (.int .i64 VD) := cell_of_row hG2 rfl
  have k0 : w1.cell? ⟨nb, 0, none⟩ = some (.int .i64 11) := cell_of_row hG1 rfl
  have k1 : w1.cell? ⟨nb, 1, none⟩ = some (.int .i64 TG) := cell_of_row hG1 rfl
  have k2 : w1.cell? ⟨nb, 2, none⟩ = some (.int .i64 MD) := cell_of_row hG1 rfl
  have k3 : w1.cell? ⟨nb, 3, none⟩ = some (.slice ka KL kc) := cell_of_row hG1 rfl
  have hR1 : R < w1.heap.size := lt_of_cell c3
  have hlv := row_lt hG2
  have hln := row_lt hG1
  clear hB1 hG1 hG2 hnb hvb
  go_wp2_with fail
  refine (HCA.out _ HI1.out).mono ?_
  rintro e w2 ⟨hF2, ⟨b2, x2, u2, t2, l2, o2, hq, rfl, hT2, hE2⟩ | ⟨hq, p, x2, t2, l2, ov, rfl, hE2⟩⟩
  · have HF2 := hide hF2
    have HT2 := hide hT2
    have HE2 := hide hE2
    have HXX : Hid (r = some (elB CL BT NU b2, x2, u2)) := HX.out.2 b2 x2 u2 hq
    clear hF2 hT2 hE2 hq HX k0 k1 k2 k3 v1 v3 c3 hln
    have HX := HXX
    have kn := HF2.out _ _ _ hneN (by decide) HG1.out
    have q0 : w2.cell? ⟨nb, 0, none⟩ = some (.int .i64 11) := cell_of_row kn rfl
    have q1 : w2.cell? ⟨nb, 1, none⟩ = some (.int .i64 TG) := cell_of_row kn rfl
    have q2 : w2.cell? ⟨nb, 2, none⟩ = some (.int .i64 MD) := cell_of_row kn rfl
    have q3 : w2.cell? ⟨nb, 3, none⟩ = some (.slice ka KL kc) := cell_of_row kn rfl
    have hlq := row_lt kn
    clear kn
    go_wp2_with fail
    refine (HOW.out _ HE2.out.bel).mono ?_
    rintro e w8 ⟨rfl, hb8⟩
    have HB8 := hide hb8
    clear hb8
    go_wp2_with fail
    refine (HWR.out _ _ _ _ _ (HE2.out.below HB8.out) HT2.out.le HT2.out.mx).mono ?_
    rintro e w9 ⟨rfl, hF9, t9, l9, hi9, hE9⟩
    have HF9 := hide hF9
    have HI9 := hide hi9
    have HE9 := hide hE9
    clear hF9 hi9 hE9
    go_wp2
    go_ret
    exact ⟨(FrE.of_below HB1.out).trans (HF2.out.trans ((FrE.of_below HB8.out).trans HF9.out.fr)), .inl ⟨_, _, _, t9, l9, _, HX.out, rfl, HT2.out.wrap HI9.out, HE9.out⟩⟩
  · have HF2 : Hid (FrE R w w2) := (FrE.of_below HB1.out).trans hF2
    have HE2 := hide hE2
    have HXX : Hid (r = none) := HX.out.1 hq
    clear hF2 hE2 hq
    unfold fault
    go_wp2
    go_ret
    exact ⟨HF2.out, .inr ⟨HXX.out, p, x2, t2, l2, ov, rfl, HE2.out⟩⟩

set_option maxHeartbeats 8000000 in
set_option maxRecDepth 100000 in
theorem own12_e (E : WEnv) (W : World) (R : Nat) (a : Option Addr) (c : Nat) (ta : Option Addr) (tc f : Nat) (sn : Sn → Addr) (hc : EC E W a ta sn) (htc : E.t.length ≤ tc) (hN : NodeE E W R a c ta tc sn f) (hf1 : 1 ≤ f) (i : Nat) (hi : i < E.s.length) (ka : Option Addr) (kc : Nat) (hka : KidsIn W ka (nd E.s i).kids) (hkc : (nd E.s i).kids.length ≤ kc) (hkm : kc ≤ maxLen)
    (x : Nat) (dp : Int) (r : WOut) (t0 : ByteArray) (l0 : Bool) (o0 : Option Int) (w : World) (hfit : FitP (nd E.s i) (vl E.t x)) (e : wbareF E (wrF E f) f (nd E.s i) (wcl (nd E.s i)) (wnu (nd E.s i)) (vl E.t x) (x + 1) dp = some r) (hx : x < E.t.length) (hfx : E.t.length + 1 ≤ f + (x + 1)) (hd1 : 1 ≤ dp) (hd2 : dp ≤ 12) (h4 : t0.size ≤ 4000) (hI : EwD W w R a E.s.length c ta E.t.length tc (x + 1) t0 l0 (ovV sn o0)) (hk : (nd E.s i).kind = 12) :
    Calls Tryz.prog 111 #[.pointer (some ⟨R, 0, none⟩), .agg #[.int .i64 (nd E.s i).kind, .int .i64 (nd E.s i).tag, .int .i64 (nd E.s i).mode, .slice ka (nd E.s i).kids.length kc], .agg #[.int .i64 (vl E.t x).kind, .string (vl E.t x).text, .int .i64 (vl E.t x).alt, .int .i64 (vl E.t x).kids], .int .i64 dp] w fun e w' => AfterE E W R a c ta tc sn r t0 l0 o0 w e w' := by
  have HC := hide hc
  have HI := hide hI
  have htx := hc.txt hx
  have hwnb := wnu_bd hc.wc.right hi
  have hcn := wnu_own (n := nd E.s i) (by omega)
  obtain ⟨hk1, hk14, hT1, hT2, hT3, hT4, hT5⟩ := tagged_of hc.wc.right hi
  have hnums := hc.lay.n
  obtain ⟨bs, cp, hform⟩ : ∃ bs cp, ∃ tvx, tvx = Value.slice bs t0.size cp ∧ w.heap[R]? = some (ewObj a E.s.length c ta E.t.length tc (x + 1) tvx l0 (ovV sn o0)) := by
    obtain ⟨tv, h1, h2⟩ := hI.own
    obtain ⟨bs, cp, rfl, _⟩ := own8 h2
    exact ⟨bs, cp, _, rfl, h1⟩
  obtain ⟨_, rfl, hown⟩ := hform
  have hRl : R < w.heap.size := row_lt hown
  obtain ⟨r1, hr1, HX⟩ : ∃ r1, wmanyF E (wrF E f) (decide ((nd E.s i).kind = 12)) (kd (nd E.s i) 0).node.toNat (dp + 1) f (vl E.t x).kids (x + 1) noB noB false = some r1 ∧ Hid ((r1 = none → r = none) ∧ ∀ b x' u, r1 = some (b, x', u) → r = some (elB (wcl (nd E.s i)) true (wnu (nd E.s i)) b, x', u)) := by
    have h := e
    unfold wbareF at h
    rw [if_neg (by omega), if_neg (by omega), if_neg (by omega), if_pos (by omega), if_pos ((fit12 (.inr hk) hfit.1).1 hfit)] at h
    rcases wandThen_cases h with ⟨h1, h2⟩ | ⟨b, x', u, h1, h2⟩
    · exact ⟨none, h1, fun _ => h2, fun _ _ _ q => by cases q⟩
    · refine ⟨_, h1, fun q => (by cases q), fun b' x'' u' q => ?_⟩
      injection q with q
      injection q with e1 q
      injection q with e2 e3
      subst e1 e2 e3
      injection h2 with h2
      exact h2.symm
  obtain ⟨CL, hCL⟩ : ∃ CL, wcl (nd E.s i) = CL := ⟨_, rfl⟩
  obtain ⟨NU, hNU⟩ : ∃ NU, wnu (nd E.s i) = NU := ⟨_, rfl⟩
  rw [hCL, hNU] at hcn hwnb HX
  obtain ⟨K, hK⟩ : ∃ K, (nd E.s i).kind = K := ⟨_, rfl⟩
  rw [hK] at hk ⊢
  obtain ⟨BT, hBT⟩ : ∃ BT : Bool, BT = true := ⟨_, rfl⟩
  rw [← hBT] at HX
  have hvd := ((fit12 (.inr (hK ▸ hk)) hfit.1).1 hfit).2.2
  have HCA : Hid (∀ wq, EwD W wq R a E.s.length c ta E.t.length tc (x + 1) t0 l0 (ovV sn o0) → Calls Tryz.prog 151 #[.pointer (some ⟨R, 0, none⟩), .agg #[.int .i64 K, .int .i64 (nd E.s i).tag, .int .i64 (nd E.s i).mode, .slice ka (nd E.s i).kids.length kc], .int .i64 (vl E.t x).kids, .int .i64 dp] wq fun e w' => AfterE E W R a c ta tc sn r1 t0 l0 o0 wq e w') := fun wq q => by
    rw [← hK]
    exact elist_any E W R a c ta tc f sn hc htc hN hf1 i hi (hc.wc.right.fine.one i hi (.inr (hK ▸ hk))) ka kc hka hkc hkm (x + 1) f (vl E.t x).kids dp r1 t0 l0 o0 wq hr1 hvd (hc.wc.kids x hx) hx hfx hd1 hd2 h4 q
  generalize hTG : (nd E.s i).tag = TG at HCA ⊢
  generalize hMD : (nd E.s i).mode = MD at HCA ⊢
  generalize hKL : (nd E.s i).kids.length = KL at HCA ⊢
  generalize hVK : (vl E.t x).kind = VK
  generalize hVT : (vl E.t x).text = VT
  generalize hVA : (vl E.t x).alt = VA
  generalize hVD : (vl E.t x).kids = VD at HCA ⊢
  have HOW : Hid (∀ wq, Below W.heap.size W wq → Calls Tryz.prog 152 #[.agg #[.int .i64 K, .int .i64 TG, .int .i64 MD, .slice ka KL kc]] wq fun e w' => e = .returned (.agg #[.int .i64 CL, .int .i64 NU, .bool BT]) ∧ Below wq.heap.size wq w') := fun wq q => by
    have := own_all (nd E.s i) ka kc wq (HC.out.lay.below q).n (by omega) (by omega) (by omega)
    unfold fv at this
    rw [← hcn, hTG, hMD, hKL] at this
    rw [hK, decide_eq_true (by omega), ← hBT] at this
    exact this
  have HWR : Hid (∀ wq t1 l1 o1 x1, EwD W wq R a E.s.length c ta E.t.length tc x1 t1 l1 (ovV sn o1) → t0.size ≤ t1.size → t1.size ≤ 4000 → Calls Tryz.prog 113 #[.pointer (some ⟨R, 0, none⟩), .int .i64 t0.size, .agg #[.int .i64 CL, .int .i64 NU, .bool BT]] wq fun e w' => AfterI W R a E.s.length c ta E.t.length tc x1 t1 l1 (ovV sn o1) t0.size (hdB CL BT NU (t1.size - t0.size)) wq e w') := fun wq t1 l1 o1 x1 q h1 h2 => wrap_any W wq R a E.s.length c ta E.t.length tc x1 t1 l1 (ovV sn o1) sn HC.out.lay t0.size CL NU BT hwnb.1 hwnb.2.1 hwnb.2.2.1 hwnb.2.2.2 h1 h2 q
  have hB1 : Below w.heap.size w ((w.alloc (.cells #[.int .i64 K, .int .i64 TG, .int .i64 MD, .slice ka KL kc] 58)).alloc (.cells #[.int .i64 VK, .string VT, .int .i64 VA, .int .i64 VD] 60)) := ((Below.refl w.heap.size w).alloc (Nat.le_refl _) _).alloc (by simp) _
  have hG1 : ((w.alloc (.cells #[.int .i64 K, .int .i64 TG, .int .i64 MD, .slice ka KL kc] 58)).alloc (.cells #[.int .i64 VK, .string VT, .int .i64 VA, .int .i64 VD] 60)).heap[w.heap.size]? = some (.cells #[.int .i64 K, .int .i64 TG, .int .i64 MD, .slice ka KL kc] 58 (0, 0)) := block_below (heap_alloc_new w _) ((Below.refl _ _).alloc (Nat.le_refl _) _)
  have hG2 : ((w.alloc (.cells #[.int .i64 K, .int .i64 TG, .int .i64 MD, .slice ka KL kc] 58)).alloc (.cells #[.int .i64 VK, .string VT, .int .i64 VA, .int .i64 VD] 60)).heap[w.heap.size + 1]? = some (.cells #[.int .i64 VK, .string VT, .int .i64 VA, .int .i64 VD] 60 (0, 0)) := by simpa using heap_alloc_new (w.alloc (.cells #[.int .i64 K, .int .i64 TG, .int .i64 MD, .slice ka KL kc] 58)) (.cells #[.int .i64 VK, .string VT, .int .i64 VA, .int .i64 VD] 60)
  have hg3 := block_below hown hB1
  unfold ewObj at hg3
  have c3 : ((w.alloc (.cells #[.int .i64 K, .int .i64 TG, .int .i64 MD, .slice ka KL kc] 58)).alloc (.cells #[.int .i64 VK, .string VT, .int .i64 VA, .int .i64 VD] 60)).cell? ⟨R, 3, none⟩ = some (.slice bs t0.size cp) := by simp [World.cell?, hg3]
  clear hown hg3
  clear hc hI e hfit hcn hwnb hT1 hT2 hT3 hT4 hT5 hnums hTG hMD hKL hVK hVT hVA hVD hvd hK hk1 hk14 hka hN hBT hCL hNU
  subst hk
  go_enter Tryz.func111, Tryz.ntmps111
  go_upto_region 1 with fail
  obtain ⟨nb, hnb⟩ : ∃ nb, w.heap.size = nb := ⟨_, rfl⟩
  obtain ⟨vb, hvb⟩ : ∃ vb, w.heap.size + 1 = vb := ⟨_, rfl⟩
  rw [hvb] at hG2 ⊢
  rw [hnb] at hG1 ⊢
  generalize (w.alloc (.cells #[.int .i64 12, .int .i64 TG, .int .i64 MD, .slice ka KL kc] 58)).alloc (.cells #[.int .i64 VK, .string VT, .int .i64 VA, .int .i64 VD] 60) = w1 at hB1 hG1 hG2 c3 ⊢
  have hneN : nb ≠ R := by omega
  have HB1 := hide hB1
  have HG1 := hide hG1
  have HI1 := hide (HI.out.below hB1)
  have v1 : w1.cell? ⟨vb, 1, none⟩ = some (.string VT) := cell_of_row hG2 rfl
  have v3 : w1.cell? ⟨vb, 3, none⟩ = some (.int .i64 VD) := cell_of_row hG2 rfl
  have k0 : w1.cell? ⟨nb, 0, none⟩ = some (.int .i64 12) := cell_of_row hG1 rfl
  have k1 : w1.cell? ⟨nb, 1, none⟩ = some (.int .i64 TG) := cell_of_row hG1 rfl
  have k2 : w1.cell? ⟨nb, 2, none⟩ = some (.int .i64 MD) := cell_of_row hG1 rfl
  have k3 : w1.cell? ⟨nb, 3, none⟩ = some (.slice ka KL kc) := cell_of_row hG1 rfl
  have hR1 : R < w1.heap.size := lt_of_cell c3
  have hlv := row_lt hG2
  have hln := row_lt hG1
  clear hB1 hG1 hG2 hnb hvb
  go_wp2_with fail
  refine (HCA.out _ HI1.out).mono ?_
  rintro e w2 ⟨hF2, ⟨b2, x2, u2, t2, l2, o2, hq, rfl, hT2, hE2⟩ | ⟨hq, p, x2, t2, l2, ov, rfl, hE2⟩⟩
  · have HF2 := hide hF2
    have HT2 := hide hT2
    have HE2 := hide hE2
    have HXX : Hid (r = some (elB CL BT NU b2, x2, u2)) := HX.out.2 b2 x2 u2 hq
    clear hF2 hT2 hE2 hq HX k0 k1 k2 k3 v1 v3 c3 hln
    have HX := HXX
    have kn := HF2.out _ _ _ hneN (by decide) HG1.out
    have q0 : w2.cell? ⟨nb, 0, none⟩ = some (.int .i64 12) := cell_of_row kn rfl
    have q1 : w2.cell? ⟨nb, 1, none⟩ = some (.int .i64 TG) := cell_of_row kn rfl
    have q2 : w2.cell? ⟨nb, 2, none⟩ = some (.int .i64 MD) := cell_of_row kn rfl
    have q3 : w2.cell? ⟨nb, 3, none⟩ = some (.slice ka KL kc) := cell_of_row kn rfl
    have hlq := row_lt kn
    clear kn
    go_wp2_with fail
    refine (HOW.out _ HE2.out.bel).mono ?_
    rintro e w8 ⟨rfl, hb8⟩
    have HB8 := hide hb8
    clear hb8
    go_wp2_with fail
    refine (HWR.out _ _ _ _ _ (HE2.out.below HB8.out) HT2.out.le HT2.out.mx).mono ?_
    rintro e w9 ⟨rfl, hF9, t9, l9, hi9, hE9⟩
    have HF9 := hide hF9
    have HI9 := hide hi9
    have HE9 := hide hE9
    clear hF9 hi9 hE9
    go_wp2
    go_ret
    exact ⟨(FrE.of_below HB1.out).trans (HF2.out.trans ((FrE.of_below HB8.out).trans HF9.out.fr)), .inl ⟨_, _, _, t9, l9, _, HX.out, rfl, HT2.out.wrap HI9.out, HE9.out⟩⟩
  · have HF2 : Hid (FrE R w w2) := (FrE.of_below HB1.out).trans hF2
    have HE2 := hide hE2
    have HXX : Hid (r = none) := HX.out.1 hq
    clear hF2 hE2 hq
    unfold fault
    go_wp2
    go_ret
    exact ⟨HF2.out, .inr ⟨HXX.out, p, x2, t2, l2, ov, rfl, HE2.out⟩⟩

theorem own_e (E : WEnv) (W : World) (R : Nat) (a : Option Addr) (c : Nat) (ta : Option Addr) (tc f : Nat) (sn : Sn → Addr) (hc : EC E W a ta sn) (htc : E.t.length ≤ tc) (hN : NodeE E W R a c ta tc sn f) (hf1 : 1 ≤ f) (i : Nat) (hi : i < E.s.length) (ka : Option Addr) (kc : Nat) (hka : KidsIn W ka (nd E.s i).kids) (hkc : (nd E.s i).kids.length ≤ kc) (hkm : kc ≤ maxLen)
    (x : Nat) (dp : Int) (r : WOut) (t0 : ByteArray) (l0 : Bool) (o0 : Option Int) (w : World) (hfit : FitP (nd E.s i) (vl E.t x)) (e : wbareF E (wrF E f) f (nd E.s i) (wcl (nd E.s i)) (wnu (nd E.s i)) (vl E.t x) (x + 1) dp = some r) (hx : x < E.t.length) (hfx : E.t.length + 1 ≤ f + (x + 1)) (hd1 : 1 ≤ dp) (hd2 : dp ≤ 12) (h4 : t0.size ≤ 4000) (hI : EwD W w R a E.s.length c ta E.t.length tc (x + 1) t0 l0 (ovV sn o0)) (hk : (nd E.s i).kind ≠ 13) :
    Calls Tryz.prog 111 #[.pointer (some ⟨R, 0, none⟩), .agg #[.int .i64 (nd E.s i).kind, .int .i64 (nd E.s i).tag, .int .i64 (nd E.s i).mode, .slice ka (nd E.s i).kids.length kc], .agg #[.int .i64 (vl E.t x).kind, .string (vl E.t x).text, .int .i64 (vl E.t x).alt, .int .i64 (vl E.t x).kids], .int .i64 dp] w fun e w' => AfterE E W R a c ta tc sn r t0 l0 o0 w e w' := by
  obtain ⟨hk1, hk14, _⟩ := tagged_of hc.wc.right hi
  by_cases h14 : (nd E.s i).kind = 14
  · exact own14_e E W R a c ta tc f sn hc htc hN hf1 i hi ka kc hka hkc hkm x dp r t0 l0 o0 w hfit e hx hfx hd1 hd2 h4 hI h14
  by_cases h10 : (nd E.s i).kind = 10
  · exact own10_e E W R a c ta tc f sn hc htc hN hf1 i hi ka kc hka hkc hkm x dp r t0 l0 o0 w hfit e hx hfx hd1 hd2 h4 hI h10
  by_cases h11 : (nd E.s i).kind = 11
  · exact own11_e E W R a c ta tc f sn hc htc hN hf1 i hi ka kc hka hkc hkm x dp r t0 l0 o0 w hfit e hx hfx hd1 hd2 h4 hI h11
  by_cases h12 : (nd E.s i).kind = 12
  · exact own12_e E W R a c ta tc f sn hc htc hN hf1 i hi ka kc hka hkc hkm x dp r t0 l0 o0 w hfit e hx hfx hd1 hd2 h4 hI h12
  · exact own9_e E W R a c ta tc f sn hc htc hN hf1 i hi ka kc hka hkc hkm x dp r t0 l0 o0 w hfit e hx hfx hd1 hd2 h4 hI (by omega)
end Go.Proofs.YtkkicodfpekbgaaGreatDoor

/-! The program's writer: value. -/
namespace Go.Proofs.YtkkicodfpekbgaaGreatDoor
set_option linter.unusedSimpArgs false
set_option linter.unusedVariables false
open Go.RowKit Go.Shelf

attribute [local go_sem] Oper.semAt_some

theorem EwD.grown {W w : World} {R : Nat} {a : Option Addr} {n c : Nat} {ta : Option Addr} {tn tc x : Nat} {told : ByteArray} {lg : Bool} {ov : Value} (h : EwD W w R a n c ta tn tc x told lg ov) {w' : World} {row : Option Nat} (hg : w.grownBy w' row)
    (hr : ∀ g, row = some g → W.heap.size ≤ g ∧ g ≠ R ∧ ∀ A, w.heap[g]? ≠ some (.cells A 5 (0, 0))) : EwD W w' R a n c ta tn tc x told lg ov := by
  obtain ⟨tv, h1, h2⟩ := h.own
  refine ⟨h.bel.grown hg h.bel.size (fun k e => (hr k e).1), h.lo, tv, ?_, h2.kept hg ?_⟩
  · rw [hg.block R (row_lt h1) (fun e => (hr R e.symm).2.1 rfl)]; exact h1
  · rcases h2.2 with ⟨rfl, _⟩ | ⟨g, _, cur, rfl, _, hgg, _⟩
    · exact .inl rfl
    · exact .inr fun q => (hr g q.symm).2.2 cur hgg
theorem own_frE {R : Nat} {w w' : World} {B : Nat} {T : TypeId} {s : Nat} {v : Value} {n : Nat} {xs : List Value} (h : w.ownsRow B T s v n xs) (hf : FrE R w w') (hT : T ≠ 5) (hR : R < B) : w'.ownsRow B T s v n xs := by
  refine ⟨h.1, ?_⟩
  rcases h.2 with hn | ⟨g, cap, cur, rfl, hb, hg, rest⟩
  · exact .inl hn
  · exact .inr ⟨g, cap, cur, rfl, hb, hf g cur T (by omega) hT hg, rest⟩
theorem own_formF {w : World} {B : Nat} {v : Value} {n : Nat} {xs : List Value} (h : w.ownsRow B 149 3 v n xs) : ∃ bs cp, v = .slice bs n cp := by
  rcases h.2 with ⟨rfl, h0⟩ | ⟨g, cp, cur, rfl, _⟩
  · exact ⟨none, 0, by rw [h0]⟩
  · exact ⟨_, _, rfl⟩
theorem frX_keeps {R : Nat} {w w' : World} (h : FrX R w w') {A : Array Value} {T : TypeId} {z : Nat × Nat} (hR : w.heap[R]? = some (.cells A T z)) (B : Nat) : KeepsFrom B w w' :=
  ⟨h.size, fun k o _ hk ho => by
    by_cases hkR : k = R
    · subst hkR
      rw [hR] at hk
      injection hk with hk
      subst hk
      cases ho
    · exact h.stay k o hkR (fun A q => by rw [q] at ho; cases ho) hk⟩
theorem Tryz.infoFirst : (Tryz.prog.info? 149).map (fun i => (i.zero, i.size, i.bytes)) = some (some (.agg #[.int .i64 0, .int .i64 0, .bool false]), 3, 24) := by kernel_rfl

theorem fold2 (T : Array Value) (p q : Tmp) (u v : Value) : Array.foldl (fun t (x : Tmp × Value) => match x with | (p, v) => t.setIfInBounds p v) T (#[p, q].zip #[u, v]) = (T.setIfInBounds p u).setIfInBounds q v := by simp
/-- Where the loop over Choices is. -/
def ValAt (E : WEnv) (W : World) (R : Nat) (a : Option Addr) (c : Nat) (ta : Option Addr) (tc : Nat) (sn : Sn → Addr) (F : Nat) (dp : Int) (r : WOut) (t0 : ByteArray) (l0 : Bool) (o0 : Option Int) (w1 : World) (gk : Nat) (vi va : Value) (wr : World) : Prop :=
  ∃ (i x : Nat) (r' : WOut) (lc : Bool) (ars : List TagI), vi = .int .i64 i ∧ i < E.s.length ∧ gk ≤ F ∧ wrF E gk i x dp = some r' ∧ E.t.length + 1 ≤ gk + x ∧ 1 ≤ gk ∧ x ≤ E.t.length ∧ wr.ownsRow w1.heap.size 149 3 va ars.length (acells ars) ∧
    EwD W wr R a E.s.length c ta E.t.length tc x t0 lc (ovV sn o0) ∧ FrE R w1 wr ∧ Chain l0 lc ars r r'

set_option maxHeartbeats 16000000 in
set_option maxRecDepth 100000 in
theorem evalue_step (E : WEnv) (W : World) (R : Nat) (a : Option Addr) (c : Nat) (ta : Option Addr) (tc : Nat) (sn : Sn → Addr) (hc : EC E W a ta sn) (htc : E.t.length ≤ tc) (F : Nat) (hN : ∀ g, g < F → NodeE E W R a c ta tc sn g) : NodeE E W R a c ta tc sn F := by
  intro i x dp r t0 l0 o0 w e hi hx hfx hf1 hd1 hd2 h4 hI
  have HC := hide hc
  have HNN := hide hN
  have HI := hide hI
  have HTC := hide htc
  have hlen := hc.len
  have HLEN := hide hlen
  obtain ⟨bs, cp, hform⟩ : ∃ bs cp, ∃ tvx, tvx = Value.slice bs t0.size cp ∧ w.heap[R]? = some (ewObj a E.s.length c ta E.t.length tc x tvx l0 (ovV sn o0)) := by
    obtain ⟨tv, h1, h2⟩ := hI.own
    obtain ⟨bs, cp, rfl, _⟩ := own8 h2
    exact ⟨bs, cp, _, rfl, h1⟩
  obtain ⟨_, rfl, hown⟩ := hform
  have hRl : R < w.heap.size := row_lt hown
  have HE := hide e
  have HDP := hide (And.intro hd1 hd2)
  have hB1 : Below w.heap.size w ((w.alloc (.cells #[.pointer (some ⟨R, 0, none⟩)] 138)).alloc (.cells #[.int .i64 t0.size] 3)) := ((Below.refl w.heap.size w).alloc (Nat.le_refl _) _).alloc (by simp) _
  have hG1 : ((w.alloc (.cells #[.pointer (some ⟨R, 0, none⟩)] 138)).alloc (.cells #[.int .i64 t0.size] 3)).heap[w.heap.size]? = some (.cells #[.pointer (some ⟨R, 0, none⟩)] 138 (0, 0)) := block_below (heap_alloc_new w _) ((Below.refl _ _).alloc (Nat.le_refl _) _)
  have hG2 : ((w.alloc (.cells #[.pointer (some ⟨R, 0, none⟩)] 138)).alloc (.cells #[.int .i64 t0.size] 3)).heap[w.heap.size + 1]? = some (.cells #[.int .i64 t0.size] 3 (0, 0)) := by
    simpa using heap_alloc_new (w.alloc (.cells #[.pointer (some ⟨R, 0, none⟩)] 138)) (.cells #[.int .i64 t0.size] 3)
  have hg3 := block_below hown ((Below.refl w.heap.size w).alloc (Nat.le_refl _) (.cells #[.pointer (some ⟨R, 0, none⟩)] 138))
  unfold ewObj at hg3
  have c3 : (w.alloc (.cells #[.pointer (some ⟨R, 0, none⟩)] 138)).cell? ⟨R, 3, none⟩ = some (.slice bs t0.size cp) := by simp [World.cell?, hg3]
  have hsz1 : ((w.alloc (.cells #[.pointer (some ⟨R, 0, none⟩)] 138)).alloc (.cells #[.int .i64 t0.size] 3)).heap.size = w.heap.size + 1 + 1 := by simp
  clear hc hN hI htc e hown hd1 hd2 hg3
  refine (callsIn_wide (n := 3)).1 (callsIn_of_wp_marks Tryz.func75 rfl trivial ?_ rfl)
  refine wpIn_wide.2 ?_
  simp only [Tryz.ntmps75, List.size_toArray, List.length_cons, List.length_nil, Nat.reduceAdd, Nat.reduceSub, Array.replicate_succ, Array.replicate_zero, List.push_toArray, List.append_toArray, List.nil_append, List.cons_append]
  go_upto_region 2 with fail
  obtain ⟨wb, hwb⟩ : ∃ wb, w.heap.size = wb := ⟨_, rfl⟩
  obtain ⟨sb, hsb⟩ : ∃ sb, w.heap.size + 1 = sb := ⟨_, rfl⟩
  rw [hsb] at hG2 hsz1 ⊢
  rw [hwb] at hG1 ⊢
  generalize (w.alloc (.cells #[.pointer (some ⟨R, 0, none⟩)] 138)).alloc (.cells #[.int .i64 t0.size] 3) = w1 at hB1 hG1 hG2 hsz1 ⊢
  have hneW : wb ≠ R := by omega
  have hneS : sb ≠ R := by omega
  have HB1 := hide hB1
  have HG1 := hide hG1
  have HG2 := hide hG2
  have HI1 := hide (HI.out.below hB1)
  have hR1 : R < w1.heap.size := by have := hB1.size; omega
  have hW1 : W.heap.size ≤ w1.heap.size := HI1.out.bel.size
  have HSZ : Hid (∀ wq, FrE R w1 wq → w1.heap.size ≤ wq.heap.size) := fun wq q => by have := row_lt (q _ _ _ hneS (by decide) HG2.out); omega
  clear hB1 hG1 hG2 hwb hsb c3 hRl hsz1
  go_wp2_with fail
  go_loopg [1, 8] F (fun gk vi va wr => ValAt E W R a c ta tc sn F dp r t0 l0 o0 w1 gk vi va wr)
  case atStart => exact ⟨i, x, r, l0, [], rfl, hi, Nat.le_refl _, HE.out, hfx, hf1, hx, World.ownsRow_nil _ _ _ _, HI1.out, fun _ _ _ _ _ h => h, Chain.start l0 r⟩
  case round =>
    clear hi hfx hf1 hx HE HI HI1
    obtain ⟨i, x, r', lc, ars, rfl, hi, hgF, hE, hfx, hf1, hx, hown, hEw, hFr, hCh⟩ := hrel
    obtain ⟨G, rfl⟩ : ∃ G, gk = G + 1 := ⟨gk - 1, by omega⟩
    obtain ⟨bsO, cpO, rfl⟩ := own_formF hown
    have HEW := hide hEw
    have HOW := hide hown
    have HFR := hide hFr
    have HCH := hide hCh
    have HEE := hide hE
    have HHI := hide hi
    obtain ⟨b, o, ka, kc, hab, ncl, hkc, hkm, hka⟩ := HC.out.wc.sch i hi
    have hk8 := count8 HC.out.wc.right.2.2.1 hi
    obtain ⟨hk1, hk14, hT1, hT2, hT3, hT4, hT5⟩ := tagged_of HC.out.wc.right hi
    obtain ⟨N, hN⟩ : ∃ N, nd E.s i = N := ⟨_, rfl⟩
    have HN := hide hN
    rw [hN] at ncl hkc hka hk8 hk1 hk14 hT1 hT2 hT3 hT4 hT5
    have HKA := hide hka
    have HKM := hide hkm
    obtain ⟨n0, n1, n2, n3⟩ := ncl
    have hbW := HEW.out.bel
    have m0 : wr.cell? ⟨b, o + i * 4, none⟩ = some (.int .i64 N.kind) := (hbW.cell (lt_of_cell n0)).trans n0
    have m1 : wr.cell? ⟨b, o + i * 4 + 1, none⟩ = some (.int .i64 N.tag) := (hbW.cell (lt_of_cell n1)).trans n1
    have m2 : wr.cell? ⟨b, o + i * 4 + 2, none⟩ = some (.int .i64 N.mode) := (hbW.cell (lt_of_cell n2)).trans n2
    have m3 : wr.cell? ⟨b, o + i * 4 + 3, none⟩ = some (.slice ka N.kids.length kc) := (hbW.cell (lt_of_cell n3)).trans n3
    have hlb := lt_of_cell m0
    simp only at hlb
    have hgw := HFR.out _ _ _ hneW (by decide) HG1.out
    have p0 : wr.cell? ⟨wb, 0, none⟩ = some (.pointer (some ⟨R, 0, none⟩)) := cell_of_row hgw rfl
    have hlw := row_lt hgw
    obtain ⟨tv, hrow, _⟩ := HEW.out.own
    unfold ewObj at hrow
    have r0 : wr.cell? ⟨R, 0, none⟩ = some (.slice (some ⟨b, o, none⟩) E.s.length c) := by rw [← hab]; simp [World.cell?, hrow]
    have hRr : R < wr.heap.size := lt_of_cell r0
    have hi' : (i : Int) < (E.s.length : Int) := by omega
    have HTK : Hid (∀ wq, EwD W wq R a E.s.length c ta E.t.length tc x t0 lc (ovV sn o0) → Calls Tryz.prog 109 #[.pointer (some ⟨R, 0, none⟩), .agg #[.int .i64 N.kind, .int .i64 N.tag, .int .i64 N.mode, .slice ka N.kids.length kc], .int .i64 dp] wq fun e w' => RetTk W R a E.s.length c ta E.t tc x t0 lc (ovV sn o0) sn N dp wq e w') := fun wq q =>
      take_any W wq R a E.s.length c ta E.t tc x t0 lc (ovV sn o0) sn N ka kc dp HC.out.lay hk8 HLEN.out HTC.out hx (fun j hj => ⟨by have := HC.out.txt hj; omega, HC.out.wc.tree j hj⟩) q
    have hB2 : Below wr.heap.size wr (wr.alloc (.cells #[.int .i64 N.kind, .int .i64 N.tag, .int .i64 N.mode, .slice ka N.kids.length kc] 58)) := (Below.refl _ _).alloc (Nat.le_refl _) _
    have hGN : (wr.alloc (.cells #[.int .i64 N.kind, .int .i64 N.tag, .int .i64 N.mode, .slice ka N.kids.length kc] 58)).heap[wr.heap.size]? = some (.cells #[.int .i64 N.kind, .int .i64 N.tag, .int .i64 N.mode, .slice ka N.kids.length kc] 58 (0, 0)) := heap_alloc_new wr _
    have HB2 := hide hB2
    have HGN := hide hGN
    have hneN : wr.heap.size ≠ R := by omega
    clear hEw hown hFr hCh hE hi hN hka hkm n0 n1 n2 n3 hbW hgw hrow hab hB2 hGN
    go_upto_region 4 with fail
    obtain ⟨nb, hnb⟩ : ∃ nb, wr.heap.size = nb := ⟨_, rfl⟩
    rw [hnb] at HGN hneN ⊢
    have HEW2 := hide (HEW.out.below HB2.out)
    have HOW2 := hide (own_below HOW.out HB2.out)
    have HFR2 : Hid (FrE R w1 (wr.alloc (.cells #[.int .i64 N.kind, .int .i64 N.tag, .int .i64 N.mode, .slice ka N.kids.length kc] 58))) := HFR.out.trans (FrE.of_below HB2.out)
    have hs2 := HB2.out.size
    generalize wr.alloc (.cells #[.int .i64 N.kind, .int .i64 N.tag, .int .i64 N.mode, .slice ka N.kids.length kc] 58) = w2 at HGN HEW2 HOW2 HFR2 HB2 hs2 ⊢
    have hgw := HFR2.out _ _ _ hneW (by decide) HG1.out
    have p0' : w2.cell? ⟨wb, 0, none⟩ = some (.pointer (some ⟨R, 0, none⟩)) := cell_of_row hgw rfl
    have k0 : w2.cell? ⟨nb, 0, none⟩ = some (.int .i64 N.kind) := cell_of_row HGN.out rfl
    have k1 : w2.cell? ⟨nb, 1, none⟩ = some (.int .i64 N.tag) := cell_of_row HGN.out rfl
    have k2 : w2.cell? ⟨nb, 2, none⟩ = some (.int .i64 N.mode) := cell_of_row HGN.out rfl
    have k3 : w2.cell? ⟨nb, 3, none⟩ = some (.slice ka N.kids.length kc) := cell_of_row HGN.out rfl
    have hlw2 := row_lt hgw
    have hln2 := row_lt HGN.out
    clear m0 m1 m2 m3 hlb p0 hlw r0 hRr hgw hnb HEW HOW HFR HB2 hs2
    go_wp2_with fail
    refine (HTK.out _ HEW2.out).mono ?_
    rintro e w3 ⟨hF3, ⟨hxl, hdl, hfit, rfl, hE3⟩ | ⟨hno, rfl, hE3⟩⟩
    · obtain ⟨r'', hb'', hr''⟩ := outR_of (by rw [← wrF_yes hxl hdl (by rw [HN.out]; exact hfit)]; exact HEE.out)
      rw [HN.out] at hr''
      have HBF := hide hb''
      have HFIT : Hid (FitP N (vl E.t x)) := hfit
      have HDL := hide hdl
      have HE3 := hide hE3
      have HF3 := hide hF3
      have hCh := HCH.out
      rw [hr''] at hCh
      have HCH3 : Hid (Chain l0 lc ars r (outR N r'')) := hCh
      have HOW3 := hide (own_frE HOW2.out hF3 (by decide) hR1)
      obtain ⟨v, hv⟩ : ∃ v, vl E.t x = v := ⟨_, rfl⟩
      have HV := hide hv
      have hg3 := hF3 _ _ _ hneN (by decide) HGN.out
      have HGN3 := hide hg3
      have hgw := HFR2.out.trans hF3 _ _ _ hneW (by decide) HG1.out
      have HFR3 : Hid (FrE R w1 w3) := HFR2.out.trans hF3
      rw [hv]
      clear hxl hdl hfit hE3 hF3 hb'' hr'' hCh hg3 hgw hv p0' k0 k1 k2 k3 hlw2 hln2 HOW2 HFR2 HEW2 HGN HTK HCH HEE
      have hB4 : Below w3.heap.size w3 (w3.alloc (.cells #[.int .i64 v.kind, .string v.text, .int .i64 v.alt, .int .i64 v.kids] 60)) := (Below.refl _ _).alloc (Nat.le_refl _) _
      have hGV : (w3.alloc (.cells #[.int .i64 v.kind, .string v.text, .int .i64 v.alt, .int .i64 v.kids] 60)).heap[w3.heap.size]? = some (.cells #[.int .i64 v.kind, .string v.text, .int .i64 v.alt, .int .i64 v.kids] 60 (0, 0)) := heap_alloc_new w3 _
      have HB4 := hide hB4
      have hneV : w3.heap.size ≠ R := by obtain ⟨tv, h1, _⟩ := HE3.out.own; have := row_lt h1; omega
      go_upto_region 7 with fail
      obtain ⟨vb, hvb⟩ : ∃ vb, w3.heap.size = vb := ⟨_, rfl⟩
      rw [hvb] at hGV hneV ⊢
      have HE4 := hide (HE3.out.below HB4.out)
      have HO4 := hide (own_below HOW3.out HB4.out)
      have HF4 : Hid (FrE R w1 (w3.alloc (.cells #[.int .i64 v.kind, .string v.text, .int .i64 v.alt, .int .i64 v.kids] 60))) := HFR3.out.trans (FrE.of_below HB4.out)
      have HN4 := hide (block_below HGN3.out HB4.out)
      have HV4 := hide hGV
      generalize w3.alloc (.cells #[.int .i64 v.kind, .string v.text, .int .i64 v.alt, .int .i64 v.kids] 60) = w4 at hGV HE4 HO4 HF4 HN4 HV4 HB4 ⊢
      have k0 : w4.cell? ⟨nb, 0, none⟩ = some (.int .i64 N.kind) := cell_of_row HN4.out rfl
      have k1 : w4.cell? ⟨nb, 1, none⟩ = some (.int .i64 N.tag) := cell_of_row HN4.out rfl
      have k2 : w4.cell? ⟨nb, 2, none⟩ = some (.int .i64 N.mode) := cell_of_row HN4.out rfl
      have k3 : w4.cell? ⟨nb, 3, none⟩ = some (.slice ka N.kids.length kc) := cell_of_row HN4.out rfl
      have hln4 := row_lt HN4.out
      obtain ⟨c0, n0, b0, ok, hok1, hok2, HAR⟩ : ∃ (c0 n0 : Int) (b0 ok : Bool), (ok = true → N.mode = 1 ∧ c0 = 2 ∧ n0 = N.tag ∧ b0 = true) ∧ (ok = false → ¬ N.mode = 1) ∧ Hid (∀ wq, Below W.heap.size W wq → Calls Tryz.prog 110 #[.agg #[.int .i64 N.kind, .int .i64 N.tag, .int .i64 N.mode, .slice ka N.kids.length kc]] wq fun e w' => e = .returned (.tuple #[.agg #[.int .i64 c0, .int .i64 n0, .bool b0], .bool ok]) ∧ Below wq.heap.size wq w') := by
        by_cases hm : N.mode = 1
        · have htg : 0 ≤ N.tag := by
            by_cases q : N.tag < 0
            · have := hT3 (by omega); omega
            · omega
          exact ⟨2, N.tag, true, true, fun _ => ⟨hm, rfl, rfl, rfl⟩, fun q => (by cases q), fun wq q => around_yes N ka kc wq hm (HC.out.lay.below q).n htg (by omega)⟩
        · exact ⟨0, 0, false, false, fun q => (by cases q), fun _ => hm, fun wq q => around_no N ka kc wq hm⟩
      have HOK1 := hide hok1
      have HOK2 := hide hok2
      clear hvb hGV hB4 HE3 HOW3 HFR3 HGN3 HB4 hok1 hok2
      go_wp2_with fail
      refine (HAR.out _ HE4.out.bel).mono ?_
      rintro e w5 ⟨rfl, hb5⟩
      have HB5 := hide hb5
      clear hb5 k0 k1 k2 k3 hln4
      have hB6 : Below w4.heap.size w4 (w5.alloc (.cells #[.int .i64 c0, .int .i64 n0, .bool b0] 149)) := HB5.out.alloc HB5.out.size _
      have hGF : (w5.alloc (.cells #[.int .i64 c0, .int .i64 n0, .bool b0] 149)).heap[w5.heap.size]? = some (.cells #[.int .i64 c0, .int .i64 n0, .bool b0] 149 (0, 0)) := heap_alloc_new w5 _
      go_upto_region 8 with fail
      obtain ⟨fb', hfb⟩ : ∃ fb', w5.heap.size = fb' := ⟨_, rfl⟩
      rw [hfb] at hGF ⊢
      have HE6 := hide (HE4.out.below hB6)
      have HO6 := hide (own_below HO4.out hB6)
      have HF6 : Hid (FrE R w1 (w5.alloc (.cells #[.int .i64 c0, .int .i64 n0, .bool b0] 149))) := HF4.out.trans (FrE.of_below hB6)
      have HN6 := hide (block_below HN4.out hB6)
      have HV6 := hide (block_below HV4.out hB6)
      have HG6 := hide hGF
      generalize w5.alloc (.cells #[.int .i64 c0, .int .i64 n0, .bool b0] 149) = w6 at hGF HE6 HO6 HF6 HN6 HV6 HG6 hB6 ⊢
      have hgw := HF6.out _ _ _ hneW (by decide) HG1.out
      have p6 : w6.cell? ⟨wb, 0, none⟩ = some (.pointer (some ⟨R, 0, none⟩)) := cell_of_row hgw rfl
      obtain ⟨tv6, hrow6, _⟩ := HE6.out.own
      have HR6 := hide hrow6
      unfold ewObj at hrow6
      have r4 : w6.cell? ⟨R, 4, none⟩ = some (.bool lc) := by simp [World.cell?, hrow6]
      have hRr : R < w6.heap.size := lt_of_cell r4
      have hlw6 := row_lt hgw
      clear hfb hGF hB6 hgw hrow6 HE4 HO4 HF4 HN4 HV4 HB5 HAR
      go_cut [51] from 22 to 79 (fun vq wx => vq = .bool (ok && !lc) ∧ wx = w6)
      case first =>
        cases ok
        · go_wp2_with fail
          go_meet
          exact ⟨rfl, rfl⟩
        · cases lc
          · go_wp2_with fail
            go_meet
            exact ⟨rfl, rfl⟩
          · go_wp2_with fail
            go_meet
            exact ⟨rfl, rfl⟩
      case rest =>
        obtain ⟨rfl, hw⟩ := hcut
        obtain rfl : w6 = wc := hw.symm
        clear hw
        go_upto_if 51 with fail
        go_cut [8] from 22 to 79 (fun va wx => ∃ (lc' : Bool) (ars' : List TagI), wx.ownsRow w1.heap.size 149 3 va ars'.length (acells ars') ∧ EwD W wx R a E.s.length c ta E.t.length tc (x + 1) t0 lc' (ovV sn o0) ∧ FrE R w1 wx ∧ wx.heap[nb]? = some (.cells #[.int .i64 N.kind, .int .i64 N.tag, .int .i64 N.mode, .slice ka N.kids.length kc] 58 (0, 0)) ∧ wx.heap[vb]? = some (.cells #[.int .i64 v.kind, .string v.text, .int .i64 v.alt, .int .i64 v.kids] 60 (0, 0)) ∧ Chain l0 lc' ars' r r'')
        case first =>
          by_cases hq : (ok && !lc) = true
          · obtain ⟨rfl, rfl⟩ : ok = true ∧ lc = false := by simpa using hq
            obtain ⟨hm, rfl, rfl, rfl⟩ := HOK1.out rfl
            have hlen2 := HCH3.out.len
            have htg : 0 ≤ N.tag ∧ N.tag ≤ 30 := by
              refine ⟨?_, by omega⟩
              by_cases q : N.tag < 0
              · have := hT3 (by omega); omega
              · omega
            have HCH7 : Hid (Chain l0 (decide (2000 < ars.length + 1)) (ars ++ [⟨N.tag, htg⟩]) r r'') := HCH3.out.head hm ⟨N.tag, htg⟩ rfl
            obtain ⟨i0, hi0, hz0, hz1, hz2⟩ := info_parts Tryz.infoFirst
            have g0 : w6.cell? ⟨fb', 0, none⟩ = some (.int .i64 2) := cell_of_row HG6.out rfl
            have g1 : w6.cell? ⟨fb', 1, none⟩ = some (.int .i64 N.tag) := cell_of_row HG6.out rfl
            have g2 : w6.cell? ⟨fb', 2, none⟩ = some (.bool true) := cell_of_row HG6.out rfl
            have hlf := row_lt HG6.out
            have hsz6 := HSZ.out _ HF6.out
            have HAPP : Hid (∀ g7 cap7 w7, w7.ownsRow w1.heap.size 149 3 (.slice (some ⟨g7, 0, none⟩) (ars.length + 1) cap7) (ars.length + 1) (acells ars ++ [.int .i64 2, .int .i64 N.tag, .bool true]) → (w6.alloc (.cells #[.int .i64 2, .int .i64 N.tag, .bool true] 149)).grownBy w7 (Value.slice bsO ars.length cpO).ownBlock →
                w7.cell? ⟨wb, 0, none⟩ = some (.pointer (some ⟨R, 0, none⟩)) ∧ w7.cell? ⟨R, 4, none⟩ = some (.bool false) ∧ w7.frozen? ⟨R, 4, none⟩ = false ∧ R < w7.heap.size ∧ wb < w7.heap.size ∧
                ∀ lq : Bool, lq = decide (2000 < ars.length + 1) → ∃ (lc' : Bool) (ars' : List TagI), (w7.setCell ⟨R, 4, none⟩ (.bool lq)).ownsRow w1.heap.size 149 3 (.slice (some ⟨g7, 0, none⟩) (ars.length + 1) cap7) ars'.length (acells ars') ∧ EwD W (w7.setCell ⟨R, 4, none⟩ (.bool lq)) R a E.s.length c ta E.t.length tc (x + 1) t0 lc' (ovV sn o0) ∧ FrE R w1 (w7.setCell ⟨R, 4, none⟩ (.bool lq)) ∧ (w7.setCell ⟨R, 4, none⟩ (.bool lq)).heap[nb]? = some (.cells #[.int .i64 N.kind, .int .i64 N.tag, .int .i64 N.mode, .slice ka N.kids.length kc] 58 (0, 0)) ∧ (w7.setCell ⟨R, 4, none⟩ (.bool lq)).heap[vb]? = some (.cells #[.int .i64 v.kind, .string v.text, .int .i64 v.alt, .int .i64 v.kids] 60 (0, 0)) ∧ Chain l0 lc' ars' r r'') := fun g7 cap7 w7 h1 h2 => by
              have hB := (Below.refl w6.heap.size w6).alloc (Nat.le_refl _) (.cells #[.int .i64 2, .int .i64 N.tag, .bool true] 149)
              have hrow : ∀ g, (Value.slice bsO ars.length cpO).ownBlock = some g → w1.heap.size ≤ g ∧ ∃ cur, w6.heap[g]? = some (.cells cur 149 (0, 0)) := fun g q => by
                refine ⟨(HO6.out.lt g q).1, ?_⟩
                rcases HO6.out.2 with ⟨h, _⟩ | ⟨g', cp', cur, h, _, hgg, _⟩
                · rw [h] at q; cases q
                · rw [h] at q
                  simp only [Value.ownBlock, Option.some.injEq] at q
                  subst q
                  exact ⟨cur, hgg⟩
              have hold : ∀ (k : Nat) (A : Array Value) (T : TypeId), T ≠ 149 → w6.heap[k]? = some (.cells A T (0, 0)) → w7.heap[k]? = some (.cells A T (0, 0)) := fun k A T hT hk => by
                have hk' := block_below hk hB
                rw [h2.block k (row_lt hk') (fun q => ?_)]
                · exact hk'
                · obtain ⟨_, cur, hcur⟩ := hrow k q.symm
                  rw [hk] at hcur
                  injection hcur with hcur
                  injection hcur with _ hcur _
                  exact hT hcur
              have hE7 : EwD W w7 R a E.s.length c ta E.t.length tc (x + 1) t0 false (ovV sn o0) := (HE6.out.below hB).grown h2 fun g q => by
                obtain ⟨h3, cur, hcur⟩ := hrow g q
                refine ⟨by omega, by omega, fun A hA => ?_⟩
                have := block_below hcur hB
                rw [hA] at this
                injection this with this
                injection this with _ this _
                revert this
                decide
              have hgw7 := hold _ _ _ (by decide) (HF6.out _ _ _ hneW (by decide) HG1.out)
              have hR7 := hold _ _ _ (by decide) (show w6.heap[R]? = some (.cells #[.slice a E.s.length c, .slice ta E.t.length tc, .int .i64 ((x + 1 : Nat) : Int), tv6, .bool false, ovV sn o0] 140 (0, 0)) from HR6.out)
              refine ⟨cell_of_row hgw7 rfl, cell_of_row hR7 rfl, frozen_row hR7, row_lt hR7, row_lt hgw7, fun lq hlq => ⟨lq, ars ++ [⟨N.tag, htg⟩], ?_, hE7.setLong lq, ?_, ?_, ?_, by rw [hlq]; exact HCH7.out⟩⟩
              · refine ownsRow_setCell_other ?_ ?_ _
                · rw [acells_snoc, List.length_append]; exact h1
                · exact row_ne hR7 h1 (by decide)
              · intro k A T hk hT hg
                rw [heap_setCell_other _ _ _ _ hk]
                have hg6 := HF6.out k A T hk hT hg
                have hk' := block_below hg6 hB
                rw [h2.block k (row_lt hk') (fun q => ?_)]
                · exact hk'
                · have := (hrow k q.symm).1
                  have := row_lt hg
                  omega
              · rw [heap_setCell_other _ _ _ _ hneN]
                exact hold _ _ _ (by decide) HN6.out
              · rw [heap_setCell_other _ _ _ _ hneV]
                exact hold _ _ _ (by decide) HV6.out
            have hlz : (2000 : Int) < ((ars.length + 1 : Nat) : Int) ↔ 2000 < ars.length + 1 := by omega
            clear hq hm
            go_wp2_with (at_builtin; refine wpList_append_lies _ rfl _ _ 186 rfl w1.heap.size 149 i0 _ 3 24 Tryz.underlying186 hi0 hz0 hz1 hz2 rfl (by decide) (.slice bsO ars.length cpO) ars.length (acells ars) rfl (HO6.out.alloc _) ⟨w6.heap.size, 0, none⟩ 1 1 [.int .i64 2, .int .i64 N.tag, .bool true] rfl rfl (World.news_of_block (heap_alloc_new w6 (.cells #[.int .i64 2, .int .i64 N.tag, .bool true] 149))) (by intro u hu; simp at hu; rcases hu with rfl | rfl | rfl <;> rfl) (by decide) (by unfold maxLen; omega) (by omega) (by simp; omega) (w6.heap.size + 1) (by simp) ?_; intro g7 cap7 w7 h71 h72 h73 h74; obtain ⟨e7, e8, e9, e10, e11, hfin⟩ := HAPP.out g7 cap7 w7 h71 h72; have HFIN := hide hfin; clear h71 h72 h73 h74 hfin)
            go_meet
            refine HFIN.out _ ?_
            first | rfl | exact decide_eq_decide.2 (by omega) | (simp; omega)
          · have HCH7 : Hid (Chain l0 lc ars r r'') := by
              refine HCH3.out.plain ?_
              cases hok : ok
              · exact .inl (HOK2.out hok)
              · right
                cases hlc : lc
                · rw [hok, hlc] at hq; exact absurd rfl hq
                · rfl
            have hqb : (ok && !lc) = false := by simpa using hq
            rw [hqb]
            clear hq
            go_wp2_with fail
            go_meet
            exact ⟨lc, ars, HO6.out, HE6.out, HF6.out, HN6.out, HV6.out, HCH7.out⟩
        case rest =>
          obtain ⟨lc', ars', hO7, hE7, hF7, hN7, hV7, hC7⟩ := hcut
          obtain ⟨bsA, cpA, rfl⟩ := own_formF hO7
          have HO7 := hide hO7
          have HE7 := hide hE7
          have HF7 := hide hF7
          have HN7 := hide hN7
          have HV7 := hide hV7
          have HC7 := hide hC7
          have hgw := hF7 _ _ _ hneW (by decide) HG1.out
          have p7 : wc.cell? ⟨wb, 0, none⟩ = some (.pointer (some ⟨R, 0, none⟩)) := cell_of_row hgw rfl
          have k0 : wc.cell? ⟨nb, 0, none⟩ = some (.int .i64 N.kind) := cell_of_row hN7 rfl
          have k1 : wc.cell? ⟨nb, 1, none⟩ = some (.int .i64 N.tag) := cell_of_row hN7 rfl
          have k2 : wc.cell? ⟨nb, 2, none⟩ = some (.int .i64 N.mode) := cell_of_row hN7 rfl
          have k3 : wc.cell? ⟨nb, 3, none⟩ = some (.slice ka N.kids.length kc) := cell_of_row hN7 rfl
          have v0 : wc.cell? ⟨vb, 0, none⟩ = some (.int .i64 v.kind) := cell_of_row hV7 rfl
          have v1 : wc.cell? ⟨vb, 1, none⟩ = some (.string v.text) := cell_of_row hV7 rfl
          have v2 : wc.cell? ⟨vb, 2, none⟩ = some (.int .i64 v.alt) := cell_of_row hV7 rfl
          have v3 : wc.cell? ⟨vb, 3, none⟩ = some (.int .i64 v.kids) := cell_of_row hV7 rfl
          have hlw7 := row_lt hgw
          have hln7 := row_lt hN7
          have hlv7 := row_lt hV7
          have hxl : x < E.t.length := by
            rcases Nat.lt_or_ge x E.t.length with q | q
            · exact q
            · have h1 := HFIT.out.1
              have h2 : vl E.t x = ⟨0, noB, 0, 0⟩ := by unfold vl; rw [List.getD_eq_getElem?_getD, List.getElem?_eq_none q]; rfl
              rw [h2] at h1
              simp only at h1
              omega
          clear hO7 hE7 hF7 hN7 hV7 hC7 hgw p6 r4 hRr hlw6 HE6 HO6 HF6 HN6 HV6 HG6 HR6 HCH3 HOK1 HOK2
          by_cases h13 : N.kind = 13
          · have hf13 := (fit13 h13 HFIT.out.1).1 HFIT.out
            rw [HV.out] at hf13
            obtain ⟨al, hal⟩ : ∃ al : Nat, v.alt = al := ⟨v.alt.toNat, by omega⟩
            have hall : al < N.kids.length := by omega
            obtain ⟨b', o', hkaE, kcl⟩ := HKA.out al hall
            obtain ⟨kc0, _, _⟩ := kcl
            have hmem : N.kids.getD al kd0 ∈ N.kids := kd_mem (n := N) hall
            obtain ⟨y, hy⟩ : ∃ y, N.kids.getD al kd0 = y := ⟨_, rfl⟩
            rw [hy] at kc0 hmem
            have hwn := HC.out.wc.right.fine.within i HHI.out y (by rw [HN.out]; exact hmem)
            obtain ⟨t, ht⟩ : ∃ t : Nat, y.node = t := ⟨y.node.toNat, by omega⟩
            have htl : t < E.s.length := by omega
            rw [ht] at kc0
            have q0 : wc.cell? ⟨b', o' + al * 3, none⟩ = some (.int .i64 t) := (HE7.out.bel.cell (lt_of_cell kc0)).trans kc0
            have hlq := lt_of_cell q0
            simp only at hlq
            have HNX : Hid (wrF E G t (x + 1) dp = some r'') := by
              have h := HBF.out
              rw [HN.out, HV.out] at h
              unfold wbareF at h
              rw [if_pos h13, if_pos hf13] at h
              have e1 : (kd N v.alt.toNat).node.toNat = t := by
                have : kd N v.alt.toNat = y := by unfold kd; rw [hal]; exact hy
                rw [this, ht]; rfl
              rw [e1] at h
              exact h
            rw [hkaE] at k3
            rw [hal] at v2
            rw [h13] at k0
            have hall' : (al : Int) < (N.kids.length : Int) := by omega
            clear kc0 hmem hy hwn hf13 h13 hkaE hal
            go_wp2
            go_roundg G
            case rel => exact ⟨t, x + 1, r'', lc', ars', rfl, htl, by omega, HNX.out, by omega, by omega, by omega, HO7.out, HE7.out, HF7.out, HC7.out⟩
            case measure => omega
          · have h13b : (N.kind != 13) = true := by simpa using h13
            have h13c : (N.kind == 13) = false := by simpa using h13
            have HOE : Hid (Calls Tryz.prog 111 #[.pointer (some ⟨R, 0, none⟩), .agg #[.int .i64 N.kind, .int .i64 N.tag, .int .i64 N.mode, .slice ka N.kids.length kc], .agg #[.int .i64 v.kind, .string v.text, .int .i64 v.alt, .int .i64 v.kids], .int .i64 dp] wc fun e w' => AfterE E W R a c ta tc sn r'' t0 lc' o0 wc e w') := by
              have := own_e E W R a c ta tc G sn HC.out HTC.out (HNN.out G (by omega)) (by omega) i HHI.out ka kc (by rw [HN.out]; exact HKA.out) (by rw [HN.out]; exact hkc) HKM.out x dp r'' t0 lc' o0 wc (by rw [HN.out]; exact HFIT.out) HBF.out hxl (by omega) HDP.out.1 HDL.out h4 HE7.out (by rw [HN.out]; exact h13)
              rw [HN.out, HV.out] at this
              exact this
            go_wp2_with fail
            refine HOE.out.mono ?_
            rintro e w8 ⟨hF8, ⟨b8', x8, u8', t8, l8, o8, hq, rfl, hT8, hE8⟩ | ⟨hq, p, x8, t8, l8, ov, rfl, hE8⟩⟩
            · have HE8 := hide hE8
              have HT8 := hide hT8
              have HF8 : Hid (FrE R w1 w8) := HF7.out.trans hF8
              have HO8 := hide (own_frE HO7.out hF8 (by decide) hR1)
              have hC8 := HC7.out
              rw [hq] at hC8
              have HC8 := hide hC8
              clear hF8 hq hT8 hE8 hC8 HO7 HE7 HF7 HN7 HV7 HC7 p7 k0 k1 k2 k3 v0 v1 v2 v3 hlw7 hln7 hlv7 HOE
              go_wp2_with fail
              refine (backward_any _ _ _ _).mono ?_
              rintro e w9 ⟨rfl, rfl⟩
              have hB9 : Below w8.heap.size w8 (w8.alloc (.cells #[.slice bsA ars'.length cpA] 186)) := (Below.refl _ _).alloc (Nat.le_refl _) _
              have hG9 : (w8.alloc (.cells #[.slice bsA ars'.length cpA] 186)).heap[w8.heap.size]? = some (.cells #[.slice bsA ars'.length cpA] 186 (0, 0)) := heap_alloc_new w8 _
              have hne9 : w8.heap.size ≠ R := by obtain ⟨tv, h1, _⟩ := HE8.out.own; have := row_lt h1; omega
              have hAr := AroundIn.of_own (own_below HO8.out hB9) hG9 hR1 hne9
              have HE9 := hide (HE8.out.below hB9)
              have HF9 : Hid (FrE R w1 (w8.alloc (.cells #[.slice bsA ars'.length cpA] 186))) := HF8.out.trans (FrE.of_below hB9)
              obtain ⟨Bs, hBs⟩ : ∃ Bs, w8.heap.size = Bs := ⟨_, rfl⟩
              rw [hBs] at hAr ⊢
              generalize w8.alloc (.cells #[.slice bsA ars'.length cpA] 186) = w9 at hAr HE9 HF9 ⊢
              have hl9 : ars'.length ≤ 1000000 := by have := HC8.out.len; omega
              clear hB9 hG9 hne9 hBs HE8 HF8 HO8
              have hW9 : W.heap.size ≤ w9.heap.size := HE9.out.bel.size
              have HFIN : Hid (∀ (D : Nat) (W' : World), w9.heap.size ≤ D → ((∃ (t9 : ByteArray) (l9 : Bool), EwD W W' R a E.s.length c ta E.t.length tc x8 t9 l9 (ovV sn o8) ∧ Tld t0 lc' o0 (wrapsB (backTo ars' ars'.length) b8') u8' t9 l9 o8) ∧ FrE R w9 W') → W'.heap[D]? = some (.deferred (some [])) → AfterE E W R a c ta tc sn r t0 l0 o0 w (.returned .nilIface) (W'.putObj D (.deferred none))) := fun D W' hD hs hK => by
                obtain ⟨⟨t9, l9, h1, h2⟩, h3⟩ := hs
                rw [wrapsB_all] at h2
                obtain ⟨b0, hr0, hT0⟩ := HC8.out.end h2
                have nc : ∀ (A : Array Value) (T : TypeId) (z : Nat × Nat), W'.heap[D]? ≠ some (.cells A T z) := fun A T z hA => by rw [hK] at hA; cases hA
                have hg := grownBy_putObj' W' D (.deferred none)
                have hE9 := h1.grown hg (fun g q => by
                  injection q with q
                  subst q
                  refine ⟨by omega, ?_, fun A => nc A _ _⟩
                  rintro rfl
                  obtain ⟨tv, hR, _⟩ := h1.own
                  exact nc _ _ _ hR)
                have hF9 : FrE R w9 (W'.putObj D (.deferred none)) := fun k A T hk hT hk' => by
                  have hX := h3 k A T hk hT hk'
                  rw [hg.block k (row_lt hX) (fun q => by injection q with q; subst q; exact nc _ _ _ hX)]
                  exact hX
                exact ⟨(FrE.of_below HB1.out).trans (HF9.out.trans hF9), .inl ⟨b0, x8, u8', t9, l9, o8, hr0, rfl, hT0, hE9⟩⟩
              go_wp2_with fail
              refine (wpIn_wide (n := 3)).1 ?_
              refine wpIn_rangeFunc_box (F := Fence.wide) rfl (by decide) (gf := 153) (lb := #[.pointer (some ⟨Bs, 0, none⟩)]) rfl trivial (enters_of Tryz.func153 (by kernel_rfl) rfl)
                (back_stops (3 - 1) (by decide) Bs R ars' hl9 w9 hAr) (fun h k q A T h1 h2 h3 => k q A T h1 h2 (h q A T h1 h2 h3)) ?kb (fun W' o' k A T _ _ hg => block_below hg ((Below.refl _ _).alloc (Nat.le_refl _) _)) (Below.refl _ _) (fun _ => rfl)
                (fun pre W' => (∃ (t9 : ByteArray) (l9 : Bool), EwD W W' R a E.s.length c ta E.t.length tc x8 t9 l9 (ovV sn o8) ∧ Tld t0 lc' o0 (wrapsB pre b8') u8' t9 l9 o8) ∧ FrE R w9 W') ?own ⟨⟨t8, l8, HE9.out, HT8.out⟩, fun _ _ _ _ _ h => h⟩
                16 149 (fun x => #[.int .i64 2, .int .i64 x.2.1, .bool true]) ?assign ?body ?done
              case kb =>
                intro W' l o1 o' _ hl' hc' _ k A T hk hT hg
                have hkl : k ≠ l := by
                  rintro rfl
                  rw [hg] at hl'
                  injection hl' with hl'
                  subst hl'
                  cases hc'
                exact (World.putObj_heap_other hkl).trans hg
              case own =>
                intro pre X Y row hs hg hr
                obtain ⟨⟨t9, l9, h1, h2⟩, h3⟩ := hs
                have nc : ∀ g, row = some g → ∀ (A : Array Value) (T : TypeId) (z : Nat × Nat), X.heap[g]? ≠ some (.cells A T z) := fun g q A T z hA => by
                  obtain ⟨_, o1, ho, hc'⟩ := hr g q
                  rw [hA] at ho
                  injection ho with ho
                  subst ho
                  cases hc'
                refine ⟨⟨t9, l9, h1.grown hg (fun g q => ⟨?_, ?_, fun A => nc g q A _ _⟩), h2⟩, fun k A T hk hT hk' => ?_⟩
                · have := (hr g q).1
                  omega
                · rintro rfl
                  obtain ⟨tv, hR, _⟩ := h1.own
                  exact nc _ q _ _ _ hR
                · have hX := h3 k A T hk hT hk'
                  rw [hg.block k (row_lt hX) (fun q => nc k q.symm _ _ _ hX)]
                  exact hX
              case assign =>
                intro l x1 W' K hK
                unfold encB at hK ⊢
                simp only [fold2, List.setIfInBounds_toArray, List.set_cons_zero, List.set_cons_succ] at hK ⊢
                gi_wp2
                exact hK
              case body =>
                rintro l pre x1 Bx W' ⟨⟨t9, l9, hE, hT⟩, hF⟩ hBx hlt
                unfold encB
                simp only [fold2, List.setIfInBounds_toArray, List.set_cons_zero, List.set_cons_succ]
                have hgw := (HF9.out.trans hF) _ _ _ hneW (by decide) HG1.out
                have hgs := (HF9.out.trans hF) _ _ _ hneS (by decide) HG2.out
                have p1 : W'.cell? ⟨wb, 0, none⟩ = some (.pointer (some ⟨R, 0, none⟩)) := cell_of_row hgw rfl
                have p2 : W'.cell? ⟨sb, 0, none⟩ = some (.int .i64 t0.size) := cell_of_row hgs rfl
                have p3 : W'.cell? ⟨Bx, 0, none⟩ = some (.int .i64 2) := cell_of_row hBx rfl
                have p4 : W'.cell? ⟨Bx, 1, none⟩ = some (.int .i64 x1.2.1) := cell_of_row hBx rfl
                have p5 : W'.cell? ⟨Bx, 2, none⟩ = some (.bool true) := cell_of_row hBx rfl
                have hl1 := row_lt hgw
                have hl2 := row_lt hgs
                have hl3 := row_lt hBx
                have HWR : Hid (Calls Tryz.prog 113 #[.pointer (some ⟨R, 0, none⟩), .int .i64 t0.size, .agg #[.int .i64 2, .int .i64 x1.2.1, .bool true]] W' fun e w' => AfterI W R a E.s.length c ta E.t.length tc x8 t9 l9 (ovV sn o8) t0.size (hdB 2 true x1.2.1 (t9.size - t0.size)) W' e w') := wrap_any W W' R a E.s.length c ta E.t.length tc x8 t9 l9 (ovV sn o8) sn HC.out.lay t0.size 2 x1.2.1 true (by decide) (by decide) x1.2.2.1 x1.2.2.2 hT.le hT.mx hE
                have HFI : Hid (∀ W4 t10 l10, FrX R W' W4 → Ins t9 l9 t0.size (hdB 2 true x1.2.1 (t9.size - t0.size)) t10 l10 → EwD W W4 R a E.s.length c ta E.t.length tc x8 t10 l10 (ovV sn o8) → KeepsFrom w9.heap.size W' W4 ∧ FrK R W' W4 ∧ ((∃ (t9 : ByteArray) (l9 : Bool), EwD W W4 R a E.s.length c ta E.t.length tc x8 t9 l9 (ovV sn o8) ∧ Tld t0 lc' o0 (wrapsB (pre ++ [x1]) b8') u8' t9 l9 o8) ∧ FrE R w9 W4)) := fun W4 t10 l10 h1 h2 h3 => by
                  obtain ⟨tv, hR, _⟩ := hE.own
                  refine ⟨frX_keeps h1 hR _, h1.fr, ⟨t10, l10, h3, ?_⟩, hF.trans h1.fr⟩
                  rw [wrapsB_snoc]
                  exact hT.wrap h2
                clear hgw hgs hBx hE hT hF
                gi_wp2_with (refine ⟨trivial, ?_⟩; gi_at_call 113; refine (CallsIn.inRound l (callsIn_wide.2 HWR.out)).mono ?_; rintro e W4 ⟨rfl, hF4, t10, l10, hi10, hE10⟩)
                exact HFI.out W4 t10 l10 hF4 hi10 hE10
              case done =>
                rintro D xs W' hD rfl hs hK
                have hA := HFIN.out D W' hD hs hK
                have HA := hide hA
                have HK := hide hK
                clear hA hs hK
                go_wp2
                refine leavesM_one HK.out (v := .nilIface) (by simp [results, Tryz.results75, go_sem]) rfl ?_
                exact HA.out
            · have HX : Hid (r = none) := by
                have h := HC7.out
                rw [hq] at h
                exact h.none
              have HE8 := hide hE8
              have HF8 : Hid (FrE R w w8) := (FrE.of_below HB1.out).trans (HF7.out.trans hF8)
              clear hq hE8 hF8
              unfold fault
              go_wp2
              refine leavesM_ret (v := fault p (sn .Tree)) (by simp [results, Tryz.results75, go_sem, fault]) rfl ?_
              exact ⟨HF8.out, .inr ⟨HX.out, p, x8, t8, l8, ov, rfl, HE8.out⟩⟩
    · have HX : Hid (r = none) := by
        have h := HEE.out
        rw [wrF_no HC.out.wc.ok (by rw [HN.out]; exact hno)] at h
        injection h with h
        have := HCH.out
        rw [← h] at this
        exact this.none
      have HE3 := hide hE3
      have HF3 : Hid (FrE R w w3) := (FrE.of_below HB1.out).trans (HFR2.out.trans hF3)
      clear hno hE3 hF3
      unfold fault
      go_wp2
      refine leavesM_ret (v := fault x (sn .Tree)) (by simp [results, Tryz.results75, go_sem, fault]) rfl ?_
      exact ⟨HF3.out.trans (FrE.of_below ((Below.refl _ _).alloc (Nat.le_refl _) _)), .inr ⟨HX.out, x, x, t0, lc, ovV sn o0, rfl, HE3.out.below ((Below.refl _ _).alloc (Nat.le_refl _) _)⟩⟩
end Go.Proofs.YtkkicodfpekbgaaGreatDoor

/-! encode.Bytes: what it answers. -/
namespace Go.Proofs.YtkkicodfpekbgaaGreatDoor
set_option linter.unusedSimpArgs false
set_option linter.unusedVariables false
open Go.RowKit

theorem evalue_all (E : WEnv) (W : World) (R : Nat) (a : Option Addr) (c : Nat) (ta : Option Addr) (tc : Nat) (sn : Sn → Addr) (hc : EC E W a ta sn) (htc : E.t.length ≤ tc) (f : Nat) : NodeE E W R a c ta tc sn f :=
  Nat.strongRecOn f fun F ih => evalue_step E W R a c ta tc sn hc htc F ih
/-- The error of a number. -/
def snW (k : Int) : Sn := if k = 2 then .Long else if k = 8 then .Order else .Tree
/-- What Bytes answers. -/
def RetBy (sn : Sn → Addr) (za : Addr) (v : Except Int ByteArray) (w : World) (e : Ending) (w' : World) : Prop :=
  Below w.heap.size w w' ∧
  ((∃ b, v = .ok b ∧ e = .returned (.tuple #[.string b, .nilIface])) ∨
   (∃ p, v = .error 1 ∧ e = .returned (.tuple #[.string ⟨#[]⟩, faultV 0 (fault p za)])) ∨
   (v = .error 1 ∧ e = .returned (.tuple #[.string ⟨#[]⟩, fault 0 za])) ∨
   (∃ k q, v = .error k ∧ (k = 2 ∨ k = 8 ∨ k = 11) ∧ e = .returned (.tuple #[.string ⟨#[]⟩, fault q (sn (snW k))])))

set_option maxHeartbeats 4000000 in
set_option maxRecDepth 100000 in
theorem bytes_any (E : WEnv) (s : List Nd) (a : Option Addr) (c : Nat) (root : Int) (t : List Vl) (ta : Option Addr) (tc : Nat) (v : Except Int ByteArray) (w : World) (sn : Sn → Addr) (za : Addr) (hl : Lay w sn) (hz : LayZ w sn za) (hs : Sch w a s) (hok : SchOk s) (hn0 : s.length ≤ 140737488351232) (ht : TreeIn w ta t) (htc : t.length ≤ tc) (hpz : pz t t.length ≤ 16777000) (hkd : ∀ j, j < t.length → (vl t j).kids ≤ 9223372036854775807) (hv : EncV E s root t v) :
    Calls Tryz.prog 46 #[.slice a s.length c, .int .i64 root, .slice ta t.length tc] w fun e w' => RetBy sn za v w e w' := by
  have HCR : Hid (∀ wq, Below w.heap.size w wq → Calls Tryz.prog 74 #[.slice a s.length c, .int .i64 root] wq fun e w' => RetRt s root za wq e w') := fun wq q => checkRoot_any s a c root wq sn za (hl.below q) (hz.below q) (hs.below q) hok hn0
  have HL := hide hl
  have HS := hide hs
  have HOK := hide hok
  have HT := hide ht
  have HV := hide hv
  have HKD := hide hkd
  have HPZ := hide hpz
  have HTC := hide htc
  have htl : t.length ≤ 16777000 := by unfold pz at hpz; omega
  clear hl hz hs hok ht hv hkd hpz htc
  go_enter Tryz.func46, Tryz.ntmps46
  go_wp2_with fail
  refine (HCR.out _ (Below.refl _ _)).mono ?_
  rintro e w1 ⟨hb1, h1⟩
  have HB1 := hide hb1
  clear hb1
  rcases h1 with ⟨rfl, hr, h0, h1⟩ | ⟨⟨p, rfl⟩, hr⟩ | ⟨rfl, hr, h0⟩
  · have HR := hide hr
    obtain ⟨rfl, rfl, hkk, f0, r, hrd0, hvr⟩ : E.s = s ∧ E.t = t ∧ (∀ k u, E.ok k u = true ↔ ContentOk k u) ∧ ∃ f r, wrF E f root.toNat 0 1 = some r ∧ v = encR r t.length := by
      rcases HV.out with ⟨q, _⟩ | ⟨_, q⟩
      · exact absurd ⟨hr, h0, h1⟩ q
      · exact q
    obtain ⟨rt, rfl⟩ : ∃ n : Nat, root = n := ⟨root.toNat, by omega⟩
    have hrd := wrF_add f0 (E.t.length + 1) _ _ _ _ hrd0
    have hEC : EC E w1 a ta sn := ⟨⟨HS.out.below HB1.out, HR.out, HOK.out, hkk, HT.out.below HB1.out, HPZ.out, HKD.out⟩, HL.out.below HB1.out⟩
    have hG2 : (w1.alloc (ewObj a E.s.length c ta E.t.length tc 0 (.slice none 0 0) false .nilIface)).heap[w1.heap.size]? = some (ewObj a E.s.length c ta E.t.length tc 0 (.slice none 0 0) false .nilIface) := heap_alloc_new w1 _
    have hI2 : EwD w1 (w1.alloc (ewObj a E.s.length c ta E.t.length tc 0 (.slice none 0 0) false .nilIface)) w1.heap.size a E.s.length c ta E.t.length tc 0 noB false (ovV sn none) := ⟨(Below.refl _ _).alloc (Nat.le_refl _) _, Nat.le_refl _, _, hG2, World.ownsRow_nil _ _ _ _⟩
    have HCL : Hid (Calls Tryz.prog 75 #[.pointer (some ⟨w1.heap.size, 0, none⟩), .int .i64 rt, .int .i64 1] (w1.alloc (ewObj a E.s.length c ta E.t.length tc 0 (.slice none 0 0) false .nilIface)) fun e w' => AfterE E w1 w1.heap.size a c ta tc sn r noB false none (w1.alloc (ewObj a E.s.length c ta E.t.length tc 0 (.slice none 0 0) false .nilIface)) e w') :=
      evalue_all E w1 w1.heap.size a c ta tc sn hEC HTC.out (f0 + (E.t.length + 1)) rt 0 1 r noB false none _ (by simpa using hrd) (by omega) (Nat.zero_le _) (by omega) (by omega) (by decide) (by decide) (by decide) hI2
    have HVR := hide hvr
    unfold ewObj at HCL
    clear hrd hrd0 hvr hEC hG2 hI2 hkk hr
    go_wp2_with fail
    refine HCL.out.mono ?_
    rintro e w3 ha3
    have hcase := ha3.2
    clear ha3
    rcases hcase with ⟨b, x, u, t1, l1, o1, hr, rfl, hT, hI3⟩ | ⟨hr, p, x, t1, l1, ov, rfl, hI3⟩
    · have HB3 : Hid (Below w.heap.size w w3) := HB1.out.trans (hI3.bel.mono HB1.out.size)
      have HRR := hide hr
      have HTT := hide hT
      obtain ⟨tv, own3, hrow⟩ := hI3.own
      unfold ewObj at own3
      have HROW := hide hrow
      have c2 : w3.cell? ⟨w1.heap.size, 2, none⟩ = some (.int .i64 (x : Int)) := by simp [World.cell?, own3]
      have c3 : w3.cell? ⟨w1.heap.size, 3, none⟩ = some tv := by simp [World.cell?, own3]
      have c4 : w3.cell? ⟨w1.heap.size, 4, none⟩ = some (.bool l1) := by simp [World.cell?, own3]
      have c5 : w3.cell? ⟨w1.heap.size, 5, none⟩ = some (ovV sn o1) := by simp [World.cell?, own3]
      have hR3 := lt_of_cell c2
      simp only at hR3
      have cT := (HL.out.below HB3.out).s.cTree
      have cL := (HL.out.below HB3.out).s.cLong
      have hgT := lt_of_cell cT
      have hgL := lt_of_cell cL
      simp only at hgT hgL
      have HAT : Hid (∀ (q : Int) (k : Sn) wq, Calls Tryz.prog 60 #[.int .i64 q, .iface 291 (.pointer (some (sn k)))] wq fun e w' => e = .returned (fault q (sn k)) ∧ w' = wq) := fun q k wq => at_any q _ wq
      unfold fault at HAT
      clear hI3 own3 hr HCL hT hrow
      by_cases hxl : x < E.t.length
      · have hxl' : (x : Int) < E.t.length := by omega
        have HE : Hid (v = .error 11) := by show v = _; rw [HVR.out, HRR.out]; unfold encR; simp only; rw [if_pos hxl]
        go_wp2_with fail
        go_region_held_law (fun w' => w'.cell? ⟨w1.heap.size, 2, none⟩ = some (.int .i64 (x : Int)) ∧ w'.cell? ⟨9, 0, none⟩ = some (.iface 291 (.pointer (some (sn .Tree))))) (first | exact ⟨c2, cT⟩ | go_keep) ((go_at_call 60; refine (HAT.out _ _ _).mono ?_; rintro e w4 ⟨rfl, rfl⟩))
        all_goals
          rename_i hHeld
          clear hHeld
          go_wp2
          refine bodyPost_ret (v := .tuple #[.string ⟨#[]⟩, fault x (sn .Tree)]) (by simp [results, Tryz.results46, go_sem, fault]) rfl ?_
          exact ⟨HB3.out.drew, .inr (.inr (.inr ⟨11, x, HE.out, by decide, rfl⟩))⟩
      · have hxl' : (E.t.length : Int) ≤ x := by omega
        cases l1 with
        | true =>
          have HE : Hid (v = .error 2) := by
            show v = _
            have := HTT.out.long rfl rfl
            rw [HVR.out, HRR.out]; unfold encR; simp only; rw [if_neg hxl, if_pos (by have h0 : noB.size = 0 := rfl; omega)]
          go_wp2_with fail
          refine (HAT.out _ _ _).mono ?_
          rintro e w4 ⟨rfl, rfl⟩
          go_wp2
          refine bodyPost_ret (v := .tuple #[.string ⟨#[]⟩, fault 0 (sn .Long)]) (by simp [results, Tryz.results46, go_sem, fault]) rfl ?_
          exact ⟨HB3.out, .inr (.inr (.inr ⟨2, 0, HE.out, by decide, rfl⟩))⟩
        | false =>
          have htb : t1 = b := by
            have := HTT.out.told rfl
            rw [this]
            apply ByteArray.ext
            simp [noB]
          have hb4 : b.size ≤ 4000 := by rw [← htb]; exact HTT.out.mx
          cases o1 with
          | some p =>
            have HE : Hid (v = .error 8) := by
              show v = _
              have hu := HTT.out.ord rfl
              simp only [Option.isSome_some, Option.isSome_none, Bool.false_or] at hu
              rw [HVR.out, HRR.out]; unfold encR; simp only; rw [if_neg hxl, if_neg (by omega), if_pos hu.symm]
            unfold ovV fault at c5
            go_wp2_with fail
            go_quiet (fail)
            have HB4 : Hid (Below w.heap.size w (w3.drewN nq)) := Go.below_drewN HB3.out nq
            go_wp2
            refine bodyPost_ret (v := .tuple #[.string ⟨#[]⟩, fault p (sn .Order)]) (by simp [results, Tryz.results46, go_sem, fault]) rfl ?_
            exact ⟨HB4.out, .inr (.inr (.inr ⟨8, p, HE.out, by decide, rfl⟩))⟩
          | none =>
            have HE : Hid (v = .ok b) := by
              show v = _
              have hu := HTT.out.ord rfl
              simp only [Option.isSome_none, Bool.false_or] at hu
              rw [HVR.out, HRR.out]; unfold encR; simp only; rw [if_neg hxl, if_neg (by omega), if_neg (by rw [← hu]; decide)]
            unfold ovV at c5
            subst htb
            have hcv : (convert 52 9 tv).run Tryz.prog w3 = .ok (.string t1) w3 := by
              by_cases h0 : t1.size = 0
              · have e1 : t1 = noB := noB_of h0
                rcases HROW.out.2 with ⟨q, _⟩ | ⟨g, cap, cur, q, _, hg, _⟩
                · rw [q, e1]
                  simp [convert, run_underlying Tryz.underlying52, run_underlying Tryz.underlying5, run_underlying Tryz.underlying9, noB]
                  rfl
                · rw [q, e1]
                  exact run_convert_bytes_back w3 52 9 5 ⟨g, 0, none⟩ cap [] Tryz.underlying52 Tryz.underlying5 Tryz.underlying9 (fun j hj => by simp at hj)
              · have h2 := conv_own (w := w3) (v := tv) (l := t1.data.toList) (ownsRow_cast HROW.out rfl rfl) (fun q => h0 (by have := congrArg List.length q; simpa using this))
                rw [h2]
            go_wp2
            refine bodyPost_ret (v := .tuple #[.string t1, .nilIface]) (by simp [results, Tryz.results46, go_sem]) rfl ?_
            exact ⟨HB3.out, .inl ⟨_, HE.out, rfl⟩⟩
    · have HB3 : Hid (Below w.heap.size w w3) := HB1.out.trans (hI3.bel.mono HB1.out.size)
      have HE : Hid (v = .error 11) := by show v = _; rw [HVR.out, hr]; rfl
      clear hI3 hr HCL
      unfold fault
      go_wp2
      refine bodyPost_ret (v := .tuple #[.string ⟨#[]⟩, fault p (sn .Tree)]) (by simp [results, Tryz.results46, go_sem, fault]) rfl ?_
      exact ⟨HB3.out, .inr (.inr (.inr ⟨11, p, HE.out, by decide, rfl⟩))⟩
  · have HE : Hid (v = .error 1) := by
      rcases HV.out with ⟨_, q⟩ | ⟨q, _⟩
      · exact q
      · exact absurd q.1 hr
    clear hr
    unfold faultV fault
    go_wp2
    refine bodyPost_ret (v := .tuple #[.string ⟨#[]⟩, faultV 0 (fault p za)]) (by simp [results, Tryz.results46, go_sem, faultV, fault]) rfl ?_
    exact ⟨HB1.out, .inr (.inl ⟨p, HE.out, rfl⟩)⟩
  · have HE : Hid (v = .error 1) := by
      rcases HV.out with ⟨_, q⟩ | ⟨q, _⟩
      · exact q
      · exact absurd q.2 (fun z => by omega)
    clear hr
    unfold fault
    go_wp2
    refine bodyPost_ret (v := .tuple #[.string ⟨#[]⟩, fault 0 za]) (by simp [results, Tryz.results46, go_sem, fault]) rfl ?_
    exact ⟨HB1.out, .inr (.inr (.inl ⟨HE.out, rfl⟩))⟩
end Go.Proofs.YtkkicodfpekbgaaGreatDoor

/-! hallmark.Encode: what it answers: what the document's Encode answers. -/
namespace Go.Proofs.YtkkicodfpekbgaaGreatDoor
set_option linter.unusedSimpArgs false
set_option linter.unusedVariables false
open Go.RowKit

theorem snW_code (k : Int) (h : k = 2 ∨ k = 8 ∨ k = 11) : (snW k).code = k := by
  rcases h with rfl | rfl | rfl <;> rfl

set_option maxHeartbeats 1000000 in
set_option maxRecDepth 100000 in
theorem encode_any (E : WEnv) (s : List Nd) (a : Option Addr) (c : Nat) (root : Int) (t : List Vl) (ta : Option Addr) (tc : Nat) (v : Except Int ByteArray) (w : World) (sn : Sn → Addr) (za : Addr) (hl : Lay w sn) (hz : LayZ w sn za) (hs : Sch w a s) (hok : SchOk s) (hn0 : s.length ≤ 140737488351232) (ht : TreeIn w ta t) (htc : t.length ≤ tc) (hpz : pz t t.length ≤ 16777000) (hkd : ∀ j, j < t.length → (vl t j).kids ≤ 9223372036854775807) (hv : EncV E s root t v) :
    Calls Tryz.prog 22 #[.slice a s.length c, .int .i64 root, .slice ta t.length tc] w fun e w' => RetEnc v w e w' := by
  have HT := hide (bytes_any E s a c root t ta tc v w sn za hl hz hs hok hn0 ht htc hpz hkd hv)
  have HL := hide hl
  have HZ := hide hz
  have HNN : Hid (∀ wq, Calls Tryz.prog 34 #[.nilIface] wq fun e w' => e = .returned (.int .i64 0) ∧ w' = wq) := fun wq => number_nil wq
  clear hl hz hs hok hv ht htc hpz hkd
  go_enter Tryz.func22, Tryz.ntmps22
  go_wp2_with fail
  refine HT.out.mono ?_
  rintro e w1 ⟨hb1, h1⟩
  have HB1 := hide hb1
  clear hb1
  rcases h1 with ⟨b, hvv, rfl⟩ | ⟨p, hvv, rfl⟩ | ⟨hvv, rfl⟩ | ⟨k, q, hvv, hk, rfl⟩
  · have HVV := hide hvv
    clear hvv
    go_wp2_with fail
    refine (HNN.out _).mono ?_
    rintro e w3 ⟨rfl, rfl⟩
    go_wp2
    refine bodyPost_ret (v := .tuple #[.string b, .int .i64 0]) (by simp [results, Tryz.results22, go_sem]) rfl ?_
    rw [HVV.out]
    exact ⟨HB1.out, rfl⟩
  · have HVV := hide hvv
    have HN : Hid (∀ wq, Below w.heap.size w wq → Calls Tryz.prog 34 #[faultV 0 (fault p za)] wq fun e w' => e = .returned (.int .i64 1) ∧ Below w.heap.size w w') := fun wq hq => (number_two 0 p za wq sn (HL.out.below hq).s (HZ.out.below hq)).mono fun e w' h => ⟨h.1, hq.trans (h.2.mono hq.size)⟩
    unfold faultV fault at HN ⊢
    clear hvv
    go_wp2_with fail
    refine (HN.out _ HB1.out).mono ?_
    rintro e w3 ⟨rfl, hb3⟩
    have HB3 := hide hb3
    clear hb3
    go_wp2
    refine bodyPost_ret (v := .tuple #[.string ⟨#[]⟩, .int .i64 1]) (by simp [results, Tryz.results22, go_sem]) rfl ?_
    rw [HVV.out]
    exact ⟨HB3.out, rfl⟩
  · have HVV := hide hvv
    have HN : Hid (∀ wq, Below w.heap.size w wq → Calls Tryz.prog 34 #[fault 0 za] wq fun e w' => e = .returned (.int .i64 1) ∧ Below w.heap.size w w') := fun wq hq => by
      have h := number_at 0 za wq sn (HL.out.below hq).s (HZ.out.below hq).r
      rw [nm_none (fun s q => HZ.out.d s q.symm)] at h
      exact h.mono fun e w' h => ⟨h.1, hq.trans (h.2.mono hq.size)⟩
    unfold fault at HN ⊢
    clear hvv
    go_wp2_with fail
    refine (HN.out _ HB1.out).mono ?_
    rintro e w3 ⟨rfl, hb3⟩
    have HB3 := hide hb3
    clear hb3
    go_wp2
    refine bodyPost_ret (v := .tuple #[.string ⟨#[]⟩, .int .i64 1]) (by simp [results, Tryz.results22, go_sem]) rfl ?_
    rw [HVV.out]
    exact ⟨HB3.out, rfl⟩
  · have HVV := hide hvv
    have HN : Hid (∀ wq, Below w.heap.size w wq → Calls Tryz.prog 34 #[fault q (sn (snW k))] wq fun e w' => e = .returned (.int .i64 k) ∧ Below w.heap.size w w') := fun wq hq => by
      have h := number_sn q (snW k) wq sn (HL.out.below hq).s
      rw [snW_code k hk] at h
      exact h.mono fun e w' h => ⟨h.1, hq.trans (h.2.mono hq.size)⟩
    unfold fault at HN ⊢
    generalize sn (snW k) = ak at HN
    clear hvv hk
    go_wp2_with fail
    refine (HN.out _ HB1.out).mono ?_
    rintro e w3 ⟨rfl, hb3⟩
    have HB3 := hide hb3
    clear hb3
    go_wp2
    refine bodyPost_ret (v := .tuple #[.string ⟨#[]⟩, .int .i64 k]) (by simp [results, Tryz.results22, go_sem]) rfl ?_
    rw [HVV.out]
    exact ⟨HB3.out, rfl⟩
end Go.Proofs.YtkkicodfpekbgaaGreatDoor

/-! hallmarkkeep.Sorted: it answers true. -/
namespace Go.Proofs.YtkkicodfpekbgaaGreatDoor
set_option linter.unusedSimpArgs false
set_option linter.unusedVariables false
open Go.RowKit
theorem srt_lenT (ts : List ByteArray) : (srtT ts).length = ts.length + 1 := by unfold srtT; simp
/-- What Encode comes to there. -/
theorem srt_enc (ts : List ByteArray) (h2 : ∀ t ∈ ts, t.size = 2) (h30 : ts.length ≤ 30) : ∃ F v, EncV F srtS 0 (srtT ts) v ∧ ((falls noB ts = false ∧ v = .ok (elB 0 true 17 (cat ts))) ∨ (falls noB ts = true ∧ v = .error 8)) := by
  have hk : ∃ ok : Int → ByteArray → Bool, ∀ k t, ok k t = true ↔ ContentOk k t :=
    ⟨fun k t => @decide (ContentOk k t) (Classical.propDecidable _), fun k t => by simp⟩
  obtain ⟨ok, hk⟩ := hk
  have hw := srt_wr (E := ⟨srtS, srtT ts, ok⟩) (ts := ts) rfl rfl (fun t => (hk 6 t).2 ((contentOk_6 t).1 trivial)) (f := 30) (by omega)
  rw [cat_foldl, noB_app] at hw
  have hz := elB_sz 0 true 17 (cat ts)
  have hc := cat_size h2
  have hcn := cnt_bd (cat ts).size
  refine ⟨⟨srtS, srtT ts, ok⟩, _, .inr ⟨⟨srt_right, by decide, by decide⟩, rfl, rfl, hk, 32, _, hw, rfl⟩, ?_⟩
  unfold encR
  simp only
  rw [if_neg (by rw [srt_lenT]; omega), if_neg (by omega)]
  cases falls noB ts
  · exact .inl ⟨rfl, rfl⟩
  · exact .inr ⟨rfl, rfl⟩
/-- What Decode comes to there. -/
theorem srt_dec (ts : List ByteArray) (h2 : ∀ t ∈ ts, t.size = 2) (h30 : ts.length ≤ 30) : ∃ E v, DecV E srtS 0 (elB 0 true 17 (cat ts)) v ∧ ((falls noB ts = false ∧ v = .ok (srtT ts)) ∨ (falls noB ts = true ∧ ∃ p : Nat, 0 < p ∧ v = .error (8, p))) := by
  obtain ⟨E, hs, hd, hE⟩ := env_ex srtS (elB 0 true 17 (cat ts)) srt_right
  have hz := elB_sz 0 true 17 (cat ts)
  have hc := cat_size h2
  have hcn := cnt_bd (cat ts).size
  rcases srt_rd hs hd (fun t => (hE.ok 6 t).2 ((contentOk_6 t).1 trivial)) h2 h30 (f := 30) (by omega) with ⟨q1, q2⟩ | ⟨q1, p, q2, q3⟩
  · exact ⟨E, _, .inr (.inr ⟨⟨srt_right, by decide, by decide⟩, by omega, hs, hd, hE, 32, by decide, q2⟩), .inl ⟨q1, rfl⟩⟩
  · exact ⟨E, _, .inr (.inr ⟨⟨srt_right, by decide, by decide⟩, by omega, hs, hd, hE, 32, by decide, q3⟩), .inr ⟨q1, p, q2, rfl⟩⟩
theorem own_cap {w : World} {B : Nat} {e : TypeId} {s g n cap : Nat} {xs : List Value} (h : w.ownsRow B e s (.slice (some ⟨g, 0, none⟩) n cap) n xs) : n ≤ cap := by
  rcases h.2 with ⟨h', _⟩ | ⟨g', cap', cur, h', _, hg, hnc, _⟩
  · simp at h'
  · injection h' with h1 h2 h3
    omega
/-- The schema of Sorted, as it is made. -/
theorem srt_sch (w W : World) (hb1 : W.heap[w.heap.size]? = some (.cells #[.int .i64 1, .bool false, .string ⟨#[]⟩] 55 (0, 0)))
    (hb2 : W.heap[w.heap.size + 1]? = some (.cells #[.int .i64 12, .int .i64 (-1), .int .i64 0, .slice (some ⟨w.heap.size, 0, none⟩) 1 1, .int .i64 6, .int .i64 (-1), .int .i64 0, .slice none 0 0] 58 (0, 0))) : Sch W (some ⟨w.heap.size + 1, 0, none⟩) srtS := fun i hi => by
  have c1 := fun j => Go.cell_of_row W _ j _ _ _ hb1
  have c2 := fun j => Go.cell_of_row W _ j _ _ _ hb2
  match i, hi with
  | 0, _ => exact ⟨_, 0, some ⟨w.heap.size, 0, none⟩, 1, rfl, ⟨c2 0, c2 1, c2 2, c2 3⟩, Nat.le_refl _, by decide, fun j hj => by
      match j, hj with
      | 0, _ => exact ⟨_, 0, rfl, c1 0, c1 1, c1 2⟩⟩
  | 1, _ => exact ⟨_, 0, none, 0, rfl, ⟨c2 4, c2 5, c2 6, c2 7⟩, Nat.le_refl _, by decide, fun j hj => absurd hj (Nat.not_lt_zero _)⟩
theorem cat_len : ∀ {ts : List ByteArray}, (∀ t ∈ ts, t.size = 2) → (cat ts).size = 4 * ts.length
  | [], _ => rfl
  | t :: ts, h => by
    rw [cat, ByteArray.size_append, oct_two t (h t (by simp)), ByteArray.size_append, h t (by simp), cat_len (fun t ht => h t (by simp [ht])), List.length_cons]
    show 2 + 2 + _ = _
    omega
/-- Two rows of different types lie apart. -/
theorem rows_ne {w : World} {B B' : Nat} {e e' : TypeId} {s s' : Nat} {v v' : Value} {n n' : Nat} {xs xs' : List Value} (h : w.ownsRow B e s v n xs) (h' : w.ownsRow B' e' s' v' n' xs') (hne : e ≠ e') : v.ownBlock = none ∨ v.ownBlock ≠ v'.ownBlock := by
  rcases hb : v.ownBlock with _ | g
  · exact .inl rfl
  · refine .inr fun q => hne ?_
    obtain ⟨c, fz, h1⟩ := Lib.ownsRow_kind h g hb
    obtain ⟨c', fz', h2⟩ := Lib.ownsRow_kind h' g q.symm
    rw [h1] at h2
    injection h2 with h2
    injection h2
theorem SrI.texts {W w w' : World} {ts : List ByteArray} {vv lv lv' : Value} {t : ByteArray} (h : SrI W w ts vv lv) (h1 : w'.ownsRow W.heap.size 9 1 lv' (ts.length + 1) (ts.map Value.string ++ [.string t])) (h2 : w.grownBy w' lv.ownBlock) :
    Below W.heap.size W w' ∧ w'.ownsRow W.heap.size 60 4 vv (ts.length + 1) (vcells (srtT ts)) ∧ w'.ownsRow W.heap.size 9 1 lv' (ts ++ [t]).length ((ts ++ [t]).map Value.string) :=
  ⟨h.bel.grown h2 h.bel.size (fun k hk => (h.txt.lt k hk).1), h.val.kept h2 (rows_ne h.val h.txt (by decide)), by rw [List.map_append, List.length_append]; exact h1⟩
set_option maxHeartbeats 4000000 in
set_option maxRecDepth 100000 in
theorem sorted_any (w : World) (ra : Option Addr) (rn rc : Nat) (hraw : IntIn w ra rn) (hrn : rn ≤ maxLen) (sn : Sn → Addr) (za : Addr) (hl : Lay w sn) (hz : LayZ w sn za) (het : EtC w) :
    Calls Tryz.prog 8 #[.slice ra rn rc] w fun e w' => e = .returned (.bool true) ∧ Below w.heap.size w w' := by
  have HRAW := hidez hraw
  have HL := hidez hl
  have HZ := hidez hz
  have HE := hidez het
  have hrn' : rn ≤ 9223372036854775807 := hrn
  obtain ⟨i0, hi0, hz0, hz1, hz2⟩ := info_parts Tryz.infoVal
  obtain ⟨j0, hj0, hy0, hy1, hy2⟩ := info_parts Tryz.infoStr
  clear hraw hrn hl hz het
  go_enter Tryz.func8, Tryz.ntmps8
  go_upto_region 2 with fail
  generalize hW : ((w.alloc (.cells #[.int .i64 1, .bool false, .string ⟨#[]⟩] 55)).alloc (.cells #[.int .i64 12, .int .i64 (-1), .int .i64 0, .slice (some ⟨w.heap.size, 0, none⟩) 1 1, .int .i64 6, .int .i64 (-1), .int .i64 0, .slice none 0 0] 58)) = W
  have HBW : Hid (Below w.heap.size w W) := by rw [← hW]; exact ((Below.refl _ _).alloc (Nat.le_refl _) _).alloc (by simp) _
  have HS : Hid (Sch W (some ⟨w.heap.size + 1, 0, none⟩) srtS) := by
    refine srt_sch w W ?_ ?_
    · rw [← hW]; exact (Below.heap_alloc _ _ _ (by simp)).trans (heap_alloc_new w _)
    · rw [← hW]; simpa using heap_alloc_new (w.alloc _) _
  have HRW : Hid (IntIn W ra rn) := fun i hi => by
    obtain ⟨b, o, z, h1, h2, h3⟩ := HRAW.out i hi
    exact ⟨b, o, z, h1, (HBW.out.cell (lt_of_cell h2)).trans h2, h3⟩
  clear hW HRAW
  go_wp2_with fail
  go_loopw [4, 5, 6, 7] (fun v4 v5 v6 v7 wr => ∃ ts : List ByteArray, v5 = .string (cat ts) ∧ v7 = .int .i64 ts.length ∧ ts.length ≤ 30 ∧ ts.length ≤ rn ∧ (∀ t ∈ ts, t.size = 2) ∧ SrI W wr ts v4 v6) (fun _ _ _ v7 _ => rn - (intOf v7).toNat)
  case atStart => exact ⟨[], rfl, rfl, by simp, by simp, by simp, (Below.refl _ _).alloc (Nat.le_refl _) _, World.ownsRow_lit W _ 1 (Nat.le_refl _) (by decide) rfl, World.ownsRow_nil _ _ _ _⟩
  case round =>
    obtain ⟨ts, rfl, rfl, hk30, hkr, hts, hI⟩ := hrel
    have HI := hidez hI
    have HTS := hidez hts
    have hcz : (cat ts).size ≤ 120 := by have := cat_len hts; omega
    clear hI hts
    by_cases hlt : ts.length < rn ∧ ts.length < 30
    · obtain ⟨hl1, hl2⟩ := hlt
      obtain ⟨b, o, z, h1, h2, h3, h4⟩ := HRW.out ts.length hl1
      subst h1
      have h2' := (HI.out.bel.cell (lt_of_cell h2)).trans h2
      have hl1' : (ts.length : Int) < rn := by omega
      have hl2' : (ts.length : Int) < 30 := by omega
      have HPK : Hid (∀ wq, Calls Tryz.prog 25 #[.int .i64 z, .int .i64 65536] wq fun e w' => e = .returned (.int .i64 (pk z 65536)) ∧ wq = w') := fun wq => pick_any z 65536 wq h3 h4 (by decide) (by decide)
      have hpb := pk_bd z 65536 (by decide)
      clear h2 h3 h4
      go_wp2_with fail
      refine (HPK.out _).mono ?_
      rintro e w1 ⟨rfl, rfl⟩
      clear HPK
      generalize pk z 65536 = n at hpb
      obtain ⟨hn0, hn1⟩ := hpb
      have hdv : n.tdiv 256 = n / 256 := Int.tdiv_eq_ediv_of_nonneg hn0
      have hu1 : IntKind.u8.wrap (n / 256) = n / 256 := by simp [IntKind.wrap, IntKind.bits, IntKind.signed]; omega
      have hu2 : IntKind.u8.wrap n = n % 256 := by simp [IntKind.wrap, IntKind.bits, IntKind.signed]
      have hcv := conv_two (n / 256) (n % 256) (by omega) (by omega) (by omega) (by omega)
      clear h2'
      go_upto_region 10 with fail
      generalize ht : (⟨#[UInt8.ofNat (n / 256).toNat, UInt8.ofNat (n % 256).toNat]⟩ : ByteArray) = t
      have htz : t.size = 2 := by rw [← ht]; rfl
      have HIa : Hid (SrI W (wr.alloc (.cells #[.int .u8 (n / 256), .int .u8 (n % 256)] 5)) ts u4 u6) := HI.out.below ((Below.refl _ _).alloc (Nat.le_refl _) _)
      generalize (wr.alloc (.cells #[.int .u8 (n / 256), .int .u8 (n % 256)] 5)) = w2 at HIa ⊢
      clear ht hcv hu1 hu2 hdv hn0 hn1 HI
      have hW2 : W.heap.size ≤ w2.heap.size + 1 := by have := HIa.out.bel.size; omega
      have HIb : Hid (SrI W (w2.alloc (.cells #[.string t] 9)) ts u4 u6) := HIa.out.below ((Below.refl _ _).alloc (Nat.le_refl _) _)
      go_upto_region 11 with (at_builtin; refine wpList_append_lies _ rfl (.tmp 46) (.tmp 48) 29 rfl W.heap.size 9 j0 Tryz.zeroStr 1 16 Tryz.underlying29 hj0 hy0 hy1 hy2 rfl (by decide) u6 ts.length (ts.map Value.string) rfl HIb.out.txt ⟨w2.heap.size, 0, none⟩ 1 1 [.string t] rfl rfl (World.news_of_block (heap_alloc_new w2 _)) (by intro u hu; simp at hu; rcases hu with rfl; rfl) (by decide) (by unfold maxLen; omega) (by omega) (by simpa using hW2) (w2.heap.size + 1) (by simp) ?_; intro g cap w3 h1 h2 h3 h4; have HT3 := hidez (HIb.out.texts h1 h2); clear h1 h2 h3)
      have hW3 : W.heap.size ≤ w3.heap.size + 1 := by have := HT3.out.1.size; omega
      have HV3 : Hid ((w3.alloc (.cells #[.int .i64 6, .string t, .int .i64 0, .int .i64 0] 60)).ownsRow W.heap.size 60 4 u4 (ts.length + 1) (vcells (srtT ts))) := HT3.out.2.1.alloc _
      clear hW2 h4
      go_upto_region 12 with (at_builtin; refine wpList_append_lies _ rfl (.tmp 50) (.tmp 53) 39 rfl W.heap.size 60 i0 Tryz.zeroVal 4 40 Tryz.underlying39 hi0 hz0 hz1 hz2 rfl (by decide) u4 (ts.length + 1) (vcells (srtT ts)) rfl HV3.out ⟨w3.heap.size, 0, none⟩ 1 1 (⟨6, t, 0, 0⟩ : Vl).cells rfl rfl (World.news_of_block (heap_alloc_new w3 _)) (by intro u hu; unfold Vl.cells at hu; simp at hu; rcases hu with rfl | rfl | rfl | rfl <;> rfl) (by decide) (by unfold maxLen; omega) (by omega) (by simpa using hW3) (w3.heap.size + 1) (by simp) ?_; intro gv capv w4 h1 h2 h3 h4; have HO4 := hidez h1; have HG4 := hidez h2; clear h1 h2 h3)
      have c3 : w4.cell? ⟨gv, 3, none⟩ = some (.int .i64 (ts.length : Int)) := (HO4.out.cellAt 3 (by omega)).trans (srt_cell ts t)
      have f3 : w4.frozen? ⟨gv, 3, none⟩ = false := HO4.out.frozenAt 3
      have hw3' : IntKind.i64.wrap ((ts.length : Int) + 1) = (ts.length : Int) + 1 := wraps_i64 _ (by omega) (by omega)
      have HST := hidez (HO4.out.stored 3 (.int .i64 ((ts.length : Int) + 1)))
      have HB4 : Hid (Below W.heap.size W w4) := by
        have hb0 := HT3.out.1.alloc HT3.out.1.size (.cells #[.int .i64 6, .string t, .int .i64 0, .int .i64 0] 60)
        exact hb0.grown HG4.out hb0.size (fun k hk => (HV3.out.lt k hk).1)
      have HX4 : Hid (w4.ownsRow W.heap.size 9 1 (.slice (some ⟨g, 0, none⟩) (ts.length + 1) cap) (ts ++ [t]).length ((ts ++ [t]).map Value.string)) := (HT3.out.2.2.alloc _).kept HG4.out (rows_ne (HT3.out.2.2.alloc _) HV3.out (by decide))
      have hlv : gv < w4.heap.size := h4
      clear h4 hW3
      go_wp2
      refine ⟨⟨ts ++ [t], ?_, ?_, ?_, ?_, ?_, HB4.out.grown HST.out.2 HB4.out.size (fun k hk => ?_), ?_, ?_⟩, ?_⟩
      · rw [cat_snoc, oct_two t htz, ByteArray.append_assoc]
      · rw [List.length_append]; rfl
      · rw [List.length_append]; simp; omega
      · rw [List.length_append]; simp; omega
      · intro u hu
        rcases List.mem_append.1 hu with hu | hu
        · exact HTS.out u hu
        · rw [List.mem_singleton.1 hu]; exact htz
      · injection hk with hk; subst hk; exact (HO4.out.lt gv rfl).1
      · rw [srtT_snoc, List.length_append]; exact HST.out.1
      · exact HX4.out.kept HST.out.2 (by rcases rows_ne HX4.out HO4.out (by decide) with q | q; exact .inl q; exact .inr q)
      · simp [intOf]; omega
    · have hex : rn ≤ ts.length ∨ (ts.length < rn ∧ 30 ≤ ts.length) := by omega
      obtain ⟨gv, cv, rfl, _, _⟩ := World.ownsRow.form HI.out.val (by omega)
      obtain ⟨la, lc, rfl⟩ : ∃ a cap, u6 = .slice a ts.length cap := by obtain ⟨a, c, e, _⟩ := own_form HI.out.txt; exact ⟨a, c, e⟩
      have HBr : Hid (Below w.heap.size w wr) := HBW.out.trans (HI.out.bel.mono HBW.out.size)
      have HSr : Hid (Sch wr (some ⟨w.heap.size + 1, 0, none⟩) srtS) := HS.out.below HI.out.bel
      have HVr : Hid (ValIn wr (some ⟨gv, 0, none⟩) (srtT ts)) := ValIn.of_own (base := W.heap.size) (c := cv) (by rw [srt_lenT]; exact HI.out.val)
      have HXr : Hid (StrIn wr la ts) := fun j hj => by
        obtain ⟨a', c', e, hf⟩ := own_form2 HI.out.txt
        injection e with e1 _ _
        subst e1
        obtain ⟨g, rfl⟩ := hf (by omega)
        have q := HI.out.txt.cells (g := g) rfl j (.string (ts.getD j noB)) (by rw [List.getElem?_map, List.getElem?_eq_getElem hj, List.getD_eq_getElem?_getD, List.getElem?_eq_getElem hj]; rfl)
        rw [add0] at q
        exact ⟨g, 0, rfl, by rw [Nat.zero_add]; exact q⟩
      have HCV : Hid (srtS.length = 2 ∧ ts.length + 1 ≤ cv) := ⟨rfl, own_cap HI.out.val⟩
      have HSAME : Hid (∀ wq ta tc, Below wr.heap.size wr wq → ValIn wq ta (srtT ts) → Calls Tryz.prog 24 #[.slice ta (ts.length + 1) tc, .slice (some ⟨gv, 0, none⟩) (ts.length + 1) cv] wq fun e w' => e = .returned (.bool true) ∧ Below wr.heap.size wr w') := fun wq ta tc hq hv => by
        have h := ksame_any (srtT ts) ta (some ⟨gv, 0, none⟩) tc cv wq hv (fun j hj => by
          obtain ⟨g, o, e, x1, x2, x3, x4⟩ := HVr.out j hj
          exact ⟨g, o, e, (hq.cell (lt_of_cell x1)).trans x1, (hq.cell (lt_of_cell x2)).trans x2, (hq.cell (lt_of_cell x3)).trans x3, (hq.cell (lt_of_cell x4)).trans x4⟩) (by rw [srt_lenT]; omega)
        rw [srt_lenT] at h
        exact h.mono fun e w' q => ⟨q.1, hq.trans (q.2.mono hq.size)⟩
      obtain ⟨F, v, hF, hv⟩ := srt_enc ts HTS.out hk30
      obtain ⟨E, d, hD, hd⟩ := srt_dec ts HTS.out hk30
      have HENC : Hid (∀ wq, Below wr.heap.size wr wq → Calls Tryz.prog 22 #[.slice (some ⟨w.heap.size + 1, 0, none⟩) 2 2, .int .i64 0, .slice (some ⟨gv, 0, none⟩) (ts.length + 1) cv] wq fun e w' => RetEnc v wq e w') := fun wq hq => by
        have h := encode_any F srtS (some ⟨w.heap.size + 1, 0, none⟩) 2 0 (srtT ts) (some ⟨gv, 0, none⟩) cv v wq sn za ((HL.out.below HBr.out).below hq) ((HZ.out.below HBr.out).below hq) (HSr.out.below hq) srt_ok (by decide) (fun j hj => by
          obtain ⟨g, o, e, x1, x2, x3, x4⟩ := HVr.out j hj
          exact ⟨g, o, e, (hq.cell (lt_of_cell x1)).trans x1, (hq.cell (lt_of_cell x2)).trans x2, (hq.cell (lt_of_cell x3)).trans x3, (hq.cell (lt_of_cell x4)).trans x4⟩) (by rw [srt_lenT]; exact HCV.out.2) (srt_pz ts HTS.out hk30) (srt_kids ts hk30) hF
        rw [srt_lenT] at h
        exact h
      have HDEC : Hid (∀ wq, Below wr.heap.size wr wq → Calls Tryz.prog 23 #[.slice (some ⟨w.heap.size + 1, 0, none⟩) 2 2, .int .i64 0, .string (elB 0 true 17 (cat ts))] wq fun e w' => RetDec d wq e w') := fun wq hq =>
        decode_any E srtS (some ⟨w.heap.size + 1, 0, none⟩) 2 0 (elB 0 true 17 (cat ts)) d wq sn za ((HL.out.below HBr.out).below hq) ((HZ.out.below HBr.out).below hq) ((HE.out.below HBr.out).below hq) (HSr.out.below hq) srt_ok (by decide) (by have := elB_size 0 true 17 (cat ts); omega) hD
      have HRIS : Hid (∀ wq, Below wr.heap.size wr wq → Calls Tryz.prog 26 #[.slice la ts.length lc] wq fun e w' => ∃ r, e = .returned (.bool r) ∧ (r = true ↔ falls noB ts = false) ∧ Below wr.heap.size wr w' ∧ Below wq.heap.size wq w') := fun wq hq => (rises_any ts la lc wq (fun j hj => by
        obtain ⟨g, o, e, x1⟩ := HXr.out j hj
        exact ⟨g, o, e, (hq.cell (lt_of_cell x1)).trans x1⟩) (by omega)).mono fun e w' ⟨r, h1, h2, h3⟩ => ⟨r, h1, h2.trans (falls_iff ts HTS.out).symm, hq.trans (h3.mono hq.size), h3⟩
      have hcv := conv_two 49 (cat ts).size (by decide) (by decide) (by omega) (by omega)
      have hu : IntKind.u8.wrap ((cat ts).size : Int) = (cat ts).size := by simp [IntKind.wrap, IntKind.bits, IntKind.signed]; omega
      have h127 : ¬ (127 : Int) < (cat ts).size := by omega
      have HDA : Hid ((⟨#[UInt8.ofNat (49 : Int).toNat, UInt8.ofNat ((cat ts).size : Int).toNat]⟩ : ByteArray) ++ cat ts = elB 0 true 17 (cat ts)) := srt_data (cat ts) (by omega)
      clear hF hD HL HZ HE HS HSr HVr HXr HCV HRW
      have HDA2 : Hid ((⟨#[49, UInt8.ofNat (cat ts).size]⟩ : ByteArray) ++ cat ts = elB 0 true 17 (cat ts)) := HDA.out
      clear HDA
      have HDA := HDA2
      clear HDA2
      have HB0 : Hid (Below wr.heap.size wr (wr.alloc (.cells #[.int .u8 49, .int .u8 ((cat ts).size : Int)] 5))) := (Below.refl _ _).alloc (Nat.le_refl _) _
      generalize hcs : (cat ts).size = cz at hcv hu h127 HDA hcz HB0
      by_cases hf : falls noB ts = false
      · have hv1 : v = .ok (elB 0 true 17 (cat ts)) := by
          rcases hv with ⟨_, h⟩ | ⟨h, _⟩
          · exact h
          · rw [hf] at h; cases h
        have hd1 : d = .ok (srtT ts) := by
          rcases hd with ⟨_, h⟩ | ⟨h, _⟩
          · exact h
          · rw [hf] at h; cases h
        clear hv hd
        subst hv1 hd1
        have HENC1 : Hid (∀ wq, Below wr.heap.size wr wq → Calls Tryz.prog 22 #[.slice (some ⟨w.heap.size + 1, 0, none⟩) 2 2, .int .i64 0, .slice (some ⟨gv, 0, none⟩) (ts.length + 1) cv] wq fun e w' => e = .returned (.tuple #[.string (elB 0 true 17 (cat ts)), .int .i64 0]) ∧ Below wr.heap.size wr w') := fun wq hq => (HENC.out wq hq).mono fun e w' h => ⟨h.2, hq.trans (h.1.mono hq.size)⟩
        have HDEC1 : Hid (∀ wq, Below wr.heap.size wr wq → Calls Tryz.prog 23 #[.slice (some ⟨w.heap.size + 1, 0, none⟩) 2 2, .int .i64 0, .string (elB 0 true 17 (cat ts))] wq fun e w' => ∃ ta tc, e = .returned (.tuple #[.slice ta (ts.length + 1) tc, .int .i64 0, .int .i64 0]) ∧ ValIn w' ta (srtT ts) ∧ Below wr.heap.size wr w') := fun wq hq => (HDEC.out wq hq).mono fun e w' h => by
          obtain ⟨hb, ta, tc, he, ho⟩ := h
          exact ⟨ta, tc, by rw [he, srt_lenT], ValIn.of_own ho, hq.trans (hb.mono hq.size)⟩
        have HRIS1 : Hid (∀ wq, Below wr.heap.size wr wq → Calls Tryz.prog 26 #[.slice la ts.length lc] wq fun e w' => e = .returned (.bool true) ∧ Below wr.heap.size wr w' ∧ Below wq.heap.size wq w') := fun wq hq => (HRIS.out wq hq).mono fun e w' ⟨r, h1, h2, h3, h4⟩ => by
          have : r = true := h2.2 hf
          rw [this] at h1
          exact ⟨h1, h3, h4⟩
        clear HENC HDEC HRIS hf
        have HENC := HENC1
        have HDEC := HDEC1
        have HRIS := HRIS1
        clear HENC1 HDEC1 HRIS1
        generalize elB 0 true 17 (cat ts) = dt at HENC HDEC HDA
        rcases hex with hex | ⟨hex, hex2⟩
        · have hex1 : (rn : Int) ≤ ts.length := by omega
          clear hlt hex hkr
          go_upto_region 17 with fail
          rw [HDA.out]
          generalize (wr.alloc (.cells #[.int .u8 49, .int .u8 (cz : Int)] 5)) = w0 at HB0 ⊢
          go_wp2_with fail
          refine (HENC.out _ HB0.out).mono ?_
          rintro e w1 ⟨rfl, hb1⟩
          have HB1 := hidez hb1
          clear hb1
          go_wp2_with fail
          refine (HDEC.out _ HB1.out).mono ?_
          rintro e w2 ⟨ta, tc, rfl, hv2, hb2⟩
          have HV2 := hidez hv2
          have HB2 := hidez hb2
          clear hb2 hv2
          go_wp2_with fail
          refine (HRIS.out _ HB2.out).mono ?_
          rintro e w3 ⟨rfl, hb3, hr3⟩
          have HB3 := hidez hb3
          have HV3 : Hid (ValIn w3 ta (srtT ts)) := HV2.out.below hr3
          clear hb3 hr3
          go_wp2_with fail
          refine (HSAME.out _ _ _ HB3.out HV3.out).mono ?_
          rintro e w4 ⟨rfl, hb4⟩
          have HB4 := hidez hb4
          clear hb4
          go_wp2
          go_ret
          exact ⟨rfl, HBr.out.trans (HB4.out.mono HBr.out.size)⟩
        · have hex1 : (ts.length : Int) < rn := by omega
          have hex3 : (30 : Int) ≤ ts.length := by omega
          clear hlt hex hex2 hkr
          go_upto_region 17 with fail
          rw [HDA.out]
          generalize (wr.alloc (.cells #[.int .u8 49, .int .u8 (cz : Int)] 5)) = w0 at HB0 ⊢
          go_wp2_with fail
          refine (HENC.out _ HB0.out).mono ?_
          rintro e w1 ⟨rfl, hb1⟩
          have HB1 := hidez hb1
          clear hb1
          go_wp2_with fail
          refine (HDEC.out _ HB1.out).mono ?_
          rintro e w2 ⟨ta, tc, rfl, hv2, hb2⟩
          have HV2 := hidez hv2
          have HB2 := hidez hb2
          clear hb2 hv2
          go_wp2_with fail
          refine (HRIS.out _ HB2.out).mono ?_
          rintro e w3 ⟨rfl, hb3, hr3⟩
          have HB3 := hidez hb3
          have HV3 : Hid (ValIn w3 ta (srtT ts)) := HV2.out.below hr3
          clear hb3 hr3
          go_wp2_with fail
          refine (HSAME.out _ _ _ HB3.out HV3.out).mono ?_
          rintro e w4 ⟨rfl, hb4⟩
          have HB4 := hidez hb4
          clear hb4
          go_wp2
          go_ret
          exact ⟨rfl, HBr.out.trans (HB4.out.mono HBr.out.size)⟩
      · have hv1 : v = .error 8 := by
          rcases hv with ⟨h, _⟩ | ⟨_, h⟩
          · exact absurd h hf
          · exact h
        obtain ⟨p, hp, hd1⟩ : ∃ p : Nat, 0 < p ∧ d = .error (8, (p : Int)) := by
          rcases hd with ⟨h, _⟩ | ⟨_, h⟩
          · exact absurd h hf
          · exact h
        clear hv hd
        subst hv1 hd1
        have HENC1 : Hid (∀ wq, Below wr.heap.size wr wq → Calls Tryz.prog 22 #[.slice (some ⟨w.heap.size + 1, 0, none⟩) 2 2, .int .i64 0, .slice (some ⟨gv, 0, none⟩) (ts.length + 1) cv] wq fun e w' => e = .returned (.tuple #[.string ⟨#[]⟩, .int .i64 8]) ∧ Below wr.heap.size wr w') := fun wq hq => (HENC.out wq hq).mono fun e w' h => ⟨h.2, hq.trans (h.1.mono hq.size)⟩
        have HDEC1 : Hid (∀ wq, Below wr.heap.size wr wq → Calls Tryz.prog 23 #[.slice (some ⟨w.heap.size + 1, 0, none⟩) 2 2, .int .i64 0, .string (elB 0 true 17 (cat ts))] wq fun e w' => e = .returned (.tuple #[.slice none 0 0, .int .i64 p, .int .i64 8]) ∧ Below wr.heap.size wr w') := fun wq hq => (HDEC.out wq hq).mono fun e w' h => ⟨h.2, hq.trans (h.1.mono hq.size)⟩
        have HRIS1 : Hid (∀ wq, Below wr.heap.size wr wq → Calls Tryz.prog 26 #[.slice la ts.length lc] wq fun e w' => e = .returned (.bool false) ∧ Below wr.heap.size wr w') := fun wq hq => (HRIS.out wq hq).mono fun e w' ⟨r, h1, h2, h3, h4⟩ => by
          have : r = false := Bool.eq_false_iff.2 fun q => hf (h2.1 q)
          rw [this] at h1
          exact ⟨h1, h3⟩
        clear HENC HDEC HRIS hf
        have HENC := HENC1
        have HDEC := HDEC1
        have HRIS := HRIS1
        clear HENC1 HDEC1 HRIS1
        generalize elB 0 true 17 (cat ts) = dt at HENC HDEC HDA
        have hp' : (0 : Int) < p := by omega
        rcases hex with hex | ⟨hex, hex2⟩
        · have hex1 : (rn : Int) ≤ ts.length := by omega
          clear hlt hex hkr
          go_upto_region 17 with fail
          rw [HDA.out]
          generalize (wr.alloc (.cells #[.int .u8 49, .int .u8 (cz : Int)] 5)) = w0 at HB0 ⊢
          go_wp2_with fail
          refine (HENC.out _ HB0.out).mono ?_
          rintro e w1 ⟨rfl, hb1⟩
          have HB1 := hidez hb1
          clear hb1
          go_wp2_with fail
          refine (HDEC.out _ HB1.out).mono ?_
          rintro e w2 ⟨rfl, hb2⟩
          have HB2 := hidez hb2
          clear hb2
          go_wp2_with fail
          refine (HRIS.out _ HB2.out).mono ?_
          rintro e w3 ⟨rfl, hb3⟩
          have HB3 := hidez hb3
          clear hb3
          go_wp2
          go_ret
          exact ⟨rfl, HBr.out.trans (HB3.out.mono HBr.out.size)⟩
        · have hex1 : (ts.length : Int) < rn := by omega
          have hex3 : (30 : Int) ≤ ts.length := by omega
          clear hlt hex hex2 hkr
          go_upto_region 17 with fail
          rw [HDA.out]
          generalize (wr.alloc (.cells #[.int .u8 49, .int .u8 (cz : Int)] 5)) = w0 at HB0 ⊢
          go_wp2_with fail
          refine (HENC.out _ HB0.out).mono ?_
          rintro e w1 ⟨rfl, hb1⟩
          have HB1 := hidez hb1
          clear hb1
          go_wp2_with fail
          refine (HDEC.out _ HB1.out).mono ?_
          rintro e w2 ⟨rfl, hb2⟩
          have HB2 := hidez hb2
          clear hb2
          go_wp2_with fail
          refine (HRIS.out _ HB2.out).mono ?_
          rintro e w3 ⟨rfl, hb3⟩
          have HB3 := hidez hb3
          clear hb3
          go_wp2
          go_ret
          exact ⟨rfl, HBr.out.trans (HB3.out.mono HBr.out.size)⟩
end Go.Proofs.YtkkicodfpekbgaaGreatDoor
