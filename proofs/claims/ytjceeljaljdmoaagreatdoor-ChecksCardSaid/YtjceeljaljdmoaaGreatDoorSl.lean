/-
  hallmarkref.Leaves: the nodes where one comes to, and whether one comes back.
-/
import Derived.Test.YtjceeljaljdmoaaGreatDoorSo
import Derived.Test.YtjceeljaljdmoaaGreatDoorSp
import Derived.Deep.AppendLies
namespace Go.Proofs.YtjceeljaljdmoaaGreatDoor
open Go.RowKit

/-- Places as Go's numbers. -/
def ivs (l : List Nat) : List Value := l.map fun (j : Nat) => Value.int .i64 (j : Int)
/-- What the search holds in memory. -/
structure LvW (s : List Nd) (w wr : World) (i : Nat) (done q : List Nat) (gi ci : Nat) (vout : Value) : Prop where
  inn : wr.ownsRow w.heap.size 3 1 (.slice (some ⟨gi, 0, none⟩) q.length ci) q.length (ivs q)
  out : wr.ownsRow w.heap.size 3 1 vout (outs s done).length (ivs (outs s done))
  ap : vout.ownBlock ≠ some gi
  bel : Below w.heap.size w wr
theorem Tryz.infoInt : (Tryz.prog.info? 3).map (fun i => (i.zero, i.size, i.bytes)) = some (some (.int .i64 0), 1, 8) := by kernel_rfl
theorem ivs_get {l : List Nat} {j : Nat} (h : j < l.length) : (ivs l)[j]? = some (.int .i64 ((l.getD j 0 : Nat) : Int)) := by
  unfold ivs; simp [h]
theorem own_cell {w : World} {base g n c : Nat} {l : List Nat} (h : w.ownsRow base 3 1 (.slice (some ⟨g, 0, none⟩) n c) l.length (ivs l)) {j : Nat} (hj : j < l.length) :
    w.cell? ⟨g, j, none⟩ = some (.int .i64 ((l.getD j 0 : Nat) : Int)) := by
  have := h.cells (g := g) rfl j _ (ivs_get hj)
  have e : (⟨g, 0, none⟩ : Addr).add j = ⟨g, j, none⟩ := by unfold Addr.add; split <;> simp_all
  rwa [e] at this
theorem own_below {w w' : World} {base : Nat} {e : TypeId} {size : Nat} {v : Value} {n : Nat} {xs : List Value} (h : w.ownsRow base e size v n xs) (hb : Below w.heap.size w w') : w'.ownsRow base e size v n xs := by
  obtain ⟨h1, h2⟩ := h
  refine ⟨h1, ?_⟩
  rcases h2 with h2 | ⟨g, cap, cur, rfl, h3, h4, h5⟩
  · exact .inl h2
  · refine .inr ⟨g, cap, cur, rfl, h3, ?_, h5⟩
    have hlt : g < w.heap.size := by
      rcases Nat.lt_or_ge g w.heap.size with h' | h'
      · exact h'
      · rw [Array.getElem?_eq_none h'] at h4; cases h4
    exact (hb.block _ hlt).trans h4
theorem LvW.below {s : List Nd} {w wr w' : World} {i : Nat} {done q : List Nat} {gi ci : Nat} {vout : Value} (h : LvW s w wr i done q gi ci vout) (hb : Below wr.heap.size wr w') : LvW s w w' i done q gi ci vout where
  inn := own_below h.inn hb
  out := own_below h.out hb
  ap := h.ap
  bel := h.bel.trans (hb.mono h.bel.size)
theorem below_alloc {w w' : World} {o : Obj} (hb : Below (w.alloc o).heap.size (w.alloc o) w') : Below w.heap.size w w' :=
  ((Below.refl w.heap.size w).alloc (Nat.le_refl _) o).trans (hb.mono (by simp))
theorem ivs_append (l : List Nat) (x : Nat) : ivs (l ++ [x]) = ivs l ++ [.int .i64 (x : Int)] := by unfold ivs; simp
/-- A leaf more. -/
theorem LvW.put {s : List Nd} {w wr w' : World} {i x : Nat} {done q : List Nat} {gi ci g cap : Nat} {vout : Value} {o : Obj} (h : LvW s w wr i done q gi ci vout) (ho : ¬ (nd s x).opn)
    (h1 : w'.ownsRow w.heap.size 3 1 (.slice (some ⟨g, 0, none⟩) ((outs s done).length + 1) cap) ((outs s done).length + 1) (ivs (outs s done) ++ [.int .i64 (x : Int)]))
    (h2 : (wr.alloc o).grownBy w' vout.ownBlock) (h3 : vout.ownBlock = some g ∨ g = wr.heap.size + 1) : LvW s w w' i (done ++ [x]) q gi ci (.slice (some ⟨g, 0, none⟩) ((outs s done).length + 1) cap) := by
  have hgi : gi < wr.heap.size := (h.inn.lt gi rfl).2
  have hb : Below w.heap.size w (wr.alloc o) := h.bel.alloc h.bel.size o
  exact {
    inn := (h.inn.alloc o).kept h2 (.inr (fun e => h.ap e.symm))
    out := by rw [outs_leaf ho, ivs_append, List.length_append]; exact h1
    ap := by
      intro e
      have e' : g = gi := by simpa [Value.ownBlock] using e
      rcases h3 with h3 | h3
      · exact h.ap (by rw [h3, e'])
      · omega
    bel := hb.grown h2 hb.size (fun k hk => (h.out.lt k hk).1) }
/-- A place more to go to. -/
theorem LvW.push {s : List Nd} {w wr w' : World} {i t : Nat} {done q : List Nat} {gi ci g cap : Nat} {vout : Value} {o : Obj} (h : LvW s w wr i done q gi ci vout)
    (h1 : w'.ownsRow w.heap.size 3 1 (.slice (some ⟨g, 0, none⟩) (q.length + 1) cap) (q.length + 1) (ivs q ++ [.int .i64 (t : Int)]))
    (h2 : (wr.alloc o).grownBy w' (some gi)) (h3 : some gi = some g ∨ g = wr.heap.size + 1) : LvW s w w' i done (q ++ [t]) g cap vout := by
  have hb : Below w.heap.size w (wr.alloc o) := h.bel.alloc h.bel.size o
  exact {
    inn := by rw [ivs_append, List.length_append]; exact h1
    out := (h.out.alloc o).kept h2 (.inr h.ap)
    ap := by
      intro e
      rcases h3 with h3 | h3
      · exact h.ap (by rw [e, h3])
      · have := (h.out.lt g e).2; omega
    bel := hb.grown h2 hb.size (fun k hk => by have := (h.inn.lt k hk).1; exact this) }
theorem LvW.beside {s : List Nd} {w wr w' : World} {i : Nat} {done q : List Nat} {gi ci gn : Nat} {vout : Value} {A : Array Value} {T : TypeId} {o : Obj} (h : LvW s w wr i done q gi ci vout) (hT : T ≠ 3)
    (hg : wr.heap[gn]? = some (.cells A T (0, 0))) (h2 : (wr.alloc o).grownBy w' (some gi)) : w'.heap[gn]? = some (.cells A T (0, 0)) := by
  have hlt : gn < wr.heap.size := by
    rcases Nat.lt_or_ge gn wr.heap.size with h' | h'
    · exact h'
    · rw [Array.getElem?_eq_none h'] at hg; cases hg
  have hne : gn ≠ gi := by
    rintro rfl
    rcases h.inn.2 with ⟨h', _⟩ | ⟨g, cap, cur, hv, _, hg', _⟩
    · cases h'
    · obtain rfl : g = gn := by injection hv with h1 _ _; injection h1 with h1; injection h1 with h1 _ _; exact h1.symm
      rw [hg] at hg'
      injection hg' with hg'
      injection hg' with _ e _
      exact hT e
  have h3 := h2.block gn (by simp; omega) (fun e => hne (by injection e))
  rw [h3, Below.heap_alloc wr o _ hlt, hg]
theorem block_below {w w' : World} {k : Nat} {o : Obj} (h : w.heap[k]? = some o) (hb : Below w.heap.size w w') : w'.heap[k]? = some o := by
  have hlt : k < w.heap.size := by
    rcases Nat.lt_or_ge k w.heap.size with h' | h'
    · exact h'
    · rw [Array.getElem?_eq_none h'] at h; cases h
  exact (hb.block _ hlt).trans h
theorem mem_take_succ {q : List Nat} {p t : Nat} (hp : p < q.length) : t ∈ q.take (p + 1) ↔ t ∈ q.take p ∨ q.getD p 0 = t := by
  rw [List.take_add_one, List.mem_append, List.getElem?_eq_getElem hp]
  simp [hp, eq_comm]
/-- A value that says whether P. -/
def SaysP (P : Prop) (v : Value) : Prop := ∃ q : Bool, v = .bool q ∧ (q = true ↔ P)
/-- What it answers. -/
def RetL (s : List Nd) (i : Nat) (w : World) (e : Ending) (w' : World) : Prop :=
  ∃ (v : Value) (l : List Nat) (bk : Bool), e = .returned (.tuple #[v, .bool bk]) ∧ w'.ownsRow w.heap.size 3 1 v l.length (ivs l) ∧ Below w.heap.size w w' ∧ l.length ≤ s.length ∧ (∀ j, j ∈ l ↔ Leaf s i j) ∧ (bk = true ↔ Back s i)

set_option maxHeartbeats 4000000 in
set_option maxRecDepth 100000 in
theorem leaves_any (s : List Nd) (a : Option Addr) (c i : Nat) (w : World) (hs : Sch w a s) (hw : Within s) (hi : i < s.length) (hn : s.length ≤ 40) :
    Calls Tryz.prog 26 #[.slice a s.length c, .int .i64 i] w fun e w' => RetL s i w e w' := by
  have HS : Hid (Sch w a s) := hs
  have HW : Hid (Within s) := hw
  clear hs hw
  obtain ⟨i0, hi0, hz0, hz1, hz2⟩ := info_parts Tryz.infoInt
  go_enter Tryz.func26, Tryz.ntmps26
  go_wp2
  go_loopw [6, 7, 8, 9] (fun vin vbk vout vi wr => ∃ done q gi ci bk, vin = .slice (some ⟨gi, 0, none⟩) q.length ci ∧ vbk = .bool bk ∧ vi = .int .i64 (done.length : Nat) ∧ Lv s i done q bk ∧ LvW s w wr i done q gi ci vout)
    (fun _ _ _ vi _ => s.length - (intOf vi).toNat)
  case atStart =>
    exact ⟨[], [i], w.heap.size, 1, false, rfl, rfl, rfl, Lv.start s i, ⟨⟨rfl, .inr ⟨w.heap.size, 1, _, rfl, Nat.le_refl _, heap_alloc_new w _, Nat.le_refl _, by decide, rfl, rfl⟩⟩, World.ownsRow_nil _ _ _ _, by simp [Value.ownBlock], (Below.refl _ _).alloc (Nat.le_refl _) _⟩⟩
  case round =>
    obtain ⟨done, q, gi, ci, bk, rfl, rfl, rfl, hL, hM⟩ := hrel
    have hlen := hL.len HW.out hi
    have HL : Hid (Lv s i done q bk) := hL
    have HM : Hid (LvW s w wr i done q gi ci u8) := hM
    by_cases hlt : done.length < q.length
    · obtain ⟨x, r, hq⟩ := hL.at hlt
      have HQ : Hid (q = done ++ x :: r) := hq
      have hx : q.getD done.length 0 = x := by simp [hq]
      have cin := own_cell hM.inn hlt
      rw [hx] at cin
      have hxs : x < s.length := (hL.rch x (by simp [hq])).lt HW.out hi
      obtain ⟨b, o, ka, kc, rfl, nc, kl, km, ks⟩ := HS.out x hxs
      obtain ⟨n1, n2, n3, n4⟩ := nc.below hM.bel
      have KS : Hid (KidsIn w ka (nd s x).kids) := ks
      have hlt' : (done.length : Int) < q.length := by omega
      have hxs' : (x : Int) < s.length := by omega
      clear hL hM hq hx ks nc
      by_cases ho : (nd s x).opn
      · go_wp2_with fail
        refine (open_yes _ ka kc _ ho).mono ?_
        rintro e w2 ⟨rfl, hb2⟩
        have HM2 : Hid (LvW s w w2 i done q gi ci u8) := HM.out.below (below_alloc hb2)
        have HG2 : Hid (w2.heap[wr.heap.size]? = some (.cells #[.int .i64 (nd s x).kind, .int .i64 (nd s x).tag, .int .i64 (nd s x).mode, .slice ka (nd s x).kids.length kc] 58 (0, 0))) := block_below (heap_alloc_new wr _) hb2
        have HLM : Hid (LvM s i done x 0 q bk) := HL.out.mid HQ.out
        obtain ⟨gn, hgn⟩ : ∃ gn, gn = wr.heap.size := ⟨_, rfl⟩
        rw [← hgn] at HG2
        clear hb2 cin n1 n2 n3 n4
        go_wp2
        rw [← hgn]
        clear hgn
        go_loopw [6, 7, 11] (fun vin vbk vj wx => ∃ q' gi' ci' bk' j, vin = .slice (some ⟨gi', 0, none⟩) q'.length ci' ∧ vbk = .bool bk' ∧ vj = .int .i64 (j : Nat) ∧ j ≤ (nd s x).kids.length ∧ LvM s i done x j q' bk' ∧ LvW s w wx i done q' gi' ci' u8 ∧
            Hid (wx.heap[gn]? = some (.cells #[.int .i64 (nd s x).kind, .int .i64 (nd s x).tag, .int .i64 (nd s x).mode, .slice ka (nd s x).kids.length kc] 58 (0, 0))))
          (fun _ _ vj _ => (nd s x).kids.length - (intOf vj).toNat)
        case atStart => exact ⟨q, gi, ci, bk, 0, rfl, rfl, rfl, Nat.zero_le _, HLM.out, HM2.out, HG2⟩
        case round =>
          clear HLM HM2 HG2
          obtain ⟨q', gi', ci', bk', j, rfl, rfl, rfl, hj, hLM, hM2, HG⟩ := hrel
          have hlen' := hLM.len HW.out hi
          have g3 : wr.cell? ⟨gn, 3, none⟩ = some (.slice ka (nd s x).kids.length kc) := by simp [World.cell?, HG.out]
          have HLM : Hid (LvM s i done x j q' bk') := hLM
          have HM2 : Hid (LvW s w wr i done q' gi' ci' u8) := hM2
          have hkm : (nd s x).kids.length ≤ 9223372036854775807 := by unfold maxLen at km; omega
          by_cases hjl : j < (nd s x).kids.length
          · obtain ⟨kb, ko, rfl, kcl⟩ := KS.out j hjl
            have hkr := HW.out x hxs ((nd s x).kids.getD j kd0) (by rw [List.getD_eq_getElem?_getD, List.getElem?_eq_getElem hjl]; exact List.getElem_mem hjl)
            obtain ⟨t, ht⟩ : ∃ t : Nat, ((nd s x).kids.getD j kd0).node = t := ⟨_, (Int.toNat_of_nonneg hkr.1).symm⟩
            have kn := (kcl.below hM2.bel).node
            rw [ht] at kn hkr
            have HT : Hid (((nd s x).kids.getD j kd0).node = t) := ht
            have htl : t < s.length := by omega
            have hjl' : (j : Int) < (nd s x).kids.length := by omega
            clear hLM hM2 kcl ht hkr
            obtain ⟨bk2, hbk2⟩ : ∃ b2, b2 = (bk' || decide ((t : Int) = i)) := ⟨_, rfl⟩
            have HBK : Hid (bk2 = (bk' || decide ((t : Int) = i))) := hbk2
            have hcs : (bk' = true ∧ bk2 = true) ∨ (bk' = false ∧ ((t : Int) == i) = bk2) := by
              cases bk'
              · right; exact ⟨rfl, by rw [hbk2, Bool.false_or, Bool.eq_iff_iff]; simp⟩
              · left; exact ⟨rfl, by rw [hbk2]; simp⟩
            clear hbk2
            rcases hcs with ⟨rfl, rfl⟩ | ⟨rfl, hti⟩
            · go_wp2
              go_loop [13, 14] (fun f m => ∃ p : Nat, p ≤ q'.length ∧ m = .int .i64 p ∧ SaysP (t ∉ q'.take p) f) (fun _ m => q'.length - (intOf m).toNat)
              case atStart => exact ⟨0, Nat.zero_le _, rfl, true, rfl, by simp⟩
              case round =>
                obtain ⟨p, hp, rfl, fb, rfl, hf⟩ := hrel
                have HP : Hid (fb = true ↔ t ∉ q'.take p) := hf
                clear hf
                by_cases hpl : p < q'.length
                · have cp := own_cell HM2.out.inn hpl
                  have hpl' : (p : Int) < q'.length := by omega
                  cases fb
                  · go_wp2
                    go_round
                    case rel => exact ⟨p + 1, by omega, by go_num, false, rfl, by
                      have h := HP.out
                      rw [mem_take_succ hpl]
                      refine ⟨fun h => (by cases h), fun h' => ?_⟩
                      exact h.2 (fun q => h' (.inl q))⟩
                    case measure => simp [intOf]; omega
                  · by_cases hqt : q'.getD p 0 = t
                    · have HQT : Hid (q'.getD p 0 = t) := hqt
                      rw [hqt] at cp
                      clear hqt
                      go_wp2
                      go_round
                      case rel => exact ⟨p + 1, by omega, by go_num, false, rfl, by
                        rw [mem_take_succ hpl]
                        exact ⟨fun h => (by cases h), fun h' => absurd (.inr HQT.out) h'⟩⟩
                      case measure => simp [intOf]; omega
                    · have HQT : Hid (¬ q'.getD p 0 = t) := hqt
                      generalize q'.getD p 0 = y at cp hqt
                      have e1 : ((y : Int) != (t : Int)) = true := by rw [bne_iff_ne]; omega
                      clear hqt
                      go_wp2
                      go_round
                      case rel => exact ⟨p + 1, by omega, by go_num, true, rfl, by
                        rw [mem_take_succ hpl]
                        exact ⟨fun _ h => h.elim (HP.out.1 rfl) HQT.out, fun _ => rfl⟩⟩
                      case measure => simp [intOf]; omega
                · have hpl' : (q'.length : Int) ≤ p := by omega
                  obtain rfl : p = q'.length := by omega
                  rw [List.take_length] at HP
                  cases fb
                  · have hm : t ∈ q' := Classical.byContradiction fun h => by have := HP.out.2 h; cases this
                    have HLM' : Hid (LvM s i done x (j + 1) q' true) := HBK.out ▸ HLM.out.step_old HT.out hm
                    clear hm
                    go_wp2
                    go_roundw
                    case rel => exact ⟨q', gi', ci', true, j + 1, rfl, rfl, by go_num, by omega, HLM'.out, HM2.out, HG⟩
                    case measure => simp [intOf]; omega
                  · have hm : t ∉ q' := HP.out.1 rfl
                    have HLM' : Hid (LvM s i done x (j + 1) (q' ++ [t]) true) := HBK.out ▸ HLM.out.step_new HT.out hjl ho hm
                    have hsz : w.heap.size ≤ wr.heap.size + 1 := by have := HM2.out.bel.size; omega
                    clear hm
                    go_wp2_with (at_builtin; refine wpList_append_lies _ rfl (.tmp 75) (.tmp 77) 32 rfl w.heap.size 3 i0 (.int .i64 0) 1 8 Tryz.underlying32 hi0 hz0 hz1 hz2 rfl (by decide) (.slice (some ⟨gi', 0, none⟩) q'.length ci') q'.length (ivs q') rfl (HM2.out.inn.alloc _) ⟨wr.heap.size, 0, none⟩ 1 1 [.int .i64 (t : Int)] rfl rfl (cell_one_new _ _ _) (by intro u hu; simp at hu; subst hu; rfl) (by decide) (by unfold maxLen; omega) (by omega) (by simpa using hsz) (wr.heap.size + 1) (by simp) ?_)
                    intro g cap w3 h1 h2 h3 h4
                    have HM3 : Hid (LvW s w w3 i done (q' ++ [t]) g cap u8) := HM2.out.push h1 h2 h3
                    have HG3 : Hid (w3.heap[gn]? = some (.cells #[.int .i64 (nd s x).kind, .int .i64 (nd s x).tag, .int .i64 (nd s x).mode, .slice (some ⟨kb, ko, none⟩) (nd s x).kids.length kc] 58 (0, 0))) := HM2.out.beside (by decide) HG.out h2
                    clear h1 h2 h3 h4
                    go_wp2
                    go_roundw
                    case rel => exact ⟨q' ++ [t], g, cap, true, j + 1, by simp, rfl, by go_num, by omega, HLM'.out, HM3.out, HG3⟩
                    case measure => simp [intOf]; omega
            · go_wp2
              go_loop [13, 14] (fun f m => ∃ p : Nat, p ≤ q'.length ∧ m = .int .i64 p ∧ SaysP (t ∉ q'.take p) f) (fun _ m => q'.length - (intOf m).toNat)
              case atStart => exact ⟨0, Nat.zero_le _, rfl, true, rfl, by simp⟩
              case round =>
                obtain ⟨p, hp, rfl, fb, rfl, hf⟩ := hrel
                have HP : Hid (fb = true ↔ t ∉ q'.take p) := hf
                clear hf
                by_cases hpl : p < q'.length
                · have cp := own_cell HM2.out.inn hpl
                  have hpl' : (p : Int) < q'.length := by omega
                  cases fb
                  · go_wp2
                    go_round
                    case rel => exact ⟨p + 1, by omega, by go_num, false, rfl, by
                      have h := HP.out
                      rw [mem_take_succ hpl]
                      refine ⟨fun h => (by cases h), fun h' => ?_⟩
                      exact h.2 (fun q => h' (.inl q))⟩
                    case measure => simp [intOf]; omega
                  · by_cases hqt : q'.getD p 0 = t
                    · have HQT : Hid (q'.getD p 0 = t) := hqt
                      rw [hqt] at cp
                      clear hqt
                      go_wp2
                      go_round
                      case rel => exact ⟨p + 1, by omega, by go_num, false, rfl, by
                        rw [mem_take_succ hpl]
                        exact ⟨fun h => (by cases h), fun h' => absurd (.inr HQT.out) h'⟩⟩
                      case measure => simp [intOf]; omega
                    · have HQT : Hid (¬ q'.getD p 0 = t) := hqt
                      generalize q'.getD p 0 = y at cp hqt
                      have e1 : ((y : Int) != (t : Int)) = true := by rw [bne_iff_ne]; omega
                      clear hqt
                      go_wp2
                      go_round
                      case rel => exact ⟨p + 1, by omega, by go_num, true, rfl, by
                        rw [mem_take_succ hpl]
                        exact ⟨fun _ h => h.elim (HP.out.1 rfl) HQT.out, fun _ => rfl⟩⟩
                      case measure => simp [intOf]; omega
                · have hpl' : (q'.length : Int) ≤ p := by omega
                  obtain rfl : p = q'.length := by omega
                  rw [List.take_length] at HP
                  cases fb
                  · have hm : t ∈ q' := Classical.byContradiction fun h => by have := HP.out.2 h; cases this
                    have HLM' : Hid (LvM s i done x (j + 1) q' bk2) := HBK.out ▸ HLM.out.step_old HT.out hm
                    clear hm
                    go_wp2
                    go_roundw
                    case rel => exact ⟨q', gi', ci', bk2, j + 1, rfl, rfl, by go_num, by omega, HLM'.out, HM2.out, HG⟩
                    case measure => simp [intOf]; omega
                  · have hm : t ∉ q' := HP.out.1 rfl
                    have HLM' : Hid (LvM s i done x (j + 1) (q' ++ [t]) bk2) := HBK.out ▸ HLM.out.step_new HT.out hjl ho hm
                    have hsz : w.heap.size ≤ wr.heap.size + 1 := by have := HM2.out.bel.size; omega
                    clear hm
                    go_wp2_with (at_builtin; refine wpList_append_lies _ rfl (.tmp 75) (.tmp 77) 32 rfl w.heap.size 3 i0 (.int .i64 0) 1 8 Tryz.underlying32 hi0 hz0 hz1 hz2 rfl (by decide) (.slice (some ⟨gi', 0, none⟩) q'.length ci') q'.length (ivs q') rfl (HM2.out.inn.alloc _) ⟨wr.heap.size, 0, none⟩ 1 1 [.int .i64 (t : Int)] rfl rfl (cell_one_new _ _ _) (by intro u hu; simp at hu; subst hu; rfl) (by decide) (by unfold maxLen; omega) (by omega) (by simpa using hsz) (wr.heap.size + 1) (by simp) ?_)
                    intro g cap w3 h1 h2 h3 h4
                    have HM3 : Hid (LvW s w w3 i done (q' ++ [t]) g cap u8) := HM2.out.push h1 h2 h3
                    have HG3 : Hid (w3.heap[gn]? = some (.cells #[.int .i64 (nd s x).kind, .int .i64 (nd s x).tag, .int .i64 (nd s x).mode, .slice (some ⟨kb, ko, none⟩) (nd s x).kids.length kc] 58 (0, 0))) := HM2.out.beside (by decide) HG.out h2
                    clear h1 h2 h3 h4
                    go_wp2
                    go_roundw
                    case rel => exact ⟨q' ++ [t], g, cap, bk2, j + 1, by simp, rfl, by go_num, by omega, HLM'.out, HM3.out, HG3⟩
                    case measure => simp [intOf]; omega
          · have hjl' : ((nd s x).kids.length : Int) ≤ j := by omega
            obtain rfl : j = (nd s x).kids.length := by omega
            have HL' : Hid (Lv s i (done ++ [x]) q' bk') := hLM.finish ho
            have HM' : Hid (LvW s w wr i (done ++ [x]) q' gi' ci' u8) := ⟨hM2.inn, by rw [outs_open ho]; exact hM2.out, hM2.ap, hM2.bel⟩
            clear hLM hM2
            go_wp2
            go_roundw
            case rel => exact ⟨done ++ [x], q', gi', ci', bk', rfl, rfl, by simp, HL'.out, HM'.out⟩
            case measure => simp [intOf]; omega
      · go_wp2_with fail
        refine (open_no _ ka kc _ ho).mono ?_
        rintro e w2 ⟨rfl, hb2⟩
        have HM2 : Hid (LvW s w w2 i done q gi ci u8) := HM.out.below (below_alloc hb2)
        have cin2 : w2.cell? ⟨gi, done.length, none⟩ = some (.int .i64 (x : Int)) := ((below_alloc hb2).cell (lt_of_cell cin)).trans cin
        have hol : (outs s done).length ≤ 40 := by have := outs_le s done; omega
        have hsz : w.heap.size ≤ w2.heap.size + 1 := by have := HM2.out.bel.size; omega
        clear hb2 cin n1 n2 n3 n4
        go_wp2_with (at_builtin; refine wpList_append_lies _ rfl (.tmp 33) (.tmp 38) 32 rfl w.heap.size 3 i0 (.int .i64 0) 1 8 Tryz.underlying32 hi0 hz0 hz1 hz2 rfl (by decide) u8 (outs s done).length (ivs (outs s done)) rfl (HM2.out.out.alloc _) ⟨w2.heap.size, 0, none⟩ 1 1 [.int .i64 (x : Int)] rfl rfl (cell_one_new _ _ _) (by intro u hu; simp at hu; subst hu; rfl) (by decide) (by unfold maxLen; omega) (by omega) (by simpa using hsz) (w2.heap.size + 1) (by simp) ?_)
        intro g cap w3 h1 h2 h3 h4
        have HM3 : Hid (LvW s w w3 i (done ++ [x]) q gi ci (.slice (some ⟨g, 0, none⟩) ((outs s done).length + 1) cap)) := HM2.out.put ho h1 h2 h3
        clear h1 h2 h3 h4
        go_wp2
        go_roundw
        case rel => exact ⟨done ++ [x], q, gi, ci, bk, rfl, rfl, by simp, HL.out.leaf HQ.out ho, HM3.out⟩
        case measure => simp [intOf]; omega
    · obtain rfl : done = q := hL.done_eq (by omega)
      have hlt' : (done.length : Int) ≤ done.length := Int.le_refl _
      clear hL hM
      go_wp2
      go_ret2
      exact ⟨u8, outs s done, bk, rfl, HM.out.out, HM.out.bel, Nat.le_trans (outs_le s done) hlen, HL.out.leaves, HL.out.backs⟩
end Go.Proofs.YtjceeljaljdmoaaGreatDoor
