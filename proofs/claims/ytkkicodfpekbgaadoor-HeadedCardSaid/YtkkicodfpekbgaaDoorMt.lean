/-
  A head that is told is read again: plain mathematics; no program is named here.
-/
import Derived.Test.YtkkicodfpekbgaaDoorMath
namespace Go.Proofs.YtkkicodfpekbgaaDoor

theorem b8_mk (l : List UInt8) (i : Nat) : b8 ⟨l.toArray⟩ i = ((l.getD i 0).toNat : Int) := by simp [b8]
theorem size_mk (l : List UInt8) : (⟨l.toArray⟩ : ByteArray).size = l.length := by show l.toArray.size = _; simp
theorem extract_mk (a : UInt8) (l : List UInt8) : (⟨(a :: l).toArray⟩ : ByteArray).extract 1 (⟨(a :: l).toArray⟩ : ByteArray).size = ⟨l.toArray⟩ := by
  apply ByteArray.ext
  rw [size_mk]
  apply Array.toList_inj.1
  rw [Lib.extract_data]
  simp
theorem u8_nat (x : Int) (h0 : 0 ≤ x) (h1 : x < 256) : ((UInt8.ofNat x.toNat).toNat : Int) = x := by
  have : (UInt8.ofNat x.toNat).toNat = x.toNat := by rw [UInt8.toNat_ofNat']; omega
  omega

/-- The length's bytes, whatever comes behind, tell the length. -/
theorem rl_tl (n : Int) (h0 : 0 ≤ n) (h1 : n < 16777216) (rest : List UInt8) : rl ⟨(tl n ++ rest).toArray⟩ = (0, 1 + cnt n, n) := by
  have hlen := tl_length n
  have hc := cnt_cases n
  rcases hc with ⟨a, b⟩ | ⟨a, a', b⟩ | ⟨a, a', b⟩ | ⟨a, b⟩
  · have e : tl n = [UInt8.ofNat n.toNat] := by unfold tl; rw [if_pos a]
    have e0 : b8 ⟨(tl n ++ rest).toArray⟩ 0 = n := by rw [b8_mk, e]; exact u8_nat n h0 (by omega)
    unfold rl
    rw [size_mk, e0, if_neg (by rw [e]; simp), if_pos a, b]
    rfl
  · have e : tl n = [129, UInt8.ofNat n.toNat] := by unfold tl; rw [if_neg (by omega), if_pos a']
    have e0 : b8 ⟨(tl n ++ rest).toArray⟩ 0 = 129 := by rw [b8_mk, e]; rfl
    have e1 : b8 ⟨(tl n ++ rest).toArray⟩ 1 = n := by rw [b8_mk, e]; exact u8_nat n h0 (by omega)
    have en : numTo ⟨(tl n ++ rest).toArray⟩ 1 = n := by simp only [numTo]; rw [e1]; omega
    unfold rl
    rw [size_mk, e0, if_neg (by rw [e]; simp), if_neg (by omega), if_neg (by omega), if_neg (by rw [e]; simp; omega), show ((129 : Int) - 128).toNat = 1 by rfl, en, if_neg (by omega), b]
    rfl
  · have e : tl n = [130, UInt8.ofNat (n / 256).toNat, UInt8.ofNat (n % 256).toNat] := by unfold tl; rw [if_neg (by omega), if_neg (by omega), if_pos a']
    have e0 : b8 ⟨(tl n ++ rest).toArray⟩ 0 = 130 := by rw [b8_mk, e]; rfl
    have e1 : b8 ⟨(tl n ++ rest).toArray⟩ 1 = n / 256 := by rw [b8_mk, e]; exact u8_nat _ (by omega) (by omega)
    have e2 : b8 ⟨(tl n ++ rest).toArray⟩ 2 = n % 256 := by rw [b8_mk, e]; exact u8_nat _ (by omega) (by omega)
    have en : numTo ⟨(tl n ++ rest).toArray⟩ 2 = n := by simp only [numTo]; rw [e1, e2]; omega
    unfold rl
    rw [size_mk, e0, if_neg (by rw [e]; simp), if_neg (by omega), if_neg (by omega), if_neg (by rw [e]; simp; omega), show ((130 : Int) - 128).toNat = 2 by rfl, en, if_neg (by omega), b]
    rfl
  · have e : tl n = [131, UInt8.ofNat (n / 65536).toNat, UInt8.ofNat (n / 256 % 256).toNat, UInt8.ofNat (n % 256).toNat] := by unfold tl; rw [if_neg (by omega), if_neg (by omega), if_neg (by omega)]
    have e0 : b8 ⟨(tl n ++ rest).toArray⟩ 0 = 131 := by rw [b8_mk, e]; rfl
    have e1 : b8 ⟨(tl n ++ rest).toArray⟩ 1 = n / 65536 := by rw [b8_mk, e]; exact u8_nat _ (by omega) (by omega)
    have e2 : b8 ⟨(tl n ++ rest).toArray⟩ 2 = n / 256 % 256 := by rw [b8_mk, e]; exact u8_nat _ (by omega) (by omega)
    have e3 : b8 ⟨(tl n ++ rest).toArray⟩ 3 = n % 256 := by rw [b8_mk, e]; exact u8_nat _ (by omega) (by omega)
    have en : numTo ⟨(tl n ++ rest).toArray⟩ 3 = n := by simp only [numTo]; rw [e1, e2, e3]; omega
    unfold rl
    rw [size_mk, e0, if_neg (by rw [e]; simp), if_neg (by omega), if_neg (by omega), if_neg (by rw [e]; simp; omega), show ((131 : Int) - 128).toNat = 3 by rfl, en, if_neg (by omega), b]
    rfl

/-- A head's bytes and what comes behind them, read: the head, if that is enough; else they end. -/
theorem hd_told (c : Int) (b : Bool) (n l : Int) (z : Int) (q1 : 0 ≤ c) (q2 : c ≤ 3) (q3 : 0 ≤ n) (q4 : n ≤ 30) (q5 : 0 ≤ l) (q6 : l ≤ 16777215) (rest : List UInt8) :
    hd ⟨(UInt8.ofNat (fb ⟨c, b, n, z, l⟩).toNat :: (tl l ++ rest)).toArray⟩ = if (rest.length : Int) < l then (3, .zero) else (0, ⟨c, b, n, 2 + cnt l, l⟩) := by
  have hf : fb ⟨c, b, n, z, l⟩ = c * 64 + n + (if b then 32 else 0) := by unfold fb; cases b <;> simp
  have hf0 : 0 ≤ fb ⟨c, b, n, z, l⟩ ∧ fb ⟨c, b, n, z, l⟩ < 256 := by rw [hf]; cases b <;> simp <;> omega
  have e0 : b8 ⟨(UInt8.ofNat (fb ⟨c, b, n, z, l⟩).toNat :: (tl l ++ rest)).toArray⟩ 0 = fb ⟨c, b, n, z, l⟩ := by rw [b8_mk]; exact u8_nat _ hf0.1 hf0.2
  have hlen := tl_length l
  have hd1 : fb ⟨c, b, n, z, l⟩ % 32 = n := by rw [hf]; cases b <;> simp <;> omega
  have hd2 : fb ⟨c, b, n, z, l⟩ / 64 = c := by rw [hf]; cases b <;> simp <;> omega
  have hd3 : (fb ⟨c, b, n, z, l⟩ / 32 % 2 == 1) = b := by
    rw [hf]; cases b
    · rw [beq_eq_false_iff_ne]; simp; omega
    · rw [beq_iff_eq]; simp; omega
  unfold hd
  rw [extract_mk, rl_tl l q5 (by omega) rest, e0, hd1, hd2, hd3, size_mk]
  simp only
  rw [if_neg (by simp), if_neg (by omega), if_neg (by omega)]
  have hL : (((UInt8.ofNat (fb ⟨c, b, n, z, l⟩).toNat :: (tl l ++ rest)).length : Nat) : Int) = 2 + cnt l + rest.length := by
    simp only [List.length_cons, List.length_append]; omega
  rw [hL]
  by_cases h : (rest.length : Int) < l
  · rw [if_pos h, if_pos (by omega)]
  · rw [if_neg h, if_neg (by omega), show 1 + cnt l + 1 = 2 + cnt l by omega]
theorem hd_one (a : UInt8) (h : (a.toNat : Int) % 32 ≠ 31) : hd ⟨[a].toArray⟩ = (3, .zero) := by
  have e0 : b8 ⟨[a].toArray⟩ 0 = a.toNat := by rw [b8_mk]; rfl
  unfold hd
  rw [extract_mk, e0, size_mk]
  have hr : rl ⟨([] : List UInt8).toArray⟩ = (3, 0, 0) := by unfold rl; rw [size_mk]; rfl
  rw [hr, if_neg (by simp), if_neg h]
  rfl
theorem mk_append (x y : List UInt8) : (⟨x.toArray⟩ : ByteArray) ++ ⟨y.toArray⟩ = ⟨(x ++ y).toArray⟩ := by
  apply ByteArray.ext
  simp
theorem mk_eta (t : ByteArray) : t = ⟨t.data.toList.toArray⟩ := by
  apply ByteArray.ext
  simp
theorem mk_zeros (m : Nat) : (⟨Array.replicate m 0⟩ : ByteArray) = ⟨(List.replicate m (0 : UInt8)).toArray⟩ := by
  apply ByteArray.ext
  simp
theorem told_plus (c : Int) (b : Bool) (n z : Int) (m : Nat) (q1 : 0 ≤ c) (q2 : c ≤ 3) (q3 : 0 ≤ n) (q4 : n ≤ 30) (q6 : (m : Int) ≤ 16777215) (t : ByteArray) :
    hd (⟨(UInt8.ofNat (fb ⟨c, b, n, z, m⟩).toNat :: tl m).toArray⟩ ++ ⟨Array.replicate m 0⟩ ++ t) = (0, ⟨c, b, n, ((⟨(UInt8.ofNat (fb ⟨c, b, n, z, m⟩).toNat :: tl m).toArray⟩ : ByteArray).size : Int), m⟩) := by
  have hl := tl_length m
  rw [size_mk, mk_zeros, mk_append, mk_eta t, mk_append]
  have e : (UInt8.ofNat (fb ⟨c, b, n, z, m⟩).toNat :: tl m) ++ List.replicate m (0 : UInt8) ++ t.data.toList = UInt8.ofNat (fb ⟨c, b, n, z, m⟩).toNat :: (tl m ++ (List.replicate m (0 : UInt8) ++ t.data.toList)) := by simp
  rw [e, hd_told c b n m z q1 q2 q3 q4 (by omega) q6, if_neg (by simp only [List.length_append, List.length_replicate]; omega)]
  rw [show ((UInt8.ofNat (fb ⟨c, b, n, z, m⟩).toNat :: tl m).length : Int) = 2 + cnt m by simp only [List.length_cons]; omega]
theorem told_less (c : Int) (b : Bool) (n z : Int) (m k : Nat) (q1 : 0 ≤ c) (q2 : c ≤ 3) (q3 : 0 ≤ n) (q4 : n ≤ 30) (q6 : (m : Int) ≤ 16777215)
    (hk : k = (⟨(UInt8.ofNat (fb ⟨c, b, n, z, m⟩).toNat :: tl m).toArray⟩ : ByteArray).size + m - 1) :
    hd ((⟨(UInt8.ofNat (fb ⟨c, b, n, z, m⟩).toNat :: tl m).toArray⟩ ++ ⟨Array.replicate m 0⟩ : ByteArray).extract 0 k) = (3, .zero) := by
  have hl := tl_length m
  rw [size_mk] at hk
  simp only [List.length_cons] at hk
  rw [mk_zeros, mk_append]
  have ex : ∀ (l : List UInt8) (j : Nat), (⟨l.toArray⟩ : ByteArray).extract 0 j = ⟨(l.take j).toArray⟩ := fun l j => by
    apply ByteArray.ext
    apply Array.toList_inj.1
    rw [Lib.extract_data]
    simp
  rw [ex]
  by_cases hm : m = 0
  · subst hm
    have et : tl ((0 : Nat) : Int) = [0] := rfl
    rw [et] at hk ⊢
    have hk1 : k = 1 := by simp at hk; omega
    subst hk1
    simp only [List.replicate, List.append_nil, List.take_succ_cons, List.take_zero]
    refine hd_one _ ?_
    have hf : fb ⟨c, b, n, z, ((0 : Nat) : Int)⟩ = c * 64 + n + (if b then 32 else 0) := by unfold fb; cases b <;> simp
    rw [u8_nat _ (by rw [hf]; cases b <;> simp <;> omega) (by rw [hf]; cases b <;> simp <;> omega), hf]
    cases b <;> simp <;> omega
  · obtain ⟨j, rfl⟩ : ∃ j, m = j + 1 := ⟨m - 1, by omega⟩
    have e : ((UInt8.ofNat (fb ⟨c, b, n, z, ((j + 1 : Nat) : Int)⟩).toNat :: tl ((j + 1 : Nat) : Int)) ++ List.replicate (j + 1) (0 : UInt8)).take k = UInt8.ofNat (fb ⟨c, b, n, z, ((j + 1 : Nat) : Int)⟩).toNat :: (tl ((j + 1 : Nat) : Int) ++ List.replicate j (0 : UInt8)) := by
      have hk' : k = (UInt8.ofNat (fb ⟨c, b, n, z, ((j + 1 : Nat) : Int)⟩).toNat :: tl ((j + 1 : Nat) : Int)).length + j := by simp only [List.length_cons]; omega
      rw [hk', List.take_length_add_append, List.take_replicate, Nat.min_eq_left (by omega)]
      simp
    rw [e, hd_told c b n ((j + 1 : Nat) : Int) z q1 q2 q3 q4 (by omega) q6, if_pos (by rw [List.length_replicate]; omega)]
end Go.Proofs.YtkkicodfpekbgaaDoor
