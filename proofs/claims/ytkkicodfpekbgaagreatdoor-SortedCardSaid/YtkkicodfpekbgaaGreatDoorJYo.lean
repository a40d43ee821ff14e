/-
  Writing: more fuel changes nothing.
-/
import Derived.Test.YtkkicodfpekbgaaGreatDoorJ5
namespace Go.Proofs.YtkkicodfpekbgaaGreatDoor
set_option linter.unusedSimpArgs false
set_option linter.unusedVariables false

def WRecLe (r r' : WRec) : Prop := ∀ i x dp o, r i x dp = some o → r' i x dp = some o
theorem wandThen_le {o o' : Option WOut} {k k' : ByteArray → Nat → Bool → Option WOut} {v : WOut} (ho : ∀ u, o = some u → o' = some u) (hk : ∀ b x u v, k b x u = some v → k' b x u = some v) (h : WOut.andThen o k = some v) : WOut.andThen o' k' = some v := by
  rcases wandThen_cases h with ⟨h1, h2⟩ | ⟨b, x, u, h1, h2⟩
  · rw [ho _ h1, h2]; rfl
  · rw [ho _ h1]
    exact hk b x u v h2
theorem wseqF_le {E : WEnv} {r r' : WRec} (hr : WRecLe r r') {dp : Int} : ∀ (ks : List Kd) (x : Nat) (out : ByteArray) (u : Bool) (v : WOut), wseqF E r dp ks x out u = some v → wseqF E r' dp ks x out u = some v
  | [], x, out, u, v, h => h
  | k :: ks, x, out, u, v, h => by
    unfold wseqF at h ⊢
    split at h
    · rename_i q
      rw [if_pos q]
      split at h
      · rename_i q2
        rw [if_pos q2]
        exact wseqF_le hr ks _ _ _ _ h
      · rename_i q2
        rw [if_neg q2]
        exact h
    · rename_i q
      rw [if_neg q]
      refine wandThen_le (fun o ho => hr _ _ _ _ ho) (fun b x' u' v h => ?_) h
      split at h
      · rename_i q2
        rw [if_pos q2]
        exact wseqF_le hr ks _ _ _ _ h
      · rename_i q2
        rw [if_neg q2]
        split at h
        · rename_i q3
          rw [if_pos q3]
          exact h
        · rename_i q3
          rw [if_neg q3]
          exact wseqF_le hr ks _ _ _ _ h
theorem wmanyF_le {E : WEnv} {r r' : WRec} (hr : WRecLe r r') {set : Bool} {i : Nat} {dp : Int} : ∀ (m m' : Nat) (c : Int) (x : Nat) (out last : ByteArray) (u : Bool) (v : WOut), m ≤ m' → wmanyF E r set i dp m c x out last u = some v → wmanyF E r' set i dp m' c x out last u = some v
  | 0, _, _, _, _, _, _, _, _, h => by cases h
  | m + 1, 0, _, _, _, _, _, _, hm, _ => by omega
  | m + 1, m' + 1, c, x, out, last, u, v, hm, h => by
    unfold wmanyF at h ⊢
    split at h
    · rename_i q
      rw [if_pos q]
      exact wandThen_le (fun o ho => hr _ _ _ _ ho) (fun b x' u' v h => wmanyF_le hr m m' _ _ _ _ _ _ (by omega) h) h
    · rename_i q
      rw [if_neg q]
      exact h
theorem wbareF_le {E : WEnv} {r r' : WRec} (hr : WRecLe r r') {m m' : Nat} (hm : m ≤ m') {n : Nd} {cl nu : Int} {v : Vl} {x : Nat} {dp : Int} {o : WOut} (h : wbareF E r m n cl nu v x dp = some o) : wbareF E r' m' n cl nu v x dp = some o := by
  unfold wbareF at h ⊢
  split at h
  · rename_i q
    rw [if_pos q]
    split at h
    · rename_i q2
      rw [if_pos q2]
      exact hr _ _ _ _ h
    · rename_i q2
      rw [if_neg q2]
      exact h
  rename_i q0
  rw [if_neg q0]
  split at h
  · rename_i q
    rw [if_pos q]
    exact h
  rename_i q1
  rw [if_neg q1]
  split at h
  · rename_i q
    rw [if_pos q]
    split at h
    · rename_i q2
      rw [if_pos q2]
      exact wandThen_le (fun o ho => wseqF_le hr _ _ _ _ _ ho) (fun _ _ _ _ h => h) h
    · rename_i q2
      rw [if_neg q2]
      exact h
  rename_i q3
  rw [if_neg q3]
  split at h
  · rename_i q
    rw [if_pos q]
    split at h
    · rename_i q2
      rw [if_pos q2]
      exact wandThen_le (fun o ho => wmanyF_le hr _ _ _ _ _ _ _ _ hm ho) (fun _ _ _ _ h => h) h
    · rename_i q2
      rw [if_neg q2]
      exact h
  rename_i q4
  rw [if_neg q4]
  exact h
theorem wrF_le {E : WEnv} : ∀ f, WRecLe (wrF E f) (wrF E (f + 1))
  | 0 => fun _ _ _ _ h => by cases h
  | f + 1 => fun i x dp o h => by
    rw [wrF] at h ⊢
    split at h
    · rename_i q
      rw [if_pos q]
      exact wandThen_le (fun o ho => wbareF_le (wrF_le f) (Nat.le_succ _) ho) (fun _ _ _ _ h => h) h
    · rename_i q
      rw [if_neg q]
      exact h
theorem wrF_add {E : WEnv} (f : Nat) : ∀ k, WRecLe (wrF E f) (wrF E (f + k))
  | 0 => fun _ _ _ _ h => h
  | k + 1 => fun i x dp o h => wrF_le (f + k) i x dp o (wrF_add f k i x dp o h)
end Go.Proofs.YtkkicodfpekbgaaGreatDoor
