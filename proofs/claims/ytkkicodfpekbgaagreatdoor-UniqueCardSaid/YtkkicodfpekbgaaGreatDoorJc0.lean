/-
A text's bytes with one of them turned.
-/
import Derived.Test.YtkkicodfpekbgaaGreatDoorJa0
import Derived.Test.YtkkicodfpekbgaaGreatDoorChecked
import Derived.WalkKit
import Derived.Laws.BitsAllLaws
namespace Go.Proofs.YtkkicodfpekbgaaGreatDoor
open Go.RowKit
set_option linter.unusedSimpArgs false
set_option linter.unusedVariables false
set_option maxRecDepth 100000
set_option maxHeartbeats 8000000
def setB(b:ByteArray)(k:Nat)(z:Int):ByteArray:=⟨(b.data.toList.set k (UInt8.ofNat z.toNat)).toArray⟩
theorem setB_size(b:ByteArray)(k:Nat)(z:Int):(setB b k z).size=b.size:=by
 show((b.data.toList.set k _).toArray).size=b.data.size
 rw[List.size_toArray,List.length_set,Array.length_toList]
theorem setB_ne{b:ByteArray}{k:Nat}{z:Int}(hk:k<b.size)(h0:0≤z)(h1:z<256)(hz:z≠b8 b k):setB b k z≠b:=fun h=>by
 have e:b8 (setB b k z) k=z:=by
  unfold b8 setB
  rw[List.getD_eq_getElem?_getD]
  have hl:k<b.data.toList.length:=by rw[Array.length_toList];exact hk
  simp only[List.getElem?_set_self hl,Option.getD_some,UInt8.toNat_ofNat']
  omega
 rw[h]at e
 exact hz e.symm
theorem row_b8{b:ByteArray}{c j:Nat}(hj:j<b.size):(bytesRow b c)[j]? =some (.int .u8 (b8 b j)):=by
 unfold bytesRow b8
 have h1:j<b.data.size:=hj
 rw[Array.getElem?_append_left (by rw[Array.size_map];exact h1),Array.getElem?_map,Array.getElem?_eq_getElem h1,List.getD_eq_getElem?_getD,Array.getElem?_toList,Array.getElem?_eq_getElem h1]
 rfl
theorem row_cell8{w:World}{g:Nat}{b:ByteArray}{c:Nat}{fr:Nat×Nat}(hv:w.heap[g]? =some (.cells (bytesRow b c) 5 fr)){j:Nat}(hj:j<b.size):w.cell? ⟨g,j,none⟩=some (.int .u8 (b8 b j)):=by
 have:=row_b8 (c:=c) hj
 simp only[World.cell?,hv]
 simpa using this
theorem row_frz{w:World}{g:Nat}{b:ByteArray}{c:Nat}(hv:w.heap[g]? =some (.cells (bytesRow b c) 5 ((bytesRow b c).size,(bytesRow b c).size+1))){j:Nat}(hj:j<b.size):w.frozen? ⟨g,j,none⟩=false:=by
 have hs:b.size≤(bytesRow b c).size:=by
  unfold bytesRow
  rw[Array.size_append,Array.size_map]
  exact Nat.le_add_right _ _
 simp only[World.frozen?,hv]
 simp
 omega
theorem turn_conv{w:World}{g:Nat}{b:ByteArray}{c:Nat}{fr:Nat×Nat}(hv:w.heap[g]? =some (.cells (bytesRow b c) 5 fr)){k:Nat}(hk:k<b.size)(z:Int)(h0:0≤z)(h1:z<256)(cp:Nat):
 (convert 52 9 (.slice (some ⟨g,0,none⟩) b.size cp)).run Tryz.prog (w.setCell ⟨g,k,none⟩ (.int .u8 z))= .ok (.string (setB b k z)) (w.setCell ⟨g,k,none⟩ (.int .u8 z)):=by
 have hlen:(b.data.toList.set k (UInt8.ofNat z.toNat)).length=b.size:=by rw[List.length_set,Array.length_toList];rfl
 have h:=run_convert_bytes_back (P:=Tryz.prog) (w.setCell ⟨g,k,none⟩ (.int .u8 z)) 52 9 5 ⟨g,0,none⟩ cp (b.data.toList.set k (UInt8.ofNat z.toNat)) Tryz.underlying52 Tryz.underlying5 Tryz.underlying9 (fun j hj=>by
  have e1:(⟨g,0,none⟩:Addr).add j=⟨g,j,none⟩:=by unfold Addr.add;split<;>simp_all
  have hj':j<b.size:=by rw[←hlen];exact hj
  rw[e1]
  by_cases q:j=k
  ·subst q
   rw[World.cell?_setCell_same _ _ _ (row_cell8 hv hj'),List.getElem_set_self,UInt8.toNat_ofNat']
   rw[show((z.toNat%2^8:Nat):Int)=z by omega]
  ·rw[World.cell?_setCell_other _ _ _ _ (by simp;try omega),row_cell8 hv hj',List.getElem_set_ne (by omega)]
   unfold b8
   rw[List.getD_eq_getElem?_getD,List.getElem?_eq_getElem (by rw[Array.length_toList];exact hj'),Option.getD_some])
 rw[hlen]at h
 exact h
theorem xor8(a b:Int)(h1:0≤a)(h2:a<256)(h3:0≤b)(h4:b<256):∃z,bits .xor .u8 a b=z∧0≤z∧z<256∧(b≠0→z≠a):=by
 obtain⟨A,rfl⟩:=Int.eq_ofNat_of_zero_le h1
 obtain⟨B,rfl⟩:=Int.eq_ofNat_of_zero_le h3
 have hx:A ^^^ B<2^8:=Nat.xor_lt_two_pow (by omega) (by omega)
 refine⟨((A ^^^ B:Nat):Int),u8_xor_nat A B (by omega) (by omega),by omega,by omega,fun h e=>h ?_⟩
 have e':A ^^^ B=A:=by omega
 have:A ^^^ (A ^^^ B)=A ^^^ A:=by rw[e']
 rw[←Nat.xor_assoc,Nat.xor_self,Nat.zero_xor]at this
 omega
end Go.Proofs.YtkkicodfpekbgaaGreatDoor
