/-
  The document's reader: node, of the kinds 1 to 9.
-/
import Derived.Test.YtjceeljaljdmoaaGreatDoorRwa
import Derived.Test.YtjceeljaljdmoaaGreatDoorRwb
import Derived.Test.YtjceeljaljdmoaaGreatDoorRwc
namespace Go.Proofs.YtjceeljaljdmoaaGreatDoor
open Go.RowKit

theorem node_leaf (s : List Nd) (W w : World) (R : Nat) (a : Option Addr) (c : Nat) (data : ByteArray) (tree : List Vl) (p : Int) (i x y : Nat) (dp : Int)
    (h : RdI W w R a s.length c data tree 0 p) (hs : Sch W a s) (hi : i < s.length) (hk1 : 1 ≤ (nd s i).kind) (hk9 : (nd s i).kind ≤ 9) (hmo : 0 ≤ (nd s i).tag → (nd s i).mode = 0 ∨ (nd s i).mode = 1)
    (hxy : x ≤ y) (hy : y ≤ data.size) (hm : data.size ≤ 140737488355328) (ht : tree.length ≤ 1099511627776) :
    Calls Tryz.prog 48 #[.pointer (some ⟨R, 0, none⟩), .int .i64 i, .int .i64 x, .int .i64 y, .int .i64 dp] w
      fun e w' => RetN W R a s.length c data (nd s i) x y dp tree e w' := by
  by_cases htg : (nd s i).tag < 0
  · exact node_leafA s W w R a c data tree p i x y dp h hs hi hk1 hk9 htg hxy hy hm ht
  · have htg' : 0 ≤ (nd s i).tag := by omega
    rcases hmo htg' with hm0 | hm0
    · exact node_leafB s W w R a c data tree p i x y dp h hs hi hk1 hk9 htg' hm0 hxy hy hm ht
    · exact node_leafC s W w R a c data tree p i x y dp h hs hi hk1 hk9 htg' hm0 hxy hy hm ht
end Go.Proofs.YtjceeljaljdmoaaGreatDoor
