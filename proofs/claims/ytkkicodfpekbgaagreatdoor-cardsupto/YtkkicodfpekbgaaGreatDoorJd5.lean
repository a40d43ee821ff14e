/-
What the condition on the package's variables gives: the errors, each at a place of its own, and the tables; a world that meets it.
-/
import Derived.Test.YtkkicodfpekbgaaGreatDoorJc3
import Derived.Test.YtkkicodfpekbgaaGreatDoorCards
import Derived.Test.YtkkicodfpekbgaaGreatDoorTie
import Derived.ProofKit
import Derived.LaidMore
import Derived.OpenShut
import Derived.Stop.LaidErr
import Derived.Lib.LaidU8T
import Derived.Lay
open Option renaming some->U,none->Z
open Go renaming World->M
open Go.MemPlace renaming row->Mr
open _root_ renaming List->Ls
open Go.Addr renaming mk->D
set_option linter.unusedSimpArgs false
set_option linter.unusedVariables false
set_option maxRecDepth 100000
set_option maxHeartbeats 8000000
namespace Go.Proofs.YtkkicodfpekbgaaGreatDoor
open Go.ChangeShapes Go.WideShapes Go.ChangeAt Go.WideMaps Go.WideElems Go.RowKit Go.Lib
theorem Cm:ownKnob Tryz.prog.godebug=Z:=Kr
theorem nz:laidOutB Tryz.prog=true:=Kr
theorem xo:Tryz.prog.globalNamed "hallmark/fault.Card" =U 10:=Kr
theorem uW:(Tryz.prog.globals[10]?).map (·.type)=U 85:=Kr
theorem xq:Tryz.prog.globalNamed "hallmark/fault.Deep" =U 8:=Kr
theorem uY:(Tryz.prog.globals[8]?).map (·.type)=U 85:=Kr
theorem rU:Tryz.prog.globalNamed "hallmark/fault.Default" =U 7:=Kr
theorem pY:(Tryz.prog.globals[7]?).map (·.type)=U 85:=Kr
theorem Ar:Tryz.prog.globalNamed "hallmark/fault.End" =U 1:=Kr
theorem xz:(Tryz.prog.globals[1]?).map (·.type)=U 85:=Kr
theorem tV:Tryz.prog.globalNamed "hallmark/fault.Length" =U 3:=Kr
theorem rV:(Tryz.prog.globals[3]?).map (·.type)=U 85:=Kr
theorem xr:Tryz.prog.globalNamed "hallmark/fault.Long" =U 0:=Kr
theorem uZ:(Tryz.prog.globals[0]?).map (·.type)=U 85:=Kr
theorem xu:Tryz.prog.globalNamed "hallmark/fault.Mark" =U 11:=Kr
theorem u7:(Tryz.prog.globals[11]?).map (·.type)=U 85:=Kr
theorem xv:Tryz.prog.globalNamed "hallmark/fault.More" =U 5:=Kr
theorem u9:(Tryz.prog.globals[5]?).map (·.type)=U 85:=Kr
theorem uU:Tryz.prog.globalNamed "hallmark/fault.Order" =U 6:=Kr
theorem tX:(Tryz.prog.globals[6]?).map (·.type)=U 85:=Kr
theorem tW:Tryz.prog.globalNamed "hallmark/fault.Schema" =U 12:=Kr
theorem rW:(Tryz.prog.globals[12]?).map (·.type)=U 85:=Kr
theorem Au:Tryz.prog.globalNamed "hallmark/fault.Tag" =U 2:=Kr
theorem xA:(Tryz.prog.globals[2]?).map (·.type)=U 85:=Kr
theorem xy:Tryz.prog.globalNamed "hallmark/fault.Tree" =U 9:=Kr
theorem vg:(Tryz.prog.globals[9]?).map (·.type)=U 85:=Kr
theorem uV:Tryz.prog.globalNamed "hallmark/fault.Value" =U 4:=Kr
theorem tY:(Tryz.prog.globals[4]?).map (·.type)=U 85:=Kr
theorem dH:Tryz.prog.cellsOf 312=1:=Kr
theorem dI:Tryz.prog.cellsOf 9=1:=Kr
theorem uR:Tryz.prog.cellsOf 3=1:=Kr
theorem sy: "*" ++ "errors.errorString" = "*errors.errorString" :=Dc
theorem eO(u:TypeId)(h:Tryz.prog.typeName? 3 u=U "*errors.errorString"):u=291:=
 typeName_ptr_named (nm:= "errors.errorString") (by rw[sy];kernel_rfl) Kr Dc u (by rw[sy];exact h)
theorem xp:Tryz.prog.globalNamed "hallmark/content.monthDays" =U 18:=Kr
theorem uX:(Tryz.prog.globals[18]?).map (·.type)=U 289:=Kr
theorem xh:Tryz.prog.cellsOf 289=12:=Kr
theorem xw:Tryz.prog.globalNamed "hallmark/schemas.ownNumbers" =U 16:=Kr
theorem vf:(Tryz.prog.globals[16]?).map (·.type)=U 281:=Kr
theorem xi:Tryz.prog.cellsOf 281=13:=Kr
theorem wO{W:M}{name:String}{g:Nat}{t:TypeId}{n:Nat}{zs:Ls Int}(hg:Tryz.prog.globalNamed name=U g)(hty:(Tryz.prog.globals[g]?).map (·.type)=U t)(ht:Tryz.prog.underlying t=U (.array n 3))(hct:Tryz.prog.cellsOf t=n)(h:VarReads Tryz.prog W name (tabData .i64 zs))(i:Nat)(hi:i<zs.length):W.cell? (D g i Z)=U (.int .i64 (zs.getD i 0)):=by
 obtain⟨g',t',cs,fuel,p,hg',ht',hvar,hd⟩:=h;obtain rfl:=aK (hg.symm.trans hg');obtain rfl:=aK (hty.symm.trans ht');have hcs:=cells_of_tab ht Tryz.underlying3 uR hct hd;rw[bA hg hvar i,<-rN,hcs];simp[hi]
theorem DY{W:M}(h:VarReads Tryz.prog W "hallmark/content.monthDays" Rows.laid_hallmark_content_monthDays):mT W:=fun i hi=>
 wO (zs:=[31,28,31,30,31,30,31,31,30,31,30,31]) xp uX Tryz.underlying289 xh h i hi
theorem Eh{W:M}(h:VarReads Tryz.prog W "hallmark/schemas.ownNumbers" Rows.laid_hallmark_schemas_ownNumbers):iO W:=fun j hj=>by
 have:=wO (zs:=[0,1,2,5,6,3,4,12,19,24,16,16,17]) xw vf Tryz.underlying281 xi h j So;rw[this];unfold own;rw[br]
theorem Cn:U8Extra Tryz.prog uL where
 n3:=Kr
 n4:=Kr
 y3:=Kr
 y4:=Kr
 c5:=Kr
 c119:=Kr
 c138:=Kr
theorem Fy:(Rows.laid_unicode_utf8_acceptRanges:DataW Unit)=acceptData:=Kr
theorem ED{W:M}(h3:VarReads Tryz.prog W "unicode/utf8.first" Rows.laid_unicode_utf8_first)(h4:VarReads Tryz.prog W "unicode/utf8.acceptRanges" Rows.laid_unicode_utf8_acceptRanges):Ao W:=by
 rw[Fy]at h4;have e3:Rows.laid_unicode_utf8_first=firstData:=Kr;rw[e3]at h3;exact utf8Tabs_of_readsT (U8Types.of196 lG) Cn h3 h4
theorem m8{W:M}(h:laidMetH Tryz.prog [("unicode/utf8.acceptRanges",Rows.laid_unicode_utf8_acceptRanges),("hallmark/fault.Schema",Rows.laid_hallmark_fault_Schema),("hallmark/fault.Long",Rows.laid_hallmark_fault_Long),("hallmark/fault.End",Rows.laid_hallmark_fault_End),("hallmark/fault.Tag",Rows.laid_hallmark_fault_Tag),("hallmark/fault.Length",Rows.laid_hallmark_fault_Length),("hallmark/fault.Value",Rows.laid_hallmark_fault_Value),("hallmark/fault.More",Rows.laid_hallmark_fault_More),("hallmark/fault.Order",Rows.laid_hallmark_fault_Order),("hallmark/fault.Default",Rows.laid_hallmark_fault_Default),("hallmark/fault.Deep",Rows.laid_hallmark_fault_Deep),("hallmark/fault.Tree",Rows.laid_hallmark_fault_Tree),("hallmark/fault.Card",Rows.laid_hallmark_fault_Card),("hallmark/fault.Mark",Rows.laid_hallmark_fault_Mark),("hallmark/content.monthDays",Rows.laid_hallmark_content_monthDays),("hallmark/schemas.ownNumbers",Rows.laid_hallmark_schemas_ownNumbers),("unicode/utf8.first",Rows.laid_unicode_utf8_first)] W):∃sn za,ls W sn/\jM W sn za:=by
 rw[MakeChecks.laidMetH_plain _ _ _ Kr]at h;have hD:=DY (laidMet.reads h Sq);have hN:=Eh (laidMet.reads h Sq);have hT:=ED (laidMet.reads h Sq) (laidMet.reads h Sq);obtain⟨ps,⟨g0,t0,cs0,f0,p0,q0,hg0,ht0,hv0,hd0,⟨g1,t1,cs1,f1,p1,q1,hg1,ht1,hv1,hd1,⟨g2,t2,cs2,f2,p2,q2,hg2,ht2,hv2,hd2,⟨g3,t3,cs3,f3,p3,q3,hg3,ht3,hv3,hd3,⟨g4,t4,cs4,f4,p4,q4,hg4,ht4,hv4,hd4,⟨g5,t5,cs5,f5,p5,q5,hg5,ht5,hv5,hd5,⟨g6,t6,cs6,f6,p6,q6,hg6,ht6,hv6,hd6,⟨g7,t7,cs7,f7,p7,q7,hg7,ht7,hv7,hd7,⟨g8,t8,cs8,f8,p8,q8,hg8,ht8,hv8,hd8,⟨g9,t9,cs9,f9,p9,q9,hg9,ht9,hv9,hd9,⟨g10,t10,cs10,f10,p10,q10,hg10,ht10,hv10,hd10,⟨g11,t11,cs11,f11,p11,q11,hg11,ht11,hv11,hd11,⟨g12,t12,cs12,f12,p12,q12,hg12,ht12,hv12,hd12,⟨g13,t13,cs13,f13,p13,q13,hg13,ht13,hv13,hd13,⟨g14,t14,cs14,f14,p14,q14,hg14,ht14,hv14,hd14,⟨g15,t15,cs15,f15,p15,q15,hg15,ht15,hv15,hd15,⟨g16,t16,cs16,f16,p16,q16,hg16,ht16,hv16,hd16,_,e16⟩,e15⟩,e14⟩,e13⟩,e12⟩,e11⟩,e10⟩,e9⟩,e8⟩,e7⟩,e6⟩,e5⟩,e4⟩,e3⟩,e2⟩,e1⟩,e0⟩,hnd,hrows⟩:=h;obtain rfl:=aK (tW.symm.trans hg1);obtain rfl:=aK (rW.symm.trans ht1);obtain rfl:=aK (xr.symm.trans hg2);obtain rfl:=aK (uZ.symm.trans ht2);obtain rfl:=aK (Ar.symm.trans hg3);obtain rfl:=aK (xz.symm.trans ht3);obtain rfl:=aK (Au.symm.trans hg4);obtain rfl:=aK (xA.symm.trans ht4);obtain rfl:=aK (tV.symm.trans hg5);obtain rfl:=aK (rV.symm.trans ht5);obtain rfl:=aK (uV.symm.trans hg6);obtain rfl:=aK (tY.symm.trans ht6);obtain rfl:=aK (xv.symm.trans hg7);obtain rfl:=aK (u9.symm.trans ht7);obtain rfl:=aK (uU.symm.trans hg8);obtain rfl:=aK (tX.symm.trans ht8);obtain rfl:=aK (rU.symm.trans hg9);obtain rfl:=aK (pY.symm.trans ht9);obtain rfl:=aK (xq.symm.trans hg10);obtain rfl:=aK (uY.symm.trans ht10);obtain rfl:=aK (xy.symm.trans hg11);obtain rfl:=aK (vg.symm.trans ht11);obtain rfl:=aK (xo.symm.trans hg12);obtain rfl:=aK (uW.symm.trans ht12);obtain rfl:=aK (xu.symm.trans hg13);obtain rfl:=aK (u7.symm.trans ht13);clear hg0 ht0 hv0 hd0;clear hg14 ht14 hv14 hd14;clear hg15 ht15 hv15 hd15;clear hg16 ht16 hv16 hd16;subst e16;subst e15;subst e14;subst e13;subst e12;subst e11;subst e10;subst e9;subst e8;subst e7;subst e6;subst e5;subst e4;subst e3;subst e2;subst e1;subst e0;obtain⟨l1⟩:=cs1;have ok1:∀u v,l1=[.iface u v]->Value.okWide Tryz.prog W .any 0 u v:=fun u v e=>by subst e;exact(hrows 12 0 (by simp[Mr])).2 u v (by simpa using bA hg1 hv1 0)
 obtain⟨l2⟩:=cs2;have ok2:∀u v,l2=[.iface u v]->Value.okWide Tryz.prog W .any 0 u v:=fun u v e=>by subst e;exact(hrows 0 0 (by simp[Mr])).2 u v (by simpa using bA hg2 hv2 0)
 obtain⟨l3⟩:=cs3;have ok3:∀u v,l3=[.iface u v]->Value.okWide Tryz.prog W .any 0 u v:=fun u v e=>by subst e;exact(hrows 1 0 (by simp[Mr])).2 u v (by simpa using bA hg3 hv3 0)
 obtain⟨l4⟩:=cs4;have ok4:∀u v,l4=[.iface u v]->Value.okWide Tryz.prog W .any 0 u v:=fun u v e=>by subst e;exact(hrows 2 0 (by simp[Mr])).2 u v (by simpa using bA hg4 hv4 0)
 obtain⟨l5⟩:=cs5;have ok5:∀u v,l5=[.iface u v]->Value.okWide Tryz.prog W .any 0 u v:=fun u v e=>by subst e;exact(hrows 3 0 (by simp[Mr])).2 u v (by simpa using bA hg5 hv5 0)
 obtain⟨l6⟩:=cs6;have ok6:∀u v,l6=[.iface u v]->Value.okWide Tryz.prog W .any 0 u v:=fun u v e=>by subst e;exact(hrows 4 0 (by simp[Mr])).2 u v (by simpa using bA hg6 hv6 0)
 obtain⟨l7⟩:=cs7;have ok7:∀u v,l7=[.iface u v]->Value.okWide Tryz.prog W .any 0 u v:=fun u v e=>by subst e;exact(hrows 5 0 (by simp[Mr])).2 u v (by simpa using bA hg7 hv7 0)
 obtain⟨l8⟩:=cs8;have ok8:∀u v,l8=[.iface u v]->Value.okWide Tryz.prog W .any 0 u v:=fun u v e=>by subst e;exact(hrows 6 0 (by simp[Mr])).2 u v (by simpa using bA hg8 hv8 0)
 obtain⟨l9⟩:=cs9;have ok9:∀u v,l9=[.iface u v]->Value.okWide Tryz.prog W .any 0 u v:=fun u v e=>by subst e;exact(hrows 7 0 (by simp[Mr])).2 u v (by simpa using bA hg9 hv9 0)
 obtain⟨l10⟩:=cs10;have ok10:∀u v,l10=[.iface u v]->Value.okWide Tryz.prog W .any 0 u v:=fun u v e=>by subst e;exact(hrows 8 0 (by simp[Mr])).2 u v (by simpa using bA hg10 hv10 0)
 obtain⟨l11⟩:=cs11;have ok11:∀u v,l11=[.iface u v]->Value.okWide Tryz.prog W .any 0 u v:=fun u v e=>by subst e;exact(hrows 9 0 (by simp[Mr])).2 u v (by simpa using bA hg11 hv11 0)
 obtain⟨l12⟩:=cs12;have ok12:∀u v,l12=[.iface u v]->Value.okWide Tryz.prog W .any 0 u v:=fun u v e=>by subst e;exact(hrows 10 0 (by simp[Mr])).2 u v (by simpa using bA hg12 hv12 0)
 obtain⟨l13⟩:=cs13;have ok13:∀u v,l13=[.iface u v]->Value.okWide Tryz.prog W .any 0 u v:=fun u v e=>by subst e;exact(hrows 11 0 (by simp[Mr])).2 u v (by simpa using bA hg13 hv13 0)
 obtain⟨a1,s1,rfl,hc1,hs1,hz1,rfl⟩:=errorString_of_trod Tryz.underlying85 eO Tryz.underlying291 Tryz.underlying312 X X Tryz.underlying9 dH dI hd1 ok1;obtain⟨a2,s2,rfl,hc2,hs2,hz2,rfl⟩:=errorString_of_trod Tryz.underlying85 eO Tryz.underlying291 Tryz.underlying312 X X Tryz.underlying9 dH dI hd2 ok2;obtain⟨a3,s3,rfl,hc3,hs3,hz3,rfl⟩:=errorString_of_trod Tryz.underlying85 eO Tryz.underlying291 Tryz.underlying312 X X Tryz.underlying9 dH dI hd3 ok3;obtain⟨a4,s4,rfl,hc4,hs4,hz4,rfl⟩:=errorString_of_trod Tryz.underlying85 eO Tryz.underlying291 Tryz.underlying312 X X Tryz.underlying9 dH dI hd4 ok4;obtain⟨a5,s5,rfl,hc5,hs5,hz5,rfl⟩:=errorString_of_trod Tryz.underlying85 eO Tryz.underlying291 Tryz.underlying312 X X Tryz.underlying9 dH dI hd5 ok5;obtain⟨a6,s6,rfl,hc6,hs6,hz6,rfl⟩:=errorString_of_trod Tryz.underlying85 eO Tryz.underlying291 Tryz.underlying312 X X Tryz.underlying9 dH dI hd6 ok6;obtain⟨a7,s7,rfl,hc7,hs7,hz7,rfl⟩:=errorString_of_trod Tryz.underlying85 eO Tryz.underlying291 Tryz.underlying312 X X Tryz.underlying9 dH dI hd7 ok7;obtain⟨a8,s8,rfl,hc8,hs8,hz8,rfl⟩:=errorString_of_trod Tryz.underlying85 eO Tryz.underlying291 Tryz.underlying312 X X Tryz.underlying9 dH dI hd8 ok8;obtain⟨a9,s9,rfl,hc9,hs9,hz9,rfl⟩:=errorString_of_trod Tryz.underlying85 eO Tryz.underlying291 Tryz.underlying312 X X Tryz.underlying9 dH dI hd9 ok9;obtain⟨a10,s10,rfl,hc10,hs10,hz10,rfl⟩:=errorString_of_trod Tryz.underlying85 eO Tryz.underlying291 Tryz.underlying312 X X Tryz.underlying9 dH dI hd10 ok10;obtain⟨a11,s11,rfl,hc11,hs11,hz11,rfl⟩:=errorString_of_trod Tryz.underlying85 eO Tryz.underlying291 Tryz.underlying312 X X Tryz.underlying9 dH dI hd11 ok11;obtain⟨a12,s12,rfl,hc12,hs12,hz12,rfl⟩:=errorString_of_trod Tryz.underlying85 eO Tryz.underlying291 Tryz.underlying312 X X Tryz.underlying9 dH dI hd12 ok12;obtain⟨a13,s13,rfl,hc13,hs13,hz13,rfl⟩:=errorString_of_trod Tryz.underlying85 eO Tryz.underlying291 Tryz.underlying312 X X Tryz.underlying9 dH dI hd13 ok13;have n1_2:a1≠a2:=by rintro rfl;simp[Mr,aL]at hnd
 have n1_3:a1≠a3:=by rintro rfl;simp[Mr,aL]at hnd
 have n1_4:a1≠a4:=by rintro rfl;simp[Mr,aL]at hnd
 have n1_5:a1≠a5:=by rintro rfl;simp[Mr,aL]at hnd
 have n1_6:a1≠a6:=by rintro rfl;simp[Mr,aL]at hnd
 have n1_7:a1≠a7:=by rintro rfl;simp[Mr,aL]at hnd
 have n1_8:a1≠a8:=by rintro rfl;simp[Mr,aL]at hnd
 have n1_9:a1≠a9:=by rintro rfl;simp[Mr,aL]at hnd
 have n1_10:a1≠a10:=by rintro rfl;simp[Mr,aL]at hnd
 have n1_11:a1≠a11:=by rintro rfl;simp[Mr,aL]at hnd
 have n1_12:a1≠a12:=by rintro rfl;simp[Mr,aL]at hnd
 have n1_13:a1≠a13:=by rintro rfl;simp[Mr,aL]at hnd
 have n2_3:a2≠a3:=by rintro rfl;simp[Mr,aL]at hnd
 have n2_4:a2≠a4:=by rintro rfl;simp[Mr,aL]at hnd
 have n2_5:a2≠a5:=by rintro rfl;simp[Mr,aL]at hnd
 have n2_6:a2≠a6:=by rintro rfl;simp[Mr,aL]at hnd
 have n2_7:a2≠a7:=by rintro rfl;simp[Mr,aL]at hnd
 have n2_8:a2≠a8:=by rintro rfl;simp[Mr,aL]at hnd
 have n2_9:a2≠a9:=by rintro rfl;simp[Mr,aL]at hnd
 have n2_10:a2≠a10:=by rintro rfl;simp[Mr,aL]at hnd
 have n2_11:a2≠a11:=by rintro rfl;simp[Mr,aL]at hnd
 have n2_12:a2≠a12:=by rintro rfl;simp[Mr,aL]at hnd
 have n2_13:a2≠a13:=by rintro rfl;simp[Mr,aL]at hnd
 have n3_4:a3≠a4:=by rintro rfl;simp[Mr,aL]at hnd
 have n3_5:a3≠a5:=by rintro rfl;simp[Mr,aL]at hnd
 have n3_6:a3≠a6:=by rintro rfl;simp[Mr,aL]at hnd
 have n3_7:a3≠a7:=by rintro rfl;simp[Mr,aL]at hnd
 have n3_8:a3≠a8:=by rintro rfl;simp[Mr,aL]at hnd
 have n3_9:a3≠a9:=by rintro rfl;simp[Mr,aL]at hnd
 have n3_10:a3≠a10:=by rintro rfl;simp[Mr,aL]at hnd
 have n3_11:a3≠a11:=by rintro rfl;simp[Mr,aL]at hnd
 have n3_12:a3≠a12:=by rintro rfl;simp[Mr,aL]at hnd
 have n3_13:a3≠a13:=by rintro rfl;simp[Mr,aL]at hnd
 have n4_5:a4≠a5:=by rintro rfl;simp[Mr,aL]at hnd
 have n4_6:a4≠a6:=by rintro rfl;simp[Mr,aL]at hnd
 have n4_7:a4≠a7:=by rintro rfl;simp[Mr,aL]at hnd
 have n4_8:a4≠a8:=by rintro rfl;simp[Mr,aL]at hnd
 have n4_9:a4≠a9:=by rintro rfl;simp[Mr,aL]at hnd
 have n4_10:a4≠a10:=by rintro rfl;simp[Mr,aL]at hnd
 have n4_11:a4≠a11:=by rintro rfl;simp[Mr,aL]at hnd
 have n4_12:a4≠a12:=by rintro rfl;simp[Mr,aL]at hnd
 have n4_13:a4≠a13:=by rintro rfl;simp[Mr,aL]at hnd
 have n5_6:a5≠a6:=by rintro rfl;simp[Mr,aL]at hnd
 have n5_7:a5≠a7:=by rintro rfl;simp[Mr,aL]at hnd
 have n5_8:a5≠a8:=by rintro rfl;simp[Mr,aL]at hnd
 have n5_9:a5≠a9:=by rintro rfl;simp[Mr,aL]at hnd
 have n5_10:a5≠a10:=by rintro rfl;simp[Mr,aL]at hnd
 have n5_11:a5≠a11:=by rintro rfl;simp[Mr,aL]at hnd
 have n5_12:a5≠a12:=by rintro rfl;simp[Mr,aL]at hnd
 have n5_13:a5≠a13:=by rintro rfl;simp[Mr,aL]at hnd
 have n6_7:a6≠a7:=by rintro rfl;simp[Mr,aL]at hnd
 have n6_8:a6≠a8:=by rintro rfl;simp[Mr,aL]at hnd
 have n6_9:a6≠a9:=by rintro rfl;simp[Mr,aL]at hnd
 have n6_10:a6≠a10:=by rintro rfl;simp[Mr,aL]at hnd
 have n6_11:a6≠a11:=by rintro rfl;simp[Mr,aL]at hnd
 have n6_12:a6≠a12:=by rintro rfl;simp[Mr,aL]at hnd
 have n6_13:a6≠a13:=by rintro rfl;simp[Mr,aL]at hnd
 have n7_8:a7≠a8:=by rintro rfl;simp[Mr,aL]at hnd
 have n7_9:a7≠a9:=by rintro rfl;simp[Mr,aL]at hnd
 have n7_10:a7≠a10:=by rintro rfl;simp[Mr,aL]at hnd
 have n7_11:a7≠a11:=by rintro rfl;simp[Mr,aL]at hnd
 have n7_12:a7≠a12:=by rintro rfl;simp[Mr,aL]at hnd
 have n7_13:a7≠a13:=by rintro rfl;simp[Mr,aL]at hnd
 have n8_9:a8≠a9:=by rintro rfl;simp[Mr,aL]at hnd
 have n8_10:a8≠a10:=by rintro rfl;simp[Mr,aL]at hnd
 have n8_11:a8≠a11:=by rintro rfl;simp[Mr,aL]at hnd
 have n8_12:a8≠a12:=by rintro rfl;simp[Mr,aL]at hnd
 have n8_13:a8≠a13:=by rintro rfl;simp[Mr,aL]at hnd
 have n9_10:a9≠a10:=by rintro rfl;simp[Mr,aL]at hnd
 have n9_11:a9≠a11:=by rintro rfl;simp[Mr,aL]at hnd
 have n9_12:a9≠a12:=by rintro rfl;simp[Mr,aL]at hnd
 have n9_13:a9≠a13:=by rintro rfl;simp[Mr,aL]at hnd
 have n10_11:a10≠a11:=by rintro rfl;simp[Mr,aL]at hnd
 have n10_12:a10≠a12:=by rintro rfl;simp[Mr,aL]at hnd
 have n10_13:a10≠a13:=by rintro rfl;simp[Mr,aL]at hnd
 have n11_12:a11≠a12:=by rintro rfl;simp[Mr,aL]at hnd
 have n11_13:a11≠a13:=by rintro rfl;simp[Mr,aL]at hnd
 have n12_13:a12≠a13:=by rintro rfl;simp[Mr,aL]at hnd
 refine⟨fun s=> [a2,a3,a4,a5,a6,a7,a8,a9,a10,a11,a12,a13].getD s.val a2,a1,⟨⟨?_,?_,?_⟩,hN,hD,hT⟩,⟨?_,?_,?_⟩⟩
 ·refine Sn.all ?_ ?_ ?_ ?_ ?_ ?_ ?_ ?_ ?_ ?_ ?_ ?_
  ·show W.cell? (D 0 0 Z)=U (.iface 291 (.pointer (U a2)));simpa using bA hg2 hv2 0
  ·show W.cell? (D 1 0 Z)=U (.iface 291 (.pointer (U a3)));simpa using bA hg3 hv3 0
  ·show W.cell? (D 2 0 Z)=U (.iface 291 (.pointer (U a4)));simpa using bA hg4 hv4 0
  ·show W.cell? (D 3 0 Z)=U (.iface 291 (.pointer (U a5)));simpa using bA hg5 hv5 0
  ·show W.cell? (D 4 0 Z)=U (.iface 291 (.pointer (U a6)));simpa using bA hg6 hv6 0
  ·show W.cell? (D 5 0 Z)=U (.iface 291 (.pointer (U a7)));simpa using bA hg7 hv7 0
  ·show W.cell? (D 6 0 Z)=U (.iface 291 (.pointer (U a8)));simpa using bA hg8 hv8 0
  ·show W.cell? (D 7 0 Z)=U (.iface 291 (.pointer (U a9)));simpa using bA hg9 hv9 0
  ·show W.cell? (D 8 0 Z)=U (.iface 291 (.pointer (U a10)));simpa using bA hg10 hv10 0
  ·show W.cell? (D 9 0 Z)=U (.iface 291 (.pointer (U a11)));simpa using bA hg11 hv11 0
  ·show W.cell? (D 10 0 Z)=U (.iface 291 (.pointer (U a12)));simpa using bA hg12 hv12 0
  show W.cell? (D 11 0 Z)=U (.iface 291 (.pointer (U a13)));simpa using bA hg13 hv13 0
 ·refine Sn.all ?_ ?_ ?_ ?_ ?_ ?_ ?_ ?_ ?_ ?_ ?_ ?_
  ·show∃c t,W.heap[a2.block]? =U (.cells c t (0,0));exact(hrows a2.block a2.off (by simp[Mr])).1
  ·show∃c t,W.heap[a3.block]? =U (.cells c t (0,0));exact(hrows a3.block a3.off (by simp[Mr])).1
  ·show∃c t,W.heap[a4.block]? =U (.cells c t (0,0));exact(hrows a4.block a4.off (by simp[Mr])).1
  ·show∃c t,W.heap[a5.block]? =U (.cells c t (0,0));exact(hrows a5.block a5.off (by simp[Mr])).1
  ·show∃c t,W.heap[a6.block]? =U (.cells c t (0,0));exact(hrows a6.block a6.off (by simp[Mr])).1
  ·show∃c t,W.heap[a7.block]? =U (.cells c t (0,0));exact(hrows a7.block a7.off (by simp[Mr])).1
  ·show∃c t,W.heap[a8.block]? =U (.cells c t (0,0));exact(hrows a8.block a8.off (by simp[Mr])).1
  ·show∃c t,W.heap[a9.block]? =U (.cells c t (0,0));exact(hrows a9.block a9.off (by simp[Mr])).1
  ·show∃c t,W.heap[a10.block]? =U (.cells c t (0,0));exact(hrows a10.block a10.off (by simp[Mr])).1
  ·show∃c t,W.heap[a11.block]? =U (.cells c t (0,0));exact(hrows a11.block a11.off (by simp[Mr])).1
  ·show∃c t,W.heap[a12.block]? =U (.cells c t (0,0));exact(hrows a12.block a12.off (by simp[Mr])).1
  show∃c t,W.heap[a13.block]? =U (.cells c t (0,0));exact(hrows a13.block a13.off (by simp[Mr])).1
 ·refine Sn.all ?_ ?_ ?_ ?_ ?_ ?_ ?_ ?_ ?_ ?_ ?_ ?_
  ·exact Sn.all (fun _=>rfl) (fun h=>Ab (show a2=a3 from h) n2_3) (fun h=>Ab (show a2=a4 from h) n2_4) (fun h=>Ab (show a2=a5 from h) n2_5) (fun h=>Ab (show a2=a6 from h) n2_6) (fun h=>Ab (show a2=a7 from h) n2_7) (fun h=>Ab (show a2=a8 from h) n2_8) (fun h=>Ab (show a2=a9 from h) n2_9) (fun h=>Ab (show a2=a10 from h) n2_10) (fun h=>Ab (show a2=a11 from h) n2_11) (fun h=>Ab (show a2=a12 from h) n2_12) (fun h=>Ab (show a2=a13 from h) n2_13)
  ·exact Sn.all (fun h=>Ab (show a2=a3 from h.symm) n2_3) (fun _=>rfl) (fun h=>Ab (show a3=a4 from h) n3_4) (fun h=>Ab (show a3=a5 from h) n3_5) (fun h=>Ab (show a3=a6 from h) n3_6) (fun h=>Ab (show a3=a7 from h) n3_7) (fun h=>Ab (show a3=a8 from h) n3_8) (fun h=>Ab (show a3=a9 from h) n3_9) (fun h=>Ab (show a3=a10 from h) n3_10) (fun h=>Ab (show a3=a11 from h) n3_11) (fun h=>Ab (show a3=a12 from h) n3_12) (fun h=>Ab (show a3=a13 from h) n3_13)
  ·exact Sn.all (fun h=>Ab (show a2=a4 from h.symm) n2_4) (fun h=>Ab (show a3=a4 from h.symm) n3_4) (fun _=>rfl) (fun h=>Ab (show a4=a5 from h) n4_5) (fun h=>Ab (show a4=a6 from h) n4_6) (fun h=>Ab (show a4=a7 from h) n4_7) (fun h=>Ab (show a4=a8 from h) n4_8) (fun h=>Ab (show a4=a9 from h) n4_9) (fun h=>Ab (show a4=a10 from h) n4_10) (fun h=>Ab (show a4=a11 from h) n4_11) (fun h=>Ab (show a4=a12 from h) n4_12) (fun h=>Ab (show a4=a13 from h) n4_13)
  ·exact Sn.all (fun h=>Ab (show a2=a5 from h.symm) n2_5) (fun h=>Ab (show a3=a5 from h.symm) n3_5) (fun h=>Ab (show a4=a5 from h.symm) n4_5) (fun _=>rfl) (fun h=>Ab (show a5=a6 from h) n5_6) (fun h=>Ab (show a5=a7 from h) n5_7) (fun h=>Ab (show a5=a8 from h) n5_8) (fun h=>Ab (show a5=a9 from h) n5_9) (fun h=>Ab (show a5=a10 from h) n5_10) (fun h=>Ab (show a5=a11 from h) n5_11) (fun h=>Ab (show a5=a12 from h) n5_12) (fun h=>Ab (show a5=a13 from h) n5_13)
  ·exact Sn.all (fun h=>Ab (show a2=a6 from h.symm) n2_6) (fun h=>Ab (show a3=a6 from h.symm) n3_6) (fun h=>Ab (show a4=a6 from h.symm) n4_6) (fun h=>Ab (show a5=a6 from h.symm) n5_6) (fun _=>rfl) (fun h=>Ab (show a6=a7 from h) n6_7) (fun h=>Ab (show a6=a8 from h) n6_8) (fun h=>Ab (show a6=a9 from h) n6_9) (fun h=>Ab (show a6=a10 from h) n6_10) (fun h=>Ab (show a6=a11 from h) n6_11) (fun h=>Ab (show a6=a12 from h) n6_12) (fun h=>Ab (show a6=a13 from h) n6_13)
  ·exact Sn.all (fun h=>Ab (show a2=a7 from h.symm) n2_7) (fun h=>Ab (show a3=a7 from h.symm) n3_7) (fun h=>Ab (show a4=a7 from h.symm) n4_7) (fun h=>Ab (show a5=a7 from h.symm) n5_7) (fun h=>Ab (show a6=a7 from h.symm) n6_7) (fun _=>rfl) (fun h=>Ab (show a7=a8 from h) n7_8) (fun h=>Ab (show a7=a9 from h) n7_9) (fun h=>Ab (show a7=a10 from h) n7_10) (fun h=>Ab (show a7=a11 from h) n7_11) (fun h=>Ab (show a7=a12 from h) n7_12) (fun h=>Ab (show a7=a13 from h) n7_13)
  ·exact Sn.all (fun h=>Ab (show a2=a8 from h.symm) n2_8) (fun h=>Ab (show a3=a8 from h.symm) n3_8) (fun h=>Ab (show a4=a8 from h.symm) n4_8) (fun h=>Ab (show a5=a8 from h.symm) n5_8) (fun h=>Ab (show a6=a8 from h.symm) n6_8) (fun h=>Ab (show a7=a8 from h.symm) n7_8) (fun _=>rfl) (fun h=>Ab (show a8=a9 from h) n8_9) (fun h=>Ab (show a8=a10 from h) n8_10) (fun h=>Ab (show a8=a11 from h) n8_11) (fun h=>Ab (show a8=a12 from h) n8_12) (fun h=>Ab (show a8=a13 from h) n8_13)
  ·exact Sn.all (fun h=>Ab (show a2=a9 from h.symm) n2_9) (fun h=>Ab (show a3=a9 from h.symm) n3_9) (fun h=>Ab (show a4=a9 from h.symm) n4_9) (fun h=>Ab (show a5=a9 from h.symm) n5_9) (fun h=>Ab (show a6=a9 from h.symm) n6_9) (fun h=>Ab (show a7=a9 from h.symm) n7_9) (fun h=>Ab (show a8=a9 from h.symm) n8_9) (fun _=>rfl) (fun h=>Ab (show a9=a10 from h) n9_10) (fun h=>Ab (show a9=a11 from h) n9_11) (fun h=>Ab (show a9=a12 from h) n9_12) (fun h=>Ab (show a9=a13 from h) n9_13)
  ·exact Sn.all (fun h=>Ab (show a2=a10 from h.symm) n2_10) (fun h=>Ab (show a3=a10 from h.symm) n3_10) (fun h=>Ab (show a4=a10 from h.symm) n4_10) (fun h=>Ab (show a5=a10 from h.symm) n5_10) (fun h=>Ab (show a6=a10 from h.symm) n6_10) (fun h=>Ab (show a7=a10 from h.symm) n7_10) (fun h=>Ab (show a8=a10 from h.symm) n8_10) (fun h=>Ab (show a9=a10 from h.symm) n9_10) (fun _=>rfl) (fun h=>Ab (show a10=a11 from h) n10_11) (fun h=>Ab (show a10=a12 from h) n10_12) (fun h=>Ab (show a10=a13 from h) n10_13)
  ·exact Sn.all (fun h=>Ab (show a2=a11 from h.symm) n2_11) (fun h=>Ab (show a3=a11 from h.symm) n3_11) (fun h=>Ab (show a4=a11 from h.symm) n4_11) (fun h=>Ab (show a5=a11 from h.symm) n5_11) (fun h=>Ab (show a6=a11 from h.symm) n6_11) (fun h=>Ab (show a7=a11 from h.symm) n7_11) (fun h=>Ab (show a8=a11 from h.symm) n8_11) (fun h=>Ab (show a9=a11 from h.symm) n9_11) (fun h=>Ab (show a10=a11 from h.symm) n10_11) (fun _=>rfl) (fun h=>Ab (show a11=a12 from h) n11_12) (fun h=>Ab (show a11=a13 from h) n11_13)
  ·exact Sn.all (fun h=>Ab (show a2=a12 from h.symm) n2_12) (fun h=>Ab (show a3=a12 from h.symm) n3_12) (fun h=>Ab (show a4=a12 from h.symm) n4_12) (fun h=>Ab (show a5=a12 from h.symm) n5_12) (fun h=>Ab (show a6=a12 from h.symm) n6_12) (fun h=>Ab (show a7=a12 from h.symm) n7_12) (fun h=>Ab (show a8=a12 from h.symm) n8_12) (fun h=>Ab (show a9=a12 from h.symm) n9_12) (fun h=>Ab (show a10=a12 from h.symm) n10_12) (fun h=>Ab (show a11=a12 from h.symm) n11_12) (fun _=>rfl) (fun h=>Ab (show a12=a13 from h) n12_13)
  exact Sn.all (fun h=>Ab (show a2=a13 from h.symm) n2_13) (fun h=>Ab (show a3=a13 from h.symm) n3_13) (fun h=>Ab (show a4=a13 from h.symm) n4_13) (fun h=>Ab (show a5=a13 from h.symm) n5_13) (fun h=>Ab (show a6=a13 from h.symm) n6_13) (fun h=>Ab (show a7=a13 from h.symm) n7_13) (fun h=>Ab (show a8=a13 from h.symm) n8_13) (fun h=>Ab (show a9=a13 from h.symm) n9_13) (fun h=>Ab (show a10=a13 from h.symm) n10_13) (fun h=>Ab (show a11=a13 from h.symm) n11_13) (fun h=>Ab (show a12=a13 from h.symm) n12_13) (fun _=>rfl)
 ·simpa using bA hg1 hv1 0
 ·exact(hrows a1.block a1.off (by simp[Mr])).1
 exact Sn.all (show a2≠a1 from n1_2.symm) (show a3≠a1 from n1_3.symm) (show a4≠a1 from n1_4.symm) (show a5≠a1 from n1_5.symm) (show a6≠a1 from n1_6.symm) (show a7≠a1 from n1_7.symm) (show a8≠a1 from n1_8.symm) (show a9≠a1 from n1_9.symm) (show a10≠a1 from n1_10.symm) (show a11≠a1 from n1_11.symm) (show a12≠a1 from n1_12.symm) (show a13≠a1 from n1_13.symm)
end Go.Proofs.YtkkicodfpekbgaaGreatDoor
