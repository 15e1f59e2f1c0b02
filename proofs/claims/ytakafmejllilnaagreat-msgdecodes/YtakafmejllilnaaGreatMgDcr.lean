/-
  The document's Check of messages. (Written by mk/mkdchk.py.)
-/
import Derived.Test.YtakafmejllilnaaGreatW9r
import Derived.Test.YtakafmejllilnaaGreatMgDor
import Derived.Test.YtakafmejllilnaaGreatMgSvr
import Derived.Test.YtakafmejllilnaaGreatW13r
import Derived.Test.YtakafmejllilnaaGreatEnDc3r
import Derived.Test.YtakafmejllilnaaGreatEnDv5r
import Derived.Test.YtakafmejllilnaaGreatF12r
import Derived.Test.YtakafmejllilnaaGreatW0r
namespace Go.Proofs.YtakafmejllilnaaGreat
open Go.RowKit
theorem pO (y:Mm):y.D.length=(ir y).D.length→y.D.map Vm.v=(ir y).D.map Vm.v:=by
 intro h;rcases vQ y with e | e
 ·rw [e]
 ·rw [e] at h ⊢;have:y.D=[]:=List.eq_nil_of_length_eq_zero (by simpa using h)
  rw [this]
theorem nums_eq (y:Mm):aK y.ms=(!(bc y.k).isEmpty && (aF y.f && (aF y.t && (ah y.b && (ah y.s && (ah y.m && ah y.n)))))):=rfl
def xy (W:World) (b:Bool) (s:Value) (wx:World):Prop:=s=.bool b∧W=wx
def xW (W:World) (L:List Vo) (n:Nat) (iv:Value) (wr:World):Prop:=∃ i:Nat,iv=.int .i64 (i:Int)∧i≤n∧Hid (ab [] W wr)∧Hid (vl L i)
set_option linter.unusedSimpArgs false in
set_option maxHeartbeats 32000000 in
set_option maxRecDepth 100000 in
theorem oy (w:World) (y:Mm) (hy:cb w y):Calls Tryz.prog 17 #[.agg (aX y).toArray] w fun e w'=>e=.returned (.int .i64 (cy (bQ y.ms)))∧ab [] w w':=by
 have hU:=hy.ms;obtain ⟨W,hW⟩:∃ W,W=w.alloc (.cells (aX y).toArray 36):=⟨_,rfl⟩;have HK:Hid (ab [] w W):=by rw [hW];exact (ab.refl _ _).alloc _
 have hB:Bx W w.heap.size 36 (aX y):=by rw [hW];exact Bx.new w _ (aX y)
 have HB:=aa hB;have HY:=aa (hy.kept HK.out);have HDV:=aa (pO y);have HU:=aa hU;have HCO:=aa (r4 hU);unfold aX at hW;have HW:=aa hW;have c0:W.cell? ⟨w.heap.size,0,none⟩=some (.int .i64 y.k):=hB.cell 0 rfl;have c1:W.cell? ⟨w.heap.size,1,none⟩=some (.int .i64 y.f):=hB.cell 1 rfl;have c2:W.cell? ⟨w.heap.size,2,none⟩=some (.int .i64 y.t):=hB.cell 2 rfl;have c3:W.cell? ⟨w.heap.size,3,none⟩=some (.int .i64 y.b):=hB.cell 3 rfl;have c4:W.cell? ⟨w.heap.size,4,none⟩=some (.int .i64 y.s):=hB.cell 4 rfl;have c5:W.cell? ⟨w.heap.size,5,none⟩=some (.int .i64 y.m):=hB.cell 5 rfl;have c19:W.cell? ⟨w.heap.size,19,none⟩=some (.int .i64 y.n):=hB.cell 19 rfl;have AH:=aa (iD W y.k);clear hW hB hy hU;unfold aX;go_enter Tryz.func17,Tryz.ntmps17;go_upto_region 1 with fail
 rw [← HW.out];go_cut [3] from 6 (fun s3 wx=>xy W (aK y.ms) s3 wx)
 case first =>
  by_cases hsh:bc y.k=[]
  ·have HT0:Hid (eM y.k=[]):=by show eM y.k=[];unfold eM;rw [hsh];rfl
   rw [HT0.out] at AH;obtain ⟨T,hT⟩:∃ T,T=ae []:=⟨_,rfl⟩;have hTn:T.toList.isEmpty=true:=by rw [hT,Go.ByteArray.toList_eq,aY];rfl
   rw [← hT] at AH;clear hT;have HE:Hid (aK y.ms=false):=aa (by rw [nums_eq];simp [hsh]);(go_wp2_with ((first | go_at_call 27 | go_at_call 35 | go_at_call 36 | go_at_call 37);(first | with_reducible refine AH.out.mono ?_);rintro _ _ ⟨rfl,rfl⟩));go_meet
   exact ⟨by rw [HE.out],rfl⟩
  obtain ⟨T,hT⟩:∃ T,T=ae (eM y.k):=⟨_,rfl⟩;have hTn:T.toList.isEmpty=false:=by rw [hT];exact pw hsh
  rw [← hT] at AH;clear hT
  have hse:(bc y.k).isEmpty=false:=by cases hq:bc y.k with
   | nil=>exact absurd hq hsh
   | cons=>rfl
  by_cases hrf:jT y.f=true
  ·have haf:aF y.f=true:=by rw [dX,hrf];rfl
   have AFR0:=dV W y.f;rw [hrf] at AFR0;have AFR:=aa AFR0;clear AFR0;by_cases hrt:jT y.t=true
   ·have hat:aF y.t=true:=by rw [dX,hrt];rfl
    have ATR0:=dV W y.t;rw [hrt] at ATR0;have ATR:=aa ATR0;clear ATR0;by_cases hgb:ah y.b=true
    rotate_left
    ·rw [Bool.not_eq_true] at hgb;have AGb0:=aB W y.b;rw [hgb] at AGb0;have AGb:=aa AGb0;clear AGb0;have HE:Hid (aK y.ms=false):=aa (by rw [nums_eq];simp [hse,haf,hat,hgb]);(go_wp2_with ((first | go_at_call 27 | go_at_call 35 | go_at_call 36 | go_at_call 37);(first | with_reducible refine AH.out.mono ?_ | with_reducible refine AFR.out.mono ?_ | with_reducible refine ATR.out.mono ?_ | with_reducible refine AGb.out.mono ?_);rintro _ _ ⟨rfl,rfl⟩));go_meet
     exact ⟨by rw [HE.out],rfl⟩
    have AGb0:=aB W y.b;rw [hgb] at AGb0;have AGb:=aa AGb0;clear AGb0;by_cases hgs:ah y.s=true
    rotate_left
    ·rw [Bool.not_eq_true] at hgs;have AGs0:=aB W y.s;rw [hgs] at AGs0;have AGs:=aa AGs0;clear AGs0;have HE:Hid (aK y.ms=false):=aa (by rw [nums_eq];simp [hse,haf,hat,hgb,hgs]);(go_wp2_with ((first | go_at_call 27 | go_at_call 35 | go_at_call 36 | go_at_call 37);(first | with_reducible refine AH.out.mono ?_ | with_reducible refine AFR.out.mono ?_ | with_reducible refine ATR.out.mono ?_ | with_reducible refine AGb.out.mono ?_ | with_reducible refine AGs.out.mono ?_);rintro _ _ ⟨rfl,rfl⟩));go_meet
     exact ⟨by rw [HE.out],rfl⟩
    have AGs0:=aB W y.s;rw [hgs] at AGs0;have AGs:=aa AGs0;clear AGs0;by_cases hgm:ah y.m=true
    rotate_left
    ·rw [Bool.not_eq_true] at hgm;have AGm0:=aB W y.m;rw [hgm] at AGm0;have AGm:=aa AGm0;clear AGm0;have HE:Hid (aK y.ms=false):=aa (by rw [nums_eq];simp [hse,haf,hat,hgb,hgs,hgm]);(go_wp2_with ((first | go_at_call 27 | go_at_call 35 | go_at_call 36 | go_at_call 37);(first | with_reducible refine AH.out.mono ?_ | with_reducible refine AFR.out.mono ?_ | with_reducible refine ATR.out.mono ?_ | with_reducible refine AGb.out.mono ?_ | with_reducible refine AGs.out.mono ?_ | with_reducible refine AGm.out.mono ?_);rintro _ _ ⟨rfl,rfl⟩));go_meet
     exact ⟨by rw [HE.out],rfl⟩
    have AGm0:=aB W y.m;rw [hgm] at AGm0;have AGm:=aa AGm0;clear AGm0;by_cases hgn:ah y.n=true
    rotate_left
    ·rw [Bool.not_eq_true] at hgn;have AGn0:=aB W y.n;rw [hgn] at AGn0;have AGn:=aa AGn0;clear AGn0;have HE:Hid (aK y.ms=false):=aa (by rw [nums_eq];simp [hse,haf,hat,hgb,hgs,hgm,hgn]);(go_wp2_with ((first | go_at_call 27 | go_at_call 35 | go_at_call 36 | go_at_call 37);(first | with_reducible refine AH.out.mono ?_ | with_reducible refine AFR.out.mono ?_ | with_reducible refine ATR.out.mono ?_ | with_reducible refine AGb.out.mono ?_ | with_reducible refine AGs.out.mono ?_ | with_reducible refine AGm.out.mono ?_ | with_reducible refine AGn.out.mono ?_);rintro _ _ ⟨rfl,rfl⟩));go_meet
     exact ⟨by rw [HE.out],rfl⟩
    have AGn0:=aB W y.n;rw [hgn] at AGn0;have AGn:=aa AGn0;clear AGn0;have HE:Hid (aK y.ms=true):=aa (by rw [nums_eq];simp [hse,haf,hat,hgb,hgs,hgm,hgn]);(go_wp2_with ((first | go_at_call 27 | go_at_call 35 | go_at_call 36 | go_at_call 37);(first | with_reducible refine AH.out.mono ?_ | with_reducible refine AFR.out.mono ?_ | with_reducible refine ATR.out.mono ?_ | with_reducible refine AGb.out.mono ?_ | with_reducible refine AGs.out.mono ?_ | with_reducible refine AGm.out.mono ?_ | with_reducible refine AGn.out.mono ?_);rintro _ _ ⟨rfl,rfl⟩));go_meet
    exact ⟨by rw [HE.out],rfl⟩
   ·rw [Bool.not_eq_true] at hrt;by_cases hct:jS y.t=true
    ·have hat:aF y.t=true:=by rw [dX,hrt,hct];rfl
     have ATR0:=dV W y.t;rw [hrt] at ATR0;have ATR:=aa ATR0;clear ATR0;have ATC0:=fC W y.t;rw [hct] at ATC0;have ATC:=aa ATC0;clear ATC0;by_cases hgb:ah y.b=true
     rotate_left
     ·rw [Bool.not_eq_true] at hgb;have AGb0:=aB W y.b;rw [hgb] at AGb0;have AGb:=aa AGb0;clear AGb0;have HE:Hid (aK y.ms=false):=aa (by rw [nums_eq];simp [hse,haf,hat,hgb]);(go_wp2_with ((first | go_at_call 27 | go_at_call 35 | go_at_call 36 | go_at_call 37);(first | with_reducible refine AH.out.mono ?_ | with_reducible refine AFR.out.mono ?_ | with_reducible refine ATR.out.mono ?_ | with_reducible refine ATC.out.mono ?_ | with_reducible refine AGb.out.mono ?_);rintro _ _ ⟨rfl,rfl⟩));go_meet
      exact ⟨by rw [HE.out],rfl⟩
     have AGb0:=aB W y.b;rw [hgb] at AGb0;have AGb:=aa AGb0;clear AGb0;by_cases hgs:ah y.s=true
     rotate_left
     ·rw [Bool.not_eq_true] at hgs;have AGs0:=aB W y.s;rw [hgs] at AGs0;have AGs:=aa AGs0;clear AGs0;have HE:Hid (aK y.ms=false):=aa (by rw [nums_eq];simp [hse,haf,hat,hgb,hgs]);(go_wp2_with ((first | go_at_call 27 | go_at_call 35 | go_at_call 36 | go_at_call 37);(first | with_reducible refine AH.out.mono ?_ | with_reducible refine AFR.out.mono ?_ | with_reducible refine ATR.out.mono ?_ | with_reducible refine ATC.out.mono ?_ | with_reducible refine AGb.out.mono ?_ | with_reducible refine AGs.out.mono ?_);rintro _ _ ⟨rfl,rfl⟩));go_meet
      exact ⟨by rw [HE.out],rfl⟩
     have AGs0:=aB W y.s;rw [hgs] at AGs0;have AGs:=aa AGs0;clear AGs0;by_cases hgm:ah y.m=true
     rotate_left
     ·rw [Bool.not_eq_true] at hgm;have AGm0:=aB W y.m;rw [hgm] at AGm0;have AGm:=aa AGm0;clear AGm0;have HE:Hid (aK y.ms=false):=aa (by rw [nums_eq];simp [hse,haf,hat,hgb,hgs,hgm]);(go_wp2_with ((first | go_at_call 27 | go_at_call 35 | go_at_call 36 | go_at_call 37);(first | with_reducible refine AH.out.mono ?_ | with_reducible refine AFR.out.mono ?_ | with_reducible refine ATR.out.mono ?_ | with_reducible refine ATC.out.mono ?_ | with_reducible refine AGb.out.mono ?_ | with_reducible refine AGs.out.mono ?_ | with_reducible refine AGm.out.mono ?_);rintro _ _ ⟨rfl,rfl⟩));go_meet
      exact ⟨by rw [HE.out],rfl⟩
     have AGm0:=aB W y.m;rw [hgm] at AGm0;have AGm:=aa AGm0;clear AGm0;by_cases hgn:ah y.n=true
     rotate_left
     ·rw [Bool.not_eq_true] at hgn;have AGn0:=aB W y.n;rw [hgn] at AGn0;have AGn:=aa AGn0;clear AGn0;have HE:Hid (aK y.ms=false):=aa (by rw [nums_eq];simp [hse,haf,hat,hgb,hgs,hgm,hgn]);(go_wp2_with ((first | go_at_call 27 | go_at_call 35 | go_at_call 36 | go_at_call 37);(first | with_reducible refine AH.out.mono ?_ | with_reducible refine AFR.out.mono ?_ | with_reducible refine ATR.out.mono ?_ | with_reducible refine ATC.out.mono ?_ | with_reducible refine AGb.out.mono ?_ | with_reducible refine AGs.out.mono ?_ | with_reducible refine AGm.out.mono ?_ | with_reducible refine AGn.out.mono ?_);rintro _ _ ⟨rfl,rfl⟩));go_meet
      exact ⟨by rw [HE.out],rfl⟩
     have AGn0:=aB W y.n;rw [hgn] at AGn0;have AGn:=aa AGn0;clear AGn0;have HE:Hid (aK y.ms=true):=aa (by rw [nums_eq];simp [hse,haf,hat,hgb,hgs,hgm,hgn]);(go_wp2_with ((first | go_at_call 27 | go_at_call 35 | go_at_call 36 | go_at_call 37);(first | with_reducible refine AH.out.mono ?_ | with_reducible refine AFR.out.mono ?_ | with_reducible refine ATR.out.mono ?_ | with_reducible refine ATC.out.mono ?_ | with_reducible refine AGb.out.mono ?_ | with_reducible refine AGs.out.mono ?_ | with_reducible refine AGm.out.mono ?_ | with_reducible refine AGn.out.mono ?_);rintro _ _ ⟨rfl,rfl⟩));go_meet
     exact ⟨by rw [HE.out],rfl⟩
    ·rw [Bool.not_eq_true] at hct;have hat:aF y.t=false:=by rw [dX,hrt,hct];rfl
     have ATR0:=dV W y.t;rw [hrt] at ATR0;have ATR:=aa ATR0;clear ATR0;have ATC0:=fC W y.t;rw [hct] at ATC0;have ATC:=aa ATC0;clear ATC0;have HE:Hid (aK y.ms=false):=aa (by rw [nums_eq];simp [hse,haf,hat]);(go_wp2_with ((first | go_at_call 27 | go_at_call 35 | go_at_call 36 | go_at_call 37);(first | with_reducible refine AH.out.mono ?_ | with_reducible refine AFR.out.mono ?_ | with_reducible refine ATR.out.mono ?_ | with_reducible refine ATC.out.mono ?_);rintro _ _ ⟨rfl,rfl⟩));go_meet
     exact ⟨by rw [HE.out],rfl⟩
  ·rw [Bool.not_eq_true] at hrf;by_cases hcf:jS y.f=true
   ·have haf:aF y.f=true:=by rw [dX,hrf,hcf];rfl
    have AFR0:=dV W y.f;rw [hrf] at AFR0;have AFR:=aa AFR0;clear AFR0;have AFC0:=fC W y.f;rw [hcf] at AFC0;have AFC:=aa AFC0;clear AFC0;by_cases hrt:jT y.t=true
    ·have hat:aF y.t=true:=by rw [dX,hrt];rfl
     have ATR0:=dV W y.t;rw [hrt] at ATR0;have ATR:=aa ATR0;clear ATR0;by_cases hgb:ah y.b=true
     rotate_left
     ·rw [Bool.not_eq_true] at hgb;have AGb0:=aB W y.b;rw [hgb] at AGb0;have AGb:=aa AGb0;clear AGb0;have HE:Hid (aK y.ms=false):=aa (by rw [nums_eq];simp [hse,haf,hat,hgb]);(go_wp2_with ((first | go_at_call 27 | go_at_call 35 | go_at_call 36 | go_at_call 37);(first | with_reducible refine AH.out.mono ?_ | with_reducible refine AFR.out.mono ?_ | with_reducible refine AFC.out.mono ?_ | with_reducible refine ATR.out.mono ?_ | with_reducible refine AGb.out.mono ?_);rintro _ _ ⟨rfl,rfl⟩));go_meet
      exact ⟨by rw [HE.out],rfl⟩
     have AGb0:=aB W y.b;rw [hgb] at AGb0;have AGb:=aa AGb0;clear AGb0;by_cases hgs:ah y.s=true
     rotate_left
     ·rw [Bool.not_eq_true] at hgs;have AGs0:=aB W y.s;rw [hgs] at AGs0;have AGs:=aa AGs0;clear AGs0;have HE:Hid (aK y.ms=false):=aa (by rw [nums_eq];simp [hse,haf,hat,hgb,hgs]);(go_wp2_with ((first | go_at_call 27 | go_at_call 35 | go_at_call 36 | go_at_call 37);(first | with_reducible refine AH.out.mono ?_ | with_reducible refine AFR.out.mono ?_ | with_reducible refine AFC.out.mono ?_ | with_reducible refine ATR.out.mono ?_ | with_reducible refine AGb.out.mono ?_ | with_reducible refine AGs.out.mono ?_);rintro _ _ ⟨rfl,rfl⟩));go_meet
      exact ⟨by rw [HE.out],rfl⟩
     have AGs0:=aB W y.s;rw [hgs] at AGs0;have AGs:=aa AGs0;clear AGs0;by_cases hgm:ah y.m=true
     rotate_left
     ·rw [Bool.not_eq_true] at hgm;have AGm0:=aB W y.m;rw [hgm] at AGm0;have AGm:=aa AGm0;clear AGm0;have HE:Hid (aK y.ms=false):=aa (by rw [nums_eq];simp [hse,haf,hat,hgb,hgs,hgm]);(go_wp2_with ((first | go_at_call 27 | go_at_call 35 | go_at_call 36 | go_at_call 37);(first | with_reducible refine AH.out.mono ?_ | with_reducible refine AFR.out.mono ?_ | with_reducible refine AFC.out.mono ?_ | with_reducible refine ATR.out.mono ?_ | with_reducible refine AGb.out.mono ?_ | with_reducible refine AGs.out.mono ?_ | with_reducible refine AGm.out.mono ?_);rintro _ _ ⟨rfl,rfl⟩));go_meet
      exact ⟨by rw [HE.out],rfl⟩
     have AGm0:=aB W y.m;rw [hgm] at AGm0;have AGm:=aa AGm0;clear AGm0;by_cases hgn:ah y.n=true
     rotate_left
     ·rw [Bool.not_eq_true] at hgn;have AGn0:=aB W y.n;rw [hgn] at AGn0;have AGn:=aa AGn0;clear AGn0;have HE:Hid (aK y.ms=false):=aa (by rw [nums_eq];simp [hse,haf,hat,hgb,hgs,hgm,hgn]);(go_wp2_with ((first | go_at_call 27 | go_at_call 35 | go_at_call 36 | go_at_call 37);(first | with_reducible refine AH.out.mono ?_ | with_reducible refine AFR.out.mono ?_ | with_reducible refine AFC.out.mono ?_ | with_reducible refine ATR.out.mono ?_ | with_reducible refine AGb.out.mono ?_ | with_reducible refine AGs.out.mono ?_ | with_reducible refine AGm.out.mono ?_ | with_reducible refine AGn.out.mono ?_);rintro _ _ ⟨rfl,rfl⟩));go_meet
      exact ⟨by rw [HE.out],rfl⟩
     have AGn0:=aB W y.n;rw [hgn] at AGn0;have AGn:=aa AGn0;clear AGn0;have HE:Hid (aK y.ms=true):=aa (by rw [nums_eq];simp [hse,haf,hat,hgb,hgs,hgm,hgn]);(go_wp2_with ((first | go_at_call 27 | go_at_call 35 | go_at_call 36 | go_at_call 37);(first | with_reducible refine AH.out.mono ?_ | with_reducible refine AFR.out.mono ?_ | with_reducible refine AFC.out.mono ?_ | with_reducible refine ATR.out.mono ?_ | with_reducible refine AGb.out.mono ?_ | with_reducible refine AGs.out.mono ?_ | with_reducible refine AGm.out.mono ?_ | with_reducible refine AGn.out.mono ?_);rintro _ _ ⟨rfl,rfl⟩));go_meet
     exact ⟨by rw [HE.out],rfl⟩
    ·rw [Bool.not_eq_true] at hrt;by_cases hct:jS y.t=true
     ·have hat:aF y.t=true:=by rw [dX,hrt,hct];rfl
      have ATR0:=dV W y.t;rw [hrt] at ATR0;have ATR:=aa ATR0;clear ATR0;have ATC0:=fC W y.t;rw [hct] at ATC0;have ATC:=aa ATC0;clear ATC0;by_cases hgb:ah y.b=true
      rotate_left
      ·rw [Bool.not_eq_true] at hgb;have AGb0:=aB W y.b;rw [hgb] at AGb0;have AGb:=aa AGb0;clear AGb0;have HE:Hid (aK y.ms=false):=aa (by rw [nums_eq];simp [hse,haf,hat,hgb]);(go_wp2_with ((first | go_at_call 27 | go_at_call 35 | go_at_call 36 | go_at_call 37);(first | with_reducible refine AH.out.mono ?_ | with_reducible refine AFR.out.mono ?_ | with_reducible refine AFC.out.mono ?_ | with_reducible refine ATR.out.mono ?_ | with_reducible refine ATC.out.mono ?_ | with_reducible refine AGb.out.mono ?_);rintro _ _ ⟨rfl,rfl⟩));go_meet
       exact ⟨by rw [HE.out],rfl⟩
      have AGb0:=aB W y.b;rw [hgb] at AGb0;have AGb:=aa AGb0;clear AGb0;by_cases hgs:ah y.s=true
      rotate_left
      ·rw [Bool.not_eq_true] at hgs;have AGs0:=aB W y.s;rw [hgs] at AGs0;have AGs:=aa AGs0;clear AGs0;have HE:Hid (aK y.ms=false):=aa (by rw [nums_eq];simp [hse,haf,hat,hgb,hgs]);(go_wp2_with ((first | go_at_call 27 | go_at_call 35 | go_at_call 36 | go_at_call 37);(first | with_reducible refine AH.out.mono ?_ | with_reducible refine AFR.out.mono ?_ | with_reducible refine AFC.out.mono ?_ | with_reducible refine ATR.out.mono ?_ | with_reducible refine ATC.out.mono ?_ | with_reducible refine AGb.out.mono ?_ | with_reducible refine AGs.out.mono ?_);rintro _ _ ⟨rfl,rfl⟩));go_meet
       exact ⟨by rw [HE.out],rfl⟩
      have AGs0:=aB W y.s;rw [hgs] at AGs0;have AGs:=aa AGs0;clear AGs0;by_cases hgm:ah y.m=true
      rotate_left
      ·rw [Bool.not_eq_true] at hgm;have AGm0:=aB W y.m;rw [hgm] at AGm0;have AGm:=aa AGm0;clear AGm0;have HE:Hid (aK y.ms=false):=aa (by rw [nums_eq];simp [hse,haf,hat,hgb,hgs,hgm]);(go_wp2_with ((first | go_at_call 27 | go_at_call 35 | go_at_call 36 | go_at_call 37);(first | with_reducible refine AH.out.mono ?_ | with_reducible refine AFR.out.mono ?_ | with_reducible refine AFC.out.mono ?_ | with_reducible refine ATR.out.mono ?_ | with_reducible refine ATC.out.mono ?_ | with_reducible refine AGb.out.mono ?_ | with_reducible refine AGs.out.mono ?_ | with_reducible refine AGm.out.mono ?_);rintro _ _ ⟨rfl,rfl⟩));go_meet
       exact ⟨by rw [HE.out],rfl⟩
      have AGm0:=aB W y.m;rw [hgm] at AGm0;have AGm:=aa AGm0;clear AGm0;by_cases hgn:ah y.n=true
      rotate_left
      ·rw [Bool.not_eq_true] at hgn;have AGn0:=aB W y.n;rw [hgn] at AGn0;have AGn:=aa AGn0;clear AGn0;have HE:Hid (aK y.ms=false):=aa (by rw [nums_eq];simp [hse,haf,hat,hgb,hgs,hgm,hgn]);(go_wp2_with ((first | go_at_call 27 | go_at_call 35 | go_at_call 36 | go_at_call 37);(first | with_reducible refine AH.out.mono ?_ | with_reducible refine AFR.out.mono ?_ | with_reducible refine AFC.out.mono ?_ | with_reducible refine ATR.out.mono ?_ | with_reducible refine ATC.out.mono ?_ | with_reducible refine AGb.out.mono ?_ | with_reducible refine AGs.out.mono ?_ | with_reducible refine AGm.out.mono ?_ | with_reducible refine AGn.out.mono ?_);rintro _ _ ⟨rfl,rfl⟩));go_meet
       exact ⟨by rw [HE.out],rfl⟩
      have AGn0:=aB W y.n;rw [hgn] at AGn0;have AGn:=aa AGn0;clear AGn0;have HE:Hid (aK y.ms=true):=aa (by rw [nums_eq];simp [hse,haf,hat,hgb,hgs,hgm,hgn]);(go_wp2_with ((first | go_at_call 27 | go_at_call 35 | go_at_call 36 | go_at_call 37);(first | with_reducible refine AH.out.mono ?_ | with_reducible refine AFR.out.mono ?_ | with_reducible refine AFC.out.mono ?_ | with_reducible refine ATR.out.mono ?_ | with_reducible refine ATC.out.mono ?_ | with_reducible refine AGb.out.mono ?_ | with_reducible refine AGs.out.mono ?_ | with_reducible refine AGm.out.mono ?_ | with_reducible refine AGn.out.mono ?_);rintro _ _ ⟨rfl,rfl⟩));go_meet
      exact ⟨by rw [HE.out],rfl⟩
     ·rw [Bool.not_eq_true] at hct;have hat:aF y.t=false:=by rw [dX,hrt,hct];rfl
      have ATR0:=dV W y.t;rw [hrt] at ATR0;have ATR:=aa ATR0;clear ATR0;have ATC0:=fC W y.t;rw [hct] at ATC0;have ATC:=aa ATC0;clear ATC0;have HE:Hid (aK y.ms=false):=aa (by rw [nums_eq];simp [hse,haf,hat]);(go_wp2_with ((first | go_at_call 27 | go_at_call 35 | go_at_call 36 | go_at_call 37);(first | with_reducible refine AH.out.mono ?_ | with_reducible refine AFR.out.mono ?_ | with_reducible refine AFC.out.mono ?_ | with_reducible refine ATR.out.mono ?_ | with_reducible refine ATC.out.mono ?_);rintro _ _ ⟨rfl,rfl⟩));go_meet
      exact ⟨by rw [HE.out],rfl⟩
   ·rw [Bool.not_eq_true] at hcf;have haf:aF y.f=false:=by rw [dX,hrf,hcf];rfl
    have AFR0:=dV W y.f;rw [hrf] at AFR0;have AFR:=aa AFR0;clear AFR0;have AFC0:=fC W y.f;rw [hcf] at AFC0;have AFC:=aa AFC0;clear AFC0;have HE:Hid (aK y.ms=false):=aa (by rw [nums_eq];simp [hse,haf]);(go_wp2_with ((first | go_at_call 27 | go_at_call 35 | go_at_call 36 | go_at_call 37);(first | with_reducible refine AH.out.mono ?_ | with_reducible refine AFR.out.mono ?_ | with_reducible refine AFC.out.mono ?_);rintro _ _ ⟨rfl,rfl⟩));go_meet
    exact ⟨by rw [HE.out],rfl⟩
 case rest =>
  obtain ⟨rfl,rfl⟩:=hcut;clear c0 c1 c2 c3 c4 c5 c19;go_upto_region 2 with fail
  have c17:=HB.out.cell 17 rfl;clear c17;by_cases hnum:aK y.ms=true
  rotate_left
  ·have HC:Hid (cy (bQ y.ms)=1):=i6 HCO.out (fun h=>hnum h.1);rw [Bool.not_eq_true] at hnum;rw [hnum];clear hnum;refine wp_region_held_drew (S:=fun w9=>Bx w9 w.heap.size 36 (aX y)) (by kernel_rfl) (HB.out.kept (ab.refl [] _).drew (by simp)) (fun hHeld=>?_);refine ay [0,1,2] (by rfl) (by kernel_rfl) (fun _ _ _ _ _ h=>h) hHeld ?_
   iterate 3
    refine yk ?_ rfl (Or.inl ⟨by rfl,?_⟩) ?_;rotate_left
    ·intro w9 hSw;go_simp;(try with_reducible rfl)
    try simp only [sT,Act.put]
   refine ax ?_;simp only [ai,sT];refine ay [3,4,5,6] (by rfl) (by kernel_rfl) (fun _ _ _ _ _ h=>h) hHeld ?_
   iterate 4
    refine yk undef rfl (Or.inr ⟨by rfl,rfl⟩) ?_;try simp only [sT,Act.put]
   refine ax ?_;simp only [ai,sT];refine ay [7,8] (by rfl) (by kernel_rfl) (fun _ _ _ _ _ h=>h) hHeld ?_
   iterate 2
    refine yk ?_ rfl (Or.inl ⟨by rfl,?_⟩) ?_;rotate_left
    ·intro w9 hSw;go_simp;(try with_reducible rfl)
    try simp only [sT,Act.put]
   refine ax ?_;simp only [ai,sT];refine ay [9,10,11,12] (by rfl) (by kernel_rfl) (fun _ _ _ _ _ h=>h) hHeld ?_
   iterate 4
    refine yk undef rfl (Or.inr ⟨by rfl,rfl⟩) ?_;try simp only [sT,Act.put]
   refine ax ?_;simp only [ai,sT];refine ay [13,14] (by rfl) (by kernel_rfl) (fun _ _ _ _ _ h=>h) hHeld ?_
   iterate 2
    refine yk ?_ rfl (Or.inl ⟨by rfl,?_⟩) ?_;rotate_left
    ·intro w9 hSw;go_simp;(try with_reducible rfl)
    try simp only [sT,Act.put]
   refine ax ?_;simp only [ai,sT];refine ay [15,16,17,18,19] (by rfl) (by kernel_rfl) (fun _ _ _ _ _ h=>h) hHeld ?_
   iterate 5
    refine yk undef rfl (Or.inr ⟨by rfl,rfl⟩) ?_;try simp only [sT,Act.put]
   refine ax ?_;simp only [ai,sT];refine ay [20,21] (by rfl) (by kernel_rfl) (fun _ _ _ _ _ h=>h) hHeld ?_
   iterate 2
    refine yk ?_ rfl (Or.inl ⟨by rfl,?_⟩) ?_;rotate_left
    ·intro w9 hSw;go_simp;(try with_reducible rfl)
    try simp only [sT,Act.put]
   refine ax ?_;simp only [ai,sT];refine ay [22,23,24,25] (by rfl) (by kernel_rfl) (fun _ _ _ _ _ h=>h) hHeld ?_
   iterate 4
    refine yk undef rfl (Or.inr ⟨by rfl,rfl⟩) ?_;try simp only [sT,Act.put]
   refine ax ?_;simp only [ai,sT];refine ay [26,27] (by rfl) (by kernel_rfl) (fun _ _ _ _ _ h=>h) hHeld ?_
   iterate 2
    refine yk ?_ rfl (Or.inl ⟨by rfl,?_⟩) ?_;rotate_left
    ·intro w9 hSw;go_simp;(try with_reducible rfl)
    try simp only [sT,Act.put]
   refine ax ?_;simp only [ai,sT];refine ay [28,29,30,31] (by rfl) (by kernel_rfl) (fun _ _ _ _ _ h=>h) hHeld ?_
   iterate 4
    refine yk undef rfl (Or.inr ⟨by rfl,rfl⟩) ?_;try simp only [sT,Act.put]
   refine ax ?_;simp only [ai,sT];refine ay [32] (by rfl) (by kernel_rfl) (fun _ _ _ _ _ h=>h) hHeld ?_
   iterate 1
    refine yk ?_ rfl (Or.inl ⟨by rfl,?_⟩) ?_;rotate_left
    ·intro w9 hSw;go_simp;(try with_reducible rfl)
    try simp only [sT,Act.put]
   refine ax ?_;simp only [ai,sT];(try simp only [sT,Act.put]);refine wpAnyH_done (by kernel_rfl) ?_ _;clear hHeld;(go_wp2_with fail);go_ret
   rw [HC.out];exact ⟨rfl,HK.out.drew⟩
  have HNUM:=aa hnum;rw [hnum];clear hnum;by_cases hvl:(4096:Int) < y.D.length
  ·have HC:Hid (cy (bQ y.ms)=1):=i6 HCO.out (fun h=>by have:=h.2.1;simp [Mm.ms] at this;omega);refine wp_region_held_drew (S:=fun w9=>Bx w9 w.heap.size 36 (aX y)) (by kernel_rfl) (HB.out.kept (ab.refl [] _).drew (by simp)) (fun hHeld=>?_);refine ay [0,1,2,3] (by rfl) (by kernel_rfl) (fun _ _ _ _ _ h=>h) hHeld ?_
   iterate 4
    refine yk ?_ rfl (Or.inl ⟨by rfl,?_⟩) ?_;rotate_left
    ·intro w9 hSw;go_simp;(try with_reducible rfl)
    try simp only [sT,Act.put]
   refine ax ?_;simp only [ai,sT];refine ay [4] (by rfl) (by kernel_rfl) (fun _ _ _ _ _ h=>h) hHeld ?_
   iterate 1
    refine yk ?_ rfl (Or.inl ⟨by rfl,?_⟩) ?_;rotate_left
    ·intro w9 hSw;have pj:w9.cell? ⟨w.heap.size,17,none⟩=some (.slice y.vo y.D.length y.vc):=(hSw).cell 17 rfl;go_simp;(try with_reducible rfl)
    try simp only [sT,Act.put]
   refine ax ?_;simp only [ai,sT];refine ay [5,6,7,8] (by rfl) (by kernel_rfl) (fun _ _ _ _ _ h=>h) hHeld ?_
   iterate 4
    refine yk ?_ rfl (Or.inl ⟨by rfl,?_⟩) ?_;rotate_left
    ·intro w9 hSw;go_simp;(try with_reducible rfl)
    try simp only [sT,Act.put]
   refine ax ?_;simp only [ai,sT];refine ay [9,10,11,12] (by rfl) (by kernel_rfl) (fun _ _ _ _ _ h=>h) hHeld ?_
   iterate 4
    refine yk undef rfl (Or.inr ⟨by rfl,rfl⟩) ?_;try simp only [sT,Act.put]
   refine ax ?_;simp only [ai,sT];refine ay [13,14] (by rfl) (by kernel_rfl) (fun _ _ _ _ _ h=>h) hHeld ?_
   iterate 2
    refine yk ?_ rfl (Or.inl ⟨by rfl,?_⟩) ?_;rotate_left
    ·intro w9 hSw;go_simp;(try with_reducible rfl)
    try simp only [sT,Act.put]
   refine ax ?_;simp only [ai,sT];refine ay [15,16,17,18,19] (by rfl) (by kernel_rfl) (fun _ _ _ _ _ h=>h) hHeld ?_
   iterate 5
    refine yk undef rfl (Or.inr ⟨by rfl,rfl⟩) ?_;try simp only [sT,Act.put]
   refine ax ?_;simp only [ai,sT];refine ay [20,21] (by rfl) (by kernel_rfl) (fun _ _ _ _ _ h=>h) hHeld ?_
   iterate 2
    refine yk ?_ rfl (Or.inl ⟨by rfl,?_⟩) ?_;rotate_left
    ·intro w9 hSw;go_simp;(try with_reducible rfl)
    try simp only [sT,Act.put]
   refine ax ?_;simp only [ai,sT];refine ay [22,23,24,25] (by rfl) (by kernel_rfl) (fun _ _ _ _ _ h=>h) hHeld ?_
   iterate 4
    refine yk undef rfl (Or.inr ⟨by rfl,rfl⟩) ?_;try simp only [sT,Act.put]
   refine ax ?_;simp only [ai,sT];refine ay [26,27] (by rfl) (by kernel_rfl) (fun _ _ _ _ _ h=>h) hHeld ?_
   iterate 2
    refine yk ?_ rfl (Or.inl ⟨by rfl,?_⟩) ?_;rotate_left
    ·intro w9 hSw;go_simp;(try with_reducible rfl)
    try simp only [sT,Act.put]
   refine ax ?_;simp only [ai,sT];refine ay [28,29,30,31] (by rfl) (by kernel_rfl) (fun _ _ _ _ _ h=>h) hHeld ?_
   iterate 4
    refine yk undef rfl (Or.inr ⟨by rfl,rfl⟩) ?_;try simp only [sT,Act.put]
   refine ax ?_;simp only [ai,sT];refine ay [32] (by rfl) (by kernel_rfl) (fun _ _ _ _ _ h=>h) hHeld ?_
   iterate 1
    refine yk ?_ rfl (Or.inl ⟨by rfl,?_⟩) ?_;rotate_left
    ·intro w9 hSw;go_simp;(try with_reducible rfl)
    try simp only [sT,Act.put]
   refine ax ?_;simp only [ai,sT];(try simp only [sT,Act.put]);refine wpAnyH_done (by kernel_rfl) ?_ _;clear hHeld;(go_wp2_with fail);go_ret
   rw [HC.out];exact ⟨rfl,HK.out.drew⟩
  by_cases hil:(524288:Int) < y.i.length
  ·have HC:Hid (cy (bQ y.ms)=1):=i6 HCO.out (fun h=>by have:=h.2.2.1;simp [Mm.ms] at this;omega);refine wp_region_held_drew (S:=fun w9=>Bx w9 w.heap.size 36 (aX y)) (by kernel_rfl) (HB.out.kept (ab.refl [] _).drew (by simp)) (fun hHeld=>?_);refine ay [0,1,2,3] (by rfl) (by kernel_rfl) (fun _ _ _ _ _ h=>h) hHeld ?_
   iterate 4
    refine yk ?_ rfl (Or.inl ⟨by rfl,?_⟩) ?_;rotate_left
    ·intro w9 hSw;go_simp;(try with_reducible rfl)
    try simp only [sT,Act.put]
   refine ax ?_;simp only [ai,sT];refine ay [4] (by rfl) (by kernel_rfl) (fun _ _ _ _ _ h=>h) hHeld ?_
   iterate 1
    refine yk ?_ rfl (Or.inl ⟨by rfl,?_⟩) ?_;rotate_left
    ·intro w9 hSw;have pj:w9.cell? ⟨w.heap.size,17,none⟩=some (.slice y.vo y.D.length y.vc):=(hSw).cell 17 rfl;go_simp;(try with_reducible rfl)
    try simp only [sT,Act.put]
   refine ax ?_;simp only [ai,sT];refine ay [5,6,7,8,9] (by rfl) (by kernel_rfl) (fun _ _ _ _ _ h=>h) hHeld ?_
   iterate 5
    refine yk ?_ rfl (Or.inl ⟨by rfl,?_⟩) ?_;rotate_left
    ·intro w9 hSw;go_simp;(try with_reducible rfl)
    try simp only [sT,Act.put]
   refine ax ?_;simp only [ai,sT];refine ay [10] (by rfl) (by kernel_rfl) (fun _ _ _ _ _ h=>h) hHeld ?_
   iterate 1
    refine yk ?_ rfl (Or.inl ⟨by rfl,?_⟩) ?_;rotate_left
    ·intro w9 hSw;have pj:w9.cell? ⟨w.heap.size,18,none⟩=some (.slice y.io y.i.length y.ic):=(hSw).cell 18 rfl;go_simp;(try with_reducible rfl)
    try simp only [sT,Act.put]
   refine ax ?_;simp only [ai,sT];refine ay [11,12,13,14] (by rfl) (by kernel_rfl) (fun _ _ _ _ _ h=>h) hHeld ?_
   iterate 4
    refine yk ?_ rfl (Or.inl ⟨by rfl,?_⟩) ?_;rotate_left
    ·intro w9 hSw;go_simp;(try with_reducible rfl)
    try simp only [sT,Act.put]
   refine ax ?_;simp only [ai,sT];refine ay [15,16,17,18,19] (by rfl) (by kernel_rfl) (fun _ _ _ _ _ h=>h) hHeld ?_
   iterate 5
    refine yk undef rfl (Or.inr ⟨by rfl,rfl⟩) ?_;try simp only [sT,Act.put]
   refine ax ?_;simp only [ai,sT];refine ay [20,21] (by rfl) (by kernel_rfl) (fun _ _ _ _ _ h=>h) hHeld ?_
   iterate 2
    refine yk ?_ rfl (Or.inl ⟨by rfl,?_⟩) ?_;rotate_left
    ·intro w9 hSw;go_simp;(try with_reducible rfl)
    try simp only [sT,Act.put]
   refine ax ?_;simp only [ai,sT];refine ay [22,23,24,25] (by rfl) (by kernel_rfl) (fun _ _ _ _ _ h=>h) hHeld ?_
   iterate 4
    refine yk undef rfl (Or.inr ⟨by rfl,rfl⟩) ?_;try simp only [sT,Act.put]
   refine ax ?_;simp only [ai,sT];refine ay [26,27] (by rfl) (by kernel_rfl) (fun _ _ _ _ _ h=>h) hHeld ?_
   iterate 2
    refine yk ?_ rfl (Or.inl ⟨by rfl,?_⟩) ?_;rotate_left
    ·intro w9 hSw;go_simp;(try with_reducible rfl)
    try simp only [sT,Act.put]
   refine ax ?_;simp only [ai,sT];refine ay [28,29,30,31] (by rfl) (by kernel_rfl) (fun _ _ _ _ _ h=>h) hHeld ?_
   iterate 4
    refine yk undef rfl (Or.inr ⟨by rfl,rfl⟩) ?_;try simp only [sT,Act.put]
   refine ax ?_;simp only [ai,sT];refine ay [32] (by rfl) (by kernel_rfl) (fun _ _ _ _ _ h=>h) hHeld ?_
   iterate 1
    refine yk ?_ rfl (Or.inl ⟨by rfl,?_⟩) ?_;rotate_left
    ·intro w9 hSw;go_simp;(try with_reducible rfl)
    try simp only [sT,Act.put]
   refine ax ?_;simp only [ai,sT];(try simp only [sT,Act.put]);refine wpAnyH_done (by kernel_rfl) ?_ _;clear hHeld;(go_wp2_with fail);go_ret
   rw [HC.out];exact ⟨rfl,HK.out.drew⟩
  by_cases how:y.ms=own y.ms
  rotate_left
  ·have HC:Hid (cy (bQ y.ms)=1):=i6 HCO.out (fun h=>how h.2.2.2.1);have HOW:=aa (decide_eq_false how);clear how;refine wp_region_held_drew (S:=fun w9=>Bx w9 w.heap.size 36 (aX y)) (by kernel_rfl) (HB.out.kept (ab.refl [] _).drew (by simp)) (fun hHeld=>?_);refine ay [0,1,2,3] (by rfl) (by kernel_rfl) (fun _ _ _ _ _ h=>h) hHeld ?_
   iterate 4
    refine yk ?_ rfl (Or.inl ⟨by rfl,?_⟩) ?_;rotate_left
    ·intro w9 hSw;go_simp;(try with_reducible rfl)
    try simp only [sT,Act.put]
   refine ax ?_;simp only [ai,sT];refine ay [4] (by rfl) (by kernel_rfl) (fun _ _ _ _ _ h=>h) hHeld ?_
   iterate 1
    refine yk ?_ rfl (Or.inl ⟨by rfl,?_⟩) ?_;rotate_left
    ·intro w9 hSw;have pj:w9.cell? ⟨w.heap.size,17,none⟩=some (.slice y.vo y.D.length y.vc):=(hSw).cell 17 rfl;go_simp;(try with_reducible rfl)
    try simp only [sT,Act.put]
   refine ax ?_;simp only [ai,sT];refine ay [5,6,7,8,9] (by rfl) (by kernel_rfl) (fun _ _ _ _ _ h=>h) hHeld ?_
   iterate 5
    refine yk ?_ rfl (Or.inl ⟨by rfl,?_⟩) ?_;rotate_left
    ·intro w9 hSw;go_simp;(try with_reducible rfl)
    try simp only [sT,Act.put]
   refine ax ?_;simp only [ai,sT];refine ay [10] (by rfl) (by kernel_rfl) (fun _ _ _ _ _ h=>h) hHeld ?_
   iterate 1
    refine yk ?_ rfl (Or.inl ⟨by rfl,?_⟩) ?_;rotate_left
    ·intro w9 hSw;have pj:w9.cell? ⟨w.heap.size,18,none⟩=some (.slice y.io y.i.length y.ic):=(hSw).cell 18 rfl;go_simp;(try with_reducible rfl)
    try simp only [sT,Act.put]
   refine ax ?_;simp only [ai,sT];refine ay [11,12,13,14] (by rfl) (by kernel_rfl) (fun _ _ _ _ _ h=>h) hHeld ?_
   iterate 4
    refine yk ?_ rfl (Or.inl ⟨by rfl,?_⟩) ?_;rotate_left
    ·intro w9 hSw;go_simp;(try with_reducible rfl)
    try simp only [sT,Act.put]
   refine ax ?_;simp only [ai,sT];refine wpAnyH_take (i:=15) (v:=.agg (aX y).toArray) rfl (by kernel_rfl) (by kernel_rfl) (by kernel_rfl) (fun _ _ _ h=>h) (yieldsIf_load_mid (by rfl) _ _ rfl w.heap.size 0 rfl (aX y) _ (fun w9 hSw=>hSw.range) Tryz.underlying36 rfl dI) hHeld ?_;(try simp only [sT,Act.put]);refine wpAnyH_take (i:=16) (v:=.agg (aX y).toArray) rfl (by kernel_rfl) (by kernel_rfl) (by kernel_rfl) (fun _ _ _ h=>h) (yieldsIf_load_mid (by rfl) _ _ rfl w.heap.size 0 rfl (aX y) _ (fun w9 hSw=>hSw.range) Tryz.underlying36 rfl dI) hHeld ?_;(try simp only [sT,Act.put]);refine cd 17 (by kernel_rfl) rfl (fun K0 hK0=>?_);go_simp;refine (hJ _ y).mono ?_;rintro _ w2 ⟨rfl,hk2⟩;have HK2:=aa ((ab.refl [] W).drew.trans hk2 (by simp));clear hk2;(go_wp2_with fail);refine hK0.out _ _ (HB.out.kept HK2.out (by simp)) (fun hHeld=>?_);clear hK0 K0;(try simp only [sT,Act.put]);refine cd 18 (by kernel_rfl) rfl (fun K0 hK0=>?_);go_simp;have cS:=fT w2 y (ir y) (HY.out.kept HK2.out) (o7 (HY.out.kept HK2.out)) HDV.out;rw [jW,HOW.out] at cS;refine cS.mono ?_;clear cS;rintro _ w3 ⟨rfl,hk3⟩;have HK3:=aa (HK2.out.trans hk3 (by simp));clear hk3;(go_wp2_with fail);refine hK0.out _ _ (HB.out.kept HK3.out (by simp)) (fun hHeld=>?_);clear hK0 K0;(try simp only [sT,Act.put]);refine ay [19,20,21] (by rfl) (by kernel_rfl) (fun _ _ _ _ _ h=>h) hHeld ?_
   iterate 3
    refine yk ?_ rfl (Or.inl ⟨by rfl,?_⟩) ?_;rotate_left
    ·intro w9 hSw;go_simp;(try with_reducible rfl)
    try simp only [sT,Act.put]
   refine ax ?_;simp only [ai,sT];refine ay [22,23,24,25] (by rfl) (by kernel_rfl) (fun _ _ _ _ _ h=>h) hHeld ?_
   iterate 4
    refine yk undef rfl (Or.inr ⟨by rfl,rfl⟩) ?_;try simp only [sT,Act.put]
   refine ax ?_;simp only [ai,sT];refine ay [26,27] (by rfl) (by kernel_rfl) (fun _ _ _ _ _ h=>h) hHeld ?_
   iterate 2
    refine yk ?_ rfl (Or.inl ⟨by rfl,?_⟩) ?_;rotate_left
    ·intro w9 hSw;go_simp;(try with_reducible rfl)
    try simp only [sT,Act.put]
   refine ax ?_;simp only [ai,sT];refine ay [28,29,30,31] (by rfl) (by kernel_rfl) (fun _ _ _ _ _ h=>h) hHeld ?_
   iterate 4
    refine yk undef rfl (Or.inr ⟨by rfl,rfl⟩) ?_;try simp only [sT,Act.put]
   refine ax ?_;simp only [ai,sT];refine ay [32] (by rfl) (by kernel_rfl) (fun _ _ _ _ _ h=>h) hHeld ?_
   iterate 1
    refine yk ?_ rfl (Or.inl ⟨by rfl,?_⟩) ?_;rotate_left
    ·intro w9 hSw;go_simp;(try with_reducible rfl)
    try simp only [sT,Act.put]
   refine ax ?_;simp only [ai,sT];(try simp only [sT,Act.put]);refine wpAnyH_done (by kernel_rfl) ?_ _;clear hHeld;(go_wp2_with fail);go_ret
   rw [HC.out];exact ⟨rfl,HK.out.trans HK3.out (by simp)⟩
  have HOWP:=aa how;have HOW:=aa (decide_eq_true how);clear how;by_cases hcv:dj y.x.r=true
  rotate_left
  ·have HC:Hid (cy (bQ y.ms)=1):=i6 HCO.out (fun h=>hcv h.2.2.2.2.1);rw [Bool.not_eq_true] at hcv;have HCV:Hid (dj y.x.r=false):=hcv;clear hcv;refine wp_region_held_drew (S:=fun w9=>Bx w9 w.heap.size 36 (aX y)) (by kernel_rfl) (HB.out.kept (ab.refl [] _).drew (by simp)) (fun hHeld=>?_);refine ay [0,1,2,3] (by rfl) (by kernel_rfl) (fun _ _ _ _ _ h=>h) hHeld ?_
   iterate 4
    refine yk ?_ rfl (Or.inl ⟨by rfl,?_⟩) ?_;rotate_left
    ·intro w9 hSw;go_simp;(try with_reducible rfl)
    try simp only [sT,Act.put]
   refine ax ?_;simp only [ai,sT];refine ay [4] (by rfl) (by kernel_rfl) (fun _ _ _ _ _ h=>h) hHeld ?_
   iterate 1
    refine yk ?_ rfl (Or.inl ⟨by rfl,?_⟩) ?_;rotate_left
    ·intro w9 hSw;have pj:w9.cell? ⟨w.heap.size,17,none⟩=some (.slice y.vo y.D.length y.vc):=(hSw).cell 17 rfl;go_simp;(try with_reducible rfl)
    try simp only [sT,Act.put]
   refine ax ?_;simp only [ai,sT];refine ay [5,6,7,8,9] (by rfl) (by kernel_rfl) (fun _ _ _ _ _ h=>h) hHeld ?_
   iterate 5
    refine yk ?_ rfl (Or.inl ⟨by rfl,?_⟩) ?_;rotate_left
    ·intro w9 hSw;go_simp;(try with_reducible rfl)
    try simp only [sT,Act.put]
   refine ax ?_;simp only [ai,sT];refine ay [10] (by rfl) (by kernel_rfl) (fun _ _ _ _ _ h=>h) hHeld ?_
   iterate 1
    refine yk ?_ rfl (Or.inl ⟨by rfl,?_⟩) ?_;rotate_left
    ·intro w9 hSw;have pj:w9.cell? ⟨w.heap.size,18,none⟩=some (.slice y.io y.i.length y.ic):=(hSw).cell 18 rfl;go_simp;(try with_reducible rfl)
    try simp only [sT,Act.put]
   refine ax ?_;simp only [ai,sT];refine ay [11,12,13,14] (by rfl) (by kernel_rfl) (fun _ _ _ _ _ h=>h) hHeld ?_
   iterate 4
    refine yk ?_ rfl (Or.inl ⟨by rfl,?_⟩) ?_;rotate_left
    ·intro w9 hSw;go_simp;(try with_reducible rfl)
    try simp only [sT,Act.put]
   refine ax ?_;simp only [ai,sT];refine wpAnyH_take (i:=15) (v:=.agg (aX y).toArray) rfl (by kernel_rfl) (by kernel_rfl) (by kernel_rfl) (fun _ _ _ h=>h) (yieldsIf_load_mid (by rfl) _ _ rfl w.heap.size 0 rfl (aX y) _ (fun w9 hSw=>hSw.range) Tryz.underlying36 rfl dI) hHeld ?_;(try simp only [sT,Act.put]);refine wpAnyH_take (i:=16) (v:=.agg (aX y).toArray) rfl (by kernel_rfl) (by kernel_rfl) (by kernel_rfl) (fun _ _ _ h=>h) (yieldsIf_load_mid (by rfl) _ _ rfl w.heap.size 0 rfl (aX y) _ (fun w9 hSw=>hSw.range) Tryz.underlying36 rfl dI) hHeld ?_;(try simp only [sT,Act.put]);refine cd 17 (by kernel_rfl) rfl (fun K0 hK0=>?_);go_simp;refine (hJ _ y).mono ?_;rintro _ w2 ⟨rfl,hk2⟩;have HK2:=aa ((ab.refl [] W).drew.trans hk2 (by simp));clear hk2;(go_wp2_with fail);refine hK0.out _ _ (HB.out.kept HK2.out (by simp)) (fun hHeld=>?_);clear hK0 K0;(try simp only [sT,Act.put]);refine cd 18 (by kernel_rfl) rfl (fun K0 hK0=>?_);go_simp;have cS:=fT w2 y (ir y) (HY.out.kept HK2.out) (o7 (HY.out.kept HK2.out)) HDV.out;rw [jW,HOW.out] at cS;refine cS.mono ?_;clear cS;rintro _ w3 ⟨rfl,hk3⟩;have HK3:=aa (HK2.out.trans hk3 (by simp));clear hk3;(go_wp2_with fail);refine hK0.out _ _ (HB.out.kept HK3.out (by simp)) (fun hHeld=>?_);clear hK0 K0;(try simp only [sT,Act.put]);refine ay [19,20,21,22] (by rfl) (by kernel_rfl) (fun _ _ _ _ _ h=>h) hHeld ?_
   iterate 4
    refine yk ?_ rfl (Or.inl ⟨by rfl,?_⟩) ?_;rotate_left
    ·intro w9 hSw;go_simp;(try with_reducible rfl)
    try simp only [sT,Act.put]
   refine ax ?_;simp only [ai,sT];refine wpAnyH_take (i:=23) (v:=.agg (bp y.x).toArray) rfl (by kernel_rfl) (by kernel_rfl) (by kernel_rfl) (fun _ _ _ h=>h) (yieldsIf_load_mid (by rfl) _ _ rfl w.heap.size 6 rfl (bp y.x) _ (fun w9 hSw=>hSw.msx) Tryz.underlying29 rfl cm) hHeld ?_;(try simp only [sT,Act.put]);refine cd 24 (by kernel_rfl) rfl (fun K0 hK0=>?_);go_simp;have cC:Calls Tryz.prog 39 #[.agg (bp y.x).toArray] w3 fun e w'=>e=.returned (.int .i64 (cy (dj y.x.r)))∧ab [] w3 w':=fc w3 y.x (HY.out.kept HK3.out).x.s;rw [HCV.out] at cC;refine cC.mono ?_;clear cC;rintro _ w4 ⟨rfl,hk4⟩;have HK4:=aa (HK3.out.trans hk4 (by simp));clear hk4;(go_wp2_with fail);refine hK0.out _ _ (HB.out.kept HK4.out (by simp)) (fun hHeld=>?_);clear hK0 K0;(try simp only [sT,Act.put]);refine ay [25,26,27] (by rfl) (by kernel_rfl) (fun _ _ _ _ _ h=>h) hHeld ?_
   iterate 3
    refine yk ?_ rfl (Or.inl ⟨by rfl,?_⟩) ?_;rotate_left
    ·intro w9 hSw;go_simp;(try with_reducible rfl)
    try simp only [sT,Act.put]
   refine ax ?_;simp only [ai,sT];refine ay [28,29,30,31] (by rfl) (by kernel_rfl) (fun _ _ _ _ _ h=>h) hHeld ?_
   iterate 4
    refine yk undef rfl (Or.inr ⟨by rfl,rfl⟩) ?_;try simp only [sT,Act.put]
   refine ax ?_;simp only [ai,sT];refine ay [32] (by rfl) (by kernel_rfl) (fun _ _ _ _ _ h=>h) hHeld ?_
   iterate 1
    refine yk ?_ rfl (Or.inl ⟨by rfl,?_⟩) ?_;rotate_left
    ·intro w9 hSw;go_simp;(try with_reducible rfl)
    try simp only [sT,Act.put]
   refine ax ?_;simp only [ai,sT];(try simp only [sT,Act.put]);refine wpAnyH_done (by kernel_rfl) ?_ _;clear hHeld;(go_wp2_with fail);go_ret
   rw [HC.out];exact ⟨rfl,HK.out.trans HK4.out (by simp)⟩
  have HCV:=aa hcv;clear hcv;by_cases hmv:jL y.r=true
  rotate_left
  ·have HC:Hid (cy (bQ y.ms)=1):=i6 HCO.out (fun h=>hmv h.2.2.2.2.2.1);rw [Bool.not_eq_true] at hmv;have HMV:Hid (jL y.r=false):=hmv;clear hmv;refine wp_region_held_drew (S:=fun w9=>Bx w9 w.heap.size 36 (aX y)) (by kernel_rfl) (HB.out.kept (ab.refl [] _).drew (by simp)) (fun hHeld=>?_);refine ay [0,1,2,3] (by rfl) (by kernel_rfl) (fun _ _ _ _ _ h=>h) hHeld ?_
   iterate 4
    refine yk ?_ rfl (Or.inl ⟨by rfl,?_⟩) ?_;rotate_left
    ·intro w9 hSw;go_simp;(try with_reducible rfl)
    try simp only [sT,Act.put]
   refine ax ?_;simp only [ai,sT];refine ay [4] (by rfl) (by kernel_rfl) (fun _ _ _ _ _ h=>h) hHeld ?_
   iterate 1
    refine yk ?_ rfl (Or.inl ⟨by rfl,?_⟩) ?_;rotate_left
    ·intro w9 hSw;have pj:w9.cell? ⟨w.heap.size,17,none⟩=some (.slice y.vo y.D.length y.vc):=(hSw).cell 17 rfl;go_simp;(try with_reducible rfl)
    try simp only [sT,Act.put]
   refine ax ?_;simp only [ai,sT];refine ay [5,6,7,8,9] (by rfl) (by kernel_rfl) (fun _ _ _ _ _ h=>h) hHeld ?_
   iterate 5
    refine yk ?_ rfl (Or.inl ⟨by rfl,?_⟩) ?_;rotate_left
    ·intro w9 hSw;go_simp;(try with_reducible rfl)
    try simp only [sT,Act.put]
   refine ax ?_;simp only [ai,sT];refine ay [10] (by rfl) (by kernel_rfl) (fun _ _ _ _ _ h=>h) hHeld ?_
   iterate 1
    refine yk ?_ rfl (Or.inl ⟨by rfl,?_⟩) ?_;rotate_left
    ·intro w9 hSw;have pj:w9.cell? ⟨w.heap.size,18,none⟩=some (.slice y.io y.i.length y.ic):=(hSw).cell 18 rfl;go_simp;(try with_reducible rfl)
    try simp only [sT,Act.put]
   refine ax ?_;simp only [ai,sT];refine ay [11,12,13,14] (by rfl) (by kernel_rfl) (fun _ _ _ _ _ h=>h) hHeld ?_
   iterate 4
    refine yk ?_ rfl (Or.inl ⟨by rfl,?_⟩) ?_;rotate_left
    ·intro w9 hSw;go_simp;(try with_reducible rfl)
    try simp only [sT,Act.put]
   refine ax ?_;simp only [ai,sT];refine wpAnyH_take (i:=15) (v:=.agg (aX y).toArray) rfl (by kernel_rfl) (by kernel_rfl) (by kernel_rfl) (fun _ _ _ h=>h) (yieldsIf_load_mid (by rfl) _ _ rfl w.heap.size 0 rfl (aX y) _ (fun w9 hSw=>hSw.range) Tryz.underlying36 rfl dI) hHeld ?_;(try simp only [sT,Act.put]);refine wpAnyH_take (i:=16) (v:=.agg (aX y).toArray) rfl (by kernel_rfl) (by kernel_rfl) (by kernel_rfl) (fun _ _ _ h=>h) (yieldsIf_load_mid (by rfl) _ _ rfl w.heap.size 0 rfl (aX y) _ (fun w9 hSw=>hSw.range) Tryz.underlying36 rfl dI) hHeld ?_;(try simp only [sT,Act.put]);refine cd 17 (by kernel_rfl) rfl (fun K0 hK0=>?_);go_simp;refine (hJ _ y).mono ?_;rintro _ w2 ⟨rfl,hk2⟩;have HK2:=aa ((ab.refl [] W).drew.trans hk2 (by simp));clear hk2;(go_wp2_with fail);refine hK0.out _ _ (HB.out.kept HK2.out (by simp)) (fun hHeld=>?_);clear hK0 K0;(try simp only [sT,Act.put]);refine cd 18 (by kernel_rfl) rfl (fun K0 hK0=>?_);go_simp;have cS:=fT w2 y (ir y) (HY.out.kept HK2.out) (o7 (HY.out.kept HK2.out)) HDV.out;rw [jW,HOW.out] at cS;refine cS.mono ?_;clear cS;rintro _ w3 ⟨rfl,hk3⟩;have HK3:=aa (HK2.out.trans hk3 (by simp));clear hk3;(go_wp2_with fail);refine hK0.out _ _ (HB.out.kept HK3.out (by simp)) (fun hHeld=>?_);clear hK0 K0;(try simp only [sT,Act.put]);refine ay [19,20,21,22] (by rfl) (by kernel_rfl) (fun _ _ _ _ _ h=>h) hHeld ?_
   iterate 4
    refine yk ?_ rfl (Or.inl ⟨by rfl,?_⟩) ?_;rotate_left
    ·intro w9 hSw;go_simp;(try with_reducible rfl)
    try simp only [sT,Act.put]
   refine ax ?_;simp only [ai,sT];refine wpAnyH_take (i:=23) (v:=.agg (bp y.x).toArray) rfl (by kernel_rfl) (by kernel_rfl) (by kernel_rfl) (fun _ _ _ h=>h) (yieldsIf_load_mid (by rfl) _ _ rfl w.heap.size 6 rfl (bp y.x) _ (fun w9 hSw=>hSw.msx) Tryz.underlying29 rfl cm) hHeld ?_;(try simp only [sT,Act.put]);refine cd 24 (by kernel_rfl) rfl (fun K0 hK0=>?_);go_simp;have cC:Calls Tryz.prog 39 #[.agg (bp y.x).toArray] w3 fun e w'=>e=.returned (.int .i64 (cy (dj y.x.r)))∧ab [] w3 w':=fc w3 y.x (HY.out.kept HK3.out).x.s;rw [HCV.out] at cC;refine cC.mono ?_;clear cC;rintro _ w4 ⟨rfl,hk4⟩;have HK4:=aa (HK3.out.trans hk4 (by simp));clear hk4;(go_wp2_with fail);refine hK0.out _ _ (HB.out.kept HK4.out (by simp)) (fun hHeld=>?_);clear hK0 K0;(try simp only [sT,Act.put]);refine ay [25,26,27,28] (by rfl) (by kernel_rfl) (fun _ _ _ _ _ h=>h) hHeld ?_
   iterate 4
    refine yk ?_ rfl (Or.inl ⟨by rfl,?_⟩) ?_;rotate_left
    ·intro w9 hSw;go_simp;(try with_reducible rfl)
    try simp only [sT,Act.put]
   refine ax ?_;simp only [ai,sT];refine wpAnyH_take (i:=29) (v:=.agg (au y.r (.slice y.uo y.un y.uc)).toArray) rfl (by kernel_rfl) (by kernel_rfl) (by kernel_rfl) (fun _ _ _ h=>h) (yieldsIf_load_mid (by rfl) _ _ rfl w.heap.size 20 rfl (au y.r (.slice y.uo y.un y.uc)) _ (fun w9 hSw=>hSw.msr) Tryz.underlying34 rfl dH) hHeld ?_;(try simp only [sT,Act.put]);refine cd 30 (by kernel_rfl) rfl (fun K0 hK0=>?_);go_simp;have cM:Calls Tryz.prog 40 #[.agg (au y.r (.slice y.uo y.un y.uc)).toArray] w4 fun e w'=>e=.returned (.bool (jL y.r))∧ab [] w4 w':=pc w4 y.r _ (jh (HY.out.kept HK4.out).r);rw [HMV.out] at cM;refine cM.mono ?_;clear cM;rintro _ w5 ⟨rfl,hk5⟩;have HK5:=aa (HK4.out.trans hk5 (by simp));clear hk5;(go_wp2_with fail);refine hK0.out _ _ (HB.out.kept HK5.out (by simp)) (fun hHeld=>?_);clear hK0 K0;(try simp only [sT,Act.put]);refine ay [31,32] (by rfl) (by kernel_rfl) (fun _ _ _ _ _ h=>h) hHeld ?_
   iterate 2
    refine yk ?_ rfl (Or.inl ⟨by rfl,?_⟩) ?_;rotate_left
    ·intro w9 hSw;go_simp;(try with_reducible rfl)
    try simp only [sT,Act.put]
   refine ax ?_;simp only [ai,sT];(try simp only [sT,Act.put]);refine wpAnyH_done (by kernel_rfl) ?_ _;clear hHeld;(go_wp2_with fail);go_ret
   rw [HC.out];exact ⟨rfl,HK.out.trans HK5.out (by simp)⟩
  have HMV:=aa hmv;clear hmv;have HLI:Hid (y.ms.l.length≤4096∧y.ms.i.length≤524288):=by show _∧_;simp [Mm.ms];omega
  have HDN:Hid (y.ms.l.length=y.D.length):=by show _=_;simp [Mm.ms]
  obtain ⟨vo,hvo⟩:∃ vo,vo=y.vo:=⟨_,rfl⟩;have hdn:(y.D.length:Int)≤4096:=by omega
  have hvm:=HY.out.v.mx;have hvc:=HY.out.v.le;unfold maxLen at hvm;have HVO:=aa hvo;clear hvo;refine wp_region_held_drew (S:=fun w9=>Bx w9 w.heap.size 36 (aX y)) (by kernel_rfl) (HB.out.kept (ab.refl [] _).drew (by simp)) (fun hHeld=>?_);refine ay [0,1,2,3] (by rfl) (by kernel_rfl) (fun _ _ _ _ _ h=>h) hHeld ?_
  iterate 4
   refine yk ?_ rfl (Or.inl ⟨by rfl,?_⟩) ?_;rotate_left
   ·intro w9 hSw;go_simp;(try with_reducible rfl)
   try simp only [sT,Act.put]
  refine ax ?_;simp only [ai,sT];refine ay [4] (by rfl) (by kernel_rfl) (fun _ _ _ _ _ h=>h) hHeld ?_
  iterate 1
   refine yk ?_ rfl (Or.inl ⟨by rfl,?_⟩) ?_;rotate_left
   ·intro w9 hSw;have pj:w9.cell? ⟨w.heap.size,17,none⟩=some (.slice y.vo y.D.length y.vc):=(hSw).cell 17 rfl;go_simp;(try with_reducible rfl)
   try simp only [sT,Act.put]
  refine ax ?_;simp only [ai,sT];refine ay [5,6,7,8,9] (by rfl) (by kernel_rfl) (fun _ _ _ _ _ h=>h) hHeld ?_
  iterate 5
   refine yk ?_ rfl (Or.inl ⟨by rfl,?_⟩) ?_;rotate_left
   ·intro w9 hSw;go_simp;(try with_reducible rfl)
   try simp only [sT,Act.put]
  refine ax ?_;simp only [ai,sT];refine ay [10] (by rfl) (by kernel_rfl) (fun _ _ _ _ _ h=>h) hHeld ?_
  iterate 1
   refine yk ?_ rfl (Or.inl ⟨by rfl,?_⟩) ?_;rotate_left
   ·intro w9 hSw;have pj:w9.cell? ⟨w.heap.size,18,none⟩=some (.slice y.io y.i.length y.ic):=(hSw).cell 18 rfl;go_simp;(try with_reducible rfl)
   try simp only [sT,Act.put]
  refine ax ?_;simp only [ai,sT];refine ay [11,12,13,14] (by rfl) (by kernel_rfl) (fun _ _ _ _ _ h=>h) hHeld ?_
  iterate 4
   refine yk ?_ rfl (Or.inl ⟨by rfl,?_⟩) ?_;rotate_left
   ·intro w9 hSw;go_simp;(try with_reducible rfl)
   try simp only [sT,Act.put]
  refine ax ?_;simp only [ai,sT];refine wpAnyH_take (i:=15) (v:=.agg (aX y).toArray) rfl (by kernel_rfl) (by kernel_rfl) (by kernel_rfl) (fun _ _ _ h=>h) (yieldsIf_load_mid (by rfl) _ _ rfl w.heap.size 0 rfl (aX y) _ (fun w9 hSw=>hSw.range) Tryz.underlying36 rfl dI) hHeld ?_;(try simp only [sT,Act.put]);refine wpAnyH_take (i:=16) (v:=.agg (aX y).toArray) rfl (by kernel_rfl) (by kernel_rfl) (by kernel_rfl) (fun _ _ _ h=>h) (yieldsIf_load_mid (by rfl) _ _ rfl w.heap.size 0 rfl (aX y) _ (fun w9 hSw=>hSw.range) Tryz.underlying36 rfl dI) hHeld ?_;(try simp only [sT,Act.put]);refine cd 17 (by kernel_rfl) rfl (fun K0 hK0=>?_);go_simp;refine (hJ _ y).mono ?_;rintro _ w2 ⟨rfl,hk2⟩;have HK2:=aa ((ab.refl [] W).drew.trans hk2 (by simp));clear hk2;(go_wp2_with fail);refine hK0.out _ _ (HB.out.kept HK2.out (by simp)) (fun hHeld=>?_);clear hK0 K0;(try simp only [sT,Act.put]);refine cd 18 (by kernel_rfl) rfl (fun K0 hK0=>?_);go_simp;have cS:=fT w2 y (ir y) (HY.out.kept HK2.out) (o7 (HY.out.kept HK2.out)) HDV.out;rw [jW,HOW.out] at cS;refine cS.mono ?_;clear cS;rintro _ w3 ⟨rfl,hk3⟩;have HK3:=aa (HK2.out.trans hk3 (by simp));clear hk3;(go_wp2_with fail);refine hK0.out _ _ (HB.out.kept HK3.out (by simp)) (fun hHeld=>?_);clear hK0 K0;(try simp only [sT,Act.put]);refine ay [19,20,21,22] (by rfl) (by kernel_rfl) (fun _ _ _ _ _ h=>h) hHeld ?_
  iterate 4
   refine yk ?_ rfl (Or.inl ⟨by rfl,?_⟩) ?_;rotate_left
   ·intro w9 hSw;go_simp;(try with_reducible rfl)
   try simp only [sT,Act.put]
  refine ax ?_;simp only [ai,sT];refine wpAnyH_take (i:=23) (v:=.agg (bp y.x).toArray) rfl (by kernel_rfl) (by kernel_rfl) (by kernel_rfl) (fun _ _ _ h=>h) (yieldsIf_load_mid (by rfl) _ _ rfl w.heap.size 6 rfl (bp y.x) _ (fun w9 hSw=>hSw.msx) Tryz.underlying29 rfl cm) hHeld ?_;(try simp only [sT,Act.put]);refine cd 24 (by kernel_rfl) rfl (fun K0 hK0=>?_);go_simp;have cC:Calls Tryz.prog 39 #[.agg (bp y.x).toArray] w3 fun e w'=>e=.returned (.int .i64 (cy (dj y.x.r)))∧ab [] w3 w':=fc w3 y.x (HY.out.kept HK3.out).x.s;rw [HCV.out] at cC;refine cC.mono ?_;clear cC;rintro _ w4 ⟨rfl,hk4⟩;have HK4:=aa (HK3.out.trans hk4 (by simp));clear hk4;(go_wp2_with fail);refine hK0.out _ _ (HB.out.kept HK4.out (by simp)) (fun hHeld=>?_);clear hK0 K0;(try simp only [sT,Act.put]);refine ay [25,26,27,28] (by rfl) (by kernel_rfl) (fun _ _ _ _ _ h=>h) hHeld ?_
  iterate 4
   refine yk ?_ rfl (Or.inl ⟨by rfl,?_⟩) ?_;rotate_left
   ·intro w9 hSw;go_simp;(try with_reducible rfl)
   try simp only [sT,Act.put]
  refine ax ?_;simp only [ai,sT];refine wpAnyH_take (i:=29) (v:=.agg (au y.r (.slice y.uo y.un y.uc)).toArray) rfl (by kernel_rfl) (by kernel_rfl) (by kernel_rfl) (fun _ _ _ h=>h) (yieldsIf_load_mid (by rfl) _ _ rfl w.heap.size 20 rfl (au y.r (.slice y.uo y.un y.uc)) _ (fun w9 hSw=>hSw.msr) Tryz.underlying34 rfl dH) hHeld ?_;(try simp only [sT,Act.put]);refine cd 30 (by kernel_rfl) rfl (fun K0 hK0=>?_);go_simp;have cM:Calls Tryz.prog 40 #[.agg (au y.r (.slice y.uo y.un y.uc)).toArray] w4 fun e w'=>e=.returned (.bool (jL y.r))∧ab [] w4 w':=pc w4 y.r _ (jh (HY.out.kept HK4.out).r);rw [HMV.out] at cM;refine cM.mono ?_;clear cM;rintro _ w5 ⟨rfl,hk5⟩;have HK5:=aa (HK4.out.trans hk5 (by simp));clear hk5;(go_wp2_with fail);refine hK0.out _ _ (HB.out.kept HK5.out (by simp)) (fun hHeld=>?_);clear hK0 K0;(try simp only [sT,Act.put]);refine ay [31,32] (by rfl) (by kernel_rfl) (fun _ _ _ _ _ h=>h) hHeld ?_
  iterate 2
   refine yk ?_ rfl (Or.inl ⟨by rfl,?_⟩) ?_;rotate_left
   ·intro w9 hSw;go_simp;(try with_reducible rfl)
   try simp only [sT,Act.put]
  refine ax ?_;simp only [ai,sT];(try simp only [sT,Act.put]);refine wpAnyH_done (by kernel_rfl) ?_ _;clear hHeld;have HJ0:Hid (vl y.ms.l 0):=fun q _ h0=>absurd h0 (Nat.not_lt_zero q);clear hHeld;(go_wp2_with fail);go_loopw [4] (fun iv wr=>xW W y.ms.l y.D.length iv wr) (fun iv _=>y.D.length - (intOf iv).toNat)
  case atStart=>exact ⟨0,rfl,Nat.zero_le _,HK5,HJ0⟩
  case round =>
   obtain ⟨i,rfl,hi,HKi,HJi⟩:=hrel;have HBi:=aa (HB.out.kept HKi.out (by simp));have HYi:=aa (HY.out.kept HKi.out);have c17:=HBi.out.cell 17 rfl;by_cases hlt:i < y.D.length
   ·have hlt':(i:Int) < y.D.length:=by omega
    obtain ⟨b1,o1,hvo,hel⟩:=HYi.out.v.e i hlt;have hxv:=HYi.out.v.x y.D[i] (List.getElem_mem hlt);have hil2:i < y.ms.l.length:=by rw [HDN.out];exact hlt
    have hLi:y.ms.l[i]=y.D[i].v:=by simp [Mm.ms]
    have HVS:Hid (ah y.D[i].s=true→ah y.D[i].b=true→dj y.D[i].x.r=true→(∀ p (hp:p < y.ms.l.length),i=p+1→y.ms.l[p].s < y.D[i].s)→vl y.ms.l (i+1)):=by
     intro g1 g2 g3 g4 q hq hj;by_cases hqi:q < i
     ·exact HJi.out q hq hqi
     ·have e:q=i:=by omega
      subst e;rw [hLi];exact ⟨g1,g2,g3,g4⟩
    have HVN:Hid (vl y.ms.l y.ms.l.length→ah y.D[i].s=true∧ah y.D[i].b=true∧dj y.D[i].x.r=true∧∀ p (hp:p < y.ms.l.length),i=p+1→y.ms.l[p].s < y.D[i].s):=by
     intro h;have:=h i hil2 hil2
     rw [hLi] at this;exact this
    have HPV:Hid (∀ p (hp:p < y.D.length),wr.cell? ⟨b1,o1+p*13,none⟩=some (.int .i64 (y.ms.l[p]'(by rw [HDN.out];exact hp)).s)):=by
     intro p hp;obtain ⟨b2,o2,hvo2,hel2⟩:=HYi.out.v.e p hp;rw [hvo] at hvo2;cases hvo2
     have:=hel2 0 (.int .i64 y.D[p].s) rfl
     simp only [Mm.ms,List.getElem_map];exact this
    generalize y.D[i]=v at hel hxv hLi HVS HVN;have HEL:=aa hel;have HXV:=aa hxv;have hca:ab [] wr (wr.alloc (.cells #[.int .i64 0,.int .i64 0,.int .i64 0,.string ⟨#[]⟩,.int .i64 0,.int .i64 0,.int .i64 0,.string ⟨#[]⟩,.slice none 0 0,.string ⟨#[]⟩,.int .i64 0,.int .i64 0,.int .i64 0] 55)):=(ab.refl _ _).alloc _;have HCA:=aa hca;have HBa:Hid (Bx (wr.alloc (.cells #[.int .i64 0,.int .i64 0,.int .i64 0,.string ⟨#[]⟩,.int .i64 0,.int .i64 0,.int .i64 0,.string ⟨#[]⟩,.slice none 0 0,.string ⟨#[]⟩,.int .i64 0,.int .i64 0,.int .i64 0] 55)) wr.heap.size 55 (cq kX)):=Bx.new wr _ (cq kX);have HLa:Hid ((cq v).length=(cq kX).length):=rfl;have HOa:=aa (fY v);have HTV:Hid (aq Tryz.prog 55 (cq v).length):=eR;rw [hvo] at c17;clear hel hxv hLi hca hil2 hvo;go_upto_region 8 with (first | ((with_reducible refine bf HEL.out HTV.out ?_ ?_);rfl) | ((with_reducible refine ac HBa.out HLa.out HOa.out HTV.out ?_ ?_ ?_);rfl;rfl;intro w6 HB6 HK6))
    have hk6:ab [] wr w6:=(HCA.out.trans HK6.out (by intro i hi;simp at hi;exact .inr (by omega)));have HKv:=aa (HKi.out.trans hk6 (by simp));have HV6:Hid (Bx w6 wr.heap.size 55 (cq v)):=HB6;have HX6:=aa (HXV.out.kept hk6);have HP6:=aa (fun p hp=>hk6.cell (HPV.out p hp) (by simp));have c17:=hk6.cell c17 (by simp);clear hk6 HCA HBa HLa HOa HB6 HK6 HEL HXV HPV HYi HBi;by_cases hgs:ah v.s=true
    rotate_left
    ·have HC:Hid (cy (bQ y.ms)=1):=i6 HCO.out (fun h=>hgs (HVN.out h.2.2.2.2.2.2).1);rw [Bool.not_eq_true] at hgs;have HGS:Hid (ah v.s=false):=hgs;clear hgs;refine wp_region_held_drew (S:=fun w9=>Bx w9 wr.heap.size 55 (cq v)∧w9.cell? ⟨w.heap.size,17,none⟩=some (.slice (some ⟨b1,o1,none⟩) y.D.length y.vc)) (by kernel_rfl) ⟨HV6.out.kept (ab.refl [] _).drew (by simp),(ab.refl [] _).drew.cell c17 (by simp)⟩ (fun hHeld=>?_);refine ay [0] (by rfl) (by kernel_rfl) (fun _ _ _ _ _ h=>h) hHeld ?_
     iterate 1
      refine yk ?_ rfl (Or.inl ⟨by rfl,?_⟩) ?_;rotate_left
      ·intro w9 hSw;go_simp;(try with_reducible rfl)
      try simp only [sT,Act.put]
     refine ax ?_;simp only [ai,sT];refine ay [1] (by rfl) (by kernel_rfl) (fun _ _ _ _ _ h=>h) hHeld ?_
     iterate 1
      refine yk ?_ rfl (Or.inl ⟨by rfl,?_⟩) ?_;rotate_left
      ·intro w9 hSw;have pj:w9.cell? ⟨wr.heap.size,0,none⟩=some (.int .i64 v.s):=(hSw.1).cell 0 rfl;go_simp;(try with_reducible rfl)
      try simp only [sT,Act.put]
     refine ax ?_;simp only [ai,sT];refine cd 2 (by kernel_rfl) rfl (fun K0 hK0=>?_);go_simp;refine (aB _ v.s).mono ?_;rw [HGS.out];rintro _ W0 ⟨rfl,hW0⟩;obtain rfl:=hW0.symm;(go_wp2_with fail);refine hK0.out _ _ ⟨HV6.out.kept (ab.refl [] _).drew (by simp),(ab.refl [] _).drew.cell c17 (by simp)⟩ (fun hHeld=>?_);clear hK0 K0;(try simp only [sT,Act.put]);refine ay [3,4] (by rfl) (by kernel_rfl) (fun _ _ _ _ _ h=>h) hHeld ?_
     iterate 2
      refine yk ?_ rfl (Or.inl ⟨by rfl,?_⟩) ?_;rotate_left
      ·intro w9 hSw;go_simp;(try with_reducible rfl)
      try simp only [sT,Act.put]
     refine ax ?_;simp only [ai,sT];refine ay [5,6,7,8] (by rfl) (by kernel_rfl) (fun _ _ _ _ _ h=>h) hHeld ?_
     iterate 4
      refine yk undef rfl (Or.inr ⟨by rfl,rfl⟩) ?_;try simp only [sT,Act.put]
     refine ax ?_;simp only [ai,sT];refine ay [9,10] (by rfl) (by kernel_rfl) (fun _ _ _ _ _ h=>h) hHeld ?_
     iterate 2
      refine yk ?_ rfl (Or.inl ⟨by rfl,?_⟩) ?_;rotate_left
      ·intro w9 hSw;go_simp;(try with_reducible rfl)
      try simp only [sT,Act.put]
     refine ax ?_;simp only [ai,sT];refine ay [11,12,13,14] (by rfl) (by kernel_rfl) (fun _ _ _ _ _ h=>h) hHeld ?_
     iterate 4
      refine yk undef rfl (Or.inr ⟨by rfl,rfl⟩) ?_;try simp only [sT,Act.put]
     refine ax ?_;simp only [ai,sT];refine ay [15,16] (by rfl) (by kernel_rfl) (fun _ _ _ _ _ h=>h) hHeld ?_
     iterate 2
      refine yk ?_ rfl (Or.inl ⟨by rfl,?_⟩) ?_;rotate_left
      ·intro w9 hSw;go_simp;(try with_reducible rfl)
      try simp only [sT,Act.put]
     refine ax ?_;simp only [ai,sT];refine ay [17,18,19,20,21,22,23,24,25,26,27,28,29,30] (by rfl) (by kernel_rfl) (fun _ _ _ _ _ h=>h) hHeld ?_
     iterate 14
      refine yk undef rfl (Or.inr ⟨by rfl,rfl⟩) ?_;try simp only [sT,Act.put]
     refine ax ?_;simp only [ai,sT];refine ay [31] (by rfl) (by kernel_rfl) (fun _ _ _ _ _ h=>h) hHeld ?_
     iterate 1
      refine yk ?_ rfl (Or.inl ⟨by rfl,?_⟩) ?_;rotate_left
      ·intro w9 hSw;go_simp;(try with_reducible rfl)
      try simp only [sT,Act.put]
     refine ax ?_;simp only [ai,sT];(try simp only [sT,Act.put]);refine wpAnyH_done (by kernel_rfl) ?_ _;clear hHeld;(go_wp2_with fail);go_ret
     rw [HC.out];exact ⟨rfl,(HK.out.trans HKv.out (by simp)).drew⟩
    have HGS:=aa hgs;clear hgs;by_cases hgb:ah v.b=true
    rotate_left
    ·have HC:Hid (cy (bQ y.ms)=1):=i6 HCO.out (fun h=>hgb (HVN.out h.2.2.2.2.2.2).2.1);rw [Bool.not_eq_true] at hgb;have HGB:Hid (ah v.b=false):=hgb;clear hgb;refine wp_region_held_drew (S:=fun w9=>Bx w9 wr.heap.size 55 (cq v)∧w9.cell? ⟨w.heap.size,17,none⟩=some (.slice (some ⟨b1,o1,none⟩) y.D.length y.vc)) (by kernel_rfl) ⟨HV6.out.kept (ab.refl [] _).drew (by simp),(ab.refl [] _).drew.cell c17 (by simp)⟩ (fun hHeld=>?_);refine ay [0] (by rfl) (by kernel_rfl) (fun _ _ _ _ _ h=>h) hHeld ?_
     iterate 1
      refine yk ?_ rfl (Or.inl ⟨by rfl,?_⟩) ?_;rotate_left
      ·intro w9 hSw;go_simp;(try with_reducible rfl)
      try simp only [sT,Act.put]
     refine ax ?_;simp only [ai,sT];refine ay [1] (by rfl) (by kernel_rfl) (fun _ _ _ _ _ h=>h) hHeld ?_
     iterate 1
      refine yk ?_ rfl (Or.inl ⟨by rfl,?_⟩) ?_;rotate_left
      ·intro w9 hSw;have pj:w9.cell? ⟨wr.heap.size,0,none⟩=some (.int .i64 v.s):=(hSw.1).cell 0 rfl;go_simp;(try with_reducible rfl)
      try simp only [sT,Act.put]
     refine ax ?_;simp only [ai,sT];refine cd 2 (by kernel_rfl) rfl (fun K0 hK0=>?_);go_simp;refine (aB _ v.s).mono ?_;rw [HGS.out];rintro _ W0 ⟨rfl,hW0⟩;obtain rfl:=hW0.symm;(go_wp2_with fail);refine hK0.out _ _ ⟨HV6.out.kept (ab.refl [] _).drew (by simp),(ab.refl [] _).drew.cell c17 (by simp)⟩ (fun hHeld=>?_);clear hK0 K0;(try simp only [sT,Act.put]);refine ay [3,4,5] (by rfl) (by kernel_rfl) (fun _ _ _ _ _ h=>h) hHeld ?_
     iterate 3
      refine yk ?_ rfl (Or.inl ⟨by rfl,?_⟩) ?_;rotate_left
      ·intro w9 hSw;go_simp;(try with_reducible rfl)
      try simp only [sT,Act.put]
     refine ax ?_;simp only [ai,sT];refine ay [6] (by rfl) (by kernel_rfl) (fun _ _ _ _ _ h=>h) hHeld ?_
     iterate 1
      refine yk ?_ rfl (Or.inl ⟨by rfl,?_⟩) ?_;rotate_left
      ·intro w9 hSw;have pj:w9.cell? ⟨wr.heap.size,1,none⟩=some (.int .i64 v.b):=(hSw.1).cell 1 rfl;go_simp;(try with_reducible rfl)
      try simp only [sT,Act.put]
     refine ax ?_;simp only [ai,sT];refine cd 7 (by kernel_rfl) rfl (fun K0 hK0=>?_);go_simp;refine (aB _ v.b).mono ?_;rw [HGB.out];rintro _ W0 ⟨rfl,hW0⟩;obtain rfl:=hW0.symm;(go_wp2_with fail);refine hK0.out _ _ ⟨HV6.out.kept (ab.refl [] _).drew (by simp),(ab.refl [] _).drew.cell c17 (by simp)⟩ (fun hHeld=>?_);clear hK0 K0;(try simp only [sT,Act.put]);refine ay [8,9,10] (by rfl) (by kernel_rfl) (fun _ _ _ _ _ h=>h) hHeld ?_
     iterate 3
      refine yk ?_ rfl (Or.inl ⟨by rfl,?_⟩) ?_;rotate_left
      ·intro w9 hSw;go_simp;(try with_reducible rfl)
      try simp only [sT,Act.put]
     refine ax ?_;simp only [ai,sT];refine ay [11,12,13,14] (by rfl) (by kernel_rfl) (fun _ _ _ _ _ h=>h) hHeld ?_
     iterate 4
      refine yk undef rfl (Or.inr ⟨by rfl,rfl⟩) ?_;try simp only [sT,Act.put]
     refine ax ?_;simp only [ai,sT];refine ay [15,16] (by rfl) (by kernel_rfl) (fun _ _ _ _ _ h=>h) hHeld ?_
     iterate 2
      refine yk ?_ rfl (Or.inl ⟨by rfl,?_⟩) ?_;rotate_left
      ·intro w9 hSw;go_simp;(try with_reducible rfl)
      try simp only [sT,Act.put]
     refine ax ?_;simp only [ai,sT];refine ay [17,18,19,20,21,22,23,24,25,26,27,28,29,30] (by rfl) (by kernel_rfl) (fun _ _ _ _ _ h=>h) hHeld ?_
     iterate 14
      refine yk undef rfl (Or.inr ⟨by rfl,rfl⟩) ?_;try simp only [sT,Act.put]
     refine ax ?_;simp only [ai,sT];refine ay [31] (by rfl) (by kernel_rfl) (fun _ _ _ _ _ h=>h) hHeld ?_
     iterate 1
      refine yk ?_ rfl (Or.inl ⟨by rfl,?_⟩) ?_;rotate_left
      ·intro w9 hSw;go_simp;(try with_reducible rfl)
      try simp only [sT,Act.put]
     refine ax ?_;simp only [ai,sT];(try simp only [sT,Act.put]);refine wpAnyH_done (by kernel_rfl) ?_ _;clear hHeld;(go_wp2_with fail);go_ret
     rw [HC.out];exact ⟨rfl,(HK.out.trans HKv.out (by simp)).drew⟩
    have HGB:=aa hgb;clear hgb;by_cases hcv:dj v.x.r=true
    rotate_left
    ·have HC:Hid (cy (bQ y.ms)=1):=i6 HCO.out (fun h=>hcv (HVN.out h.2.2.2.2.2.2).2.2.1);rw [Bool.not_eq_true] at hcv;have HCV:Hid (dj v.x.r=false):=hcv;clear hcv;refine wp_region_held_drew (S:=fun w9=>Bx w9 wr.heap.size 55 (cq v)∧w9.cell? ⟨w.heap.size,17,none⟩=some (.slice (some ⟨b1,o1,none⟩) y.D.length y.vc)) (by kernel_rfl) ⟨HV6.out.kept (ab.refl [] _).drew (by simp),(ab.refl [] _).drew.cell c17 (by simp)⟩ (fun hHeld=>?_);refine ay [0] (by rfl) (by kernel_rfl) (fun _ _ _ _ _ h=>h) hHeld ?_
     iterate 1
      refine yk ?_ rfl (Or.inl ⟨by rfl,?_⟩) ?_;rotate_left
      ·intro w9 hSw;go_simp;(try with_reducible rfl)
      try simp only [sT,Act.put]
     refine ax ?_;simp only [ai,sT];refine ay [1] (by rfl) (by kernel_rfl) (fun _ _ _ _ _ h=>h) hHeld ?_
     iterate 1
      refine yk ?_ rfl (Or.inl ⟨by rfl,?_⟩) ?_;rotate_left
      ·intro w9 hSw;have pj:w9.cell? ⟨wr.heap.size,0,none⟩=some (.int .i64 v.s):=(hSw.1).cell 0 rfl;go_simp;(try with_reducible rfl)
      try simp only [sT,Act.put]
     refine ax ?_;simp only [ai,sT];refine cd 2 (by kernel_rfl) rfl (fun K0 hK0=>?_);go_simp;refine (aB _ v.s).mono ?_;rw [HGS.out];rintro _ W0 ⟨rfl,hW0⟩;obtain rfl:=hW0.symm;(go_wp2_with fail);refine hK0.out _ _ ⟨HV6.out.kept (ab.refl [] _).drew (by simp),(ab.refl [] _).drew.cell c17 (by simp)⟩ (fun hHeld=>?_);clear hK0 K0;(try simp only [sT,Act.put]);refine ay [3,4,5] (by rfl) (by kernel_rfl) (fun _ _ _ _ _ h=>h) hHeld ?_
     iterate 3
      refine yk ?_ rfl (Or.inl ⟨by rfl,?_⟩) ?_;rotate_left
      ·intro w9 hSw;go_simp;(try with_reducible rfl)
      try simp only [sT,Act.put]
     refine ax ?_;simp only [ai,sT];refine ay [6] (by rfl) (by kernel_rfl) (fun _ _ _ _ _ h=>h) hHeld ?_
     iterate 1
      refine yk ?_ rfl (Or.inl ⟨by rfl,?_⟩) ?_;rotate_left
      ·intro w9 hSw;have pj:w9.cell? ⟨wr.heap.size,1,none⟩=some (.int .i64 v.b):=(hSw.1).cell 1 rfl;go_simp;(try with_reducible rfl)
      try simp only [sT,Act.put]
     refine ax ?_;simp only [ai,sT];refine cd 7 (by kernel_rfl) rfl (fun K0 hK0=>?_);go_simp;refine (aB _ v.b).mono ?_;rw [HGB.out];rintro _ W0 ⟨rfl,hW0⟩;obtain rfl:=hW0.symm;(go_wp2_with fail);refine hK0.out _ _ ⟨HV6.out.kept (ab.refl [] _).drew (by simp),(ab.refl [] _).drew.cell c17 (by simp)⟩ (fun hHeld=>?_);clear hK0 K0;(try simp only [sT,Act.put]);refine ay [8,9,10,11] (by rfl) (by kernel_rfl) (fun _ _ _ _ _ h=>h) hHeld ?_
     iterate 4
      refine yk ?_ rfl (Or.inl ⟨by rfl,?_⟩) ?_;rotate_left
      ·intro w9 hSw;go_simp;(try with_reducible rfl)
      try simp only [sT,Act.put]
     refine ax ?_;simp only [ai,sT];refine wpAnyH_take (i:=12) (v:=.agg (bp v.x).toArray) rfl (by kernel_rfl) (by kernel_rfl) (by kernel_rfl) (fun _ _ _ h=>h) (yieldsIf_load_mid (by rfl) _ _ rfl wr.heap.size 2 rfl (bp v.x) _ (fun w9 hSw=>hSw.1.vox) Tryz.underlying29 rfl cm) hHeld ?_;(try simp only [sT,Act.put]);refine cd 13 (by kernel_rfl) rfl (fun K0 hK0=>?_);go_simp;have cC:Calls Tryz.prog 39 #[.agg (bp v.x).toArray] w6.drew fun e w'=>e=.returned (.int .i64 (cy (dj v.x.r)))∧ab [] w6.drew w':=fc w6.drew v.x (HX6.out.kept (ab.refl [] _).drew).s;rw [HCV.out] at cC;refine cC.mono ?_;clear cC;rintro _ w7 ⟨rfl,hk7⟩;have HK7:=aa ((ab.refl [] w6).drew.trans hk7 (by simp));clear hk7;(go_wp2_with fail);refine hK0.out _ _ ⟨HV6.out.kept HK7.out (by simp),HK7.out.cell c17 (by simp)⟩ (fun hHeld=>?_);clear hK0 K0;(try simp only [sT,Act.put]);refine ay [14,15,16] (by rfl) (by kernel_rfl) (fun _ _ _ _ _ h=>h) hHeld ?_
     iterate 3
      refine yk ?_ rfl (Or.inl ⟨by rfl,?_⟩) ?_;rotate_left
      ·intro w9 hSw;go_simp;(try with_reducible rfl)
      try simp only [sT,Act.put]
     refine ax ?_;simp only [ai,sT];refine ay [17,18,19,20,21,22,23,24,25,26,27,28,29,30] (by rfl) (by kernel_rfl) (fun _ _ _ _ _ h=>h) hHeld ?_
     iterate 14
      refine yk undef rfl (Or.inr ⟨by rfl,rfl⟩) ?_;try simp only [sT,Act.put]
     refine ax ?_;simp only [ai,sT];refine ay [31] (by rfl) (by kernel_rfl) (fun _ _ _ _ _ h=>h) hHeld ?_
     iterate 1
      refine yk ?_ rfl (Or.inl ⟨by rfl,?_⟩) ?_;rotate_left
      ·intro w9 hSw;go_simp;(try with_reducible rfl)
      try simp only [sT,Act.put]
     refine ax ?_;simp only [ai,sT];(try simp only [sT,Act.put]);refine wpAnyH_done (by kernel_rfl) ?_ _;clear hHeld;(go_wp2_with fail);go_ret
     rw [HC.out];exact ⟨rfl,(HK.out.trans HKv.out (by simp)).trans HK7.out (by simp)⟩
    have HCV:=aa hcv;clear hcv;by_cases hz:i=0
    ·have HJ2:Hid (vl y.ms.l (i+1)):=HVS.out HGS.out HGB.out HCV.out (fun p hp e=>by omega);have hz':decide ((0:Int) < (i:Int))=false:=by simp [hz]
     have hz2:decide (0 < i)=false:=by simp [hz]
     have hz3:¬ 0 < i:=by omega
     clear hz;refine wp_region_held_drew (S:=fun w9=>Bx w9 wr.heap.size 55 (cq v)∧w9.cell? ⟨w.heap.size,17,none⟩=some (.slice (some ⟨b1,o1,none⟩) y.D.length y.vc)) (by kernel_rfl) ⟨HV6.out.kept (ab.refl [] _).drew (by simp),(ab.refl [] _).drew.cell c17 (by simp)⟩ (fun hHeld=>?_);refine ay [0] (by rfl) (by kernel_rfl) (fun _ _ _ _ _ h=>h) hHeld ?_
     iterate 1
      refine yk ?_ rfl (Or.inl ⟨by rfl,?_⟩) ?_;rotate_left
      ·intro w9 hSw;go_simp;(try with_reducible rfl)
      try simp only [sT,Act.put]
     refine ax ?_;simp only [ai,sT];refine ay [1] (by rfl) (by kernel_rfl) (fun _ _ _ _ _ h=>h) hHeld ?_
     iterate 1
      refine yk ?_ rfl (Or.inl ⟨by rfl,?_⟩) ?_;rotate_left
      ·intro w9 hSw;have pj:w9.cell? ⟨wr.heap.size,0,none⟩=some (.int .i64 v.s):=(hSw.1).cell 0 rfl;go_simp;(try with_reducible rfl)
      try simp only [sT,Act.put]
     refine ax ?_;simp only [ai,sT];refine cd 2 (by kernel_rfl) rfl (fun K0 hK0=>?_);go_simp;refine (aB _ v.s).mono ?_;rw [HGS.out];rintro _ W0 ⟨rfl,hW0⟩;obtain rfl:=hW0.symm;(go_wp2_with fail);refine hK0.out _ _ ⟨HV6.out.kept (ab.refl [] _).drew (by simp),(ab.refl [] _).drew.cell c17 (by simp)⟩ (fun hHeld=>?_);clear hK0 K0;(try simp only [sT,Act.put]);refine ay [3,4,5] (by rfl) (by kernel_rfl) (fun _ _ _ _ _ h=>h) hHeld ?_
     iterate 3
      refine yk ?_ rfl (Or.inl ⟨by rfl,?_⟩) ?_;rotate_left
      ·intro w9 hSw;go_simp;(try with_reducible rfl)
      try simp only [sT,Act.put]
     refine ax ?_;simp only [ai,sT];refine ay [6] (by rfl) (by kernel_rfl) (fun _ _ _ _ _ h=>h) hHeld ?_
     iterate 1
      refine yk ?_ rfl (Or.inl ⟨by rfl,?_⟩) ?_;rotate_left
      ·intro w9 hSw;have pj:w9.cell? ⟨wr.heap.size,1,none⟩=some (.int .i64 v.b):=(hSw.1).cell 1 rfl;go_simp;(try with_reducible rfl)
      try simp only [sT,Act.put]
     refine ax ?_;simp only [ai,sT];refine cd 7 (by kernel_rfl) rfl (fun K0 hK0=>?_);go_simp;refine (aB _ v.b).mono ?_;rw [HGB.out];rintro _ W0 ⟨rfl,hW0⟩;obtain rfl:=hW0.symm;(go_wp2_with fail);refine hK0.out _ _ ⟨HV6.out.kept (ab.refl [] _).drew (by simp),(ab.refl [] _).drew.cell c17 (by simp)⟩ (fun hHeld=>?_);clear hK0 K0;(try simp only [sT,Act.put]);refine ay [8,9,10,11] (by rfl) (by kernel_rfl) (fun _ _ _ _ _ h=>h) hHeld ?_
     iterate 4
      refine yk ?_ rfl (Or.inl ⟨by rfl,?_⟩) ?_;rotate_left
      ·intro w9 hSw;go_simp;(try with_reducible rfl)
      try simp only [sT,Act.put]
     refine ax ?_;simp only [ai,sT];refine wpAnyH_take (i:=12) (v:=.agg (bp v.x).toArray) rfl (by kernel_rfl) (by kernel_rfl) (by kernel_rfl) (fun _ _ _ h=>h) (yieldsIf_load_mid (by rfl) _ _ rfl wr.heap.size 2 rfl (bp v.x) _ (fun w9 hSw=>hSw.1.vox) Tryz.underlying29 rfl cm) hHeld ?_;(try simp only [sT,Act.put]);refine cd 13 (by kernel_rfl) rfl (fun K0 hK0=>?_);go_simp;have cC:Calls Tryz.prog 39 #[.agg (bp v.x).toArray] w6.drew fun e w'=>e=.returned (.int .i64 (cy (dj v.x.r)))∧ab [] w6.drew w':=fc w6.drew v.x (HX6.out.kept (ab.refl [] _).drew).s;rw [HCV.out] at cC;refine cC.mono ?_;clear cC;rintro _ w7 ⟨rfl,hk7⟩;have HK7:=aa ((ab.refl [] w6).drew.trans hk7 (by simp));clear hk7;(go_wp2_with fail);refine hK0.out _ _ ⟨HV6.out.kept HK7.out (by simp),HK7.out.cell c17 (by simp)⟩ (fun hHeld=>?_);clear hK0 K0;(try simp only [sT,Act.put]);refine ay [14,15,16,17,18,19] (by rfl) (by kernel_rfl) (fun _ _ _ _ _ h=>h) hHeld ?_
     iterate 6
      refine yk ?_ rfl (Or.inl ⟨by rfl,?_⟩) ?_;rotate_left
      ·intro w9 hSw;go_simp;(try with_reducible rfl)
      try simp only [sT,Act.put]
     refine ax ?_;simp only [ai,sT];refine ay [20,21,22,23,24,25,26,27,28,29] (by rfl) (by kernel_rfl) (fun _ _ _ _ _ h=>h) hHeld ?_
     iterate 10
      refine yk undef rfl (Or.inr ⟨by rfl,rfl⟩) ?_;try simp only [sT,Act.put]
     refine ax ?_;simp only [ai,sT];refine ay [30,31] (by rfl) (by kernel_rfl) (fun _ _ _ _ _ h=>h) hHeld ?_
     iterate 2
      refine yk ?_ rfl (Or.inl ⟨by rfl,?_⟩) ?_;rotate_left
      ·intro w9 hSw;go_simp;(try with_reducible rfl)
      try simp only [sT,Act.put]
     refine ax ?_;simp only [ai,sT];(try simp only [sT,Act.put]);refine wpAnyH_done (by kernel_rfl) ?_ _;clear hHeld;(go_wp2_with fail);go_roundw
     case rel=>(repeat apply Exists.intro);exact ⟨⟨i+1,by go_num,by omega,HKv.out.trans HK7.out (by simp),HJ2⟩,rfl⟩
     case measure=>simp [intOf];omega
    ·obtain ⟨p,rfl⟩:∃ p,i=p+1:=⟨i - 1,by omega⟩;have hp:p < y.D.length:=by omega
     have hpl:p < y.ms.l.length:=by rw [HDN.out];exact hp
     have cp:=HP6.out p hp;have HRN:Hid (bQ y.ms=true→y.ms.l[p].s < v.s):=fun h=>(HVN.out (HCO.out.1 h).2.2.2.2.2.2).2.2.2 p hpl rfl;have HRS:Hid (y.ms.l[p].s < v.s→vl y.ms.l (p+1+1)):=fun h=>HVS.out HGS.out HGB.out HCV.out (fun q hq e=>by cases Nat.succ.inj e;exact h);generalize y.ms.l[p].s=sp at cp HRN HRS;have hwp:IntKind.i64.wrap (p:Int)=p:=IntWalk.i64_in _ (by omega);have hplt:(p:Int) < y.D.length:=by omega
     clear hpl hz;by_cases hri:sp < v.s
     rotate_left
     ·have HC:Hid (cy (bQ y.ms)=1):=by
       show cy (bQ y.ms)=1;have:bQ y.ms=false:=by rw [Bool.eq_false_iff];exact fun h=>hri (HRN.out h)
       rw [this];rfl
      have hri':v.s≤sp:=by omega
      clear hri;refine wp_region_held_drew (S:=fun w9=>Bx w9 wr.heap.size 55 (cq v)∧w9.cell? ⟨w.heap.size,17,none⟩=some (.slice (some ⟨b1,o1,none⟩) y.D.length y.vc)∧w9.cell? ⟨b1,o1+p*13,none⟩=some (.int .i64 sp)) (by kernel_rfl) ⟨HV6.out.kept (ab.refl [] _).drew (by simp),(ab.refl [] _).drew.cell c17 (by simp),(ab.refl [] _).drew.cell cp (by simp)⟩ (fun hHeld=>?_);refine ay [0] (by rfl) (by kernel_rfl) (fun _ _ _ _ _ h=>h) hHeld ?_
      iterate 1
       refine yk ?_ rfl (Or.inl ⟨by rfl,?_⟩) ?_;rotate_left
       ·intro w9 hSw;go_simp;(try with_reducible rfl)
       try simp only [sT,Act.put]
      refine ax ?_;simp only [ai,sT];refine ay [1] (by rfl) (by kernel_rfl) (fun _ _ _ _ _ h=>h) hHeld ?_
      iterate 1
       refine yk ?_ rfl (Or.inl ⟨by rfl,?_⟩) ?_;rotate_left
       ·intro w9 hSw;have pj:w9.cell? ⟨wr.heap.size,0,none⟩=some (.int .i64 v.s):=(hSw.1).cell 0 rfl;go_simp;(try with_reducible rfl)
       try simp only [sT,Act.put]
      refine ax ?_;simp only [ai,sT];refine cd 2 (by kernel_rfl) rfl (fun K0 hK0=>?_);go_simp;refine (aB _ v.s).mono ?_;rw [HGS.out];rintro _ W0 ⟨rfl,hW0⟩;obtain rfl:=hW0.symm;(go_wp2_with fail);refine hK0.out _ _ ⟨HV6.out.kept (ab.refl [] _).drew (by simp),(ab.refl [] _).drew.cell c17 (by simp),(ab.refl [] _).drew.cell cp (by simp)⟩ (fun hHeld=>?_);clear hK0 K0;(try simp only [sT,Act.put]);refine ay [3,4,5] (by rfl) (by kernel_rfl) (fun _ _ _ _ _ h=>h) hHeld ?_
      iterate 3
       refine yk ?_ rfl (Or.inl ⟨by rfl,?_⟩) ?_;rotate_left
       ·intro w9 hSw;go_simp;(try with_reducible rfl)
       try simp only [sT,Act.put]
      refine ax ?_;simp only [ai,sT];refine ay [6] (by rfl) (by kernel_rfl) (fun _ _ _ _ _ h=>h) hHeld ?_
      iterate 1
       refine yk ?_ rfl (Or.inl ⟨by rfl,?_⟩) ?_;rotate_left
       ·intro w9 hSw;have pj:w9.cell? ⟨wr.heap.size,1,none⟩=some (.int .i64 v.b):=(hSw.1).cell 1 rfl;go_simp;(try with_reducible rfl)
       try simp only [sT,Act.put]
      refine ax ?_;simp only [ai,sT];refine cd 7 (by kernel_rfl) rfl (fun K0 hK0=>?_);go_simp;refine (aB _ v.b).mono ?_;rw [HGB.out];rintro _ W0 ⟨rfl,hW0⟩;obtain rfl:=hW0.symm;(go_wp2_with fail);refine hK0.out _ _ ⟨HV6.out.kept (ab.refl [] _).drew (by simp),(ab.refl [] _).drew.cell c17 (by simp),(ab.refl [] _).drew.cell cp (by simp)⟩ (fun hHeld=>?_);clear hK0 K0;(try simp only [sT,Act.put]);refine ay [8,9,10,11] (by rfl) (by kernel_rfl) (fun _ _ _ _ _ h=>h) hHeld ?_
      iterate 4
       refine yk ?_ rfl (Or.inl ⟨by rfl,?_⟩) ?_;rotate_left
       ·intro w9 hSw;go_simp;(try with_reducible rfl)
       try simp only [sT,Act.put]
      refine ax ?_;simp only [ai,sT];refine wpAnyH_take (i:=12) (v:=.agg (bp v.x).toArray) rfl (by kernel_rfl) (by kernel_rfl) (by kernel_rfl) (fun _ _ _ h=>h) (yieldsIf_load_mid (by rfl) _ _ rfl wr.heap.size 2 rfl (bp v.x) _ (fun w9 hSw=>hSw.1.vox) Tryz.underlying29 rfl cm) hHeld ?_;(try simp only [sT,Act.put]);refine cd 13 (by kernel_rfl) rfl (fun K0 hK0=>?_);go_simp;have cC:Calls Tryz.prog 39 #[.agg (bp v.x).toArray] w6.drew fun e w'=>e=.returned (.int .i64 (cy (dj v.x.r)))∧ab [] w6.drew w':=fc w6.drew v.x (HX6.out.kept (ab.refl [] _).drew).s;rw [HCV.out] at cC;refine cC.mono ?_;clear cC;rintro _ w7 ⟨rfl,hk7⟩;have HK7:=aa ((ab.refl [] w6).drew.trans hk7 (by simp));clear hk7;(go_wp2_with fail);refine hK0.out _ _ ⟨HV6.out.kept HK7.out (by simp),HK7.out.cell c17 (by simp),HK7.out.cell cp (by simp)⟩ (fun hHeld=>?_);clear hK0 K0;(try simp only [sT,Act.put]);refine ay [14,15,16,17,18,19,20] (by rfl) (by kernel_rfl) (fun _ _ _ _ _ h=>h) hHeld ?_
      iterate 7
       refine yk ?_ rfl (Or.inl ⟨by rfl,?_⟩) ?_;rotate_left
       ·intro w9 hSw;go_simp;(try with_reducible rfl)
       try simp only [sT,Act.put]
      refine ax ?_;simp only [ai,sT];refine ay [21] (by rfl) (by kernel_rfl) (fun _ _ _ _ _ h=>h) hHeld ?_
      iterate 1
       refine yk ?_ rfl (Or.inl ⟨by rfl,?_⟩) ?_;rotate_left
       ·intro w9 hSw;have pj:w9.cell? ⟨wr.heap.size,0,none⟩=some (.int .i64 v.s):=(hSw.1).cell 0 rfl;go_simp;(try with_reducible rfl)
       try simp only [sT,Act.put]
      refine ax ?_;simp only [ai,sT];refine ay [22] (by rfl) (by kernel_rfl) (fun _ _ _ _ _ h=>h) hHeld ?_
      iterate 1
       refine yk ?_ rfl (Or.inl ⟨by rfl,?_⟩) ?_;rotate_left
       ·intro w9 hSw;go_simp;(try with_reducible rfl)
       try simp only [sT,Act.put]
      refine ax ?_;simp only [ai,sT];refine ay [23] (by rfl) (by kernel_rfl) (fun _ _ _ _ _ h=>h) hHeld ?_
      iterate 1
       refine yk ?_ rfl (Or.inl ⟨by rfl,?_⟩) ?_;rotate_left
       ·intro w9 hSw;have pj:=hSw.2.1;go_simp;(try with_reducible rfl)
       try simp only [sT,Act.put]
      refine ax ?_;simp only [ai,sT];refine ay [24,25,26,27] (by rfl) (by kernel_rfl) (fun _ _ _ _ _ h=>h) hHeld ?_
      iterate 4
       refine yk ?_ rfl (Or.inl ⟨by rfl,?_⟩) ?_;rotate_left
       ·intro w9 hSw;go_simp;(try with_reducible rfl)
       try simp only [sT,Act.put]
      refine ax ?_;simp only [ai,sT];refine ay [28] (by rfl) (by kernel_rfl) (fun _ _ _ _ _ h=>h) hHeld ?_
      iterate 1
       refine yk ?_ rfl (Or.inl ⟨by rfl,?_⟩) ?_;rotate_left
       ·intro w9 hSw;have pj:=hSw.2.2;go_simp;(try with_reducible rfl)
       try simp only [sT,Act.put]
      refine ax ?_;simp only [ai,sT];refine ay [29,30,31] (by rfl) (by kernel_rfl) (fun _ _ _ _ _ h=>h) hHeld ?_
      iterate 3
       refine yk ?_ rfl (Or.inl ⟨by rfl,?_⟩) ?_;rotate_left
       ·intro w9 hSw;go_simp;(try with_reducible rfl)
       try simp only [sT,Act.put]
      refine ax ?_;simp only [ai,sT];(try simp only [sT,Act.put]);refine wpAnyH_done (by kernel_rfl) ?_ _;clear hHeld;(go_wp2_with fail);go_ret
      rw [HC.out];exact ⟨rfl,(HK.out.trans HKv.out (by simp)).trans HK7.out (by simp)⟩
     have HJ2:=aa (HRS.out hri);have hri':¬ v.s≤sp:=by omega
     clear hri;refine wp_region_held_drew (S:=fun w9=>Bx w9 wr.heap.size 55 (cq v)∧w9.cell? ⟨w.heap.size,17,none⟩=some (.slice (some ⟨b1,o1,none⟩) y.D.length y.vc)∧w9.cell? ⟨b1,o1+p*13,none⟩=some (.int .i64 sp)) (by kernel_rfl) ⟨HV6.out.kept (ab.refl [] _).drew (by simp),(ab.refl [] _).drew.cell c17 (by simp),(ab.refl [] _).drew.cell cp (by simp)⟩ (fun hHeld=>?_);refine ay [0] (by rfl) (by kernel_rfl) (fun _ _ _ _ _ h=>h) hHeld ?_
     iterate 1
      refine yk ?_ rfl (Or.inl ⟨by rfl,?_⟩) ?_;rotate_left
      ·intro w9 hSw;go_simp;(try with_reducible rfl)
      try simp only [sT,Act.put]
     refine ax ?_;simp only [ai,sT];refine ay [1] (by rfl) (by kernel_rfl) (fun _ _ _ _ _ h=>h) hHeld ?_
     iterate 1
      refine yk ?_ rfl (Or.inl ⟨by rfl,?_⟩) ?_;rotate_left
      ·intro w9 hSw;have pj:w9.cell? ⟨wr.heap.size,0,none⟩=some (.int .i64 v.s):=(hSw.1).cell 0 rfl;go_simp;(try with_reducible rfl)
      try simp only [sT,Act.put]
     refine ax ?_;simp only [ai,sT];refine cd 2 (by kernel_rfl) rfl (fun K0 hK0=>?_);go_simp;refine (aB _ v.s).mono ?_;rw [HGS.out];rintro _ W0 ⟨rfl,hW0⟩;obtain rfl:=hW0.symm;(go_wp2_with fail);refine hK0.out _ _ ⟨HV6.out.kept (ab.refl [] _).drew (by simp),(ab.refl [] _).drew.cell c17 (by simp),(ab.refl [] _).drew.cell cp (by simp)⟩ (fun hHeld=>?_);clear hK0 K0;(try simp only [sT,Act.put]);refine ay [3,4,5] (by rfl) (by kernel_rfl) (fun _ _ _ _ _ h=>h) hHeld ?_
     iterate 3
      refine yk ?_ rfl (Or.inl ⟨by rfl,?_⟩) ?_;rotate_left
      ·intro w9 hSw;go_simp;(try with_reducible rfl)
      try simp only [sT,Act.put]
     refine ax ?_;simp only [ai,sT];refine ay [6] (by rfl) (by kernel_rfl) (fun _ _ _ _ _ h=>h) hHeld ?_
     iterate 1
      refine yk ?_ rfl (Or.inl ⟨by rfl,?_⟩) ?_;rotate_left
      ·intro w9 hSw;have pj:w9.cell? ⟨wr.heap.size,1,none⟩=some (.int .i64 v.b):=(hSw.1).cell 1 rfl;go_simp;(try with_reducible rfl)
      try simp only [sT,Act.put]
     refine ax ?_;simp only [ai,sT];refine cd 7 (by kernel_rfl) rfl (fun K0 hK0=>?_);go_simp;refine (aB _ v.b).mono ?_;rw [HGB.out];rintro _ W0 ⟨rfl,hW0⟩;obtain rfl:=hW0.symm;(go_wp2_with fail);refine hK0.out _ _ ⟨HV6.out.kept (ab.refl [] _).drew (by simp),(ab.refl [] _).drew.cell c17 (by simp),(ab.refl [] _).drew.cell cp (by simp)⟩ (fun hHeld=>?_);clear hK0 K0;(try simp only [sT,Act.put]);refine ay [8,9,10,11] (by rfl) (by kernel_rfl) (fun _ _ _ _ _ h=>h) hHeld ?_
     iterate 4
      refine yk ?_ rfl (Or.inl ⟨by rfl,?_⟩) ?_;rotate_left
      ·intro w9 hSw;go_simp;(try with_reducible rfl)
      try simp only [sT,Act.put]
     refine ax ?_;simp only [ai,sT];refine wpAnyH_take (i:=12) (v:=.agg (bp v.x).toArray) rfl (by kernel_rfl) (by kernel_rfl) (by kernel_rfl) (fun _ _ _ h=>h) (yieldsIf_load_mid (by rfl) _ _ rfl wr.heap.size 2 rfl (bp v.x) _ (fun w9 hSw=>hSw.1.vox) Tryz.underlying29 rfl cm) hHeld ?_;(try simp only [sT,Act.put]);refine cd 13 (by kernel_rfl) rfl (fun K0 hK0=>?_);go_simp;have cC:Calls Tryz.prog 39 #[.agg (bp v.x).toArray] w6.drew fun e w'=>e=.returned (.int .i64 (cy (dj v.x.r)))∧ab [] w6.drew w':=fc w6.drew v.x (HX6.out.kept (ab.refl [] _).drew).s;rw [HCV.out] at cC;refine cC.mono ?_;clear cC;rintro _ w7 ⟨rfl,hk7⟩;have HK7:=aa ((ab.refl [] w6).drew.trans hk7 (by simp));clear hk7;(go_wp2_with fail);refine hK0.out _ _ ⟨HV6.out.kept HK7.out (by simp),HK7.out.cell c17 (by simp),HK7.out.cell cp (by simp)⟩ (fun hHeld=>?_);clear hK0 K0;(try simp only [sT,Act.put]);refine ay [14,15,16,17,18,19,20] (by rfl) (by kernel_rfl) (fun _ _ _ _ _ h=>h) hHeld ?_
     iterate 7
      refine yk ?_ rfl (Or.inl ⟨by rfl,?_⟩) ?_;rotate_left
      ·intro w9 hSw;go_simp;(try with_reducible rfl)
      try simp only [sT,Act.put]
     refine ax ?_;simp only [ai,sT];refine ay [21] (by rfl) (by kernel_rfl) (fun _ _ _ _ _ h=>h) hHeld ?_
     iterate 1
      refine yk ?_ rfl (Or.inl ⟨by rfl,?_⟩) ?_;rotate_left
      ·intro w9 hSw;have pj:w9.cell? ⟨wr.heap.size,0,none⟩=some (.int .i64 v.s):=(hSw.1).cell 0 rfl;go_simp;(try with_reducible rfl)
      try simp only [sT,Act.put]
     refine ax ?_;simp only [ai,sT];refine ay [22] (by rfl) (by kernel_rfl) (fun _ _ _ _ _ h=>h) hHeld ?_
     iterate 1
      refine yk ?_ rfl (Or.inl ⟨by rfl,?_⟩) ?_;rotate_left
      ·intro w9 hSw;go_simp;(try with_reducible rfl)
      try simp only [sT,Act.put]
     refine ax ?_;simp only [ai,sT];refine ay [23] (by rfl) (by kernel_rfl) (fun _ _ _ _ _ h=>h) hHeld ?_
     iterate 1
      refine yk ?_ rfl (Or.inl ⟨by rfl,?_⟩) ?_;rotate_left
      ·intro w9 hSw;have pj:=hSw.2.1;go_simp;(try with_reducible rfl)
      try simp only [sT,Act.put]
     refine ax ?_;simp only [ai,sT];refine ay [24,25,26,27] (by rfl) (by kernel_rfl) (fun _ _ _ _ _ h=>h) hHeld ?_
     iterate 4
      refine yk ?_ rfl (Or.inl ⟨by rfl,?_⟩) ?_;rotate_left
      ·intro w9 hSw;go_simp;(try with_reducible rfl)
      try simp only [sT,Act.put]
     refine ax ?_;simp only [ai,sT];refine ay [28] (by rfl) (by kernel_rfl) (fun _ _ _ _ _ h=>h) hHeld ?_
     iterate 1
      refine yk ?_ rfl (Or.inl ⟨by rfl,?_⟩) ?_;rotate_left
      ·intro w9 hSw;have pj:=hSw.2.2;go_simp;(try with_reducible rfl)
      try simp only [sT,Act.put]
     refine ax ?_;simp only [ai,sT];refine ay [29,30,31] (by rfl) (by kernel_rfl) (fun _ _ _ _ _ h=>h) hHeld ?_
     iterate 3
      refine yk ?_ rfl (Or.inl ⟨by rfl,?_⟩) ?_;rotate_left
      ·intro w9 hSw;go_simp;(try with_reducible rfl)
      try simp only [sT,Act.put]
     refine ax ?_;simp only [ai,sT];(try simp only [sT,Act.put]);refine wpAnyH_done (by kernel_rfl) ?_ _;clear hHeld;(go_wp2_with fail);go_roundw
     case rel=>(repeat apply Exists.intro);exact ⟨⟨p+1+1,by go_num,by omega,HKv.out.trans HK7.out (by simp),HJ2⟩,rfl⟩
     case measure=>simp [intOf];omega
   ·have hlt':¬ (i:Int) < y.D.length:=by omega
    have HC:Hid (cy (bQ y.ms)=0):=vu HCO.out ⟨HNUM.out,HLI.out.1,HLI.out.2,HOWP.out,HCV.out,HMV.out,by have:=HJi.out;have h2:=HDN.out;rw [show i=y.ms.l.length by omega] at this;exact this⟩;(go_wp2_with fail);go_ret
    rw [HC.out];exact ⟨rfl,HK.out.trans HKi.out (by simp)⟩
end Go.Proofs.YtakafmejllilnaaGreat
