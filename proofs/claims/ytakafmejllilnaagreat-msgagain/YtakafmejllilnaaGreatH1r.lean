/-
  Texts laid as one.
-/
import Derived.Test.YtakafmejllilnaaGreatMgEyer
import Derived.Test.YtakafmejllilnaaGreatMgSvr
import Derived.Test.YtakafmejllilnaaGreatW0r
import Derived.Laws.AppendOwn
set_option maxHeartbeats 8000000
set_option maxRecDepth 1000000
set_option linter.unusedSimpArgs false
/-
 The eye: a vote.
-/
namespace Go.Proofs.YtakafmejllilnaaGreat
open Go.RowKit
def xX (p:Nat) (F:List Nat) (w:World) (s:List Int × Int) (e:Ending) (w':World):Prop :=
 ∃ z:Vm,e=.returned (.agg (cq z).toArray)∧aL w.heap.size w' (.slice z.x.mo z.x.m z.x.mc) z.x.r.c∧Rd w' p F (eB s).2.1 (eB s).2.2∧ab (p :: F) w w'∧((eB s).2.2=0→z.v=(eB s).1)
theorem xF (s:List Int × Int):eB s=(⟨(az s).1,(az (az s).2).1,(mA (az (az s).2).2).1⟩,(mA (az (az s).2).2).2):=rfl
def vg (w:World) (p b:Nat):World:=((w.alloc (.cells #[.pointer (some ⟨p,0,none⟩),.pointer (some ⟨b,0,none⟩)] 104)).alloc (.cells #[.int .i64 0,.int .i64 0,.int .i64 0,.string ⟨#[]⟩,.int .i64 0,.int .i64 0,.int .i64 0,.string ⟨#[]⟩,.slice none 0 0,.string ⟨#[]⟩,.int .i64 0,.int .i64 0,.int .i64 0] 55)).alloc (.cells #[.int .i64 0,.int .i64 0,.int .i64 0,.string ⟨#[]⟩,.int .i64 0,.int .i64 0,.int .i64 0,.string ⟨#[]⟩,.slice none 0 0,.string ⟨#[]⟩,.int .i64 0,.int .i64 0,.int .i64 0] 55)
theorem vU (w:World) (p b:Nat):ab [] w (vg w p b)∧(vg w p b).cell? ⟨w.heap.size,0,none⟩=some (.pointer (some ⟨p,0,none⟩))∧Bx (vg w p b) (w.heap.size+1) 55 (cq kX)∧Bx (vg w p b) (w.heap.size+2) 55 (cq kX)∧(vg w p b).heap.size=w.heap.size+3:=by
 have k1:ab [] w (w.alloc (.cells #[.pointer (some ⟨p,0,none⟩),.pointer (some ⟨b,0,none⟩)] 104)):=(ab.refl _ _).alloc _;obtain ⟨w1,hw1⟩:∃ w1,w1=w.alloc (.cells #[.pointer (some ⟨p,0,none⟩),.pointer (some ⟨b,0,none⟩)] 104):=⟨_,rfl⟩;have n1:w1.heap.size=w.heap.size+1:=by rw [hw1];simp
 have c1:w1.cell? ⟨w.heap.size,0,none⟩=some (.pointer (some ⟨p,0,none⟩)):=by rw [hw1];exact (Bx.new w 104 [.pointer (some ⟨p,0,none⟩),.pointer (some ⟨b,0,none⟩)]).cell 0 rfl
 rw [← hw1] at k1;have k2:=ct w1 55 (cq kX);have b2:=Bx.new w1 55 (cq kX);obtain ⟨w2,hw2⟩:∃ w2,w2=w1.alloc (.cells (cq kX).toArray 55):=⟨_,rfl⟩;have n2:w2.heap.size=w1.heap.size+1:=by rw [hw2];simp
 rw [← hw2] at k2 b2;have k3:=ct w2 55 (cq kX);have b3:=Bx.new w2 55 (cq kX);have n3:(w2.alloc (.cells (cq kX).toArray 55)).heap.size=w2.heap.size+1:=by simp
 have e:vg w p b=w2.alloc (.cells (cq kX).toArray 55):=by rw [hw2,hw1];rfl
 rw [e];refine ⟨(k1.trans k2 (by simp)).trans k3 (by simp),k3.cell (k2.cell c1 (by simp)) (by simp),?_,?_,by omega⟩
 ·have h:=b2.kept k3 (by simp);rw [n1] at h;exact h
 ·rw [n2,n1] at b3;exact b3
theorem qi (p:Nat) (F:List Nat) (b:Nat) (w:World) (s:List Int × Int) (hR:Rd w p F s.1 s.2) (hF:∀ k∈F,k < w.heap.size) :
 Calls Tryz.prog 179 #[.agg #[.pointer (some ⟨p,0,none⟩),.pointer (some ⟨b,0,none⟩)]] w (xX p F w s):=by
 obtain ⟨kW,c0,hB1,hB2,hs⟩:=vU w p b;have hpl:=hR.lt;obtain ⟨W,hW⟩:∃ W,W=vg w p b:=⟨_,rfl⟩;rw [← hW] at kW c0 hB1 hB2 hs;have hRW:=Rd.kept kW hR (by simp) (by simp);have cS:=aa (cz W p F s.1 s.2 hRW);have HK:=aa kW;have HB1:=aa hB1;have HB2:=aa hB2;have HS:=aa hs;have HP:=aa hpl;have HF:=aa hF;unfold vg at hW;clear kW hB1 hB2 hs hpl hR hF hRW;go_enter Tryz.func179,Tryz.ntmps179;go_upto_region 2 with fail
 rw [← hW];clear hW;have hwp:w.heap.size≠p:=by have:=HP.out;omega
 have hvp:w.heap.size+2≠p:=by have:=HP.out;omega
 have hzp:w.heap.size+1≠p:=by have:=HP.out;omega
 have hnF:∀ k,w.heap.size≤k→k ∉ p :: F:=fun k h hm=>by
  rcases List.mem_cons.1 hm with h1 | h1
  ·have:=HP.out;omega
  ·have:=HF.out k h1;omega
 have HNF:=aa hnF;clear hnF;go_wp2_with fail
 refine cS.out.mono ?_;clear cS;rintro _ w1 ⟨rfl,hR1,hk1⟩;have d0:=hk1.cell c0 (by simpa using hwp);have hB21:=HB2.out.kept hk1 (by simpa using hvp);have hB11:=HB1.out.kept hk1 (by simpa using hzp);have e0:=hB21.cell 0 rfl;have f0:=hB21.froz 0;have kA:ab [w.heap.size+2] w1 (w1.setCell ⟨w.heap.size+2,0,none⟩ (.int .i64 (an s.2 s.1).2.1)):=aj _ _ _ _;have HBA:=aa (hB21.set 0 (.int .i64 (an s.2 s.1).2.1));have HB1A:=aa (hB11.kept kA (by simp));have hRA:=Rd.kept kA hR1 (by simpa using Ne.symm hvp) (fun k hk h=>by simp at h;have:=HF.out k hk;omega);have cB:=aa (cz _ p F _ _ hRA);have g0:=kA.cell d0 (by simp);have HKA:=aa (((HK.out.mono (by simp)).trans hk1 (S:=p :: F) (by simp)).trans kA (by simp));have HR1:=aa hR1;clear hk1 c0 hB21 hB11 kA hRA hR1;go_wp2_with fail
 refine cB.out.mono ?_;clear cB;rintro _ w2 ⟨rfl,hR2,hk2⟩;have d2:=hk2.cell g0 (by simpa using hwp);have hB22:=HBA.out.kept hk2 (by simpa using hvp);have hB12:=HB1A.out.kept hk2 (by simpa using hzp);have e1:=hB22.cell 1 rfl;have f1:=hB22.froz 1;obtain ⟨n1,hn1⟩:∃ n1,n1=(an s.2 s.1).2.1:=⟨_,rfl⟩;obtain ⟨n2,hn2⟩:∃ n2,n2=(an (an s.2 s.1).1 (an s.2 s.1).2.2).2.1:=⟨_,rfl⟩;have kC:ab [w.heap.size+2] w2 (w2.setCell ⟨w.heap.size+2,1,none⟩ (.int .i64 n2)):=aj _ _ _ _;have hBC:=hB22.set 1 (.int .i64 n2);rw [← hn1] at hBC;have HBC:Hid (Bx (w2.setCell ⟨w.heap.size+2,1,none⟩ (.int .i64 n2)) (w.heap.size+2) 55 ([.int .i64 n1,.int .i64 n2]++(bp ie++[]))):=hBC;have HB1C:=aa (hB12.kept kC (by simp));have hRC:=Rd.kept kC hR2 (by simpa using Ne.symm hvp) (fun k hk h=>by simp at h;have:=HF.out k hk;omega);have HKC:=aa ((HKA.out.trans hk2 (by simp)).trans kC (by simp));have hFC:∀ k∈F,k < (w2.setCell ⟨w.heap.size+2,1,none⟩ (.int .i64 n2)).heap.size:=fun k hk=>by have:=HF.out k hk;have:=HKC.out.size;omega
 have cT:=aa (j8 p F (w2.setCell ⟨w.heap.size+2,1,none⟩ (.int .i64 n2)) (p :: F) (az (az s).2).2 0 ⟨rfl,hRC,hFC⟩);have h2:=kC.cell d2 (by simp)
 have HSC:Hid (w.heap.size+3≤(w2.setCell ⟨w.heap.size+2,1,none⟩ (.int .i64 n2)).heap.size):=by
  have h1:=hk2.size;have h3:=kC.size;have h4:=HB1C.out.lt;have h5:=HBC.out.lt;show _≤_;omega
 clear hk2 g0 hB22 hB12 kC hBC hRC hR2 hFC;rw [← hn2];have HN1:=aa hn1;have HN2:=aa hn2;clear hn1 hn2;go_upto_region 5 with (first | (go_at_call 177;refine cT.out.mono ?_;clear cT;rintro _ w4 ⟨v4,rfl,hO4,O4,⟨rfl,hR4,_⟩,hk4,_,_⟩;obtain ⟨vo,vn,vc,rfl⟩:=dC hO4;have HB4:=aa (HBC.out.kept hk4 (HNF.out _ (by omega)));have HB14:=aa (HB1C.out.kept hk4 (HNF.out _ (by omega)));have HO4:=aa hO4;have HR4:=aa hR4;have HK4:=aa (HKC.out.trans hk4 (fun i hi=>.inl hi));have HO0:=aa (gR ⟨eH (az (az s).2).2,vo,vn,vc⟩);have HT0:Hid (aq Tryz.prog 29 (bp ⟨eH (az (az s).2).2,vo,vn,vc⟩).length):=ar;have HL0:Hid ((bp ie).length=(bp ⟨eH (az (az s).2).2,vo,vn,vc⟩).length):=rfl;have HS4:=aa hk4.size;clear hO4 hR4 hk4 h2 e1 f1) | ((refine di (o:=2) HB4.out ?_ HL0.out HO0.out HT0.out ?_ ?_ ?_);rfl;rfl;rfl;intro w5 HB5 HK5))
 obtain ⟨z,hz⟩:∃ z:Vm,z=⟨n1,n2,⟨eH (az (az s).2).2,vo,vn,vc⟩⟩:=⟨_,rfl⟩;have HZ:=aa hz;have HB5':Hid (Bx w5 (w.heap.size+2) 55 (cq z)):=by rw [hz];exact HB5.out
 have HB15:=aa (HB14.out.kept HK5.out (by simp));have HTV:Hid (aq Tryz.prog 55 (cq z).length):=eR;have HLv:Hid ((cq z).length=(cq kX).length):=rfl;have HOv:=aa (fY z);clear hz;go_wp2_with (first | ((refine ak HB5'.out HTV.out ?_ ?_);rfl) | ((refine ac HB15.out HLv.out HOv.out HTV.out ?_ ?_ ?_);rfl;rfl;intro w6 HB6 HK6))
 refine bodyPost_ret (al (by rfl) _ (by rfl) HB6.out HTV.out) rfl ?_;have k46:ab [w.heap.size+2,w.heap.size+1] w4 w6:=(HK5.out.mono (by simp)).trans HK6.out (by simp);have hlo:∀ k∈[w.heap.size+2,w.heap.size+1],k < w.heap.size+3:=fun k hk=>by simp at hk;omega
 refine ⟨z,rfl,?_,?_,?_,fun h=>?_⟩
 ·rw [HZ.out];have h1:=bk (HO4.out.mono HSC.out) k46 hlo;exact aL.mono h1 (by omega)
 ·refine Rd.kept k46 HR4.out ?_ ?_
  ·have:=HP.out;simp;omega
  ·intro k hk h;have:=HF.out k hk;simp at h;omega
 ·exact HK4.out.trans k46 (fun i hi=>.inr (by simp at hi;omega))
 ·rw [HZ.out,xF];show (⟨n1,n2,eH _⟩:Vo)=_;rw [HN1.out,HN2.out,oZ _ h];rfl
theorem ky (w:World) (z:Vm):(Instr.buildSlice 30 1 #[(0,.agg (cq z).toArray)]).run Tryz.prog w=.ok (.slice (some ⟨w.heap.size,0,none⟩) 1 1) (w.alloc (.cells (cq z).toArray 55)):=by kernel_rfl
theorem gD {ops:Array Oper}{a:Act}{w:World}{K:Act→World→Prop}{Q:Exit→Act→World→Prop}{E:Prop}{d:Option Tmp}{x:Operand}{ty:TypeId}{ps:String}{af:Array Edge}
 (z:Vm) (hx:a.eval x=.agg (cq z).toArray) (h:K (a.put d (.slice (some ⟨w.heap.size,0,none⟩) 1 1)) (w.alloc (.cells (cq z).toArray 55))) :
 if Region.wanted (⟨d,.buildSlice 30 1 #[(0,x)],ty,ps,af,none⟩:Oper) (yielded ops a.tmps)=true then Oper.wp Tryz.prog ⟨d,.buildSlice 30 1 #[(0,x)],ty,ps,af,none⟩ a w K Q else E:=by
 refine fh rfl ?_;unfold Oper.wp execOp;simp only [List.map_toArray,List.map_cons,List.map_nil,hx,Sem.run_bind,ky,Result.andThen_ok,Sem.run_pure];exact h
theorem js {ops:Array Oper}{a:Act}{w:World}{K:Act→World→Prop}{Q:Exit→Act→World→Prop}{E:Prop}{d:Option Tmp}{s x:Operand}{ty:TypeId}{ps:String}{af:Array Edge}
 (B:Nat) (v:Value) (D:List Vm) (z:Vm) (g:Nat) (hs:a.eval s=v) (hO:eC B w v D) (hx:a.eval x=.slice (some ⟨g,0,none⟩) 1 1) (hc:w.heap[g]?=some (.cells (cq z).toArray 55 (0,0))) (hlen:D.length≤1000000) (hB:B≤w.heap.size)
 (h:∀ ao c D2 w',Hid (D2=D++[z])→Hid (eC B w' (.slice ao D2.length c) D2)→Hid (w.grownBy w' v.ownBlock)→K (a.put d (.slice ao D2.length c)) w') :
 if Region.wanted (⟨d,.call { callee:=.builtin .append,args:=#[s,x],argTypes:=#[30,30] },ty,ps,af,none⟩:Oper) (yielded ops a.tmps)=true then Oper.wp Tryz.prog ⟨d,.call { callee:=.builtin .append,args:=#[s,x],argTypes:=#[30,30] },ty,ps,af,none⟩ a w K Q else E:=by
 obtain ⟨i0,hi,hz0,hz1,hz2⟩:=info_parts ls;refine fh rfl (wp_append_own (w:=w) s x 30 rfl B 55 i0 _ 13 144 Tryz.underlying30 hi hz0 hz1 hz2 rfl (by decide) v D.length (D.flatMap cq) hs hO ⟨g,0,none⟩ 1 1 (cq z) hx rfl (World.news_of_block hc) (fY z) (by unfold maxLen;omega) (by omega) hB ?_);intro v' w' h2 h3 _
 have h4:eC B w' v' (D++[z]):=by
  unfold eC;rw [List.length_append,List.flatMap_append];simpa using h2
 obtain ⟨ao,c,e,_⟩:=ka h4;subst e;exact h ao c _ w' rfl h4 h3
theorem jf {α:Type}(one:gh α) (n:Nat) (s:List Int × Int):bP one (n+1) s=((bP one n s).1++[(one (bP one n s).2).1],(one (bP one n s).2).2):=by
 induction n generalizing s with
 | zero=>rfl
 | succ n ih =>
   have e:∀ k,bP one (k+1) s=((one s).1 :: (bP one k (one s).2).1,(bP one k (one s).2).2):=fun _=>rfl;rw [e (n+1),ih (one s).2,e n];rfl
theorem t7 (s:List Int × Int) (ho:bi s.1):0≤(az s).1:=by
 by_cases he:s.2=0
 ·have e:s=(s.1,0):=Prod.ext rfl he;rw [e];by_cases h2:(az (s.1,0)).2.2=0
  ·have h3:=aG.bwd s.1 _ _ ho (Prod.ext rfl (Prod.ext rfl h2));exact ((aZ _).1 h3.1).1
  ·have h3:(an 0 s.1).2=(0,[]):=iE s.1 h2;show 0≤(an 0 s.1).2.1;rw [h3];exact Int.le_refl _
 ·show 0≤(an s.2 s.1).2.1;rw [eV _ he];exact Int.le_refl _
theorem nk (s:List Int × Int) (h:4096 < (az s).1):gm s=([],([],aO (az s).2.2)):=by
 have e:j5 4096 s=(0,([],aO (az s).2.2)):=if_pos h;have h2:gm s=((bP eB (j5 4096 s).1.toNat (j5 4096 s).2).1,(bP eB (j5 4096 s).1.toNat (j5 4096 s).2).2):=rfl;rw [h2,e];rfl
theorem nv (s:List Int × Int) (h:¬ 4096 < (az s).1):gm s=bP eB (az s).1.toNat (az s).2:=by
 have e:j5 4096 s=az s:=if_neg h;show ((bP eB (j5 4096 s).1.toNat (j5 4096 s).2).1,(bP eB (j5 4096 s).1.toNat (j5 4096 s).2).2)=_;rw [e]
theorem eC.mono {B C:Nat}{w:World}{v:Value}{D:List Vm}(h:eC C w v D) (hB:B≤C):eC B w v D:=by
 obtain ⟨h1,h2⟩:=h;refine ⟨h1,?_⟩;rcases h2 with h2 | ⟨g,cap,cur,hv,hg,hr⟩
 ·exact .inl h2
 ·exact .inr ⟨g,cap,cur,hv,Nat.le_trans hB hg,hr⟩
theorem iC.grown {B C:Nat}{w w':World}{y:Mm}{ao:Option Addr}{c:Nat}{z:Vm}{D2:List Vm}(hD2:D2=y.D++[z]) (h:iC B w y) (hR:eC C w (.slice y.vo y.D.length y.vc) y.D) (hg:w.grownBy w' (Value.slice y.vo y.D.length y.vc).ownBlock) (hio:y.io=none)
 (hz:aL B w (.slice z.x.mo z.x.m z.x.mc) z.x.r.c) (hC:B≤C) (hN:eC C w' (.slice ao D2.length c) D2):iC B w' { y with vo:=ao,vc:=c,D:=D2 }:=by
 subst hD2;refine ⟨dN hR hg h.x (by decide),hN.mono hC,fun v hv=>?_,?_,h.ib,h.o,?_⟩
 ·rcases List.mem_append.1 hv with hv | hv
  ·exact dN hR hg (h.vx v hv) (by decide)
  ·simp at hv;subst hv;exact dN hR hg hz (by decide)
 ·obtain ⟨S,hk,_⟩:=fx hR hg;exact Sl.kept hk h.i (fun k hk=>by rw [hio] at hk;cases hk)
 ·obtain ⟨K,h1,h2,h3⟩:=h.r;exact ⟨K,dN hR hg h1 (by decide),fun x hx=>dN hR hg (h2 x hx) (by decide),h3⟩
def yh (p:Nat) (F:List Nat) (B b:Nat) (W:World) (s1:List Int × Int) (y:Mm) (N:Nat) (iv:Value) (wr:World):Prop :=
 ∃ (j:Nat) (yj:Mm),iv=.int .i64 (j:Int)∧j≤N∧Hid (iI p F B b wr (bP eB j s1).2 yj)∧Hid (ab (b :: p :: F) W wr)∧Hid ((bP eB j s1).2.2=0→yj.ms={ y.ms with l:=(bP eB j s1).1 })∧Hid (yj.D.length=j)∧Hid (yj.k=y.k)∧Hid (eC W.heap.size wr (.slice yj.vo yj.D.length yj.vc) yj.D)∧Hid (yj.io=none)
theorem rZ (p:Nat) (F:List Nat) (B b:Nat) (w:World) (s:List Int × Int) (y:Mm) (hA:iI p F B b w s y) (hD:y.D=[]) (hvo:y.vo=none) (hvc:y.vc=0) (hio:y.io=none) :
 Calls Tryz.prog 175 #[.agg #[.pointer (some ⟨p,0,none⟩),.pointer (some ⟨b,0,none⟩)]] w (nZ p F B b w s y .L):=by
 obtain ⟨W,hW⟩:∃ W,W=w.alloc (.cells #[.pointer (some ⟨p,0,none⟩),.pointer (some ⟨b,0,none⟩)] 104):=⟨_,rfl⟩;have k0:ab [] w W:=by rw [hW];exact ct w 104 [.pointer (some ⟨p,0,none⟩),.pointer (some ⟨b,0,none⟩)]
 have hP:Bx W w.heap.size 104 [.pointer (some ⟨p,0,none⟩),.pointer (some ⟨b,0,none⟩)]:=by rw [hW];exact Bx.new w _ _
 have c0:=hP.cell 0 rfl;have c1:=hP.cell 1 rfl;have hA1:=hA.kept k0;have cN:=aa (cz W p F s.1 s.2 hA1.rd);have HA:=aa hA;have HA1:=aa hA1;have HK1:=aa k0;have HC0:=aa c0;have HC1:=aa c1
 have HqF:Hid (w.heap.size ∉ p :: F):=fun h=>by
  rcases List.mem_cons.1 h with h | h
  ·have:=hA.hp;have:=hA.le;omega
  ·have:=hA.hf _ h;have:=hA.le;omega
 have HBw:=aa hA.le;have hpos:=t7 s hA.rd.nl.1;have HYL:Hid (y.ms={ y.ms with l:=[] }):=by show _=_;unfold Mm.ms;rw [hD];rfl
 have HD:=aa hD;have HVO:=aa hvo;have HVC:=aa hvc;have HIO0:=aa hio;have HWs:Hid (W.heap.size=w.heap.size+1):=by show _=_;rw [hW];simp
 clear k0 hP hA1 hA hD hvo hvc hio;go_enter Tryz.func175,Tryz.ntmps175;go_upto_region 1 with fail
 rw [← hW];clear hW;go_wp2_with fail
 refine cN.out.mono ?_;clear cN;rintro _ w2 ⟨rfl,hR2,hk2⟩;have d0:=hk2.cell c0 (fun h=>HqF.out (by simp at h;rw [h];exact List.mem_cons_self ..));have d1:=hk2.cell c1 (fun h=>HqF.out (by simp at h;rw [h];exact List.mem_cons_self ..));have hnb:b≠p:=fun h=>HA1.out.hn (by rw [h];exact List.mem_cons_self ..);have hB2:=HA1.out.bx.kept hk2 (by simpa using hnb);have hM2:=HA1.out.em.low hk2 (by intro k hk;simp at hk;subst hk;exact HA1.out.hp);have HR2:Hid (Rd w2 p F (az s).2.1 (az s).2.2):=hR2;have HB2:=aa hB2;have HM2:=aa hM2;have HK2:=aa ((HK1.out.mono (by simp)).trans hk2 (S:=p :: F) (by simp));have HK12:=aa (hk2.mono (T:=p :: F) (by simp));clear hR2 hk2 hnb hB2 hM2 c0 c1;by_cases hbig:4096 < (az s).1
 ·have hbig':(4096:Int) < (an s.2 s.1).2.1:=hbig;have cR:=aa (gH w2 p F _ _ HR2.out);have HVM:=aa (nk s hbig);clear hbig;(go_wp2_with fail);refine cR.out.mono ?_;clear cR;rintro _ w3 ⟨rfl,hR3,hk3⟩
  have H3:Hid (nZ p F B b w s y .L (.returned (.tuple #[])) w3):=by
   have hR3':Rd w3 p F (gm s).2.1 (gm s).2.2:=by rw [HVM.out];exact hR3
   have hnb:b≠p:=fun h=>HA1.out.hn (by rw [h];exact List.mem_cons_self ..);refine ⟨rfl,y,⟨HB2.out.kept hk3 (by simpa using hnb),HM2.out.low hk3 (by intro k hk;simp at hk;subst hk;exact HA1.out.hp),hR3',HA1.out.left .L y.ms,HA1.out.hf,HA1.out.hp,HA1.out.hb,HA1.out.hn,?_⟩,?_,fun _ _=>?_,rfl,fun h=>by rcases h with h | h <;> cases h⟩
   ·have h1:=hk3.size;have h2:=HK2.out.size;have h3:=HA1.out.le;have:=HBw.out;omega
   ·exact (HK2.out.trans hk3 (by simp)).mono (fun k hk=>.inl (List.mem_cons_of_mem _ hk))
   ·show y.ms={ y.ms with l:=(gm s).1 };rw [HVM.out];exact HYL.out
  clear hR3 hk3;(go_wp2_with fail);go_returns
  exact H3.out
 ·have hbig':¬ (4096:Int) < (an s.2 s.1).2.1:=hbig;have HVM:=aa (nv s hbig);obtain ⟨N,hN⟩:∃ N:Nat,(az s).1=(N:Int):=⟨(az s).1.toNat,by omega⟩;have hNl:N≤4096:=by omega
  have HNl:=aa hNl;rw [hN,Int.toNat_natCast] at HVM;have hN':(an s.2 s.1).2.1=(N:Int):=hN;rw [hN'] at hbig' ⊢;have HST:Hid (iI p F B b w2 (bP eB 0 (az s).2).2 y):=⟨HB2.out,HM2.out,HR2.out,Nat.le_trans (eu aG s HA.out.rd.nl.1 HA.out.rd.nl.2) HA.out.lb,HA1.out.hf,HA1.out.hp,HA1.out.hb,HA1.out.hn,by have h2:=HK2.out.size;have:=HBw.out;omega⟩;have HST2:Hid (ab (b :: p :: F) w w2):=HK2.out.mono (fun k hk=>.inl (List.mem_cons_of_mem _ hk));have HST3:Hid ((bP eB 0 (az s).2).2.2=0→y.ms={ y.ms with l:=(bP eB 0 (az s).2).1 }):=fun _=>HYL.out;have HST4:Hid (y.D.length=0):=by show _=_;rw [HD.out];rfl
  clear hbig hN hN' hpos
  have HST5:Hid (eC W.heap.size w2 (.slice y.vo y.D.length y.vc) y.D):=by
   show eC _ _ _ _;rw [HD.out,HVO.out,HVC.out];exact World.ownsRow_nil w2 W.heap.size 55 13
  generalize (az s).2=s1 at *;(go_wp2_with fail);go_loopw [12] (fun iv wr=>yh p F B b W s1 y N iv wr) (fun iv _=>N - (intOf iv).toNat)
  case atStart=>exact ⟨0,y,rfl,Nat.zero_le _,HST,HK12.out.mono (fun k hk=>.inl (List.mem_cons_of_mem _ hk)),HST3,HST4,rfl,HST5,HIO0⟩
  case round =>
   obtain ⟨j,yj,rfl,hj,HAj,HKj,HEj,HDj,HYKj,HRw,HIO⟩:=hrel;clear d0 d1;by_cases hlt:j < N
   ·have hlt':(j:Int) < (N:Int):=by omega
    have hqn:w.heap.size ∉ b :: p :: F:=fun h=>by
     rcases List.mem_cons.1 h with h | h
     ·have:=HAj.out.hb;have:=HBw.out;omega
     ·exact HqF.out h
    have c0:=HKj.out.cell HC0.out hqn;have c1:=HKj.out.cell HC1.out hqn;have c17:=HAj.out.bx.cell 17 rfl;have cV:=aa (qi p F b wr.drew (bP eB j s1).2 (Rd.kept (ab.refl [] wr).drew HAj.out.rd (by simp) (by simp)) (fun k hk=>Nat.lt_of_lt_of_le (HAj.out.hf k hk) HAj.out.le));have HNX:=aa (jf eB j s1);clear hqn;go_upto_region 6 with fail
    refine wp_region_held_drew (S:=fun w9=>w9.cell? ⟨w.heap.size,0,none⟩=some (.pointer (some ⟨p,0,none⟩))∧w9.cell? ⟨w.heap.size,1,none⟩=some (.pointer (some ⟨b,0,none⟩))) (by kernel_rfl) ⟨c0,c1⟩ (fun hHeld=>?_);refine ay [0,1,2,3,4,5,7] (by rfl) (by kernel_rfl) (fun _ _ _ _ _ h=>h) hHeld ?_
    iterate 7
     refine yk ?_ rfl (Or.inl ⟨by rfl,?_⟩) ?_;rotate_left
     ·intro w9 hSw;obtain ⟨m0,m1⟩:=hSw;go_simp;(try with_reducible rfl)
     try simp only [sT,Act.put]
    refine ax ?_;simp only [ai,sT];refine wpAnyH_ready (rs:=[6,8]) (by kernel_rfl) (by simp) (AllReadyH.cons rfl (fun K0 hK0=>?_) (AllReadyH.cons rfl (fun K0 hK0=>?_) AllReadyH.nil))
    ·skip
     go_simp;refine hK0.out _ _ ⟨c0,c1⟩ (fun hHeld=>?_);clear hK0 K0;(try simp only [sT,Act.put]);refine cd 8 (by kernel_rfl) rfl (fun K0 hK0=>?_);go_simp;refine cV.out.mono ?_;rintro _ w2 ⟨z,rfl,hO2,hR2,hk2,hz2⟩;have d0:=hk2.cell c0 HqF.out;have d1:=hk2.cell c1 HqF.out;have d17:=hk2.cell c17 HAj.out.hn;have HO2:=aa hO2;have HR2:=aa hR2;have HK2:=aa hk2;have HZ2:=aa hz2;clear hO2 hR2 hk2 hz2;(go_wp2_with fail);refine hK0.out _ _ ⟨d0,d1⟩ (fun hHeld=>?_);clear hK0 K0;(try simp only [sT,Act.put]);refine cd 9 (by kernel_rfl) rfl (fun K0 hK0=>?_);obtain ⟨w3,hw3⟩:∃ w3,w3=w2.alloc (.cells (cq z).toArray 55):=⟨_,rfl⟩;have HK3:Hid (ab [] w2 w3):=by show ab _ _ _;rw [hw3];exact (ab.refl _ _).alloc _
     have HZ3:Hid (w3.heap[w2.heap.size]?=some (.cells (cq z).toArray 55 (0,0))):=by show _=_;rw [hw3];exact heap_alloc_new w2 _
     have e0:=HK3.out.cell d0 (by simp);have e1:=HK3.out.cell d1 (by simp);have e17:=HK3.out.cell d17 (by simp);refine gD z rfl ?_;rw [← hw3];clear hw3;refine hK0.out _ _ ⟨e0,e1⟩ (fun hHeld=>?_);clear hK0 K0;(try simp only [sT,Act.put]);refine cd 10 (by kernel_rfl) rfl (fun K0 hK0=>?_)
     have hlow:∀ k∈p :: F,k < B:=fun k hk=>by
      rcases List.mem_cons.1 hk with h | h
      ·rw [h];exact HAj.out.hp
      ·exact HAj.out.hf k h
     have hk23:ab (p :: F) wr.drew w3:=HK2.out.trans HK3.out (by simp);have hM3:=(HAj.out.em.low (ab.refl [] wr).drew (by simp)).low hk23 hlow;have hR3:eC W.heap.size w3 (.slice yj.vo yj.D.length yj.vc) yj.D:=bk (bk HRw.out (ab.refl [] wr).drew (by simp)) hk23 (fun k hk=>by have:=hlow k hk;have:=HBw.out;have:=HWs.out;omega);have HM3:=aa hM3;have HR3:=aa hR3;have HB3:=aa ((HAj.out.bx.kept (ab.refl [] wr).drew (by simp)).kept hk23 HAj.out.hn);have HRD3:=aa (Rd.kept HK3.out HR2.out (by simp) (by simp));have HZO:=aa (aL.mono (bk HO2.out HK3.out (by simp)) (show B≤wr.drew.heap.size from HAj.out.le));have HK03:=aa (HKj.out.trans ((((ab.refl [] wr).drew.mono (T:=p :: F) (by simp)).trans hk23 (fun k hk=>.inl hk)).mono (T:=b :: p :: F) (fun k hk=>.inl (List.mem_cons_of_mem _ hk))) (fun k hk=>.inl hk));have HSZ3:=aa (show w3.heap.size ≥ wr.heap.size from hk23.size);refine js W.heap.size (.slice yj.vo yj.D.length yj.vc) yj.D z w2.heap.size rfl hR3 rfl HZ3.out (by have:=HDj.out;have:=HNl.out;omega) (by have h1:=HK03.out.size;omega) ?_;clear hk23 hM3 hlow hR3;intro ao c D2 w4 HD2 HR4 HG4;have HM4:=aa (iC.grown HD2.out HM3.out HR3.out HG4.out HIO.out HZO.out (by have:=HBw.out;have:=HWs.out;omega) HR4.out);obtain ⟨S4,hk4,hS4⟩:=fx HR3.out HG4.out;have hnS:∀ k,k < W.heap.size→k ∉ S4:=fun k h1 h2=>by have:=hS4 k h2;omega
     have g0:=hk4.cell e0 (hnS w.heap.size (by have:=HWs.out;omega));have g1:=hk4.cell e1 (hnS w.heap.size (by have:=HWs.out;omega));have hB4:=HB3.out.kept hk4 (hnS _ (by have:=HAj.out.hb;have:=HBw.out;have:=HWs.out;omega));have g17:=hB4.cell 17 rfl;have f17:=hB4.froz 17;have HB4:=aa hB4;have HRD4:=aa (Rd.kept hk4 HRD3.out (hnS _ (by have:=HAj.out.hp;have:=HBw.out;have:=HWs.out;omega)) (fun k hk=>hnS _ (by have:=HAj.out.hf k hk;have:=HBw.out;have:=HWs.out;omega)));have HK04:=aa (HK03.out.trans hk4 (fun k hk=>.inr (hS4 k hk)));have HSZ4:=aa (show w4.heap.size ≥ w3.heap.size from hk4.size);clear hk4 hS4 hnS hB4;refine hK0.out _ _ ⟨g0,g1⟩ (fun hHeld=>?_);clear hK0 K0;(try simp only [sT,Act.put]);refine ay [11,12] (by rfl) (by kernel_rfl) (fun _ _ _ _ _ h=>h) hHeld ?_
     iterate 2
      refine yk ?_ rfl (Or.inl ⟨by rfl,?_⟩) ?_;rotate_left
      ·intro w9 hSw;obtain ⟨m0,m1⟩:=hSw;go_simp;(try with_reducible rfl)
      try simp only [sT,Act.put]
     refine ax ?_;simp only [ai,sT];refine cd 13 (by kernel_rfl) rfl (fun K0 hK0=>?_);go_simp;have hB5:=HB4.out.set 17 (.slice ao D2.length c);have hk5:ab [b] w4 (w4.setCell ⟨b,17,none⟩ (.slice ao D2.length c)):=aj _ _ _ _;have hqb:w.heap.size≠b:=by have:=HAj.out.hb;have:=HBw.out;omega
     have r0:=hk5.cell g0 (by simpa using hqb);have r1:=hk5.cell g1 (by simpa using hqb)
     have HA5:Hid (iI p F B b (w4.setCell ⟨b,17,none⟩ (.slice ao D2.length c)) (bP eB (j+1) s1).2 { yj with vo:=ao,vc:=c,D:=D2 }):=by
      have hbn:=HAj.out.hn;rw [HNX.out];refine ⟨hB5,HM4.out.low hk5 (by simpa using HAj.out.hb),Rd.kept hk5 HRD4.out (fun h=>hbn (by simp at h;rw [← h];exact List.mem_cons_self ..)) (fun k hk h=>hbn (by simp at h;rw [← h];exact List.mem_cons_of_mem _ hk)),?_,HAj.out.hf,HAj.out.hp,HAj.out.hb,HAj.out.hn,?_⟩
      ·exact Nat.le_trans (eu gx _ HAj.out.rd.nl.1 HAj.out.rd.nl.2) HAj.out.lb
      ·have h1:=hk5.size;have h2:=HSZ4.out;have h3:=HSZ3.out;have h4:=HAj.out.le;omega
     have HK5:=aa (HK04.out.trans hk5 (by simp));have HR5:Hid (eC W.heap.size (w4.setCell ⟨b,17,none⟩ (.slice ao D2.length c)) (.slice ao D2.length c) D2):=bk HR4.out hk5 (fun k hk=>by simp at hk;subst hk;have:=HAj.out.hb;have:=HBw.out;have:=HWs.out;omega)
     have HE5:Hid ((bP eB (j+1) s1).2.2=0→Mm.ms { yj with vo:=ao,vc:=c,D:=D2 }={ y.ms with l:=(bP eB (j+1) s1).1 }):=fun h=>by
      rw [HNX.out] at h ⊢;have h0:=mg gx _ HAj.out.rd.nl.2 h;have h1:=HEj.out h0;have h2:=HZ2.out h;have h3:Mm.ms { yj with vo:=ao,vc:=c,D:=D2 }={ yj.ms with l:=yj.ms.l++[z.v] }:=by rw [HD2.out];unfold Mm.ms;simp
      rw [h3,h1,h2]
     have HD5:Hid (D2.length=j+1):=by show _=_;rw [HD2.out];have:=HDj.out;simp;omega
     clear hB5 hk5 hqb g17 f17;refine hK0.out _ _ ⟨r0,r1⟩ (fun hHeld=>?_);clear hK0 K0;refine wpAnyH_done (by kernel_rfl) ?_ _;clear hHeld;(go_wp2_with fail);go_roundw
     case rel=>exact ⟨j+1,{ yj with vo:=ao,vc:=c,D:=D2 },by go_num,by omega,HA5,HK5,HE5,HD5,HYKj,HR5,HIO⟩
     case measure=>simp [intOf];omega
    ·skip
     go_simp;refine cV.out.mono ?_;rintro _ w2 ⟨z,rfl,hO2,hR2,hk2,hz2⟩;have d0:=hk2.cell c0 HqF.out;have d1:=hk2.cell c1 HqF.out;have d17:=hk2.cell c17 HAj.out.hn;have HO2:=aa hO2;have HR2:=aa hR2;have HK2:=aa hk2;have HZ2:=aa hz2;clear hO2 hR2 hk2 hz2;(go_wp2_with fail);refine hK0.out _ _ ⟨d0,d1⟩ (fun hHeld=>?_);clear hK0 K0;(try simp only [sT,Act.put]);refine wpAnyH_ready (rs:=[6,9]) (by kernel_rfl) (by simp) (AllReadyH.cons rfl (fun K0 hK0=>?_) (AllReadyH.cons rfl (fun K0 hK0=>?_) AllReadyH.nil))
     ·skip
      go_simp;refine hK0.out _ _ ⟨d0,d1⟩ (fun hHeld=>?_);clear hK0 K0;(try simp only [sT,Act.put]);refine cd 9 (by kernel_rfl) rfl (fun K0 hK0=>?_);obtain ⟨w3,hw3⟩:∃ w3,w3=w2.alloc (.cells (cq z).toArray 55):=⟨_,rfl⟩;have HK3:Hid (ab [] w2 w3):=by show ab _ _ _;rw [hw3];exact (ab.refl _ _).alloc _
      have HZ3:Hid (w3.heap[w2.heap.size]?=some (.cells (cq z).toArray 55 (0,0))):=by show _=_;rw [hw3];exact heap_alloc_new w2 _
      have e0:=HK3.out.cell d0 (by simp);have e1:=HK3.out.cell d1 (by simp);have e17:=HK3.out.cell d17 (by simp);refine gD z rfl ?_;rw [← hw3];clear hw3;refine hK0.out _ _ ⟨e0,e1⟩ (fun hHeld=>?_);clear hK0 K0;(try simp only [sT,Act.put]);refine cd 10 (by kernel_rfl) rfl (fun K0 hK0=>?_)
      have hlow:∀ k∈p :: F,k < B:=fun k hk=>by
       rcases List.mem_cons.1 hk with h | h
       ·rw [h];exact HAj.out.hp
       ·exact HAj.out.hf k h
      have hk23:ab (p :: F) wr.drew w3:=HK2.out.trans HK3.out (by simp);have hM3:=(HAj.out.em.low (ab.refl [] wr).drew (by simp)).low hk23 hlow;have hR3:eC W.heap.size w3 (.slice yj.vo yj.D.length yj.vc) yj.D:=bk (bk HRw.out (ab.refl [] wr).drew (by simp)) hk23 (fun k hk=>by have:=hlow k hk;have:=HBw.out;have:=HWs.out;omega);have HM3:=aa hM3;have HR3:=aa hR3;have HB3:=aa ((HAj.out.bx.kept (ab.refl [] wr).drew (by simp)).kept hk23 HAj.out.hn);have HRD3:=aa (Rd.kept HK3.out HR2.out (by simp) (by simp));have HZO:=aa (aL.mono (bk HO2.out HK3.out (by simp)) (show B≤wr.drew.heap.size from HAj.out.le));have HK03:=aa (HKj.out.trans ((((ab.refl [] wr).drew.mono (T:=p :: F) (by simp)).trans hk23 (fun k hk=>.inl hk)).mono (T:=b :: p :: F) (fun k hk=>.inl (List.mem_cons_of_mem _ hk))) (fun k hk=>.inl hk));have HSZ3:=aa (show w3.heap.size ≥ wr.heap.size from hk23.size);refine js W.heap.size (.slice yj.vo yj.D.length yj.vc) yj.D z w2.heap.size rfl hR3 rfl HZ3.out (by have:=HDj.out;have:=HNl.out;omega) (by have h1:=HK03.out.size;omega) ?_;clear hk23 hM3 hlow hR3;intro ao c D2 w4 HD2 HR4 HG4;have HM4:=aa (iC.grown HD2.out HM3.out HR3.out HG4.out HIO.out HZO.out (by have:=HBw.out;have:=HWs.out;omega) HR4.out);obtain ⟨S4,hk4,hS4⟩:=fx HR3.out HG4.out;have hnS:∀ k,k < W.heap.size→k ∉ S4:=fun k h1 h2=>by have:=hS4 k h2;omega
      have g0:=hk4.cell e0 (hnS w.heap.size (by have:=HWs.out;omega));have g1:=hk4.cell e1 (hnS w.heap.size (by have:=HWs.out;omega));have hB4:=HB3.out.kept hk4 (hnS _ (by have:=HAj.out.hb;have:=HBw.out;have:=HWs.out;omega));have g17:=hB4.cell 17 rfl;have f17:=hB4.froz 17;have HB4:=aa hB4;have HRD4:=aa (Rd.kept hk4 HRD3.out (hnS _ (by have:=HAj.out.hp;have:=HBw.out;have:=HWs.out;omega)) (fun k hk=>hnS _ (by have:=HAj.out.hf k hk;have:=HBw.out;have:=HWs.out;omega)));have HK04:=aa (HK03.out.trans hk4 (fun k hk=>.inr (hS4 k hk)));have HSZ4:=aa (show w4.heap.size ≥ w3.heap.size from hk4.size);clear hk4 hS4 hnS hB4;refine hK0.out _ _ ⟨g0,g1⟩ (fun hHeld=>?_);clear hK0 K0;(try simp only [sT,Act.put]);refine ay [11,12] (by rfl) (by kernel_rfl) (fun _ _ _ _ _ h=>h) hHeld ?_
      iterate 2
       refine yk ?_ rfl (Or.inl ⟨by rfl,?_⟩) ?_;rotate_left
       ·intro w9 hSw;obtain ⟨m0,m1⟩:=hSw;go_simp;(try with_reducible rfl)
       try simp only [sT,Act.put]
      refine ax ?_;simp only [ai,sT];refine cd 13 (by kernel_rfl) rfl (fun K0 hK0=>?_);go_simp;have hB5:=HB4.out.set 17 (.slice ao D2.length c);have hk5:ab [b] w4 (w4.setCell ⟨b,17,none⟩ (.slice ao D2.length c)):=aj _ _ _ _;have hqb:w.heap.size≠b:=by have:=HAj.out.hb;have:=HBw.out;omega
      have r0:=hk5.cell g0 (by simpa using hqb);have r1:=hk5.cell g1 (by simpa using hqb)
      have HA5:Hid (iI p F B b (w4.setCell ⟨b,17,none⟩ (.slice ao D2.length c)) (bP eB (j+1) s1).2 { yj with vo:=ao,vc:=c,D:=D2 }):=by
       have hbn:=HAj.out.hn;rw [HNX.out];refine ⟨hB5,HM4.out.low hk5 (by simpa using HAj.out.hb),Rd.kept hk5 HRD4.out (fun h=>hbn (by simp at h;rw [← h];exact List.mem_cons_self ..)) (fun k hk h=>hbn (by simp at h;rw [← h];exact List.mem_cons_of_mem _ hk)),?_,HAj.out.hf,HAj.out.hp,HAj.out.hb,HAj.out.hn,?_⟩
       ·exact Nat.le_trans (eu gx _ HAj.out.rd.nl.1 HAj.out.rd.nl.2) HAj.out.lb
       ·have h1:=hk5.size;have h2:=HSZ4.out;have h3:=HSZ3.out;have h4:=HAj.out.le;omega
      have HK5:=aa (HK04.out.trans hk5 (by simp));have HR5:Hid (eC W.heap.size (w4.setCell ⟨b,17,none⟩ (.slice ao D2.length c)) (.slice ao D2.length c) D2):=bk HR4.out hk5 (fun k hk=>by simp at hk;subst hk;have:=HAj.out.hb;have:=HBw.out;have:=HWs.out;omega)
      have HE5:Hid ((bP eB (j+1) s1).2.2=0→Mm.ms { yj with vo:=ao,vc:=c,D:=D2 }={ y.ms with l:=(bP eB (j+1) s1).1 }):=fun h=>by
       rw [HNX.out] at h ⊢;have h0:=mg gx _ HAj.out.rd.nl.2 h;have h1:=HEj.out h0;have h2:=HZ2.out h;have h3:Mm.ms { yj with vo:=ao,vc:=c,D:=D2 }={ yj.ms with l:=yj.ms.l++[z.v] }:=by rw [HD2.out];unfold Mm.ms;simp
       rw [h3,h1,h2]
      have HD5:Hid (D2.length=j+1):=by show _=_;rw [HD2.out];have:=HDj.out;simp;omega
      clear hB5 hk5 hqb g17 f17;refine hK0.out _ _ ⟨r0,r1⟩ (fun hHeld=>?_);clear hK0 K0;refine wpAnyH_done (by kernel_rfl) ?_ _;clear hHeld;(go_wp2_with fail);go_roundw
      case rel=>exact ⟨j+1,{ yj with vo:=ao,vc:=c,D:=D2 },by go_num,by omega,HA5,HK5,HE5,HD5,HYKj,HR5,HIO⟩
      case measure=>simp [intOf];omega
     ·skip
      obtain ⟨w3,hw3⟩:∃ w3,w3=w2.alloc (.cells (cq z).toArray 55):=⟨_,rfl⟩;have HK3:Hid (ab [] w2 w3):=by show ab _ _ _;rw [hw3];exact (ab.refl _ _).alloc _
      have HZ3:Hid (w3.heap[w2.heap.size]?=some (.cells (cq z).toArray 55 (0,0))):=by show _=_;rw [hw3];exact heap_alloc_new w2 _
      have e0:=HK3.out.cell d0 (by simp);have e1:=HK3.out.cell d1 (by simp);have e17:=HK3.out.cell d17 (by simp);refine gD z rfl ?_;rw [← hw3];clear hw3;refine hK0.out _ _ ⟨e0,e1⟩ (fun hHeld=>?_);clear hK0 K0;(try simp only [sT,Act.put]);refine cd 6 (by kernel_rfl) rfl (fun K0 hK0=>?_);go_simp;refine hK0.out _ _ ⟨e0,e1⟩ (fun hHeld=>?_);clear hK0 K0;(try simp only [sT,Act.put]);refine cd 10 (by kernel_rfl) rfl (fun K0 hK0=>?_)
      have hlow:∀ k∈p :: F,k < B:=fun k hk=>by
       rcases List.mem_cons.1 hk with h | h
       ·rw [h];exact HAj.out.hp
       ·exact HAj.out.hf k h
      have hk23:ab (p :: F) wr.drew w3:=HK2.out.trans HK3.out (by simp);have hM3:=(HAj.out.em.low (ab.refl [] wr).drew (by simp)).low hk23 hlow;have hR3:eC W.heap.size w3 (.slice yj.vo yj.D.length yj.vc) yj.D:=bk (bk HRw.out (ab.refl [] wr).drew (by simp)) hk23 (fun k hk=>by have:=hlow k hk;have:=HBw.out;have:=HWs.out;omega);have HM3:=aa hM3;have HR3:=aa hR3;have HB3:=aa ((HAj.out.bx.kept (ab.refl [] wr).drew (by simp)).kept hk23 HAj.out.hn);have HRD3:=aa (Rd.kept HK3.out HR2.out (by simp) (by simp));have HZO:=aa (aL.mono (bk HO2.out HK3.out (by simp)) (show B≤wr.drew.heap.size from HAj.out.le));have HK03:=aa (HKj.out.trans ((((ab.refl [] wr).drew.mono (T:=p :: F) (by simp)).trans hk23 (fun k hk=>.inl hk)).mono (T:=b :: p :: F) (fun k hk=>.inl (List.mem_cons_of_mem _ hk))) (fun k hk=>.inl hk));have HSZ3:=aa (show w3.heap.size ≥ wr.heap.size from hk23.size);refine js W.heap.size (.slice yj.vo yj.D.length yj.vc) yj.D z w2.heap.size rfl hR3 rfl HZ3.out (by have:=HDj.out;have:=HNl.out;omega) (by have h1:=HK03.out.size;omega) ?_;clear hk23 hM3 hlow hR3;intro ao c D2 w4 HD2 HR4 HG4;have HM4:=aa (iC.grown HD2.out HM3.out HR3.out HG4.out HIO.out HZO.out (by have:=HBw.out;have:=HWs.out;omega) HR4.out);obtain ⟨S4,hk4,hS4⟩:=fx HR3.out HG4.out;have hnS:∀ k,k < W.heap.size→k ∉ S4:=fun k h1 h2=>by have:=hS4 k h2;omega
      have g0:=hk4.cell e0 (hnS w.heap.size (by have:=HWs.out;omega));have g1:=hk4.cell e1 (hnS w.heap.size (by have:=HWs.out;omega));have hB4:=HB3.out.kept hk4 (hnS _ (by have:=HAj.out.hb;have:=HBw.out;have:=HWs.out;omega));have g17:=hB4.cell 17 rfl;have f17:=hB4.froz 17;have HB4:=aa hB4;have HRD4:=aa (Rd.kept hk4 HRD3.out (hnS _ (by have:=HAj.out.hp;have:=HBw.out;have:=HWs.out;omega)) (fun k hk=>hnS _ (by have:=HAj.out.hf k hk;have:=HBw.out;have:=HWs.out;omega)));have HK04:=aa (HK03.out.trans hk4 (fun k hk=>.inr (hS4 k hk)));have HSZ4:=aa (show w4.heap.size ≥ w3.heap.size from hk4.size);clear hk4 hS4 hnS hB4;refine hK0.out _ _ ⟨g0,g1⟩ (fun hHeld=>?_);clear hK0 K0;(try simp only [sT,Act.put]);refine ay [11,12] (by rfl) (by kernel_rfl) (fun _ _ _ _ _ h=>h) hHeld ?_
      iterate 2
       refine yk ?_ rfl (Or.inl ⟨by rfl,?_⟩) ?_;rotate_left
       ·intro w9 hSw;obtain ⟨m0,m1⟩:=hSw;go_simp;(try with_reducible rfl)
       try simp only [sT,Act.put]
      refine ax ?_;simp only [ai,sT];refine cd 13 (by kernel_rfl) rfl (fun K0 hK0=>?_);go_simp;have hB5:=HB4.out.set 17 (.slice ao D2.length c);have hk5:ab [b] w4 (w4.setCell ⟨b,17,none⟩ (.slice ao D2.length c)):=aj _ _ _ _;have hqb:w.heap.size≠b:=by have:=HAj.out.hb;have:=HBw.out;omega
      have r0:=hk5.cell g0 (by simpa using hqb);have r1:=hk5.cell g1 (by simpa using hqb)
      have HA5:Hid (iI p F B b (w4.setCell ⟨b,17,none⟩ (.slice ao D2.length c)) (bP eB (j+1) s1).2 { yj with vo:=ao,vc:=c,D:=D2 }):=by
       have hbn:=HAj.out.hn;rw [HNX.out];refine ⟨hB5,HM4.out.low hk5 (by simpa using HAj.out.hb),Rd.kept hk5 HRD4.out (fun h=>hbn (by simp at h;rw [← h];exact List.mem_cons_self ..)) (fun k hk h=>hbn (by simp at h;rw [← h];exact List.mem_cons_of_mem _ hk)),?_,HAj.out.hf,HAj.out.hp,HAj.out.hb,HAj.out.hn,?_⟩
       ·exact Nat.le_trans (eu gx _ HAj.out.rd.nl.1 HAj.out.rd.nl.2) HAj.out.lb
       ·have h1:=hk5.size;have h2:=HSZ4.out;have h3:=HSZ3.out;have h4:=HAj.out.le;omega
      have HK5:=aa (HK04.out.trans hk5 (by simp));have HR5:Hid (eC W.heap.size (w4.setCell ⟨b,17,none⟩ (.slice ao D2.length c)) (.slice ao D2.length c) D2):=bk HR4.out hk5 (fun k hk=>by simp at hk;subst hk;have:=HAj.out.hb;have:=HBw.out;have:=HWs.out;omega)
      have HE5:Hid ((bP eB (j+1) s1).2.2=0→Mm.ms { yj with vo:=ao,vc:=c,D:=D2 }={ y.ms with l:=(bP eB (j+1) s1).1 }):=fun h=>by
       rw [HNX.out] at h ⊢;have h0:=mg gx _ HAj.out.rd.nl.2 h;have h1:=HEj.out h0;have h2:=HZ2.out h;have h3:Mm.ms { yj with vo:=ao,vc:=c,D:=D2 }={ yj.ms with l:=yj.ms.l++[z.v] }:=by rw [HD2.out];unfold Mm.ms;simp
       rw [h3,h1,h2]
      have HD5:Hid (D2.length=j+1):=by show _=_;rw [HD2.out];have:=HDj.out;simp;omega
      clear hB5 hk5 hqb g17 f17;refine hK0.out _ _ ⟨r0,r1⟩ (fun hHeld=>?_);clear hK0 K0;refine wpAnyH_done (by kernel_rfl) ?_ _;clear hHeld;(go_wp2_with fail);go_roundw
      case rel=>exact ⟨j+1,{ yj with vo:=ao,vc:=c,D:=D2 },by go_num,by omega,HA5,HK5,HE5,HD5,HYKj,HR5,HIO⟩
      case measure=>simp [intOf];omega
   ·have hlt':¬ (j:Int) < (N:Int):=by omega
    have hje:j=N:=by omega
    have H3:Hid (nZ p F B b w s y .L (.returned (.tuple #[])) wr):=by
     have hv:gm s=bP eB j s1:=by rw [hje];exact HVM.out
     refine ⟨rfl,yj,?_,(HK1.out.mono (by simp)).trans HKj.out (fun k hk=>.inl hk),fun h _=>?_,HYKj.out,fun h=>by rcases h with h | h <;> cases h⟩
     ·show iI p F B b wr (gm s).2 yj;rw [hv];exact HAj.out
     ·show yj.ms={ y.ms with l:=(gm s).1 };have h2:(gm s).2.2=0:=h;rw [hv] at h2 ⊢;exact HEj.out h2
    clear hje;(go_wp2_with fail);go_returns
    exact H3.out
end Go.Proofs.YtakafmejllilnaaGreat
