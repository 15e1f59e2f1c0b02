/-
  Texts laid as one.
-/
import Derived.Test.YtakafmejllilnaaGreatW0r
import Derived.Test.YtakafmejllilnaaGreatH1r
import Derived.Test.YtakafmejllilnaaGreatW10r
import Derived.Test.YtakafmejllilnaaGreatH3r
set_option maxHeartbeats 8000000
set_option maxRecDepth 100000
set_option linter.unusedSimpArgs false
/-
 read: what a body tells.
-/
namespace Go.Proofs.YtakafmejllilnaaGreat
open Go.RowKit
theorem uk (p:Nat) (F:List Nat) (B b:Nat) (w:World) (s:List Int × Int) (y:Mm) (f:Fd) (fn:FuncId) (hfn:fn=match f with | .B=>168 | .S=>171 | .T=>172 | .V=>173 | .L=>175 | .I=>169 | .N=>170 | .R=>174)
 (hA:iI p F B b w s y) (hL:f=.L→y.D=[]∧y.vo=none∧y.vc=0∧y.io=none):Calls Tryz.prog fn #[.agg #[.pointer (some ⟨p,0,none⟩),.pointer (some ⟨b,0,none⟩)]] w (nZ p F B b w s y f):=by
 subst hfn;cases f
 ·exact rk p F B b w s y hA
 ·exact rQ p F B b w s y hA
 ·exact r3 p F B b w s y hA
 ·exact se p F B b w s y hA
 ·obtain ⟨h1,h2,h3,h4⟩:=hL rfl;exact rZ p F B b w s y hA h1 h2 h3 h4
 ·exact qP p F B b w s y hA
 ·exact rV p F B b w s y hA
 ·exact rB p F B b w s y hA
theorem uw {k:Int}(h:Fd.L∈bc k):k=2:=by
 unfold bc at h;repeat' split at h
 all_goals first | assumption | (simp at h;done)
theorem wS (k:Int) (i:Nat) (h:i < (bc k).length) (hL:Fd.L∈(bc k).drop (i+1)):(bc k)[i]=.B∨(bc k)[i]=.S:=by
 have hk:=uw (List.mem_of_mem_drop hL);subst hk;have e:bc 2=[.B,.S,.L]:=by decide
 have h3:i < 3:=by rw [e] at h;exact h
 have hi:i=0∨i=1∨i=2:=by omega
 rcases hi with rfl | rfl | rfl
 ·exact .inl rfl
 ·exact .inr rfl
 ·rw [e] at hL;cases hL
theorem kG (fs:List Fd) (f:Fd) (m:Ms) (s:List Int × Int):aU (fs++[f]) m s=gw f (aU fs m s).1 (aU fs m s).2:=by
 induction fs generalizing m s with
 | nil=>rfl
 | cons g fs ih=>exact ih _ _
theorem kp {t:List UInt8}(h:eS t=true):t.length≤140737488351232:=by unfold eS at h;simp at h;omega
theorem qI {v:Vt}(h:fH v):v.p.length≤140737488351232∧∀ y∈v.k,y.n.length≤140737488351232∧∀ z∈y.c,z.p.length≤140737488351232:=by
 obtain ⟨_,h2⟩:=h;unfold sY at h2;split at h2
 ·rw [← h2.2];exact ⟨by simp,fun c hc=>by cases hc⟩
 split at h2
 ·rw [← h2.2];exact ⟨by simp,fun c hc=>by cases hc⟩
 split at h2
 ·have h3:=kp h2.1.1;rw [← h2.2];exact ⟨h3,fun c hc=>by cases hc⟩
 split at h2
 ·have h3:=kp h2.1.1;rw [← h2.2];exact ⟨h3,fun c hc=>by cases hc⟩
 split at h2
 ·have h3:=kp h2.1;rw [← h2.2];exact ⟨h3,fun c hc=>by cases hc⟩
 split at h2
 ·have h3:∀ y∈v.k,y.n.length≤140737488351232∧∀ z∈y.c,z.p.length≤140737488351232:=fun y hy=>⟨kp (h2.1.2 y hy).2.2.1,fun z hz=>kp ((h2.1.2 y hy).2.2.2.2 z hz).1⟩;rw [← h2.2];exact ⟨by simp,h3⟩
 split at h2
 ·rw [← h2.2];exact ⟨by simp,fun c hc=>by cases hc⟩
 ·rw [h2];exact ⟨by simp,fun c hc=>by cases hc⟩
theorem pC {w:World}{v:Vt}{u:Value}(h:nH w u v.k) (hv:fH v):eb [] w v u:=by
 have hi:=qI hv;obtain ⟨ao,n,c,K,e,hS,hK,h0⟩:=h;refine ⟨⟨ao,n,c,K,e,⟨hS.1,hS.2.1,hS.2.2.1,h0,hS.2.2.2.1,fun hn k hk=>⟨?_,by simp⟩,fun x hx=>vY (hS.2.2.2.2 x hx)⟩,hK⟩,hi.1,hi.2⟩;obtain ⟨b,o,rfl,hc⟩:=hS.some hn;simp [bO] at hk
 subst hk;exact kK (hc 0 (by rw [hS.1];exact hn)).c0
theorem eC.slv {B:Nat}{w:World}{ao:Option Addr}{c:Nat}{D:List Vm}(h1:eC B w (.slice ao D.length c) D) (hx:∀ y∈D,dS [] w y.x):p2 w ao D.length c D:=by
 obtain ⟨ao',c',e,hc,hm,hno,hg⟩:=ka h1;obtain ⟨rfl,_,rfl⟩:ao=ao'∧D.length=D.length∧c=c':=by injection e with a b d;exact ⟨a,rfl,d⟩
 refine ⟨rfl,hc,hm,hno,fun i hi=>?_,hx⟩;rcases hg with hg | ⟨g,rfl⟩
 ·omega
 ·refine ⟨g,0,rfl,fun j u hu=>?_⟩
  have hj:j < 13:=by
   by_cases hl:j < 13
   ·exact hl
   ·rw [List.getElem?_eq_none (by rw [fN];omega)] at hu;cases hu
  have:=World.ownsRow.cellAt (w:=w) (base:=B) (e:=55) (size:=13) (n:=D.length) (cap:=c) (g:=g) (xs:=D.flatMap cq) h1 (i*13+j) (by omega)
  rw [Nat.zero_add,this,qV D i hi j hj,hu]
theorem iC.hy {B:Nat}{w:World}{y:Mm}(h:iC B w y) (hf:fX y.ms):cb w y:=by
 have hu:=vP hf;obtain ⟨_,_,_,_,h4,h5⟩:=hf;have h6:=(gP y.ms).1 h5
 have hq:ff y.x.r:=by
  by_cases hV:Fd.V∈bc y.ms.k
  ·exact h4 .V hV
  ·have e:y.x.r=cl:=h6 .V hV;rw [e];exact ⟨by decide,rfl⟩
 have hl:∀ v∈y.ms.l,ff v.v:=by
  by_cases hL:Fd.L∈bc y.ms.k
  ·exact fun v hv=>((h4 .L hL).2 v hv).2.2
  ·have e:y.ms.l=[]:=h6 .L hL;rw [e];intro v hv;cases hv
 have hr:fH y.r:=by
  by_cases hR:Fd.R∈bc y.ms.k
  ·exact h4 .R hR
  ·have e:y.r=bD:=h6 .R hR;rw [e];exact ⟨by decide,rfl⟩
 exact ⟨lL h.x hq,h.v.slv (fun z hz=>lL (h.vx z hz) (hl z.v (List.mem_map_of_mem hz))),h.i,h.o,pC h.r.ko hr,hu.u,fun z hz=>hu.uv z.v (List.mem_map_of_mem hz),hu.ur⟩
def xV (w:World) (l:List Int) (r:Ending) (w':World):Prop :=
 ∃ y,r=.returned (.tuple #[.agg (aX y).toArray,.int .i64 (gc (dM (l,0)).2)])∧ab [] w w'∧(gc (dM (l,0)).2=0→y.ms=(dM (l,0)).1∧iC w.heap.size w' y)
theorem lz (l:List Int):dM (l,0)=aU (bc (az (l,0)).1) (bX (az (l,0)).1 (az (bl (l,0)).2).1 (az (az (bl (l,0)).2).2).1) (az (az (bl (l,0)).2).2).2:=by
 have h:(bl (l,0)).1=(az (l,0)).1:=by unfold bl;split <;> rfl
 show aU (bc (bl (l,0)).1) (bX (bl (l,0)).1 _ _) _=_;rw [h]
theorem iC.bot {B C:Nat}{w:World}{y:Mm}(h:iC B w y) (hC:C≤B):iC C w y :=
 ⟨aL.mono h.x hC,h.v.mono hC,fun z hz=>aL.mono (h.vx z hz) hC,h.i,fun k hk=>Nat.le_trans hC (h.ib k hk),h.o,bJ.mono h.r hC⟩
theorem pp (f:Fd) (m m':Ms) (s:List Int × Int):(gw f m s).2=(gw f m' s).2:=by cases f <;> rfl
theorem dI:(Tryz.prog.info? 36).map (·.size)=some 27:=by kernel_rfl
theorem gz {ops:Array Oper}{a:Act}{w:World}{K:Act→World→Prop}{Q:Exit→Act→World→Prop}{E:Prop}{d:Option Tmp}{x y:Operand}{T ty:TypeId}{ps:String}{af:Array Edge}
 {b:Nat}{cs ds:List Value}(hc:Bx w b T cs) (hl:ds.length=cs.length) (h1:∀ v∈ds,v.oneCell'=true) (hT:aq Tryz.prog T ds.length)
 (hx:a.eval x=.pointer (some ⟨b,0,none⟩)) (hy:a.eval y=.agg ds.toArray) (h:∀ w',Hid (Bx w' b T ds)→Hid (ab [b] w w')→K (a.put d undef) w') :
 if Region.wanted (⟨d,.store T x y,ty,ps,af,none⟩:Oper) (yielded ops a.tmps)=true then Oper.wp Tryz.prog ⟨d,.store T x y,ty,ps,af,none⟩ a w K Q else E:=by
 obtain ⟨D,hu,hd,hi⟩:=hT;exact fh rfl (wp_store_mid _ x y rfl b 0 ds.toArray hx hy (by rw [List.size_toArray,hl];exact hc.there) (by rw [List.size_toArray];exact hi) (all_oneCell_toArray h1) (h _ (hc.store hl) (dm (by simp) _ _ (ab.refl _ _))))
def br:List Value:=[.int .i64 0,.int .i64 0,.int .i64 0,.int .i64 0,.int .i64 0,.int .i64 0,
 .int .i64 0,.string ⟨#[]⟩,.int .i64 0,.int .i64 0,.int .i64 0,.string ⟨#[]⟩,.slice none 0 0,.string ⟨#[]⟩,.int .i64 0,.int .i64 0,.int .i64 0,
 .slice none 0 0,.slice none 0 0,.int .i64 0,.int .i64 0,.int .i64 0,.int .i64 0,.string ⟨#[]⟩,.int .u64 0,.slice none 0 0,.int .i64 0]
theorem ow (B:Nat) (w:World) (k f t:Int):iC B w { eI with k:=k,f:=f,t:=t } :=
 ⟨aL.nil _ _,World.ownsRow_nil w B 55 13,(fun z hz=>by cases hz),Sl.nil _,(fun k hk=>by cases hk),bq,bJ.nil _ _⟩
def yt (p:Nat) (F:List Nat) (B b z:Nat) (W:World) (g:Nat) (fs:List Fd) (m:Ms) (s:List Int × Int) (iv:Value) (wr:World):Prop :=
 ∃ (i:Nat) (yi:Mm),iv=.int .i64 (i:Int)∧i≤fs.length∧Hid (iI p F B b wr (aU (fs.take i) m s).2 yi)∧Hid (ab [] W wr)∧Hid ((aU (fs.take i) m s).2.2=0→yi.ms=(aU (fs.take i) m s).1) ∧
  Hid (Fd.L∈fs.drop i→yi.D=[]∧yi.vo=none∧yi.vc=0∧yi.io=none)∧Hid (Bx wr g 1 (fs.map (sX 104 (.agg #[.pointer (some ⟨p,0,none⟩),.pointer (some ⟨b,0,none⟩)]))))∧Hid (Bx wr z 36 br)
theorem qE (w:World) (ao:Option Addr) (n c:Nat) (l:List Int) (hs:Sl w ao n c l) (hn:n≤1000000000) (ho:bi l):Calls Tryz.prog 24 #[.slice ao n c] w (xV w l):=by
 obtain ⟨W,hW⟩:∃ W,W=w.alloc (.cells br.toArray 36):=⟨_,rfl⟩;have hK:ab [] w W:=by rw [hW];exact (ab.refl _ _).alloc _
 have HBZ:Hid (Bx W w.heap.size 36 br):=by rw [hW];exact Bx.new w _ _
 have HWs:Hid (W.heap.size=w.heap.size+1):=by show _=_;rw [hW];simp
 have HK:=aa hK;have hln:=hs.1;have HLN:Hid (l.length≤1000000000):=by show _≤_;omega
 have cR:=aa (kE W ao n c l (Sl.kept hK hs (by simp)) (by omega) ho);have HW:Hid (W=w.alloc (.cells br.toArray 36)):=hW;unfold br at HW;clear hW hK hs hln hn ho;go_enter Tryz.func24,Tryz.ntmps24;go_upto_region 1 with fail
 rw [← HW.out];go_wp2_with fail
 refine cR.out.mono ?_;clear cR;rintro _ w1 ⟨p,F,rfl,hp,hF0,hF1,hR1,hk1⟩;obtain ⟨W2,hW2⟩:∃ W2,W2=w1.alloc (.cells br.toArray 36):=⟨_,rfl⟩;have k2:ab [] w1 W2:=by rw [hW2];exact (ab.refl _ _).alloc _
 have hB2:Bx W2 w1.heap.size 36 (aX eI):=by rw [hW2];exact Bx.new w1 _ _
 obtain ⟨b,hb⟩:∃ b,b=w1.heap.size:=⟨_,rfl⟩;have hs2:W2.heap.size=b+1:=by rw [hW2,hb];simp
 have hpl:=hR1.lt;have hW1:=hk1.size;have HW2:Hid (W2=w1.alloc (.cells br.toArray 36)):=hW2;unfold br at HW2
 have hA2:iI p F (b+1) b W2 (l,0) eI:=⟨by rw [hb];exact hB2,ow _ _ 0 0 0,Rd.kept k2 hR1 (by simp) (by simp),HLN.out,fun k hk=>by have:=hF1 k hk;omega,by omega,by omega,fun h=>by
  rcases List.mem_cons.1 h with h | h
  ·omega
  ·have:=hF1 _ h;omega,by omega⟩
 have HZ2:=aa ((HBZ.out.kept hk1 (by simp)).kept k2 (by simp));have HK2:=aa ((HK.out.trans hk1 (by simp)).trans k2 (by simp))
 have HZN:Hid (w.heap.size ∉ b :: p :: F):=fun h=>by
  have h0:=HWs.out;rcases List.mem_cons.1 h with h | h
  ·omega
  ·rcases List.mem_cons.1 h with h | h
   ·omega
   ·have:=hF0 _ h;omega
 have HNEW:Hid (∀ k∈b :: p :: F,w.heap.size < k):=fun k h=>by
  have h0:=HWs.out;rcases List.mem_cons.1 h with h | h
  ·omega
  ·rcases List.mem_cons.1 h with h | h
   ·omega
   ·have:=hF0 _ h;omega
 have hnb:b≠p:=by omega
 have HNB:=aa hnb;have HA2:=aa hA2;have cN:=aa (cz W2 p F l 0 hA2.rd);have HBE:Hid (w1.heap.size=b):=hb.symm;clear hW2 k2 hB2 hs2 hpl hW1 hA2 hp hF0 hF1 hR1 hk1 hnb hb;go_upto_region 3 with fail
 rw [← HW2.out,HBE.out];go_wp2_with fail
 refine cN.out.mono ?_;clear cN;rintro _ w3 ⟨rfl,hR3,hk3⟩;have hB3:=HA2.out.bx.kept hk3 (by simpa using HNB.out);have e0:=hB3.cell 0 rfl;have f0:=hB3.froz 0;have hB3':Bx (w3.setCell ⟨b,0,none⟩ (.int .i64 (an 0 l).2.1)) b 36 (aX { eI with k:=(az (l,0)).1 }):=hB3.set 0 _;have k3:ab [b] w3 (w3.setCell ⟨b,0,none⟩ (.int .i64 (an 0 l).2.1)):=aj _ _ _ _;have hl3:(az (l,0)).2.1.length≤1000000000:=Nat.le_trans (eu aG (l,0) HA2.out.rd.nl.1 HA2.out.rd.nl.2) HLN.out;have hA3:=ey (s':=(az (l,0)).2) (y':={ eI with k:=(az (l,0)).1 }) HA2.out hB3' (ow _ _ _ _ _) hR3 hl3 (hk3.mono (by simp)) k3;have HA3:=aa hA3.1;have HK3:=aa hA3.2;have g0:=hB3'.cell 0 rfl;clear hB3 hB3' k3 hl3 hA3 hR3 hk3;have hnn:=m6;have hns:=mF;have HKW3:=aa (HK2.out.trans HK3.out (fun k hk=>.inr (Nat.le_of_lt (HNEW.out k hk))));have HZ3:=aa (HZ2.out.kept HK3.out HZN.out);obtain ⟨w4,hw4⟩:∃ w4,w4=w3.setCell ⟨b,0,none⟩ (.int .i64 (an 0 l).2.1):=⟨_,rfl⟩;have HW4:Hid (w4=w3.setCell ⟨b,0,none⟩ (.int .i64 (an 0 l).2.1)):=hw4;have HKK:Hid ((an 0 l).2.1=(az (l,0)).1):=rfl;rw [← hw4] at HKW3 g0;have HA4:Hid (iI p F (b+1) b w4 (az (l,0)).2 { eI with k:=(az (l,0)).1 }):=by rw [hw4];exact HA3
 have HZ4:Hid (Bx w4 w.heap.size 36 br):=by rw [hw4];exact HZ3
 clear hw4;have HMS:=aa (lz l);go_upto_region 4 with fail
 rw [← HW4.out];clear e0 f0 HA3 HK3 HZ3 HW4;by_cases hk:bc (az (l,0)).1=[]
 ·have cO:=aa (kd w4 (.iface 104 (.agg #[.pointer (some ⟨p,0,none⟩),.pointer (some ⟨b,0,none⟩)])) (az (l,0)).1 hk);have HKN:Hid (bl (l,0)=((az (l,0)).1,([],aO (az (l,0)).2.2))):=if_pos hk;(go_wp2_with fail);refine cO.out.mono ?_;clear cO;rintro _ w5' ⟨rfl,rfl⟩;have cF:=aa (gH w5' p F _ _ HA4.out.rd);(go_wp2_with fail);refine cF.out.mono ?_;clear cF;rintro _ w5 ⟨rfl,hR5,hk5⟩
  have HA5:Hid (iI p F (b+1) b w5 (bl (l,0)).2 { eI with k:=(az (l,0)).1 }):=by
   rw [HKN.out];have h1:=hk5.size;have h2:=HA4.out.le;exact ⟨HA4.out.bx.kept hk5 (by simpa using HNB.out),ow _ _ _ _ _,hR5,by simp,HA4.out.hf,HA4.out.hp,HA4.out.hb,HA4.out.hn,by omega⟩
  have HKW5:=aa (HKW3.out.trans hk5 (fun k hk=>.inr (Nat.le_of_lt (HNEW.out k (by simp at hk;rw [hk];simp)))));have HZ5:=aa (HZ4.out.kept hk5 (fun h=>HZN.out (by simp at h;rw [h];simp)));clear hR5 hk5 g0;have cN:=aa (cz w5 p F _ _ HA5.out.rd);(go_wp2_with fail);refine cN.out.mono ?_;clear cN;rintro _ v6 ⟨rfl,hR,hk⟩;have hB:=HA5.out.bx.kept hk (by simpa using HNB.out);have e6:=hB.cell 1 rfl;have f6:=hB.froz 1;have hB':Bx (v6.setCell ⟨b,1,none⟩ (.int .i64 (az (bl (l,0)).2).1)) b 36 (aX { eI with k:=(az (l,0)).1,f:=(az (bl (l,0)).2).1 }):=hB.set 1 _;have k3:ab [b] v6 (v6.setCell ⟨b,1,none⟩ (.int .i64 (az (bl (l,0)).2).1)):=aj _ _ _ _;have hl:(az (bl (l,0)).2).2.1.length≤1000000000:=Nat.le_trans (eu aG (bl (l,0)).2 HA5.out.rd.nl.1 HA5.out.rd.nl.2) HA5.out.lb;have hAK:=ey (s':=(az (bl (l,0)).2).2) (y':={ eI with k:=(az (l,0)).1,f:=(az (bl (l,0)).2).1 }) HA5.out hB' (ow _ _ _ _ _) hR hl (hk.mono (by simp)) k3;obtain ⟨w6,hw⟩:∃ w6,w6=v6.setCell ⟨b,1,none⟩ (.int .i64 (az (bl (l,0)).2).1):=⟨_,rfl⟩;rw [← hw] at hAK;have HA6:=aa hAK.1;have HKW6:=aa (HKW5.out.trans hAK.2 (fun k hk=>.inr (Nat.le_of_lt (HNEW.out k hk))));have HZ6:=aa (HZ5.out.kept hAK.2 HZN.out);have HW6:Hid (w6=v6.setCell ⟨b,1,none⟩ (.int .i64 (an ((bl (l,0)).2).2 ((bl (l,0)).2).1).2.1)):=hw;clear hw hB hB' k3 hl hAK hR hk;go_upto_region 8 with fail
  rw [← HW6.out];clear e6 f6 HW6;have cN:=aa (cz w6 p F _ _ HA6.out.rd);(go_wp2_with fail);refine cN.out.mono ?_;clear cN;rintro _ v7 ⟨rfl,hR,hk⟩;have hB:=HA6.out.bx.kept hk (by simpa using HNB.out);have e7:=hB.cell 2 rfl;have f7:=hB.froz 2;have hB':Bx (v7.setCell ⟨b,2,none⟩ (.int .i64 (az (az (bl (l,0)).2).2).1)) b 36 (aX { eI with k:=(az (l,0)).1,f:=(az (bl (l,0)).2).1,t:=(az (az (bl (l,0)).2).2).1 }):=hB.set 2 _;have k3:ab [b] v7 (v7.setCell ⟨b,2,none⟩ (.int .i64 (az (az (bl (l,0)).2).2).1)):=aj _ _ _ _;have hl:(az (az (bl (l,0)).2).2).2.1.length≤1000000000:=Nat.le_trans (eu aG (az (bl (l,0)).2).2 HA6.out.rd.nl.1 HA6.out.rd.nl.2) HA6.out.lb;have hAK:=ey (s':=(az (az (bl (l,0)).2).2).2) (y':={ eI with k:=(az (l,0)).1,f:=(az (bl (l,0)).2).1,t:=(az (az (bl (l,0)).2).2).1 }) HA6.out hB' (ow _ _ _ _ _) hR hl (hk.mono (by simp)) k3;obtain ⟨w7,hw⟩:∃ w7,w7=v7.setCell ⟨b,2,none⟩ (.int .i64 (az (az (bl (l,0)).2).2).1):=⟨_,rfl⟩;rw [← hw] at hAK;have HA7:=aa hAK.1;have HKW7:=aa (HKW6.out.trans hAK.2 (fun k hk=>.inr (Nat.le_of_lt (HNEW.out k hk))));have HZ7:=aa (HZ6.out.kept hAK.2 HZN.out);have HW7:Hid (w7=v7.setCell ⟨b,2,none⟩ (.int .i64 (an ((az (bl (l,0)).2).2).2 ((az (bl (l,0)).2).2).1).2.1)):=hw;clear hw hB hB' k3 hl hAK hR hk;go_upto_region 9 with fail
  rw [← HW7.out];clear e7 f7 HW7;obtain ⟨y7,hy7⟩:∃ y7:Mm,y7={ eI with k:=(az (l,0)).1,f:=(az (bl (l,0)).2).1,t:=(az (az (bl (l,0)).2).2).1 }:=⟨_,rfl⟩;rw [← hy7] at HA7;clear hy7;obtain ⟨s3,hs3⟩:∃ s3,s3=(az (az (bl (l,0)).2).2).2:=⟨_,rfl⟩;have HMX:Hid ((dM (l,0)).2=s3):=by show _=_;rw [HMS.out,hk,hs3];rfl
  have HBAD:Hid (s3.2≠0):=by
   show s3.2≠0
   have he:aO (az (l,0)).2.2≠0:=by
    unfold aO;split
    ·decide
    ·assumption
   rw [hs3,HKN.out];have h1:az ([],aO (az (l,0)).2.2)=(0,([],aO (az (l,0)).2.2)):=Prod.ext (by show (an _ []).2.1=0;rw [eV _ he]) (aG.bad _ he);rw [h1,h1];exact he
  rw [← hs3] at HA7;clear hs3 hk;(go_wp2_with fail);go_loopw [32] (fun iv wr=>iv=.int .i64 0∧Hid (iI p F (b+1) b wr s3 y7)∧Hid (ab [] w wr)∧Hid (Bx wr w.heap.size 36 br)) (fun _ _=>0)
  case atStart=>exact ⟨rfl,HA7,HKW7,HZ7⟩
  case round =>
   obtain ⟨rfl,HAe,HKi,HZi⟩:=hrel;have q5:=HAe.out.bx.range;have cE:=aa (na wr.drew p F _ _ (Rd.kept (ab.refl [] wr).drew HAe.out.rd (by simp) (by simp)));have HTZ:Hid (aq Tryz.prog 36 (aX y7).length):=cL;have HZD:Hid (Bx wr.drew w.heap.size 36 br):=HZi.out
   have HEE:Hid ((if (s3).2=0 then (if (s3).1.length=0 then 0 else 3) else (s3).2)=gc (dM (l,0)).2):=by
    show _=_;rw [HMX.out];rfl
   have HWB:Hid (w.heap.size≠b):=fun h=>HZN.out (by rw [h];exact List.mem_cons_self ..);go_upto_region 14 with fail
   refine wp_region_held_drew (S:=fun w9=>w9.rangeAt b 0 (aX y7)) (by kernel_rfl) q5 (fun hHeld=>?_);refine wpAnyH_take (i:=0) (v:=.agg (aX y7).toArray) rfl (by kernel_rfl) (by kernel_rfl) (by kernel_rfl) (fun _ _ _ h=>h) (yieldsIf_load_mid (by rfl) _ _ rfl b 0 rfl (aX y7) _ (fun w9 hSw=>hSw) Tryz.underlying36 rfl dI) hHeld ?_;(try simp only [sT,Act.put]);refine ay [1] (by rfl) (by kernel_rfl) (fun _ _ _ _ _ h=>h) hHeld ?_
   iterate 1
    refine yk ?_ rfl (Or.inl ⟨by rfl,?_⟩) ?_;rotate_left
    ·intro w9 hSw;go_simp;(try with_reducible rfl)
    try simp only [sT,Act.put]
   refine ax ?_;simp only [ai,sT];refine cd 2 (by kernel_rfl) rfl (fun K0 hK0=>?_);go_simp;rw [HEE.out] at cE;refine cE.out.mono ?_;clear cE;rintro _ w9 ⟨rfl,rfl⟩;(go_wp2_with fail);refine hK0.out _ _ q5 (fun hHeld=>?_);clear hK0 K0;(try simp only [sT,Act.put]);refine cd 3 (by kernel_rfl) rfl (fun K0 hK0=>?_);refine gz (ds:=aX y7) HZD.out rfl (dJ _) HTZ.out rfl rfl fun w10 HB10 HK10=>?_;refine hK0.out _ _ (fO HK10.out q5 (by simpa using Ne.symm HWB.out)) (fun hHeld=>?_);clear hK0 K0;(try simp only [sT,Act.put]);refine ay [4] (by rfl) (by kernel_rfl) (fun _ _ _ _ _ h=>h) hHeld ?_
   iterate 1
    refine yk ?_ rfl (Or.inl ⟨by rfl,?_⟩) ?_;rotate_left
    ·intro w9 hSw;go_simp;(try with_reducible rfl)
    try simp only [sT,Act.put]
   refine ax ?_;simp only [ai,sT];refine wpAnyH_done (by kernel_rfl) ?_ _;clear hHeld;(go_wp2_with fail);refine bodyPost_ret (bY (by rfl) _ (by rfl) HB10.out HTZ.out) rfl ?_;refine ⟨y7,rfl,HKi.out.trans (((ab.refl [] wr).drew.mono (T:=[w.heap.size]) (by simp)).trans HK10.out (by simp)) (by simp),fun h=>?_⟩;rw [HMX.out] at h;have h2:=fE h;exact absurd (by rw [h2]) HBAD.out
 ·have cO:=aa (iw w4 104 (.agg #[.pointer (some ⟨p,0,none⟩),.pointer (some ⟨b,0,none⟩)]) (az (l,0)).1 hk);have HKN:Hid (bl (l,0)=az (l,0)):=if_neg hk;(go_wp2_with fail);refine cO.out.mono ?_;clear cO;rintro _ w5 ⟨rfl,hG,hk5⟩
  have HGB:Hid (w4.heap.size ∉ b :: p :: F):=fun h=>by
   have h1:=HA4.out.le;have h2:=HA4.out.hp;have h3:=HA4.out.hb;rcases List.mem_cons.1 h with h | h
   ·omega
   ·rcases List.mem_cons.1 h with h | h
    ·omega
    ·have:=HA4.out.hf _ h;omega
  have HA5:Hid (iI p F (b+1) b w5 (bl (l,0)).2 { eI with k:=(az (l,0)).1 }):=by rw [HKN.out];exact HA4.out.kept hk5
  have HKW5:=aa (HKW3.out.trans hk5 (by simp));have HZ5:=aa (HZ4.out.kept hk5 (by simp));have HG5:=aa hG;clear hG hk5 g0;have cN:=aa (cz w5 p F _ _ HA5.out.rd);(go_wp2_with fail);refine cN.out.mono ?_;clear cN;rintro _ v6 ⟨rfl,hR,hk⟩;have hB:=HA5.out.bx.kept hk (by simpa using HNB.out);have e6:=hB.cell 1 rfl;have f6:=hB.froz 1;have hB':Bx (v6.setCell ⟨b,1,none⟩ (.int .i64 (az (bl (l,0)).2).1)) b 36 (aX { eI with k:=(az (l,0)).1,f:=(az (bl (l,0)).2).1 }):=hB.set 1 _;have k3:ab [b] v6 (v6.setCell ⟨b,1,none⟩ (.int .i64 (az (bl (l,0)).2).1)):=aj _ _ _ _;have hl:(az (bl (l,0)).2).2.1.length≤1000000000:=Nat.le_trans (eu aG (bl (l,0)).2 HA5.out.rd.nl.1 HA5.out.rd.nl.2) HA5.out.lb;have hAK:=ey (s':=(az (bl (l,0)).2).2) (y':={ eI with k:=(az (l,0)).1,f:=(az (bl (l,0)).2).1 }) HA5.out hB' (ow _ _ _ _ _) hR hl (hk.mono (by simp)) k3;obtain ⟨w6,hw⟩:∃ w6,w6=v6.setCell ⟨b,1,none⟩ (.int .i64 (az (bl (l,0)).2).1):=⟨_,rfl⟩;rw [← hw] at hAK;have HA6:=aa hAK.1;have HKW6:=aa (HKW5.out.trans hAK.2 (fun k hk=>.inr (Nat.le_of_lt (HNEW.out k hk))));have HZ6:=aa (HZ5.out.kept hAK.2 HZN.out);have HG6:=aa (HG5.out.kept hAK.2 HGB.out);have HW6:Hid (w6=v6.setCell ⟨b,1,none⟩ (.int .i64 (an ((bl (l,0)).2).2 ((bl (l,0)).2).1).2.1)):=hw;clear hw hB hB' k3 hl hAK hR hk;go_upto_region 8 with fail
  rw [← HW6.out];clear e6 f6 HW6;have cN:=aa (cz w6 p F _ _ HA6.out.rd);(go_wp2_with fail);refine cN.out.mono ?_;clear cN;rintro _ v7 ⟨rfl,hR,hk⟩;have hB:=HA6.out.bx.kept hk (by simpa using HNB.out);have e7:=hB.cell 2 rfl;have f7:=hB.froz 2;have hB':Bx (v7.setCell ⟨b,2,none⟩ (.int .i64 (az (az (bl (l,0)).2).2).1)) b 36 (aX { eI with k:=(az (l,0)).1,f:=(az (bl (l,0)).2).1,t:=(az (az (bl (l,0)).2).2).1 }):=hB.set 2 _;have k3:ab [b] v7 (v7.setCell ⟨b,2,none⟩ (.int .i64 (az (az (bl (l,0)).2).2).1)):=aj _ _ _ _;have hl:(az (az (bl (l,0)).2).2).2.1.length≤1000000000:=Nat.le_trans (eu aG (az (bl (l,0)).2).2 HA6.out.rd.nl.1 HA6.out.rd.nl.2) HA6.out.lb;have hAK:=ey (s':=(az (az (bl (l,0)).2).2).2) (y':={ eI with k:=(az (l,0)).1,f:=(az (bl (l,0)).2).1,t:=(az (az (bl (l,0)).2).2).1 }) HA6.out hB' (ow _ _ _ _ _) hR hl (hk.mono (by simp)) k3;obtain ⟨w7,hw⟩:∃ w7,w7=v7.setCell ⟨b,2,none⟩ (.int .i64 (az (az (bl (l,0)).2).2).1):=⟨_,rfl⟩;rw [← hw] at hAK;have HA7:=aa hAK.1;have HKW7:=aa (HKW6.out.trans hAK.2 (fun k hk=>.inr (Nat.le_of_lt (HNEW.out k hk))));have HZ7:=aa (HZ6.out.kept hAK.2 HZN.out);have HG7:=aa (HG6.out.kept hAK.2 HGB.out);have HW7:Hid (w7=v7.setCell ⟨b,2,none⟩ (.int .i64 (an ((az (bl (l,0)).2).2).2 ((az (bl (l,0)).2).2).1).2.1)):=hw;clear hw hB hB' k3 hl hAK hR hk;go_upto_region 9 with fail
  rw [← HW7.out];clear e7 f7 HW7;have hfl:=hY (az (l,0)).1;have hsl:=wS (az (l,0)).1;have HSL:=aa hsl;clear hsl hk;obtain ⟨m,hm⟩:∃ m,m=bX (az (l,0)).1 (az (bl (l,0)).2).1 (az (az (bl (l,0)).2).2).1:=⟨_,rfl⟩;obtain ⟨s3,hs3⟩:∃ s3,s3=(az (az (bl (l,0)).2).2).2:=⟨_,rfl⟩;have HM7:Hid (Mm.ms { eI with k:=(az (l,0)).1,f:=(az (bl (l,0)).2).1,t:=(az (az (bl (l,0)).2).2).1 }=m):=by show _=_;rw [hm];rfl
  rw [← hm,← hs3] at HMS;rw [← hs3] at HA7;clear hm hs3;obtain ⟨y7,hy7⟩:∃ y7:Mm,y7={ eI with k:=(az (l,0)).1,f:=(az (bl (l,0)).2).1,t:=(az (az (bl (l,0)).2).2).1 }:=⟨_,rfl⟩;have HL7:Hid (y7.D=[]∧y7.vo=none∧y7.vc=0∧y7.io=none):=by rw [hy7];exact ⟨rfl,rfl,rfl,rfl⟩
  rw [← hy7] at HA7 HM7;clear hy7;generalize bc (az (l,0)).1=fs at hfl HSL HMS HG7 ⊢;have hE1 : ∀ (x : Value) (w : World), (invoke (.fn (.method "wapentake/msg.ballot") #[]) #[.iface 104 x]).run Tryz.prog w = .ok (.enter 168 #[x]) w := fun _ _ => by kernel_rfl
  have hE2 : ∀ (x : Value) (w : World), (invoke (.fn (.method "wapentake/msg.slot") #[]) #[.iface 104 x]).run Tryz.prog w = .ok (.enter 171 #[x]) w := fun _ _ => by kernel_rfl
  have hE3 : ∀ (x : Value) (w : World), (invoke (.fn (.method "wapentake/msg.time") #[]) #[.iface 104 x]).run Tryz.prog w = .ok (.enter 172 #[x]) w := fun _ _ => by kernel_rfl
  have hE4 : ∀ (x : Value) (w : World), (invoke (.fn (.method "wapentake/msg.value") #[]) #[.iface 104 x]).run Tryz.prog w = .ok (.enter 173 #[x]) w := fun _ _ => by kernel_rfl
  have hE5 : ∀ (x : Value) (w : World), (invoke (.fn (.method "wapentake/msg.votes") #[]) #[.iface 104 x]).run Tryz.prog w = .ok (.enter 175 #[x]) w := fun _ _ => by kernel_rfl
  have hE6 : ∀ (x : Value) (w : World), (invoke (.fn (.method "wapentake/msg.image") #[]) #[.iface 104 x]).run Tryz.prog w = .ok (.enter 169 #[x]) w := fun _ _ => by kernel_rfl
  have hE7 : ∀ (x : Value) (w : World), (invoke (.fn (.method "wapentake/msg.number") #[]) #[.iface 104 x]).run Tryz.prog w = .ok (.enter 170 #[x]) w := fun _ _ => by kernel_rfl
  have hE8 : ∀ (x : Value) (w : World), (invoke (.fn (.method "wapentake/msg.verdict") #[]) #[.iface 104 x]).run Tryz.prog w = .ok (.enter 174 #[x]) w := fun _ _ => by kernel_rfl
  (go_wp2_with fail);go_loopw [32] (fun iv wr=>yt p F (b+1) b w.heap.size w w4.heap.size fs m s3 iv wr) (fun iv _=>fs.length - (intOf iv).toNat)
  case atStart=>exact ⟨0,y7,rfl,Nat.zero_le _,HA7,HKW7,fun _=>HM7.out,fun _=>HL7.out,HG7,HZ7⟩
  case round =>
   obtain ⟨i,yi,rfl,hi,HAi,HKi,HMi,HLi,HGi,HZi⟩:=hrel;by_cases hlt:i < fs.length
   ·have hlt':(i:Int) < fs.length:=by omega
    have hce:=HGi.out.cell i (v:=sX 104 (.agg #[.pointer (some ⟨p,0,none⟩),.pointer (some ⟨b,0,none⟩)]) fs[i]) (by rw [List.getElem?_map,List.getElem?_eq_getElem hlt];rfl);have hdr:fs.drop i=fs[i] :: fs.drop (i+1):=List.drop_eq_getElem_cons hlt;have hLf:fs[i]=.L→yi.D=[]∧yi.vo=none∧yi.vc=0∧yi.io=none:=fun h=>HLi.out (by rw [hdr,h];exact List.mem_cons_self ..);have HLN2:Hid (Fd.L∈fs.drop (i+1)→(fs[i]=.B∨fs[i]=.S)∧yi.D=[]∧yi.vo=none∧yi.vc=0∧yi.io=none):=fun h=>⟨HSL.out i hlt h,HLi.out (by rw [hdr];exact List.mem_cons_of_mem _ h)⟩;have HNX:Hid (aU (fs.take (i+1)) m s3=gw fs[i] (aU (fs.take i) m s3).1 (aU (fs.take i) m s3).2):=by show _=_;rw [List.take_succ_eq_append_getElem hlt,kG]
    generalize fs[i]=f at hce hLf HLN2 HNX;have cF:=aa (fun fn hfn=>uk p F (b+1) b wr _ yi f fn hfn HAi.out hLf);clear hdr hLf;cases f
    all_goals
     unfold sX xw at hce;(go_wp2_with fail);refine (cF.out _ rfl).mono ?_;clear cF hce;rintro _ w8 ⟨rfl,y8,hA8,hk8,hm8,_,hL8⟩;rw [pp _ yi.ms (aU (fs.take i) m s3).1,← HNX.out] at hA8;have HA8:=aa hA8;have HK8:=aa (HKi.out.trans hk8 (fun k hk=>.inr (Nat.le_of_lt (HNEW.out k hk))));have HG8:=aa (HGi.out.kept hk8 HGB.out);have HZ8:=aa (HZi.out.kept hk8 HZN.out)
     have HM8:Hid ((aU (fs.take (i+1)) m s3).2.2=0→y8.ms=(aU (fs.take (i+1)) m s3).1):=fun h=>by
      rw [HNX.out] at h ⊢;have h0:=mg (l7 _ (aU (fs.take i) m s3).1) _ HAi.out.rd.nl.2 h;have h1:=HMi.out h0;rw [pp _ _ yi.ms] at h;have h2:=hm8 h h0;rw [h1] at h2;exact h2
     have HL8:Hid (Fd.L∈fs.drop (i+1)→y8.D=[]∧y8.vo=none∧y8.vc=0∧y8.io=none):=fun h=>by
      obtain ⟨h1,h2,h3,h4,h5⟩:=HLN2.out h;obtain ⟨g1,g2,g3,g4⟩:=hL8 (by first | exact h1 | exact .inl rfl | exact .inr rfl);exact ⟨g1.trans h2,g2.trans h3,g3.trans h4,g4.trans h5⟩
     clear hA8 hk8 hm8 hL8;(go_wp2_with fail);go_roundw
     case rel=>exact ⟨i+1,y8,by go_num,by omega,HA8,HK8,HM8,HL8,HG8,HZ8⟩
     case measure=>simp [intOf];omega
   ·have hlt':¬ (i:Int) < fs.length:=by omega
    have HTK:Hid (fs.take i=fs):=List.take_of_length_le (by omega);have HAe:=HAi;have HMe:=HMi;rw [HTK.out] at HAe HMe;clear HAi HMi HLi HGi HTK;obtain ⟨x9,hx9⟩:∃ x9,x9=aU fs m s3:=⟨_,rfl⟩;rw [← hx9] at HAe HMe;have HMX:Hid (dM (l,0)=x9):=by show _=_;rw [hx9];exact HMS.out
    clear hx9;have q5:=HAe.out.bx.range;have cE:=aa (na wr.drew p F _ _ (Rd.kept (ab.refl [] wr).drew HAe.out.rd (by simp) (by simp)));have HTZ:Hid (aq Tryz.prog 36 (aX yi).length):=cL;have HZD:Hid (Bx wr.drew w.heap.size 36 br):=HZi.out
    have HEE:Hid ((if (x9.2).2=0 then (if (x9.2).1.length=0 then 0 else 3) else (x9.2).2)=gc (dM (l,0)).2):=by
     show _=_;rw [HMX.out];rfl
    have HWB:Hid (w.heap.size≠b):=fun h=>HZN.out (by rw [h];exact List.mem_cons_self ..);go_upto_region 14 with fail
    refine wp_region_held_drew (S:=fun w9=>w9.rangeAt b 0 (aX yi)) (by kernel_rfl) q5 (fun hHeld=>?_);refine wpAnyH_take (i:=0) (v:=.agg (aX yi).toArray) rfl (by kernel_rfl) (by kernel_rfl) (by kernel_rfl) (fun _ _ _ h=>h) (yieldsIf_load_mid (by rfl) _ _ rfl b 0 rfl (aX yi) _ (fun w9 hSw=>hSw) Tryz.underlying36 rfl dI) hHeld ?_;(try simp only [sT,Act.put]);refine ay [1] (by rfl) (by kernel_rfl) (fun _ _ _ _ _ h=>h) hHeld ?_
    iterate 1
     refine yk ?_ rfl (Or.inl ⟨by rfl,?_⟩) ?_;rotate_left
     ·intro w9 hSw;go_simp;(try with_reducible rfl)
     try simp only [sT,Act.put]
    refine ax ?_;simp only [ai,sT];refine cd 2 (by kernel_rfl) rfl (fun K0 hK0=>?_);go_simp;rw [HEE.out] at cE;refine cE.out.mono ?_;clear cE;rintro _ w9 ⟨rfl,rfl⟩;(go_wp2_with fail);refine hK0.out _ _ q5 (fun hHeld=>?_);clear hK0 K0;(try simp only [sT,Act.put]);refine cd 3 (by kernel_rfl) rfl (fun K0 hK0=>?_);refine gz (ds:=aX yi) HZD.out rfl (dJ _) HTZ.out rfl rfl fun w10 HB10 HK10=>?_;refine hK0.out _ _ (fO HK10.out q5 (by simpa using Ne.symm HWB.out)) (fun hHeld=>?_);clear hK0 K0;(try simp only [sT,Act.put]);refine ay [4] (by rfl) (by kernel_rfl) (fun _ _ _ _ _ h=>h) hHeld ?_
    iterate 1
     refine yk ?_ rfl (Or.inl ⟨by rfl,?_⟩) ?_;rotate_left
     ·intro w9 hSw;go_simp;(try with_reducible rfl)
     try simp only [sT,Act.put]
    refine ax ?_;simp only [ai,sT];refine wpAnyH_done (by kernel_rfl) ?_ _;clear hHeld;(go_wp2_with fail);refine bodyPost_ret (bY (by rfl) _ (by rfl) HB10.out HTZ.out) rfl ?_;refine ⟨yi,rfl,HKi.out.trans (((ab.refl [] wr).drew.mono (T:=[w.heap.size]) (by simp)).trans HK10.out (by simp)) (by simp),fun h=>?_⟩;rw [HMX.out] at h ⊢;have h2:=fE h;refine ⟨HMe.out (by rw [h2]),?_⟩;exact ((HAe.out.em.low (ab.refl [] wr).drew (by simp)).low HK10.out (by intro k hk;simp at hk;subst hk;have:=HNEW.out b (List.mem_cons_self ..);omega)).bot (by have:=HNEW.out b (List.mem_cons_self ..);omega)
def xo (w:World) (q:Ms × Int) (r:Ending) (w':World):Prop :=
 ∃ y,r=.returned (.tuple #[.agg (aX y).toArray,.int .i64 q.2])∧y.ms=q.1∧cb w' y∧ab [] w w'
theorem iQ (w:World):cb w eI :=
 ⟨⟨⟨rfl,Nat.le_refl _,Nat.zero_le _,fun i hi=>by simp [eI,ie] at hi⟩,fun _=>rfl,(fun h0=>by simp [eI,ie] at h0),by simp [eI,ie],by simp [eI,ie],by simp [eI,ie],fun y hy=>by simp [eI,ie] at hy⟩,
  p2.nil w,Sl.nil w,bq,jd [] w,(fun c hc=>by simp [eI,ie] at hc),(fun z hz=>by simp [eI] at hz),⟨by simp [eI,bD],fun x hx=>by simp [eI,bD] at hx⟩⟩
theorem jP {l:List Int}(h:bi l):bi (aE l).1:=by
 unfold aE;repeat' split
 all_goals first | exact bq | exact (h.take _).drop _ | exact (h.drop _).take _
theorem jN (l:List Int):(aE l).1.length≤l.length:=by
 unfold aE;repeat' split
 all_goals simp <;> omega
theorem lI (w:World) (ao:Option Addr) (n c:Nat) (l:List Int) (hs:Sl w ao n c l) (hn:n≤1000000000) (ho:bi l):Calls Tryz.prog 11 #[.slice ao n c] w (xo w (fu l)):=by
 obtain ⟨W,hW⟩:∃ W,W=w.alloc (.cells br.toArray 36):=⟨_,rfl⟩;have hK:ab [] w W:=by rw [hW];exact (ab.refl _ _).alloc _
 have HBZ:Hid (Bx W w.heap.size 36 br):=by rw [hW];exact Bx.new w _ _
 have HK:=aa hK;have hln:=hs.1;have hnl:(n:Int)=(l.length:Int):=by omega
 have cU:=aa (mv W ao n c l (Sl.kept hK hs (by simp)) ho);have HUO:=aa (jP ho);have HUL:Hid ((aE l).1.length≤1000000000):=Nat.le_trans (jN l) (by omega);have HQ:Hid (fu l=if (aE l).2.2≠0 then (gC,(aE l).2.2) else if (aE l).2.1 < (l.length:Int) then (gC,3) else gt (aE l).1):=rfl;have HT0:Hid (aq Tryz.prog 36 (aX eI).length):=cL;have HO0:=aa (dJ eI);have HL0:Hid ((aX eI).length=br.length):=rfl;have HW:Hid (W=w.alloc (.cells br.toArray 36)):=hW;unfold br at HW;have HNL:=aa hnl;clear hW hK hs hln hn ho hnl;go_enter Tryz.func11,Tryz.ntmps11;go_upto_region 1 with fail
 rw [← HW.out];go_wp2_with fail
 refine cU.out.mono ?_;clear cU;rintro _ w1 ⟨a1,n1,c1,rfl,hS1,hb1,hk1⟩;have hn1:=hS1.1;have HK1:=aa (HK.out.trans hk1 (by simp));have HZ1:=aa (HBZ.out.kept hk1 (by simp));have HS1:=aa hS1;have HN1:=aa hn1;clear hS1 hb1 hk1 hn1;generalize aE l=u at *;obtain ⟨body,size,e⟩:=u;simp only at HQ HS1 HUO HUL HN1 ⊢;by_cases he:e=0
 rotate_left
 ·have hq:fu l=(gC,e):=by rw [HQ.out,if_pos he]
  have HQ1:=aa hq;have heb:(e != 0)=true:=by simpa using he
  clear he hq;(go_wp2_with ((refine ac HZ1.out HL0.out HO0.out HT0.out ?_ ?_ ?_);rfl;rfl;intro wz HBz HKz));refine bodyPost_ret (bY (by rfl) _ (by rfl) HBz.out HT0.out) rfl ?_;rw [HQ1.out];exact ⟨eI,rfl,rfl,iQ _,HK1.out.trans HKz.out (by simp)⟩
 subst he;have HQ2:Hid (fu l=if size < (l.length:Int) then (gC,3) else gt body):=by show _=_;rw [HQ.out];simp
 clear HQ;by_cases hz:size < (l.length:Int)
 ·have hq:fu l=(gC,3):=by rw [HQ2.out,if_pos hz]
  have HQ1:=aa hq;have hz':size < (n:Int):=by rw [HNL.out];exact hz
  clear hz hq;(go_wp2_with ((refine ac HZ1.out HL0.out HO0.out HT0.out ?_ ?_ ?_);rfl;rfl;intro wz HBz HKz));refine bodyPost_ret (bY (by rfl) _ (by rfl) HBz.out HT0.out) rfl ?_;rw [HQ1.out];exact ⟨eI,rfl,rfl,iQ _,HK1.out.trans HKz.out (by simp)⟩
 have hz':¬ size < (n:Int):=by rw [HNL.out];exact hz
 have HQ3:Hid (fu l=gt body):=by show _=_;rw [HQ2.out,if_neg hz]
 clear HQ2 hz;have cR:=aa (qE w1 a1 n1 c1 body HS1.out (by have:=HN1.out;have:=HUL.out;omega) HUO.out);have HDD:Hid (gt body=if gc (dM (body,0)).2≠0 then (gC,gc (dM (body,0)).2) else if bQ (dM (body,0)).1=true then ((dM (body,0)).1,0) else (gC,4)):=rfl
 have HFM:Hid (gc (dM (body,0)).2=0→fX (dM (body,0)).1):=fun h=>by
  have h1:=fE h;exact (wh.bwd body (dM (body,0)).1 [] HUO.out (Prod.ext rfl h1)).1
 go_wp2_with fail
 refine cR.out.mono ?_;clear cR;rintro _ w2 ⟨y,rfl,hk2,hy2⟩;have HK2:=aa (HK1.out.trans hk2 (by simp));have HZ2:=aa (HZ1.out.kept hk2 (by simp));have HY2:=aa hy2;clear hk2 hy2;obtain ⟨W3,hW3⟩:∃ W3,W3=w2.alloc (.cells br.toArray 36):=⟨_,rfl⟩;have HW3:Hid (W3=w2.alloc (.cells br.toArray 36)):=hW3;unfold br at HW3;have k3:ab [] w2 W3:=by rw [hW3];exact (ab.refl _ _).alloc _
 have HB3:Hid (Bx W3 w2.heap.size 36 br):=by rw [hW3];exact Bx.new w2 _ _
 have HK3:=aa (HK2.out.trans k3 (by simp));have HZ3:=aa (HZ2.out.kept k3 (by simp));have HK23:=aa k3;have HTY:Hid (aq Tryz.prog 36 (aX y).length):=cL;have HOY:=aa (dJ y);have HLY:Hid ((aX y).length=br.length):=rfl;have hzlt:w.heap.size < w2.heap.size:=HZ2.out.lt;have HZL:=aa hzlt;clear hW3 k3 hzlt;generalize dM (body,0)=q at *;obtain ⟨x,st⟩:=q;simp only at HDD HFM HY2 ⊢;obtain ⟨e2,he2⟩:∃ e2,e2=gc st:=⟨_,rfl⟩;rw [← he2] at HDD HFM HY2 ⊢;clear he2;go_upto_region 7 with (first | ((with_reducible rw [← HW3.out]);fail) | ((rw [← HW3.out];refine ac HB3.out HLY.out HOY.out HTY.out ?_ ?_ ?_);rfl;rfl;intro w3 HB3y HK3y))
 have HKW:=aa (HK3.out.trans HK3y.out (by simp;have:=HK2.out.size;omega));have HZW:=aa (HZ3.out.kept HK3y.out (by simp;have:=HZL.out;omega));by_cases h2:e2=0
 rotate_left
 ·have hq:fu l=(gC,e2):=by rw [HQ3.out,HDD.out,if_pos h2]
  have HQ1:=aa hq;have heb:(e2 != 0)=true:=by simpa using h2
  clear h2 hq;(go_wp2_with ((refine ac HZW.out HL0.out HO0.out HT0.out ?_ ?_ ?_);rfl;rfl;intro wz HBz HKz));refine bodyPost_ret (bY (by rfl) _ (by rfl) HBz.out HT0.out) rfl ?_;rw [HQ1.out];exact ⟨eI,rfl,rfl,iQ _,HKW.out.trans HKz.out (by simp)⟩
 subst h2;obtain ⟨hyx,hem⟩:=HY2.out rfl;have hof:=HFM.out rfl;rw [← hyx] at hof;have hmh:cb w3 y:=(hem.hy hof).kept (HK23.out.trans HK3y.out (by simp));have cC:=j9 w3 y hmh;rw [pm hmh,hyx] at cC;have HEM:=aa (hem.low (HK23.out.trans HK3y.out (S:=[]) (by simp)) (by simp));have HOF:=aa hof;have HB1:Hid (w.heap.size < w1.heap.size):=HZ1.out.lt;have HYX:=aa hyx;clear hmh hem hof hyx HY2 HFM;cases hm:bQ x
 ·have hq:fu l=(gC,4):=by rw [HQ3.out,HDD.out,hm];simp
  have HQ1:=aa hq;rw [hm] at cC;have HC:=aa cC;clear cC hq hm;(go_wp2_with (first | ((with_reducible refine ak HB3y.out HTY.out ?_ ?_);rfl) | (go_at_call 16;refine HC.out.mono ?_;clear HC;rintro _ w4 ⟨rfl,hk4⟩;have HK4:=aa (HKW.out.trans hk4 (by simp));have HZ4:=aa (HZW.out.kept hk4 (by simp));clear hk4) | ((refine ac HZ4.out HL0.out HO0.out HT0.out ?_ ?_ ?_);rfl;rfl;intro wz HBz HKz)));refine bodyPost_ret (bY (by rfl) _ (by rfl) HBz.out HT0.out) rfl ?_;rw [HQ1.out];exact ⟨eI,rfl,rfl,iQ _,HK4.out.trans HKz.out (by simp)⟩
 ·have hq:fu l=(x,0):=by rw [HQ3.out,HDD.out,hm];simp
  have HQ1:=aa hq;rw [hm] at cC;have HC:=aa cC;clear cC hq hm;(go_wp2_with (first | ((with_reducible refine ak HB3y.out HTY.out ?_ ?_);rfl) | (go_at_call 16;refine HC.out.mono ?_;clear HC;rintro _ w4 ⟨rfl,hk4⟩;have HK4:=aa (HKW.out.trans hk4 (by simp));have HZ4:=aa (HZW.out.kept hk4 (by simp));have HB4y:=aa (HB3y.out.kept hk4 (by simp));have HM4:=aa (HEM.out.low hk4 (by simp));clear hk4) | ((with_reducible refine ak HB4y.out HTY.out ?_ ?_);rfl) | ((refine ac HZ4.out HLY.out HOY.out HTY.out ?_ ?_ ?_);rfl;rfl;intro wz HBz HKz)));refine bodyPost_ret (bY (by rfl) _ (by rfl) HBz.out HTY.out) rfl ?_;rw [HQ1.out];exact ⟨y,rfl,HYX.out,(HM4.out.low HKz.out (by intro k hk;simp at hk;subst hk;exact HB1.out)).hy HOF.out,HK4.out.trans HKz.out (by simp)⟩
end Go.Proofs.YtakafmejllilnaaGreat
