/-
  Texts laid as one.
-/
import Derived.Test.YtakafmejllilnaaGreatW12e
import Derived.Test.YtakafmejllilnaaGreatMgPene
/-
 Check: may a message be?
-/
namespace Go.Proofs.YtakafmejllilnaaGreat
open Go.RowKit
def cz:List Fd→Mm→Mm
 | [],y=>y
 | f :: fs,y=>cz fs (dP f y)
theorem ny (fs:List Fd) (f:Fd) (y:Mm):cz (fs++[f]) y=dP f (cz fs y):=by
 induction fs generalizing y with
 | nil=>rfl
 | cons g fs ih=>exact ih _
theorem bH.take {w:World}{y:Mm}(h:bH w y) (f:Fd):bH w (dP f y):=by
 have hz:dw [] w je:=⟨⟨rfl,Nat.le_refl _,Nat.zero_le _,fun i hi=>by simp [je] at hi⟩,fun _=>rfl,(fun h0=>by simp [je] at h0),by simp [je],by simp [je],by simp [je],fun y hy=>by simp [je] at hy⟩;cases f
 ·show bH w (if _ then _ else _);split
  ·exact ⟨h.x,h.v,h.i,h.o,h.r,h.u,h.uv,h.ur⟩
  ·exact h
 ·show bH w (if _ then _ else _);split
  ·exact ⟨h.x,h.v,h.i,h.o,h.r,h.u,h.uv,h.ur⟩
  ·exact h
 ·show bH w (if _ then _ else _);split
  ·exact ⟨h.x,h.v,h.i,h.o,h.r,h.u,h.uv,h.ur⟩
  ·exact h
 ·show bH w (if _ then _ else _);split
  ·exact ⟨hz,h.v,h.i,h.o,h.r,(fun c hc=>by simp [je] at hc),h.uv,h.ur⟩
  ·exact h
 ·show bH w (if _ then _ else _);split
  ·exact ⟨h.x,ob.nil w,h.i,h.o,h.r,h.u,(fun z hz=>by cases hz),h.ur⟩
  ·exact h
 ·show bH w (if _ then _ else _);split
  ·exact ⟨h.x,h.v,Sl.nil w,bs,h.r,h.u,h.uv,h.ur⟩
  ·exact h
 ·show bH w (if _ then _ else _);split
  ·exact ⟨h.x,h.v,h.i,h.o,h.r,h.u,h.uv,h.ur⟩
  ·exact h
 ·show bH w (if _ then _ else _);split
  ·exact ⟨h.x,h.v,h.i,h.o,jc [] w,h.u,h.uv,⟨by simp [eq],fun x hx=>by simp [eq] at hx⟩⟩
  ·exact h
theorem bH.takes {w:World}{y:Mm}(fs:List Fd) (h:bH w y):bH w (cz fs y):=by
 induction fs generalizing y with
 | nil=>exact h
 | cons f fs ih=>exact ih (h.take f)
theorem tH (w:World) (b:Nat) (y:Mm) (f:Fd) (fn:FuncId) (hfn:fn=match f with | .B=>123 | .S=>126 | .T=>127 | .V=>128 | .L=>130 | .I=>124 | .N=>125 | .R=>129)
 (hB:Bx w b 36 (aJ y)) (hx:bH w y):Calls Tryz.prog fn #[.agg #[.pointer (some ⟨b,0,none⟩)]] w (lx w b y f):=by
 subst hfn;cases f
 ·exact qV w b y hB
 ·exact rI w b y hB
 ·exact rS w b y hB
 ·exact qD w b y hB hx.x
 ·exact rE w b y hB hx.v
 ·exact r4 w b y hB
 ·exact sC w b y hB
 ·exact rQ w b y hB hx.r
theorem mr (w:World):Sem.run Tryz.prog (binOp BinOp.eql 70 (.slice none 0 0) (.slice none 0 0)) w=.ok (.bool true) w:=by kernel_rfl
theorem nm (w:World) (g n c:Nat):Sem.run Tryz.prog (binOp BinOp.eql 70 (.slice (some ⟨g,0,none⟩) n c) (.slice none 0 0)) w=.ok (.bool false) w:=by kernel_rfl
theorem gC (k:Int):(bi k).length≤3:=by
 unfold bi;repeat' split
 all_goals simp
def xT (b:Bool):Int:=if b=true then 0 else 1
def jV (y:Mm):Bool:=!(bi y.k).isEmpty && (bt y.f && (bt y.t && dX (cz (bi y.k) y).ms))
def yC (W:World) (b g:Nat) (y:Mm) (fs:List Fd) (iv:Value) (wr:World):Prop :=
 ∃ i:Nat,iv=.int .i64 (i:Int)∧i≤fs.length∧Hid (Bx wr b 36 (aJ (cz (fs.take i) y)))∧Hid (Bx wr g 1 (fs.map (sH 74 (.agg #[.pointer (some ⟨b,0,none⟩)]))))∧Hid (ab [b] W wr)
set_option maxHeartbeats 8000000 in
set_option maxRecDepth 100000 in
theorem ik (w:World) (y:Mm) (hx:bH w y):Calls Tryz.prog 16 #[.agg (aJ y).toArray] w fun r w'=>r=.returned (.int .i64 (xT (jV y)))∧ab [] w w':=by
 obtain ⟨W,hW⟩:∃ W,W=w.alloc (.cells (aJ y).toArray 36):=⟨_,rfl⟩;have hK:ab [] w W:=by rw [hW];exact (ab.refl _ _).alloc _
 have HK:=aa hK;have HB:Hid (Bx W w.heap.size 36 (aJ y)):=by rw [hW];exact Bx.new w _ _
 have hWs:W.heap.size=w.heap.size+1:=by rw [hW];simp
 have HWs:=aa hWs;have HX:=aa hx;have c0:=HB.out.cell 0 rfl;have c1:=HB.out.cell 1 rfl;have c2:=HB.out.cell 2 rfl;unfold aJ at hW;have HW:=aa hW;have HE:Hid (jV y=(!(bi y.k).isEmpty && (bt y.f && (bt y.t && dX (cz (bi y.k) y).ms)))):=rfl;clear hx hW hK hWs;have hnn:=mr;have hns:=nm;by_cases hk:bi y.k=[]
 ·have HQ:Hid (jV y=false):=by show _=_;rw [HE.out,hk];rfl
  have cO:=aa (j4 W (.iface 74 (.agg #[.pointer (some ⟨w.heap.size,0,none⟩)])) y.k hk);clear hk;unfold aJ;go_enter Tryz.func16,Tryz.ntmps16;go_upto_region 1 with fail
  rw [← HW.out];(go_wp2_with fail);refine cO.out.mono ?_;rintro _ w1 ⟨rfl,rfl⟩;(go_wp2_with fail);go_ret
  rw [HQ.out];exact ⟨rfl,HK.out⟩
 have cO:=aa (iu W 74 (.agg #[.pointer (some ⟨w.heap.size,0,none⟩)]) y.k hk);have HNE:Hid ((bi y.k).isEmpty=false):=by show _=_;simpa using hk
 clear hk;have cA:=aa (fun W n=>lz W n);unfold aJ;go_enter Tryz.func16,Tryz.ntmps16;go_upto_region 1 with fail
 rw [← HW.out];go_upto_region 2 with (go_at_call 32;refine cO.out.mono ?_;rintro _ w1 ⟨rfl,hG,hk1⟩;have HG:=aa hG;have HK1:=aa hk1;have d0:=hk1.cell c0 (by simp);have d1:=hk1.cell c1 (by simp);have d2:=hk1.cell c2 (by simp);clear hG hk1 c0 c1 c2 cO)
 have hfl:=gC y.k;generalize bi y.k=fs at HE HNE HG hfl ⊢;cases h1:bt y.f
 ·have HQ:Hid (jV y=false):=by show _=_;rw [HE.out,h1];simp
  (go_wp2_with (go_at_call 33;first | ((with_reducible refine (cA.out _ y.f).mono ?_);rw [h1];rintro _ w2 ⟨rfl,rfl⟩)));go_ret
  rw [HQ.out];exact ⟨rfl,HK.out.trans HK1.out (by simp)⟩
 cases h2:bt y.t
 ·have HQ:Hid (jV y=false):=by show _=_;rw [HE.out,h2];simp
  (go_wp2_with (go_at_call 33;first | ((with_reducible refine (cA.out _ y.f).mono ?_);rw [h1];rintro _ w2 ⟨rfl,rfl⟩) | ((with_reducible refine (cA.out _ y.t).mono ?_);rw [h2];rintro _ w2 ⟨rfl,rfl⟩)));go_ret
  rw [HQ.out];exact ⟨rfl,HK.out.trans HK1.out (by simp)⟩
 have HQ:Hid (jV y=dX (cz fs y).ms):=by show _=_;rw [HE.out,HNE.out,h1,h2];simp
 have hE1 : ∀ (x : Value) (w : World), (invoke (.fn (.method "wapentake/msg.ballot") #[]) #[.iface 74 x]).run Tryz.prog w = .ok (.enter 123 #[x]) w := fun _ _ => by kernel_rfl
 have hE2 : ∀ (x : Value) (w : World), (invoke (.fn (.method "wapentake/msg.slot") #[]) #[.iface 74 x]).run Tryz.prog w = .ok (.enter 126 #[x]) w := fun _ _ => by kernel_rfl
 have hE3 : ∀ (x : Value) (w : World), (invoke (.fn (.method "wapentake/msg.time") #[]) #[.iface 74 x]).run Tryz.prog w = .ok (.enter 127 #[x]) w := fun _ _ => by kernel_rfl
 have hE4 : ∀ (x : Value) (w : World), (invoke (.fn (.method "wapentake/msg.value") #[]) #[.iface 74 x]).run Tryz.prog w = .ok (.enter 128 #[x]) w := fun _ _ => by kernel_rfl
 have hE5 : ∀ (x : Value) (w : World), (invoke (.fn (.method "wapentake/msg.votes") #[]) #[.iface 74 x]).run Tryz.prog w = .ok (.enter 130 #[x]) w := fun _ _ => by kernel_rfl
 have hE6 : ∀ (x : Value) (w : World), (invoke (.fn (.method "wapentake/msg.image") #[]) #[.iface 74 x]).run Tryz.prog w = .ok (.enter 124 #[x]) w := fun _ _ => by kernel_rfl
 have hE7 : ∀ (x : Value) (w : World), (invoke (.fn (.method "wapentake/msg.number") #[]) #[.iface 74 x]).run Tryz.prog w = .ok (.enter 125 #[x]) w := fun _ _ => by kernel_rfl
 have hE8 : ∀ (x : Value) (w : World), (invoke (.fn (.method "wapentake/msg.verdict") #[]) #[.iface 74 x]).run Tryz.prog w = .ok (.enter 129 #[x]) w := fun _ _ => by kernel_rfl
 have HB1:Hid (Bx w1 w.heap.size 36 (aJ (cz (fs.take 0) y))):=HB.out.kept HK1.out (by simp);go_upto_region 5 with (go_at_call 33;first | ((with_reducible refine (cA.out _ y.f).mono ?_);rw [h1];rintro _ w2 ⟨rfl,rfl⟩) | ((with_reducible refine (cA.out _ y.t).mono ?_);rw [h2];rintro _ w2 ⟨rfl,rfl⟩))
 clear d0 d1 d2 h1 h2;go_loopw [27] (fun iv wr=>yC W w.heap.size W.heap.size y fs iv wr) (fun iv _=>fs.length - (intOf iv).toNat)
 case atStart=>exact ⟨0,rfl,Nat.zero_le _,HB1,HG,HK1.out.mono (by simp)⟩
 case round =>
  obtain ⟨i,rfl,hi,HBi,HGi,HKi⟩:=hrel;by_cases hlt:i < fs.length
  ·have hlt':(i:Int) < fs.length:=by omega
   have hce:=HGi.out.cell i (v:=sH 74 (.agg #[.pointer (some ⟨w.heap.size,0,none⟩)]) fs[i]) (by rw [List.getElem?_map,List.getElem?_eq_getElem hlt];rfl);have HN:Hid (dP fs[i] (cz (fs.take i) y)=cz (fs.take (i+1)) y):=by show _=_;rw [List.take_succ_eq_append_getElem hlt,ny]
   generalize fs[i]=f at hce HN;have HSV:=aa (fun fn hfn=>tH wr w.heap.size (cz (fs.take i) y) f fn hfn HBi.out ((HX.out.kept (HK.out.trans HKi.out (by simp))).takes (fs.take i)));cases f
   all_goals
    unfold sH xv at hce;(go_wp2_with fail);refine (HSV.out _ rfl).mono ?_;clear HSV hce;rintro _ w3 ⟨rfl,hB3,hk3⟩;rw [HN.out] at hB3;have HB3:=aa hB3;have HG3:=aa (HGi.out.kept hk3 (by have:=HWs.out;simp;omega));have HK3:=aa (HKi.out.trans hk3 (by simp));clear hB3 hk3;(go_wp2_with fail);go_roundw
    case rel=>exact ⟨i+1,by go_num,by omega,HB3,HG3,HK3⟩
    case measure=>simp [intOf];omega
  ·have hlt':¬ (i:Int) < fs.length:=by omega
   have hB9:=HBi.out;rw [List.take_of_length_le (by omega)] at hB9;have HB9:=aa hB9;have HT9:Hid (av Tryz.prog 36 (aJ (cz fs y)).length):=dm;have HK9:=aa (HK.out.trans HKi.out (by simp));have cB:=aa (mB wr (cz fs y) ((HX.out.kept HK9.out).takes fs));have HQ9:Hid (dX (cz fs y).ms=jV y):=HQ.out.symm;clear hB9 HBi;generalize dX (cz fs y).ms=bb at cB HQ9;cases bb
   ·(go_wp2_with (first | ((with_reducible refine ai HB9.out HT9.out ?_ ?_);rfl) | (go_at_call 34;refine cB.out.mono ?_;rintro _ w4 ⟨rfl,hk4⟩;have HK4:=aa hk4;clear hk4)));go_ret
    rw [← HQ9.out];exact ⟨rfl,HK9.out.trans HK4.out (by simp)⟩
   ·(go_wp2_with (first | ((with_reducible refine ai HB9.out HT9.out ?_ ?_);rfl) | (go_at_call 34;refine cB.out.mono ?_;rintro _ w4 ⟨rfl,hk4⟩;have HK4:=aa hk4;clear hk4)));go_ret
    rw [← HQ9.out];exact ⟨rfl,HK9.out.trans HK4.out (by simp)⟩
def nH:Fd→Ms→Bool
 | .B,x=>aj x.b
 | .S,x=>aj x.s
 | .T,x=>aj x.m
 | .V,x=>ff x.v
 | .L,x=>l8 x.l
 | .I,x=>decide (x.i.length≤524288)
 | .N,x=>aj x.n
 | .R,x=>i4 x.r
theorem mD (f:Fd) (y:Mm):(dP f y).ms=if nH f y.ms=true then gS f y.ms jr else y.ms:=by
 cases f
 ·show (if aj y.b=true then _ else _:Mm).ms=if aj y.b=true then _ else _;split <;> rfl
 ·show (if aj y.s=true then _ else _:Mm).ms=if aj y.s=true then _ else _;split <;> rfl
 ·show (if aj y.m=true then _ else _:Mm).ms=if aj y.m=true then _ else _;split <;> rfl
 ·show (if ff y.x.r=true then _ else _:Mm).ms=if ff y.x.r=true then _ else _;split <;> rfl
 ·show (if l8 (y.D.map Vm.v)=true then _ else _:Mm).ms=if l8 (y.D.map Vm.v)=true then _ else _;split <;> rfl
 ·show (if y.i.length≤524288 then _ else _:Mm).ms=if decide (y.i.length≤524288)=true then _ else _
  by_cases h:y.i.length≤524288
  ·rw [if_pos h,if_pos (decide_eq_true h)];rfl
  ·rw [if_neg h,if_neg (by simpa using h)]
 ·show (if aj y.n=true then _ else _:Mm).ms=if aj y.n=true then _ else _;split <;> rfl
 ·show (if i4 y.r=true then _ else _:Mm).ms=if i4 y.r=true then _ else _;split <;> rfl
theorem kU {f g:Fd}(h:g≠f) (y:Mm):cw g (dP f y).ms y.ms:=by
 rw [mD];split
 ·exact nE h _ _
 ·exact ij _ _
theorem iq {g:Fd}(fs:List Fd) (h:g ∉ fs) (y:Mm):cw g (cz fs y).ms y.ms:=by
 induction fs generalizing y with
 | nil=>exact ij _ _
 | cons f fs ih=>exact ci (ih (fun hm=>h (List.mem_cons_of_mem _ hm)) (dP f y)) (kU (fun e=>h (by rw [e];exact List.mem_cons_self ..)) y)
theorem mt {f:Fd}{x y:Ms}(h:cw f x y):nH f x=nH f y:=by cases f <;> simp only [cw] at h <;> simp only [nH,h]
theorem r2 (f:Fd):nH f jr=true:=by cases f <;> decide
theorem li {g:Fd}(fs:List Fd) (h:g∈fs) (hn:fs.Nodup) (y:Mm):cw g (cz fs y).ms jr↔nH g y.ms=true:=by
 induction fs generalizing y with
 | nil=>cases h
 | cons f fs ih =>
   obtain ⟨h1,h2⟩:=List.nodup_cons.1 hn;rcases List.mem_cons.1 h with rfl | h3
   ·have h4:=iq fs h1 (dP g y);show cw g (cz fs (dP g y)).ms jr↔_;rw [mD] at h4;constructor
    ·intro h5;by_cases hk:nH g y.ms=true
     ·exact hk
     ·rw [if_neg hk] at h4;rw [mt (ci (ix h4) h5)];exact r2 g
    ·intro hk;rw [if_pos hk] at h4;exact ci h4 (jE _ _ _)
   ·have h5:g≠f:=fun e=>h1 (by rw [← e];exact h3);show cw g (cz fs (dP f y)).ms jr↔_;rw [ih h3 h2,mt (kU h5 y)]
theorem qF (x:Ms):dX x=true↔∀ f,cw f x jr:=by
 unfold dX;simp only [Bool.and_eq_true,decide_eq_true_eq];constructor
 ·rintro ⟨h1,h2,h3,h4,h5,h6,h7,h8⟩ f;cases f <;> assumption
 ·exact fun h=>⟨h .B,h .S,h .T,h .N,h .V,h .L,h .I,h .R⟩
theorem gI (x:Ms):own x=x↔∀ g,g ∉ bi x.k→cw g x jr:=by
 unfold own;constructor
 ·intro h g hg;have h1:=gN (bi x.k) hg (l6 x.k x.f x.t) x;rw [h] at h1;exact ci h1 (by cases g <;> rfl)
 ·intro h;obtain ⟨h1,h2,h3⟩:=jZ (bi x.k) (l6 x.k x.f x.t) x;refine sa h1 h2 h3 (fun g=>?_);by_cases hg:g∈bi x.k
  ·exact rC _ hg (gD _) _ _
  ·exact ci (gN _ hg _ _) (ci (by cases g <;> rfl) (ix (h g hg)))
structure uZ (x:Ms):Prop where
 o:bh x.i
 u:ei x.v.c
 uv:∀ v∈x.l,ei v.v.c
 ur:lU x.r
theorem bH.ms {w:World}{y:Mm}(h:bH w y):uZ y.ms:=⟨h.o,h.u,(fun v hv=>by obtain ⟨z,hz,rfl⟩:=List.mem_map.1 hv;exact h.uv z hz),h.ur⟩
theorem nv (v:Vo) (h:ei v.v.c):gc v=true↔kK v:=by
 unfold gc kK;rw [Bool.and_eq_true,Bool.and_eq_true,nQ _ h,and_assoc]
theorem us (p:Int) (L:List Vo) (h:∀ v∈L,ei v.v.c):i8 p L=true↔(∀ v∈L,kK v)∧iQ p L=true:=by
 induction L generalizing p with
 | nil=>simp [i8,iQ]
 | cons v L ih =>
   simp only [i8,iQ,Bool.and_eq_true,List.forall_mem_cons];rw [ih v.s (fun z hz=>h z (List.mem_cons_of_mem _ hz)),nv v (h v (List.mem_cons_self ..))];constructor
   ·exact fun ⟨a,b,c,d⟩=>⟨⟨b,c⟩,a,d⟩
   ·exact fun ⟨⟨b,c⟩,a,d⟩=>⟨a,b,c,d⟩
theorem vG (L:List Vo) (h:∀ v∈L,ei v.v.c):l8 L=true↔(L.length≤4096∧∀ v∈L,kK v)∧iQ (-1) L=true:=by
 unfold l8;rw [Bool.and_eq_true,decide_eq_true_eq,us _ _ h,and_assoc]
theorem iS (f:Fd) (x:Ms) (h:uZ x):nH f x=true↔fb f x∧(f=.L→iQ (-1) x.l=true):=by
 cases f
 ·simp [nH,fb]
 ·simp [nH,fb]
 ·simp [nH,fb]
 ·simp only [nH,fb];rw [nQ _ h.u];simp
 ·simp only [nH,fb];rw [vG _ h.uv];simp
 ·simp [nH,fb,h.o]
 ·simp [nH,fb]
 ·simp only [nH,fb];rw [pd _ h.ur];simp
theorem uS (y:Mm) (h:uZ y.ms):jV y=true↔nO y.ms:=by
 have hk:bi y.ms.k=bi y.k:=rfl;unfold jV nO;rw [Bool.and_eq_true,Bool.and_eq_true,Bool.and_eq_true,qF,gI];have h1:((!(bi y.k).isEmpty)=true)↔bi y.ms.k≠[]:=by rw [hk];cases bi y.k <;> simp
 have h2:(∀ f,cw f (cz (bi y.k) y).ms jr)↔(∀ f∈bi y.ms.k,fb f y.ms)∧iQ (-1) y.ms.l=true∧∀ g,g ∉ bi y.ms.k→cw g y.ms jr:=by
  rw [hk];constructor
  ·intro h3;have h4:∀ f∈bi y.k,fb f y.ms∧(f=.L→iQ (-1) y.ms.l=true):=fun f hf=>(iS f y.ms h).1 ((li _ hf (gD _) y).1 (h3 f));have h5:∀ g,g ∉ bi y.k→cw g y.ms jr:=fun g hg=>ci (ix (iq _ hg y)) (h3 g);refine ⟨fun f hf=>(h4 f hf).1,?_,h5⟩;by_cases hL:Fd.L∈bi y.k
   ·exact (h4 .L hL).2 rfl
   ·have h6:y.ms.l=[]:=h5 .L hL;rw [h6];rfl
  ·rintro ⟨h3,h4,h5⟩ f;by_cases hf:f∈bi y.k
   ·exact (li _ hf (gD _) y).2 ((iS f y.ms h).2 ⟨h3 f hf,fun _=>h4⟩)
   ·exact ci (iq _ hf y) (h5 f hf)
 rw [h1,h2];exact Iff.rfl
theorem vN {x:Ms}(h:uZ x) {f:Fd}(hf:fb f x):xo f x=true:=by
 cases f
 ·exact hf
 ·exact hf
 ·exact hf
 ·exact (nQ _ h.u).2 hf
 ·show (aj x.l.length && x.l.all gc)=true;rw [Bool.and_eq_true,List.all_eq_true];refine ⟨(aG _).2 (by have:=hf.1;omega),fun v hv=>(nv v (h.uv v hv)).2 (hf.2 v hv)⟩
 ·rfl
 ·exact hf
 ·exact (pd _ h.ur).2 hf
def bE (x:Ms):Bool:=!(bi x.k).isEmpty && (bt x.f && (bt x.t && ((bi x.k).all (fun f=>nH f x) && decide (own x=x))))
theorem fC {x:Ms}(h:uZ x):bE x=true↔nO x:=by
 unfold bE nO;simp only [Bool.and_eq_true,List.all_eq_true,decide_eq_true_eq];have h1:((!(bi x.k).isEmpty)=true)↔bi x.k≠[]:=by cases bi x.k <;> simp
 rw [h1];refine and_congr_right (fun _=>and_congr_right (fun _=>and_congr_right (fun _=>?_)));constructor
 ·rintro ⟨h2,h3⟩;refine ⟨fun f hf=>((iS f x h).1 (h2 f hf)).1,?_,h3⟩;by_cases hL:Fd.L∈bi x.k
  ·exact ((iS .L x h).1 (h2 .L hL)).2 rfl
  ·have h6:x.l=[]:=(gI x).1 h3 .L hL;rw [h6];rfl
 ·rintro ⟨h2,h3,h4⟩;exact ⟨fun f hf=>(iS f x h).2 ⟨h2 f hf,fun _=>h3⟩,h4⟩
def fp (x:Ms):List Int × Int:=if bE x=true then (if (bM x).length≤1048576 then (dE (bM x),0) else ([],3)) else ([],1)
def mz (l:List Int):Ms × Int :=
 if jw (fl (l,0)).2≠0 then (jr,jw (fl (l,0)).2) else if bE (fl (l,0)).1=true then ((fl (l,0)).1,0) else (jr,4)
def kI (l:List Int):Ms × Int :=
 if (aS l).2.2≠0 then (jr,(aS l).2.2) else if (aS l).2.1 < (l.length:Int) then (jr,3) else mz (aS l).1
theorem jQ {s:List Int × Int}(h:jw s=0):s=([],0):=by
 unfold jw at h;split at h
 ·rename_i h1
  split at h
  ·rename_i h2;exact Prod.ext (List.eq_nil_of_length_eq_zero h2) h1
  ·simp at h
 ·rename_i h1;exact absurd h h1
theorem uL {v:Vt}(h:fi v):lU v:=by
 obtain ⟨_,h2⟩:=h;unfold sn at h2;unfold lU;split at h2
 ·rw [← h2.2];exact ⟨by simp,fun c hc=>by cases hc⟩
 split at h2
 ·rw [← h2.2];exact ⟨by simp,fun c hc=>by cases hc⟩
 split at h2
 ·rw [← h2.2];exact ⟨by simp,fun c hc=>by cases hc⟩
 split at h2
 ·have h3:=h2.1.2.1;rw [← h2.2];exact ⟨h3,fun c hc=>by cases hc⟩
 split at h2
 ·rw [← h2.2];exact ⟨by simp,fun c hc=>by cases hc⟩
 split at h2
 ·have h3:∀ x∈v.k,ei x.c:=fun x hx=>nd (h2.1.2 x hx).2.2.2;rw [← h2.2];exact ⟨by simp,h3⟩
 split at h2
 ·rw [← h2.2];exact ⟨by simp,fun c hc=>by cases hc⟩
 ·rw [h2];exact ⟨by simp,fun c hc=>by cases hc⟩
theorem vL {x:Ms}(h:ia x):uZ x:=by
 obtain ⟨_,_,_,_,h4,h5⟩:=h;have h6:=(gI x).1 h5;refine ⟨?_,?_,?_,?_⟩
 ·by_cases hf:Fd.I∈bi x.k
  ·exact (h4 .I hf).2
  ·have e:x.i=[]:=h6 .I hf;rw [e];exact bs
 ·by_cases hf:Fd.V∈bi x.k
  ·exact pl (h4 .V hf)
  ·have e:x.v=fd:=h6 .V hf;rw [e];intro c hc;cases hc
 ·by_cases hf:Fd.L∈bi x.k
  ·exact fun v hv=>pl ((h4 .L hf).2 v hv).2.2
  ·have e:x.l=[]:=h6 .L hf;rw [e];intro c hc;cases hc
 ·by_cases hf:Fd.R∈bi x.k
  ·exact uL (h4 .R hf)
  ·have e:x.r=eq:=h6 .R hf;rw [e];exact ⟨by simp [eq],fun c hc=>by cases hc⟩
end Go.Proofs.YtakafmejllilnaaGreat
