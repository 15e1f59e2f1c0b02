/-
  Texts laid as one.
-/
import Derived.Test.YtakafmejllilnaaGreatW11r
import Derived.Test.YtakafmejllilnaaGreatMgPenr
/-
 Check: may a message be?
-/
namespace Go.Proofs.YtakafmejllilnaaGreat
open Go.RowKit
def cZ:List Fd→Mm→Mm
 | [],y=>y
 | f :: fs,y=>cZ fs (dW f y)
theorem m9 (fs:List Fd) (f:Fd) (y:Mm):cZ (fs++[f]) y=dW f (cZ fs y):=by
 induction fs generalizing y with
 | nil=>rfl
 | cons g fs ih=>exact ih _
theorem cb.take {w:World}{y:Mm}(h:cb w y) (f:Fd):cb w (dW f y):=by
 have hz:dS [] w ie:=⟨⟨rfl,Nat.le_refl _,Nat.zero_le _,fun i hi=>by simp [ie] at hi⟩,fun _=>rfl,(fun h0=>by simp [ie] at h0),by simp [ie],by simp [ie],by simp [ie],fun y hy=>by simp [ie] at hy⟩;cases f
 ·show cb w (if _ then _ else _);split
  ·exact ⟨h.x,h.v,h.i,h.o,h.r,h.u,h.uv,h.ur⟩
  ·exact h
 ·show cb w (if _ then _ else _);split
  ·exact ⟨h.x,h.v,h.i,h.o,h.r,h.u,h.uv,h.ur⟩
  ·exact h
 ·show cb w (if _ then _ else _);split
  ·exact ⟨h.x,h.v,h.i,h.o,h.r,h.u,h.uv,h.ur⟩
  ·exact h
 ·show cb w (if _ then _ else _);split
  ·exact ⟨hz,h.v,h.i,h.o,h.r,(fun c hc=>by simp [ie] at hc),h.uv,h.ur⟩
  ·exact h
 ·show cb w (if _ then _ else _);split
  ·exact ⟨h.x,p2.nil w,h.i,h.o,h.r,h.u,(fun z hz=>by cases hz),h.ur⟩
  ·exact h
 ·show cb w (if _ then _ else _);split
  ·exact ⟨h.x,h.v,Sl.nil w,bq,h.r,h.u,h.uv,h.ur⟩
  ·exact h
 ·show cb w (if _ then _ else _);split
  ·exact ⟨h.x,h.v,h.i,h.o,h.r,h.u,h.uv,h.ur⟩
  ·exact h
 ·show cb w (if _ then _ else _);split
  ·exact ⟨h.x,h.v,h.i,h.o,jd [] w,h.u,h.uv,⟨by simp [bD],fun x hx=>by simp [bD] at hx⟩⟩
  ·exact h
theorem cb.takes {w:World}{y:Mm}(fs:List Fd) (h:cb w y):cb w (cZ fs y):=by
 induction fs generalizing y with
 | nil=>exact h
 | cons f fs ih=>exact ih (h.take f)
theorem ti (w:World) (b:Nat) (y:Mm) (f:Fd) (fn:FuncId) (hfn:fn=match f with | .B=>123 | .S=>126 | .T=>127 | .V=>128 | .L=>130 | .I=>124 | .N=>125 | .R=>129)
 (hB:Bx w b 36 (aX y)) (hx:cb w y):Calls Tryz.prog fn #[.agg #[.pointer (some ⟨b,0,none⟩)]] w (lW w b y f):=by
 subst hfn;cases f
 ·exact ro w b y hB
 ·exact rv w b y hB
 ·exact rP w b y hB
 ·exact sx w b y hB hx.x
 ·exact rh w b y hB hx.v
 ·exact rF w b y hB
 ·exact su w b y hB
 ·exact sR w b y hB hx.r
theorem m6 (w:World):Sem.run Tryz.prog (binOp BinOp.eql 70 (.slice none 0 0) (.slice none 0 0)) w=.ok (.bool true) w:=by kernel_rfl
theorem mF (w:World) (g n c:Nat):Sem.run Tryz.prog (binOp BinOp.eql 70 (.slice (some ⟨g,0,none⟩) n c) (.slice none 0 0)) w=.ok (.bool false) w:=by kernel_rfl
theorem hY (k:Int):(bc k).length≤3:=by
 unfold bc;repeat' split
 all_goals simp
def yl (b:Bool):Int:=if b=true then 0 else 1
def kh (y:Mm):Bool:=!(bc y.k).isEmpty && (aF y.f && (aF y.t && ej (cZ (bc y.k) y).ms))
def xU (W:World) (b g:Nat) (y:Mm) (fs:List Fd) (iv:Value) (wr:World):Prop :=
 ∃ i:Nat,iv=.int .i64 (i:Int)∧i≤fs.length∧Hid (Bx wr b 36 (aX (cZ (fs.take i) y)))∧Hid (Bx wr g 1 (fs.map (sX 74 (.agg #[.pointer (some ⟨b,0,none⟩)]))))∧Hid (ab [b] W wr)
set_option maxHeartbeats 8000000 in
set_option maxRecDepth 100000 in
theorem j9 (w:World) (y:Mm) (hx:cb w y):Calls Tryz.prog 16 #[.agg (aX y).toArray] w fun r w'=>r=.returned (.int .i64 (yl (kh y)))∧ab [] w w':=by
 obtain ⟨W,hW⟩:∃ W,W=w.alloc (.cells (aX y).toArray 36):=⟨_,rfl⟩;have hK:ab [] w W:=by rw [hW];exact (ab.refl _ _).alloc _
 have HK:=aa hK;have HB:Hid (Bx W w.heap.size 36 (aX y)):=by rw [hW];exact Bx.new w _ _
 have hWs:W.heap.size=w.heap.size+1:=by rw [hW];simp
 have HWs:=aa hWs;have HX:=aa hx;have c0:=HB.out.cell 0 rfl;have c1:=HB.out.cell 1 rfl;have c2:=HB.out.cell 2 rfl;unfold aX at hW;have HW:=aa hW;have HE:Hid (kh y=(!(bc y.k).isEmpty && (aF y.f && (aF y.t && ej (cZ (bc y.k) y).ms)))):=rfl;clear hx hW hK hWs;have hnn:=m6;have hns:=mF;by_cases hk:bc y.k=[]
 ·have HQ:Hid (kh y=false):=by show _=_;rw [HE.out,hk];rfl
  have cO:=aa (kd W (.iface 74 (.agg #[.pointer (some ⟨w.heap.size,0,none⟩)])) y.k hk);clear hk;unfold aX;go_enter Tryz.func16,Tryz.ntmps16;go_upto_region 1 with fail
  rw [← HW.out];(go_wp2_with fail);refine cO.out.mono ?_;rintro _ w1 ⟨rfl,rfl⟩;(go_wp2_with fail);go_ret
  rw [HQ.out];exact ⟨rfl,HK.out⟩
 have cO:=aa (iw W 74 (.agg #[.pointer (some ⟨w.heap.size,0,none⟩)]) y.k hk);have HNE:Hid ((bc y.k).isEmpty=false):=by show _=_;simpa using hk
 clear hk;have cA:=aa (fun W n=>mB W n);unfold aX;go_enter Tryz.func16,Tryz.ntmps16;go_upto_region 1 with fail
 rw [← HW.out];go_upto_region 2 with (go_at_call 32;refine cO.out.mono ?_;rintro _ w1 ⟨rfl,hG,hk1⟩;have HG:=aa hG;have HK1:=aa hk1;have d0:=hk1.cell c0 (by simp);have d1:=hk1.cell c1 (by simp);have d2:=hk1.cell c2 (by simp);clear hG hk1 c0 c1 c2 cO)
 have hfl:=hY y.k;generalize bc y.k=fs at HE HNE HG hfl ⊢;cases h1:aF y.f
 ·have HQ:Hid (kh y=false):=by show _=_;rw [HE.out,h1];simp
  (go_wp2_with (go_at_call 33;first | ((with_reducible refine (cA.out _ y.f).mono ?_);rw [h1];rintro _ w2 ⟨rfl,rfl⟩)));go_ret
  rw [HQ.out];exact ⟨rfl,HK.out.trans HK1.out (by simp)⟩
 cases h2:aF y.t
 ·have HQ:Hid (kh y=false):=by show _=_;rw [HE.out,h2];simp
  (go_wp2_with (go_at_call 33;first | ((with_reducible refine (cA.out _ y.f).mono ?_);rw [h1];rintro _ w2 ⟨rfl,rfl⟩) | ((with_reducible refine (cA.out _ y.t).mono ?_);rw [h2];rintro _ w2 ⟨rfl,rfl⟩)));go_ret
  rw [HQ.out];exact ⟨rfl,HK.out.trans HK1.out (by simp)⟩
 have HQ:Hid (kh y=ej (cZ fs y).ms):=by show _=_;rw [HE.out,HNE.out,h1,h2];simp
 have hE1 : ∀ (x : Value) (w : World), (invoke (.fn (.method "wapentake/msg.ballot") #[]) #[.iface 74 x]).run Tryz.prog w = .ok (.enter 123 #[x]) w := fun _ _ => by kernel_rfl
 have hE2 : ∀ (x : Value) (w : World), (invoke (.fn (.method "wapentake/msg.slot") #[]) #[.iface 74 x]).run Tryz.prog w = .ok (.enter 126 #[x]) w := fun _ _ => by kernel_rfl
 have hE3 : ∀ (x : Value) (w : World), (invoke (.fn (.method "wapentake/msg.time") #[]) #[.iface 74 x]).run Tryz.prog w = .ok (.enter 127 #[x]) w := fun _ _ => by kernel_rfl
 have hE4 : ∀ (x : Value) (w : World), (invoke (.fn (.method "wapentake/msg.value") #[]) #[.iface 74 x]).run Tryz.prog w = .ok (.enter 128 #[x]) w := fun _ _ => by kernel_rfl
 have hE5 : ∀ (x : Value) (w : World), (invoke (.fn (.method "wapentake/msg.votes") #[]) #[.iface 74 x]).run Tryz.prog w = .ok (.enter 130 #[x]) w := fun _ _ => by kernel_rfl
 have hE6 : ∀ (x : Value) (w : World), (invoke (.fn (.method "wapentake/msg.image") #[]) #[.iface 74 x]).run Tryz.prog w = .ok (.enter 124 #[x]) w := fun _ _ => by kernel_rfl
 have hE7 : ∀ (x : Value) (w : World), (invoke (.fn (.method "wapentake/msg.number") #[]) #[.iface 74 x]).run Tryz.prog w = .ok (.enter 125 #[x]) w := fun _ _ => by kernel_rfl
 have hE8 : ∀ (x : Value) (w : World), (invoke (.fn (.method "wapentake/msg.verdict") #[]) #[.iface 74 x]).run Tryz.prog w = .ok (.enter 129 #[x]) w := fun _ _ => by kernel_rfl
 have HB1:Hid (Bx w1 w.heap.size 36 (aX (cZ (fs.take 0) y))):=HB.out.kept HK1.out (by simp);go_upto_region 5 with (go_at_call 33;first | ((with_reducible refine (cA.out _ y.f).mono ?_);rw [h1];rintro _ w2 ⟨rfl,rfl⟩) | ((with_reducible refine (cA.out _ y.t).mono ?_);rw [h2];rintro _ w2 ⟨rfl,rfl⟩))
 clear d0 d1 d2 h1 h2;go_loopw [27] (fun iv wr=>xU W w.heap.size W.heap.size y fs iv wr) (fun iv _=>fs.length - (intOf iv).toNat)
 case atStart=>exact ⟨0,rfl,Nat.zero_le _,HB1,HG,HK1.out.mono (by simp)⟩
 case round =>
  obtain ⟨i,rfl,hi,HBi,HGi,HKi⟩:=hrel;by_cases hlt:i < fs.length
  ·have hlt':(i:Int) < fs.length:=by omega
   have hce:=HGi.out.cell i (v:=sX 74 (.agg #[.pointer (some ⟨w.heap.size,0,none⟩)]) fs[i]) (by rw [List.getElem?_map,List.getElem?_eq_getElem hlt];rfl);have HN:Hid (dW fs[i] (cZ (fs.take i) y)=cZ (fs.take (i+1)) y):=by show _=_;rw [List.take_succ_eq_append_getElem hlt,m9]
   generalize fs[i]=f at hce HN;have HSV:=aa (fun fn hfn=>ti wr w.heap.size (cZ (fs.take i) y) f fn hfn HBi.out ((HX.out.kept (HK.out.trans HKi.out (by simp))).takes (fs.take i)));cases f
   all_goals
    unfold sX xw at hce;(go_wp2_with fail);refine (HSV.out _ rfl).mono ?_;clear HSV hce;rintro _ w3 ⟨rfl,hB3,hk3⟩;rw [HN.out] at hB3;have HB3:=aa hB3;have HG3:=aa (HGi.out.kept hk3 (by have:=HWs.out;simp;omega));have HK3:=aa (HKi.out.trans hk3 (by simp));clear hB3 hk3;(go_wp2_with fail);go_roundw
    case rel=>exact ⟨i+1,by go_num,by omega,HB3,HG3,HK3⟩
    case measure=>simp [intOf];omega
  ·have hlt':¬ (i:Int) < fs.length:=by omega
   have hB9:=HBi.out;rw [List.take_of_length_le (by omega)] at hB9;have HB9:=aa hB9;have HT9:Hid (aq Tryz.prog 36 (aX (cZ fs y)).length):=cL;have HK9:=aa (HK.out.trans HKi.out (by simp));have cB:=aa (nT wr (cZ fs y) ((HX.out.kept HK9.out).takes fs));have HQ9:Hid (ej (cZ fs y).ms=kh y):=HQ.out.symm;clear hB9 HBi;generalize ej (cZ fs y).ms=bb at cB HQ9;cases bb
   ·(go_wp2_with (first | ((with_reducible refine ak HB9.out HT9.out ?_ ?_);rfl) | (go_at_call 34;refine cB.out.mono ?_;rintro _ w4 ⟨rfl,hk4⟩;have HK4:=aa hk4;clear hk4)));go_ret
    rw [← HQ9.out];exact ⟨rfl,HK9.out.trans HK4.out (by simp)⟩
   ·(go_wp2_with (first | ((with_reducible refine ak HB9.out HT9.out ?_ ?_);rfl) | (go_at_call 34;refine cB.out.mono ?_;rintro _ w4 ⟨rfl,hk4⟩;have HK4:=aa hk4;clear hk4)));go_ret
    rw [← HQ9.out];exact ⟨rfl,HK9.out.trans HK4.out (by simp)⟩
def nK:Fd→Ms→Bool
 | .B,x=>ah x.b
 | .S,x=>ah x.s
 | .T,x=>ah x.m
 | .V,x=>fe x.v
 | .L,x=>mt x.l
 | .I,x=>decide (x.i.length≤524288)
 | .N,x=>ah x.n
 | .R,x=>jc x.r
theorem mY (f:Fd) (y:Mm):(dW f y).ms=if nK f y.ms=true then ia f y.ms gC else y.ms:=by
 cases f
 ·show (if ah y.b=true then _ else _:Mm).ms=if ah y.b=true then _ else _;split <;> rfl
 ·show (if ah y.s=true then _ else _:Mm).ms=if ah y.s=true then _ else _;split <;> rfl
 ·show (if ah y.m=true then _ else _:Mm).ms=if ah y.m=true then _ else _;split <;> rfl
 ·show (if fe y.x.r=true then _ else _:Mm).ms=if fe y.x.r=true then _ else _;split <;> rfl
 ·show (if mt (y.D.map Vm.v)=true then _ else _:Mm).ms=if mt (y.D.map Vm.v)=true then _ else _;split <;> rfl
 ·show (if y.i.length≤524288 then _ else _:Mm).ms=if decide (y.i.length≤524288)=true then _ else _
  by_cases h:y.i.length≤524288
  ·rw [if_pos h,if_pos (decide_eq_true h)];rfl
  ·rw [if_neg h,if_neg (by simpa using h)]
 ·show (if ah y.n=true then _ else _:Mm).ms=if ah y.n=true then _ else _;split <;> rfl
 ·show (if jc y.r=true then _ else _:Mm).ms=if jc y.r=true then _ else _;split <;> rfl
theorem lK {f g:Fd}(h:g≠f) (y:Mm):cJ g (dW f y).ms y.ms:=by
 rw [mY];split
 ·exact mU h _ _
 ·exact ix _ _
theorem iB {g:Fd}(fs:List Fd) (h:g ∉ fs) (y:Mm):cJ g (cZ fs y).ms y.ms:=by
 induction fs generalizing y with
 | nil=>exact ix _ _
 | cons f fs ih=>exact ck (ih (fun hm=>h (List.mem_cons_of_mem _ hm)) (dW f y)) (lK (fun e=>h (by rw [e];exact List.mem_cons_self ..)) y)
theorem nS {f:Fd}{x y:Ms}(h:cJ f x y):nK f x=nK f y:=by cases f <;> simp only [cJ] at h <;> simp only [nK,h]
theorem rU (f:Fd):nK f gC=true:=by cases f <;> decide
theorem lw {g:Fd}(fs:List Fd) (h:g∈fs) (hn:fs.Nodup) (y:Mm):cJ g (cZ fs y).ms gC↔nK g y.ms=true:=by
 induction fs generalizing y with
 | nil=>cases h
 | cons f fs ih =>
   obtain ⟨h1,h2⟩:=List.nodup_cons.1 hn;rcases List.mem_cons.1 h with rfl | h3
   ·have h4:=iB fs h1 (dW g y);show cJ g (cZ fs (dW g y)).ms gC↔_;rw [mY] at h4;constructor
    ·intro h5;by_cases hk:nK g y.ms=true
     ·exact hk
     ·rw [if_neg hk] at h4;rw [nS (ck (iz h4) h5)];exact rU g
    ·intro hk;rw [if_pos hk] at h4;exact ck h4 (jZ _ _ _)
   ·have h5:g≠f:=fun e=>h1 (by rw [← e];exact h3);show cJ g (cZ fs (dW f y)).ms gC↔_;rw [ih h3 h2,nS (lK h5 y)]
theorem sM (x:Ms):ej x=true↔∀ f,cJ f x gC:=by
 unfold ej;simp only [Bool.and_eq_true,decide_eq_true_eq];constructor
 ·rintro ⟨h1,h2,h3,h4,h5,h6,h7,h8⟩ f;cases f <;> assumption
 ·exact fun h=>⟨h .B,h .S,h .T,h .N,h .V,h .L,h .I,h .R⟩
theorem gP (x:Ms):own x=x↔∀ g,g ∉ bc x.k→cJ g x gC:=by
 unfold own;constructor
 ·intro h g hg;have h1:=gW (bc x.k) hg (bX x.k x.f x.t) x;rw [h] at h1;exact ck h1 (by cases g <;> rfl)
 ·intro h;obtain ⟨h1,h2,h3⟩:=km (bc x.k) (bX x.k x.f x.t) x;refine re h1 h2 h3 (fun g=>?_);by_cases hg:g∈bc x.k
  ·exact rT _ hg (gQ _) _ _
  ·exact ck (gW _ hg _ _) (ck (by cases g <;> rfl) (iz (h g hg)))
structure vr (x:Ms):Prop where
 o:bi x.i
 u:fI x.v.c
 uv:∀ v∈x.l,fI v.v.c
 ur:qp x.r
theorem cb.ms {w:World}{y:Mm}(h:cb w y):vr y.ms:=⟨h.o,h.u,(fun v hv=>by obtain ⟨z,hz,rfl⟩:=List.mem_map.1 hv;exact h.uv z hz),h.ur⟩
theorem ni (v:Vo) (h:fI v.v.c):ge v=true↔lh v:=by
 unfold ge lh;rw [Bool.and_eq_true,Bool.and_eq_true,oz _ h,and_assoc]
theorem tx (p:Int) (L:List Vo) (h:∀ v∈L,fI v.v.c):jy p L=true↔(∀ v∈L,lh v)∧ja p L=true:=by
 induction L generalizing p with
 | nil=>simp [jy,ja]
 | cons v L ih =>
   simp only [jy,ja,Bool.and_eq_true,List.forall_mem_cons];rw [ih v.s (fun z hz=>h z (List.mem_cons_of_mem _ hz)),ni v (h v (List.mem_cons_self ..))];constructor
   ·exact fun ⟨a,b,c,d⟩=>⟨⟨b,c⟩,a,d⟩
   ·exact fun ⟨⟨b,c⟩,a,d⟩=>⟨a,b,c,d⟩
theorem wi (L:List Vo) (h:∀ v∈L,fI v.v.c):mt L=true↔(L.length≤4096∧∀ v∈L,lh v)∧ja (-1) L=true:=by
 unfold mt;rw [Bool.and_eq_true,decide_eq_true_eq,tx _ _ h,and_assoc]
theorem iO (f:Fd) (x:Ms) (h:vr x):nK f x=true↔fp f x∧(f=.L→ja (-1) x.l=true):=by
 cases f
 ·simp [nK,fp]
 ·simp [nK,fp]
 ·simp [nK,fp]
 ·simp only [nK,fp];rw [oz _ h.u];simp
 ·simp only [nK,fp];rw [wi _ h.uv];simp
 ·simp [nK,fp,h.o]
 ·simp [nK,fp]
 ·simp only [nK,fp];rw [o5 _ h.ur];simp
theorem tb (y:Mm) (h:vr y.ms):kh y=true↔ol y.ms:=by
 have hk:bc y.ms.k=bc y.k:=rfl;unfold kh ol;rw [Bool.and_eq_true,Bool.and_eq_true,Bool.and_eq_true,sM,gP];have h1:((!(bc y.k).isEmpty)=true)↔bc y.ms.k≠[]:=by rw [hk];cases bc y.k <;> simp
 have h2:(∀ f,cJ f (cZ (bc y.k) y).ms gC)↔(∀ f∈bc y.ms.k,fp f y.ms)∧ja (-1) y.ms.l=true∧∀ g,g ∉ bc y.ms.k→cJ g y.ms gC:=by
  rw [hk];constructor
  ·intro h3;have h4:∀ f∈bc y.k,fp f y.ms∧(f=.L→ja (-1) y.ms.l=true):=fun f hf=>(iO f y.ms h).1 ((lw _ hf (gQ _) y).1 (h3 f));have h5:∀ g,g ∉ bc y.k→cJ g y.ms gC:=fun g hg=>ck (iz (iB _ hg y)) (h3 g);refine ⟨fun f hf=>(h4 f hf).1,?_,h5⟩;by_cases hL:Fd.L∈bc y.k
   ·exact (h4 .L hL).2 rfl
   ·have h6:y.ms.l=[]:=h5 .L hL;rw [h6];rfl
  ·rintro ⟨h3,h4,h5⟩ f;by_cases hf:f∈bc y.k
   ·exact (lw _ hf (gQ _) y).2 ((iO f y.ms h).2 ⟨h3 f hf,fun _=>h4⟩)
   ·exact ck (iB _ hf y) (h5 f hf)
 rw [h1,h2];exact Iff.rfl
theorem vB {x:Ms}(h:vr x) {f:Fd}(hf:fp f x):xu f x=true:=by
 cases f
 ·exact hf
 ·exact hf
 ·exact hf
 ·exact (oz _ h.u).2 hf
 ·show (ah x.l.length && x.l.all ge)=true;rw [Bool.and_eq_true,List.all_eq_true];refine ⟨(aZ _).2 (by have:=hf.1;omega),fun v hv=>(ni v (h.uv v hv)).2 (hf.2 v hv)⟩
 ·rfl
 ·exact hf
 ·exact (o5 _ h.ur).2 hf
def bQ (x:Ms):Bool:=!(bc x.k).isEmpty && (aF x.f && (aF x.t && ((bc x.k).all (fun f=>nK f x) && decide (own x=x))))
theorem gU {x:Ms}(h:vr x):bQ x=true↔ol x:=by
 unfold bQ ol;simp only [Bool.and_eq_true,List.all_eq_true,decide_eq_true_eq];have h1:((!(bc x.k).isEmpty)=true)↔bc x.k≠[]:=by cases bc x.k <;> simp
 rw [h1];refine and_congr_right (fun _=>and_congr_right (fun _=>and_congr_right (fun _=>?_)));constructor
 ·rintro ⟨h2,h3⟩;refine ⟨fun f hf=>((iO f x h).1 (h2 f hf)).1,?_,h3⟩;by_cases hL:Fd.L∈bc x.k
  ·exact ((iO .L x h).1 (h2 .L hL)).2 rfl
  ·have h6:x.l=[]:=(gP x).1 h3 .L hL;rw [h6];rfl
 ·rintro ⟨h2,h3,h4⟩;exact ⟨fun f hf=>(iO f x h).2 ⟨h2 f hf,fun _=>h3⟩,h4⟩
def jr (x:Ms):List Int × Int:=if bQ x=true then (if (bM x).length≤1048576 then (ci (bM x),0) else ([],3)) else ([],1)
def gt (l:List Int):Ms × Int :=
 if gc (dM (l,0)).2≠0 then (gC,gc (dM (l,0)).2) else if bQ (dM (l,0)).1=true then ((dM (l,0)).1,0) else (gC,4)
def fu (l:List Int):Ms × Int :=
 if (aE l).2.2≠0 then (gC,(aE l).2.2) else if (aE l).2.1 < (l.length:Int) then (gC,3) else gt (aE l).1
theorem fE {s:List Int × Int}(h:gc s=0):s=([],0):=by
 unfold gc at h;split at h
 ·rename_i h1
  split at h
  ·rename_i h2;exact Prod.ext (List.eq_nil_of_length_eq_zero h2) h1
  ·simp at h
 ·rename_i h1;exact absurd h h1
theorem vH {l:List Int}{x:Ms}(ho:bi l) (h:gt l=(x,0)):fX x∧l=bM x∧bQ x=true:=by
 unfold gt at h;split at h
 ·rename_i h1
  exact absurd (congrArg Prod.snd h) h1
 ·rename_i h1
  have h1':gc (dM (l,0)).2=0:=by simpa using h1
  split at h
  ·rename_i h2
   have e:=fE h1';have hx:(dM (l,0)).1=x:=congrArg Prod.fst h;rw [hx] at h2;have h3:=wh.bwd l x [] ho (Prod.ext hx e);rw [List.append_nil] at h3;exact ⟨h3.1,h3.2,h2⟩
  ·have:=congrArg Prod.snd h
   simp at this
theorem uS {v:Vt}(h:fH v):qp v:=by
 obtain ⟨_,h2⟩:=h;unfold sY at h2;unfold qp;split at h2
 ·rw [← h2.2];exact ⟨by simp,fun c hc=>by cases hc⟩
 split at h2
 ·rw [← h2.2];exact ⟨by simp,fun c hc=>by cases hc⟩
 split at h2
 ·rw [← h2.2];exact ⟨by simp,fun c hc=>by cases hc⟩
 split at h2
 ·have h3:=h2.1.2.1;rw [← h2.2];exact ⟨h3,fun c hc=>by cases hc⟩
 split at h2
 ·rw [← h2.2];exact ⟨by simp,fun c hc=>by cases hc⟩
 split at h2
 ·have h3:∀ x∈v.k,fI x.c:=fun x hx=>mQ (h2.1.2 x hx).2.2.2;rw [← h2.2];exact ⟨by simp,h3⟩
 split at h2
 ·rw [← h2.2];exact ⟨by simp,fun c hc=>by cases hc⟩
 ·rw [h2];exact ⟨by simp,fun c hc=>by cases hc⟩
theorem vP {x:Ms}(h:fX x):vr x:=by
 obtain ⟨_,_,_,_,h4,h5⟩:=h;have h6:=(gP x).1 h5;refine ⟨?_,?_,?_,?_⟩
 ·by_cases hf:Fd.I∈bc x.k
  ·exact (h4 .I hf).2
  ·have e:x.i=[]:=h6 .I hf;rw [e];exact bq
 ·by_cases hf:Fd.V∈bc x.k
  ·exact pb (h4 .V hf)
  ·have e:x.v=cl:=h6 .V hf;rw [e];intro c hc;cases hc
 ·by_cases hf:Fd.L∈bc x.k
  ·exact fun v hv=>pb ((h4 .L hf).2 v hv).2.2
  ·have e:x.l=[]:=h6 .L hf;rw [e];intro c hc;cases hc
 ·by_cases hf:Fd.R∈bc x.k
  ·exact uS (h4 .R hf)
  ·have e:x.r=bD:=h6 .R hf;rw [e];exact ⟨by simp [bD],fun c hc=>by cases hc⟩
end Go.Proofs.YtakafmejllilnaaGreat
