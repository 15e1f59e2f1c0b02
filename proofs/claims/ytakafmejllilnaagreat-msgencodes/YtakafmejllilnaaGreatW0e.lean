/-
  Texts laid as one.
-/
import Derived.Test.YtakafmejllilnaaGreatF2e
import Derived.Test.YtakafmejllilnaaGreatW9e
import Derived.Test.YtakafmejllilnaaGreatF13e
set_option maxHeartbeats 4000000
set_option maxRecDepth 100000
/-
 Boxes that are read under a guard.
-/
namespace Go.Proofs.YtakafmejllilnaaGreat
open Go.RowKit
inductive Fd where
 | B | S | T | V | L | I | N | R
deriving DecidableEq
def bi (k:Int):List Fd :=
 if k=1∨k=4 then [.B,.S]
 else if k=2 then [.B,.S,.L]
 else if k=3 then [.B,.S,.V]
 else if k=5 then [.B]
 else if k=6 then [.S,.V]
 else if k=7∨k=8 then [.B,.S,.T]
 else if k=9 then [.S]
 else if k=10 then [.S,.I]
 else if k=11∨k=12 then [.N,.V]
 else if k=13 then [.N,.R]
 else if k=14 then [.N,.S]
 else []
theorem gD (k:Int):(bi k).Nodup:=by
 unfold bi;repeat' split
 all_goals decide
theorem j3 {k:Int}(h:bi k≠[]):1≤k∧k≤14:=by
 unfold bi at h;repeat' split at h
 all_goals first | omega | exact absurd rfl h
def xv:Fd→String
 | .B => "wapentake/msg.ballot"
 | .S => "wapentake/msg.slot"
 | .T => "wapentake/msg.time"
 | .V => "wapentake/msg.value"
 | .L => "wapentake/msg.votes"
 | .I => "wapentake/msg.image"
 | .N => "wapentake/msg.number"
 | .R => "wapentake/msg.verdict"
def sH (T:TypeId) (v:Value) (f:Fd):Value:=.func (.method (xv f)) #[.iface T v] #[]
def xB (w:World) (T:TypeId) (v:Value) (k:Int) (r:Ending) (w':World):Prop :=
 r=.returned (.slice (some ⟨w.heap.size,0,none⟩) (bi k).length (bi k).length)∧Bx w' w.heap.size 1 ((bi k).map (sH T v))∧ab [] w w'
theorem iu (w:World) (T:TypeId) (v:Value) (k:Int) (hk:bi k≠[]):Calls Tryz.prog 32 #[.iface T v,.int .i64 k] w (xB w T v k):=by
 have hmf:∀ (fn:Go.Fn) (first cap:Array Value) (w:World),(Instr.makeFunc fn first cap).run Tryz.prog w=.ok (.func fn first cap) w:=fun _ _ _ _=>rfl;have hK:∀ cs,ab [] w (w.alloc (.cells cs 1)):=fun cs=>(ab.refl _ _).alloc _;obtain ⟨h1,h2⟩:=j3 hk;clear hk;have h3:k=1∨k=2∨k=3∨k=4∨k=5∨k=6∨k=7∨k=8∨k=9∨k=10∨k=11∨k=12∨k=13∨k=14:=by omega
 clear h1 h2;rcases h3 with rfl | rfl | rfl | rfl | rfl | rfl | rfl | rfl | rfl | rfl | rfl | rfl | rfl | rfl
 all_goals
  go_enter Tryz.func32,Tryz.ntmps32;(go_wp2_with fail);try (go_region;go_wp2_with fail)
  go_ret
  exact ⟨rfl,Bx.new w _ _,by first | exact hK _ | exact (hK _).drew⟩
theorem j4 (w:World) (h:Value) (k:Int) (hk:bi k=[]):Calls Tryz.prog 32 #[h,.int .i64 k] w fun r w'=>r=.returned (.slice none 0 0)∧w'=w:=by
 have b1:(k==1)=false:=by simp only [beq_eq_false_iff_ne,ne_eq];rintro rfl;exact absurd hk (by decide)
 have b2:(k==2)=false:=by simp only [beq_eq_false_iff_ne,ne_eq];rintro rfl;exact absurd hk (by decide)
 have b3:(k==3)=false:=by simp only [beq_eq_false_iff_ne,ne_eq];rintro rfl;exact absurd hk (by decide)
 have b4:(k==4)=false:=by simp only [beq_eq_false_iff_ne,ne_eq];rintro rfl;exact absurd hk (by decide)
 have b5:(k==5)=false:=by simp only [beq_eq_false_iff_ne,ne_eq];rintro rfl;exact absurd hk (by decide)
 have b6:(k==6)=false:=by simp only [beq_eq_false_iff_ne,ne_eq];rintro rfl;exact absurd hk (by decide)
 have b7:(k==7)=false:=by simp only [beq_eq_false_iff_ne,ne_eq];rintro rfl;exact absurd hk (by decide)
 have b8:(k==8)=false:=by simp only [beq_eq_false_iff_ne,ne_eq];rintro rfl;exact absurd hk (by decide)
 have b9:(k==9)=false:=by simp only [beq_eq_false_iff_ne,ne_eq];rintro rfl;exact absurd hk (by decide)
 have b10:(k==10)=false:=by simp only [beq_eq_false_iff_ne,ne_eq];rintro rfl;exact absurd hk (by decide)
 have b11:(k==11)=false:=by simp only [beq_eq_false_iff_ne,ne_eq];rintro rfl;exact absurd hk (by decide)
 have b12:(k==12)=false:=by simp only [beq_eq_false_iff_ne,ne_eq];rintro rfl;exact absurd hk (by decide)
 have b13:(k==13)=false:=by simp only [beq_eq_false_iff_ne,ne_eq];rintro rfl;exact absurd hk (by decide)
 have b14:(k==14)=false:=by simp only [beq_eq_false_iff_ne,ne_eq];rintro rfl;exact absurd hk (by decide)
 clear hk;go_enter Tryz.func32,Tryz.ntmps32;go_wp2_with fail
 go_ret
 exact ⟨rfl,rfl⟩
theorem aN (w:World) (n:Int):Calls Tryz.prog 74 #[.int .i64 n] w fun r w'=>r=.returned (.bool (aj n))∧w=w':=by
 by_cases h0:0≤n
 ·have h0':decide (0≤n)=true:=decide_eq_true h0;by_cases h1:n≤1099511627776
  ·have hg:aj n=true:=(aG n).2 ⟨h0,h1⟩;rw [hg];clear hg;go_enter Tryz.func74,Tryz.ntmps74;(go_wp2_with fail);go_ret
   exact ⟨rfl,rfl⟩
  ·have hg:aj n=false:=by rw [Bool.eq_false_iff];intro h;exact h1 ((aG n).1 h).2
   rw [hg];clear hg;go_enter Tryz.func74,Tryz.ntmps74;(go_wp2_with fail);go_ret
   exact ⟨rfl,rfl⟩
 ·have hg:aj n=false:=by rw [Bool.eq_false_iff];intro h;exact h0 ((aG n).1 h).1
  rw [hg];clear hg;go_enter Tryz.func74,Tryz.ntmps74;(go_wp2_with fail);go_ret
  exact ⟨rfl,rfl⟩
def vY (c:Ch):Bool:=decide (c.p.length≤255) && !(c.g && decide (c.d≠0))
def yu (L:List Ch) (jv:Value):Prop:=∃ j:Nat,jv=.int .i64 (j:Int)∧j≤L.length∧Hid (∀ q (h:q < L.length),q < j→vY L[q]=true)
theorem gB (w:World) (ao:Option Addr) (n c:Nat) (L:List Ch) (hS:dd w ao n c L) :
 Calls Tryz.prog 75 #[.slice ao n c] w fun r w'=>r=.returned (.bool (mh L))∧w=w':=by
 have hl:=hS.1;have hc:=hS.2.1;have hm:=hS.2.2.1;unfold maxLen at hm;have HS:=aa hS;clear hS;by_cases hn:64 < n
 ·have hn':(64:Int) < n:=by omega
  have hb:mh L=false:=by unfold mh;rw [decide_eq_false (by omega)];rfl
  rw [hb];clear hb;go_enter Tryz.func75,Tryz.ntmps75;(go_wp2_with fail);go_ret
  exact ⟨rfl,rfl⟩
 have hn':¬ (64:Int) < n:=by omega
 have HN:Hid (L.length≤64):=by show L.length≤64;omega
 go_enter Tryz.func75,Tryz.ntmps75;go_wp2_with fail
 go_loop [3] (fun jv=>yu L jv) (fun jv=>n - (intOf jv).toNat)
 case atStart=>exact ⟨0,rfl,Nat.zero_le _,fun j h h2=>by omega⟩
 case round =>
  obtain ⟨j,rfl,hj,HJ⟩:=hrel;by_cases hjl:j < n
  ·have hjl':(j:Int) < n:=by omega
   have hjc:j≤c:=by omega
   have hjn:j < L.length:=by omega
   obtain ⟨g2,o2,rfl,hy⟩:=HS.out.2.2.2 j hjn;obtain ⟨y,hye⟩:∃ y,y=L[j]'hjn:=⟨_,rfl⟩;rw [← hye] at hy;have HY:Hid (y=L[j]'hjn):=hye;obtain ⟨yp,yg,yd⟩:=y;obtain ⟨d0,d1,d2⟩:=hy;simp only at d0 d1 d2;have hsy:(ac yp).size=yp.length:=bJ _;clear hye;by_cases hp:255 < yp.length
   ·have hp':(255:Int) < yp.length:=by omega
    have HB:Hid (mh L=false):=by
     rw [Bool.eq_false_iff];intro h;unfold mh at h;simp only [Bool.and_eq_true] at h;have h2:=List.all_eq_true.1 h.2 _ (List.getElem_mem hjn);rw [HY.out.symm] at h2;exact absurd h2 (by simp;omega)
    clear HY;(go_wp2_with fail);go_ret
    rw [HB.out];exact ⟨rfl,rfl⟩
   have hp':¬ (255:Int) < yp.length:=by omega
   cases yg
   ·clear d2
    have HJ2:Hid (∀ q (h:q < L.length),q < j+1→vY L[q]=true):=fun q h h2=>by
     by_cases e:q=j
     ·subst e;rw [← HY.out];unfold vY;simp;omega
     ·exact HJ.out q h (by omega)
    clear HY;(go_wp2_with fail);go_round
    case rel=>exact ⟨j+1,by go_num,by omega,HJ2⟩
    case measure=>simp [intOf];omega
   by_cases hd:yd=0
   ·subst hd
    have HJ2:Hid (∀ q (h:q < L.length),q < j+1→vY L[q]=true):=fun q h h2=>by
     by_cases e:q=j
     ·subst e;rw [← HY.out];unfold vY;simp;omega
     ·exact HJ.out q h (by omega)
    clear HY;(go_wp2_with fail);go_round
    case rel=>exact ⟨j+1,by go_num,by omega,HJ2⟩
    case measure=>simp [intOf];omega
   ·have hd':(yd != 0)=true:=by simpa using hd
    have HB:Hid (mh L=false):=by
     rw [Bool.eq_false_iff];intro h;unfold mh at h;simp only [Bool.and_eq_true] at h;have h2:=List.all_eq_true.1 h.2 _ (List.getElem_mem hjn);rw [HY.out.symm] at h2;exact absurd h2 (by simp;omega)
    clear HY;(go_wp2_with fail);go_ret
    rw [HB.out];exact ⟨rfl,rfl⟩
  ·have hjl':¬ (j:Int) < n:=by omega
   have HB:Hid (mh L=true):=by
    show mh L=true;unfold mh;simp only [Bool.and_eq_true,decide_eq_true_eq,List.all_eq_true];refine ⟨HN.out,fun y hy=>?_⟩;obtain ⟨q,hq,rfl⟩:=List.getElem_of_mem hy;have h1:=HJ.out q hq (by omega);unfold vY at h1;simpa using h1
   (go_wp2_with fail);go_ret
   rw [HB.out];exact ⟨rfl,rfl⟩
structure Vo where
 s:Int
 b:Int
 v:Rq
deriving DecidableEq
structure Ms where
 k:Int
 f:Int
 t:Int
 b:Int
 s:Int
 m:Int
 v:Rq
 l:List Vo
 i:List Int
 n:Int
 r:Vt
deriving DecidableEq
def jr:Ms:=⟨0,0,0,0,0,0,fd,[],[],0,eq⟩
def gS:Fd→Ms→Ms→Ms
 | .B,m,x=>{ m with b:=x.b }
 | .S,m,x=>{ m with s:=x.s }
 | .T,m,x=>{ m with m:=x.m }
 | .V,m,x=>{ m with v:=x.v }
 | .L,m,x=>{ m with l:=x.l }
 | .I,m,x=>{ m with i:=x.i }
 | .N,m,x=>{ m with n:=x.n }
 | .R,m,x=>{ m with r:=x.r }
def jl:List Fd→Ms→Ms→Ms
 | [],m,_=>m
 | f :: fs,m,x=>jl fs (gS f m x) x
def l6 (k f t:Int):Ms:={ jr with k:=k,f:=f,t:=t }
def own (x:Ms):Ms:=jl (bi x.k) (l6 x.k x.f x.t) x
def qj (v:Vo):List Int:=ag v.s++(ag v.b++bR v.v)
def kK (v:Vo):Prop:=aj v.s=true∧aj v.b=true∧eF v.v
def dp:Fd→Ms→List Int
 | .B,x=>ag x.b
 | .S,x=>ag x.s
 | .T,x=>ag x.m
 | .V,x=>bR x.v
 | .L,x=>ag x.l.length++x.l.flatMap qj
 | .I,x=>ag x.i.length++x.i
 | .N,x=>ag x.n
 | .R,x=>bV x.r
def fb:Fd→Ms→Prop
 | .B,x=>aj x.b=true
 | .S,x=>aj x.s=true
 | .T,x=>aj x.m=true
 | .V,x=>eF x.v
 | .L,x=>x.l.length≤4096∧∀ v∈x.l,kK v
 | .I,x=>x.i.length≤524288∧bh x.i
 | .N,x=>aj x.n=true
 | .R,x=>fi x.r
def cw:Fd→Ms→Ms→Prop
 | .B,x,y=>x.b=y.b
 | .S,x,y=>x.s=y.s
 | .T,x,y=>x.m=y.m
 | .V,x,y=>x.v=y.v
 | .L,x,y=>x.l=y.l
 | .I,x,y=>x.i=y.i
 | .N,x,y=>x.n=y.n
 | .R,x,y=>x.r=y.r
theorem t9 {f:Fd}{x y:Ms}(h:cw f x y):dp f x=dp f y:=by cases f <;> simp only [cw] at h <;> simp only [dp,h]
theorem jY {f:Fd}{x y:Ms}(h:cw f x y):fb f x↔fb f y:=by cases f <;> simp only [cw] at h <;> simp only [fb,h]
theorem lr {f:Fd}(m:Ms) {x y:Ms}(h:cw f x y):gS f m x=gS f m y:=by cases f <;> simp only [cw] at h <;> simp only [gS,h]
theorem ij (f:Fd) (x:Ms):cw f x x:=by cases f <;> rfl
theorem ix {f:Fd}{x y:Ms}(h:cw f x y):cw f y x:=by cases f <;> exact Eq.symm h
theorem ci {f:Fd}{x y z:Ms}(h:cw f x y) (k:cw f y z):cw f x z:=by cases f <;> exact Eq.trans h k
theorem jE (f:Fd) (m x:Ms):cw f (gS f m x) x:=by cases f <;> rfl
theorem nE {f g:Fd}(h:g≠f) (m x:Ms):cw g (gS f m x) m:=by cases f <;> cases g <;> first | rfl | exact absurd rfl h
theorem p2 (f:Fd) (m x:Ms):(gS f m x).k=m.k∧(gS f m x).f=m.f∧(gS f m x).t=m.t:=by cases f <;> exact ⟨rfl,rfl,rfl⟩
theorem gN {g:Fd}(fs:List Fd) (h:g ∉ fs) (m x:Ms):cw g (jl fs m x) m:=by
 induction fs generalizing m with
 | nil=>exact ij g m
 | cons f fs ih =>
   exact ci (ih (fun hm=>h (List.mem_cons_of_mem _ hm)) (gS f m x)) (nE (fun e=>h (by rw [e];exact List.mem_cons_self ..)) m x)
theorem rC {g:Fd}(fs:List Fd) (h:g∈fs) (hn:fs.Nodup) (m x:Ms):cw g (jl fs m x) x:=by
 induction fs generalizing m with
 | nil=>cases h
 | cons f fs ih =>
   obtain ⟨h1,h2⟩:=List.nodup_cons.1 hn;rcases List.mem_cons.1 h with rfl | h3
   ·exact ci (gN fs h1 _ x) (jE _ m x)
   ·exact ih h3 h2 _
theorem jZ (fs:List Fd) (m x:Ms):(jl fs m x).k=m.k∧(jl fs m x).f=m.f∧(jl fs m x).t=m.t:=by
 induction fs generalizing m with
 | nil=>exact ⟨rfl,rfl,rfl⟩
 | cons f fs ih =>
   obtain ⟨h1,h2,h3⟩:=ih (gS f m x);obtain ⟨g1,g2,g3⟩:=p2 f m x;exact ⟨h1.trans g1,h2.trans g2,h3.trans g3⟩
theorem sa {x y:Ms}(hk:x.k=y.k) (hf:x.f=y.f) (ht:x.t=y.t) (h:∀ f,cw f x y):x=y:=by
 obtain ⟨k,f,t,b,s,m,v,l,i,n,r⟩:=x;obtain ⟨k',f',t',b',s',m',v',l',i',n',r'⟩:=y;have hB:b=b':=h .B;have hS:s=s':=h .S;have hT:m=m':=h .T;have hV:v=v':=h .V;have hL:l=l':=h .L;have hI:i=i':=h .I;have hN:n=n':=h .N;have hR:r=r':=h .R;simp only at hk hf ht;subst hk hf ht hB hS hT hV hL hI hN hR;rfl
def iy:gg Vo:=cL (fun p=>(⟨p.1,p.2.1,p.2.2⟩:Vo)) (eA aw fun _=>eA aw fun _=>lI)
theorem iw:fa iy kK qj:=by
 have h:=(aF.seq (fun _=>aF.seq (fun _=>wW))).map (fun p=>(⟨p.1,p.2.1,p.2.2⟩:Vo)) (fun x=>(x.s,(x.b,x.v))) (fun a _=>rfl);exact h.imp (fun _=>rfl) (fun x=>⟨fun h=>⟨h,rfl⟩,fun h=>h.1⟩) (fun _ _=>rfl)
def jy:gg (List Vo):=cL Prod.snd (eA (kl 4096) (fun n=>dy iy n.toNat))
theorem tf:fa jy (fun L=>L.length≤4096∧∀ x∈L,kK x) (fun L=>ag L.length++L.flatMap qj):=by
 have h2:=((ma (4096:Int) (by omega)).seq (fun n=>o3 iw ⟨0,0,fd⟩ n.toNat)).map (fun p=>p.2) (fun L=>((L.length:Int),L)) (fun a ha=>by
  obtain ⟨⟨h1,_⟩,h3,_⟩:=ha;have:=(aG a.1).1 h1
  refine Prod.ext ?_ rfl;show (a.2.length:Int)=a.1;omega)
 refine h2.imp (fun s=>rfl) (fun L=>?_) (fun L _=>rfl);constructor
 ·intro ⟨h3,h4⟩;exact ⟨⟨⟨(aG _).2 (by omega),by show (L.length:Int)≤_;omega⟩,by show L.length=(L.length:Int).toNat;omega,h4⟩,rfl⟩
 ·intro ⟨⟨⟨_,h3⟩,_,h4⟩,_⟩;exact ⟨by have h3':(L.length:Int)≤(4096:Int):=h3;omega,h4⟩
def vW:gg (List Int):=fun s=>((aA s.2 524288 s.1).2.1,((aA s.2 524288 s.1).2.2,(aA s.2 524288 s.1).1))
theorem tu:fa vW (fun L=>L.length≤524288∧bh L) (fun L=>ag L.length++L):=by
 have hT:∀ s,vW s=((aA s.2 524288 s.1).2.1,((aA s.2 524288 s.1).2.2,(aA s.2 524288 s.1).1)):=fun _=>rfl;refine ⟨fun x u hx=>?_,fun l x u ho h=>?_,fun e he=>?_,fun l h=>?_⟩
 ·rw [hT];show ((aA 0 524288 (ag x.length++x++u)).2.1,((aA 0 524288 (ag x.length++x++u)).2.2,(aA 0 524288 (ag x.length++x++u)).1))=_;have hr:=fW (most:=524288) (fS (x.length:Int) (x++u) (by have:=hx.1;unfold aj;simp;omega));rw [List.append_assoc,hr,if_neg (by simp),if_neg (by have:=hx.1;omega),if_neg (by simp;omega)];have e1:(x++u).take (x.length:Int).toNat=x:=by rw [Int.toNat_natCast];simp
  have e2:(x++u).drop (x.length:Int).toNat=u:=by rw [Int.toNat_natCast];simp
  simp only [e1,e2]
 ·rw [hT] at h;have h':((aA 0 524288 l).2.1,((aA 0 524288 l).2.2,(aA 0 524288 l).1))=(x,(u,0)):=h;obtain ⟨q,hq⟩:∃ q,q=an 0 l:=⟨_,rfl⟩;obtain ⟨e1,y,rest⟩:=q;have hr:=fW (most:=524288) hq.symm;rw [hr] at h';by_cases he:e1=0
  ·subst he;obtain ⟨h1,h2⟩:=gQ ho hq.symm;rw [if_neg (by simp)] at h';by_cases h3:(524288:Int) < y
   ·rw [if_pos h3] at h';simp at h'
   ·rw [if_neg h3] at h';by_cases h4:(rest.length:Int) < y
    ·rw [if_pos h4] at h';simp at h'
    ·rw [if_neg h4] at h';simp only [Prod.mk.injEq,and_true] at h';obtain ⟨rfl,rfl⟩:=h';have hl:(rest.take y.toNat).length=y.toNat:=by rw [List.length_take];omega
     have hor:bh rest:=by rw [h2] at ho;exact ho.right
     refine ⟨⟨by omega,hor.take _⟩,?_⟩;rw [hl,List.append_assoc,List.take_append_drop,show ((y.toNat:Nat):Int)=y by omega];exact h2
  ·rw [if_pos he] at h';simp only [Prod.mk.injEq] at h';exact absurd h'.2.2 he
 ·rw [hT];show ((aA e 524288 []).2.2,(aA e 524288 []).1)=_;unfold aA;rw [if_neg he]
 ·rw [hT] at h ⊢;show (aA 0 524288 l).2.2=[];have h':(aA 0 524288 l).1≠0:=h;unfold aA bv at h' ⊢;rw [if_pos rfl] at h' ⊢;split
  ·rfl
  ·rename_i h1
   rw [if_neg h1] at h';split
   ·rfl
   ·rename_i h2
    rw [if_neg h2] at h';split
    ·rfl
    ·rename_i h3
     rw [if_neg h3] at h';exact absurd rfl h'
def hZ:Fd→Ms→gg Ms
 | .B,m=>cL (fun x=>{ m with b:=x }) aw
 | .S,m=>cL (fun x=>{ m with s:=x }) aw
 | .T,m=>cL (fun x=>{ m with m:=x }) aw
 | .V,m=>cL (fun x=>{ m with v:=x }) lI
 | .L,m=>cL (fun x=>{ m with l:=x }) jy
 | .I,m=>cL (fun x=>{ m with i:=x }) vW
 | .N,m=>cL (fun x=>{ m with n:=x }) aw
 | .R,m=>cL (fun x=>{ m with r:=x }) p4
theorem nS (f:Fd) (m:Ms):fa (hZ f m) (fun x=>fb f x∧gS f m x=x) (dp f):=by
 cases f
 ·exact aF.map (fun x=>{ m with b:=x }) Ms.b (fun _ _=>rfl)
 ·exact aF.map (fun x=>{ m with s:=x }) Ms.s (fun _ _=>rfl)
 ·exact aF.map (fun x=>{ m with m:=x }) Ms.m (fun _ _=>rfl)
 ·exact wW.map (fun x=>{ m with v:=x }) Ms.v (fun _ _=>rfl)
 ·exact tf.map (fun x=>{ m with l:=x }) Ms.l (fun _ _=>rfl)
 ·exact tu.map (fun x=>{ m with i:=x }) Ms.i (fun _ _=>rfl)
 ·exact aF.map (fun x=>{ m with n:=x }) Ms.n (fun _ _=>rfl)
 ·exact xz.map (fun x=>{ m with r:=x }) Ms.r (fun _ _=>rfl)
def dN:List Fd→Ms→gg Ms
 | [],m=>pS m
 | f :: fs,m=>fun s=>dN fs (hZ f m s).1 (hZ f m s).2
theorem tS (fs:List Fd) (hn:fs.Nodup) (m:Ms):fa (dN fs m) (fun x=>(∀ f∈fs,fb f x)∧jl fs m x=x) (fun x=>fs.flatMap fun f=>dp f x):=by
 induction fs generalizing m with
 | nil =>
   refine (fa.ret m).imp (fun _=>rfl) (fun x=>?_) (fun _ _=>rfl);exact ⟨fun h=>h.2.symm,fun h=>⟨(fun _ h=>by cases h),h.symm⟩⟩
 | cons f fs ih =>
   obtain ⟨h1,h2⟩:=List.nodup_cons.1 hn
   have h:=((nS f m).seq (fun m1=>ih h2 m1)).map Prod.snd (fun x=>(gS f m x,x)) (fun a ha=>by
    obtain ⟨⟨_,ha1⟩,_,ha2⟩:=ha;refine Prod.ext ?_ rfl;show gS f m a.2=a.1;have h3:=gN (g:=f) fs h1 a.1 a.2;rw [ha2] at h3;rw [lr m h3,ha1])
   refine h.imp (fun _=>rfl) (fun x=>?_) (fun x _=>?_)
   ·have e1:=jE f m x;constructor
    ·rintro ⟨h3,h4⟩;exact ⟨⟨⟨(jY e1).2 (h3 f (List.mem_cons_self ..)),lr m e1⟩,fun g hg=>h3 g (List.mem_cons_of_mem _ hg),h4⟩,rfl⟩
    ·rintro ⟨⟨⟨h3,_⟩,h4,h5⟩,_⟩;refine ⟨fun g hg=>?_,h5⟩;rcases List.mem_cons.1 hg with rfl | hg
     ·exact (jY e1).1 h3
     ·exact h4 g hg
   ·show (f :: fs).flatMap (fun f=>dp f x)=dp f (gS f m x)++_;rw [List.flatMap_cons,t9 (jE f m x)]
def bg:gg Int:=fun s=>if bi (aw s).1=[] then ((aw s).1,([],cf (aw s).2.2)) else aw s
theorem t4:fa bg (fun k=>aj k=true∧bi k≠[]) ag:=by
 have hU:∀ s,bg s=if bi (aw s).1=[] then ((aw s).1,([],cf (aw s).2.2)) else aw s:=fun _=>rfl
 refine ⟨fun x u h=>?_,fun l x u ho h=>?_,fun e he=>?_,fun l h=>?_⟩
 ·rw [hU,aF.fwd x u h.1,if_neg h.2]
 ·rw [hU] at h;split at h
  ·simp only [Prod.mk.injEq] at h;exfalso
   have:=h.2.2
   unfold cf at this;split at this
   ·simp at this
   ·contradiction
  ·rename_i h1
   have h2:=aF.bwd l x u ho h;rw [h] at h1;exact ⟨⟨h2.1,h1⟩,h2.2⟩
 ·rw [hU]
  have e0:bi (aw ([],e)).1=[]:=by
   show bi (an e []).2.1=[];rw [eY e he];show bi 0=[];decide
  rw [if_pos e0];have e1:(aw ([],e)).2.2=e:=by rw [aF.bad e he]
  show ([],cf (aw ([],e)).2.2)=_;rw [e1];unfold cf;rw [if_neg he]
 ·rw [hU] at h ⊢;split
  ·rfl
  ·rename_i h1
   rw [if_neg h1] at h;exact aF.nil l h
def fl:gg Ms:=cL (fun p=>p.2.2.2) (eA bg fun k=>eA aw fun f=>eA aw fun t=>dN (bi k) (l6 k f t))
def ia (x:Ms):Prop:=aj x.k=true∧bi x.k≠[]∧aj x.f=true∧aj x.t=true∧(∀ f∈bi x.k,fb f x)∧own x=x
def bM (x:Ms):List Int:=ag x.k++(ag x.f++(ag x.t++(bi x.k).flatMap fun f=>dp f x))
theorem xC:fa fl ia bM:=by
 have h:=(t4.seq (fun k=>aF.seq (fun f=>aF.seq (fun t=>tS (bi k) (gD k) (l6 k f t))))).map (fun p=>p.2.2.2) (fun x=>(x.k,(x.f,(x.t,x)))) (fun a ha=>by
  obtain ⟨_,_,_,_,ha⟩:=ha;obtain ⟨h1,h2,h3⟩:=jZ (bi a.1) (l6 a.1 a.2.1 a.2.2.1) a.2.2.2;rw [ha] at h1 h2 h3;exact Prod.ext h1 (Prod.ext h2 (Prod.ext h3 rfl)))
 refine h.imp (fun _=>rfl) (fun x=>?_) (fun _ _=>rfl);unfold ia own;constructor
 ·rintro ⟨h1,h2,h3,h4,h5,h6⟩;exact ⟨⟨⟨h1,h2⟩,h3,h4,h5,h6⟩,rfl⟩
 ·rintro ⟨⟨⟨h1,h2⟩,h3,h4,h5,h6⟩,_⟩;exact ⟨h1,h2,h3,h4,h5,h6⟩
def bt (n:Int):Bool:=(decide (0≤n) && decide (n < 15)) || (decide (100≤n) && decide (n≤199))
def iQ:Int→List Vo→Bool
 | _,[]=>true
 | p,v :: L=>decide (p < v.s) && iQ v.s L
def nO (x:Ms):Prop:=bi x.k≠[]∧bt x.f=true∧bt x.t=true∧(∀ f∈bi x.k,fb f x)∧iQ (-1) x.l=true∧own x=x
theorem ll {n:Int}(h:bt n=true):aj n=true:=by
 unfold bt at h;simp only [Bool.or_eq_true,Bool.and_eq_true,decide_eq_true_eq] at h;exact (aG n).2 (by omega)
theorem fA {x:Ms}(h:nO x):ia x:=by
 obtain ⟨h1,h2,h3,h4,_,h5⟩:=h;have:=j3 h1
 exact ⟨(aG _).2 (by omega),h1,ll h2,ll h3,h4,h5⟩
end Go.Proofs.YtakafmejllilnaaGreat
