/-
  Texts laid as one.
-/
import Derived.Test.YtakafmejllilnaaGreatW0r
import Derived.Test.YtakafmejllilnaaGreatF13r
set_option maxHeartbeats 4000000
set_option maxRecDepth 100000
/-
 Boxes that are read under a guard.
-/
namespace Go.Proofs.YtakafmejllilnaaGreat
open Go.RowKit
theorem jH {P:Program}{ops:Array Oper}{rest:List Oper}{a:Act}{w:World}{Q:Exit→Act→World→Prop}{d:Option Tmp}{x:Operand}{T ty:TypeId}{ps:String}{af:Array Edge}{g:Nat × Bool}
 {b:Nat}{cs:List Value}(hc:Bx w b T cs) (hT:aq P T cs.length) (hw:Region.wanted ⟨d,.load T x,ty,ps,af,some g⟩ (yielded ops a.tmps)=true) (hx:a.eval x=.pointer (some ⟨b,0,none⟩))
 (h:wpList P ops Q rest (a.put d (.agg cs.toArray)) w):wpList P ops Q (⟨d,.load T x,ty,ps,af,some g⟩ :: rest) a w:=by
 obtain ⟨D,hu,hd,hi⟩:=hT;unfold wpList;rw [if_pos hw];exact Or.inl (wp_load_mid T x rfl b 0 hx cs D hc.range hu hd hi h)
inductive Fd where
 | B | S | T | V | L | I | N | R
deriving DecidableEq
def bc (k:Int):List Fd :=
 if k=1∨k=4 then [.B,.S]
 else if k=2 then [.B,.S,.L]
 else if k=3 then [.B,.S,.V]
 else if k=5 then [.B]
 else if k=6 then [.S,.V]
 else if k=7∨k=8 then [.B,.S,.T]
 else if k=9 then [.S]
 else if k=10 then [.S,.I]
 else if k=11∨k=12 then [.N,.V]
 else if k=13 then [.N,.R]
 else if k=14 then [.N,.S]
 else []
theorem gQ (k:Int):(bc k).Nodup:=by
 unfold bc;repeat' split
 all_goals decide
theorem kz {k:Int}(h:bc k≠[]):1≤k∧k≤14:=by
 unfold bc at h;repeat' split at h
 all_goals first | omega | exact absurd rfl h
def xw:Fd→String
 | .B => "wapentake/msg.ballot"
 | .S => "wapentake/msg.slot"
 | .T => "wapentake/msg.time"
 | .V => "wapentake/msg.value"
 | .L => "wapentake/msg.votes"
 | .I => "wapentake/msg.image"
 | .N => "wapentake/msg.number"
 | .R => "wapentake/msg.verdict"
def sX (T:TypeId) (v:Value) (f:Fd):Value:=.func (.method (xw f)) #[.iface T v] #[]
def xE (w:World) (T:TypeId) (v:Value) (k:Int) (r:Ending) (w':World):Prop :=
 r=.returned (.slice (some ⟨w.heap.size,0,none⟩) (bc k).length (bc k).length)∧Bx w' w.heap.size 1 ((bc k).map (sX T v))∧ab [] w w'
theorem iw (w:World) (T:TypeId) (v:Value) (k:Int) (hk:bc k≠[]):Calls Tryz.prog 32 #[.iface T v,.int .i64 k] w (xE w T v k):=by
 have hmf:∀ (fn:Go.Fn) (first cap:Array Value) (w:World),(Instr.makeFunc fn first cap).run Tryz.prog w=.ok (.func fn first cap) w:=fun _ _ _ _=>rfl;have hK:∀ cs,ab [] w (w.alloc (.cells cs 1)):=fun cs=>(ab.refl _ _).alloc _;obtain ⟨h1,h2⟩:=kz hk;clear hk;have h3:k=1∨k=2∨k=3∨k=4∨k=5∨k=6∨k=7∨k=8∨k=9∨k=10∨k=11∨k=12∨k=13∨k=14:=by omega
 clear h1 h2;rcases h3 with rfl | rfl | rfl | rfl | rfl | rfl | rfl | rfl | rfl | rfl | rfl | rfl | rfl | rfl
 all_goals
  go_enter Tryz.func32,Tryz.ntmps32;(go_wp2_with fail);try (go_region;go_wp2_with fail)
  go_ret
  exact ⟨rfl,Bx.new w _ _,by first | exact hK _ | exact (hK _).drew⟩
theorem kd (w:World) (h:Value) (k:Int) (hk:bc k=[]):Calls Tryz.prog 32 #[h,.int .i64 k] w fun r w'=>r=.returned (.slice none 0 0)∧w'=w:=by
 have b1:(k==1)=false:=by simp only [beq_eq_false_iff_ne,ne_eq];rintro rfl;exact absurd hk (by decide)
 have b2:(k==2)=false:=by simp only [beq_eq_false_iff_ne,ne_eq];rintro rfl;exact absurd hk (by decide)
 have b3:(k==3)=false:=by simp only [beq_eq_false_iff_ne,ne_eq];rintro rfl;exact absurd hk (by decide)
 have b4:(k==4)=false:=by simp only [beq_eq_false_iff_ne,ne_eq];rintro rfl;exact absurd hk (by decide)
 have b5:(k==5)=false:=by simp only [beq_eq_false_iff_ne,ne_eq];rintro rfl;exact absurd hk (by decide)
 have b6:(k==6)=false:=by simp only [beq_eq_false_iff_ne,ne_eq];rintro rfl;exact absurd hk (by decide)
 have b7:(k==7)=false:=by simp only [beq_eq_false_iff_ne,ne_eq];rintro rfl;exact absurd hk (by decide)
 have b8:(k==8)=false:=by simp only [beq_eq_false_iff_ne,ne_eq];rintro rfl;exact absurd hk (by decide)
 have b9:(k==9)=false:=by simp only [beq_eq_false_iff_ne,ne_eq];rintro rfl;exact absurd hk (by decide)
 have b10:(k==10)=false:=by simp only [beq_eq_false_iff_ne,ne_eq];rintro rfl;exact absurd hk (by decide)
 have b11:(k==11)=false:=by simp only [beq_eq_false_iff_ne,ne_eq];rintro rfl;exact absurd hk (by decide)
 have b12:(k==12)=false:=by simp only [beq_eq_false_iff_ne,ne_eq];rintro rfl;exact absurd hk (by decide)
 have b13:(k==13)=false:=by simp only [beq_eq_false_iff_ne,ne_eq];rintro rfl;exact absurd hk (by decide)
 have b14:(k==14)=false:=by simp only [beq_eq_false_iff_ne,ne_eq];rintro rfl;exact absurd hk (by decide)
 clear hk;go_enter Tryz.func32,Tryz.ntmps32;go_wp2_with fail
 go_ret
 exact ⟨rfl,rfl⟩
def mO (L:List Ch):Bool:=decide (L.length≤64) && L.all (fun c=>decide (c.p.length≤255) && !(c.g && decide (c.d≠0)))
def jU (r:Rq):Rq :=
 if r.k=0 then cl
 else if r.k=1 then ⟨r.k,r.n,0,0,0,[],[],[],0,0,0⟩
 else if r.k=2 then ⟨r.k,[],r.s,r.q,r.b,r.f,r.c,[],0,0,0⟩
 else if r.k=4 then ⟨r.k,[],r.s,r.q,0,[],[],r.p,0,0,0⟩
 else if r.k=5 then ⟨r.k,[],r.s,r.q,0,[],[],[],r.fr,r.mn,0⟩
 else if r.k=6∨r.k=7 then ⟨r.k,[],r.s,r.q,0,[],[],[],0,0,r.mb⟩
 else ⟨r.k,[],r.s,r.q,0,[],[],[],0,0,0⟩
def dA (r:Rq):Bool:=decide (0≤r.k) && decide (r.k < 8) && ah r.s && ah r.q && ah r.b && ah r.fr && ah r.mn && ah r.mb
def dj (r:Rq):Bool:=dA r && eS r.n && eS r.f && eS r.p && mO r.c && decide (r=jU r)
theorem pg (L:List Ch) (h:fI L):mO L=true↔fP L:=by
 unfold mO fP;simp only [Bool.and_eq_true,decide_eq_true_eq,List.all_eq_true];refine and_congr_right (fun _=>forall_congr' (fun c=>forall_congr' (fun hc=>?_)));unfold jD eS;have hd:=h c hc;cases c.g
 ·simp [hd]
 ·simp
theorem bu:ah 0=true:=by decide
theorem fo:eS []=true:=by decide
theorem pZ:mO []=true:=by decide
theorem kU (r:Rq) (h:fI r.c):dj r=true↔ff r:=by
 obtain ⟨k,n,s,q,b,f,c,p,fr,mn,mb⟩:=r;have hc:=pg c h;unfold dj dA ff lj jU;simp only [Bool.and_eq_true,decide_eq_true_eq] at *;have hk:ah k=true∧k≤7↔0≤k∧k < 8:=by rw [aZ];omega
 rw [hk];by_cases h0:k=0
 ·simp only [if_pos h0];unfold cl;constructor
  ·rintro ⟨⟨⟨⟨⟨⟨⟨⟨⟨⟨⟨⟨g0,g1⟩,g2⟩,g3⟩,g4⟩,g5⟩,g6⟩,g7⟩,t1⟩,t2⟩,t3⟩,m⟩,e⟩;exact ⟨⟨g0,g1⟩,by rw [e,h0]⟩
  ·rintro ⟨⟨g0,g1⟩,e⟩;rw [jQ] at e;obtain ⟨_,rfl,rfl,rfl,rfl,rfl,rfl,rfl,rfl,rfl,rfl⟩:=e;subst h0;simp [bu,fo,pZ]
 by_cases h1:k=1
 ·simp only [if_neg h0,if_pos h1];constructor
  ·rintro ⟨⟨⟨⟨⟨⟨⟨⟨⟨⟨⟨⟨g0,g1⟩,g2⟩,g3⟩,g4⟩,g5⟩,g6⟩,g7⟩,t1⟩,t2⟩,t3⟩,m⟩,e⟩;exact ⟨⟨g0,g1⟩,t1,e.symm⟩
  ·rintro ⟨⟨g0,g1⟩,t1,e⟩;rw [jQ] at e;obtain ⟨_,_,rfl,rfl,rfl,rfl,rfl,rfl,rfl,rfl,rfl⟩:=e;exact ⟨⟨⟨⟨⟨⟨⟨⟨⟨⟨⟨⟨g0,g1⟩,bu⟩,bu⟩,bu⟩,bu⟩,bu⟩,bu⟩,t1⟩,fo⟩,fo⟩,pZ⟩,rfl⟩
 by_cases h2:k=2
 ·simp only [if_neg h0,if_neg h1,if_pos h2];constructor
  ·rintro ⟨⟨⟨⟨⟨⟨⟨⟨⟨⟨⟨⟨g0,g1⟩,g2⟩,g3⟩,g4⟩,g5⟩,g6⟩,g7⟩,t1⟩,t2⟩,t3⟩,m⟩,e⟩;exact ⟨⟨g0,g1⟩,⟨g2,g3,g4,t2,hc.1 m⟩,e.symm⟩
  ·rintro ⟨⟨g0,g1⟩,⟨g2,g3,g4,t2,m⟩,e⟩;rw [jQ] at e;obtain ⟨_,rfl,_,_,_,_,_,rfl,rfl,rfl,rfl⟩:=e;exact ⟨⟨⟨⟨⟨⟨⟨⟨⟨⟨⟨⟨g0,g1⟩,g2⟩,g3⟩,g4⟩,bu⟩,bu⟩,bu⟩,fo⟩,t2⟩,fo⟩,hc.2 m⟩,rfl⟩
 by_cases h4:k=4
 ·simp only [if_neg h0,if_neg h1,if_neg h2,if_pos h4];constructor
  ·rintro ⟨⟨⟨⟨⟨⟨⟨⟨⟨⟨⟨⟨g0,g1⟩,g2⟩,g3⟩,g4⟩,g5⟩,g6⟩,g7⟩,t1⟩,t2⟩,t3⟩,m⟩,e⟩;exact ⟨⟨g0,g1⟩,⟨g2,g3,t3⟩,e.symm⟩
  ·rintro ⟨⟨g0,g1⟩,⟨g2,g3,t3⟩,e⟩;rw [jQ] at e;obtain ⟨_,rfl,_,_,rfl,rfl,rfl,_,rfl,rfl,rfl⟩:=e;exact ⟨⟨⟨⟨⟨⟨⟨⟨⟨⟨⟨⟨g0,g1⟩,g2⟩,g3⟩,bu⟩,bu⟩,bu⟩,bu⟩,fo⟩,fo⟩,t3⟩,pZ⟩,rfl⟩
 by_cases h5:k=5
 ·simp only [if_neg h0,if_neg h1,if_neg h2,if_neg h4,if_pos h5];constructor
  ·rintro ⟨⟨⟨⟨⟨⟨⟨⟨⟨⟨⟨⟨g0,g1⟩,g2⟩,g3⟩,g4⟩,g5⟩,g6⟩,g7⟩,t1⟩,t2⟩,t3⟩,m⟩,e⟩;exact ⟨⟨g0,g1⟩,⟨g2,g3,g5,g6⟩,e.symm⟩
  ·rintro ⟨⟨g0,g1⟩,⟨g2,g3,g5,g6⟩,e⟩;rw [jQ] at e;obtain ⟨_,rfl,_,_,rfl,rfl,rfl,rfl,_,_,rfl⟩:=e;exact ⟨⟨⟨⟨⟨⟨⟨⟨⟨⟨⟨⟨g0,g1⟩,g2⟩,g3⟩,bu⟩,g5⟩,g6⟩,bu⟩,fo⟩,fo⟩,fo⟩,pZ⟩,rfl⟩
 by_cases h6:k=6∨k=7
 ·simp only [if_neg h0,if_neg h1,if_neg h2,if_neg h4,if_neg h5,if_pos h6];constructor
  ·rintro ⟨⟨⟨⟨⟨⟨⟨⟨⟨⟨⟨⟨g0,g1⟩,g2⟩,g3⟩,g4⟩,g5⟩,g6⟩,g7⟩,t1⟩,t2⟩,t3⟩,m⟩,e⟩;exact ⟨⟨g0,g1⟩,⟨g2,g3,g7⟩,e.symm⟩
  ·rintro ⟨⟨g0,g1⟩,⟨g2,g3,g7⟩,e⟩;rw [jQ] at e;obtain ⟨_,rfl,_,_,rfl,rfl,rfl,rfl,rfl,rfl,_⟩:=e;exact ⟨⟨⟨⟨⟨⟨⟨⟨⟨⟨⟨⟨g0,g1⟩,g2⟩,g3⟩,bu⟩,bu⟩,bu⟩,g7⟩,fo⟩,fo⟩,fo⟩,pZ⟩,rfl⟩
 simp only [if_neg h0,if_neg h1,if_neg h2,if_neg h4,if_neg h5,if_neg h6];constructor
 ·rintro ⟨⟨⟨⟨⟨⟨⟨⟨⟨⟨⟨⟨g0,g1⟩,g2⟩,g3⟩,g4⟩,g5⟩,g6⟩,g7⟩,t1⟩,t2⟩,t3⟩,m⟩,e⟩;exact ⟨⟨g0,g1⟩,⟨g2,g3⟩,e.symm⟩
 ·rintro ⟨⟨g0,g1⟩,⟨g2,g3⟩,e⟩;rw [jQ] at e;obtain ⟨_,rfl,_,_,rfl,rfl,rfl,rfl,rfl,rfl,rfl⟩:=e;exact ⟨⟨⟨⟨⟨⟨⟨⟨⟨⟨⟨⟨g0,g1⟩,g2⟩,g3⟩,bu⟩,bu⟩,bu⟩,bu⟩,fo⟩,fo⟩,fo⟩,pZ⟩,rfl⟩
theorem aV (w:World) (n:Int):Calls Tryz.prog 74 #[.int .i64 n] w fun r w'=>r=.returned (.bool (ah n))∧w=w':=by
 by_cases h0:0≤n
 ·have h0':decide (0≤n)=true:=decide_eq_true h0;by_cases h1:n≤1099511627776
  ·have hg:ah n=true:=(aZ n).2 ⟨h0,h1⟩;rw [hg];clear hg;go_enter Tryz.func74,Tryz.ntmps74;(go_wp2_with fail);go_ret
   exact ⟨rfl,rfl⟩
  ·have hg:ah n=false:=by rw [Bool.eq_false_iff];intro h;exact h1 ((aZ n).1 h).2
   rw [hg];clear hg;go_enter Tryz.func74,Tryz.ntmps74;(go_wp2_with fail);go_ret
   exact ⟨rfl,rfl⟩
 ·have hg:ah n=false:=by rw [Bool.eq_false_iff];intro h;exact h0 ((aZ n).1 h).1
  rw [hg];clear hg;go_enter Tryz.func74,Tryz.ntmps74;(go_wp2_with fail);go_ret
  exact ⟨rfl,rfl⟩
def wk (c:Ch):Bool:=decide (c.p.length≤255) && !(c.g && decide (c.d≠0))
def xY (L:List Ch) (jv:Value):Prop:=∃ j:Nat,jv=.int .i64 (j:Int)∧j≤L.length∧Hid (∀ q (h:q < L.length),q < j→wk L[q]=true)
theorem gM (w:World) (ao:Option Addr) (n c:Nat) (L:List Ch) (hS:dz w ao n c L) :
 Calls Tryz.prog 75 #[.slice ao n c] w fun r w'=>r=.returned (.bool (mO L))∧w=w':=by
 have hl:=hS.1;have hc:=hS.2.1;have hm:=hS.2.2.1;unfold maxLen at hm;have HS:=aa hS;clear hS;by_cases hn:64 < n
 ·have hn':(64:Int) < n:=by omega
  have hb:mO L=false:=by unfold mO;rw [decide_eq_false (by omega)];rfl
  rw [hb];clear hb;go_enter Tryz.func75,Tryz.ntmps75;(go_wp2_with fail);go_ret
  exact ⟨rfl,rfl⟩
 have hn':¬ (64:Int) < n:=by omega
 have HN:Hid (L.length≤64):=by show L.length≤64;omega
 go_enter Tryz.func75,Tryz.ntmps75;go_wp2_with fail
 go_loop [3] (fun jv=>xY L jv) (fun jv=>n - (intOf jv).toNat)
 case atStart=>exact ⟨0,rfl,Nat.zero_le _,fun j h h2=>by omega⟩
 case round =>
  obtain ⟨j,rfl,hj,HJ⟩:=hrel;by_cases hjl:j < n
  ·have hjl':(j:Int) < n:=by omega
   have hjc:j≤c:=by omega
   have hjn:j < L.length:=by omega
   obtain ⟨g2,o2,rfl,hy⟩:=HS.out.2.2.2 j hjn;obtain ⟨y,hye⟩:∃ y,y=L[j]'hjn:=⟨_,rfl⟩;rw [← hye] at hy;have HY:Hid (y=L[j]'hjn):=hye;obtain ⟨yp,yg,yd⟩:=y;obtain ⟨d0,d1,d2⟩:=hy;simp only at d0 d1 d2;have hsy:(ae yp).size=yp.length:=dr _;clear hye;by_cases hp:255 < yp.length
   ·have hp':(255:Int) < yp.length:=by omega
    have HB:Hid (mO L=false):=by
     rw [Bool.eq_false_iff];intro h;unfold mO at h;simp only [Bool.and_eq_true] at h;have h2:=List.all_eq_true.1 h.2 _ (List.getElem_mem hjn);rw [HY.out.symm] at h2;exact absurd h2 (by simp;omega)
    clear HY;(go_wp2_with fail);go_ret
    rw [HB.out];exact ⟨rfl,rfl⟩
   have hp':¬ (255:Int) < yp.length:=by omega
   cases yg
   ·clear d2
    have HJ2:Hid (∀ q (h:q < L.length),q < j+1→wk L[q]=true):=fun q h h2=>by
     by_cases e:q=j
     ·subst e;rw [← HY.out];unfold wk;simp;omega
     ·exact HJ.out q h (by omega)
    clear HY;(go_wp2_with fail);go_round
    case rel=>exact ⟨j+1,by go_num,by omega,HJ2⟩
    case measure=>simp [intOf];omega
   by_cases hd:yd=0
   ·subst hd
    have HJ2:Hid (∀ q (h:q < L.length),q < j+1→wk L[q]=true):=fun q h h2=>by
     by_cases e:q=j
     ·subst e;rw [← HY.out];unfold wk;simp;omega
     ·exact HJ.out q h (by omega)
    clear HY;(go_wp2_with fail);go_round
    case rel=>exact ⟨j+1,by go_num,by omega,HJ2⟩
    case measure=>simp [intOf];omega
   ·have hd':(yd != 0)=true:=by simpa using hd
    have HB:Hid (mO L=false):=by
     rw [Bool.eq_false_iff];intro h;unfold mO at h;simp only [Bool.and_eq_true] at h;have h2:=List.all_eq_true.1 h.2 _ (List.getElem_mem hjn);rw [HY.out.symm] at h2;exact absurd h2 (by simp;omega)
    clear HY;(go_wp2_with fail);go_ret
    rw [HB.out];exact ⟨rfl,rfl⟩
  ·have hjl':¬ (j:Int) < n:=by omega
   have HB:Hid (mO L=true):=by
    show mO L=true;unfold mO;simp only [Bool.and_eq_true,decide_eq_true_eq,List.all_eq_true];refine ⟨HN.out,fun y hy=>?_⟩;obtain ⟨q,hq,rfl⟩:=List.getElem_of_mem hy;have h1:=HJ.out q hq (by omega);unfold wk at h1;simpa using h1
   (go_wp2_with fail);go_ret
   rw [HB.out];exact ⟨rfl,rfl⟩
end Go.Proofs.YtakafmejllilnaaGreat
