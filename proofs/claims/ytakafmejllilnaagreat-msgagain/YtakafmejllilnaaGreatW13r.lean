/-
  Texts laid as one.
-/
import Derived.Test.YtakafmejllilnaaGreatW7r
import Derived.Test.YtakafmejllilnaaGreatF1r
import Derived.Test.YtakafmejllilnaaGreatW8r
import Derived.Test.YtakafmejllilnaaGreatF13r
import Derived.Test.YtakafmejllilnaaGreatW10r
import Derived.Test.YtakafmejllilnaaGreatEnDc3r
set_option maxHeartbeats 4000000
set_option maxRecDepth 100000
/-
 The document's own: numbers,addresses,letters.
-/
namespace Go.Proofs.YtakafmejllilnaaGreat
open Go.RowKit
def tU:Fd→UInt8
 | .B=>66 | .S=>83 | .T=>84 | .V=>86 | .L=>76 | .I=>73 | .N=>78 | .R=>82
def eM (k:Int):List UInt8:=(bc k).map tU
theorem up {f g:Fd}(h:tU f=tU g):f=g:=by cases f <;> cases g <;> first | rfl | exact absurd h (by decide)
theorem shpA_len (k:Int):(bc k).length≤3:=by
 unfold bc;repeat' split
 all_goals decide
theorem t0 (k:Int) (f:Fd):(eM k).contains (tU f)=(bc k).contains f:=by
 unfold eM;simp only [List.contains_eq_mem];congr 1
 apply propext
 constructor
 ·intro h;obtain ⟨g,hg,e⟩:=List.mem_map.1 h;rw [← up e];exact hg
 ·exact fun h=>List.mem_map_of_mem h
theorem aB (w:World) (n:Int):Calls Tryz.prog 37 #[.int .i64 n] w fun r w'=>r=.returned (.bool (ah n))∧w=w':=by
 by_cases h0:0≤n
 ·have h0':decide (0≤n)=true:=decide_eq_true h0;by_cases h1:n≤1099511627776
  ·have hg:ah n=true:=(aZ n).2 ⟨h0,h1⟩;rw [hg];clear hg;go_enter Tryz.func37,Tryz.ntmps37;(go_wp2_with fail);go_ret
   exact ⟨rfl,rfl⟩
  ·have hg:ah n=false:=by rw [Bool.eq_false_iff];intro h;exact h1 ((aZ n).1 h).2
   rw [hg];clear hg;go_enter Tryz.func37,Tryz.ntmps37;(go_wp2_with fail);go_ret
   exact ⟨rfl,rfl⟩
 ·have hg:ah n=false:=by rw [Bool.eq_false_iff];intro h;exact h0 ((aZ n).1 h).1
  rw [hg];clear hg;go_enter Tryz.func37,Tryz.ntmps37;(go_wp2_with fail);go_ret
  exact ⟨rfl,rfl⟩
def jT (n:Int):Bool:=decide (0≤n) && decide (n < 15)
def jS (n:Int):Bool:=decide (100≤n) && decide (n < 200)
theorem dX (n:Int):aF n=(jT n || jS n):=by
 unfold aF jT jS;congr 2
 exact decide_eq_decide.2 (by omega)
theorem dV (w:World) (n:Int):Calls Tryz.prog 35 #[.int .i64 n] w fun r w'=>r=.returned (.bool (jT n))∧w=w':=by
 by_cases h0:0≤n
 ·have h0':decide (0≤n)=true:=decide_eq_true h0;by_cases h1:n < 15
  ·have hg:jT n=true:=by unfold jT;rw [h0',decide_eq_true h1];rfl
   rw [hg];clear hg;go_enter Tryz.func35,Tryz.ntmps35;(go_wp2_with fail);go_ret
   exact ⟨rfl,rfl⟩
  ·have hg:jT n=false:=by unfold jT;rw [decide_eq_false h1];simp
   rw [hg];clear hg;go_enter Tryz.func35,Tryz.ntmps35;(go_wp2_with fail);go_ret
   exact ⟨rfl,rfl⟩
 ·have hg:jT n=false:=by unfold jT;rw [decide_eq_false h0];simp
  rw [hg];clear hg;go_enter Tryz.func35,Tryz.ntmps35;(go_wp2_with fail);go_ret
  exact ⟨rfl,rfl⟩
theorem fC (w:World) (n:Int):Calls Tryz.prog 36 #[.int .i64 n] w fun r w'=>r=.returned (.bool (jS n))∧w=w':=by
 by_cases h0:100≤n
 ·have h0':decide (100≤n)=true:=decide_eq_true h0;by_cases h1:n < 200
  ·have hg:jS n=true:=by unfold jS;rw [h0',decide_eq_true h1];rfl
   rw [hg];clear hg;go_enter Tryz.func36,Tryz.ntmps36;(go_wp2_with fail);go_ret
   exact ⟨rfl,rfl⟩
  ·have hg:jS n=false:=by unfold jS;rw [decide_eq_false h1];simp
   rw [hg];clear hg;go_enter Tryz.func36,Tryz.ntmps36;(go_wp2_with fail);go_ret
   exact ⟨rfl,rfl⟩
 ·have hg:jS n=false:=by unfold jS;rw [decide_eq_false h0];simp
  rw [hg];clear hg;go_enter Tryz.func36,Tryz.ntmps36;(go_wp2_with fail);go_ret
  exact ⟨rfl,rfl⟩
theorem wG {a b:UInt8}(h:((a.toNat:Int)==(b.toNat:Int))=false):a≠b:=by rintro rfl;simp at h
theorem wY {a b:UInt8}(h:((a.toNat:Int)==(b.toNat:Int))=true):a=b:=UInt8.toNat_inj.1 (by have h3:=eq_of_beq h;omega)
theorem va (w:World) (L:List UInt8) (c:UInt8) (hL:L.length≤100):Calls Tryz.prog 73 #[.string (ae L),.int .u8 (c.toNat:Int)] w fun r w'=>r=.returned (.bool (L.contains c))∧w=w':=by
 have hs:(ae L).size=L.length:=dr L;obtain ⟨b,hb⟩:∃ b,b=L.contains c:=⟨_,rfl⟩;rw [← hb];have HB:=aa hb;clear hb;go_enter Tryz.func73,Tryz.ntmps73;go_wp2_with fail
 go_loop [5] (fun iv=>∃ j:Nat,iv=.int .i64 (j:Int)∧j≤L.length∧Hid (c ∉ L.take j)) (fun iv=>L.length - (intOf iv).toNat)
 case atStart=>exact ⟨0,rfl,Nat.zero_le _,by simp [Hid]⟩
 case round =>
  obtain ⟨j,rfl,hj,HN⟩:=hrel;by_cases hlt:j < L.length
  ·have hlt':(j:Int) < L.length:=by omega
   have HG:Hid (∀ h,(ae L)[j]'h=L[j]):=fun h=>rfl;go_wp2_with fail
   ·rename_i h1 _
    have h2:L[j]=c:=wY (by rw [HG.out] at h1;exact h1);have HE:Hid (b=true):=by show _=_;rw [HB.out,← h2];simp
    go_ret
    exact ⟨by rw [HE.out];rfl,rfl⟩
   ·rename_i h1
    have h2:L[j]≠c:=wG (by rw [HG.out] at h1;exact h1)
    have HN2:Hid (c ∉ L.take (j+1)):=by
     show _;rw [List.take_succ_eq_append_getElem hlt];intro hm;rcases List.mem_append.1 hm with h | h
     ·exact HN.out h
     ·simp at h;exact h2 h.symm
    exact ⟨⟨j+1,by go_num,by omega,HN2⟩,by simp [intOf];omega⟩
  ·have hlt':¬ (j:Int) < L.length:=by omega
   have HE:Hid (b=false):=by
    have h:=HN.out;rw [List.take_of_length_le (by omega)] at h;show _=_;rw [HB.out];simpa using h
   (go_wp2_with fail);go_ret
   exact ⟨by rw [HE.out];rfl,rfl⟩
theorem ez (w:World) (k:Int) (f:Fd) (c:Int) (hc:c=((tU f).toNat:Int)):Calls Tryz.prog 73 #[.string (ae (eM k)),.int .u8 c] w fun r w'=>r=.returned (.bool ((bc k).contains f))∧w=w':=by
 subst hc;have h:=va w (eM k) (tU f) (by unfold eM;rw [List.length_map];have:=shpA_len k;omega);rw [t0] at h;exact h
theorem sa (w:World) (k:Int) (hk:bc k≠[]):Calls Tryz.prog 27 #[.int .i64 k] w fun r w'=>r=.returned (.string (ae (eM k)))∧w=w':=by
 obtain ⟨h1,h2⟩:=kz hk;clear hk;have h3:k=1∨k=2∨k=3∨k=4∨k=5∨k=6∨k=7∨k=8∨k=9∨k=10∨k=11∨k=12∨k=13∨k=14:=by omega
 clear h1 h2;rcases h3 with rfl | rfl | rfl | rfl | rfl | rfl | rfl | rfl | rfl | rfl | rfl | rfl | rfl | rfl
 all_goals
  go_enter Tryz.func27,Tryz.ntmps27;(go_wp2_with fail);go_ret
  exact ⟨rfl,rfl⟩
theorem sS (w:World) (k:Int) (hk:bc k=[]):Calls Tryz.prog 27 #[.int .i64 k] w fun r w'=>r=.returned (.string (ae (eM k)))∧w=w':=by
 have b1:(k==1)=false:=by simp only [beq_eq_false_iff_ne,ne_eq];rintro rfl;exact absurd hk (by decide)
 have b2:(k==2)=false:=by simp only [beq_eq_false_iff_ne,ne_eq];rintro rfl;exact absurd hk (by decide)
 have b3:(k==3)=false:=by simp only [beq_eq_false_iff_ne,ne_eq];rintro rfl;exact absurd hk (by decide)
 have b4:(k==4)=false:=by simp only [beq_eq_false_iff_ne,ne_eq];rintro rfl;exact absurd hk (by decide)
 have b5:(k==5)=false:=by simp only [beq_eq_false_iff_ne,ne_eq];rintro rfl;exact absurd hk (by decide)
 have b6:(k==6)=false:=by simp only [beq_eq_false_iff_ne,ne_eq];rintro rfl;exact absurd hk (by decide)
 have b7:(k==7)=false:=by simp only [beq_eq_false_iff_ne,ne_eq];rintro rfl;exact absurd hk (by decide)
 have b8:(k==8)=false:=by simp only [beq_eq_false_iff_ne,ne_eq];rintro rfl;exact absurd hk (by decide)
 have b9:(k==9)=false:=by simp only [beq_eq_false_iff_ne,ne_eq];rintro rfl;exact absurd hk (by decide)
 have b10:(k==10)=false:=by simp only [beq_eq_false_iff_ne,ne_eq];rintro rfl;exact absurd hk (by decide)
 have b11:(k==11)=false:=by simp only [beq_eq_false_iff_ne,ne_eq];rintro rfl;exact absurd hk (by decide)
 have b12:(k==12)=false:=by simp only [beq_eq_false_iff_ne,ne_eq];rintro rfl;exact absurd hk (by decide)
 have b13:(k==13)=false:=by simp only [beq_eq_false_iff_ne,ne_eq];rintro rfl;exact absurd hk (by decide)
 have b14:(k==14)=false:=by simp only [beq_eq_false_iff_ne,ne_eq];rintro rfl;exact absurd hk (by decide)
 have HE:Hid (eM k=[]):=by show eM k=[];unfold eM;rw [hk];rfl
 rw [HE.out];clear hk HE;go_enter Tryz.func27,Tryz.ntmps27;go_wp2_with fail
 go_ret
 exact ⟨rfl,rfl⟩
theorem iD (w:World) (k:Int):Calls Tryz.prog 27 #[.int .i64 k] w fun r w'=>r=.returned (.string (ae (eM k)))∧w=w':=by
 by_cases h:bc k=[]
 ·exact sS w k h
 ·exact sa w k h
def jV (v:Vt):Vt :=
 if v.c=1 then ⟨v.c,v.s,0,[],0,[],0⟩
 else if v.c=2∨v.c=4∨v.c=8 then ⟨v.c,0,v.r,[],0,[],0⟩
 else if v.c=3 then ⟨v.c,0,v.r,v.p,0,[],0⟩
 else if v.c=9 then ⟨v.c,0,v.r,v.p,v.d,[],0⟩
 else if v.c=10 then ⟨v.c,0,0,v.p,0,[],0⟩
 else if v.c=11 then ⟨v.c,0,0,[],0,v.k,0⟩
 else if v.c=12∨v.c=13∨v.c=14 then ⟨v.c,0,0,[],0,[],v.m⟩
 else ⟨v.c,0,0,[],0,[],0⟩
def pI (x:bW):Bool:=ah x.r && ah x.b && eS x.n && mO x.c
def j3 (v:Vt):Bool:=decide (0≤v.c) && decide (v.c < 15) && ah v.s && ah v.r && ah v.m && eS v.p && decide (v.k.length≤32) && decide (v=jV v)
def jL (v:Vt):Bool:=j3 v && v.k.all pI
theorem tz (x:bW) (h:fI x.c):pI x=true↔kr x:=by
 unfold pI kr;rw [Bool.and_eq_true,Bool.and_eq_true,Bool.and_eq_true,pg x.c h];exact ⟨fun ⟨⟨⟨a,b⟩,c⟩,d⟩=>⟨a,b,c,d⟩,fun ⟨a,b,c,d⟩=>⟨⟨⟨a,b⟩,c⟩,d⟩⟩
theorem vD (L:List bW) (h:∀ x∈L,fI x.c):L.length≤32∧L.all pI=true↔iy L:=by
 unfold iy;rw [List.all_eq_true];exact and_congr_right (fun _=>forall_congr' (fun x=>forall_congr' (fun hx=>tz x (h x hx))))
theorem sJ (v:Vt) (h:qp v):jL v=true↔fH v:=by
 obtain ⟨c,s,r,p,d,k,m⟩:=v;have hc:=vD k h.2;have hd:=h.1;simp only at hd;unfold jL j3 fH sY jV;simp only [Bool.and_eq_true,decide_eq_true_eq] at *;have hk:ah c=true∧c≤14↔0≤c∧c < 15:=by rw [aZ];omega
 rw [hk];by_cases h1:c=1
 ·simp only [if_pos h1];constructor
  ·rintro ⟨⟨⟨⟨⟨⟨⟨⟨g0,g1⟩,g2⟩,g3⟩,g4⟩,t1⟩,l⟩,e⟩,a⟩;exact ⟨⟨g0,g1⟩,g2,e.symm⟩
  ·rintro ⟨⟨g0,g1⟩,g2,e⟩;rw [iR] at e;obtain ⟨_,_,rfl,rfl,rfl,rfl,rfl⟩:=e;exact ⟨⟨⟨⟨⟨⟨⟨⟨g0,g1⟩,g2⟩,bu⟩,bu⟩,fo⟩,by simp⟩,rfl⟩,by simp⟩
 by_cases h2:c=2∨c=4∨c=8
 ·simp only [if_neg h1,if_pos h2];constructor
  ·rintro ⟨⟨⟨⟨⟨⟨⟨⟨g0,g1⟩,g2⟩,g3⟩,g4⟩,t1⟩,l⟩,e⟩,a⟩;exact ⟨⟨g0,g1⟩,g3,e.symm⟩
  ·rintro ⟨⟨g0,g1⟩,g3,e⟩;rw [iR] at e;obtain ⟨_,rfl,_,rfl,rfl,rfl,rfl⟩:=e;exact ⟨⟨⟨⟨⟨⟨⟨⟨g0,g1⟩,bu⟩,g3⟩,bu⟩,fo⟩,by simp⟩,rfl⟩,by simp⟩
 by_cases h3:c=3
 ·simp only [if_neg h1,if_neg h2,if_pos h3];constructor
  ·rintro ⟨⟨⟨⟨⟨⟨⟨⟨g0,g1⟩,g2⟩,g3⟩,g4⟩,t1⟩,l⟩,e⟩,a⟩;exact ⟨⟨g0,g1⟩,⟨t1,g3⟩,e.symm⟩
  ·rintro ⟨⟨g0,g1⟩,⟨t1,g3⟩,e⟩;rw [iR] at e;obtain ⟨_,rfl,_,_,rfl,rfl,rfl⟩:=e;exact ⟨⟨⟨⟨⟨⟨⟨⟨g0,g1⟩,bu⟩,g3⟩,bu⟩,t1⟩,by simp⟩,rfl⟩,by simp⟩
 by_cases h9:c=9
 ·simp only [if_neg h1,if_neg h2,if_neg h3,if_pos h9];constructor
  ·rintro ⟨⟨⟨⟨⟨⟨⟨⟨g0,g1⟩,g2⟩,g3⟩,g4⟩,t1⟩,l⟩,e⟩,a⟩;exact ⟨⟨g0,g1⟩,⟨t1,hd,g3⟩,e.symm⟩
  ·rintro ⟨⟨g0,g1⟩,⟨t1,_,g3⟩,e⟩;rw [iR] at e;obtain ⟨_,rfl,_,_,_,rfl,rfl⟩:=e;exact ⟨⟨⟨⟨⟨⟨⟨⟨g0,g1⟩,bu⟩,g3⟩,bu⟩,t1⟩,by simp⟩,rfl⟩,by simp⟩
 by_cases h10:c=10
 ·simp only [if_neg h1,if_neg h2,if_neg h3,if_neg h9,if_pos h10];constructor
  ·rintro ⟨⟨⟨⟨⟨⟨⟨⟨g0,g1⟩,g2⟩,g3⟩,g4⟩,t1⟩,l⟩,e⟩,a⟩;exact ⟨⟨g0,g1⟩,t1,e.symm⟩
  ·rintro ⟨⟨g0,g1⟩,t1,e⟩;rw [iR] at e;obtain ⟨_,rfl,rfl,_,rfl,rfl,rfl⟩:=e;exact ⟨⟨⟨⟨⟨⟨⟨⟨g0,g1⟩,bu⟩,bu⟩,bu⟩,t1⟩,by simp⟩,rfl⟩,by simp⟩
 by_cases h11:c=11
 ·simp only [if_neg h1,if_neg h2,if_neg h3,if_neg h9,if_neg h10,if_pos h11];constructor
  ·rintro ⟨⟨⟨⟨⟨⟨⟨⟨g0,g1⟩,g2⟩,g3⟩,g4⟩,t1⟩,l⟩,e⟩,a⟩;exact ⟨⟨g0,g1⟩,hc.1 ⟨l,a⟩,e.symm⟩
  ·rintro ⟨⟨g0,g1⟩,kk,e⟩;rw [iR] at e;obtain ⟨_,rfl,rfl,rfl,rfl,_,rfl⟩:=e;exact ⟨⟨⟨⟨⟨⟨⟨⟨g0,g1⟩,bu⟩,bu⟩,bu⟩,fo⟩,(hc.2 kk).1⟩,rfl⟩,(hc.2 kk).2⟩
 by_cases h12:c=12∨c=13∨c=14
 ·simp only [if_neg h1,if_neg h2,if_neg h3,if_neg h9,if_neg h10,if_neg h11,if_pos h12];constructor
  ·rintro ⟨⟨⟨⟨⟨⟨⟨⟨g0,g1⟩,g2⟩,g3⟩,g4⟩,t1⟩,l⟩,e⟩,a⟩;exact ⟨⟨g0,g1⟩,g4,e.symm⟩
  ·rintro ⟨⟨g0,g1⟩,g4,e⟩;rw [iR] at e;obtain ⟨_,rfl,rfl,rfl,rfl,rfl,_⟩:=e;exact ⟨⟨⟨⟨⟨⟨⟨⟨g0,g1⟩,bu⟩,bu⟩,g4⟩,fo⟩,by simp⟩,rfl⟩,by simp⟩
 simp only [if_neg h1,if_neg h2,if_neg h3,if_neg h9,if_neg h10,if_neg h11,if_neg h12];constructor
 ·rintro ⟨⟨⟨⟨⟨⟨⟨⟨g0,g1⟩,g2⟩,g3⟩,g4⟩,t1⟩,l⟩,e⟩,a⟩;exact ⟨⟨g0,g1⟩,e⟩
 ·rintro ⟨⟨g0,g1⟩,e⟩;rw [iR] at e;obtain ⟨_,rfl,rfl,rfl,rfl,rfl,rfl⟩:=e;exact ⟨⟨⟨⟨⟨⟨⟨⟨g0,g1⟩,bu⟩,bu⟩,bu⟩,fo⟩,by simp⟩,rfl⟩,by simp⟩
def aK (x:Ms):Bool:=!(bc x.k).isEmpty && (aF x.f && (aF x.t && (ah x.b && (ah x.s && (ah x.m && ah x.n)))))
def vl (L:List Vo) (j:Nat):Prop:=∀ q (h:q < L.length),q < j→ah L[q].s=true∧ah L[q].b=true∧dj L[q].v=true∧(∀ p (hp:p < L.length),q=p+1→L[p].s < L[q].s)
theorem ne (L:List Vo) (a:Int) (ha:∀ (h:0 < L.length),a < L[0].s):ja a L=true↔∀ q (h:q < L.length),∀ p (hp:p < L.length),q=p+1→L[p].s < L[q].s:=by
 induction L generalizing a with
 | nil=>simp [ja]
 | cons v L ih =>
   have h0:a < v.s:=ha (by simp);show (decide (a < v.s) && ja v.s L)=true↔_;rw [decide_eq_true h0,Bool.true_and];constructor
   ·intro h q hq p hp e;subst e
    have h1:v.s < (L[0]'(by simp at hq;omega)).s:=by
     cases L with
     | nil=>simp at hq
     | cons u L=>simp only [ja,Bool.and_eq_true,decide_eq_true_eq] at h;exact h.1
    cases p with
    | zero=>exact h1
    | succ p=>exact (ih v.s (fun _=>h1)).1 h (p+1) (by simpa using hq) p (by simp at hp;omega) rfl
   ·intro h;have h1:∀ (h:0 < L.length),v.s < L[0].s:=fun hl=>h 1 (by simp;omega) 0 (by simp) rfl;exact (ih v.s h1).2 (fun q hq p hp e=>h (q+1) (by simpa using hq) (p+1) (by simpa using hp) (by omega))
theorem uy (L:List Vo) (hu:∀ v∈L,fI v.v.c):vl L L.length↔(∀ v∈L,lh v)∧ja (-1) L=true:=by
 have hg:(∀ v∈L,lh v)→∀ (h:0 < L.length),(-1:Int) < L[0].s:=fun h hl=>by
  have:=((aZ _).1 (h L[0] (List.getElem_mem hl)).1).1
  omega
 constructor
 ·intro h
  have h1:∀ v∈L,lh v:=fun v hv=>by
   obtain ⟨q,hq,rfl⟩:=List.getElem_of_mem hv;obtain ⟨a,b,c,_⟩:=h q hq hq;exact ⟨a,b,(kU _ (hu _ hv)).1 c⟩
  exact ⟨h1,(ne L (-1) (hg h1)).2 (fun q hq p hp e=>(h q hq hq).2.2.2 p hp e)⟩
 ·rintro ⟨h1,h2⟩ q hq _;obtain ⟨a,b,c⟩:=h1 _ (List.getElem_mem hq);exact ⟨a,b,(kU _ (hu _ (List.getElem_mem hq))).2 c,fun p hp e=>(ne L (-1) (hg h1)).1 h2 q hq p hp e⟩
theorem r4 {x:Ms}(h:vr x):bQ x=true↔aK x=true∧x.l.length≤4096∧x.i.length≤524288∧x=own x∧dj x.v=true∧jL x.r=true∧vl x.l x.l.length:=by
 rw [gU h,uy _ h.uv]
 have hn:aK x=true↔bc x.k≠[]∧aF x.f=true∧aF x.t=true∧ah x.b=true∧ah x.s=true∧ah x.m=true∧ah x.n=true:=by
  unfold aK;simp only [Bool.and_eq_true];have h1:((!(bc x.k).isEmpty)=true)↔bc x.k≠[]:=by cases bc x.k <;> simp
  rw [h1]
 rw [hn];unfold ol;constructor
 ·rintro ⟨h1,h2,h3,h4,h5,h6⟩;have hz:=(gP x).1 h6
  have hF:∀ f,fp f x:=fun f=>by
   by_cases hf:f∈bc x.k
   ·exact h4 f hf
   ·refine (kv (hz f hf)).2 ?_;cases f
    ·show ah 0=true;decide
    ·show ah 0=true;decide
    ·show ah 0=true;decide
    ·exact (kU cl (fun c hc=>by cases hc)).1 (by decide)
    ·exact ⟨by simp [gC],fun v hv=>by cases hv⟩
    ·exact ⟨by simp [gC],fun v hv=>by cases hv⟩
    ·show ah 0=true;decide
    ·exact (sJ bD ⟨by simp [bD],fun x hx=>by cases hx⟩).1 (by decide)
  exact ⟨⟨h1,h2,h3,hF .B,hF .S,hF .T,hF .N⟩,(hF .L).1,(hF .I).1,h6.symm,(kU _ h.u).2 (hF .V),(sJ _ h.ur).2 (hF .R),(hF .L).2,h5⟩
 ·rintro ⟨⟨h1,h2,h3,hb,hs,hm,hn⟩,hl,hi,ho,hv,hr,hL,hris⟩;refine ⟨h1,h2,h3,fun f _=>?_,hris,ho.symm⟩;cases f
  ·exact hb
  ·exact hs
  ·exact hm
  ·exact (kU _ h.u).1 hv
  ·exact ⟨hl,hL⟩
  ·exact ⟨hi,h.o⟩
  ·exact hn
  ·exact (sJ _ h.ur).1 hr
theorem i6 {x:Ms}{P:Prop}(hc:bQ x=true↔P) (h:¬ P):Hid (cy (bQ x)=1):=by
 show cy (bQ x)=1;have:bQ x=false:=by rw [Bool.eq_false_iff];exact fun e=>h (hc.1 e)
 rw [this];rfl
theorem vu {x:Ms}{P:Prop}(hc:bQ x=true↔P) (h:P):Hid (cy (bQ x)=0):=by
 show cy (bQ x)=0;rw [hc.2 h];rfl
theorem pw {k:Int}(h:bc k≠[]):(ae (eM k)).toList.isEmpty=false:=by
 have h1:eM k≠[]:=fun e=>by unfold eM at e;exact h (List.map_eq_nil_iff.1 e)
 rw [Go.ByteArray.toList_eq,aY];cases hq:eM k with
 | nil=>exact absurd hq h1
 | cons=>rfl
end Go.Proofs.YtakafmejllilnaaGreat
