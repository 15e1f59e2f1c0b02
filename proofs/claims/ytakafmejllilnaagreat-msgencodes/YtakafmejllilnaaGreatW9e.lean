/-
  Texts laid as one.
-/
import Derived.Test.YtakafmejllilnaaGreatF13e
import Derived.Test.YtakafmejllilnaaGreatF6e
import Derived.Test.YtakafmejllilnaaGreatF7e
import Derived.Test.YtakafmejllilnaaGreatF11e
import Derived.Test.YtakafmejllilnaaGreatF2e
/-
 The document's writer: what it comes to.
-/
namespace Go.Proofs.YtakafmejllilnaaGreat
open Go.RowKit
def co (p:Nat) (w:World) (O:List Nat) (s:List Int × Int) (m:Nat):Prop:=∃ g:Option Nat,O=p :: g.toList∧RW w p g s.1 s.2∧s.1.length+300*m≤1000000000
def aK (s:List Int × Int) (b:List Int):List Int × Int:=if s.2=0 then (s.1++b,0) else s
def ne (s:List Int × Int):List Int × Int:=if s.2=0 then (s.1,1) else s
theorem aB (s:List Int × Int) (a b:List Int):aK (aK s a) b=aK s (a++b):=by
 unfold aK;by_cases h:s.2=0
 ·simp [h]
 ·simp [h]
theorem lY (s:List Int × Int) (b:List Int):(aK s b).1.length≤s.1.length+b.length:=by
 unfold aK;split
 ·simp
 ·omega
theorem lO {p:Nat}{w w':World}{g:Option Nat}{q:List Int × Int}{r:Ending}{m:Nat}(h:aH w p g q r w') (hl:q.1.length+300*m≤1000000000):bj (co p) w (p :: g.toList) q m w':=by
 obtain ⟨_,g',h2,h3,h4⟩:=h;refine ⟨p :: g'.toList,⟨g',rfl,h2,hl⟩,h4,fun k hk=>?_⟩;rcases List.mem_cons.1 hk with h5 | h5
 ·exact .inl (by rw [h5];exact List.mem_cons_self ..)
 ·rcases h3 k (by simpa using h5) with h6 | h6
  ·exact .inl (List.mem_cons_of_mem _ (by simpa using h6))
  ·exact .inr h6
theorem co.lt {p:Nat}{w:World}{O:List Nat}{s:List Int × Int}{m:Nat}(h:co p w O s m):∀ k∈O,k < w.heap.size:=by
 obtain ⟨g,rfl,hw,_⟩:=h;intro k hk;obtain ⟨v,h1,h2,h3,_⟩:=hw;rcases List.mem_cons.1 hk with h5 | h5
 ·subst h5;exact ca h1
 ·exact (World.ownsRow.lt h2 k (by rw [h3];simpa using h5)).2
theorem co.kept {p:Nat}{w w':World}{O S:List Nat}{s:List Int × Int}{m:Nat}(h:co p w O s m) (k:ab S w w') (hO:∀ i∈O,i ∉ S):co p w' O s m:=by
 obtain ⟨g,rfl,hw,hl⟩:=h;exact ⟨g,rfl,RW.kept k hw (hO p (by simp)) (fun i hi=>hO i (by rw [hi];simp)),hl⟩
theorem co.less {p:Nat}{w:World}{O:List Nat}{s:List Int × Int}{m m':Nat}(h:co p w O s m) (hm:m'≤m):co p w O s m':=by
 obtain ⟨g,e,hw,hl⟩:=h;exact ⟨g,e,hw,by omega⟩
def fI (p:Nat) (w:World) (O:List Nat) (s:List Int × Int) (m:Nat) (r:Ending) (w':World):Prop:=r=.returned (.tuple #[])∧bj (co p) w O s m w'
theorem pi {p:Nat}{w:World}{O:List Nat}{s:List Int × Int}{m:Nat}{f:FuncId}{a:Array Value}{b:List Int}(hA:co p w O s (m+1)) (hb:b.length≤300) (h:∀ g,RW w p g s.1 s.2→s.1.length≤1000000000→Calls Tryz.prog f a w (aH w p g (aK s b))):Calls Tryz.prog f a w (fI p w O (aK s b) m):=by
 obtain ⟨g,rfl,hw,hl⟩:=hA;refine (h g hw (by omega)).mono (fun r w' hr=>⟨hr.1,lO hr ?_⟩);have:=lY s b
 omega
theorem aD (p:Nat) (w:World) (O:List Nat) (s:List Int × Int) (m:Nat) (n:Int) (hn:aj n=true) (hA:co p w O s (m+1)) :
 Calls Tryz.prog 26 #[.pointer (some ⟨p,0,none⟩),.int .i64 n] w (fI p w O (aK s (ag n)) m):=by
 refine pi hA (by have:=bn 5 n;unfold ag;omega) (fun g hw hl=>?_);have h:=ip w p g s.1 s.2 n hw hl
 have e:eG s.2 s.1 n=aK s (ag n):=by
  unfold eG aK;by_cases hs:s.2=0
  ·rw [if_pos hs,if_pos hs,if_pos ((aG n).1 hn)]
  ·rw [if_neg hs,if_neg hs]
 rw [e] at h;exact h
theorem fk (p:Nat) (w:World) (O:List Nat) (s:List Int × Int) (m:Nat) (t:List UInt8) (ht:dY t=true) (hA:co p w O s (m+1)) :
 Calls Tryz.prog 68 #[.pointer (some ⟨p,0,none⟩),.string (ac t)] w (fI p w O (aK s (bT t)) m):=by
 have hl0:t.length≤255:=by unfold dY at ht;simpa using ht
 have hi:=fN t;unfold fG at hi;refine pi hA (by have:=bn 5 (t.length:Int);unfold bT ag fG;rw [List.length_append];omega) (fun g hw hl=>?_);have h:=nL w p g s.1 s.2 (ac t) hw hl (by rw [bJ];omega)
 have e:cX s.2 s.1 (dg (ac t))=aK s (bT t):=by
  unfold cX aK bT fG;by_cases hs:s.2=0
  ·rw [if_pos hs,if_pos hs,if_pos (by omega),hi]
  ·rw [if_neg hs,if_neg hs]
 rw [e] at h;exact h
theorem tq (p:Nat) (w:World) (O:List Nat) (s:List Int × Int) (m:Nat) (b:Bool) (hA:co p w O s (m+1)) :
 Calls Tryz.prog 97 #[.pointer (some ⟨p,0,none⟩),.bool b] w (fI p w O (aK s (bF b)) m):=by
 refine pi hA (by simp [bF]) (fun g hw hl=>?_);have h:=nB w p g s.1 s.2 b hw hl
 have e:dr s.2 s.1 b=aK s (bF b):=by
  unfold dr aK bF;by_cases hs:s.2=0
  ·rw [if_pos hs]
  ·rw [if_neg hs]
 rw [e] at h;exact h
theorem o7 (p:Nat) (w:World) (O:List Nat) (s:List Int × Int) (m:Nat) (x:Int) (hA:co p w O s (m+1)) :
 Calls Tryz.prog 70 #[.pointer (some ⟨p,0,none⟩),.int .u64 x] w (fI p w O (aK s (dA 8 x)) m):=by
 refine pi hA (by rw [bp];omega) (fun g hw hl=>?_);have h:=m7 w p g s.1 s.2 x hw hl
 have e:eQ s.2 s.1 x=aK s (dA 8 x):=by
  unfold eQ aK;by_cases hs:s.2=0
  ·rw [if_pos hs]
  ·rw [if_neg hs]
 rw [e] at h;exact h
theorem ls (p:Nat) (w:World) (O:List Nat) (s:List Int × Int) (m:Nat) (hA:co p w O s m) :
 Calls Tryz.prog 67 #[.pointer (some ⟨p,0,none⟩)] w (fI p w O (ne s) m):=by
 obtain ⟨g,rfl,hw,hl⟩:=hA
 have e:eN s.2 s.1=ne s:=by
  unfold eN ne;by_cases hs:s.2=0
  ·rw [if_pos hs]
  ·rw [if_neg hs]
 have h:=kM w p g s.1 s.2 hw;rw [e] at h;refine h.mono (fun r w' hr=>⟨hr.1,lO hr ?_⟩);unfold ne;split <;> exact hl
def WB (p:Nat) (W:World) (O:List Nat) (b:Nat) (T:TypeId) (cs:List Value) (s:List Int × Int) (m:Nat) (w:World):Prop:=bj (co p) W O s m w∧Bx w b T cs
theorem ay {p:Nat}{W:World}{O:List Nat}{b:Nat}{T:TypeId}{cs:List Value}{s s':List Int × Int}{m m':Nat}{w:World}{f:FuncId}{a:Array Value}(h:WB p W O b T cs s m w) (hb:b < W.heap.size) (hO:b ∉ O)
 (c:∀ O',(∀ k∈O',k∈O∨W.heap.size≤k)→ab O W w→co p w O' s m→Calls Tryz.prog f a w (fI p w O' s' m')):Calls Tryz.prog f a w fun r w'=>r=.returned (.tuple #[])∧WB p W O b T cs s' m' w':=by
 obtain ⟨⟨O1,hA,hk,hn⟩,hB⟩:=h;refine (c O1 hn hk hA).mono (fun r w' hr=>⟨hr.1,bj.trans hk hn hr.2,?_⟩);obtain ⟨O2,_,hk2,_⟩:=hr.2;refine hB.kept hk2 (fun hm=>?_);rcases hn b hm with h1 | h1
 ·exact hO h1
 ·omega
def mh (L:List Ch):Bool:=decide (L.length≤64) && L.all (fun c=>decide (c.p.length≤255) && !(c.g && decide (c.d≠0)))
def jA (r:Rq):Rq :=
 if r.k=0 then fd
 else if r.k=1 then ⟨r.k,r.n,0,0,0,[],[],[],0,0,0⟩
 else if r.k=2 then ⟨r.k,[],r.s,r.q,r.b,r.f,r.c,[],0,0,0⟩
 else if r.k=4 then ⟨r.k,[],r.s,r.q,0,[],[],r.p,0,0,0⟩
 else if r.k=5 then ⟨r.k,[],r.s,r.q,0,[],[],[],r.fr,r.mn,0⟩
 else if r.k=6∨r.k=7 then ⟨r.k,[],r.s,r.q,0,[],[],[],0,0,r.mb⟩
 else ⟨r.k,[],r.s,r.q,0,[],[],[],0,0,0⟩
def dx (r:Rq):Bool:=decide (0≤r.k) && decide (r.k < 8) && aj r.s && aj r.q && aj r.b && aj r.fr && aj r.mn && aj r.mb
def bY (r:Rq):Bool:=dx r && dY r.n && dY r.f && dY r.p && mh r.c && decide (r=jA r)
theorem oY (L:List Ch) (h:ei L):mh L=true↔eZ L:=by
 unfold mh eZ;simp only [Bool.and_eq_true,decide_eq_true_eq,List.all_eq_true];refine and_congr_right (fun _=>forall_congr' (fun c=>forall_congr' (fun hc=>?_)));unfold jo dY;have hd:=h c hc;cases c.g
 ·simp [hd]
 ·simp
theorem bm:aj 0=true:=by decide
theorem fq:dY []=true:=by decide
theorem qh:mh []=true:=by decide
theorem ie (r:Rq) (h:ei r.c):bY r=true↔eF r:=by
 obtain ⟨k,n,s,q,b,f,c,p,fr,mn,mb⟩:=r;have hc:=oY c h;unfold bY dx eF jW jA;simp only [Bool.and_eq_true,decide_eq_true_eq] at *;have hk:aj k=true∧k≤7↔0≤k∧k < 8:=by rw [aG];omega
 rw [hk];by_cases h0:k=0
 ·simp only [if_pos h0];unfold fd;constructor
  ·rintro ⟨⟨⟨⟨⟨⟨⟨⟨⟨⟨⟨⟨g0,g1⟩,g2⟩,g3⟩,g4⟩,g5⟩,g6⟩,g7⟩,t1⟩,t2⟩,t3⟩,m⟩,e⟩;exact ⟨⟨g0,g1⟩,by rw [e,h0]⟩
  ·rintro ⟨⟨g0,g1⟩,e⟩;rw [jq] at e;obtain ⟨_,rfl,rfl,rfl,rfl,rfl,rfl,rfl,rfl,rfl,rfl⟩:=e;subst h0;simp [bm,fq,qh]
 by_cases h1:k=1
 ·simp only [if_neg h0,if_pos h1];constructor
  ·rintro ⟨⟨⟨⟨⟨⟨⟨⟨⟨⟨⟨⟨g0,g1⟩,g2⟩,g3⟩,g4⟩,g5⟩,g6⟩,g7⟩,t1⟩,t2⟩,t3⟩,m⟩,e⟩;exact ⟨⟨g0,g1⟩,t1,e.symm⟩
  ·rintro ⟨⟨g0,g1⟩,t1,e⟩;rw [jq] at e;obtain ⟨_,_,rfl,rfl,rfl,rfl,rfl,rfl,rfl,rfl,rfl⟩:=e;exact ⟨⟨⟨⟨⟨⟨⟨⟨⟨⟨⟨⟨g0,g1⟩,bm⟩,bm⟩,bm⟩,bm⟩,bm⟩,bm⟩,t1⟩,fq⟩,fq⟩,qh⟩,rfl⟩
 by_cases h2:k=2
 ·simp only [if_neg h0,if_neg h1,if_pos h2];constructor
  ·rintro ⟨⟨⟨⟨⟨⟨⟨⟨⟨⟨⟨⟨g0,g1⟩,g2⟩,g3⟩,g4⟩,g5⟩,g6⟩,g7⟩,t1⟩,t2⟩,t3⟩,m⟩,e⟩;exact ⟨⟨g0,g1⟩,⟨g2,g3,g4,t2,hc.1 m⟩,e.symm⟩
  ·rintro ⟨⟨g0,g1⟩,⟨g2,g3,g4,t2,m⟩,e⟩;rw [jq] at e;obtain ⟨_,rfl,_,_,_,_,_,rfl,rfl,rfl,rfl⟩:=e;exact ⟨⟨⟨⟨⟨⟨⟨⟨⟨⟨⟨⟨g0,g1⟩,g2⟩,g3⟩,g4⟩,bm⟩,bm⟩,bm⟩,fq⟩,t2⟩,fq⟩,hc.2 m⟩,rfl⟩
 by_cases h4:k=4
 ·simp only [if_neg h0,if_neg h1,if_neg h2,if_pos h4];constructor
  ·rintro ⟨⟨⟨⟨⟨⟨⟨⟨⟨⟨⟨⟨g0,g1⟩,g2⟩,g3⟩,g4⟩,g5⟩,g6⟩,g7⟩,t1⟩,t2⟩,t3⟩,m⟩,e⟩;exact ⟨⟨g0,g1⟩,⟨g2,g3,t3⟩,e.symm⟩
  ·rintro ⟨⟨g0,g1⟩,⟨g2,g3,t3⟩,e⟩;rw [jq] at e;obtain ⟨_,rfl,_,_,rfl,rfl,rfl,_,rfl,rfl,rfl⟩:=e;exact ⟨⟨⟨⟨⟨⟨⟨⟨⟨⟨⟨⟨g0,g1⟩,g2⟩,g3⟩,bm⟩,bm⟩,bm⟩,bm⟩,fq⟩,fq⟩,t3⟩,qh⟩,rfl⟩
 by_cases h5:k=5
 ·simp only [if_neg h0,if_neg h1,if_neg h2,if_neg h4,if_pos h5];constructor
  ·rintro ⟨⟨⟨⟨⟨⟨⟨⟨⟨⟨⟨⟨g0,g1⟩,g2⟩,g3⟩,g4⟩,g5⟩,g6⟩,g7⟩,t1⟩,t2⟩,t3⟩,m⟩,e⟩;exact ⟨⟨g0,g1⟩,⟨g2,g3,g5,g6⟩,e.symm⟩
  ·rintro ⟨⟨g0,g1⟩,⟨g2,g3,g5,g6⟩,e⟩;rw [jq] at e;obtain ⟨_,rfl,_,_,rfl,rfl,rfl,rfl,_,_,rfl⟩:=e;exact ⟨⟨⟨⟨⟨⟨⟨⟨⟨⟨⟨⟨g0,g1⟩,g2⟩,g3⟩,bm⟩,g5⟩,g6⟩,bm⟩,fq⟩,fq⟩,fq⟩,qh⟩,rfl⟩
 by_cases h6:k=6∨k=7
 ·simp only [if_neg h0,if_neg h1,if_neg h2,if_neg h4,if_neg h5,if_pos h6];constructor
  ·rintro ⟨⟨⟨⟨⟨⟨⟨⟨⟨⟨⟨⟨g0,g1⟩,g2⟩,g3⟩,g4⟩,g5⟩,g6⟩,g7⟩,t1⟩,t2⟩,t3⟩,m⟩,e⟩;exact ⟨⟨g0,g1⟩,⟨g2,g3,g7⟩,e.symm⟩
  ·rintro ⟨⟨g0,g1⟩,⟨g2,g3,g7⟩,e⟩;rw [jq] at e;obtain ⟨_,rfl,_,_,rfl,rfl,rfl,rfl,rfl,rfl,_⟩:=e;exact ⟨⟨⟨⟨⟨⟨⟨⟨⟨⟨⟨⟨g0,g1⟩,g2⟩,g3⟩,bm⟩,bm⟩,bm⟩,g7⟩,fq⟩,fq⟩,fq⟩,qh⟩,rfl⟩
 simp only [if_neg h0,if_neg h1,if_neg h2,if_neg h4,if_neg h5,if_neg h6];constructor
 ·rintro ⟨⟨⟨⟨⟨⟨⟨⟨⟨⟨⟨⟨g0,g1⟩,g2⟩,g3⟩,g4⟩,g5⟩,g6⟩,g7⟩,t1⟩,t2⟩,t3⟩,m⟩,e⟩;exact ⟨⟨g0,g1⟩,⟨g2,g3⟩,e.symm⟩
 ·rintro ⟨⟨g0,g1⟩,⟨g2,g3⟩,e⟩;rw [jq] at e;obtain ⟨_,rfl,_,_,rfl,rfl,rfl,rfl,rfl,rfl,rfl⟩:=e;exact ⟨⟨⟨⟨⟨⟨⟨⟨⟨⟨⟨⟨g0,g1⟩,g2⟩,g3⟩,bm⟩,bm⟩,bm⟩,bm⟩,fq⟩,fq⟩,fq⟩,qh⟩,rfl⟩
def xY (p:Nat) (w:World) (O:List Nat) (s:List Int × Int) (m:Nat) (L:List Ch) (iv:Value) (wr:World):Prop :=
 ∃ i:Nat,iv=.int .i64 (i:Int)∧i≤L.length∧Hid (bj (co p) w O (aK s (ag L.length++(L.take i).flatMap bC)) (m+199 - 3*i) wr)
theorem lC {p:Nat}{w w1 w2:World}{O:List Nat}{s s':List Int × Int}{m m':Nat}{f:FuncId}{a:Array Value}(h:bj (co p) w O s m w1) (c:∀ O',co p w1 O' s m→Calls Tryz.prog f a w1 (fI p w1 O' s' m')) (_:w1=w2) :
 Calls Tryz.prog f a w1 fun r w'=>r=.returned (.tuple #[])∧bj (co p) w O s' m' w':=by
 obtain ⟨O1,hA,hk,hn⟩:=h;exact (c O1 hA).mono (fun r w' hr=>⟨hr.1,bj.trans hk hn hr.2⟩)
theorem kS {α:Type}(b:α→List Int) (L:List α) (i:Nat) (h:i < L.length):(L.take (i+1)).flatMap b=(L.take i).flatMap b++b L[i]:=by
 rw [List.take_succ_eq_append_getElem h,List.flatMap_append];simp
set_option maxHeartbeats 8000000 in
set_option maxRecDepth 100000 in
theorem k9 (p:Nat) (w:World) (O:List Nat) (s:List Int × Int) (m:Nat) (ao:Option Addr) (n c:Nat) (L:List Ch) (hS:dd w ao n c L) (hd:0 < n→∀ k∈bO ao,k ∉ O) (hok:eZ L) (hA:co p w O s (m+200)) :
 Calls Tryz.prog 69 #[.pointer (some ⟨p,0,none⟩),.slice ao n c] w (fI p w O (aK s (np L)) m):=by
 have hl:=hS.1;have hc:=hS.2.1;have hm:=hS.2.2.1;unfold maxLen at hm;have HL:Hid (L.length=n):=hl;have HOK:=aa hok;have HS:=aa hS;have HD:=aa hd;have h64:=hok.1;have c1:=aa (aD p w O s (m+199) (n:Int) ((aG _).2 (by omega)) hA);have HB:Hid (np L=ag L.length++L.flatMap bC):=by show np L=_;unfold np bL;rw [if_pos h64]
 clear hS hd hok hA;go_enter Tryz.func69,Tryz.ntmps69;go_wp2_with fail
 refine c1.out.mono ?_;clear c1;rintro _ w1 ⟨rfl,hW1⟩
 have HW1:Hid (bj (co p) w O (aK s (ag L.length++(L.take 0).flatMap bC)) (m+199 - 3*0) w1):=by
  show bj _ _ _ _ _ _;rw [HL.out];simpa using hW1
 clear hW1;go_wp2_with fail
 go_loopw [4] (fun iv wr=>xY p w O s m L iv wr) (fun iv _=>n - (intOf iv).toNat)
 case atStart=>exact ⟨0,rfl,Nat.zero_le _,HW1⟩
 case round =>
  obtain ⟨i,rfl,hi,HR⟩:=hrel;by_cases hlt:i < n
  ·have hlt':(i:Int) < n:=by omega
   have hic:i≤c:=by omega
   have hiL:i < L.length:=by omega
   have hSr:dd wr ao n c L:=by
    obtain ⟨O1,_,hk,_⟩:=HR.out;exact HS.out.kept0 hk HD.out
   obtain ⟨g,o,rfl,hx⟩:=hSr.2.2.2 i hiL;have hxo:=HOK.out.2 _ (List.getElem_mem hiL);have HF:=aa (kS bC L i hiL);obtain ⟨y,hy⟩:∃ y,y=L[i]'hiL:=⟨_,rfl⟩;rw [← hy] at hx hxo HF;obtain ⟨x0,x1,x2⟩:=hx;have HSr:=aa hSr;have e3:m+199 - 3*i=m+199 - 3*(i+1)+2+1:=by omega
   have hW0:=HR.out;rw [e3] at hW0;have HW0:=aa hW0
   have hgd:∀ (wq:World) (sq:List Int × Int) (mq:Nat),bj (co p) w O sq mq wq→dd wq (some ⟨g,o,none⟩) n c L:=fun wq sq mq hq=>by
    obtain ⟨O1,_,hk,_⟩:=hq;exact HS.out.kept0 hk HD.out
   have HGD:=aa hgd;have HYL:Hid (y=L[i]'hiL):=hy;clear hgd hW0 hSr e3 hy;have cT:=lC HW0.out (fun O' h=>fk p wr O' _ _ y.p hxo.1 h) rfl;have HT:=aa cT;clear cT;go_upto_region 5 with (go_at_call 68;refine HT.out.mono ?_;clear HT;rintro _ w2 ⟨rfl,hW2⟩;have HW2:=aa hW2;clear hW2)
   obtain ⟨g2,o2,e2,hx2⟩:=(HGD.out _ _ _ HW2.out).2.2.2 i hiL;cases e2
   rw [← HYL.out] at hx2;have x1b:=hx2.c1;have cG:=lC HW2.out (fun O' h=>tq p w2 O' _ _ y.g h) rfl;have HG:=aa cG;clear cG hx2 x0 x1 x2;go_upto_region 6 with (go_at_call 97;refine HG.out.mono ?_;clear HG;rintro _ w3 ⟨rfl,hW3⟩;have HW3:=aa hW3;clear hW3)
   obtain ⟨g2,o2,e2,hx3⟩:=(HGD.out _ _ _ HW3.out).2.2.2 i hiL;cases e2
   rw [← HYL.out] at hx3;have x1c:=hx3.c1;have x2c:=hx3.c2;clear hx3 x1b;cases hyg:y.g
   ·rw [hyg] at x1c;have cD:=lC HW3.out (fun O' h=>o7 p w3 O' _ _ y.d h) rfl;have HDD:=aa cD;clear cD
    have HFin:Hid (∀ wq,bj (co p) w O (aK (aK (aK (aK s (ag L.length++(L.take i).flatMap bC)) (bT y.p)) (bF y.g)) (dA 8 y.d)) (m+199 - 3*(i+1)) wq→bj (co p) w O (aK s (ag L.length++(L.take (i+1)).flatMap bC)) (m+199 - 3*(i+1)) wq):=fun wq hq=>by
     rw [aB,aB,aB] at hq;have e:bC y=bT y.p++(bF false++dA 8 y.d):=by unfold bC;rw [hyg];simp
     rw [HF.out,e];rw [hyg] at hq;simpa [List.append_assoc] using hq
    clear hyg;(go_wp2_with (go_at_call 70;refine HDD.out.mono ?_;clear HDD;rintro _ w4 ⟨rfl,hW4⟩;have HW4:=aa (HFin.out _ hW4);clear hW4));go_roundw
    case rel=>exact ⟨i+1,by go_num,by omega,HW4⟩
    case measure=>simp [intOf];omega
   ·rw [hyg] at x1c
    have HW4:Hid (bj (co p) w O (aK s (ag L.length++(L.take (i+1)).flatMap bC)) (m+199 - 3*(i+1)) w3):=by
     obtain ⟨O1,hA1,hk1,hn1⟩:=HW3.out;have hA2:=hA1.less (m':=m+199 - 3*(i+1)) (by omega);rw [aB,aB] at hA2;refine ⟨O1,?_,hk1,hn1⟩;have e:bC y=bT y.p++bF true:=by unfold bC;rw [hyg];simp
     rw [HF.out,e];rw [hyg] at hA2;simpa [List.append_assoc] using hA2
    clear hyg x2c;(go_wp2_with fail);go_roundw
    case rel=>exact ⟨i+1,by go_num,by omega,HW4⟩
    case measure=>simp [intOf];omega
  ·have hlt':¬ (i:Int) < n:=by omega
   have HW4:Hid (bj (co p) w O (aK s (np L)) m wr):=by
    obtain ⟨O1,hA1,hk1,hn1⟩:=HR.out;rw [List.take_of_length_le (by omega),← HB.out] at hA1;exact ⟨O1,hA1.less (by omega),hk1,hn1⟩
   (go_wp2_with fail);go_end0
   exact ⟨rfl,HW4.out⟩
end Go.Proofs.YtakafmejllilnaaGreat
