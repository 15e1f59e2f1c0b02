/-
  Texts laid as one.
-/
import Derived.Test.YtakafmejllilnaaGreatW4r
import Derived.Test.YtakafmejllilnaaGreatW5r
import Derived.Test.YtakafmejllilnaaGreatW6r
import Derived.Test.YtakafmejllilnaaGreatF10r
import Derived.Test.YtakafmejllilnaaGreatF11r
import Derived.Test.YtakafmejllilnaaGreatW0r
set_option maxHeartbeats 8000000
set_option maxRecDepth 100000
set_option linter.unusedSimpArgs false
/-
 Put,Told: written;Take,Heard: read. (Written by mk/mkput.py.)
-/
namespace Go.Proofs.YtakafmejllilnaaGreat
open Go.RowKit
theorem cm:(Tryz.prog.info? 29).map (·.size)=some 11:=by kernel_rfl
theorem dH:(Tryz.prog.info? 34).map (·.size)=some 7:=by kernel_rfl
theorem nY (H:df):∀ v∈H.c,v.oneCell'=true:=by
 intro v hv;simp [df.c] at hv
 rcases hv with rfl | rfl | rfl | rfl | rfl <;> rfl
def lE:List Value:=[.nilFunc,.nilFunc,.nilFunc,.nilFunc,.nilFunc]
theorem i3 (w:World) (p:Nat):Calls Tryz.prog 141 #[.pointer (some ⟨p,0,none⟩)] w fun r w'=>r=.returned (si p).a∧ab [] w w':=by
 have hmf:∀ (fn:Go.Fn) (first cap:Array Value) (w:World),(Instr.makeFunc fn first cap).run Tryz.prog w=.ok (.func fn first cap) w:=fun _ _ _ _=>rfl;have k1:ab [] w (w.alloc (.cells #[.nilFunc,.nilFunc,.nilFunc,.nilFunc,.nilFunc] 168)):=(ab.refl _ _).alloc _;have k2:ab [] (w.alloc (.cells #[.nilFunc,.nilFunc,.nilFunc,.nilFunc,.nilFunc] 168)) ((w.alloc (.cells #[.nilFunc,.nilFunc,.nilFunc,.nilFunc,.nilFunc] 168)).alloc (.cells #[.pointer (some ⟨p,0,none⟩)] 171)):=(ab.refl _ _).alloc _;have HZ:Hid (Bx ((w.alloc (.cells #[.nilFunc,.nilFunc,.nilFunc,.nilFunc,.nilFunc] 168)).alloc (.cells #[.pointer (some ⟨p,0,none⟩)] 171)) w.heap.size 168 lE):=(Bx.new w _ lE).kept k2 (by simp);have HL:Hid ((si p).c.length=lE.length):=rfl;have HO:=aa (nY (si p));have HT:Hid (aq Tryz.prog 168 (si p).c.length):=fG;have HK:=aa (k1.trans k2 (by simp));clear k1 k2;go_enter Tryz.func141,Tryz.ntmps141;go_wp2_with ((with_reducible refine ac HZ.out HL.out HO.out HT.out ?_ ?_ ?_);rfl;rfl;intro wz HBz HKz)
 refine bodyPost_ret (al (by rfl) _ (by rfl) HBz.out HT.out) rfl ?_;exact ⟨rfl,HK.out.trans HKz.out (by simp)⟩
theorem iY (w:World) (p:Nat):Calls Tryz.prog 184 #[.pointer (some ⟨p,0,none⟩)] w fun r w'=>r=.returned (ou p).a∧ab [] w w':=by
 have hmf:∀ (fn:Go.Fn) (first cap:Array Value) (w:World),(Instr.makeFunc fn first cap).run Tryz.prog w=.ok (.func fn first cap) w:=fun _ _ _ _=>rfl;have k1:ab [] w (w.alloc (.cells #[.nilFunc,.nilFunc,.nilFunc,.nilFunc,.nilFunc] 168)):=(ab.refl _ _).alloc _;have k2:ab [] (w.alloc (.cells #[.nilFunc,.nilFunc,.nilFunc,.nilFunc,.nilFunc] 168)) ((w.alloc (.cells #[.nilFunc,.nilFunc,.nilFunc,.nilFunc,.nilFunc] 168)).alloc (.cells #[.pointer (some ⟨p,0,none⟩)] 187)):=(ab.refl _ _).alloc _;have HZ:Hid (Bx ((w.alloc (.cells #[.nilFunc,.nilFunc,.nilFunc,.nilFunc,.nilFunc] 168)).alloc (.cells #[.pointer (some ⟨p,0,none⟩)] 187)) w.heap.size 168 lE):=(Bx.new w _ lE).kept k2 (by simp);have HL:Hid ((ou p).c.length=lE.length):=rfl;have HO:=aa (nY (ou p));have HT:Hid (aq Tryz.prog 168 (ou p).c.length):=fG;have HK:=aa (k1.trans k2 (by simp));clear k1 k2;go_enter Tryz.func184,Tryz.ntmps184;go_wp2_with ((with_reducible refine ac HZ.out HL.out HO.out HT.out ?_ ?_ ?_);rfl;rfl;intro wz HBz HKz)
 refine bodyPost_ret (al (by rfl) _ (by rfl) HBz.out HT.out) rfl ?_;exact ⟨rfl,HK.out.trans HKz.out (by simp)⟩
theorem dS.on {O O':List Nat}{w w':World}{x:Rm}(h:dS O w x) (hk:ab O w w') (hn:∀ k∈O',k∈O∨w.heap.size≤k):dS O' w' x:=by
 refine ⟨h.s.kept0 hk h.d,h.no,fun h0 k hk' hm=>?_,h.n,h.f,h.p,h.c⟩;rcases hn k hm with h1 | h1
 ·exact h.d h0 k hk' h1
 ·obtain ⟨b,o,e,hc⟩:=h.s.some h0;rw [e] at hk';simp [bO] at hk'
  subst hk';have h0':=(hc 0 (by rw [h.s.1];exact h0)).c0;unfold World.cell? at h0';rw [show w.heap[(⟨k,o+0*3,none⟩:Addr).block]?=none from Array.getElem?_eq_none (by show w.heap.size≤k;omega)] at h0';simp at h0'
theorem eb.on {O O':List Nat}{w w':World}{x:Vt}{u:Value}(h:eb O w x u) (hk:ab O w w') (hn:∀ k∈O',k∈O∨w.heap.size≤k):eb O' w' x u:=by
 obtain ⟨⟨uo,un,uc,KK,e,hu,hK⟩,hp,hk'⟩:=h;exact ⟨⟨uo,un,uc,KK,e,hu.on hk hn,hK⟩,hp,hk'⟩
theorem so.sl {O:List Nat}{w:World}{ao:Option Addr}{n c:Nat}{K:List (bW × Value)}(h:so O w ao n c K):kY w ao n c K:=by
 obtain ⟨h1,h2,h3,_,h5,_,h7⟩:=h;refine ⟨h1,h2,h3,h5,fun x hx=>?_⟩;obtain ⟨mo,n',c',e,hS,h0,_⟩:=h7 x hx;exact ⟨mo,n',c',e,hS,h0⟩
def gv (s:List Int × Int) (r:Rq):List Int × Int:=if (aT bS s r).1=r then (aT bS s r).2 else bh (aT bS s r).2.2
def ew (s:List Int × Int) (v:Vt):List Int × Int:=if (aH bS s v).1=v then (aH bS s v).2 else bh (aH bS s v).2.2
def wI {σ:Type}(At:World→List Nat→σ→Nat→Prop) (w:World) (O:List Nat) (s:σ) (m:Nat) (d:Bool) (v:Value) (wx:World):Prop:=∃ b:Bool,v=.bool (!b)∧b=d∧Hid (cg At w O s m wx)
theorem nQ {w w1 w2:World}{p:Nat}{O O1:List Nat}{s:List Int × Int}{m m':Nat}{r:Ending}(k1:ab O w w1) (n1:∀ k∈O1,k∈O∨w.heap.size≤k) {g:Option Nat}(e:O1=p :: g.toList) (hl:s.1.length+300*m'≤1000000000) (hm:m≤m') (h:bU w1 p g (bh s.2) r w2):cg (ei p) w O (bh s.2) m w2:=by
 subst e;exact cg.trans k1 n1 (dF (ab.refl [] w1) h (by rw [(eA s.2).1];simp;omega))
theorem jm (p:Nat) (w:World) (O:List Nat) (s:List Int × Int) (m:Nat) (x:Rm) (hx:dS O w x) (hA:ei p w O s (m+200)) :
 Calls Tryz.prog 140 #[.pointer (some ⟨p,0,none⟩),eU x] w fun r w'=>r=.returned (.tuple #[])∧cg (ei p) w O (gv s x.r) m w':=by
 have hO:=(aI p).lt hA;have k1:ab [] w (w.alloc (.cells (bp x).toArray 29)):=(ab.refl _ _).alloc _;have HX:=aa hx;have HB1:=aa (Bx.new w 29 (bp x));have HA1:=aa ((aI p).kept hA k1 (by simp));have HO:=aa hO;have HK1:=aa k1;clear hA hO k1 hx;obtain ⟨W1,hW1⟩:∃ W1,W1=w.alloc (.cells (bp x).toArray 29):=⟨_,rfl⟩;have HB1':Hid (Bx W1 w.heap.size 29 (bp x)):=by rw [hW1];exact HB1
 have HA1':Hid (ei p W1 O s (m+200)):=by rw [hW1];exact HA1
 have HK1':Hid (ab [] w W1):=by rw [hW1];exact HK1
 clear HB1 HA1 HK1;unfold eU;go_enter Tryz.func140,Tryz.ntmps140;go_upto_region 1 with fail
 rw [show w.alloc (.cells #[.int .i64 x.r.k,.string (ae x.r.n),.int .i64 x.r.s,.int .i64 x.r.q,.int .i64 x.r.b,.string (ae x.r.f),.slice x.mo x.m x.mc,.string (ae x.r.p),.int .i64 x.r.fr,.int .i64 x.r.mn,.int .i64 x.r.mb] 29)=W1 from hW1.symm];clear hW1;go_cut [10] from 4 to 10 (fun s10 wx=>wI (ei p) w O (aT bS s x.r).2 m (decide ((aT bS s x.r).1=x.r)) s10 wx)
 case first =>
  refine wp_region_held_drew (S:=fun w9=>Bx w9 w.heap.size 29 (bp x)) (by kernel_rfl) (HB1'.out.kept (ab.refl [] _).drew (by simp)) (fun hHeld=>?_);refine ay [0] (by rfl) (by kernel_rfl) (fun _ _ _ _ _ h=>h) hHeld ?_
  iterate 1
   refine yk ?_ rfl (Or.inl ⟨by rfl,?_⟩) ?_;rotate_left
   ·intro w9 hSw;go_simp;(try with_reducible rfl)
   try simp only [sT,Act.put]
  refine ax ?_;simp only [ai,sT];refine tk 2 (eU x) rfl (by kernel_rfl) (fun _ _ _ h=>h) (yieldsIf_load_mid (by rfl) _ _ rfl w.heap.size 0 rfl (bp x) _ (fun w9 hSw=>hSw.range) Tryz.underlying29 rfl cm) hHeld ?_;(try simp only [sT,Act.put]);refine tk 4 (eU x) rfl (by kernel_rfl) (fun _ _ _ h=>h) (yieldsIf_load_mid (by rfl) _ _ rfl w.heap.size 0 rfl (bp x) _ (fun w9 hSw=>hSw.range) Tryz.underlying29 rfl cm) hHeld ?_;(try simp only [sT,Act.put]);refine cd 1 (by kernel_rfl) rfl (fun K0 hK0=>?_);go_simp;refine (i3 _ p).mono ?_;rintro _ w2 ⟨rfl,hk2⟩;have hk2':=(HK1'.out.trans (ab.refl [] _).drew (by simp)).trans hk2 (by simp);have HB2:=aa ((HB1'.out.kept (ab.refl [] _).drew (by simp)).kept hk2 (by simp));have HA2:=aa ((aI p).kept ((aI p).kept HA1'.out (ab.refl [] _).drew (by simp)) hk2 (by simp));have HK2:=aa hk2';clear hk2 hk2';(go_wp2_with fail);refine hK0.out _ _ HB2.out (fun hHeld=>?_);clear hK0 K0;(try simp only [sT,Act.put]);refine cd 3 (by kernel_rfl) rfl (fun K0 hK0=>?_);go_simp;have cR:=iZ (aI p) _ _ _ m x (HX.out.on (HK2.out.mono (by simp)) (fun k hk=>.inl hk)) HA2.out;unfold eU at cR;refine cR.mono ?_;clear cR;rintro _ w3 ⟨v3,rfl,hO3,O3,A3,hk3,hn3,hq3⟩;have hb3:w.heap.size ∉ O:=fun hm=>by have:=HO.out _ hm;omega
  have HB3:=aa (HB2.out.kept hk3 hb3);obtain ⟨ao,nn,cc,rfl⟩:=dC hO3;have HO3:=aa hO3;have HW3:Hid (cg (ei p) w O (aT bS s x.r).2 m w3):=cg.trans (HK2.out.mono (by simp)) (fun k hk=>.inl hk) ⟨O3,A3,hk3,hn3⟩;have HK3:=aa hk3;clear hO3 A3 hk3 hn3 hq3 hb3;(go_wp2_with fail);refine hK0.out _ _ HB3.out (fun hHeld=>?_);clear hK0 K0;(try simp only [sT,Act.put]);refine cd 5 (by kernel_rfl) rfl (fun K0 hK0=>?_);go_simp;have cS:=jB w3 (aT bS s x.r).1 x.r ao x.mo nn x.m cc x.mc HO3.out.slice (HX.out.s.kept0 ((HK2.out.mono (by simp)).trans HK3.out (fun i hi=>.inl hi)) HX.out.d);refine cS.mono ?_;clear cS;rintro _ w4 ⟨rfl,hk4⟩;have HB4:=aa (HB3.out.kept hk4 (by simp))
  have HW4:Hid (cg (ei p) w O (aT bS s x.r).2 m w4):=by
   obtain ⟨O',h1,h2,h3⟩:=HW3.out;exact ⟨O',(aI p).kept h1 hk4 (by simp),h2.trans hk4 (by simp),h3⟩
  clear hk4;(go_wp2_with fail);refine hK0.out _ _ HB4.out (fun hHeld=>?_);clear hK0 K0;(try simp only [sT,Act.put]);refine ay [6] (by rfl) (by kernel_rfl) (fun _ _ _ _ _ h=>h) hHeld ?_
  iterate 1
   refine yk ?_ rfl (Or.inl ⟨by rfl,?_⟩) ?_;rotate_left
   ·intro w9 hSw;go_simp;(try with_reducible rfl)
   try simp only [sT,Act.put]
  refine ax ?_;simp only [ai,sT];(try simp only [sT,Act.put]);refine wpAnyH_done (by kernel_rfl) ?_ _;clear hHeld;(go_wp2_with fail);go_meet
  exact ⟨_,rfl,rfl,HW4⟩
 case rest =>
  obtain ⟨b,rfl,hb,HW⟩:=hcut;cases b
  ·have hne:¬ (aT bS s x.r).1=x.r:=by intro h;rw [decide_eq_true h] at hb;cases hb
   have HQ:Hid (gv s x.r=bh (aT bS s x.r).2.2):=by show (if _ then _ else _)=_;rw [if_neg hne]
   obtain ⟨O5,⟨g5,e5,hw5,hl5⟩,hk5,hn5⟩:=HW.out;have HW5:=aa hw5;clear hne hw5 hb;(go_wp2_with fail);refine (eO _ p g5 _ _ HW5.out).mono ?_;rintro _ w6 hW6;have hr:=hW6.1;subst hr;have H6:=aa (nQ hk5 hn5 e5 hl5 (Nat.le_refl m) hW6);clear hW6;(go_wp2_with fail);go_end0
   rw [HQ.out];exact ⟨rfl,H6.out⟩
  ·have heq:(aT bS s x.r).1=x.r:=of_decide_eq_true hb.symm;have HQ:Hid (gv s x.r=(aT bS s x.r).2):=by show (if _ then _ else _)=_;rw [if_pos heq]
   clear heq hb;(go_wp2_with fail);go_end0
   rw [HQ.out];exact ⟨rfl,HW.out⟩
theorem jO (w:World) (x y:Vt) (u1 u2:Value) (h1:nH w u1 x.k) (h2:nH w u2 y.k) :
 Calls Tryz.prog 72 #[dx x u1,dx y u2] w fun e w'=>e=.returned (.bool (decide (x=y)))∧ab [] w w':=by
 obtain ⟨ao,n,c,K,rfl,hL,e1,_⟩:=h1;obtain ⟨bo,m,d,M,rfl,hM,e2,_⟩:=h2;obtain ⟨xc,xs,xr,xp,xd,xk,xm⟩:=x;obtain ⟨yc,ys,yr,yp,yd,yk,ym⟩:=y;simp only at e1 e2;subst e1;subst e2;unfold dx;simp only
 by_cases hc:xc=yc
 rotate_left
 ·rw [decide_eq_false (by intro h;injection h;contradiction)];exact sG w xc yc xs ys xr yr xp yp xd yd xm ym ao bo n m c d hc
 subst hc;by_cases hs:xs=ys
 rotate_left
 ·rw [decide_eq_false (by intro h;injection h;contradiction)];exact sh w xc xs ys xr yr xp yp xd yd xm ym ao bo n m c d hs
 subst hs;by_cases hr:xr=yr
 rotate_left
 ·rw [decide_eq_false (by intro h;injection h;contradiction)];exact r9 w xc xs xr yr xp yp xd yd xm ym ao bo n m c d hr
 subst hr;by_cases hp:xp=yp
 rotate_left
 ·rw [decide_eq_false (by intro h;injection h;contradiction)];exact sv w xc xs xr xp yp xd yd xm ym ao bo n m c d hp
 subst hp;by_cases hd:xd=yd
 rotate_left
 ·rw [decide_eq_false (by intro h;injection h;contradiction)];exact rR w xc xs xr xp xd yd xm ym ao bo n m c d hd
 subst hd;by_cases hm:xm=ym
 rotate_left
 ·rw [decide_eq_false (by intro h;injection h;contradiction)];exact ri w xc xs xr xp xd xm ym ao bo n m c d hm
 subst hm;by_cases hk:K.map Prod.fst=M.map Prod.fst
 rotate_left
 ·rw [decide_eq_false (by intro h;injection h;contradiction)];exact sB w xc xs xr xp xd xm ao bo n m c d K M hL hM hk
 rw [decide_eq_true (by rw [hk])];exact oq w xc xs xr xp xd xm ao bo n m c d K M hL hM hk
theorem lp (p:Nat) (w:World) (O:List Nat) (s:List Int × Int) (m:Nat) (x:Vt) (u:Value) (hx:eb O w x u) (hA:ei p w O s (m+7000)) :
 Calls Tryz.prog 138 #[.pointer (some ⟨p,0,none⟩),dx x u] w fun r w'=>r=.returned (.tuple #[])∧cg (ei p) w O (ew s x) m w':=by
 obtain ⟨uo,un,uc,KK,rfl,hKD,hKK⟩:=hx.u;have hO:=(aI p).lt hA;have k1:ab [] w (w.alloc (.cells (au x (.slice uo un uc)).toArray 34)):=(ab.refl _ _).alloc _;have HX:=aa hx;have HB1:=aa (Bx.new w 34 (au x (.slice uo un uc)));have HA1:=aa ((aI p).kept hA k1 (by simp));have HO:=aa hO;have HK1:=aa k1;clear hA hO k1 hx;obtain ⟨W1,hW1⟩:∃ W1,W1=w.alloc (.cells (au x (.slice uo un uc)).toArray 34):=⟨_,rfl⟩;have HB1':Hid (Bx W1 w.heap.size 34 (au x (.slice uo un uc))):=by rw [hW1];exact HB1
 have HA1':Hid (ei p W1 O s (m+7000)):=by rw [hW1];exact HA1
 have HK1':Hid (ab [] w W1):=by rw [hW1];exact HK1
 clear HB1 HA1 HK1;unfold dx;go_enter Tryz.func138,Tryz.ntmps138;go_upto_region 1 with fail
 rw [show w.alloc (.cells #[.int .i64 x.c,.int .i64 x.s,.int .i64 x.r,.string (ae x.p),.int .u64 x.d,.slice uo un uc,.int .i64 x.m] 34)=W1 from hW1.symm];clear hW1;go_cut [10] from 4 to 10 (fun s10 wx=>wI (ei p) w O (aH bS s x).2 m (decide ((aH bS s x).1=x)) s10 wx)
 case first =>
  refine wp_region_held_drew (S:=fun w9=>Bx w9 w.heap.size 34 (au x (.slice uo un uc))) (by kernel_rfl) (HB1'.out.kept (ab.refl [] _).drew (by simp)) (fun hHeld=>?_);refine ay [0] (by rfl) (by kernel_rfl) (fun _ _ _ _ _ h=>h) hHeld ?_
  iterate 1
   refine yk ?_ rfl (Or.inl ⟨by rfl,?_⟩) ?_;rotate_left
   ·intro w9 hSw;go_simp;(try with_reducible rfl)
   try simp only [sT,Act.put]
  refine ax ?_;simp only [ai,sT];refine wpAnyH_take (i:=2) (v:=dx x (.slice uo un uc)) rfl (by kernel_rfl) (by kernel_rfl) (by kernel_rfl) (fun _ _ _ h=>h) (yieldsIf_load_mid (by rfl) _ _ rfl w.heap.size 0 rfl (au x (.slice uo un uc)) _ (fun w9 hSw=>hSw.range) Tryz.underlying34 rfl dH) hHeld ?_;(try simp only [sT,Act.put]);refine wpAnyH_take (i:=4) (v:=dx x (.slice uo un uc)) rfl (by kernel_rfl) (by kernel_rfl) (by kernel_rfl) (fun _ _ _ h=>h) (yieldsIf_load_mid (by rfl) _ _ rfl w.heap.size 0 rfl (au x (.slice uo un uc)) _ (fun w9 hSw=>hSw.range) Tryz.underlying34 rfl dH) hHeld ?_;(try simp only [sT,Act.put]);refine cd 1 (by kernel_rfl) rfl (fun K0 hK0=>?_);go_simp;refine (i3 _ p).mono ?_;rintro _ w2 ⟨rfl,hk2⟩;have hk2':=(HK1'.out.trans (ab.refl [] _).drew (by simp)).trans hk2 (by simp);have HB2:=aa ((HB1'.out.kept (ab.refl [] _).drew (by simp)).kept hk2 (by simp));have HA2:=aa ((aI p).kept ((aI p).kept HA1'.out (ab.refl [] _).drew (by simp)) hk2 (by simp));have HK2:=aa hk2';clear hk2 hk2';(go_wp2_with fail);refine hK0.out _ _ HB2.out (fun hHeld=>?_);clear hK0 K0;(try simp only [sT,Act.put]);refine cd 3 (by kernel_rfl) rfl (fun K0 hK0=>?_);go_simp;have cR:=iS (aI p) _ _ _ m x _ (HX.out.on (HK2.out.mono (by simp)) (fun k hk=>.inl hk)) HA2.out;unfold dx at cR;refine cR.mono ?_;clear cR;rintro _ w3 ⟨v3,rfl,hO3,O3,A3,hk3,hn3,hq3⟩;have hb3:w.heap.size ∉ O:=fun hm=>by have:=HO.out _ hm;omega
  have HB3:=aa (HB2.out.kept hk3 hb3);obtain ⟨ao,nn,cc,rfl⟩:=fA hO3;have HO3:=aa hO3;have HW3:Hid (cg (ei p) w O (aH bS s x).2 m w3):=cg.trans (HK2.out.mono (by simp)) (fun k hk=>.inl hk) ⟨O3,A3,hk3,hn3⟩;have HK3:=aa hk3;clear hO3 A3 hk3 hn3 hq3 hb3;(go_wp2_with fail);refine hK0.out _ _ HB3.out (fun hHeld=>?_);clear hK0 K0;(try simp only [sT,Act.put]);refine cd 5 (by kernel_rfl) rfl (fun K0 hK0=>?_);go_simp;have cS:=jO w3 (aH bS s x).1 x _ _ (HO3.out.ko) ⟨_,_,_,_,rfl,(hKD.on ((HK2.out.mono (by simp)).trans HK3.out (fun i hi=>.inl hi)) (O':=O) (fun k hk=>.inl hk)).sl,hKK,hKD.2.2.2.1⟩;refine cS.mono ?_;clear cS;rintro _ w4 ⟨rfl,hk4⟩;have HB4:=aa (HB3.out.kept hk4 (by simp))
  have HW4:Hid (cg (ei p) w O (aH bS s x).2 m w4):=by
   obtain ⟨O',h1,h2,h3⟩:=HW3.out;exact ⟨O',(aI p).kept h1 hk4 (by simp),h2.trans hk4 (by simp),h3⟩
  clear hk4;(go_wp2_with fail);refine hK0.out _ _ HB4.out (fun hHeld=>?_);clear hK0 K0;(try simp only [sT,Act.put]);refine ay [6] (by rfl) (by kernel_rfl) (fun _ _ _ _ _ h=>h) hHeld ?_
  iterate 1
   refine yk ?_ rfl (Or.inl ⟨by rfl,?_⟩) ?_;rotate_left
   ·intro w9 hSw;go_simp;(try with_reducible rfl)
   try simp only [sT,Act.put]
  refine ax ?_;simp only [ai,sT];(try simp only [sT,Act.put]);refine wpAnyH_done (by kernel_rfl) ?_ _;clear hHeld;(go_wp2_with fail);go_meet
  exact ⟨_,rfl,rfl,HW4⟩
 case rest =>
  obtain ⟨b,rfl,hb,HW⟩:=hcut;cases b
  ·have hne:¬ (aH bS s x).1=x:=by intro h;rw [decide_eq_true h] at hb;cases hb
   have HQ:Hid (ew s x=bh (aH bS s x).2.2):=by show (if _ then _ else _)=_;rw [if_neg hne]
   obtain ⟨O5,⟨g5,e5,hw5,hl5⟩,hk5,hn5⟩:=HW.out;have HW5:=aa hw5;clear hne hw5 hb;(go_wp2_with fail);refine (eO _ p g5 _ _ HW5.out).mono ?_;rintro _ w6 hW6;have hr:=hW6.1;subst hr;have H6:=aa (nQ hk5 hn5 e5 hl5 (Nat.le_refl m) hW6);clear hW6;(go_wp2_with fail);go_end0
   rw [HQ.out];exact ⟨rfl,H6.out⟩
  ·have heq:(aH bS s x).1=x:=of_decide_eq_true hb.symm;have HQ:Hid (ew s x=(aH bS s x).2):=by show (if _ then _ else _)=_;rw [if_pos heq]
   clear heq hb;(go_wp2_with fail);go_end0
   rw [HQ.out];exact ⟨rfl,HW.out⟩
def vf:Rm:=⟨cl,none,0,0⟩
def bD:Vt:=⟨0,0,0,[],0,[],0⟩
def eH (s:List Int × Int):Rq:=if (aT ag s cl).2.2=0 then (aT ag s cl).1 else cl
def fb (s:List Int × Int):Vt:=if (aH ag s bD).2.2=0 then (aH ag s bD).1 else bD
theorem bY {P:Program}{w:World}{g:Nat}{T:TypeId}{cs:List Value}{fn:Func}{p u:Tmp}(hr:fn.results=#[.cell p T,.tmp u]) (tmps:Array Value) (hp:tmps.getD p undef=.pointer (some ⟨g,0,none⟩)) (hg:Bx w g T cs)
 (hT:aq P T cs.length):(results fn tmps).run P w=.ok (.tuple #[.agg cs.toArray,tmps.getD u undef]) w:=by
 obtain ⟨D,hu,hd,hi⟩:=hT;rw [results_cell_tmp hr,hp];have h:=run_loadVar_mid (P:=P) w g 0 T cs D hg.range hu hd hi;simp [asAddr,h]
theorem p4 (O:List Nat) (w:World):dS O w vf :=
 ⟨⟨rfl,Nat.le_refl _,Nat.zero_le _,fun i hi=>by simp [vf,cl] at hi⟩,fun _=>rfl,fun h=>by simp [vf] at h,by simp [vf,cl],by simp [vf,cl],by simp [vf,cl],by simp [vf,cl]⟩
theorem jd (O:List Nat) (w:World):eb O w bD (.slice none 0 0) :=
 ⟨⟨none,0,0,[],rfl,⟨rfl,Nat.le_refl _,Nat.zero_le _,fun _=>rfl,fun i hi=>by simp at hi,fun h=>by simp at h,fun x hx=>by cases hx⟩,rfl⟩,by simp [bD],by simp [bD]⟩
theorem my (w:World) (p:Nat) (F:List Nat) (l:List Int) (e:Int) (x:Rq) (ao:Option Addr) (n c:Nat) (hR:Rd w p F l e) :
 Calls Tryz.prog 183 #[.pointer (some ⟨p,0,none⟩),.agg (a4 x (.slice ao n c)).toArray] w fun r w'=>r=.returned (.agg (a4 (if e=0 then x else cl) (if e=0 then .slice ao n c else .slice none 0 0)).toArray)∧ab [] w w':=by
 have k1:ab [] w (w.alloc (.cells (a4 x (.slice ao n c)).toArray 29)):=(ab.refl _ _).alloc _;have k2:ab [] (w.alloc (.cells (a4 x (.slice ao n c)).toArray 29)) ((w.alloc (.cells (a4 x (.slice ao n c)).toArray 29)).alloc (.cells aJ.toArray 29)):=(ab.refl _ _).alloc _;obtain ⟨W,hW⟩:∃ W,W=(w.alloc (.cells (a4 x (.slice ao n c)).toArray 29)).alloc (.cells aJ.toArray 29):=⟨_,rfl⟩;have HB1:Hid (Bx W w.heap.size 29 (a4 x (.slice ao n c))):=by rw [hW];exact (Bx.new w _ _).kept k2 (by simp)
 have HB2:Hid (Bx W (w.heap.size+1) 29 aJ):=by
  rw [hW];have h:=Bx.new (w.alloc (.cells (a4 x (.slice ao n c)).toArray 29)) 29 aJ;have hs:(w.alloc (.cells (a4 x (.slice ao n c)).toArray 29)).heap.size=w.heap.size+1:=by simp
  rw [hs] at h;exact h
 have hk:=k1.trans k2 (by simp);rw [← hW] at hk;have HK:=aa hk;have HR:=aa (Rd.kept hk hR (by simp) (by simp));have HO:=aa (bv x (.slice ao n c) (by rfl));have HO0:=aa (bv cl (.slice none 0 0) (by rfl));have HT:Hid (aq Tryz.prog 29 (a4 x (.slice ao n c)).length):=ar;have HT0:Hid (aq Tryz.prog 29 (a4 cl (.slice none 0 0)).length):=ar;have HL:Hid ((a4 x (.slice ao n c)).length=aJ.length):=rfl;have HL0:Hid ((a4 cl (.slice none 0 0)).length=aJ.length):=rfl;unfold aJ at hW;have HW:=aa hW;clear k1 k2 hk hR hW;by_cases he:e=0
 ·subst he;rw [if_pos rfl,if_pos rfl];go_enter Tryz.func183,Tryz.ntmps183;go_upto_region 1 with fail
  rw [← HW.out];(go_wp2_with (first | (go_at_call 95;refine (gY _ p F l 0 HR.out).mono ?_;rintro _ _ ⟨rfl,rfl⟩) | ((with_reducible refine ak HB1.out HT.out ?_ ?_);rfl) | ((with_reducible refine ac HB2.out HL.out HO.out HT.out ?_ ?_ ?_);rfl;rfl;intro wz HBz HKz)));refine bodyPost_ret (al (by rfl) _ (by rfl) HBz.out HT.out) rfl ?_;exact ⟨rfl,HK.out.trans HKz.out (by simp)⟩
 ·rw [if_neg he,if_neg he];have heb:(e != 0)=true:=by simp [he]
  have HBn:Hid (Bx (W.alloc (.cells aJ.toArray 29)) W.heap.size 29 (a4 cl (.slice none 0 0))):=Bx.new W _ _;have HB2':Hid (Bx (W.alloc (.cells aJ.toArray 29)) (w.heap.size+1) 29 aJ):=HB2.out.kept ((ab.refl [] W).alloc _) (by simp);have HKn:=aa (HK.out.alloc (.cells aJ.toArray 29));clear he;unfold aJ at HBn HB2' HKn;go_enter Tryz.func183,Tryz.ntmps183;go_upto_region 1 with fail
  rw [← HW.out];(go_wp2_with (first | (go_at_call 95;refine (gY _ p F l e HR.out).mono ?_;rintro _ _ ⟨rfl,rfl⟩) | ((with_reducible refine ak HBn.out HT0.out ?_ ?_);rfl) | ((with_reducible refine ac HB2'.out HL0.out HO0.out HT0.out ?_ ?_ ?_);rfl;rfl;intro wz HBz HKz)));refine bodyPost_ret (al (by rfl) _ (by rfl) HBz.out HT0.out) rfl ?_;exact ⟨rfl,HKn.out.trans HKz.out (by simp)⟩
theorem mp (w:World) (p:Nat) (F:List Nat) (l:List Int) (e:Int) (x:Vt) (ao:Option Addr) (n c:Nat) (hR:Rd w p F l e) :
 Calls Tryz.prog 185 #[.pointer (some ⟨p,0,none⟩),.agg (au x (.slice ao n c)).toArray] w fun r w'=>r=.returned (.agg (au (if e=0 then x else bD) (if e=0 then .slice ao n c else .slice none 0 0)).toArray)∧ab [] w w':=by
 have k1:ab [] w (w.alloc (.cells (au x (.slice ao n c)).toArray 34)):=(ab.refl _ _).alloc _;have k2:ab [] (w.alloc (.cells (au x (.slice ao n c)).toArray 34)) ((w.alloc (.cells (au x (.slice ao n c)).toArray 34)).alloc (.cells aA.toArray 34)):=(ab.refl _ _).alloc _;obtain ⟨W,hW⟩:∃ W,W=(w.alloc (.cells (au x (.slice ao n c)).toArray 34)).alloc (.cells aA.toArray 34):=⟨_,rfl⟩;have HB1:Hid (Bx W w.heap.size 34 (au x (.slice ao n c))):=by rw [hW];exact (Bx.new w _ _).kept k2 (by simp)
 have HB2:Hid (Bx W (w.heap.size+1) 34 aA):=by
  rw [hW];have h:=Bx.new (w.alloc (.cells (au x (.slice ao n c)).toArray 34)) 34 aA;have hs:(w.alloc (.cells (au x (.slice ao n c)).toArray 34)).heap.size=w.heap.size+1:=by simp
  rw [hs] at h;exact h
 have hk:=k1.trans k2 (by simp);rw [← hW] at hk;have HK:=aa hk;have HR:=aa (Rd.kept hk hR (by simp) (by simp));have HO:=aa (aQ x (.slice ao n c) (by rfl));have HO0:=aa (aQ bD (.slice none 0 0) (by rfl));have HT:Hid (aq Tryz.prog 34 (au x (.slice ao n c)).length):=am;have HT0:Hid (aq Tryz.prog 34 (au bD (.slice none 0 0)).length):=am;have HL:Hid ((au x (.slice ao n c)).length=aA.length):=rfl;have HL0:Hid ((au bD (.slice none 0 0)).length=aA.length):=rfl;unfold aA at hW;have HW:=aa hW;clear k1 k2 hk hR hW;by_cases he:e=0
 ·subst he;rw [if_pos rfl,if_pos rfl];go_enter Tryz.func185,Tryz.ntmps185;go_upto_region 1 with fail
  rw [← HW.out];(go_wp2_with (first | (go_at_call 95;refine (gY _ p F l 0 HR.out).mono ?_;rintro _ _ ⟨rfl,rfl⟩) | ((with_reducible refine ak HB1.out HT.out ?_ ?_);rfl) | ((with_reducible refine ac HB2.out HL.out HO.out HT.out ?_ ?_ ?_);rfl;rfl;intro wz HBz HKz)));refine bodyPost_ret (al (by rfl) _ (by rfl) HBz.out HT.out) rfl ?_;exact ⟨rfl,HK.out.trans HKz.out (by simp)⟩
 ·rw [if_neg he,if_neg he];have heb:(e != 0)=true:=by simp [he]
  have HBn:Hid (Bx (W.alloc (.cells aA.toArray 34)) W.heap.size 34 (au bD (.slice none 0 0))):=Bx.new W _ _;have HB2':Hid (Bx (W.alloc (.cells aA.toArray 34)) (w.heap.size+1) 34 aA):=HB2.out.kept ((ab.refl [] W).alloc _) (by simp);have HKn:=aa (HK.out.alloc (.cells aA.toArray 34));clear he;unfold aA at HBn HB2' HKn;go_enter Tryz.func185,Tryz.ntmps185;go_upto_region 1 with fail
  rw [← HW.out];(go_wp2_with (first | (go_at_call 95;refine (gY _ p F l e HR.out).mono ?_;rintro _ _ ⟨rfl,rfl⟩) | ((with_reducible refine ak HBn.out HT0.out ?_ ?_);rfl) | ((with_reducible refine ac HB2'.out HL0.out HO0.out HT0.out ?_ ?_ ?_);rfl;rfl;intro wz HBz HKz)));refine bodyPost_ret (al (by rfl) _ (by rfl) HBz.out HT0.out) rfl ?_;exact ⟨rfl,HKn.out.trans HKz.out (by simp)⟩
def gc (s:List Int × Int):Int:=if s.2=0 then (if s.1.length=0 then 0 else 3) else s.2
def i7 (w:World) (q:List Int × Int) (r:Ending) (w':World):Prop :=
 ∃ a c,r=.returned (.tuple #[.slice a q.1.length c,.int .i64 q.2])∧Sl w' a q.1.length c q.1∧(∀ k∈bO a,w.heap.size≤k∧k < w'.heap.size)∧ab [] w w'
theorem nR {σ:Type}{At:World→List Nat→σ→Nat→Prop}{w w1 w2:World}{O:List Nat}{s:σ}{m:Nat}(k:ab [] w w1) (hO:∀ i∈O,w.heap.size≤i) (h:cg At w1 O s m w2):∃ O',At w2 O' s m∧ab [] w w2∧∀ i∈O',w.heap.size≤i:=by
 obtain ⟨O',h1,h2,h3⟩:=h;refine ⟨O',h1,k.trans h2 (fun i hi=>.inr (hO i hi)),fun i hi=>?_⟩;rcases h3 i hi with h4 | h4
 ·exact hO i h4
 ·exact Nat.le_trans k.size h4
theorem ct (w:World) (T:TypeId) (zs:List Value):ab [] w (w.alloc (.cells zs.toArray T)):=(ab.refl _ _).alloc _
theorem j8 (p:Nat) (F:List Nat) (w:World) (O:List Nat) (s:List Int × Int) (m:Nat) (hA:lS p F w O s (m+200)) :
 Calls Tryz.prog 177 #[.pointer (some ⟨p,0,none⟩)] w (gf (lS p F) w O (aT ag s cl).2 m (eH s)):=by
 have k1:=ct w 29 aJ;have hB1:=Bx.new w 29 aJ;have hO:=(ca p F).lt hA;have hA1:=(ca p F).kept hA k1 (by simp);have HB1:=aa hB1;have HA1:=aa hA1;have HK1:=aa k1;have HO:=aa hO;clear k1 hB1 hA hA1 hO;unfold aJ at HB1 HA1 HK1;go_enter Tryz.func177,Tryz.ntmps177;go_wp2_with fail
 refine (iY _ p).mono ?_;rintro _ w2 ⟨rfl,hk2⟩;have HK2:=aa (HK1.out.trans hk2 (by simp));have HB2:=aa (HB1.out.kept hk2 (by simp));have HA2:=aa ((ca p F).kept HA1.out hk2 (by simp));clear hk2;go_wp2_with fail
 have cR:Calls Tryz.prog 144 #[(ou p).a,.agg #[.int .i64 0,.string ⟨#[]⟩,.int .i64 0,.int .i64 0,.int .i64 0,.string ⟨#[]⟩,.slice none 0 0,.string ⟨#[]⟩,.int .i64 0,.int .i64 0,.int .i64 0]] w2 (gf (lS p F) w2 O (aT ag s cl).2 m (aT ag s cl).1):=iZ (ca p F) w2 O s m vf (p4 O w2) HA2.out;refine cR.mono ?_;clear cR;rintro _ w3 ⟨v3,rfl,hO3,O3,A3,hk3,hn3,hq3⟩;have hb3:w.heap.size ∉ O:=fun hm=>by have:=HO.out _ hm;omega
 have HB3:=aa (HB2.out.kept hk3 hb3);obtain ⟨ao,nn,cc,rfl⟩:=dC hO3;have hk03:ab O w w3:=(HK2.out.mono (by simp)).trans hk3 (fun i hi=>.inl hi);have HK03:=aa hk03;have HO3:Hid (aL (w.heap.size+1) w3 (.slice ao nn cc) (aT ag s cl).1.c):=hO3.mono (by have:=HB2.out.lt;omega);have HA3:=aa A3;have HN3:=aa hn3;have HQ3:=aa hq3;have hs2:=HK2.out.size;obtain ⟨e3,hR3,hF3⟩:=A3;have HR3:=aa hR3;clear hO3 hk3 hn3 hq3 hb3 hk03 e3 hR3 hF3;go_wp2_with fail
 refine (my w3 p F _ _ (aT ag s cl).1 ao nn cc HR3.out).mono ?_;rintro _ w4 ⟨rfl,hk4⟩;have HK4:=aa hk4;have HB4:=aa (HB3.out.kept hk4 (by simp));clear hk4;by_cases he:(aT ag s cl).2.2=0
 ·rw [if_pos he,if_pos he];have HQ:Hid (eH s=(aT ag s cl).1):=by show (if _ then _ else _)=_;rw [if_pos he]
  have HOz:=aa (bv (aT ag s cl).1 (.slice ao nn cc) (by rfl));have HT:Hid (aq Tryz.prog 29 (a4 (aT ag s cl).1 (.slice ao nn cc)).length):=ar;have HL:Hid ((a4 (aT ag s cl).1 (.slice ao nn cc)).length=aJ.length):=rfl;unfold aJ at HL;clear he;(go_wp2_with ((with_reducible refine ac HB4.out HL.out HOz.out HT.out ?_ ?_ ?_);rfl;rfl;intro wz HBz HKz));refine bodyPost_ret (al (by rfl) _ (by rfl) HBz.out HT.out) rfl ?_;rw [HQ.out]
  have hbO:w.heap.size ∉ O3:=fun hm=>by
   rcases HN3.out _ hm with h | h
   ·have:=HO.out _ h;omega
   ·have:=HB2.out.lt;omega
  refine ⟨_,rfl,?_,O3,(ca p F).kept ((ca p F).kept HA3.out HK4.out (by simp)) HKz.out (by simpa using hbO),(HK03.out.trans HK4.out (by simp)).trans HKz.out (by simp),fun k hk=>?_,HQ3.out⟩
  ·have h1:aL (w.heap.size+1) wz _ _:=HKz.out.ownsRow (HK4.out.ownsRow HO3.out (by simp)) (fun k hk hm=>by have:=(World.ownsRow.lt HO3.out k hk).1;simp at hm;omega);exact h1.mono (by omega)
  ·rcases HN3.out k hk with h | h
   ·exact .inl h
   ·exact .inr (by omega)
 ·rw [if_neg he,if_neg he];have HQ:Hid (eH s=cl):=by show (if _ then _ else _)=_;rw [if_neg he]
  have HOz:=aa (bv cl (.slice none 0 0) (by rfl));have HT:Hid (aq Tryz.prog 29 (a4 cl (.slice none 0 0)).length):=ar;have HL:Hid ((a4 cl (.slice none 0 0)).length=aJ.length):=rfl;unfold aJ at HL;clear he;(go_wp2_with ((with_reducible refine ac HB4.out HL.out HOz.out HT.out ?_ ?_ ?_);rfl;rfl;intro wz HBz HKz));refine bodyPost_ret (al (by rfl) _ (by rfl) HBz.out HT.out) rfl ?_;rw [HQ.out]
  have hbO:w.heap.size ∉ O3:=fun hm=>by
   rcases HN3.out _ hm with h | h
   ·have:=HO.out _ h;omega
   ·have:=HB2.out.lt;omega
  refine ⟨_,rfl,aL.nil _ _,O3,(ca p F).kept ((ca p F).kept HA3.out HK4.out (by simp)) HKz.out (by simpa using hbO),(HK03.out.trans HK4.out (by simp)).trans HKz.out (by simp),fun k hk=>?_,fun k hk=>by cases hk⟩;rcases HN3.out k hk with h | h
  ·exact .inl h
  ·exact .inr (by omega)
theorem ny (p:Nat) (F:List Nat) (w:World) (O:List Nat) (s:List Int × Int) (m:Nat) (hA:lS p F w O s (m+7000)) :
 Calls Tryz.prog 178 #[.pointer (some ⟨p,0,none⟩)] w (eG (lS p F) w O (aH ag s bD).2 m (fb s)):=by
 have k1:=ct w 34 aA;have hB1:=Bx.new w 34 aA;have hO:=(ca p F).lt hA;have hA1:=(ca p F).kept hA k1 (by simp);have HB1:=aa hB1;have HA1:=aa hA1;have HK1:=aa k1;have HO:=aa hO;clear k1 hB1 hA hA1 hO;unfold aA at HB1 HA1 HK1;go_enter Tryz.func178,Tryz.ntmps178;go_wp2_with fail
 refine (iY _ p).mono ?_;rintro _ w2 ⟨rfl,hk2⟩;have HK2:=aa (HK1.out.trans hk2 (by simp));have HB2:=aa (HB1.out.kept hk2 (by simp));have HA2:=aa ((ca p F).kept HA1.out hk2 (by simp));clear hk2;go_wp2_with fail
 have cR:Calls Tryz.prog 142 #[(ou p).a,.agg #[.int .i64 0,.int .i64 0,.int .i64 0,.string ⟨#[]⟩,.int .u64 0,.slice none 0 0,.int .i64 0]] w2 (eG (lS p F) w2 O (aH ag s bD).2 m (aH ag s bD).1):=iS (ca p F) w2 O s m bD (.slice none 0 0) (jd O w2) HA2.out;refine cR.mono ?_;clear cR;rintro _ w3 ⟨v3,rfl,hO3,O3,A3,hk3,hn3,hq3⟩;have hb3:w.heap.size ∉ O:=fun hm=>by have:=HO.out _ hm;omega
 have HB3:=aa (HB2.out.kept hk3 hb3);obtain ⟨ao,nn,cc,rfl⟩:=fA hO3;have hk03:ab O w w3:=(HK2.out.mono (by simp)).trans hk3 (fun i hi=>.inl hi);have HK03:=aa hk03;have HO3:Hid (bJ (w.heap.size+1) w3 (.slice ao nn cc) (aH ag s bD).1.k):=hO3.mono (by have:=HB2.out.lt;omega);have HA3:=aa A3;have HN3:=aa hn3;have HQ3:=aa hq3;have hs2:=HK2.out.size;obtain ⟨e3,hR3,hF3⟩:=A3;have HR3:=aa hR3;clear hO3 hk3 hn3 hq3 hb3 hk03 e3 hR3 hF3;go_wp2_with fail
 refine (mp w3 p F _ _ (aH ag s bD).1 ao nn cc HR3.out).mono ?_;rintro _ w4 ⟨rfl,hk4⟩;have HK4:=aa hk4;have HB4:=aa (HB3.out.kept hk4 (by simp));clear hk4;by_cases he:(aH ag s bD).2.2=0
 ·rw [if_pos he,if_pos he];have HQ:Hid (fb s=(aH ag s bD).1):=by show (if _ then _ else _)=_;rw [if_pos he]
  have HOz:=aa (aQ (aH ag s bD).1 (.slice ao nn cc) (by rfl));have HT:Hid (aq Tryz.prog 34 (au (aH ag s bD).1 (.slice ao nn cc)).length):=am;have HL:Hid ((au (aH ag s bD).1 (.slice ao nn cc)).length=aA.length):=rfl;unfold aA at HL;clear he;(go_wp2_with ((with_reducible refine ac HB4.out HL.out HOz.out HT.out ?_ ?_ ?_);rfl;rfl;intro wz HBz HKz));refine bodyPost_ret (al (by rfl) _ (by rfl) HBz.out HT.out) rfl ?_;rw [HQ.out]
  have hbO:w.heap.size ∉ O3:=fun hm=>by
   rcases HN3.out _ hm with h | h
   ·have:=HO.out _ h;omega
   ·have:=HB2.out.lt;omega
  refine ⟨_,rfl,?_,O3,(ca p F).kept ((ca p F).kept HA3.out HK4.out (by simp)) HKz.out (by simpa using hbO),(HK03.out.trans HK4.out (by simp)).trans HKz.out (by simp),fun k hk=>?_,HQ3.out⟩
  ·exact ((HO3.out.kept HK4.out).off HKz.out (by simp)).mono (by omega)
  ·rcases HN3.out k hk with h | h
   ·exact .inl h
   ·exact .inr (by omega)
 ·rw [if_neg he,if_neg he];have HQ:Hid (fb s=bD):=by show (if _ then _ else _)=_;rw [if_neg he]
  have HOz:=aa (aQ bD (.slice none 0 0) (by rfl));have HT:Hid (aq Tryz.prog 34 (au bD (.slice none 0 0)).length):=am;have HL:Hid ((au bD (.slice none 0 0)).length=aA.length):=rfl;unfold aA at HL;clear he;(go_wp2_with ((with_reducible refine ac HB4.out HL.out HOz.out HT.out ?_ ?_ ?_);rfl;rfl;intro wz HBz HKz));refine bodyPost_ret (al (by rfl) _ (by rfl) HBz.out HT.out) rfl ?_;rw [HQ.out]
  have hbO:w.heap.size ∉ O3:=fun hm=>by
   rcases HN3.out _ hm with h | h
   ·have:=HO.out _ h;omega
   ·have:=HB2.out.lt;omega
  refine ⟨_,rfl,bJ.nil _ _,O3,(ca p F).kept ((ca p F).kept HA3.out HK4.out (by simp)) HKz.out (by simpa using hbO),(HK03.out.trans HK4.out (by simp)).trans HKz.out (by simp),fun k hk=>?_,fun k hk=>by cases hk⟩;rcases HN3.out k hk with h | h
  ·exact .inl h
  ·exact .inr (by omega)
theorem qk (a:Array Value) (w:World):Sem.run Tryz.prog (callFunc 140 a) w=.ok (.enter 140 a) w:=by kernel_rfl
theorem l8 (w:World) (x:Rm) (hx:dS [] w x) :
 Calls Tryz.prog 139 #[.func (.func 140) #[] #[],eU x] w (i7 w (gv ([],0) x.r)):=by
 have hef:=qk;have k1:=ct w 29 (bp x);have HB1:=aa (Bx.new w 29 (bp x));have HK1:=aa k1;have HX:=aa hx;have HT:Hid (aq Tryz.prog 29 (bp x).length):=ar;unfold bp at HB1 HK1 HT;clear k1 hx;unfold eU;go_enter Tryz.func139,Tryz.ntmps139;go_wp2_with fail
 refine (eY _).mono ?_;rintro _ w2 ⟨rfl,hW2,hk2⟩;have hp2:w.heap.size≤(w.alloc (.cells #[.int .i64 x.r.k,.string (ae x.r.n),.int .i64 x.r.s,.int .i64 x.r.q,.int .i64 x.r.b,.string (ae x.r.f),.slice x.mo x.m x.mc,.string (ae x.r.p),.int .i64 x.r.fr,.int .i64 x.r.mn,.int .i64 x.r.mb] 29)).heap.size:=by simp
 obtain ⟨p,hp⟩:∃ p,p=(w.alloc (.cells #[.int .i64 x.r.k,.string (ae x.r.n),.int .i64 x.r.s,.int .i64 x.r.q,.int .i64 x.r.b,.string (ae x.r.f),.slice x.mo x.m x.mc,.string (ae x.r.p),.int .i64 x.r.fr,.int .i64 x.r.mn,.int .i64 x.r.mb] 29)).heap.size:=⟨_,rfl⟩;rw [← hp] at hW2 hp2 ⊢;have HK2:=aa (HK1.out.trans hk2 (by simp));have HB2:=aa (HB1.out.kept hk2 (by simp));have HA2:Hid (ei p w2 [p] ([],0) (0+200)):=⟨none,rfl,hW2,by simp⟩;have cP:=aa (jm p w2 [p] ([],0) 0 x (HX.out.on HK2.out (fun k hk=>.inr (by simp at hk;omega))) HA2.out);clear hW2 hk2 hp;go_wp2_with ((with_reducible refine ak HB2.out HT.out ?_ ?_);rfl)
 refine cP.out.mono ?_;clear cP;rintro _ w3 ⟨rfl,hW3⟩;obtain ⟨O3,⟨g3,e3,hw3,hl3⟩,hk3,hn3⟩:=nR HK2.out (by simpa using hp2) hW3;have HW3:=aa hw3;have HK3:=aa hk3;clear hw3 hk3 hn3 hW3 e3;go_wp2_with fail
 refine (iF _ p g3 _ _ HW3.out (by omega)).mono ?_;rintro _ w4 ⟨a,c,rfl,hS4,hb4,hk4⟩;have H4:Hid (i7 w (gv ([],0) x.r) (.returned (.tuple #[.slice a (gv ([],0) x.r).1.length c,.int .i64 (gv ([],0) x.r).2])) w4):=⟨a,c,rfl,hS4,fun k hk=>⟨Nat.le_trans HK3.out.size (hb4 k hk).1,(hb4 k hk).2⟩,HK3.out.trans hk4 (by simp)⟩;clear hS4 hb4 hk4;go_wp2_with fail
 go_ret2
 exact H4.out
theorem qL (w:World) (x:Rm) (hx:dS [] w x) :
 Calls Tryz.prog 136 #[eU x] w (i7 w (gv ([],0) x.r)):=by
 have k1:=ct w 29 (bp x);have HB1:=aa (Bx.new w 29 (bp x));have HT:Hid (aq Tryz.prog 29 (bp x).length):=ar;have cE:=aa (l8 _ x (hx.on k1 (fun k hk=>by cases hk)));have HK1:=aa k1;unfold bp at HB1 HK1 HT cE;clear k1 hx;unfold eU;go_enter Tryz.func136,Tryz.ntmps136;go_wp2_with ((with_reducible refine ak HB1.out HT.out ?_ ?_);rfl)
 refine cE.out.mono ?_;clear cE;rintro _ w2 ⟨a,c,rfl,hS,hb,hk⟩;have H4:Hid (i7 w (gv ([],0) x.r) (.returned (.tuple #[.slice a (gv ([],0) x.r).1.length c,.int .i64 (gv ([],0) x.r).2])) w2):=⟨a,c,rfl,hS,fun k h=>⟨Nat.le_trans HK1.out.size (hb k h).1,(hb k h).2⟩,HK1.out.trans hk (by simp)⟩;clear hS hb hk;go_wp2_with fail
 go_ret2
 exact H4.out
theorem ot (a:Array Value) (w:World):Sem.run Tryz.prog (callFunc 138 a) w=.ok (.enter 138 a) w:=by kernel_rfl
theorem mf (w:World) (x:Vt) (u:Value) (hx:eb [] w x u) :
 Calls Tryz.prog 137 #[.func (.func 138) #[] #[],dx x u] w (i7 w (ew ([],0) x)):=by
 obtain ⟨uo,un,uc,KK,rfl,hKD,hKK⟩:=hx.u;clear hKD hKK;have hef:=ot;have k1:=ct w 34 (au x (.slice uo un uc));have HB1:=aa (Bx.new w 34 (au x (.slice uo un uc)));have HK1:=aa k1;have HX:=aa hx;have HT:Hid (aq Tryz.prog 34 (au x (.slice uo un uc)).length):=am;unfold au at HB1 HK1 HT;clear k1 hx;unfold dx;go_enter Tryz.func137,Tryz.ntmps137;go_wp2_with fail
 refine (eY _).mono ?_;rintro _ w2 ⟨rfl,hW2,hk2⟩;have hp2:w.heap.size≤(w.alloc (.cells #[.int .i64 x.c,.int .i64 x.s,.int .i64 x.r,.string (ae x.p),.int .u64 x.d,.slice uo un uc,.int .i64 x.m] 34)).heap.size:=by simp
 obtain ⟨p,hp⟩:∃ p,p=(w.alloc (.cells #[.int .i64 x.c,.int .i64 x.s,.int .i64 x.r,.string (ae x.p),.int .u64 x.d,.slice uo un uc,.int .i64 x.m] 34)).heap.size:=⟨_,rfl⟩;rw [← hp] at hW2 hp2 ⊢;have HK2:=aa (HK1.out.trans hk2 (by simp));have HB2:=aa (HB1.out.kept hk2 (by simp));have HA2:Hid (ei p w2 [p] ([],0) (0+7000)):=⟨none,rfl,hW2,by simp⟩;have cP:=aa (lp p w2 [p] ([],0) 0 x (.slice uo un uc) (HX.out.on HK2.out (fun k hk=>.inr (by simp at hk;omega))) HA2.out);clear hW2 hk2 hp;go_wp2_with ((with_reducible refine ak HB2.out HT.out ?_ ?_);rfl)
 refine cP.out.mono ?_;clear cP;rintro _ w3 ⟨rfl,hW3⟩;obtain ⟨O3,⟨g3,e3,hw3,hl3⟩,hk3,hn3⟩:=nR HK2.out (by simpa using hp2) hW3;have HW3:=aa hw3;have HK3:=aa hk3;clear hw3 hk3 hn3 hW3 e3;go_wp2_with fail
 refine (iF _ p g3 _ _ HW3.out (by omega)).mono ?_;rintro _ w4 ⟨a,c,rfl,hS4,hb4,hk4⟩;have H4:Hid (i7 w (ew ([],0) x) (.returned (.tuple #[.slice a (ew ([],0) x).1.length c,.int .i64 (ew ([],0) x).2])) w4):=⟨a,c,rfl,hS4,fun k hk=>⟨Nat.le_trans HK3.out.size (hb4 k hk).1,(hb4 k hk).2⟩,HK3.out.trans hk4 (by simp)⟩;clear hS4 hb4 hk4;go_wp2_with fail
 go_ret2
 exact H4.out
theorem pV (w:World) (x:Vt) (u:Value) (hx:eb [] w x u) :
 Calls Tryz.prog 133 #[dx x u] w (i7 w (ew ([],0) x)):=by
 obtain ⟨uo,un,uc,KK,rfl,hKD,hKK⟩:=hx.u;clear hKD hKK;have k1:=ct w 34 (au x (.slice uo un uc));have HB1:=aa (Bx.new w 34 (au x (.slice uo un uc)));have HT:Hid (aq Tryz.prog 34 (au x (.slice uo un uc)).length):=am;have cE:=aa (mf _ x (.slice uo un uc) (hx.on k1 (fun k hk=>by cases hk)));have HK1:=aa k1;unfold au at HB1 HK1 HT cE;clear k1 hx;unfold dx;go_enter Tryz.func133,Tryz.ntmps133;go_wp2_with ((with_reducible refine ak HB1.out HT.out ?_ ?_);rfl)
 refine cE.out.mono ?_;clear cE;rintro _ w2 ⟨a,c,rfl,hS,hb,hk⟩;have H4:Hid (i7 w (ew ([],0) x) (.returned (.tuple #[.slice a (ew ([],0) x).1.length c,.int .i64 (ew ([],0) x).2])) w2):=⟨a,c,rfl,hS,fun k h=>⟨Nat.le_trans HK1.out.size (hb k h).1,(hb k h).2⟩,HK1.out.trans hk (by simp)⟩;clear hS hb hk;go_wp2_with fail
 go_ret2
 exact H4.out
end Go.Proofs.YtakafmejllilnaaGreat
