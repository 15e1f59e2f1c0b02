/-
  Texts laid as one.
-/
import Derived.Test.YtakafmejllilnaaGreatW3e
import Derived.Test.YtakafmejllilnaaGreatW2e
import Derived.Test.YtakafmejllilnaaGreatW4e
import Derived.Test.YtakafmejllilnaaGreatF10e
import Derived.Test.YtakafmejllilnaaGreatF11e
import Derived.Test.YtakafmejllilnaaGreatF2e
set_option maxHeartbeats 8000000
set_option maxRecDepth 100000
set_option linter.unusedSimpArgs false
/-
 Put,Told: written;Take,Heard: read. (Written by mk/mkput.py.)
-/
namespace Go.Proofs.YtakafmejllilnaaGreat
open Go.RowKit
theorem ck:(Tryz.prog.info? 29).map (·.size)=some 11:=by kernel_rfl
theorem dC:(Tryz.prog.info? 34).map (·.size)=some 7:=by kernel_rfl
theorem mS (H:da):∀ v∈H.c,v.oneCell'=true:=by
 intro v hv;simp [da.c] at hv
 rcases hv with rfl | rfl | rfl | rfl | rfl <;> rfl
def k6:List Value:=[.nilFunc,.nilFunc,.nilFunc,.nilFunc,.nilFunc]
theorem iT (w:World) (p:Nat):Calls Tryz.prog 141 #[.pointer (some ⟨p,0,none⟩)] w fun r w'=>r=.returned (rV p).a∧ab [] w w':=by
 have hmf:∀ (fn:Go.Fn) (first cap:Array Value) (w:World),(Instr.makeFunc fn first cap).run Tryz.prog w=.ok (.func fn first cap) w:=fun _ _ _ _=>rfl;have k1:ab [] w (w.alloc (.cells #[.nilFunc,.nilFunc,.nilFunc,.nilFunc,.nilFunc] 168)):=(ab.refl _ _).alloc _;have k2:ab [] (w.alloc (.cells #[.nilFunc,.nilFunc,.nilFunc,.nilFunc,.nilFunc] 168)) ((w.alloc (.cells #[.nilFunc,.nilFunc,.nilFunc,.nilFunc,.nilFunc] 168)).alloc (.cells #[.pointer (some ⟨p,0,none⟩)] 171)):=(ab.refl _ _).alloc _;have HZ:Hid (Bx ((w.alloc (.cells #[.nilFunc,.nilFunc,.nilFunc,.nilFunc,.nilFunc] 168)).alloc (.cells #[.pointer (some ⟨p,0,none⟩)] 171)) w.heap.size 168 k6):=(Bx.new w _ k6).kept k2 (by simp);have HL:Hid ((rV p).c.length=k6.length):=rfl;have HO:=aa (mS (rV p));have HT:Hid (av Tryz.prog 168 (rV p).c.length):=fx;have HK:=aa (k1.trans k2 (by simp));clear k1 k2;go_enter Tryz.func141,Tryz.ntmps141;go_wp2_with ((with_reducible refine ae HZ.out HL.out HO.out HT.out ?_ ?_ ?_);rfl;rfl;intro wz HBz HKz)
 refine bodyPost_ret (ar (by rfl) _ (by rfl) HBz.out HT.out) rfl ?_;exact ⟨rfl,HK.out.trans HKz.out (by simp)⟩
theorem iH (w:World) (p:Nat):Calls Tryz.prog 184 #[.pointer (some ⟨p,0,none⟩)] w fun r w'=>r=.returned (oB p).a∧ab [] w w':=by
 have hmf:∀ (fn:Go.Fn) (first cap:Array Value) (w:World),(Instr.makeFunc fn first cap).run Tryz.prog w=.ok (.func fn first cap) w:=fun _ _ _ _=>rfl;have k1:ab [] w (w.alloc (.cells #[.nilFunc,.nilFunc,.nilFunc,.nilFunc,.nilFunc] 168)):=(ab.refl _ _).alloc _;have k2:ab [] (w.alloc (.cells #[.nilFunc,.nilFunc,.nilFunc,.nilFunc,.nilFunc] 168)) ((w.alloc (.cells #[.nilFunc,.nilFunc,.nilFunc,.nilFunc,.nilFunc] 168)).alloc (.cells #[.pointer (some ⟨p,0,none⟩)] 187)):=(ab.refl _ _).alloc _;have HZ:Hid (Bx ((w.alloc (.cells #[.nilFunc,.nilFunc,.nilFunc,.nilFunc,.nilFunc] 168)).alloc (.cells #[.pointer (some ⟨p,0,none⟩)] 187)) w.heap.size 168 k6):=(Bx.new w _ k6).kept k2 (by simp);have HL:Hid ((oB p).c.length=k6.length):=rfl;have HO:=aa (mS (oB p));have HT:Hid (av Tryz.prog 168 (oB p).c.length):=fx;have HK:=aa (k1.trans k2 (by simp));clear k1 k2;go_enter Tryz.func184,Tryz.ntmps184;go_wp2_with ((with_reducible refine ae HZ.out HL.out HO.out HT.out ?_ ?_ ?_);rfl;rfl;intro wz HBz HKz)
 refine bodyPost_ret (ar (by rfl) _ (by rfl) HBz.out HT.out) rfl ?_;exact ⟨rfl,HK.out.trans HKz.out (by simp)⟩
theorem dw.on {O O':List Nat}{w w':World}{x:Rm}(h:dw O w x) (hk:ab O w w') (hn:∀ k∈O',k∈O∨w.heap.size≤k):dw O' w' x:=by
 refine ⟨h.s.kept0 hk h.d,h.no,fun h0 k hk' hm=>?_,h.n,h.f,h.p,h.c⟩;rcases hn k hm with h1 | h1
 ·exact h.d h0 k hk' h1
 ·obtain ⟨b,o,e,hc⟩:=h.s.some h0;rw [e] at hk';simp [bO] at hk'
  subst hk';have h0':=(hc 0 (by rw [h.s.1];exact h0)).c0;unfold World.cell? at h0';rw [show w.heap[(⟨k,o+0*3,none⟩:Addr).block]?=none from Array.getElem?_eq_none (by show w.heap.size≤k;omega)] at h0';simp at h0'
theorem bX.on {O O':List Nat}{w w':World}{x:Vt}{u:Value}(h:bX O w x u) (hk:ab O w w') (hn:∀ k∈O',k∈O∨w.heap.size≤k):bX O' w' x u:=by
 obtain ⟨⟨uo,un,uc,KK,e,hu,hK⟩,hp,hk'⟩:=h;exact ⟨⟨uo,un,uc,KK,e,hu.on hk hn,hK⟩,hp,hk'⟩
theorem qI.sl {O:List Nat}{w:World}{ao:Option Addr}{n c:Nat}{K:List (ch × Value)}(h:qI O w ao n c K):jI w ao n c K:=by
 obtain ⟨h1,h2,h3,_,h5,_,h7⟩:=h;refine ⟨h1,h2,h3,h5,fun x hx=>?_⟩;obtain ⟨mo,n',c',e,hS,h0,_⟩:=h7 x hx;exact ⟨mo,n',c',e,hS,h0⟩
def go (s:List Int × Int) (r:Rq):List Int × Int:=if (ba bP s r).1=r then (ba bP s r).2 else aY (ba bP s r).2.2
def es (s:List Int × Int) (v:Vt):List Int × Int:=if (aP bP s v).1=v then (aP bP s v).2 else aY (aP bP s v).2.2
def wg {σ:Type}(At:World→List Nat→σ→Nat→Prop) (w:World) (O:List Nat) (s:σ) (m:Nat) (d:Bool) (v:Value) (wx:World):Prop:=∃ b:Bool,v=.bool (!b)∧b=d∧Hid (bj At w O s m wx)
theorem nf {w w1 w2:World}{p:Nat}{O O1:List Nat}{s:List Int × Int}{m m':Nat}{r:Ending}(k1:ab O w w1) (n1:∀ k∈O1,k∈O∨w.heap.size≤k) {g:Option Nat}(e:O1=p :: g.toList) (hl:s.1.length+300*m'≤1000000000) (hm:m≤m') (h:bU w1 p g (aY s.2) r w2):bj (dW p) w O (aY s.2) m w2:=by
 subst e;exact bj.trans k1 n1 (dD (ab.refl [] w1) h (by rw [(en s.2).1];simp;omega))
theorem iY (p:Nat) (w:World) (O:List Nat) (s:List Int × Int) (m:Nat) (x:Rm) (hx:dw O w x) (hA:dW p w O s (m+200)) :
 Calls Tryz.prog 140 #[.pointer (some ⟨p,0,none⟩),dv x] w fun r w'=>r=.returned (.tuple #[])∧bj (dW p) w O (go s x.r) m w':=by
 have hO:=(aC p).lt hA;have k1:ab [] w (w.alloc (.cells (aR x).toArray 29)):=(ab.refl _ _).alloc _;have HX:=aa hx;have HB1:=aa (Bx.new w 29 (aR x));have HA1:=aa ((aC p).kept hA k1 (by simp));have HO:=aa hO;have HK1:=aa k1;clear hA hO k1 hx;obtain ⟨W1,hW1⟩:∃ W1,W1=w.alloc (.cells (aR x).toArray 29):=⟨_,rfl⟩;have HB1':Hid (Bx W1 w.heap.size 29 (aR x)):=by rw [hW1];exact HB1
 have HA1':Hid (dW p W1 O s (m+200)):=by rw [hW1];exact HA1
 have HK1':Hid (ab [] w W1):=by rw [hW1];exact HK1
 clear HB1 HA1 HK1;unfold dv;go_enter Tryz.func140,Tryz.ntmps140;go_upto_region 1 with fail
 rw [show w.alloc (.cells #[.int .i64 x.r.k,.string (ac x.r.n),.int .i64 x.r.s,.int .i64 x.r.q,.int .i64 x.r.b,.string (ac x.r.f),.slice x.mo x.m x.mc,.string (ac x.r.p),.int .i64 x.r.fr,.int .i64 x.r.mn,.int .i64 x.r.mb] 29)=W1 from hW1.symm];clear hW1;go_cut [10] from 4 to 10 (fun s10 wx=>wg (dW p) w O (ba bP s x.r).2 m (decide ((ba bP s x.r).1=x.r)) s10 wx)
 case first =>
  refine wp_region_held_drew (S:=fun w9=>Bx w9 w.heap.size 29 (aR x)) (by kernel_rfl) (HB1'.out.kept (ab.refl [] _).drew (by simp)) (fun hHeld=>?_);refine aq [0] (by rfl) (by kernel_rfl) (fun _ _ _ _ _ h=>h) hHeld ?_
  iterate 1
   refine yk ?_ rfl (Or.inl ⟨by rfl,?_⟩) ?_;rotate_left
   ·intro w9 hSw;go_simp;(try with_reducible rfl)
   try simp only [sT,Act.put]
  refine ap ?_;simp only [ah,sT];refine tk 2 (dv x) rfl (by kernel_rfl) (fun _ _ _ h=>h) (yieldsIf_load_mid (by rfl) _ _ rfl w.heap.size 0 rfl (aR x) _ (fun w9 hSw=>hSw.range) Tryz.underlying29 rfl ck) hHeld ?_;(try simp only [sT,Act.put]);refine tk 4 (dv x) rfl (by kernel_rfl) (fun _ _ _ h=>h) (yieldsIf_load_mid (by rfl) _ _ rfl w.heap.size 0 rfl (aR x) _ (fun w9 hSw=>hSw.range) Tryz.underlying29 rfl ck) hHeld ?_;(try simp only [sT,Act.put]);refine bW 1 (by kernel_rfl) rfl (fun K0 hK0=>?_);go_simp;refine (iT _ p).mono ?_;rintro _ w2 ⟨rfl,hk2⟩;have hk2':=(HK1'.out.trans (ab.refl [] _).drew (by simp)).trans hk2 (by simp);have HB2:=aa ((HB1'.out.kept (ab.refl [] _).drew (by simp)).kept hk2 (by simp));have HA2:=aa ((aC p).kept ((aC p).kept HA1'.out (ab.refl [] _).drew (by simp)) hk2 (by simp));have HK2:=aa hk2';clear hk2 hk2';(go_wp2_with fail);refine hK0.out _ _ HB2.out (fun hHeld=>?_);clear hK0 K0;(try simp only [sT,Act.put]);refine bW 3 (by kernel_rfl) rfl (fun K0 hK0=>?_);go_simp;have cR:=iA (aC p) _ _ _ m x (HX.out.on (HK2.out.mono (by simp)) (fun k hk=>.inl hk)) HA2.out;unfold dv at cR;refine cR.mono ?_;clear cR;rintro _ w3 ⟨v3,rfl,hO3,O3,A3,hk3,hn3,hq3⟩;have hb3:w.heap.size ∉ O:=fun hm=>by have:=HO.out _ hm;omega
  have HB3:=aa (HB2.out.kept hk3 hb3);obtain ⟨ao,nn,cc,rfl⟩:=fF hO3;have HO3:=aa hO3;have HW3:Hid (bj (dW p) w O (ba bP s x.r).2 m w3):=bj.trans (HK2.out.mono (by simp)) (fun k hk=>.inl hk) ⟨O3,A3,hk3,hn3⟩;have HK3:=aa hk3;clear hO3 A3 hk3 hn3 hq3 hb3;(go_wp2_with fail);refine hK0.out _ _ HB3.out (fun hHeld=>?_);clear hK0 K0;(try simp only [sT,Act.put]);refine bW 5 (by kernel_rfl) rfl (fun K0 hK0=>?_);go_simp;have cS:=ji w3 (ba bP s x.r).1 x.r ao x.mo nn x.m cc x.mc HO3.out.slice (HX.out.s.kept0 ((HK2.out.mono (by simp)).trans HK3.out (fun i hi=>.inl hi)) HX.out.d);refine cS.mono ?_;clear cS;rintro _ w4 ⟨rfl,hk4⟩;have HB4:=aa (HB3.out.kept hk4 (by simp))
  have HW4:Hid (bj (dW p) w O (ba bP s x.r).2 m w4):=by
   obtain ⟨O',h1,h2,h3⟩:=HW3.out;exact ⟨O',(aC p).kept h1 hk4 (by simp),h2.trans hk4 (by simp),h3⟩
  clear hk4;(go_wp2_with fail);refine hK0.out _ _ HB4.out (fun hHeld=>?_);clear hK0 K0;(try simp only [sT,Act.put]);refine aq [6] (by rfl) (by kernel_rfl) (fun _ _ _ _ _ h=>h) hHeld ?_
  iterate 1
   refine yk ?_ rfl (Or.inl ⟨by rfl,?_⟩) ?_;rotate_left
   ·intro w9 hSw;go_simp;(try with_reducible rfl)
   try simp only [sT,Act.put]
  refine ap ?_;simp only [ah,sT];(try simp only [sT,Act.put]);refine wpAnyH_done (by kernel_rfl) ?_ _;clear hHeld;(go_wp2_with fail);go_meet
  exact ⟨_,rfl,rfl,HW4⟩
 case rest =>
  obtain ⟨b,rfl,hb,HW⟩:=hcut;cases b
  ·have hne:¬ (ba bP s x.r).1=x.r:=by intro h;rw [decide_eq_true h] at hb;cases hb
   have HQ:Hid (go s x.r=aY (ba bP s x.r).2.2):=by show (if _ then _ else _)=_;rw [if_neg hne]
   obtain ⟨O5,⟨g5,e5,hw5,hl5⟩,hk5,hn5⟩:=HW.out;have HW5:=aa hw5;clear hne hw5 hb;(go_wp2_with fail);refine (eL _ p g5 _ _ HW5.out).mono ?_;rintro _ w6 hW6;have hr:=hW6.1;subst hr;have H6:=aa (nf hk5 hn5 e5 hl5 (Nat.le_refl m) hW6);clear hW6;(go_wp2_with fail);go_end0
   rw [HQ.out];exact ⟨rfl,H6.out⟩
  ·have heq:(ba bP s x.r).1=x.r:=of_decide_eq_true hb.symm;have HQ:Hid (go s x.r=(ba bP s x.r).2):=by show (if _ then _ else _)=_;rw [if_pos heq]
   clear heq hb;(go_wp2_with fail);go_end0
   rw [HQ.out];exact ⟨rfl,HW.out⟩
theorem jk (w:World) (x y:Vt) (u1 u2:Value) (h1:ku w u1 x.k) (h2:ku w u2 y.k) :
 Calls Tryz.prog 72 #[bS x u1,bS y u2] w fun e w'=>e=.returned (.bool (decide (x=y)))∧ab [] w w':=by
 obtain ⟨ao,n,c,K,rfl,hL,e1,_⟩:=h1;obtain ⟨bo,m,d,M,rfl,hM,e2,_⟩:=h2;obtain ⟨xc,xs,xr,xp,xd,xk,xm⟩:=x;obtain ⟨yc,ys,yr,yp,yd,yk,ym⟩:=y;simp only at e1 e2;subst e1;subst e2;unfold bS;simp only
 by_cases hc:xc=yc
 rotate_left
 ·rw [decide_eq_false (by intro h;injection h;contradiction)];exact sj w xc yc xs ys xr yr xp yp xd yd xm ym ao bo n m c d hc
 subst hc;by_cases hs:xs=ys
 rotate_left
 ·rw [decide_eq_false (by intro h;injection h;contradiction)];exact sm w xc xs ys xr yr xp yp xd yd xm ym ao bo n m c d hs
 subst hs;by_cases hr:xr=yr
 rotate_left
 ·rw [decide_eq_false (by intro h;injection h;contradiction)];exact re w xc xs xr yr xp yp xd yd xm ym ao bo n m c d hr
 subst hr;by_cases hp:xp=yp
 rotate_left
 ·rw [decide_eq_false (by intro h;injection h;contradiction)];exact qY w xc xs xr xp yp xd yd xm ym ao bo n m c d hp
 subst hp;by_cases hd:xd=yd
 rotate_left
 ·rw [decide_eq_false (by intro h;injection h;contradiction)];exact rM w xc xs xr xp xd yd xm ym ao bo n m c d hd
 subst hd;by_cases hm:xm=ym
 rotate_left
 ·rw [decide_eq_false (by intro h;injection h;contradiction)];exact sg w xc xs xr xp xd xm ym ao bo n m c d hm
 subst hm;by_cases hk:K.map Prod.fst=M.map Prod.fst
 rotate_left
 ·rw [decide_eq_false (by intro h;injection h;contradiction)];exact qO w xc xs xr xp xd xm ao bo n m c d K M hL hM hk
 rw [decide_eq_true (by rw [hk])];exact nW w xc xs xr xp xd xm ao bo n m c d K M hL hM hk
theorem k7 (p:Nat) (w:World) (O:List Nat) (s:List Int × Int) (m:Nat) (x:Vt) (u:Value) (hx:bX O w x u) (hA:dW p w O s (m+7000)) :
 Calls Tryz.prog 138 #[.pointer (some ⟨p,0,none⟩),bS x u] w fun r w'=>r=.returned (.tuple #[])∧bj (dW p) w O (es s x) m w':=by
 obtain ⟨uo,un,uc,KK,rfl,hKD,hKK⟩:=hx.u;have hO:=(aC p).lt hA;have k1:ab [] w (w.alloc (.cells (ak x (.slice uo un uc)).toArray 34)):=(ab.refl _ _).alloc _;have HX:=aa hx;have HB1:=aa (Bx.new w 34 (ak x (.slice uo un uc)));have HA1:=aa ((aC p).kept hA k1 (by simp));have HO:=aa hO;have HK1:=aa k1;clear hA hO k1 hx;obtain ⟨W1,hW1⟩:∃ W1,W1=w.alloc (.cells (ak x (.slice uo un uc)).toArray 34):=⟨_,rfl⟩;have HB1':Hid (Bx W1 w.heap.size 34 (ak x (.slice uo un uc))):=by rw [hW1];exact HB1
 have HA1':Hid (dW p W1 O s (m+7000)):=by rw [hW1];exact HA1
 have HK1':Hid (ab [] w W1):=by rw [hW1];exact HK1
 clear HB1 HA1 HK1;unfold bS;go_enter Tryz.func138,Tryz.ntmps138;go_upto_region 1 with fail
 rw [show w.alloc (.cells #[.int .i64 x.c,.int .i64 x.s,.int .i64 x.r,.string (ac x.p),.int .u64 x.d,.slice uo un uc,.int .i64 x.m] 34)=W1 from hW1.symm];clear hW1;go_cut [10] from 4 to 10 (fun s10 wx=>wg (dW p) w O (aP bP s x).2 m (decide ((aP bP s x).1=x)) s10 wx)
 case first =>
  refine wp_region_held_drew (S:=fun w9=>Bx w9 w.heap.size 34 (ak x (.slice uo un uc))) (by kernel_rfl) (HB1'.out.kept (ab.refl [] _).drew (by simp)) (fun hHeld=>?_);refine aq [0] (by rfl) (by kernel_rfl) (fun _ _ _ _ _ h=>h) hHeld ?_
  iterate 1
   refine yk ?_ rfl (Or.inl ⟨by rfl,?_⟩) ?_;rotate_left
   ·intro w9 hSw;go_simp;(try with_reducible rfl)
   try simp only [sT,Act.put]
  refine ap ?_;simp only [ah,sT];refine wpAnyH_take (i:=2) (v:=bS x (.slice uo un uc)) rfl (by kernel_rfl) (by kernel_rfl) (by kernel_rfl) (fun _ _ _ h=>h) (yieldsIf_load_mid (by rfl) _ _ rfl w.heap.size 0 rfl (ak x (.slice uo un uc)) _ (fun w9 hSw=>hSw.range) Tryz.underlying34 rfl dC) hHeld ?_;(try simp only [sT,Act.put]);refine wpAnyH_take (i:=4) (v:=bS x (.slice uo un uc)) rfl (by kernel_rfl) (by kernel_rfl) (by kernel_rfl) (fun _ _ _ h=>h) (yieldsIf_load_mid (by rfl) _ _ rfl w.heap.size 0 rfl (ak x (.slice uo un uc)) _ (fun w9 hSw=>hSw.range) Tryz.underlying34 rfl dC) hHeld ?_;(try simp only [sT,Act.put]);refine bW 1 (by kernel_rfl) rfl (fun K0 hK0=>?_);go_simp;refine (iT _ p).mono ?_;rintro _ w2 ⟨rfl,hk2⟩;have hk2':=(HK1'.out.trans (ab.refl [] _).drew (by simp)).trans hk2 (by simp);have HB2:=aa ((HB1'.out.kept (ab.refl [] _).drew (by simp)).kept hk2 (by simp));have HA2:=aa ((aC p).kept ((aC p).kept HA1'.out (ab.refl [] _).drew (by simp)) hk2 (by simp));have HK2:=aa hk2';clear hk2 hk2';(go_wp2_with fail);refine hK0.out _ _ HB2.out (fun hHeld=>?_);clear hK0 K0;(try simp only [sT,Act.put]);refine bW 3 (by kernel_rfl) rfl (fun K0 hK0=>?_);go_simp;have cR:=iD (aC p) _ _ _ m x _ (HX.out.on (HK2.out.mono (by simp)) (fun k hk=>.inl hk)) HA2.out;unfold bS at cR;refine cR.mono ?_;clear cR;rintro _ w3 ⟨v3,rfl,hO3,O3,A3,hk3,hn3,hq3⟩;have hb3:w.heap.size ∉ O:=fun hm=>by have:=HO.out _ hm;omega
  have HB3:=aa (HB2.out.kept hk3 hb3);obtain ⟨ao,nn,cc,rfl⟩:=iV hO3;have HO3:=aa hO3;have HW3:Hid (bj (dW p) w O (aP bP s x).2 m w3):=bj.trans (HK2.out.mono (by simp)) (fun k hk=>.inl hk) ⟨O3,A3,hk3,hn3⟩;have HK3:=aa hk3;clear hO3 A3 hk3 hn3 hq3 hb3;(go_wp2_with fail);refine hK0.out _ _ HB3.out (fun hHeld=>?_);clear hK0 K0;(try simp only [sT,Act.put]);refine bW 5 (by kernel_rfl) rfl (fun K0 hK0=>?_);go_simp;have cS:=jk w3 (aP bP s x).1 x _ _ (HO3.out.ko) ⟨_,_,_,_,rfl,(hKD.on ((HK2.out.mono (by simp)).trans HK3.out (fun i hi=>.inl hi)) (O':=O) (fun k hk=>.inl hk)).sl,hKK,hKD.2.2.2.1⟩;refine cS.mono ?_;clear cS;rintro _ w4 ⟨rfl,hk4⟩;have HB4:=aa (HB3.out.kept hk4 (by simp))
  have HW4:Hid (bj (dW p) w O (aP bP s x).2 m w4):=by
   obtain ⟨O',h1,h2,h3⟩:=HW3.out;exact ⟨O',(aC p).kept h1 hk4 (by simp),h2.trans hk4 (by simp),h3⟩
  clear hk4;(go_wp2_with fail);refine hK0.out _ _ HB4.out (fun hHeld=>?_);clear hK0 K0;(try simp only [sT,Act.put]);refine aq [6] (by rfl) (by kernel_rfl) (fun _ _ _ _ _ h=>h) hHeld ?_
  iterate 1
   refine yk ?_ rfl (Or.inl ⟨by rfl,?_⟩) ?_;rotate_left
   ·intro w9 hSw;go_simp;(try with_reducible rfl)
   try simp only [sT,Act.put]
  refine ap ?_;simp only [ah,sT];(try simp only [sT,Act.put]);refine wpAnyH_done (by kernel_rfl) ?_ _;clear hHeld;(go_wp2_with fail);go_meet
  exact ⟨_,rfl,rfl,HW4⟩
 case rest =>
  obtain ⟨b,rfl,hb,HW⟩:=hcut;cases b
  ·have hne:¬ (aP bP s x).1=x:=by intro h;rw [decide_eq_true h] at hb;cases hb
   have HQ:Hid (es s x=aY (aP bP s x).2.2):=by show (if _ then _ else _)=_;rw [if_neg hne]
   obtain ⟨O5,⟨g5,e5,hw5,hl5⟩,hk5,hn5⟩:=HW.out;have HW5:=aa hw5;clear hne hw5 hb;(go_wp2_with fail);refine (eL _ p g5 _ _ HW5.out).mono ?_;rintro _ w6 hW6;have hr:=hW6.1;subst hr;have H6:=aa (nf hk5 hn5 e5 hl5 (Nat.le_refl m) hW6);clear hW6;(go_wp2_with fail);go_end0
   rw [HQ.out];exact ⟨rfl,H6.out⟩
  ·have heq:(aP bP s x).1=x:=of_decide_eq_true hb.symm;have HQ:Hid (es s x=(aP bP s x).2):=by show (if _ then _ else _)=_;rw [if_pos heq]
   clear heq hb;(go_wp2_with fail);go_end0
   rw [HQ.out];exact ⟨rfl,HW.out⟩
def u4:Rm:=⟨fd,none,0,0⟩
def eq:Vt:=⟨0,0,0,[],0,[],0⟩
def eD (s:List Int × Int):Rq:=if (ba bI s fd).2.2=0 then (ba bI s fd).1 else fd
def eU (s:List Int × Int):Vt:=if (aP bI s eq).2.2=0 then (aP bI s eq).1 else eq
theorem dH {P:Program}{w:World}{g:Nat}{T:TypeId}{cs:List Value}{fn:Func}{p u:Tmp}(hr:fn.results=#[.cell p T,.tmp u]) (tmps:Array Value) (hp:tmps.getD p undef=.pointer (some ⟨g,0,none⟩)) (hg:Bx w g T cs)
 (hT:av P T cs.length):(results fn tmps).run P w=.ok (.tuple #[.agg cs.toArray,tmps.getD u undef]) w:=by
 obtain ⟨D,hu,hd,hi⟩:=hT;rw [results_cell_tmp hr,hp];have h:=run_loadVar_mid (P:=P) w g 0 T cs D hg.range hu hd hi;simp [asAddr,h]
theorem pQ (O:List Nat) (w:World):dw O w u4 :=
 ⟨⟨rfl,Nat.le_refl _,Nat.zero_le _,fun i hi=>by simp [u4,fd] at hi⟩,fun _=>rfl,fun h=>by simp [u4] at h,by simp [u4,fd],by simp [u4,fd],by simp [u4,fd],by simp [u4,fd]⟩
theorem jc (O:List Nat) (w:World):bX O w eq (.slice none 0 0) :=
 ⟨⟨none,0,0,[],rfl,⟨rfl,Nat.le_refl _,Nat.zero_le _,fun _=>rfl,fun i hi=>by simp at hi,fun h=>by simp at h,fun x hx=>by cases hx⟩,rfl⟩,by simp [eq],by simp [eq]⟩
theorem lT (w:World) (p:Nat) (F:List Nat) (l:List Int) (e:Int) (x:Rq) (ao:Option Addr) (n c:Nat) (hR:Rd w p F l e) :
 Calls Tryz.prog 183 #[.pointer (some ⟨p,0,none⟩),.agg (bk x (.slice ao n c)).toArray] w fun r w'=>r=.returned (.agg (bk (if e=0 then x else fd) (if e=0 then .slice ao n c else .slice none 0 0)).toArray)∧ab [] w w':=by
 have k1:ab [] w (w.alloc (.cells (bk x (.slice ao n c)).toArray 29)):=(ab.refl _ _).alloc _;have k2:ab [] (w.alloc (.cells (bk x (.slice ao n c)).toArray 29)) ((w.alloc (.cells (bk x (.slice ao n c)).toArray 29)).alloc (.cells bf.toArray 29)):=(ab.refl _ _).alloc _;obtain ⟨W,hW⟩:∃ W,W=(w.alloc (.cells (bk x (.slice ao n c)).toArray 29)).alloc (.cells bf.toArray 29):=⟨_,rfl⟩;have HB1:Hid (Bx W w.heap.size 29 (bk x (.slice ao n c))):=by rw [hW];exact (Bx.new w _ _).kept k2 (by simp)
 have HB2:Hid (Bx W (w.heap.size+1) 29 bf):=by
  rw [hW];have h:=Bx.new (w.alloc (.cells (bk x (.slice ao n c)).toArray 29)) 29 bf;have hs:(w.alloc (.cells (bk x (.slice ao n c)).toArray 29)).heap.size=w.heap.size+1:=by simp
  rw [hs] at h;exact h
 have hk:=k1.trans k2 (by simp);rw [← hW] at hk;have HK:=aa hk;have HR:=aa (Rd.kept hk hR (by simp) (by simp));have HO:=aa (bq x (.slice ao n c) (by rfl));have HO0:=aa (bq fd (.slice none 0 0) (by rfl));have HT:Hid (av Tryz.prog 29 (bk x (.slice ao n c)).length):=au;have HT0:Hid (av Tryz.prog 29 (bk fd (.slice none 0 0)).length):=au;have HL:Hid ((bk x (.slice ao n c)).length=bf.length):=rfl;have HL0:Hid ((bk fd (.slice none 0 0)).length=bf.length):=rfl;unfold bf at hW;have HW:=aa hW;clear k1 k2 hk hR hW;by_cases he:e=0
 ·subst he;rw [if_pos rfl,if_pos rfl];go_enter Tryz.func183,Tryz.ntmps183;go_upto_region 1 with fail
  rw [← HW.out];(go_wp2_with (first | (go_at_call 95;refine (gz _ p F l 0 HR.out).mono ?_;rintro _ _ ⟨rfl,rfl⟩) | ((with_reducible refine ai HB1.out HT.out ?_ ?_);rfl) | ((with_reducible refine ae HB2.out HL.out HO.out HT.out ?_ ?_ ?_);rfl;rfl;intro wz HBz HKz)));refine bodyPost_ret (ar (by rfl) _ (by rfl) HBz.out HT.out) rfl ?_;exact ⟨rfl,HK.out.trans HKz.out (by simp)⟩
 ·rw [if_neg he,if_neg he];have heb:(e != 0)=true:=by simp [he]
  have HBn:Hid (Bx (W.alloc (.cells bf.toArray 29)) W.heap.size 29 (bk fd (.slice none 0 0))):=Bx.new W _ _;have HB2':Hid (Bx (W.alloc (.cells bf.toArray 29)) (w.heap.size+1) 29 bf):=HB2.out.kept ((ab.refl [] W).alloc _) (by simp);have HKn:=aa (HK.out.alloc (.cells bf.toArray 29));clear he;unfold bf at HBn HB2' HKn;go_enter Tryz.func183,Tryz.ntmps183;go_upto_region 1 with fail
  rw [← HW.out];(go_wp2_with (first | (go_at_call 95;refine (gz _ p F l e HR.out).mono ?_;rintro _ _ ⟨rfl,rfl⟩) | ((with_reducible refine ai HBn.out HT0.out ?_ ?_);rfl) | ((with_reducible refine ae HB2'.out HL0.out HO0.out HT0.out ?_ ?_ ?_);rfl;rfl;intro wz HBz HKz)));refine bodyPost_ret (ar (by rfl) _ (by rfl) HBz.out HT0.out) rfl ?_;exact ⟨rfl,HKn.out.trans HKz.out (by simp)⟩
theorem me (w:World) (p:Nat) (F:List Nat) (l:List Int) (e:Int) (x:Vt) (ao:Option Addr) (n c:Nat) (hR:Rd w p F l e) :
 Calls Tryz.prog 185 #[.pointer (some ⟨p,0,none⟩),.agg (ak x (.slice ao n c)).toArray] w fun r w'=>r=.returned (.agg (ak (if e=0 then x else eq) (if e=0 then .slice ao n c else .slice none 0 0)).toArray)∧ab [] w w':=by
 have k1:ab [] w (w.alloc (.cells (ak x (.slice ao n c)).toArray 34)):=(ab.refl _ _).alloc _;have k2:ab [] (w.alloc (.cells (ak x (.slice ao n c)).toArray 34)) ((w.alloc (.cells (ak x (.slice ao n c)).toArray 34)).alloc (.cells aI.toArray 34)):=(ab.refl _ _).alloc _;obtain ⟨W,hW⟩:∃ W,W=(w.alloc (.cells (ak x (.slice ao n c)).toArray 34)).alloc (.cells aI.toArray 34):=⟨_,rfl⟩;have HB1:Hid (Bx W w.heap.size 34 (ak x (.slice ao n c))):=by rw [hW];exact (Bx.new w _ _).kept k2 (by simp)
 have HB2:Hid (Bx W (w.heap.size+1) 34 aI):=by
  rw [hW];have h:=Bx.new (w.alloc (.cells (ak x (.slice ao n c)).toArray 34)) 34 aI;have hs:(w.alloc (.cells (ak x (.slice ao n c)).toArray 34)).heap.size=w.heap.size+1:=by simp
  rw [hs] at h;exact h
 have hk:=k1.trans k2 (by simp);rw [← hW] at hk;have HK:=aa hk;have HR:=aa (Rd.kept hk hR (by simp) (by simp));have HO:=aa (aM x (.slice ao n c) (by rfl));have HO0:=aa (aM eq (.slice none 0 0) (by rfl));have HT:Hid (av Tryz.prog 34 (ak x (.slice ao n c)).length):=am;have HT0:Hid (av Tryz.prog 34 (ak eq (.slice none 0 0)).length):=am;have HL:Hid ((ak x (.slice ao n c)).length=aI.length):=rfl;have HL0:Hid ((ak eq (.slice none 0 0)).length=aI.length):=rfl;unfold aI at hW;have HW:=aa hW;clear k1 k2 hk hR hW;by_cases he:e=0
 ·subst he;rw [if_pos rfl,if_pos rfl];go_enter Tryz.func185,Tryz.ntmps185;go_upto_region 1 with fail
  rw [← HW.out];(go_wp2_with (first | (go_at_call 95;refine (gz _ p F l 0 HR.out).mono ?_;rintro _ _ ⟨rfl,rfl⟩) | ((with_reducible refine ai HB1.out HT.out ?_ ?_);rfl) | ((with_reducible refine ae HB2.out HL.out HO.out HT.out ?_ ?_ ?_);rfl;rfl;intro wz HBz HKz)));refine bodyPost_ret (ar (by rfl) _ (by rfl) HBz.out HT.out) rfl ?_;exact ⟨rfl,HK.out.trans HKz.out (by simp)⟩
 ·rw [if_neg he,if_neg he];have heb:(e != 0)=true:=by simp [he]
  have HBn:Hid (Bx (W.alloc (.cells aI.toArray 34)) W.heap.size 34 (ak eq (.slice none 0 0))):=Bx.new W _ _;have HB2':Hid (Bx (W.alloc (.cells aI.toArray 34)) (w.heap.size+1) 34 aI):=HB2.out.kept ((ab.refl [] W).alloc _) (by simp);have HKn:=aa (HK.out.alloc (.cells aI.toArray 34));clear he;unfold aI at HBn HB2' HKn;go_enter Tryz.func185,Tryz.ntmps185;go_upto_region 1 with fail
  rw [← HW.out];(go_wp2_with (first | (go_at_call 95;refine (gz _ p F l e HR.out).mono ?_;rintro _ _ ⟨rfl,rfl⟩) | ((with_reducible refine ai HBn.out HT0.out ?_ ?_);rfl) | ((with_reducible refine ae HB2'.out HL0.out HO0.out HT0.out ?_ ?_ ?_);rfl;rfl;intro wz HBz HKz)));refine bodyPost_ret (ar (by rfl) _ (by rfl) HBz.out HT0.out) rfl ?_;exact ⟨rfl,HKn.out.trans HKz.out (by simp)⟩
def jw (s:List Int × Int):Int:=if s.2=0 then (if s.1.length=0 then 0 else 3) else s.2
def iK (w:World) (q:List Int × Int) (r:Ending) (w':World):Prop :=
 ∃ a c,r=.returned (.tuple #[.slice a q.1.length c,.int .i64 q.2])∧Sl w' a q.1.length c q.1∧(∀ k∈bO a,w.heap.size≤k∧k < w'.heap.size)∧ab [] w w'
theorem nu {σ:Type}{At:World→List Nat→σ→Nat→Prop}{w w1 w2:World}{O:List Nat}{s:σ}{m:Nat}(k:ab [] w w1) (hO:∀ i∈O,w.heap.size≤i) (h:bj At w1 O s m w2):∃ O',At w2 O' s m∧ab [] w w2∧∀ i∈O',w.heap.size≤i:=by
 obtain ⟨O',h1,h2,h3⟩:=h;refine ⟨O',h1,k.trans h2 (fun i hi=>.inr (hO i hi)),fun i hi=>?_⟩;rcases h3 i hi with h4 | h4
 ·exact hO i h4
 ·exact Nat.le_trans k.size h4
theorem cJ (w:World) (T:TypeId) (zs:List Value):ab [] w (w.alloc (.cells zs.toArray T)):=(ab.refl _ _).alloc _
theorem kg (p:Nat) (F:List Nat) (w:World) (O:List Nat) (s:List Int × Int) (m:Nat) (hA:lo p F w O s (m+200)) :
 Calls Tryz.prog 177 #[.pointer (some ⟨p,0,none⟩)] w (fZ (lo p F) w O (ba bI s fd).2 m (eD s)):=by
 have k1:=cJ w 29 bf;have hB1:=Bx.new w 29 bf;have hO:=(bZ p F).lt hA;have hA1:=(bZ p F).kept hA k1 (by simp);have HB1:=aa hB1;have HA1:=aa hA1;have HK1:=aa k1;have HO:=aa hO;clear k1 hB1 hA hA1 hO;unfold bf at HB1 HA1 HK1;go_enter Tryz.func177,Tryz.ntmps177;go_wp2_with fail
 refine (iH _ p).mono ?_;rintro _ w2 ⟨rfl,hk2⟩;have HK2:=aa (HK1.out.trans hk2 (by simp));have HB2:=aa (HB1.out.kept hk2 (by simp));have HA2:=aa ((bZ p F).kept HA1.out hk2 (by simp));clear hk2;go_wp2_with fail
 have cR:Calls Tryz.prog 144 #[(oB p).a,.agg #[.int .i64 0,.string ⟨#[]⟩,.int .i64 0,.int .i64 0,.int .i64 0,.string ⟨#[]⟩,.slice none 0 0,.string ⟨#[]⟩,.int .i64 0,.int .i64 0,.int .i64 0]] w2 (fZ (lo p F) w2 O (ba bI s fd).2 m (ba bI s fd).1):=iA (bZ p F) w2 O s m u4 (pQ O w2) HA2.out;refine cR.mono ?_;clear cR;rintro _ w3 ⟨v3,rfl,hO3,O3,A3,hk3,hn3,hq3⟩;have hb3:w.heap.size ∉ O:=fun hm=>by have:=HO.out _ hm;omega
 have HB3:=aa (HB2.out.kept hk3 hb3);obtain ⟨ao,nn,cc,rfl⟩:=fF hO3;have hk03:ab O w w3:=(HK2.out.mono (by simp)).trans hk3 (fun i hi=>.inl hi);have HK03:=aa hk03;have HO3:Hid (bN (w.heap.size+1) w3 (.slice ao nn cc) (ba bI s fd).1.c):=hO3.mono (by have:=HB2.out.lt;omega);have HA3:=aa A3;have HN3:=aa hn3;have HQ3:=aa hq3;have hs2:=HK2.out.size;obtain ⟨e3,hR3,hF3⟩:=A3;have HR3:=aa hR3;clear hO3 hk3 hn3 hq3 hb3 hk03 e3 hR3 hF3;go_wp2_with fail
 refine (lT w3 p F _ _ (ba bI s fd).1 ao nn cc HR3.out).mono ?_;rintro _ w4 ⟨rfl,hk4⟩;have HK4:=aa hk4;have HB4:=aa (HB3.out.kept hk4 (by simp));clear hk4;by_cases he:(ba bI s fd).2.2=0
 ·rw [if_pos he,if_pos he];have HQ:Hid (eD s=(ba bI s fd).1):=by show (if _ then _ else _)=_;rw [if_pos he]
  have HOz:=aa (bq (ba bI s fd).1 (.slice ao nn cc) (by rfl));have HT:Hid (av Tryz.prog 29 (bk (ba bI s fd).1 (.slice ao nn cc)).length):=au;have HL:Hid ((bk (ba bI s fd).1 (.slice ao nn cc)).length=bf.length):=rfl;unfold bf at HL;clear he;(go_wp2_with ((with_reducible refine ae HB4.out HL.out HOz.out HT.out ?_ ?_ ?_);rfl;rfl;intro wz HBz HKz));refine bodyPost_ret (ar (by rfl) _ (by rfl) HBz.out HT.out) rfl ?_;rw [HQ.out]
  have hbO:w.heap.size ∉ O3:=fun hm=>by
   rcases HN3.out _ hm with h | h
   ·have:=HO.out _ h;omega
   ·have:=HB2.out.lt;omega
  refine ⟨_,rfl,?_,O3,(bZ p F).kept ((bZ p F).kept HA3.out HK4.out (by simp)) HKz.out (by simpa using hbO),(HK03.out.trans HK4.out (by simp)).trans HKz.out (by simp),fun k hk=>?_,HQ3.out⟩
  ·have h1:bN (w.heap.size+1) wz _ _:=HKz.out.ownsRow (HK4.out.ownsRow HO3.out (by simp)) (fun k hk hm=>by have:=(World.ownsRow.lt HO3.out k hk).1;simp at hm;omega);exact h1.mono (by omega)
  ·rcases HN3.out k hk with h | h
   ·exact .inl h
   ·exact .inr (by omega)
 ·rw [if_neg he,if_neg he];have HQ:Hid (eD s=fd):=by show (if _ then _ else _)=_;rw [if_neg he]
  have HOz:=aa (bq fd (.slice none 0 0) (by rfl));have HT:Hid (av Tryz.prog 29 (bk fd (.slice none 0 0)).length):=au;have HL:Hid ((bk fd (.slice none 0 0)).length=bf.length):=rfl;unfold bf at HL;clear he;(go_wp2_with ((with_reducible refine ae HB4.out HL.out HOz.out HT.out ?_ ?_ ?_);rfl;rfl;intro wz HBz HKz));refine bodyPost_ret (ar (by rfl) _ (by rfl) HBz.out HT.out) rfl ?_;rw [HQ.out]
  have hbO:w.heap.size ∉ O3:=fun hm=>by
   rcases HN3.out _ hm with h | h
   ·have:=HO.out _ h;omega
   ·have:=HB2.out.lt;omega
  refine ⟨_,rfl,bN.nil _ _,O3,(bZ p F).kept ((bZ p F).kept HA3.out HK4.out (by simp)) HKz.out (by simpa using hbO),(HK03.out.trans HK4.out (by simp)).trans HKz.out (by simp),fun k hk=>?_,fun k hk=>by cases hk⟩;rcases HN3.out k hk with h | h
  ·exact .inl h
  ·exact .inr (by omega)
theorem m9 (p:Nat) (F:List Nat) (w:World) (O:List Nat) (s:List Int × Int) (m:Nat) (hA:lo p F w O s (m+7000)) :
 Calls Tryz.prog 178 #[.pointer (some ⟨p,0,none⟩)] w (eE (lo p F) w O (aP bI s eq).2 m (eU s)):=by
 have k1:=cJ w 34 aI;have hB1:=Bx.new w 34 aI;have hO:=(bZ p F).lt hA;have hA1:=(bZ p F).kept hA k1 (by simp);have HB1:=aa hB1;have HA1:=aa hA1;have HK1:=aa k1;have HO:=aa hO;clear k1 hB1 hA hA1 hO;unfold aI at HB1 HA1 HK1;go_enter Tryz.func178,Tryz.ntmps178;go_wp2_with fail
 refine (iH _ p).mono ?_;rintro _ w2 ⟨rfl,hk2⟩;have HK2:=aa (HK1.out.trans hk2 (by simp));have HB2:=aa (HB1.out.kept hk2 (by simp));have HA2:=aa ((bZ p F).kept HA1.out hk2 (by simp));clear hk2;go_wp2_with fail
 have cR:Calls Tryz.prog 142 #[(oB p).a,.agg #[.int .i64 0,.int .i64 0,.int .i64 0,.string ⟨#[]⟩,.int .u64 0,.slice none 0 0,.int .i64 0]] w2 (eE (lo p F) w2 O (aP bI s eq).2 m (aP bI s eq).1):=iD (bZ p F) w2 O s m eq (.slice none 0 0) (jc O w2) HA2.out;refine cR.mono ?_;clear cR;rintro _ w3 ⟨v3,rfl,hO3,O3,A3,hk3,hn3,hq3⟩;have hb3:w.heap.size ∉ O:=fun hm=>by have:=HO.out _ hm;omega
 have HB3:=aa (HB2.out.kept hk3 hb3);obtain ⟨ao,nn,cc,rfl⟩:=iV hO3;have hk03:ab O w w3:=(HK2.out.mono (by simp)).trans hk3 (fun i hi=>.inl hi);have HK03:=aa hk03;have HO3:Hid (fH (w.heap.size+1) w3 (.slice ao nn cc) (aP bI s eq).1.k):=hO3.mono (by have:=HB2.out.lt;omega);have HA3:=aa A3;have HN3:=aa hn3;have HQ3:=aa hq3;have hs2:=HK2.out.size;obtain ⟨e3,hR3,hF3⟩:=A3;have HR3:=aa hR3;clear hO3 hk3 hn3 hq3 hb3 hk03 e3 hR3 hF3;go_wp2_with fail
 refine (me w3 p F _ _ (aP bI s eq).1 ao nn cc HR3.out).mono ?_;rintro _ w4 ⟨rfl,hk4⟩;have HK4:=aa hk4;have HB4:=aa (HB3.out.kept hk4 (by simp));clear hk4;by_cases he:(aP bI s eq).2.2=0
 ·rw [if_pos he,if_pos he];have HQ:Hid (eU s=(aP bI s eq).1):=by show (if _ then _ else _)=_;rw [if_pos he]
  have HOz:=aa (aM (aP bI s eq).1 (.slice ao nn cc) (by rfl));have HT:Hid (av Tryz.prog 34 (ak (aP bI s eq).1 (.slice ao nn cc)).length):=am;have HL:Hid ((ak (aP bI s eq).1 (.slice ao nn cc)).length=aI.length):=rfl;unfold aI at HL;clear he;(go_wp2_with ((with_reducible refine ae HB4.out HL.out HOz.out HT.out ?_ ?_ ?_);rfl;rfl;intro wz HBz HKz));refine bodyPost_ret (ar (by rfl) _ (by rfl) HBz.out HT.out) rfl ?_;rw [HQ.out]
  have hbO:w.heap.size ∉ O3:=fun hm=>by
   rcases HN3.out _ hm with h | h
   ·have:=HO.out _ h;omega
   ·have:=HB2.out.lt;omega
  refine ⟨_,rfl,?_,O3,(bZ p F).kept ((bZ p F).kept HA3.out HK4.out (by simp)) HKz.out (by simpa using hbO),(HK03.out.trans HK4.out (by simp)).trans HKz.out (by simp),fun k hk=>?_,HQ3.out⟩
  ·exact ((HO3.out.kept HK4.out).off HKz.out (by simp)).mono (by omega)
  ·rcases HN3.out k hk with h | h
   ·exact .inl h
   ·exact .inr (by omega)
 ·rw [if_neg he,if_neg he];have HQ:Hid (eU s=eq):=by show (if _ then _ else _)=_;rw [if_neg he]
  have HOz:=aa (aM eq (.slice none 0 0) (by rfl));have HT:Hid (av Tryz.prog 34 (ak eq (.slice none 0 0)).length):=am;have HL:Hid ((ak eq (.slice none 0 0)).length=aI.length):=rfl;unfold aI at HL;clear he;(go_wp2_with ((with_reducible refine ae HB4.out HL.out HOz.out HT.out ?_ ?_ ?_);rfl;rfl;intro wz HBz HKz));refine bodyPost_ret (ar (by rfl) _ (by rfl) HBz.out HT.out) rfl ?_;rw [HQ.out]
  have hbO:w.heap.size ∉ O3:=fun hm=>by
   rcases HN3.out _ hm with h | h
   ·have:=HO.out _ h;omega
   ·have:=HB2.out.lt;omega
  refine ⟨_,rfl,fH.nil _ _,O3,(bZ p F).kept ((bZ p F).kept HA3.out HK4.out (by simp)) HKz.out (by simpa using hbO),(HK03.out.trans HK4.out (by simp)).trans HKz.out (by simp),fun k hk=>?_,fun k hk=>by cases hk⟩;rcases HN3.out k hk with h | h
  ·exact .inl h
  ·exact .inr (by omega)
theorem qe (a:Array Value) (w:World):Sem.run Tryz.prog (callFunc 140 a) w=.ok (.enter 140 a) w:=by kernel_rfl
theorem ly (w:World) (x:Rm) (hx:dw [] w x) :
 Calls Tryz.prog 139 #[.func (.func 140) #[] #[],dv x] w (iK w (go ([],0) x.r)):=by
 have hef:=qe;have k1:=cJ w 29 (aR x);have HB1:=aa (Bx.new w 29 (aR x));have HK1:=aa k1;have HX:=aa hx;have HT:Hid (av Tryz.prog 29 (aR x).length):=au;unfold aR at HB1 HK1 HT;clear k1 hx;unfold dv;go_enter Tryz.func139,Tryz.ntmps139;go_wp2_with fail
 refine (eS _).mono ?_;rintro _ w2 ⟨rfl,hW2,hk2⟩;have hp2:w.heap.size≤(w.alloc (.cells #[.int .i64 x.r.k,.string (ac x.r.n),.int .i64 x.r.s,.int .i64 x.r.q,.int .i64 x.r.b,.string (ac x.r.f),.slice x.mo x.m x.mc,.string (ac x.r.p),.int .i64 x.r.fr,.int .i64 x.r.mn,.int .i64 x.r.mb] 29)).heap.size:=by simp
 obtain ⟨p,hp⟩:∃ p,p=(w.alloc (.cells #[.int .i64 x.r.k,.string (ac x.r.n),.int .i64 x.r.s,.int .i64 x.r.q,.int .i64 x.r.b,.string (ac x.r.f),.slice x.mo x.m x.mc,.string (ac x.r.p),.int .i64 x.r.fr,.int .i64 x.r.mn,.int .i64 x.r.mb] 29)).heap.size:=⟨_,rfl⟩;rw [← hp] at hW2 hp2 ⊢;have HK2:=aa (HK1.out.trans hk2 (by simp));have HB2:=aa (HB1.out.kept hk2 (by simp));have HA2:Hid (dW p w2 [p] ([],0) (0+200)):=⟨none,rfl,hW2,by simp⟩;have cP:=aa (iY p w2 [p] ([],0) 0 x (HX.out.on HK2.out (fun k hk=>.inr (by simp at hk;omega))) HA2.out);clear hW2 hk2 hp;go_wp2_with ((with_reducible refine ai HB2.out HT.out ?_ ?_);rfl)
 refine cP.out.mono ?_;clear cP;rintro _ w3 ⟨rfl,hW3⟩;obtain ⟨O3,⟨g3,e3,hw3,hl3⟩,hk3,hn3⟩:=nu HK2.out (by simpa using hp2) hW3;have HW3:=aa hw3;have HK3:=aa hk3;clear hw3 hk3 hn3 hW3 e3;go_wp2_with fail
 refine (il _ p g3 _ _ HW3.out (by omega)).mono ?_;rintro _ w4 ⟨a,c,rfl,hS4,hb4,hk4⟩;have H4:Hid (iK w (go ([],0) x.r) (.returned (.tuple #[.slice a (go ([],0) x.r).1.length c,.int .i64 (go ([],0) x.r).2])) w4):=⟨a,c,rfl,hS4,fun k hk=>⟨Nat.le_trans HK3.out.size (hb4 k hk).1,(hb4 k hk).2⟩,HK3.out.trans hk4 (by simp)⟩;clear hS4 hb4 hk4;go_wp2_with fail
 go_ret2
 exact H4.out
theorem sk (w:World) (x:Rm) (hx:dw [] w x) :
 Calls Tryz.prog 136 #[dv x] w (iK w (go ([],0) x.r)):=by
 have k1:=cJ w 29 (aR x);have HB1:=aa (Bx.new w 29 (aR x));have HT:Hid (av Tryz.prog 29 (aR x).length):=au;have cE:=aa (ly _ x (hx.on k1 (fun k hk=>by cases hk)));have HK1:=aa k1;unfold aR at HB1 HK1 HT cE;clear k1 hx;unfold dv;go_enter Tryz.func136,Tryz.ntmps136;go_wp2_with ((with_reducible refine ai HB1.out HT.out ?_ ?_);rfl)
 refine cE.out.mono ?_;clear cE;rintro _ w2 ⟨a,c,rfl,hS,hb,hk⟩;have H4:Hid (iK w (go ([],0) x.r) (.returned (.tuple #[.slice a (go ([],0) x.r).1.length c,.int .i64 (go ([],0) x.r).2])) w2):=⟨a,c,rfl,hS,fun k h=>⟨Nat.le_trans HK1.out.size (hb k h).1,(hb k h).2⟩,HK1.out.trans hk (by simp)⟩;clear hS hb hk;go_wp2_with fail
 go_ret2
 exact H4.out
theorem ol (a:Array Value) (w:World):Sem.run Tryz.prog (callFunc 138 a) w=.ok (.enter 138 a) w:=by kernel_rfl
theorem lF (w:World) (x:Vt) (u:Value) (hx:bX [] w x u) :
 Calls Tryz.prog 137 #[.func (.func 138) #[] #[],bS x u] w (iK w (es ([],0) x)):=by
 obtain ⟨uo,un,uc,KK,rfl,hKD,hKK⟩:=hx.u;clear hKD hKK;have hef:=ol;have k1:=cJ w 34 (ak x (.slice uo un uc));have HB1:=aa (Bx.new w 34 (ak x (.slice uo un uc)));have HK1:=aa k1;have HX:=aa hx;have HT:Hid (av Tryz.prog 34 (ak x (.slice uo un uc)).length):=am;unfold ak at HB1 HK1 HT;clear k1 hx;unfold bS;go_enter Tryz.func137,Tryz.ntmps137;go_wp2_with fail
 refine (eS _).mono ?_;rintro _ w2 ⟨rfl,hW2,hk2⟩;have hp2:w.heap.size≤(w.alloc (.cells #[.int .i64 x.c,.int .i64 x.s,.int .i64 x.r,.string (ac x.p),.int .u64 x.d,.slice uo un uc,.int .i64 x.m] 34)).heap.size:=by simp
 obtain ⟨p,hp⟩:∃ p,p=(w.alloc (.cells #[.int .i64 x.c,.int .i64 x.s,.int .i64 x.r,.string (ac x.p),.int .u64 x.d,.slice uo un uc,.int .i64 x.m] 34)).heap.size:=⟨_,rfl⟩;rw [← hp] at hW2 hp2 ⊢;have HK2:=aa (HK1.out.trans hk2 (by simp));have HB2:=aa (HB1.out.kept hk2 (by simp));have HA2:Hid (dW p w2 [p] ([],0) (0+7000)):=⟨none,rfl,hW2,by simp⟩;have cP:=aa (k7 p w2 [p] ([],0) 0 x (.slice uo un uc) (HX.out.on HK2.out (fun k hk=>.inr (by simp at hk;omega))) HA2.out);clear hW2 hk2 hp;go_wp2_with ((with_reducible refine ai HB2.out HT.out ?_ ?_);rfl)
 refine cP.out.mono ?_;clear cP;rintro _ w3 ⟨rfl,hW3⟩;obtain ⟨O3,⟨g3,e3,hw3,hl3⟩,hk3,hn3⟩:=nu HK2.out (by simpa using hp2) hW3;have HW3:=aa hw3;have HK3:=aa hk3;clear hw3 hk3 hn3 hW3 e3;go_wp2_with fail
 refine (il _ p g3 _ _ HW3.out (by omega)).mono ?_;rintro _ w4 ⟨a,c,rfl,hS4,hb4,hk4⟩;have H4:Hid (iK w (es ([],0) x) (.returned (.tuple #[.slice a (es ([],0) x).1.length c,.int .i64 (es ([],0) x).2])) w4):=⟨a,c,rfl,hS4,fun k hk=>⟨Nat.le_trans HK3.out.size (hb4 k hk).1,(hb4 k hk).2⟩,HK3.out.trans hk4 (by simp)⟩;clear hS4 hb4 hk4;go_wp2_with fail
 go_ret2
 exact H4.out
theorem pu (w:World) (x:Vt) (u:Value) (hx:bX [] w x u) :
 Calls Tryz.prog 133 #[bS x u] w (iK w (es ([],0) x)):=by
 obtain ⟨uo,un,uc,KK,rfl,hKD,hKK⟩:=hx.u;clear hKD hKK;have k1:=cJ w 34 (ak x (.slice uo un uc));have HB1:=aa (Bx.new w 34 (ak x (.slice uo un uc)));have HT:Hid (av Tryz.prog 34 (ak x (.slice uo un uc)).length):=am;have cE:=aa (lF _ x (.slice uo un uc) (hx.on k1 (fun k hk=>by cases hk)));have HK1:=aa k1;unfold ak at HB1 HK1 HT cE;clear k1 hx;unfold bS;go_enter Tryz.func133,Tryz.ntmps133;go_wp2_with ((with_reducible refine ai HB1.out HT.out ?_ ?_);rfl)
 refine cE.out.mono ?_;clear cE;rintro _ w2 ⟨a,c,rfl,hS,hb,hk⟩;have H4:Hid (iK w (es ([],0) x) (.returned (.tuple #[.slice a (es ([],0) x).1.length c,.int .i64 (es ([],0) x).2])) w2):=⟨a,c,rfl,hS,fun k h=>⟨Nat.le_trans HK1.out.size (hb k h).1,(hb k h).2⟩,HK1.out.trans hk (by simp)⟩;clear hS hb hk;go_wp2_with fail
 go_ret2
 exact H4.out
end Go.Proofs.YtakafmejllilnaaGreat
