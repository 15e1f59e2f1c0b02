/-
  Texts of this claim that are laid as one: EnPut, EnTake, EnCode.
-/
import Derived.Test.YtakafmejllilnaaGreatEnReq
import Derived.Test.YtakafmejllilnaaGreatEnVer
import Derived.Test.YtakafmejllilnaaGreatEnSmA
import Derived.Test.YtakafmejllilnaaGreatF10
import Derived.Test.YtakafmejllilnaaGreatF11
import Derived.Test.YtakafmejllilnaaGreatF2
/-
 Put,Told: written;Take,Heard: read. (Written by mk/mkput.py.)
-/
namespace Go.Proofs.YtakafmejllilnaaGreat
open Go.RowKit
theorem rowT_pen:RowT Tryz.prog 171 1:=⟨_,Tryz.underlying171,rfl,by kernel_rfl⟩
theorem rowT_eye:RowT Tryz.prog 187 1:=⟨_,Tryz.underlying187,rfl,by kernel_rfl⟩
theorem size_rqP:(Tryz.prog.info? 29).map (·.size)=some 11:=by kernel_rfl
theorem size_vtP:(Tryz.prog.info? 34).map (·.size)=some 7:=by kernel_rfl
theorem one_hand (H:Hnd):∀ v∈H.c,v.oneCell'=true:=by
 intro v hv
 simp [Hnd.c] at hv
 rcases hv with rfl | rfl | rfl | rfl | rfl <;> rfl
def zhand:List Value:=[.nilFunc,.nilFunc,.nilFunc,.nilFunc,.nilFunc]
set_option maxHeartbeats 2000000 in
theorem writing_call (w:World) (p:Nat):Calls Tryz.prog 141 #[.pointer (some ⟨p,0,none⟩)] w fun r w'=>r=.returned (penH p).a∧Kept [] w w':=by
 have hmf:∀ (fn:Go.Fn) (first cap:Array Value) (w:World),(Instr.makeFunc fn first cap).run Tryz.prog w=.ok (.func fn first cap) w:=fun _ _ _ _=>rfl
 have k1:Kept [] w (w.alloc (.cells #[.nilFunc,.nilFunc,.nilFunc,.nilFunc,.nilFunc] 168)):=(Kept.refl _ _).alloc _
 have k2:Kept [] (w.alloc (.cells #[.nilFunc,.nilFunc,.nilFunc,.nilFunc,.nilFunc] 168)) ((w.alloc (.cells #[.nilFunc,.nilFunc,.nilFunc,.nilFunc,.nilFunc] 168)).alloc (.cells #[.pointer (some ⟨p,0,none⟩)] 171)):=(Kept.refl _ _).alloc _
 have HZ:Hid (Bx ((w.alloc (.cells #[.nilFunc,.nilFunc,.nilFunc,.nilFunc,.nilFunc] 168)).alloc (.cells #[.pointer (some ⟨p,0,none⟩)] 171)) w.heap.size 168 zhand):=(Bx.new w _ zhand).kept k2 (by simp)
 have HL:Hid ((penH p).c.length=zhand.length):=rfl
 have HO:=hide (one_hand (penH p))
 have HT:Hid (RowT Tryz.prog 168 (penH p).c.length):=rowT_hand
 have HK:=hide (k1.trans k2 (by simp))
 clear k1 k2
 go_enter Tryz.func141,Tryz.ntmps141
 go_wp2_with ((with_reducible refine wl_store_bx HZ.out HL.out HO.out HT.out ?_ ?_ ?_);rfl;rfl;intro wz HBz HKz)
 refine bodyPost_ret (bx_result (by rfl) _ (by rfl) HBz.out HT.out) rfl ?_
 exact ⟨rfl,HK.out.trans HKz.out (by simp)⟩
set_option maxHeartbeats 2000000 in
theorem reading_call (w:World) (p:Nat):Calls Tryz.prog 184 #[.pointer (some ⟨p,0,none⟩)] w fun r w'=>r=.returned (eyeH p).a∧Kept [] w w':=by
 have hmf:∀ (fn:Go.Fn) (first cap:Array Value) (w:World),(Instr.makeFunc fn first cap).run Tryz.prog w=.ok (.func fn first cap) w:=fun _ _ _ _=>rfl
 have k1:Kept [] w (w.alloc (.cells #[.nilFunc,.nilFunc,.nilFunc,.nilFunc,.nilFunc] 168)):=(Kept.refl _ _).alloc _
 have k2:Kept [] (w.alloc (.cells #[.nilFunc,.nilFunc,.nilFunc,.nilFunc,.nilFunc] 168)) ((w.alloc (.cells #[.nilFunc,.nilFunc,.nilFunc,.nilFunc,.nilFunc] 168)).alloc (.cells #[.pointer (some ⟨p,0,none⟩)] 187)):=(Kept.refl _ _).alloc _
 have HZ:Hid (Bx ((w.alloc (.cells #[.nilFunc,.nilFunc,.nilFunc,.nilFunc,.nilFunc] 168)).alloc (.cells #[.pointer (some ⟨p,0,none⟩)] 187)) w.heap.size 168 zhand):=(Bx.new w _ zhand).kept k2 (by simp)
 have HL:Hid ((eyeH p).c.length=zhand.length):=rfl
 have HO:=hide (one_hand (eyeH p))
 have HT:Hid (RowT Tryz.prog 168 (eyeH p).c.length):=rowT_hand
 have HK:=hide (k1.trans k2 (by simp))
 clear k1 k2
 go_enter Tryz.func184,Tryz.ntmps184
 go_wp2_with ((with_reducible refine wl_store_bx HZ.out HL.out HO.out HT.out ?_ ?_ ?_);rfl;rfl;intro wz HBz HKz)
 refine bodyPost_ret (bx_result (by rfl) _ (by rfl) HBz.out HT.out) rfl ?_
 exact ⟨rfl,HK.out.trans HKz.out (by simp)⟩
theorem RqHy.on {O O':List Nat}{w w':World}{x:Rm}(h:RqHy O w x) (hk:Kept O w w') (hn:∀ k∈O',k∈O∨w.heap.size≤k):RqHy O' w' x:=by
 refine ⟨h.s.kept0 hk h.d,h.no,fun h0 k hk' hm=>?_,h.n,h.f,h.p,h.c⟩
 rcases hn k hm with h1 | h1
 ·exact h.d h0 k hk' h1
 ·obtain ⟨b,o,e,hc⟩:=h.s.some h0
  rw [e] at hk'
  simp [blk] at hk'
  subst hk'
  have h0':=(hc 0 (by rw [h.s.1];exact h0)).c0
  unfold World.cell? at h0'
  rw [show w.heap[(⟨k,o+0*3,none⟩:Addr).block]?=none from Array.getElem?_eq_none (by show w.heap.size≤k;omega)] at h0'
  simp at h0'
theorem VtHy.on {O O':List Nat}{w w':World}{x:Vt}{u:Value}(h:VtHy O w x u) (hk:Kept O w w') (hn:∀ k∈O',k∈O∨w.heap.size≤k):VtHy O' w' x u:=by
 obtain ⟨⟨uo,un,uc,KK,e,hu,hK⟩,hp,hk'⟩:=h
 exact ⟨⟨uo,un,uc,KK,e,hu.on hk hn,hK⟩,hp,hk'⟩
theorem KsD.sl {O:List Nat}{w:World}{ao:Option Addr}{n c:Nat}{K:List (Com × Value)}(h:KsD O w ao n c K):SlK w ao n c K:=by
 obtain ⟨h1,h2,h3,_,h5,_,h7⟩:=h
 refine ⟨h1,h2,h3,h5,fun x hx=>?_⟩
 obtain ⟨mo,n',c',e,hS,h0,_⟩:=h7 x hx
 exact ⟨mo,n',c',e,hS,h0⟩
def putS (s:List Int × Int) (r:Rq):List Int × Int:=if (reqP penP s r).1=r then (reqP penP s r).2 else wrRefuse (reqP penP s r).2.2
def toldS (s:List Int × Int) (v:Vt):List Int × Int:=if (verP penP s v).1=v then (verP penP s v).2 else wrRefuse (verP penP s v).2.2
def PutC {σ:Type}(At:World→List Nat→σ→Nat→Prop) (w:World) (O:List Nat) (s:σ) (m:Nat) (d:Bool) (v:Value) (wx:World):Prop:=∃ b:Bool,v=.bool (!b)∧b=d∧Hid (Went At w O s m wx)
theorem ref_went {w w1 w2:World}{p:Nat}{O O1:List Nat}{s:List Int × Int}{m m':Nat}{r:Ending}(k1:Kept O w w1) (n1:∀ k∈O1,k∈O∨w.heap.size≤k) {g:Option Nat}(e:O1=p :: g.toList) (hl:s.1.length+300*m'≤1000000000) (hm:m≤m') (h:Wrote w1 p g (wrRefuse s.2) r w2):Went (AtP p) w O (wrRefuse s.2) m w2:=by
 subst e
 exact Went.trans k1 n1 (pen_went (Kept.refl [] w1) h (by rw [(wrRefuse_ne s.2).1];simp;omega))
set_option linter.unusedSimpArgs false in
set_option maxHeartbeats 8000000 in
set_option maxRecDepth 100000 in
theorem putE_call (p:Nat) (w:World) (O:List Nat) (s:List Int × Int) (m:Nat) (x:Rm) (hx:RqHy O w x) (hA:AtP p w O s (m+200)) :
 Calls Tryz.prog 140 #[.pointer (some ⟨p,0,none⟩),rqV x] w fun r w'=>r=.returned (.tuple #[])∧Went (AtP p) w O (putS s x.r) m w':=by
 have hO:=(pen_hand p).lt hA
 have k1:Kept [] w (w.alloc (.cells (rqC x).toArray 29)):=(Kept.refl _ _).alloc _
 have HX:=hide hx
 have HB1:=hide (Bx.new w 29 (rqC x))
 have HA1:=hide ((pen_hand p).kept hA k1 (by simp))
 have HO:=hide hO
 have HK1:=hide k1
 clear hA hO k1 hx
 obtain ⟨W1,hW1⟩:∃ W1,W1=w.alloc (.cells (rqC x).toArray 29):=⟨_,rfl⟩
 have HB1':Hid (Bx W1 w.heap.size 29 (rqC x)):=by rw [hW1];exact HB1
 have HA1':Hid (AtP p W1 O s (m+200)):=by rw [hW1];exact HA1
 have HK1':Hid (Kept [] w W1):=by rw [hW1];exact HK1
 clear HB1 HA1 HK1
 unfold rqV
 go_enter Tryz.func140,Tryz.ntmps140
 go_upto_region 1 with fail
 rw [show w.alloc (.cells #[.int .i64 x.r.k,.string (str x.r.n),.int .i64 x.r.s,.int .i64 x.r.q,.int .i64 x.r.b,.string (str x.r.f),.slice x.mo x.m x.mc,.string (str x.r.p),.int .i64 x.r.fr,.int .i64 x.r.mn,.int .i64 x.r.mb] 29)=W1 from hW1.symm]
 clear hW1
 go_cut [10] from 4 to 10 (fun s10 wx=>PutC (AtP p) w O (reqP penP s x.r).2 m (decide ((reqP penP s x.r).1=x.r)) s10 wx)
 case first =>
  refine wp_region_held_drew (S:=fun w9=>Bx w9 w.heap.size 29 (rqC x)) (by kernel_rfl) (HB1'.out.kept (Kept.refl [] _).drew (by simp)) (fun hHeld=>?_)
  refine tks [0] (by rfl) (by kernel_rfl) (fun _ _ _ _ _ h=>h) hHeld ?_
  iterate 1
   refine yk ?_ rfl (Or.inl ⟨by rfl,?_⟩) ?_
   rotate_left
   ·intro w9 hSw;go_simp;(try with_reducible rfl)
   try simp only [sT,Act.put]
  refine yk0 ?_
  simp only [setK,sT]
  refine wpAnyH_take (i:=2) (v:=rqV x) rfl (by kernel_rfl) (by kernel_rfl) (by kernel_rfl) (fun _ _ _ h=>h) (yieldsIf_load_mid (by rfl) _ _ rfl w.heap.size 0 rfl (rqC x) _ (fun w9 hSw=>hSw.range) Tryz.underlying29 rfl size_rqP) hHeld ?_
  try simp only [sT,Act.put]
  refine wpAnyH_take (i:=4) (v:=rqV x) rfl (by kernel_rfl) (by kernel_rfl) (by kernel_rfl) (fun _ _ _ h=>h) (yieldsIf_load_mid (by rfl) _ _ rfl w.heap.size 0 rfl (rqC x) _ (fun w9 hSw=>hSw.range) Tryz.underlying29 rfl size_rqP) hHeld ?_
  try simp only [sT,Act.put]
  refine rd1 1 (by kernel_rfl) rfl (fun K0 hK0=>?_)
  go_simp
  refine (writing_call _ p).mono ?_
  rintro _ w2 ⟨rfl,hk2⟩
  have hk2':=(HK1'.out.trans (Kept.refl [] _).drew (by simp)).trans hk2 (by simp)
  have HB2:=hide ((HB1'.out.kept (Kept.refl [] _).drew (by simp)).kept hk2 (by simp))
  have HA2:=hide ((pen_hand p).kept ((pen_hand p).kept HA1'.out (Kept.refl [] _).drew (by simp)) hk2 (by simp))
  have HK2:=hide hk2'
  clear hk2 hk2'
  go_wp2_with fail
  refine hK0.out _ _ HB2.out (fun hHeld=>?_)
  clear hK0 K0
  try simp only [sT,Act.put]
  refine rd1 3 (by kernel_rfl) rfl (fun K0 hK0=>?_)
  go_simp
  have cR:=request_call (pen_hand p) _ _ _ m x (HX.out.on (HK2.out.mono (by simp)) (fun k hk=>.inl hk)) HA2.out
  unfold rqV at cR
  refine cR.mono ?_
  clear cR
  rintro _ w3 ⟨v3,rfl,hO3,O3,A3,hk3,hn3,hq3⟩
  have hb3:w.heap.size ∉ O:=fun hm=>by have:=HO.out _ hm;omega
  have HB3:=hide (HB2.out.kept hk3 hb3)
  obtain ⟨ao,nn,cc,rfl⟩:=own_bare hO3
  have HO3:=hide hO3
  have HW3:Hid (Went (AtP p) w O (reqP penP s x.r).2 m w3):=Went.trans (HK2.out.mono (by simp)) (fun k hk=>.inl hk) ⟨O3,A3,hk3,hn3⟩
  have HK3:=hide hk3
  clear hO3 A3 hk3 hn3 hq3 hb3
  go_wp2_with fail
  refine hK0.out _ _ HB3.out (fun hHeld=>?_)
  clear hK0 K0
  try simp only [sT,Act.put]
  refine rd1 5 (by kernel_rfl) rfl (fun K0 hK0=>?_)
  go_simp
  have cS:=rqsame_call w3 (reqP penP s x.r).1 x.r ao x.mo nn x.m cc x.mc HO3.out.slice (HX.out.s.kept0 ((HK2.out.mono (by simp)).trans HK3.out (fun i hi=>.inl hi)) HX.out.d)
  refine cS.mono ?_
  clear cS
  rintro _ w4 ⟨rfl,hk4⟩
  have HB4:=hide (HB3.out.kept hk4 (by simp))
  have HW4:Hid (Went (AtP p) w O (reqP penP s x.r).2 m w4):=by
   obtain ⟨O',h1,h2,h3⟩:=HW3.out
   exact ⟨O',(pen_hand p).kept h1 hk4 (by simp),h2.trans hk4 (by simp),h3⟩
  clear hk4
  go_wp2_with fail
  refine hK0.out _ _ HB4.out (fun hHeld=>?_)
  clear hK0 K0
  try simp only [sT,Act.put]
  refine tks [6] (by rfl) (by kernel_rfl) (fun _ _ _ _ _ h=>h) hHeld ?_
  iterate 1
   refine yk ?_ rfl (Or.inl ⟨by rfl,?_⟩) ?_
   rotate_left
   ·intro w9 hSw;go_simp;(try with_reducible rfl)
   try simp only [sT,Act.put]
  refine yk0 ?_
  simp only [setK,sT]
  try simp only [sT,Act.put]
  refine wpAnyH_done (by kernel_rfl) ?_ _
  clear hHeld
  go_wp2_with fail
  go_meet
  exact ⟨_,rfl,rfl,HW4⟩
 case rest =>
  obtain ⟨b,rfl,hb,HW⟩:=hcut
  cases b
  ·have hne:¬ (reqP penP s x.r).1=x.r:=by intro h;rw [decide_eq_true h] at hb;cases hb
   have HQ:Hid (putS s x.r=wrRefuse (reqP penP s x.r).2.2):=by show (if _ then _ else _)=_;rw [if_neg hne]
   obtain ⟨O5,⟨g5,e5,hw5,hl5⟩,hk5,hn5⟩:=HW.out
   have HW5:=hide hw5
   clear hne hw5 hb
   go_wp2_with fail
   refine (wrefuse_call _ p g5 _ _ HW5.out).mono ?_
   rintro _ w6 hW6
   have hr:=hW6.1
   subst hr
   have H6:=hide (ref_went hk5 hn5 e5 hl5 (Nat.le_refl m) hW6)
   clear hW6
   go_wp2_with fail
   go_end0
   rw [HQ.out]
   exact ⟨rfl,H6.out⟩
  ·have heq:(reqP penP s x.r).1=x.r:=of_decide_eq_true hb.symm
   have HQ:Hid (putS s x.r=(reqP penP s x.r).2):=by show (if _ then _ else _)=_;rw [if_pos heq]
   clear heq hb
   go_wp2_with fail
   go_end0
   rw [HQ.out]
   exact ⟨rfl,HW.out⟩
theorem alikeP_call (w:World) (x y:Vt) (u1 u2:Value) (h1:KoV w u1 x.k) (h2:KoV w u2 y.k) :
 Calls Tryz.prog 72 #[vtV x u1,vtV y u2] w fun e w'=>e=.returned (.bool (decide (x=y)))∧Kept [] w w':=by
 obtain ⟨ao,n,c,K,rfl,hL,e1,_⟩:=h1
 obtain ⟨bo,m,d,M,rfl,hM,e2,_⟩:=h2
 obtain ⟨xc,xs,xr,xp,xd,xk,xm⟩:=x
 obtain ⟨yc,ys,yr,yp,yd,yk,ym⟩:=y
 simp only at e1 e2
 subst e1
 subst e2
 unfold vtV
 simp only
 by_cases hc:xc=yc
 rotate_left
 ·rw [decide_eq_false (by intro h;injection h;contradiction)]
  exact vtsame_c w xc yc xs ys xr yr xp yp xd yd xm ym ao bo n m c d hc
 subst hc
 by_cases hs:xs=ys
 rotate_left
 ·rw [decide_eq_false (by intro h;injection h;contradiction)]
  exact vtsame_s w xc xs ys xr yr xp yp xd yd xm ym ao bo n m c d hs
 subst hs
 by_cases hr:xr=yr
 rotate_left
 ·rw [decide_eq_false (by intro h;injection h;contradiction)]
  exact vtsame_r w xc xs xr yr xp yp xd yd xm ym ao bo n m c d hr
 subst hr
 by_cases hp:xp=yp
 rotate_left
 ·rw [decide_eq_false (by intro h;injection h;contradiction)]
  exact vtsame_p w xc xs xr xp yp xd yd xm ym ao bo n m c d hp
 subst hp
 by_cases hd:xd=yd
 rotate_left
 ·rw [decide_eq_false (by intro h;injection h;contradiction)]
  exact vtsame_d w xc xs xr xp xd yd xm ym ao bo n m c d hd
 subst hd
 by_cases hm:xm=ym
 rotate_left
 ·rw [decide_eq_false (by intro h;injection h;contradiction)]
  exact vtsame_m w xc xs xr xp xd xm ym ao bo n m c d hm
 subst hm
 by_cases hk:K.map Prod.fst=M.map Prod.fst
 rotate_left
 ·rw [decide_eq_false (by intro h;injection h;contradiction)]
  exact vtsame_k w xc xs xr xp xd xm ao bo n m c d K M hL hM hk
 rw [decide_eq_true (by rw [hk])]
 exact vtsame_all w xc xs xr xp xd xm ao bo n m c d K M hL hM hk
set_option linter.unusedSimpArgs false in
set_option maxHeartbeats 8000000 in
set_option maxRecDepth 100000 in
theorem told_call (p:Nat) (w:World) (O:List Nat) (s:List Int × Int) (m:Nat) (x:Vt) (u:Value) (hx:VtHy O w x u) (hA:AtP p w O s (m+7000)) :
 Calls Tryz.prog 138 #[.pointer (some ⟨p,0,none⟩),vtV x u] w fun r w'=>r=.returned (.tuple #[])∧Went (AtP p) w O (toldS s x) m w':=by
 obtain ⟨uo,un,uc,KK,rfl,hKD,hKK⟩:=hx.u
 have hO:=(pen_hand p).lt hA
 have k1:Kept [] w (w.alloc (.cells (vtLE x (.slice uo un uc)).toArray 34)):=(Kept.refl _ _).alloc _
 have HX:=hide hx
 have HB1:=hide (Bx.new w 34 (vtLE x (.slice uo un uc)))
 have HA1:=hide ((pen_hand p).kept hA k1 (by simp))
 have HO:=hide hO
 have HK1:=hide k1
 clear hA hO k1 hx
 obtain ⟨W1,hW1⟩:∃ W1,W1=w.alloc (.cells (vtLE x (.slice uo un uc)).toArray 34):=⟨_,rfl⟩
 have HB1':Hid (Bx W1 w.heap.size 34 (vtLE x (.slice uo un uc))):=by rw [hW1];exact HB1
 have HA1':Hid (AtP p W1 O s (m+7000)):=by rw [hW1];exact HA1
 have HK1':Hid (Kept [] w W1):=by rw [hW1];exact HK1
 clear HB1 HA1 HK1
 unfold vtV
 go_enter Tryz.func138,Tryz.ntmps138
 go_upto_region 1 with fail
 rw [show w.alloc (.cells #[.int .i64 x.c,.int .i64 x.s,.int .i64 x.r,.string (str x.p),.int .u64 x.d,.slice uo un uc,.int .i64 x.m] 34)=W1 from hW1.symm]
 clear hW1
 go_cut [10] from 4 to 10 (fun s10 wx=>PutC (AtP p) w O (verP penP s x).2 m (decide ((verP penP s x).1=x)) s10 wx)
 case first =>
  refine wp_region_held_drew (S:=fun w9=>Bx w9 w.heap.size 34 (vtLE x (.slice uo un uc))) (by kernel_rfl) (HB1'.out.kept (Kept.refl [] _).drew (by simp)) (fun hHeld=>?_)
  refine tks [0] (by rfl) (by kernel_rfl) (fun _ _ _ _ _ h=>h) hHeld ?_
  iterate 1
   refine yk ?_ rfl (Or.inl ⟨by rfl,?_⟩) ?_
   rotate_left
   ·intro w9 hSw;go_simp;(try with_reducible rfl)
   try simp only [sT,Act.put]
  refine yk0 ?_
  simp only [setK,sT]
  refine wpAnyH_take (i:=2) (v:=vtV x (.slice uo un uc)) rfl (by kernel_rfl) (by kernel_rfl) (by kernel_rfl) (fun _ _ _ h=>h) (yieldsIf_load_mid (by rfl) _ _ rfl w.heap.size 0 rfl (vtLE x (.slice uo un uc)) _ (fun w9 hSw=>hSw.range) Tryz.underlying34 rfl size_vtP) hHeld ?_
  try simp only [sT,Act.put]
  refine wpAnyH_take (i:=4) (v:=vtV x (.slice uo un uc)) rfl (by kernel_rfl) (by kernel_rfl) (by kernel_rfl) (fun _ _ _ h=>h) (yieldsIf_load_mid (by rfl) _ _ rfl w.heap.size 0 rfl (vtLE x (.slice uo un uc)) _ (fun w9 hSw=>hSw.range) Tryz.underlying34 rfl size_vtP) hHeld ?_
  try simp only [sT,Act.put]
  refine rd1 1 (by kernel_rfl) rfl (fun K0 hK0=>?_)
  go_simp
  refine (writing_call _ p).mono ?_
  rintro _ w2 ⟨rfl,hk2⟩
  have hk2':=(HK1'.out.trans (Kept.refl [] _).drew (by simp)).trans hk2 (by simp)
  have HB2:=hide ((HB1'.out.kept (Kept.refl [] _).drew (by simp)).kept hk2 (by simp))
  have HA2:=hide ((pen_hand p).kept ((pen_hand p).kept HA1'.out (Kept.refl [] _).drew (by simp)) hk2 (by simp))
  have HK2:=hide hk2'
  clear hk2 hk2'
  go_wp2_with fail
  refine hK0.out _ _ HB2.out (fun hHeld=>?_)
  clear hK0 K0
  try simp only [sT,Act.put]
  refine rd1 3 (by kernel_rfl) rfl (fun K0 hK0=>?_)
  go_simp
  have cR:=verdict_call (pen_hand p) _ _ _ m x _ (HX.out.on (HK2.out.mono (by simp)) (fun k hk=>.inl hk)) HA2.out
  unfold vtV at cR
  refine cR.mono ?_
  clear cR
  rintro _ w3 ⟨v3,rfl,hO3,O3,A3,hk3,hn3,hq3⟩
  have hb3:w.heap.size ∉ O:=fun hm=>by have:=HO.out _ hm;omega
  have HB3:=hide (HB2.out.kept hk3 hb3)
  obtain ⟨ao,nn,cc,rfl⟩:=koO_bare hO3
  have HO3:=hide hO3
  have HW3:Hid (Went (AtP p) w O (verP penP s x).2 m w3):=Went.trans (HK2.out.mono (by simp)) (fun k hk=>.inl hk) ⟨O3,A3,hk3,hn3⟩
  have HK3:=hide hk3
  clear hO3 A3 hk3 hn3 hq3 hb3
  go_wp2_with fail
  refine hK0.out _ _ HB3.out (fun hHeld=>?_)
  clear hK0 K0
  try simp only [sT,Act.put]
  refine rd1 5 (by kernel_rfl) rfl (fun K0 hK0=>?_)
  go_simp
  have cS:=alikeP_call w3 (verP penP s x).1 x _ _ (HO3.out.ko) ⟨_,_,_,_,rfl,(hKD.on ((HK2.out.mono (by simp)).trans HK3.out (fun i hi=>.inl hi)) (O':=O) (fun k hk=>.inl hk)).sl,hKK,hKD.2.2.2.1⟩
  refine cS.mono ?_
  clear cS
  rintro _ w4 ⟨rfl,hk4⟩
  have HB4:=hide (HB3.out.kept hk4 (by simp))
  have HW4:Hid (Went (AtP p) w O (verP penP s x).2 m w4):=by
   obtain ⟨O',h1,h2,h3⟩:=HW3.out
   exact ⟨O',(pen_hand p).kept h1 hk4 (by simp),h2.trans hk4 (by simp),h3⟩
  clear hk4
  go_wp2_with fail
  refine hK0.out _ _ HB4.out (fun hHeld=>?_)
  clear hK0 K0
  try simp only [sT,Act.put]
  refine tks [6] (by rfl) (by kernel_rfl) (fun _ _ _ _ _ h=>h) hHeld ?_
  iterate 1
   refine yk ?_ rfl (Or.inl ⟨by rfl,?_⟩) ?_
   rotate_left
   ·intro w9 hSw;go_simp;(try with_reducible rfl)
   try simp only [sT,Act.put]
  refine yk0 ?_
  simp only [setK,sT]
  try simp only [sT,Act.put]
  refine wpAnyH_done (by kernel_rfl) ?_ _
  clear hHeld
  go_wp2_with fail
  go_meet
  exact ⟨_,rfl,rfl,HW4⟩
 case rest =>
  obtain ⟨b,rfl,hb,HW⟩:=hcut
  cases b
  ·have hne:¬ (verP penP s x).1=x:=by intro h;rw [decide_eq_true h] at hb;cases hb
   have HQ:Hid (toldS s x=wrRefuse (verP penP s x).2.2):=by show (if _ then _ else _)=_;rw [if_neg hne]
   obtain ⟨O5,⟨g5,e5,hw5,hl5⟩,hk5,hn5⟩:=HW.out
   have HW5:=hide hw5
   clear hne hw5 hb
   go_wp2_with fail
   refine (wrefuse_call _ p g5 _ _ HW5.out).mono ?_
   rintro _ w6 hW6
   have hr:=hW6.1
   subst hr
   have H6:=hide (ref_went hk5 hn5 e5 hl5 (Nat.le_refl m) hW6)
   clear hW6
   go_wp2_with fail
   go_end0
   rw [HQ.out]
   exact ⟨rfl,H6.out⟩
  ·have heq:(verP penP s x).1=x:=of_decide_eq_true hb.symm
   have HQ:Hid (toldS s x=(verP penP s x).2):=by show (if _ then _ else _)=_;rw [if_pos heq]
   clear heq hb
   go_wp2_with fail
   go_end0
   rw [HQ.out]
   exact ⟨rfl,HW.out⟩
def zrm:Rm:=⟨rq0,none,0,0⟩
def vt0:Vt:=⟨0,0,0,[],0,[],0⟩
def takeR (s:List Int × Int):Rq:=if (reqP eyeP s rq0).2.2=0 then (reqP eyeP s rq0).1 else rq0
def heardV (s:List Int × Int):Vt:=if (verP eyeP s vt0).2.2=0 then (verP eyeP s vt0).1 else vt0
theorem bx_result2 {P:Program}{w:World}{g:Nat}{T:TypeId}{cs:List Value}{fn:Func}{p u:Tmp}(hr:fn.results=#[.cell p T,.tmp u]) (tmps:Array Value) (hp:tmps.getD p undef=.pointer (some ⟨g,0,none⟩)) (hg:Bx w g T cs)
 (hT:RowT P T cs.length):(results fn tmps).run P w=.ok (.tuple #[.agg cs.toArray,tmps.getD u undef]) w:=by
 obtain ⟨D,hu,hd,hi⟩:=hT
 rw [results_cell_tmp hr,hp]
 have h:=run_loadVar_mid (P:=P) w g 0 T cs D hg.range hu hd hi
 simp [asAddr,h]
theorem rqHy_zero (O:List Nat) (w:World):RqHy O w zrm :=
 ⟨⟨rfl,Nat.le_refl _,Nat.zero_le _,fun i hi=>by simp [zrm,rq0] at hi⟩,fun _=>rfl,fun h=>by simp [zrm] at h,by simp [zrm,rq0],by simp [zrm,rq0],by simp [zrm,rq0],by simp [zrm,rq0]⟩
theorem vtHy_zero (O:List Nat) (w:World):VtHy O w vt0 (.slice none 0 0) :=
 ⟨⟨none,0,0,[],rfl,⟨rfl,Nat.le_refl _,Nat.zero_le _,fun _=>rfl,fun i hi=>by simp at hi,fun h=>by simp at h,fun x hx=>by cases hx⟩,rfl⟩,by simp [vt0],by simp [vt0]⟩
set_option maxHeartbeats 2000000 in
theorem unlessR_call (w:World) (p:Nat) (F:List Nat) (l:List Int) (e:Int) (x:Rq) (ao:Option Addr) (n c:Nat) (hR:Rd w p F l e) :
 Calls Tryz.prog 183 #[.pointer (some ⟨p,0,none⟩),.agg (rqLE x (.slice ao n c)).toArray] w fun r w'=>r=.returned (.agg (rqLE (if e=0 then x else rq0) (if e=0 then .slice ao n c else .slice none 0 0)).toArray)∧Kept [] w w':=by
 have k1:Kept [] w (w.alloc (.cells (rqLE x (.slice ao n c)).toArray 29)):=(Kept.refl _ _).alloc _
 have k2:Kept [] (w.alloc (.cells (rqLE x (.slice ao n c)).toArray 29)) ((w.alloc (.cells (rqLE x (.slice ao n c)).toArray 29)).alloc (.cells zrq.toArray 29)):=(Kept.refl _ _).alloc _
 obtain ⟨W,hW⟩:∃ W,W=(w.alloc (.cells (rqLE x (.slice ao n c)).toArray 29)).alloc (.cells zrq.toArray 29):=⟨_,rfl⟩
 have HB1:Hid (Bx W w.heap.size 29 (rqLE x (.slice ao n c))):=by rw [hW];exact (Bx.new w _ _).kept k2 (by simp)
 have HB2:Hid (Bx W (w.heap.size+1) 29 zrq):=by
  rw [hW]
  have h:=Bx.new (w.alloc (.cells (rqLE x (.slice ao n c)).toArray 29)) 29 zrq
  have hs:(w.alloc (.cells (rqLE x (.slice ao n c)).toArray 29)).heap.size=w.heap.size+1:=by simp
  rw [hs] at h
  exact h
 have hk:=k1.trans k2 (by simp)
 rw [← hW] at hk
 have HK:=hide hk
 have HR:=hide (Rd.kept hk hR (by simp) (by simp))
 have HO:=hide (one_rqLE x (.slice ao n c) (by rfl))
 have HO0:=hide (one_rqLE rq0 (.slice none 0 0) (by rfl))
 have HT:Hid (RowT Tryz.prog 29 (rqLE x (.slice ao n c)).length):=rowT_req
 have HT0:Hid (RowT Tryz.prog 29 (rqLE rq0 (.slice none 0 0)).length):=rowT_req
 have HL:Hid ((rqLE x (.slice ao n c)).length=zrq.length):=rfl
 have HL0:Hid ((rqLE rq0 (.slice none 0 0)).length=zrq.length):=rfl
 unfold zrq at hW
 have HW:=hide hW
 clear k1 k2 hk hR hW
 by_cases he:e=0
 ·subst he
  rw [if_pos rfl,if_pos rfl]
  go_enter Tryz.func183,Tryz.ntmps183
  go_upto_region 1 with fail
  rw [← HW.out]
  go_wp2_with (first | (go_at_call 95;refine (fail_call _ p F l 0 HR.out).mono ?_;rintro _ _ ⟨rfl,rfl⟩) | ((with_reducible refine wl_load_bx HB1.out HT.out ?_ ?_);rfl) | ((with_reducible refine wl_store_bx HB2.out HL.out HO.out HT.out ?_ ?_ ?_);rfl;rfl;intro wz HBz HKz))
  refine bodyPost_ret (bx_result (by rfl) _ (by rfl) HBz.out HT.out) rfl ?_
  exact ⟨rfl,HK.out.trans HKz.out (by simp)⟩
 ·rw [if_neg he,if_neg he]
  have heb:(e != 0)=true:=by simp [he]
  have HBn:Hid (Bx (W.alloc (.cells zrq.toArray 29)) W.heap.size 29 (rqLE rq0 (.slice none 0 0))):=Bx.new W _ _
  have HB2':Hid (Bx (W.alloc (.cells zrq.toArray 29)) (w.heap.size+1) 29 zrq):=HB2.out.kept ((Kept.refl [] W).alloc _) (by simp)
  have HKn:=hide (HK.out.alloc (.cells zrq.toArray 29))
  clear he
  unfold zrq at HBn HB2' HKn
  go_enter Tryz.func183,Tryz.ntmps183
  go_upto_region 1 with fail
  rw [← HW.out]
  go_wp2_with (first | (go_at_call 95;refine (fail_call _ p F l e HR.out).mono ?_;rintro _ _ ⟨rfl,rfl⟩) | ((with_reducible refine wl_load_bx HBn.out HT0.out ?_ ?_);rfl) | ((with_reducible refine wl_store_bx HB2'.out HL0.out HO0.out HT0.out ?_ ?_ ?_);rfl;rfl;intro wz HBz HKz))
  refine bodyPost_ret (bx_result (by rfl) _ (by rfl) HBz.out HT0.out) rfl ?_
  exact ⟨rfl,HKn.out.trans HKz.out (by simp)⟩
set_option maxHeartbeats 2000000 in
theorem unlessV_call (w:World) (p:Nat) (F:List Nat) (l:List Int) (e:Int) (x:Vt) (ao:Option Addr) (n c:Nat) (hR:Rd w p F l e) :
 Calls Tryz.prog 185 #[.pointer (some ⟨p,0,none⟩),.agg (vtLE x (.slice ao n c)).toArray] w fun r w'=>r=.returned (.agg (vtLE (if e=0 then x else vt0) (if e=0 then .slice ao n c else .slice none 0 0)).toArray)∧Kept [] w w':=by
 have k1:Kept [] w (w.alloc (.cells (vtLE x (.slice ao n c)).toArray 34)):=(Kept.refl _ _).alloc _
 have k2:Kept [] (w.alloc (.cells (vtLE x (.slice ao n c)).toArray 34)) ((w.alloc (.cells (vtLE x (.slice ao n c)).toArray 34)).alloc (.cells zvt.toArray 34)):=(Kept.refl _ _).alloc _
 obtain ⟨W,hW⟩:∃ W,W=(w.alloc (.cells (vtLE x (.slice ao n c)).toArray 34)).alloc (.cells zvt.toArray 34):=⟨_,rfl⟩
 have HB1:Hid (Bx W w.heap.size 34 (vtLE x (.slice ao n c))):=by rw [hW];exact (Bx.new w _ _).kept k2 (by simp)
 have HB2:Hid (Bx W (w.heap.size+1) 34 zvt):=by
  rw [hW]
  have h:=Bx.new (w.alloc (.cells (vtLE x (.slice ao n c)).toArray 34)) 34 zvt
  have hs:(w.alloc (.cells (vtLE x (.slice ao n c)).toArray 34)).heap.size=w.heap.size+1:=by simp
  rw [hs] at h
  exact h
 have hk:=k1.trans k2 (by simp)
 rw [← hW] at hk
 have HK:=hide hk
 have HR:=hide (Rd.kept hk hR (by simp) (by simp))
 have HO:=hide (one_vtLE x (.slice ao n c) (by rfl))
 have HO0:=hide (one_vtLE vt0 (.slice none 0 0) (by rfl))
 have HT:Hid (RowT Tryz.prog 34 (vtLE x (.slice ao n c)).length):=rowT_ver
 have HT0:Hid (RowT Tryz.prog 34 (vtLE vt0 (.slice none 0 0)).length):=rowT_ver
 have HL:Hid ((vtLE x (.slice ao n c)).length=zvt.length):=rfl
 have HL0:Hid ((vtLE vt0 (.slice none 0 0)).length=zvt.length):=rfl
 unfold zvt at hW
 have HW:=hide hW
 clear k1 k2 hk hR hW
 by_cases he:e=0
 ·subst he
  rw [if_pos rfl,if_pos rfl]
  go_enter Tryz.func185,Tryz.ntmps185
  go_upto_region 1 with fail
  rw [← HW.out]
  go_wp2_with (first | (go_at_call 95;refine (fail_call _ p F l 0 HR.out).mono ?_;rintro _ _ ⟨rfl,rfl⟩) | ((with_reducible refine wl_load_bx HB1.out HT.out ?_ ?_);rfl) | ((with_reducible refine wl_store_bx HB2.out HL.out HO.out HT.out ?_ ?_ ?_);rfl;rfl;intro wz HBz HKz))
  refine bodyPost_ret (bx_result (by rfl) _ (by rfl) HBz.out HT.out) rfl ?_
  exact ⟨rfl,HK.out.trans HKz.out (by simp)⟩
 ·rw [if_neg he,if_neg he]
  have heb:(e != 0)=true:=by simp [he]
  have HBn:Hid (Bx (W.alloc (.cells zvt.toArray 34)) W.heap.size 34 (vtLE vt0 (.slice none 0 0))):=Bx.new W _ _
  have HB2':Hid (Bx (W.alloc (.cells zvt.toArray 34)) (w.heap.size+1) 34 zvt):=HB2.out.kept ((Kept.refl [] W).alloc _) (by simp)
  have HKn:=hide (HK.out.alloc (.cells zvt.toArray 34))
  clear he
  unfold zvt at HBn HB2' HKn
  go_enter Tryz.func185,Tryz.ntmps185
  go_upto_region 1 with fail
  rw [← HW.out]
  go_wp2_with (first | (go_at_call 95;refine (fail_call _ p F l e HR.out).mono ?_;rintro _ _ ⟨rfl,rfl⟩) | ((with_reducible refine wl_load_bx HBn.out HT0.out ?_ ?_);rfl) | ((with_reducible refine wl_store_bx HB2'.out HL0.out HO0.out HT0.out ?_ ?_ ?_);rfl;rfl;intro wz HBz HKz))
  refine bodyPost_ret (bx_result (by rfl) _ (by rfl) HBz.out HT0.out) rfl ?_
  exact ⟨rfl,HKn.out.trans HKz.out (by simp)⟩
def endE (s:List Int × Int):Int:=if s.2=0 then (if s.1.length=0 then 0 else 3) else s.2
def decR (l:List Int):Rq × Int:=if endE (reqP eyeP (l,0) rq0).2=0 then (takeR (l,0),0) else (rq0,endE (reqP eyeP (l,0) rq0).2)
def decV (l:List Int):Vt × Int:=if endE (verP eyeP (l,0) vt0).2=0 then (heardV (l,0),0) else (vt0,endE (verP eyeP (l,0) vt0).2)
def EncP (w:World) (q:List Int × Int) (r:Ending) (w':World):Prop :=
 ∃ a c,r=.returned (.tuple #[.slice a q.1.length c,.int .i64 q.2])∧Sl w' a q.1.length c q.1∧(∀ k∈blk a,w.heap.size≤k∧k < w'.heap.size)∧Kept [] w w'
theorem went_new {σ:Type}{At:World→List Nat→σ→Nat→Prop}{w w1 w2:World}{O:List Nat}{s:σ}{m:Nat}(k:Kept [] w w1) (hO:∀ i∈O,w.heap.size≤i) (h:Went At w1 O s m w2):∃ O',At w2 O' s m∧Kept [] w w2∧∀ i∈O',w.heap.size≤i:=by
 obtain ⟨O',h1,h2,h3⟩:=h
 refine ⟨O',h1,k.trans h2 (fun i hi=>.inr (hO i hi)),fun i hi=>?_⟩
 rcases h3 i hi with h4 | h4
 ·exact hO i h4
 ·exact Nat.le_trans k.size h4
def DecR (w:World) (q:Rq × Int) (r:Ending) (w':World):Prop :=
 ∃ v,r=.returned (.tuple #[.agg (rqLE q.1 v).toArray,.int .i64 q.2])∧OwnC w.heap.size w' v q.1.c∧Kept [] w w'
def DecV (w:World) (q:Vt × Int) (r:Ending) (w':World):Prop :=
 ∃ v,r=.returned (.tuple #[.agg (vtLE q.1 v).toArray,.int .i64 q.2])∧KoO w.heap.size w' v q.1.k∧Kept [] w w'
theorem lay1 (w:World) (T:TypeId) (zs:List Value):Kept [] w (w.alloc (.cells zs.toArray T)):=(Kept.refl _ _).alloc _
set_option maxHeartbeats 4000000 in
theorem take_callE (p:Nat) (F:List Nat) (w:World) (O:List Nat) (s:List Int × Int) (m:Nat) (hA:AtE p F w O s (m+200)) :
 Calls Tryz.prog 177 #[.pointer (some ⟨p,0,none⟩)] w (WentR (AtE p F) w O (reqP eyeP s rq0).2 m (takeR s)):=by
 have k1:=lay1 w 29 zrq
 have hB1:=Bx.new w 29 zrq
 have hO:=(eye_hand p F).lt hA
 have hA1:=(eye_hand p F).kept hA k1 (by simp)
 have HB1:=hide hB1
 have HA1:=hide hA1
 have HK1:=hide k1
 have HO:=hide hO
 clear k1 hB1 hA hA1 hO
 unfold zrq at HB1 HA1 HK1
 go_enter Tryz.func177,Tryz.ntmps177
 go_wp2_with fail
 refine (reading_call _ p).mono ?_
 rintro _ w2 ⟨rfl,hk2⟩
 have HK2:=hide (HK1.out.trans hk2 (by simp))
 have HB2:=hide (HB1.out.kept hk2 (by simp))
 have HA2:=hide ((eye_hand p F).kept HA1.out hk2 (by simp))
 clear hk2
 go_wp2_with fail
 have cR:Calls Tryz.prog 144 #[(eyeH p).a,.agg #[.int .i64 0,.string ⟨#[]⟩,.int .i64 0,.int .i64 0,.int .i64 0,.string ⟨#[]⟩,.slice none 0 0,.string ⟨#[]⟩,.int .i64 0,.int .i64 0,.int .i64 0]] w2 (WentR (AtE p F) w2 O (reqP eyeP s rq0).2 m (reqP eyeP s rq0).1):=request_call (eye_hand p F) w2 O s m zrm (rqHy_zero O w2) HA2.out
 refine cR.mono ?_
 clear cR
 rintro _ w3 ⟨v3,rfl,hO3,O3,A3,hk3,hn3,hq3⟩
 have hb3:w.heap.size ∉ O:=fun hm=>by have:=HO.out _ hm;omega
 have HB3:=hide (HB2.out.kept hk3 hb3)
 obtain ⟨ao,nn,cc,rfl⟩:=own_bare hO3
 have hk03:Kept O w w3:=(HK2.out.mono (by simp)).trans hk3 (fun i hi=>.inl hi)
 have HK03:=hide hk03
 have HO3:Hid (OwnC (w.heap.size+1) w3 (.slice ao nn cc) (reqP eyeP s rq0).1.c):=hO3.mono (by have:=HB2.out.lt;omega)
 have HA3:=hide A3
 have HN3:=hide hn3
 have HQ3:=hide hq3
 have hs2:=HK2.out.size
 obtain ⟨e3,hR3,hF3⟩:=A3
 have HR3:=hide hR3
 clear hO3 hk3 hn3 hq3 hb3 hk03 e3 hR3 hF3
 go_wp2_with fail
 refine (unlessR_call w3 p F _ _ (reqP eyeP s rq0).1 ao nn cc HR3.out).mono ?_
 rintro _ w4 ⟨rfl,hk4⟩
 have HK4:=hide hk4
 have HB4:=hide (HB3.out.kept hk4 (by simp))
 clear hk4
 by_cases he:(reqP eyeP s rq0).2.2=0
 ·rw [if_pos he,if_pos he]
  have HQ:Hid (takeR s=(reqP eyeP s rq0).1):=by show (if _ then _ else _)=_;rw [if_pos he]
  have HOz:=hide (one_rqLE (reqP eyeP s rq0).1 (.slice ao nn cc) (by rfl))
  have HT:Hid (RowT Tryz.prog 29 (rqLE (reqP eyeP s rq0).1 (.slice ao nn cc)).length):=rowT_req
  have HL:Hid ((rqLE (reqP eyeP s rq0).1 (.slice ao nn cc)).length=zrq.length):=rfl
  unfold zrq at HL
  clear he
  go_wp2_with ((with_reducible refine wl_store_bx HB4.out HL.out HOz.out HT.out ?_ ?_ ?_);rfl;rfl;intro wz HBz HKz)
  refine bodyPost_ret (bx_result (by rfl) _ (by rfl) HBz.out HT.out) rfl ?_
  rw [HQ.out]
  have hbO:w.heap.size ∉ O3:=fun hm=>by
   rcases HN3.out _ hm with h | h
   ·have:=HO.out _ h;omega
   ·have:=HB2.out.lt;omega
  refine ⟨_,rfl,?_,O3,(eye_hand p F).kept ((eye_hand p F).kept HA3.out HK4.out (by simp)) HKz.out (by simpa using hbO),(HK03.out.trans HK4.out (by simp)).trans HKz.out (by simp),fun k hk=>?_,HQ3.out⟩
  ·have h1:OwnC (w.heap.size+1) wz _ _:=HKz.out.ownsRow (HK4.out.ownsRow HO3.out (by simp)) (fun k hk hm=>by have:=(World.ownsRow.lt HO3.out k hk).1;simp at hm;omega)
   exact h1.mono (by omega)
  ·rcases HN3.out k hk with h | h
   ·exact .inl h
   ·exact .inr (by omega)
 ·rw [if_neg he,if_neg he]
  have HQ:Hid (takeR s=rq0):=by show (if _ then _ else _)=_;rw [if_neg he]
  have HOz:=hide (one_rqLE rq0 (.slice none 0 0) (by rfl))
  have HT:Hid (RowT Tryz.prog 29 (rqLE rq0 (.slice none 0 0)).length):=rowT_req
  have HL:Hid ((rqLE rq0 (.slice none 0 0)).length=zrq.length):=rfl
  unfold zrq at HL
  clear he
  go_wp2_with ((with_reducible refine wl_store_bx HB4.out HL.out HOz.out HT.out ?_ ?_ ?_);rfl;rfl;intro wz HBz HKz)
  refine bodyPost_ret (bx_result (by rfl) _ (by rfl) HBz.out HT.out) rfl ?_
  rw [HQ.out]
  have hbO:w.heap.size ∉ O3:=fun hm=>by
   rcases HN3.out _ hm with h | h
   ·have:=HO.out _ h;omega
   ·have:=HB2.out.lt;omega
  refine ⟨_,rfl,OwnC.nil _ _,O3,(eye_hand p F).kept ((eye_hand p F).kept HA3.out HK4.out (by simp)) HKz.out (by simpa using hbO),(HK03.out.trans HK4.out (by simp)).trans HKz.out (by simp),fun k hk=>?_,fun k hk=>by cases hk⟩
  rcases HN3.out k hk with h | h
  ·exact .inl h
  ·exact .inr (by omega)
set_option maxHeartbeats 4000000 in
theorem heard_callE (p:Nat) (F:List Nat) (w:World) (O:List Nat) (s:List Int × Int) (m:Nat) (hA:AtE p F w O s (m+7000)) :
 Calls Tryz.prog 178 #[.pointer (some ⟨p,0,none⟩)] w (WentV (AtE p F) w O (verP eyeP s vt0).2 m (heardV s)):=by
 have k1:=lay1 w 34 zvt
 have hB1:=Bx.new w 34 zvt
 have hO:=(eye_hand p F).lt hA
 have hA1:=(eye_hand p F).kept hA k1 (by simp)
 have HB1:=hide hB1
 have HA1:=hide hA1
 have HK1:=hide k1
 have HO:=hide hO
 clear k1 hB1 hA hA1 hO
 unfold zvt at HB1 HA1 HK1
 go_enter Tryz.func178,Tryz.ntmps178
 go_wp2_with fail
 refine (reading_call _ p).mono ?_
 rintro _ w2 ⟨rfl,hk2⟩
 have HK2:=hide (HK1.out.trans hk2 (by simp))
 have HB2:=hide (HB1.out.kept hk2 (by simp))
 have HA2:=hide ((eye_hand p F).kept HA1.out hk2 (by simp))
 clear hk2
 go_wp2_with fail
 have cR:Calls Tryz.prog 142 #[(eyeH p).a,.agg #[.int .i64 0,.int .i64 0,.int .i64 0,.string ⟨#[]⟩,.int .u64 0,.slice none 0 0,.int .i64 0]] w2 (WentV (AtE p F) w2 O (verP eyeP s vt0).2 m (verP eyeP s vt0).1):=verdict_call (eye_hand p F) w2 O s m vt0 (.slice none 0 0) (vtHy_zero O w2) HA2.out
 refine cR.mono ?_
 clear cR
 rintro _ w3 ⟨v3,rfl,hO3,O3,A3,hk3,hn3,hq3⟩
 have hb3:w.heap.size ∉ O:=fun hm=>by have:=HO.out _ hm;omega
 have HB3:=hide (HB2.out.kept hk3 hb3)
 obtain ⟨ao,nn,cc,rfl⟩:=koO_bare hO3
 have hk03:Kept O w w3:=(HK2.out.mono (by simp)).trans hk3 (fun i hi=>.inl hi)
 have HK03:=hide hk03
 have HO3:Hid (KoO (w.heap.size+1) w3 (.slice ao nn cc) (verP eyeP s vt0).1.k):=hO3.mono (by have:=HB2.out.lt;omega)
 have HA3:=hide A3
 have HN3:=hide hn3
 have HQ3:=hide hq3
 have hs2:=HK2.out.size
 obtain ⟨e3,hR3,hF3⟩:=A3
 have HR3:=hide hR3
 clear hO3 hk3 hn3 hq3 hb3 hk03 e3 hR3 hF3
 go_wp2_with fail
 refine (unlessV_call w3 p F _ _ (verP eyeP s vt0).1 ao nn cc HR3.out).mono ?_
 rintro _ w4 ⟨rfl,hk4⟩
 have HK4:=hide hk4
 have HB4:=hide (HB3.out.kept hk4 (by simp))
 clear hk4
 by_cases he:(verP eyeP s vt0).2.2=0
 ·rw [if_pos he,if_pos he]
  have HQ:Hid (heardV s=(verP eyeP s vt0).1):=by show (if _ then _ else _)=_;rw [if_pos he]
  have HOz:=hide (one_vtLE (verP eyeP s vt0).1 (.slice ao nn cc) (by rfl))
  have HT:Hid (RowT Tryz.prog 34 (vtLE (verP eyeP s vt0).1 (.slice ao nn cc)).length):=rowT_ver
  have HL:Hid ((vtLE (verP eyeP s vt0).1 (.slice ao nn cc)).length=zvt.length):=rfl
  unfold zvt at HL
  clear he
  go_wp2_with ((with_reducible refine wl_store_bx HB4.out HL.out HOz.out HT.out ?_ ?_ ?_);rfl;rfl;intro wz HBz HKz)
  refine bodyPost_ret (bx_result (by rfl) _ (by rfl) HBz.out HT.out) rfl ?_
  rw [HQ.out]
  have hbO:w.heap.size ∉ O3:=fun hm=>by
   rcases HN3.out _ hm with h | h
   ·have:=HO.out _ h;omega
   ·have:=HB2.out.lt;omega
  refine ⟨_,rfl,?_,O3,(eye_hand p F).kept ((eye_hand p F).kept HA3.out HK4.out (by simp)) HKz.out (by simpa using hbO),(HK03.out.trans HK4.out (by simp)).trans HKz.out (by simp),fun k hk=>?_,HQ3.out⟩
  ·exact ((HO3.out.kept HK4.out).off HKz.out (by simp)).mono (by omega)
  ·rcases HN3.out k hk with h | h
   ·exact .inl h
   ·exact .inr (by omega)
 ·rw [if_neg he,if_neg he]
  have HQ:Hid (heardV s=vt0):=by show (if _ then _ else _)=_;rw [if_neg he]
  have HOz:=hide (one_vtLE vt0 (.slice none 0 0) (by rfl))
  have HT:Hid (RowT Tryz.prog 34 (vtLE vt0 (.slice none 0 0)).length):=rowT_ver
  have HL:Hid ((vtLE vt0 (.slice none 0 0)).length=zvt.length):=rfl
  unfold zvt at HL
  clear he
  go_wp2_with ((with_reducible refine wl_store_bx HB4.out HL.out HOz.out HT.out ?_ ?_ ?_);rfl;rfl;intro wz HBz HKz)
  refine bodyPost_ret (bx_result (by rfl) _ (by rfl) HBz.out HT.out) rfl ?_
  rw [HQ.out]
  have hbO:w.heap.size ∉ O3:=fun hm=>by
   rcases HN3.out _ hm with h | h
   ·have:=HO.out _ h;omega
   ·have:=HB2.out.lt;omega
  refine ⟨_,rfl,KoO.nil _ _,O3,(eye_hand p F).kept ((eye_hand p F).kept HA3.out HK4.out (by simp)) HKz.out (by simpa using hbO),(HK03.out.trans HK4.out (by simp)).trans HKz.out (by simp),fun k hk=>?_,fun k hk=>by cases hk⟩
  rcases HN3.out k hk with h | h
  ·exact .inl h
  ·exact .inr (by omega)
theorem enter_put (a:Array Value) (w:World):Sem.run Tryz.prog (callFunc 140 a) w=.ok (.enter 140 a) w:=by kernel_rfl
set_option maxHeartbeats 4000000 in
theorem encodeR_call (w:World) (x:Rm) (hx:RqHy [] w x) :
 Calls Tryz.prog 139 #[.func (.func 140) #[] #[],rqV x] w (EncP w (putS ([],0) x.r)):=by
 have hef:=enter_put
 have k1:=lay1 w 29 (rqC x)
 have HB1:=hide (Bx.new w 29 (rqC x))
 have HK1:=hide k1
 have HX:=hide hx
 have HT:Hid (RowT Tryz.prog 29 (rqC x).length):=rowT_req
 unfold rqC at HB1 HK1 HT
 clear k1 hx
 unfold rqV
 go_enter Tryz.func139,Tryz.ntmps139
 go_wp2_with fail
 refine (newWriter_call _).mono ?_
 rintro _ w2 ⟨rfl,hW2,hk2⟩
 have hp2:w.heap.size≤(w.alloc (.cells #[.int .i64 x.r.k,.string (str x.r.n),.int .i64 x.r.s,.int .i64 x.r.q,.int .i64 x.r.b,.string (str x.r.f),.slice x.mo x.m x.mc,.string (str x.r.p),.int .i64 x.r.fr,.int .i64 x.r.mn,.int .i64 x.r.mb] 29)).heap.size:=by simp
 obtain ⟨p,hp⟩:∃ p,p=(w.alloc (.cells #[.int .i64 x.r.k,.string (str x.r.n),.int .i64 x.r.s,.int .i64 x.r.q,.int .i64 x.r.b,.string (str x.r.f),.slice x.mo x.m x.mc,.string (str x.r.p),.int .i64 x.r.fr,.int .i64 x.r.mn,.int .i64 x.r.mb] 29)).heap.size:=⟨_,rfl⟩
 rw [← hp] at hW2 hp2 ⊢
 have HK2:=hide (HK1.out.trans hk2 (by simp))
 have HB2:=hide (HB1.out.kept hk2 (by simp))
 have HA2:Hid (AtP p w2 [p] ([],0) (0+200)):=⟨none,rfl,hW2,by simp⟩
 have cP:=hide (putE_call p w2 [p] ([],0) 0 x (HX.out.on HK2.out (fun k hk=>.inr (by simp at hk;omega))) HA2.out)
 clear hW2 hk2 hp
 go_wp2_with ((with_reducible refine wl_load_bx HB2.out HT.out ?_ ?_);rfl)
 refine cP.out.mono ?_
 clear cP
 rintro _ w3 ⟨rfl,hW3⟩
 obtain ⟨O3,⟨g3,e3,hw3,hl3⟩,hk3,hn3⟩:=went_new HK2.out (by simpa using hp2) hW3
 have HW3:=hide hw3
 have HK3:=hide hk3
 clear hw3 hk3 hn3 hW3 e3
 go_wp2_with fail
 refine (wdone_call _ p g3 _ _ HW3.out (by omega)).mono ?_
 rintro _ w4 ⟨a,c,rfl,hS4,hb4,hk4⟩
 have H4:Hid (EncP w (putS ([],0) x.r) (.returned (.tuple #[.slice a (putS ([],0) x.r).1.length c,.int .i64 (putS ([],0) x.r).2])) w4):=⟨a,c,rfl,hS4,fun k hk=>⟨Nat.le_trans HK3.out.size (hb4 k hk).1,(hb4 k hk).2⟩,HK3.out.trans hk4 (by simp)⟩
 clear hS4 hb4 hk4
 go_wp2_with fail
 go_ret2
 exact H4.out
set_option maxHeartbeats 4000000 in
theorem enc_call (w:World) (x:Rm) (hx:RqHy [] w x) :
 Calls Tryz.prog 136 #[rqV x] w (EncP w (putS ([],0) x.r)):=by
 have k1:=lay1 w 29 (rqC x)
 have HB1:=hide (Bx.new w 29 (rqC x))
 have HT:Hid (RowT Tryz.prog 29 (rqC x).length):=rowT_req
 have cE:=hide (encodeR_call _ x (hx.on k1 (fun k hk=>by cases hk)))
 have HK1:=hide k1
 unfold rqC at HB1 HK1 HT cE
 clear k1 hx
 unfold rqV
 go_enter Tryz.func136,Tryz.ntmps136
 go_wp2_with ((with_reducible refine wl_load_bx HB1.out HT.out ?_ ?_);rfl)
 refine cE.out.mono ?_
 clear cE
 rintro _ w2 ⟨a,c,rfl,hS,hb,hk⟩
 have H4:Hid (EncP w (putS ([],0) x.r) (.returned (.tuple #[.slice a (putS ([],0) x.r).1.length c,.int .i64 (putS ([],0) x.r).2])) w2):=⟨a,c,rfl,hS,fun k h=>⟨Nat.le_trans HK1.out.size (hb k h).1,(hb k h).2⟩,HK1.out.trans hk (by simp)⟩
 clear hS hb hk
 go_wp2_with fail
 go_ret2
 exact H4.out
theorem enter_told (a:Array Value) (w:World):Sem.run Tryz.prog (callFunc 138 a) w=.ok (.enter 138 a) w:=by kernel_rfl
set_option maxHeartbeats 4000000 in
theorem encodeV_call (w:World) (x:Vt) (u:Value) (hx:VtHy [] w x u) :
 Calls Tryz.prog 137 #[.func (.func 138) #[] #[],vtV x u] w (EncP w (toldS ([],0) x)):=by
 obtain ⟨uo,un,uc,KK,rfl,hKD,hKK⟩:=hx.u
 clear hKD hKK
 have hef:=enter_told
 have k1:=lay1 w 34 (vtLE x (.slice uo un uc))
 have HB1:=hide (Bx.new w 34 (vtLE x (.slice uo un uc)))
 have HK1:=hide k1
 have HX:=hide hx
 have HT:Hid (RowT Tryz.prog 34 (vtLE x (.slice uo un uc)).length):=rowT_ver
 unfold vtLE at HB1 HK1 HT
 clear k1 hx
 unfold vtV
 go_enter Tryz.func137,Tryz.ntmps137
 go_wp2_with fail
 refine (newWriter_call _).mono ?_
 rintro _ w2 ⟨rfl,hW2,hk2⟩
 have hp2:w.heap.size≤(w.alloc (.cells #[.int .i64 x.c,.int .i64 x.s,.int .i64 x.r,.string (str x.p),.int .u64 x.d,.slice uo un uc,.int .i64 x.m] 34)).heap.size:=by simp
 obtain ⟨p,hp⟩:∃ p,p=(w.alloc (.cells #[.int .i64 x.c,.int .i64 x.s,.int .i64 x.r,.string (str x.p),.int .u64 x.d,.slice uo un uc,.int .i64 x.m] 34)).heap.size:=⟨_,rfl⟩
 rw [← hp] at hW2 hp2 ⊢
 have HK2:=hide (HK1.out.trans hk2 (by simp))
 have HB2:=hide (HB1.out.kept hk2 (by simp))
 have HA2:Hid (AtP p w2 [p] ([],0) (0+7000)):=⟨none,rfl,hW2,by simp⟩
 have cP:=hide (told_call p w2 [p] ([],0) 0 x (.slice uo un uc) (HX.out.on HK2.out (fun k hk=>.inr (by simp at hk;omega))) HA2.out)
 clear hW2 hk2 hp
 go_wp2_with ((with_reducible refine wl_load_bx HB2.out HT.out ?_ ?_);rfl)
 refine cP.out.mono ?_
 clear cP
 rintro _ w3 ⟨rfl,hW3⟩
 obtain ⟨O3,⟨g3,e3,hw3,hl3⟩,hk3,hn3⟩:=went_new HK2.out (by simpa using hp2) hW3
 have HW3:=hide hw3
 have HK3:=hide hk3
 clear hw3 hk3 hn3 hW3 e3
 go_wp2_with fail
 refine (wdone_call _ p g3 _ _ HW3.out (by omega)).mono ?_
 rintro _ w4 ⟨a,c,rfl,hS4,hb4,hk4⟩
 have H4:Hid (EncP w (toldS ([],0) x) (.returned (.tuple #[.slice a (toldS ([],0) x).1.length c,.int .i64 (toldS ([],0) x).2])) w4):=⟨a,c,rfl,hS4,fun k hk=>⟨Nat.le_trans HK3.out.size (hb4 k hk).1,(hb4 k hk).2⟩,HK3.out.trans hk4 (by simp)⟩
 clear hS4 hb4 hk4
 go_wp2_with fail
 go_ret2
 exact H4.out
set_option maxHeartbeats 4000000 in
theorem encV_call (w:World) (x:Vt) (u:Value) (hx:VtHy [] w x u) :
 Calls Tryz.prog 133 #[vtV x u] w (EncP w (toldS ([],0) x)):=by
 obtain ⟨uo,un,uc,KK,rfl,hKD,hKK⟩:=hx.u
 clear hKD hKK
 have k1:=lay1 w 34 (vtLE x (.slice uo un uc))
 have HB1:=hide (Bx.new w 34 (vtLE x (.slice uo un uc)))
 have HT:Hid (RowT Tryz.prog 34 (vtLE x (.slice uo un uc)).length):=rowT_ver
 have cE:=hide (encodeV_call _ x (.slice uo un uc) (hx.on k1 (fun k hk=>by cases hk)))
 have HK1:=hide k1
 unfold vtLE at HB1 HK1 HT cE
 clear k1 hx
 unfold vtV
 go_enter Tryz.func133,Tryz.ntmps133
 go_wp2_with ((with_reducible refine wl_load_bx HB1.out HT.out ?_ ?_);rfl)
 refine cE.out.mono ?_
 clear cE
 rintro _ w2 ⟨a,c,rfl,hS,hb,hk⟩
 have H4:Hid (EncP w (toldS ([],0) x) (.returned (.tuple #[.slice a (toldS ([],0) x).1.length c,.int .i64 (toldS ([],0) x).2])) w2):=⟨a,c,rfl,hS,fun k h=>⟨Nat.le_trans HK1.out.size (hb k h).1,(hb k h).2⟩,HK1.out.trans hk (by simp)⟩
 clear hS hb hk
 go_wp2_with fail
 go_ret2
 exact H4.out
end Go.Proofs.YtakafmejllilnaaGreat
