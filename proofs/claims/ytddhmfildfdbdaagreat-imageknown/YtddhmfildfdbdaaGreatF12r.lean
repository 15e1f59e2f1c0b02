/-
  Texts of this claim that are laid as one: EnPut, EnTake, EnCode.
-/
import Derived.Test.YtddhmfildfdbdaaGreatW5r
import Derived.Test.YtddhmfildfdbdaaGreatF10r
import Derived.Test.YtddhmfildfdbdaaGreatF11r
import Derived.Test.YtddhmfildfdbdaaGreatQ2r
set_option maxHeartbeats 8000000
/-
 Put,Told: written;Take,Heard: read. (Written by mk/mkput.py.)
-/
namespace Go.Proofs.YtddhmfildfdbdaaGreat
open Go.RowKit
theorem size_vtP:(Tryz.prog.info? 69).map (·.size)=some 7:=by kernel_rfl
theorem one_hand (H:Hnd):∀ v∈H.c,v.oneCell'=true:=by
 intro v hv
 simp [Hnd.c] at hv
 rcases hv with rfl | rfl | rfl | rfl | rfl <;> rfl
def zhand:List Value:=[.nilFunc,.nilFunc,.nilFunc,.nilFunc,.nilFunc]
theorem writing_call (w:World) (p:Nat):Calls Tryz.prog 96 #[.pointer (some ⟨p,0,none⟩)] w fun r w'=>r=.returned (penH p).a∧Kept [] w w':=by
 have hmf:∀ (fn:Go.Fn) (first cap:Array Value) (w:World),(Instr.makeFunc fn first cap).run Tryz.prog w=.ok (.func fn first cap) w:=fun _ _ _ _=>rfl
 have k1:Kept [] w (w.alloc (.cells #[.nilFunc,.nilFunc,.nilFunc,.nilFunc,.nilFunc] 156)):=(Kept.refl _ _).alloc _
 have k2:Kept [] (w.alloc (.cells #[.nilFunc,.nilFunc,.nilFunc,.nilFunc,.nilFunc] 156)) ((w.alloc (.cells #[.nilFunc,.nilFunc,.nilFunc,.nilFunc,.nilFunc] 156)).alloc (.cells #[.pointer (some ⟨p,0,none⟩)] 181)):=(Kept.refl _ _).alloc _
 have HZ:Hid (Bx ((w.alloc (.cells #[.nilFunc,.nilFunc,.nilFunc,.nilFunc,.nilFunc] 156)).alloc (.cells #[.pointer (some ⟨p,0,none⟩)] 181)) w.heap.size 156 zhand):=(Bx.new w _ zhand).kept k2 (by simp)
 have HL:Hid ((penH p).c.length=zhand.length):=rfl
 have HO:=hide (one_hand (penH p))
 have HT:Hid (RowT Tryz.prog 156 (penH p).c.length):=rowT_hand
 have HK:=hide (k1.trans k2 (by simp))
 clear k1 k2
 go_enter Tryz.func96,Tryz.ntmps96
 go_wp2_with ((with_reducible refine wl_store_bx HZ.out HL.out HO.out HT.out ?_ ?_ ?_);rfl;rfl;intro wz HBz HKz)
 refine bodyPost_ret (bx_result (by rfl) _ (by rfl) HBz.out HT.out) rfl ?_
 exact ⟨rfl,HK.out.trans HKz.out (by simp)⟩
theorem reading_call (w:World) (p:Nat):Calls Tryz.prog 110 #[.pointer (some ⟨p,0,none⟩)] w fun r w'=>r=.returned (eyeH p).a∧Kept [] w w':=by
 have hmf:∀ (fn:Go.Fn) (first cap:Array Value) (w:World),(Instr.makeFunc fn first cap).run Tryz.prog w=.ok (.func fn first cap) w:=fun _ _ _ _=>rfl
 have k1:Kept [] w (w.alloc (.cells #[.nilFunc,.nilFunc,.nilFunc,.nilFunc,.nilFunc] 156)):=(Kept.refl _ _).alloc _
 have k2:Kept [] (w.alloc (.cells #[.nilFunc,.nilFunc,.nilFunc,.nilFunc,.nilFunc] 156)) ((w.alloc (.cells #[.nilFunc,.nilFunc,.nilFunc,.nilFunc,.nilFunc] 156)).alloc (.cells #[.pointer (some ⟨p,0,none⟩)] 187)):=(Kept.refl _ _).alloc _
 have HZ:Hid (Bx ((w.alloc (.cells #[.nilFunc,.nilFunc,.nilFunc,.nilFunc,.nilFunc] 156)).alloc (.cells #[.pointer (some ⟨p,0,none⟩)] 187)) w.heap.size 156 zhand):=(Bx.new w _ zhand).kept k2 (by simp)
 have HL:Hid ((eyeH p).c.length=zhand.length):=rfl
 have HO:=hide (one_hand (eyeH p))
 have HT:Hid (RowT Tryz.prog 156 (eyeH p).c.length):=rowT_hand
 have HK:=hide (k1.trans k2 (by simp))
 clear k1 k2
 go_enter Tryz.func110,Tryz.ntmps110
 go_wp2_with ((with_reducible refine wl_store_bx HZ.out HL.out HO.out HT.out ?_ ?_ ?_);rfl;rfl;intro wz HBz HKz)
 refine bodyPost_ret (bx_result (by rfl) _ (by rfl) HBz.out HT.out) rfl ?_
 exact ⟨rfl,HK.out.trans HKz.out (by simp)⟩
theorem VtHy.on {O O':List Nat}{w w':World}{x:Vt}{u:Value}(h:VtHy O w x u) (hk:Kept O w w') (hn:∀ k∈O',k∈O∨w.heap.size≤k):VtHy O' w' x u:=by
 obtain ⟨⟨uo,un,uc,KK,e,hu,hK⟩,hp,hk'⟩:=h
 exact ⟨⟨uo,un,uc,KK,e,hu.on hk hn,hK⟩,hp,hk'⟩
theorem KsD.sl {O:List Nat}{w:World}{ao:Option Addr}{n c:Nat}{K:List (Com × Value)}(h:KsD O w ao n c K):SlK w ao n c K:=by
 obtain ⟨h1,h2,h3,_,h5,_,h7⟩:=h
 refine ⟨h1,h2,h3,h5,fun x hx=>?_⟩
 obtain ⟨mo,n',c',e,hS,h0,_⟩:=h7 x hx
 exact ⟨mo,n',c',e,hS,h0⟩
def toldS (s:List Int × Int) (v:Vt):List Int × Int:=if (verP penP s v).1=v then (verP penP s v).2 else wrRefuse (verP penP s v).2.2
def PutC {σ:Type}(At:World→List Nat→σ→Nat→Prop) (w:World) (O:List Nat) (s:σ) (m:Nat) (d:Bool) (v:Value) (wx:World):Prop:=∃ b:Bool,v=.bool (!b)∧b=d∧Hid (Went At w O s m wx)
theorem ref_went {w w1 w2:World}{p:Nat}{O O1:List Nat}{s:List Int × Int}{m m':Nat}{r:Ending}(k1:Kept O w w1) (n1:∀ k∈O1,k∈O∨w.heap.size≤k) {g:Option Nat}(e:O1=p :: g.toList) (hl:s.1.length+300*m'≤1000000000) (hm:m≤m') (h:Wrote w1 p g (wrRefuse s.2) r w2):Went (AtP p) w O (wrRefuse s.2) m w2:=by
 subst e
 exact Went.trans k1 n1 (pen_went (Kept.refl [] w1) h (by rw [(wrRefuse_ne s.2).1];simp;omega))
theorem alikeP_call (w:World) (x y:Vt) (u1 u2:Value) (h1:KoV w u1 x.k) (h2:KoV w u2 y.k) :
 Calls Tryz.prog 95 #[vtV x u1,vtV y u2] w fun e w'=>e=.returned (.bool (decide (x=y)))∧Kept [] w w':=by
 obtain ⟨ao,n,c,K,rfl,hL,e1,_⟩:=h1
 obtain ⟨bo,m,d,M,rfl,hM,e2,_⟩:=h2
 obtain ⟨xc,xs,xr,xp,xd,xk,xm⟩:=x
 obtain ⟨yc,ys,yr,yp,yd,yk,ym⟩:=y
 simp only at e1 e2
 subst e1
 subst e2
 unfold vtV
 simp only
 by_cases hc:xc=yc
 rotate_left
 ·rw [decide_eq_false (by intro h;injection h;contradiction)]
  exact vtsame_c w xc yc xs ys xr yr xp yp xd yd xm ym ao bo n m c d hc
 subst hc
 by_cases hs:xs=ys
 rotate_left
 ·rw [decide_eq_false (by intro h;injection h;contradiction)]
  exact vtsame_s w xc xs ys xr yr xp yp xd yd xm ym ao bo n m c d hs
 subst hs
 by_cases hr:xr=yr
 rotate_left
 ·rw [decide_eq_false (by intro h;injection h;contradiction)]
  exact vtsame_r w xc xs xr yr xp yp xd yd xm ym ao bo n m c d hr
 subst hr
 by_cases hp:xp=yp
 rotate_left
 ·rw [decide_eq_false (by intro h;injection h;contradiction)]
  exact vtsame_p w xc xs xr xp yp xd yd xm ym ao bo n m c d hp
 subst hp
 by_cases hd:xd=yd
 rotate_left
 ·rw [decide_eq_false (by intro h;injection h;contradiction)]
  exact vtsame_d w xc xs xr xp xd yd xm ym ao bo n m c d hd
 subst hd
 by_cases hm:xm=ym
 rotate_left
 ·rw [decide_eq_false (by intro h;injection h;contradiction)]
  exact vtsame_m w xc xs xr xp xd xm ym ao bo n m c d hm
 subst hm
 by_cases hk:K.map Prod.fst=M.map Prod.fst
 rotate_left
 ·rw [decide_eq_false (by intro h;injection h;contradiction)]
  exact vtsame_k w xc xs xr xp xd xm ao bo n m c d K M hL hM hk
 rw [decide_eq_true (by rw [hk])]
 exact vtsame_all w xc xs xr xp xd xm ao bo n m c d K M hL hM hk
set_option linter.unusedSimpArgs false in
set_option maxRecDepth 100000 in
theorem told_call (p:Nat) (w:World) (O:List Nat) (s:List Int × Int) (m:Nat) (x:Vt) (u:Value) (hx:VtHy O w x u) (hA:AtP p w O s (m+7000)) :
 Calls Tryz.prog 69 #[.pointer (some ⟨p,0,none⟩),vtV x u] w fun r w'=>r=.returned (.tuple #[])∧Went (AtP p) w O (toldS s x) m w':=by
 obtain ⟨uo,un,uc,KK,rfl,hKD,hKK⟩:=hx.u
 have hO:=(pen_hand p).lt hA
 have k1:Kept [] w (w.alloc (.cells (vtLE x (.slice uo un uc)).toArray 69)):=(Kept.refl _ _).alloc _
 have HX:=hide hx
 have HB1:=hide (Bx.new w 69 (vtLE x (.slice uo un uc)))
 have HA1:=hide ((pen_hand p).kept hA k1 (by simp))
 have HO:=hide hO
 have HK1:=hide k1
 clear hA hO k1 hx
 obtain ⟨W1,hW1⟩:∃ W1,W1=w.alloc (.cells (vtLE x (.slice uo un uc)).toArray 69):=⟨_,rfl⟩
 have HB1':Hid (Bx W1 w.heap.size 69 (vtLE x (.slice uo un uc))):=by rw [hW1];exact HB1
 have HA1':Hid (AtP p W1 O s (m+7000)):=by rw [hW1];exact HA1
 have HK1':Hid (Kept [] w W1):=by rw [hW1];exact HK1
 clear HB1 HA1 HK1
 unfold vtV
 go_enter Tryz.func69,Tryz.ntmps69
 go_upto_region 1 with fail
 rw [show w.alloc (.cells #[.int .i64 x.c,.int .i64 x.s,.int .i64 x.r,.string (str x.p),.int .u64 x.d,.slice uo un uc,.int .i64 x.m] 69)=W1 from hW1.symm]
 clear hW1
 go_cut [10] from 4 to 10 (fun s10 wx=>PutC (AtP p) w O (verP penP s x).2 m (decide ((verP penP s x).1=x)) s10 wx)
 case first =>
  refine wp_region_held_drew (S:=fun w9=>Bx w9 w.heap.size 69 (vtLE x (.slice uo un uc))) (by kernel_rfl) (HB1'.out.kept (Kept.refl [] _).drew (by simp)) (fun hHeld=>?_)
  refine tks [0] (by rfl) (by kernel_rfl) (fun _ _ _ _ _ h=>h) hHeld ?_
  iterate 1
   refine yk ?_ rfl (Or.inl ⟨by rfl,?_⟩) ?_
   rotate_left
   ·intro w9 hSw;go_simp;(try with_reducible rfl)
   try simp only [sT,Act.put]
  refine yk0 ?_
  simp only [setK,sT]
  refine wpAnyH_take (i:=2) (v:=vtV x (.slice uo un uc)) rfl (by kernel_rfl) (by kernel_rfl) (by kernel_rfl) (fun _ _ _ h=>h) (yieldsIf_load_mid (by rfl) _ _ rfl w.heap.size 0 rfl (vtLE x (.slice uo un uc)) _ (fun w9 hSw=>hSw.range) Tryz.underlying69 rfl size_vtP) hHeld ?_
  try simp only [sT,Act.put]
  refine wpAnyH_take (i:=4) (v:=vtV x (.slice uo un uc)) rfl (by kernel_rfl) (by kernel_rfl) (by kernel_rfl) (fun _ _ _ h=>h) (yieldsIf_load_mid (by rfl) _ _ rfl w.heap.size 0 rfl (vtLE x (.slice uo un uc)) _ (fun w9 hSw=>hSw.range) Tryz.underlying69 rfl size_vtP) hHeld ?_
  try simp only [sT,Act.put]
  refine rd1 1 (by kernel_rfl) rfl (fun K0 hK0=>?_)
  go_simp
  refine (writing_call _ p).mono ?_
  rintro _ w2 ⟨rfl,hk2⟩
  have hk2':=(HK1'.out.trans (Kept.refl [] _).drew (by simp)).trans hk2 (by simp)
  have HB2:=hide ((HB1'.out.kept (Kept.refl [] _).drew (by simp)).kept hk2 (by simp))
  have HA2:=hide ((pen_hand p).kept ((pen_hand p).kept HA1'.out (Kept.refl [] _).drew (by simp)) hk2 (by simp))
  have HK2:=hide hk2'
  clear hk2 hk2'
  go_wp2_with fail
  refine hK0.out _ _ HB2.out (fun hHeld=>?_)
  clear hK0 K0
  try simp only [sT,Act.put]
  refine rd1 3 (by kernel_rfl) rfl (fun K0 hK0=>?_)
  go_simp
  have cR:=verdict_call (pen_hand p) _ _ _ m x _ (HX.out.on (HK2.out.mono (by simp)) (fun k hk=>.inl hk)) HA2.out
  unfold vtV at cR
  refine cR.mono ?_
  clear cR
  rintro _ w3 ⟨v3,rfl,hO3,O3,A3,hk3,hn3,hq3⟩
  have hb3:w.heap.size ∉ O:=fun hm=>by have:=HO.out _ hm;omega
  have HB3:=hide (HB2.out.kept hk3 hb3)
  obtain ⟨ao,nn,cc,rfl⟩:=koO_bare hO3
  have HO3:=hide hO3
  have HW3:Hid (Went (AtP p) w O (verP penP s x).2 m w3):=Went.trans (HK2.out.mono (by simp)) (fun k hk=>.inl hk) ⟨O3,A3,hk3,hn3⟩
  have HK3:=hide hk3
  clear hO3 A3 hk3 hn3 hq3 hb3
  go_wp2_with fail
  refine hK0.out _ _ HB3.out (fun hHeld=>?_)
  clear hK0 K0
  try simp only [sT,Act.put]
  refine rd1 5 (by kernel_rfl) rfl (fun K0 hK0=>?_)
  go_simp
  have cS:=alikeP_call w3 (verP penP s x).1 x _ _ (HO3.out.ko) ⟨_,_,_,_,rfl,(hKD.on ((HK2.out.mono (by simp)).trans HK3.out (fun i hi=>.inl hi)) (O':=O) (fun k hk=>.inl hk)).sl,hKK,hKD.2.2.2.1⟩
  refine cS.mono ?_
  clear cS
  rintro _ w4 ⟨rfl,hk4⟩
  have HB4:=hide (HB3.out.kept hk4 (by simp))
  have HW4:Hid (Went (AtP p) w O (verP penP s x).2 m w4):=by
   obtain ⟨O',h1,h2,h3⟩:=HW3.out
   exact ⟨O',(pen_hand p).kept h1 hk4 (by simp),h2.trans hk4 (by simp),h3⟩
  clear hk4
  go_wp2_with fail
  refine hK0.out _ _ HB4.out (fun hHeld=>?_)
  clear hK0 K0
  try simp only [sT,Act.put]
  refine tks [6] (by rfl) (by kernel_rfl) (fun _ _ _ _ _ h=>h) hHeld ?_
  iterate 1
   refine yk ?_ rfl (Or.inl ⟨by rfl,?_⟩) ?_
   rotate_left
   ·intro w9 hSw;go_simp;(try with_reducible rfl)
   try simp only [sT,Act.put]
  refine yk0 ?_
  simp only [setK,sT]
  try simp only [sT,Act.put]
  refine wpAnyH_done (by kernel_rfl) ?_ _
  clear hHeld
  go_wp2_with fail
  go_meet
  exact ⟨_,rfl,rfl,HW4⟩
 case rest =>
  obtain ⟨b,rfl,hb,HW⟩:=hcut
  cases b
  ·have hne:¬ (verP penP s x).1=x:=by intro h;rw [decide_eq_true h] at hb;cases hb
   have HQ:Hid (toldS s x=wrRefuse (verP penP s x).2.2):=by show (if _ then _ else _)=_;rw [if_neg hne]
   obtain ⟨O5,⟨g5,e5,hw5,hl5⟩,hk5,hn5⟩:=HW.out
   have HW5:=hide hw5
   clear hne hw5 hb
   go_wp2_with fail
   refine (wrefuse_call _ p g5 _ _ HW5.out).mono ?_
   rintro _ w6 hW6
   have hr:=hW6.1
   subst hr
   have H6:=hide (ref_went hk5 hn5 e5 hl5 (Nat.le_refl m) hW6)
   clear hW6
   go_wp2_with fail
   go_end0
   rw [HQ.out]
   exact ⟨rfl,H6.out⟩
  ·have heq:(verP penP s x).1=x:=of_decide_eq_true hb.symm
   have HQ:Hid (toldS s x=(verP penP s x).2):=by show (if _ then _ else _)=_;rw [if_pos heq]
   clear heq hb
   go_wp2_with fail
   go_end0
   rw [HQ.out]
   exact ⟨rfl,HW.out⟩
def vt0:Vt:=⟨0,0,0,[],0,[],0⟩
def heardV (s:List Int × Int):Vt:=if (verP eyeP s vt0).2.2=0 then (verP eyeP s vt0).1 else vt0
theorem vtHy_zero (O:List Nat) (w:World):VtHy O w vt0 (.slice none 0 0) :=
 ⟨⟨none,0,0,[],rfl,⟨rfl,Nat.le_refl _,Nat.zero_le _,fun _=>rfl,fun i hi=>by simp at hi,fun h=>by simp at h,fun x hx=>by cases hx⟩,rfl⟩,by simp [vt0],by simp [vt0]⟩
theorem unlessV_call (w:World) (p:Nat) (F:List Nat) (l:List Int) (e:Int) (x:Vt) (ao:Option Addr) (n c:Nat) (hR:Rd w p F l e) :
 Calls Tryz.prog 109 #[.pointer (some ⟨p,0,none⟩),.agg (vtLE x (.slice ao n c)).toArray] w fun r w'=>r=.returned (.agg (vtLE (if e=0 then x else vt0) (if e=0 then .slice ao n c else .slice none 0 0)).toArray)∧Kept [] w w':=by
 have k1:Kept [] w (w.alloc (.cells (vtLE x (.slice ao n c)).toArray 69)):=(Kept.refl _ _).alloc _
 have k2:Kept [] (w.alloc (.cells (vtLE x (.slice ao n c)).toArray 69)) ((w.alloc (.cells (vtLE x (.slice ao n c)).toArray 69)).alloc (.cells zvt.toArray 69)):=(Kept.refl _ _).alloc _
 obtain ⟨W,hW⟩:∃ W,W=(w.alloc (.cells (vtLE x (.slice ao n c)).toArray 69)).alloc (.cells zvt.toArray 69):=⟨_,rfl⟩
 have HB1:Hid (Bx W w.heap.size 69 (vtLE x (.slice ao n c))):=by rw [hW];exact (Bx.new w _ _).kept k2 (by simp)
 have HB2:Hid (Bx W (w.heap.size+1) 69 zvt):=by
  rw [hW]
  have h:=Bx.new (w.alloc (.cells (vtLE x (.slice ao n c)).toArray 69)) 69 zvt
  have hs:(w.alloc (.cells (vtLE x (.slice ao n c)).toArray 69)).heap.size=w.heap.size+1:=by simp
  rw [hs] at h
  exact h
 have hk:=k1.trans k2 (by simp)
 rw [← hW] at hk
 have HK:=hide hk
 have HR:=hide (Rd.kept hk hR (by simp) (by simp))
 have HO:=hide (one_vtLE x (.slice ao n c) (by rfl))
 have HO0:=hide (one_vtLE vt0 (.slice none 0 0) (by rfl))
 have HT:Hid (RowT Tryz.prog 69 (vtLE x (.slice ao n c)).length):=rowT_ver
 have HT0:Hid (RowT Tryz.prog 69 (vtLE vt0 (.slice none 0 0)).length):=rowT_ver
 have HL:Hid ((vtLE x (.slice ao n c)).length=zvt.length):=rfl
 have HL0:Hid ((vtLE vt0 (.slice none 0 0)).length=zvt.length):=rfl
 unfold zvt at hW
 have HW:=hide hW
 clear k1 k2 hk hR hW
 by_cases he:e=0
 ·subst he
  rw [if_pos rfl,if_pos rfl]
  go_enter Tryz.func109,Tryz.ntmps109
  go_upto_region 1 with fail
  rw [← HW.out]
  go_wp2_with (first | (go_at_call 56;refine (fail_call _ p F l 0 HR.out).mono ?_;rintro _ _ ⟨rfl,rfl⟩) | ((with_reducible refine wl_load_bx HB1.out HT.out ?_ ?_);rfl) | ((with_reducible refine wl_store_bx HB2.out HL.out HO.out HT.out ?_ ?_ ?_);rfl;rfl;intro wz HBz HKz))
  refine bodyPost_ret (bx_result (by rfl) _ (by rfl) HBz.out HT.out) rfl ?_
  exact ⟨rfl,HK.out.trans HKz.out (by simp)⟩
 ·rw [if_neg he,if_neg he]
  have heb:(e != 0)=true:=by simp [he]
  have HBn:Hid (Bx (W.alloc (.cells zvt.toArray 69)) W.heap.size 69 (vtLE vt0 (.slice none 0 0))):=Bx.new W _ _
  have HB2':Hid (Bx (W.alloc (.cells zvt.toArray 69)) (w.heap.size+1) 69 zvt):=HB2.out.kept ((Kept.refl [] W).alloc _) (by simp)
  have HKn:=hide (HK.out.alloc (.cells zvt.toArray 69))
  clear he
  unfold zvt at HBn HB2' HKn
  go_enter Tryz.func109,Tryz.ntmps109
  go_upto_region 1 with fail
  rw [← HW.out]
  go_wp2_with (first | (go_at_call 56;refine (fail_call _ p F l e HR.out).mono ?_;rintro _ _ ⟨rfl,rfl⟩) | ((with_reducible refine wl_load_bx HBn.out HT0.out ?_ ?_);rfl) | ((with_reducible refine wl_store_bx HB2'.out HL0.out HO0.out HT0.out ?_ ?_ ?_);rfl;rfl;intro wz HBz HKz))
  refine bodyPost_ret (bx_result (by rfl) _ (by rfl) HBz.out HT0.out) rfl ?_
  exact ⟨rfl,HKn.out.trans HKz.out (by simp)⟩
theorem lay1 (w:World) (T:TypeId) (zs:List Value):Kept [] w (w.alloc (.cells zs.toArray T)):=(Kept.refl _ _).alloc _
theorem heard_callE (p:Nat) (F:List Nat) (w:World) (O:List Nat) (s:List Int × Int) (m:Nat) (hA:AtE p F w O s (m+7000)) :
 Calls Tryz.prog 79 #[.pointer (some ⟨p,0,none⟩)] w (WentV (AtE p F) w O (verP eyeP s vt0).2 m (heardV s)):=by
 have k1:=lay1 w 69 zvt
 have hB1:=Bx.new w 69 zvt
 have hO:=(eye_hand p F).lt hA
 have hA1:=(eye_hand p F).kept hA k1 (by simp)
 have HB1:=hide hB1
 have HA1:=hide hA1
 have HK1:=hide k1
 have HO:=hide hO
 clear k1 hB1 hA hA1 hO
 unfold zvt at HB1 HA1 HK1
 go_enter Tryz.func79,Tryz.ntmps79
 go_wp2_with fail
 refine (reading_call _ p).mono ?_
 rintro _ w2 ⟨rfl,hk2⟩
 have HK2:=hide (HK1.out.trans hk2 (by simp))
 have HB2:=hide (HB1.out.kept hk2 (by simp))
 have HA2:=hide ((eye_hand p F).kept HA1.out hk2 (by simp))
 clear hk2
 go_wp2_with fail
 have cR:Calls Tryz.prog 97 #[(eyeH p).a,.agg #[.int .i64 0,.int .i64 0,.int .i64 0,.string ⟨#[]⟩,.int .u64 0,.slice none 0 0,.int .i64 0]] w2 (WentV (AtE p F) w2 O (verP eyeP s vt0).2 m (verP eyeP s vt0).1):=verdict_call (eye_hand p F) w2 O s m vt0 (.slice none 0 0) (vtHy_zero O w2) HA2.out
 refine cR.mono ?_
 clear cR
 rintro _ w3 ⟨v3,rfl,hO3,O3,A3,hk3,hn3,hq3⟩
 have hb3:w.heap.size ∉ O:=fun hm=>by have:=HO.out _ hm;omega
 have HB3:=hide (HB2.out.kept hk3 hb3)
 obtain ⟨ao,nn,cc,rfl⟩:=koO_bare hO3
 have hk03:Kept O w w3:=(HK2.out.mono (by simp)).trans hk3 (fun i hi=>.inl hi)
 have HK03:=hide hk03
 have HO3:Hid (KoO (w.heap.size+1) w3 (.slice ao nn cc) (verP eyeP s vt0).1.k):=hO3.mono (by have:=HB2.out.lt;omega)
 have HA3:=hide A3
 have HN3:=hide hn3
 have HQ3:=hide hq3
 have hs2:=HK2.out.size
 obtain ⟨e3,hR3,hF3⟩:=A3
 have HR3:=hide hR3
 clear hO3 hk3 hn3 hq3 hb3 hk03 e3 hR3 hF3
 go_wp2_with fail
 refine (unlessV_call w3 p F _ _ (verP eyeP s vt0).1 ao nn cc HR3.out).mono ?_
 rintro _ w4 ⟨rfl,hk4⟩
 have HK4:=hide hk4
 have HB4:=hide (HB3.out.kept hk4 (by simp))
 clear hk4
 by_cases he:(verP eyeP s vt0).2.2=0
 ·rw [if_pos he,if_pos he]
  have HQ:Hid (heardV s=(verP eyeP s vt0).1):=by show (if _ then _ else _)=_;rw [if_pos he]
  have HOz:=hide (one_vtLE (verP eyeP s vt0).1 (.slice ao nn cc) (by rfl))
  have HT:Hid (RowT Tryz.prog 69 (vtLE (verP eyeP s vt0).1 (.slice ao nn cc)).length):=rowT_ver
  have HL:Hid ((vtLE (verP eyeP s vt0).1 (.slice ao nn cc)).length=zvt.length):=rfl
  unfold zvt at HL
  clear he
  go_wp2_with ((with_reducible refine wl_store_bx HB4.out HL.out HOz.out HT.out ?_ ?_ ?_);rfl;rfl;intro wz HBz HKz)
  refine bodyPost_ret (bx_result (by rfl) _ (by rfl) HBz.out HT.out) rfl ?_
  rw [HQ.out]
  have hbO:w.heap.size ∉ O3:=fun hm=>by
   rcases HN3.out _ hm with h | h
   ·have:=HO.out _ h;omega
   ·have:=HB2.out.lt;omega
  refine ⟨_,rfl,?_,O3,(eye_hand p F).kept ((eye_hand p F).kept HA3.out HK4.out (by simp)) HKz.out (by simpa using hbO),(HK03.out.trans HK4.out (by simp)).trans HKz.out (by simp),fun k hk=>?_,HQ3.out⟩
  ·exact ((HO3.out.kept HK4.out).off HKz.out (by simp)).mono (by omega)
  ·rcases HN3.out k hk with h | h
   ·exact .inl h
   ·exact .inr (by omega)
 ·rw [if_neg he,if_neg he]
  have HQ:Hid (heardV s=vt0):=by show (if _ then _ else _)=_;rw [if_neg he]
  have HOz:=hide (one_vtLE vt0 (.slice none 0 0) (by rfl))
  have HT:Hid (RowT Tryz.prog 69 (vtLE vt0 (.slice none 0 0)).length):=rowT_ver
  have HL:Hid ((vtLE vt0 (.slice none 0 0)).length=zvt.length):=rfl
  unfold zvt at HL
  clear he
  go_wp2_with ((with_reducible refine wl_store_bx HB4.out HL.out HOz.out HT.out ?_ ?_ ?_);rfl;rfl;intro wz HBz HKz)
  refine bodyPost_ret (bx_result (by rfl) _ (by rfl) HBz.out HT.out) rfl ?_
  rw [HQ.out]
  have hbO:w.heap.size ∉ O3:=fun hm=>by
   rcases HN3.out _ hm with h | h
   ·have:=HO.out _ h;omega
   ·have:=HB2.out.lt;omega
  refine ⟨_,rfl,KoO.nil _ _,O3,(eye_hand p F).kept ((eye_hand p F).kept HA3.out HK4.out (by simp)) HKz.out (by simpa using hbO),(HK03.out.trans HK4.out (by simp)).trans HKz.out (by simp),fun k hk=>?_,fun k hk=>by cases hk⟩
  rcases HN3.out k hk with h | h
  ·exact .inl h
  ·exact .inr (by omega)
end Go.Proofs.YtddhmfildfdbdaaGreat
