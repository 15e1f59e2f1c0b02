/-
  The image's eye: a verdict.
-/
import Derived.Test.YtddhmfildfdbdaaGreatQ2r
import Derived.Test.YtddhmfildfdbdaaGreatImEyer
import Derived.Test.YtddhmfildfdbdaaGreatQ15r
set_option maxHeartbeats 4000000
namespace Go.Proofs.YtddhmfildfdbdaaGreat
open Go.RowKit
theorem step_store_bx {ops:Array Oper}{a:Act}{w:World}{K:Act→World→Prop}{Q:Exit→Act→World→Prop}{E:Prop}{d:Option Tmp}{x y:Operand}{T ty:TypeId}{ps:String}{af:Array Edge}
 {b:Nat}{cs ds:List Value}(hc:Bx w b T cs) (hl:ds.length=cs.length) (h1:∀ v∈ds,v.oneCell'=true) (hT:RowT Tryz.prog T ds.length)
 (hx:a.eval x=.pointer (some ⟨b,0,none⟩)) (hy:a.eval y=.agg ds.toArray) (h:∀ w',Hid (Bx w' b T ds)→Hid (Kept [b] w w')→K (a.put d undef) w') :
 if Region.wanted (⟨d,.store T x y,ty,ps,af,none⟩:Oper) (yielded ops a.tmps)=true then Oper.wp Tryz.prog ⟨d,.store T x y,ty,ps,af,none⟩ a w K Q else E:=by
 obtain ⟨D,hu,hd,hi⟩:=hT
 exact step_plain rfl (wp_store_mid _ x y rfl b 0 ds.toArray hx hy (by rw [List.size_toArray,hl];exact hc.there) (by rw [List.size_toArray];exact hi) (all_oneCell_toArray h1) (h _ (hc.store hl) (setCells_kept (by simp) _ _ (Kept.refl _ _))))
def wSv (w:World) (p:Nat) (cs:List Value):World:=((w.alloc (.cells #[.pointer (some ⟨p,0,none⟩)] 38)).alloc (.cells cs.toArray 69)).alloc (.cells #[.int .i64 0,.int .i64 0,.int .i64 0,.string ⟨#[]⟩,.int .u64 0,.slice none 0 0,.int .i64 0] 69)
theorem wSv_is (w:World) (p:Nat) (cs:List Value):Kept [] w (wSv w p cs)∧Bx (wSv w p cs) (w.heap.size+1) 69 cs∧Bx (wSv w p cs) (w.heap.size+2) 69 zvt∧(wSv w p cs).cell? ⟨w.heap.size,0,none⟩=some (.pointer (some ⟨p,0,none⟩)):=by
 have k1:Kept [] w (w.alloc (.cells #[.pointer (some ⟨p,0,none⟩)] 38)):=(Kept.refl _ _).alloc _
 have k2:Kept [] (w.alloc (.cells #[.pointer (some ⟨p,0,none⟩)] 38)) ((w.alloc (.cells #[.pointer (some ⟨p,0,none⟩)] 38)).alloc (.cells cs.toArray 69)):=(Kept.refl _ _).alloc _
 have k3:Kept [] ((w.alloc (.cells #[.pointer (some ⟨p,0,none⟩)] 38)).alloc (.cells cs.toArray 69)) (wSv w p cs):=(Kept.refl _ _).alloc _
 have n1:(w.alloc (.cells #[.pointer (some ⟨p,0,none⟩)] 38)).heap.size=w.heap.size+1:=by simp
 have n2:((w.alloc (.cells #[.pointer (some ⟨p,0,none⟩)] 38)).alloc (.cells cs.toArray 69)).heap.size=w.heap.size+2:=by simp
 refine ⟨(k1.trans k2 (by simp)).trans k3 (by simp),?_,?_,cell_inC (k:=0) (k3.at (k2.at (heap_alloc_new w _) (by simp)) (by simp)) rfl⟩
 ·have h:=(Bx.new (w.alloc (.cells #[.pointer (some ⟨p,0,none⟩)] 38)) 69 cs).kept k3 (by simp)
  rw [n1] at h;exact h
 ·have h:=Bx.new ((w.alloc (.cells #[.pointer (some ⟨p,0,none⟩)] 38)).alloc (.cells cs.toArray 69)) 69 zvt
  rw [n2] at h;exact h
set_option maxRecDepth 100000 in
theorem soundV_ok (w:World) (p:Nat) (F:List Nat) (l:List Int) (x:Vt) (uo:Option Addr) (un uc:Nat) (hR:Rd w p F l 0) :
 Calls Tryz.prog 78 #[eyV p,vtV x (.slice uo un uc)] w fun r w'=>r=.returned (vtV x (.slice uo un uc))∧Kept [] w w':=by
 obtain ⟨k1,hX,hZ,hq⟩:=wSv_is w p (vtLE x (.slice uo un uc))
 obtain ⟨W,hW⟩:∃ W,W=wSv w p (vtLE x (.slice uo un uc)):=⟨_,rfl⟩
 rw [← hW] at k1 hX hZ hq
 have cF:=fail_call W p F l 0 (Rd.kept k1 hR (by simp) (by simp))
 have cM:=must_ok W
 have HX:=hide hX
 have HZ:=hide hZ
 have HK:=hide k1
 clear hR hX hZ k1
 unfold wSv vtLE at hW
 unfold eyV vtV
 go_enter Tryz.func78,Tryz.ntmps78
 go_upto_region 1 with fail
 rw [← hW]
 clear hW
 go_wp2_with fail
 refine cF.mono ?_
 rintro _ _ ⟨rfl,rfl⟩
 go_wp2_with fail
 refine cM.mono ?_
 rintro _ _ ⟨rfl,rfl⟩
 have HRT:Hid (RowT Tryz.prog 69 (vtLE x (.slice uo un uc)).length):=rowT_ver
 have HLn:Hid ((vtLE x (.slice uo un uc)).length=zvt.length):=rfl
 have HOne:=hide (one_vtLE x (.slice uo un uc) rfl)
 clear cF cM hq
 go_wp2_with (first | ((with_reducible refine wl_load_bx HX.out HRT.out ?_ ?_);rfl) | ((with_reducible refine wl_store_bx HZ.out HLn.out HOne.out HRT.out ?_ ?_ ?_);rfl;rfl;intro wz HBz HKz))
 refine bodyPost_ret (bx_result (by rfl) _ (by rfl) HBz.out HRT.out) rfl ?_
 refine ⟨rfl,HK.out.trans HKz.out (fun i hi=>.inr ?_)⟩
 simp at hi;omega
set_option maxRecDepth 100000 in
theorem soundV_bad (w:World) (p:Nat) (F:List Nat) (l:List Int) (e:Int) (x:Vt) (uo:Option Addr) (un uc:Nat) (hR:Rd w p F l e) (he:e≠0) :
 Calls Tryz.prog 78 #[eyV p,vtV x (.slice uo un uc)] w fun r w'=>r=pncE e∧Kept [] w w':=by
 obtain ⟨k1,hX,hZ,hq⟩:=wSv_is w p (vtLE x (.slice uo un uc))
 obtain ⟨W,hW⟩:∃ W,W=wSv w p (vtLE x (.slice uo un uc)):=⟨_,rfl⟩
 rw [← hW] at k1 hX hZ hq
 have cF:=fail_call W p F l e (Rd.kept k1 hR (by simp) (by simp))
 have cM:=must_bad W e he
 clear hR hX hZ he
 unfold wSv vtLE at hW
 unfold eyV vtV
 unfold pncE at *
 go_enter Tryz.func78,Tryz.ntmps78
 go_upto_region 1 with fail
 rw [← hW]
 clear hW
 go_wp2_with fail
 refine cF.mono ?_
 rintro _ _ ⟨rfl,rfl⟩
 go_wp2_with fail
 refine cM.mono ?_
 rintro _ _ ⟨rfl,rfl⟩
 go_wp2_with fail
 exact ⟨rfl,rfl,k1⟩
set_option linter.unusedSimpArgs false in
set_option maxRecDepth 100000 in
theorem eyVt_call (w:World) (p:Nat) (F:List Nat) (l:List Int) (hR:Rd w p F l 0) (hF:∀ k∈F,k < w.heap.size) :
 Calls Tryz.prog 53 #[eyV p] w (Eyd p F w (verR (l,0)) (fun x W v=>∃ uo un uc,v=vtV x (.slice uo un uc)∧KoO w.heap.size W (.slice uo un uc) x.k)):=by
 have k1:Kept [] w (w.alloc (.cells #[.pointer (some ⟨p,0,none⟩)] 38)):=(Kept.refl _ _).alloc _
 have k2:Kept [] (w.alloc (.cells #[.pointer (some ⟨p,0,none⟩)] 38)) ((w.alloc (.cells #[.pointer (some ⟨p,0,none⟩)] 38)).alloc (.cells #[.int .i64 0,.int .i64 0,.int .i64 0,.string ⟨#[]⟩,.int .u64 0,.slice none 0 0,.int .i64 0] 69)):=(Kept.refl _ _).alloc _
 obtain ⟨W,hW⟩:∃ W,W=(w.alloc (.cells #[.pointer (some ⟨p,0,none⟩)] 38)).alloc (.cells #[.int .i64 0,.int .i64 0,.int .i64 0,.string ⟨#[]⟩,.int .u64 0,.slice none 0 0,.int .i64 0] 69):=⟨_,rfl⟩
 have hpw:=hR.lt
 have hq:W.drew.cell? ⟨w.heap.size,0,none⟩=some (.pointer (some ⟨p,0,none⟩)):=by rw [hW];exact cell_inC (k:=0) (k2.at (heap_alloc_new w _) (by simp)) rfl
 have hV:Bx W.drew (w.heap.size+1) 69 zvt:=by
  have h:=heap_alloc_new (w.alloc (.cells #[.pointer (some ⟨p,0,none⟩)] 38)) (.cells #[.int .i64 0,.int .i64 0,.int .i64 0,.string ⟨#[]⟩,.int .u64 0,.slice none 0 0,.int .i64 0] 69)
  rw [World.size_alloc] at h
  rw [hW];exact h
 have hWz:W.drew.heap.size=w.heap.size+2:=by rw [hW];simp [World.drew]
 rw [← hW] at k2
 have kW:Kept [] w W.drew:=(k1.trans k2 (by simp)).trans (Kept.refl [] W).drew (by simp)
 have cH:=heard_callE p F W.drew (p :: F) (l,0) 0 ⟨rfl,Rd.kept kW hR (by simp) (by simp),fun k hk=>Nat.lt_of_lt_of_le (hF k hk) kW.size⟩
 have HQ:Hid (heardV (l,0)=if (verR (l,0)).2.2=0 then (verR (l,0)).1 else vt0):=rfl
 have HC:Hid (verP eyeP (l,0) vt0=verR (l,0)):=rfl
 rw [HC.out] at cH
 generalize verR (l,0)=q at *
 obtain ⟨x,l1,e1⟩:=q
 have HK:=hide kW
 have HV:=hide hV
 have HZ:=hide hWz
 have HF:=hide hF
 have HPw:=hide hpw
 clear hR k1 k2 kW hV hWz hF hpw HC
 unfold eyV Eyd pncE
 go_enter Tryz.func53,Tryz.ntmps53
 go_upto_region 1 with fail
 rw [← hW]
 clear hW
 refine wp_region_held_drew (S:=fun w9=>w9.cell? ⟨w.heap.size,0,none⟩=some (.pointer (some ⟨p,0,none⟩))) (by kernel_rfl) hq (fun hHeld=>?_)
 refine tks [0,1,2] (by rfl) (by kernel_rfl) (fun _ _ _ _ _ h=>h) hHeld ?_
 iterate 3
  refine yk ?_ rfl (Or.inl ⟨by rfl,?_⟩) ?_
  rotate_left
  ·intro w9 hSw;(try dsimp only at hSw);go_simp;(try with_reducible rfl)
  try simp only [sT,Act.put]
 refine yk0 ?_
 simp only [setK,sT]
 refine rd1 3 (by kernel_rfl) rfl (fun K0 hK0=>?_)
 go_simp
 refine cH.mono ?_
 clear cH
 rintro _ w1 ⟨v,rfl,hO,O',⟨rfl,hR1,hF1⟩,hk1,hn1,hq1⟩
 obtain ⟨uo,un,uc,rfl⟩:=koO_bare hO
 have hb:∀ b,w.heap.size≤b→b ∉ p :: F:=fun b h1 hm=>by
  rcases List.mem_cons.1 hm with h | h
  ·have:=HPw.out;omega
  ·have:=HF.out b h;omega
 have hqa:=hk1.cell hq (hb _ (Nat.le_refl _))
 have HV1:Hid (Bx w1 (w.heap.size+1) 69 zvt):=hk1.at HV.out (hb _ (by omega))
 have HO:=hide hO
 have HR1:=hide hR1
 have HK1:Hid (Kept (p :: F) w w1):=(HK.out.mono (by simp)).trans hk1 (fun i hi=>.inl hi)
 have hwz:=hk1.size
 have HS1:Hid (w.heap.size+2≤w1.heap.size):=by show _≤_;have:=HZ.out;omega
 clear hO hR1 hF1 hk1 hn1 hq1 hb hq hwz
 simp only at HR1
 go_wp2_with fail
 refine hK0.out _ _ hqa (fun hHeld=>?_)
 clear hK0 K0
 try simp only [sT,Act.put]
 refine rd1 4 (by kernel_rfl) rfl (fun K0 hK0=>?_)
 go_simp
 by_cases he:e1=0
 ·subst he
  have hx:heardV (l,0)=x:=HQ.out
  rw [hx] at HO ⊢
  have cS:=soundV_ok w1 p F l1 x uo un uc HR1.out
  unfold eyV vtV at cS
  refine cS.mono ?_
  clear cS
  rintro _ w2 ⟨rfl,hk⟩
  have hqb:=hk.cell hqa (by simp)
  have HV2:=hide (HV1.out.kept hk (by simp))
  have HR2:=hide (Rd.kept hk HR1.out (by simp) (by simp))
  have HK2:=hide (HK1.out.trans hk (by simp))
  have HO2:=hide (HO.out.kept hk)
  clear hk hx
  go_wp2_with fail
  refine hK0.out _ _ hqb (fun hHeld=>?_)
  clear hK0 K0
  try simp only [sT,Act.put]
  refine rd1 5 (by kernel_rfl) rfl (fun K0 hK0=>?_)
  refine step_store_bx (ds:=vtLE x (.slice uo un uc)) HV2.out rfl (one_vtLE _ _ rfl) rowT_ver rfl rfl fun w3 HV3 HK3=>?_
  refine hK0.out _ _ (HK3.out.cell hqb (by simp)) (fun hHeld=>?_)
  clear hK0 K0
  try simp only [sT,Act.put]
  refine wpAnyH_done (by kernel_rfl) ?_ _
  clear hHeld
  go_wp2_with fail
  refine bodyPost_ret (vt_res (by rfl) _ (by rfl) HV3.out rfl) rfl ?_
  refine ⟨HK2.out.trans HK3.out (fun i hi=>.inr ?_),_,rfl,⟨uo,un,uc,rfl,?_⟩,?_⟩
  ·simp at hi;omega
  ·exact (HO2.out.off HK3.out (fun k hk=>by simp at hk;have:=HZ.out;omega)).mono (by have:=HZ.out;omega)
  ·refine Rd.kept HK3.out HR2.out ?_ ?_
   ·have:=HPw.out;simp;omega
   ·intro k hk hm;have:=HF.out k hk;simp at hm;omega
 ·have hx:heardV (l,0)=vt0:=by have h:=HQ.out;rw [if_neg he] at h;exact h
  have cS:=soundV_bad w1 p F l1 e1 (heardV (l,0)) uo un uc HR1.out he
  unfold eyV vtV pncE at cS
  refine cS.mono ?_
  clear cS
  rintro _ w2 ⟨rfl,hk⟩
  have HKf:=hide (HK1.out.trans hk (by simp))
  have HE:=hide he
  clear hk he hx
  go_wp2_with fail
  exact ⟨rfl,HKf.out,.inr ⟨HE.out,rfl⟩⟩
end Go.Proofs.YtddhmfildfdbdaaGreat
