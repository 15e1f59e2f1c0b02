/-
  Texts of this claim that are laid as one: ImEy3, ImEyS.
-/
import Derived.Test.YtddhmfildfdbdaaGreatW10r
import Derived.Test.YtddhmfildfdbdaaGreatImEyVr
set_option maxHeartbeats 8000000
/-
 The image's eye: a session. (Written by mk/mkey2.py.)
-/
namespace Go.Proofs.YtddhmfildfdbdaaGreat
open Go.RowKit
theorem se_parts {l l1:List Int}{x e1:Int}(h1:numR (l,0)=(x,(l1,e1))):(e1≠0→(seR (l,0)).2.2=e1)∧(e1=0→∀ y l2 e2,numR (l1,0)=(y,(l2,e2))→(e2≠0→(seR (l,0)).2.2=e2)∧(e2=0→∀ t l3 e3,txR 24 (l2,0)=(t,(l3,e3))→(e3≠0→(seR (l,0)).2.2=e3)∧(e3=0→∀ v l4 e4,verR (l3,0)=(v,(l4,e4))→seR (l,0)=(⟨x,y,t,v⟩,(l4,e4))))):=by
 constructor
 ·intro he
  exact seq_bad2 cdc_num (fun _=>cdc_num.seq (fun _=>(cdc_tx 24 (by omega)).seq (fun _=>cdcV))) h1 he
 ·rintro rfl y l2 e2 h2
  have h:=seq_goes (B:=fun _=>seqR numR fun _=>seqR (txR 24) fun _=>verR) h1
  constructor
  ·intro he
   show (seqR numR (fun _=>seqR numR fun _=>seqR (txR 24) fun _=>verR) (l,0)).2.2=e2
   rw [h]
   exact seq_bad2 cdc_num (fun _=>(cdc_tx 24 (by omega)).seq (fun _=>cdcV)) h2 he
  ·rintro rfl t l3 e3 h3
   have h':=seq_goes (B:=fun _=>seqR (txR 24) fun _=>verR) h2
   constructor
   ·intro he
    show (seqR numR (fun _=>seqR numR fun _=>seqR (txR 24) fun _=>verR) (l,0)).2.2=e3
    rw [h]
    show (seqR numR (fun _=>seqR (txR 24) fun _=>verR) (l1,0)).2.2=e3
    rw [h']
    exact seq_bad2 (cdc_tx 24 (by omega)) (fun _=>cdcV) h3 he
   ·rintro rfl v l4 e4 h4
    have h'':=seq_goes (B:=fun _=>verR) h3
    rw [h4] at h''
    rw [h''] at h'
    rw [h'] at h
    show ((fun p:Int × Int × List UInt8 × Vt=>(⟨p.1,p.2.1,p.2.2.1,p.2.2.2⟩:Se)) (seqR numR (fun _=>seqR numR fun _=>seqR (txR 24) fun _=>verR) (l,0)).1,(seqR numR (fun _=>seqR numR fun _=>seqR (txR 24) fun _=>verR) (l,0)).2)=_
    rw [h]
theorem rowT_seI:RowT Tryz.prog 71 10:=⟨_,Tryz.underlying71,rfl,by kernel_rfl⟩
theorem one_seI (a b:Int) (t:List UInt8) (x:Vt) (u:Option Addr) (n c:Nat):∀ v∈[Value.int .i64 a,.int .i64 b,.string (str t),.int .i64 x.c,.int .i64 x.s,.int .i64 x.r,.string (str x.p),.int .u64 x.d,.slice u n c,.int .i64 x.m],v.oneCell'=true:=by
 intro v hv;simp at hv;rcases hv with rfl | rfl | rfl | rfl | rfl | rfl | rfl | rfl | rfl | rfl <;> rfl
set_option maxRecDepth 100000 in
theorem eySe_call (w:World) (p:Nat) (F:List Nat) (l:List Int) (hR:Rd w p F l 0) (hF:∀ k∈F,k < w.heap.size) :
 Calls Tryz.prog 28 #[eyV p] w (Eyd p F w (seR (l,0)) (fun x W v=>∃ u,v=.agg #[.int .i64 x.i,.int .i64 x.q,.string (str x.n),.int .i64 x.v.c,.int .i64 x.v.s,.int .i64 x.v.r,.string (str x.v.p),.int .u64 x.v.d,u,.int .i64 x.v.m]∧KoO w.heap.size W u x.v.k)):=by
 have hmf:∀ (fn:Go.Fn) (first cap:Array Value) (w:World),(Instr.makeFunc fn first cap).run Tryz.prog w=.ok (.func fn first cap) w:=fun _ _ _ _=>rfl
 have HS0:=hide (Sx.new 71 [.int .i64 0,.int .i64 0,.string ⟨#[]⟩,.int .i64 0,.int .i64 0,.int .i64 0,.string ⟨#[]⟩,.int .u64 0,.slice none 0 0,.int .i64 0] hR hF)
 have HOF:=hide hF
 obtain ⟨x,l1,e1,h1⟩:∃ x t e,numR (l,0)=(x,(t,e)):=⟨_,_,_,rfl⟩
 obtain ⟨y,l2,e2,h2⟩:∃ x t e,numR (l1,0)=(x,(t,e)):=⟨_,_,_,rfl⟩
 obtain ⟨t,l3,e3,h3⟩:∃ x t e,txR 24 (l2,0)=(x,(t,e)):=⟨_,_,_,rfl⟩
 obtain ⟨vt,l4,e4,h4⟩:∃ x t e,verR (l3,0)=(x,(t,e)):=⟨_,_,_,rfl⟩
 obtain ⟨res,hres⟩:∃ res,res=seR (l,0):=⟨_,rfl⟩
 have HC:=hide (se_parts h1)
 rw [← hres] at HC ⊢
 have HH1:=hide h1
 have HH2:=hide h2
 have HH3:=hide h3
 have HH4:=hide h4
 clear hR hF hres h1 h2 h3 h4
 obtain ⟨W,hW⟩:∃ W,W=((w.alloc (.cells #[.pointer (some ⟨p,0,none⟩)] 38)).alloc (.cells #[.int .i64 0,.int .i64 0,.string ⟨#[]⟩,.int .i64 0,.int .i64 0,.int .i64 0,.string ⟨#[]⟩,.int .u64 0,.slice none 0 0,.int .i64 0] 71)).alloc (.cells #[.int .i64 0,.int .i64 0,.string ⟨#[]⟩,.int .i64 0,.int .i64 0,.int .i64 0,.string ⟨#[]⟩,.int .u64 0,.slice none 0 0,.int .i64 0] 71):=⟨_,rfl⟩
 have HSW:Hid (Sx 71 [.int .i64 0,.int .i64 0,.string ⟨#[]⟩,.int .i64 0,.int .i64 0,.int .i64 0,.string ⟨#[]⟩,.int .u64 0,.slice none 0 0,.int .i64 0] w p F W l [.int .i64 0,.int .i64 0,.string ⟨#[]⟩,.int .i64 0,.int .i64 0,.int .i64 0,.string ⟨#[]⟩,.int .u64 0,.slice none 0 0,.int .i64 0]):=by rw [hW];exact HS0
 have q0:=HSW.out.e
 have c0:=eyN_call W p F l HSW.out.d
 rw [HH1.out] at c0
 unfold eyV at c0
 clear HS0
 unfold eyV at *
 go_enter Tryz.func28,Tryz.ntmps28
 go_upto_region 2 with fail
 rw [← hW]
 clear hW
 go_wp2_with fail
 refine c0.mono ?_
 clear c0
 rintro r w1 hE
 rcases hE.cases with ⟨he,hk1,v1,rfl,hv1,hR1⟩ | ⟨he,hk1,rfl⟩
 ·subst he
  subst hv1
  have HS1a:=hide (HSW.out.call hk1 hR1)
  have n0:w1.cell? ⟨w.heap.size+1+1,0,none⟩=some (.int .i64 0):=HS1a.out.x.cell 0 rfl
  have f0:w1.frozen? ⟨w.heap.size+1+1,0,none⟩=false:=HS1a.out.x.froz 0
  clear hE hk1 hR1 q0 HSW
  go_upto_region 3 with fail
  obtain ⟨W1,hW1⟩:∃ W1,W1=w1.setCell ⟨w.heap.size+1+1,0,none⟩ (.int .i64 x):=⟨_,rfl⟩
  rw [← hW1]
  have HS1:Hid (Sx 71 [.int .i64 0,.int .i64 0,.string ⟨#[]⟩,.int .i64 0,.int .i64 0,.int .i64 0,.string ⟨#[]⟩,.int .u64 0,.slice none 0 0,.int .i64 0] w p F W1 l1 [.int .i64 x,.int .i64 0,.string ⟨#[]⟩,.int .i64 0,.int .i64 0,.int .i64 0,.string ⟨#[]⟩,.int .u64 0,.slice none 0 0,.int .i64 0]):=by rw [hW1];exact HS1a.out.set 0 (.int .i64 x)
  have q1:=HS1.out.e
  clear hW1 n0 f0 HS1a
  have c1:=eyN_call W1 p F l1 HS1.out.d
  rw [HH2.out] at c1
  unfold eyV at c1
  go_wp2_with fail
  refine c1.mono ?_
  clear c1
  rintro r w2 hE
  rcases hE.cases with ⟨he,hk2,v2,rfl,hv2,hR2⟩ | ⟨he,hk2,rfl⟩
  ·subst he
   subst hv2
   have HS2a:=hide (HS1.out.call hk2 hR2)
   have n1:w2.cell? ⟨w.heap.size+1+1,1,none⟩=some (.int .i64 0):=HS2a.out.x.cell 1 rfl
   have f1:w2.frozen? ⟨w.heap.size+1+1,1,none⟩=false:=HS2a.out.x.froz 1
   clear hE hk2 hR2 q1 HS1
   go_upto_region 4 with fail
   obtain ⟨W2,hW2⟩:∃ W2,W2=w2.setCell ⟨w.heap.size+1+1,1,none⟩ (.int .i64 y):=⟨_,rfl⟩
   rw [← hW2]
   have HS2:Hid (Sx 71 [.int .i64 0,.int .i64 0,.string ⟨#[]⟩,.int .i64 0,.int .i64 0,.int .i64 0,.string ⟨#[]⟩,.int .u64 0,.slice none 0 0,.int .i64 0] w p F W2 l2 [.int .i64 x,.int .i64 y,.string ⟨#[]⟩,.int .i64 0,.int .i64 0,.int .i64 0,.string ⟨#[]⟩,.int .u64 0,.slice none 0 0,.int .i64 0]):=by rw [hW2];exact HS2a.out.set 1 (.int .i64 y)
   have q2:=HS2.out.e
   clear hW2 n1 f1 HS2a
   have c2:=eyT_call W2 p F l2 24 HS2.out.d
   rw [HH3.out] at c2
   unfold eyV at c2
   go_wp2_with fail
   refine c2.mono ?_
   clear c2
   rintro r w3 hE
   rcases hE.cases with ⟨he,hk3,v3,rfl,hv3,hR3⟩ | ⟨he,hk3,rfl⟩
   ·subst he
    subst hv3
    have HS3a:=hide (HS2.out.call hk3 hR3)
    have n2:w3.cell? ⟨w.heap.size+1+1,2,none⟩=some (.string ⟨#[]⟩):=HS3a.out.x.cell 2 rfl
    have f2:w3.frozen? ⟨w.heap.size+1+1,2,none⟩=false:=HS3a.out.x.froz 2
    clear hE hk3 hR3 q2 HS2
    go_upto_region 5 with fail
    obtain ⟨W3,hW3⟩:∃ W3,W3=w3.setCell ⟨w.heap.size+1+1,2,none⟩ (.string (str t)):=⟨_,rfl⟩
    rw [← hW3]
    have HS3:Hid (Sx 71 [.int .i64 0,.int .i64 0,.string ⟨#[]⟩,.int .i64 0,.int .i64 0,.int .i64 0,.string ⟨#[]⟩,.int .u64 0,.slice none 0 0,.int .i64 0] w p F W3 l3 [.int .i64 x,.int .i64 y,.string (str t),.int .i64 0,.int .i64 0,.int .i64 0,.string ⟨#[]⟩,.int .u64 0,.slice none 0 0,.int .i64 0]):=by rw [hW3];exact HS3a.out.set 2 (.string (str t))
    have q3:=HS3.out.e
    clear hW3 n2 f2 HS3a
    have c3:=eyVt_call W3 p F l3 HS3.out.d (fun k hk=>Nat.lt_of_lt_of_le (HOF.out k hk) HS3.out.k.size)
    rw [HH4.out] at c3
    unfold eyV at c3
    go_wp2_with fail
    refine c3.mono ?_
    clear c3
    rintro r w4 hE
    rcases hE.cases with ⟨he,hk4,v4,rfl,hv4,hR4⟩ | ⟨he,hk4,rfl⟩
    ·subst he
     obtain ⟨ua,un,uc,rfl,hv4⟩:=hv4
     have HU4:=hide hv4
     have HZ4:=hide HS3.out.x.lt
     have HS4a:=hide (HS3.out.call hk4 hR4)
     have HXp:Hid (Bx w4 (w.heap.size+2) 71 ([.int .i64 x,.int .i64 y,.string (str t)]++zvt++[])):=HS4a.out.x
     have HLp:Hid ((vtLE vt (.slice ua un uc)).length=zvt.length):=rfl
     have HOp:=hide (one_vtLE vt (.slice ua un uc) rfl)
     have HTp:Hid (RowT Tryz.prog 69 (vtLE vt (.slice ua un uc)).length):=rowT_ver
     clear hE hk4 hR4 q3 HS3
     go_upto_region 6 with ((with_reducible refine wl_store_part (o:=3) HXp.out rfl HLp.out HOp.out HTp.out ?_ ?_ ?_);rfl;rfl;intro wv HBv HKs)
     have HS4:Hid (Sx 71 [.int .i64 0,.int .i64 0,.string ⟨#[]⟩,.int .i64 0,.int .i64 0,.int .i64 0,.string ⟨#[]⟩,.int .u64 0,.slice none 0 0,.int .i64 0] w p F wv l4 [.int .i64 x,.int .i64 y,.string (str t),.int .i64 vt.c,.int .i64 vt.s,.int .i64 vt.r,.string (str vt.p),.int .u64 vt.d,.slice ua un uc,.int .i64 vt.m]):=HS4a.out.put HKs.out HBv.out
     clear HBv HXp HLp HOp HTp HS4a
     have HQ:=hide (((HC.out.2 (by trivial) _ _ _ HH2.out).2 (by trivial) _ _ _ HH3.out).2 (by trivial) _ _ _ HH4.out)
     have HX:=hide HS4.out.x
     have HZ:=hide HS4.out.r
     have HLn:Hid (([.int .i64 x,.int .i64 y,.string (str t),.int .i64 vt.c,.int .i64 vt.s,.int .i64 vt.r,.string (str vt.p),.int .u64 vt.d,.slice ua un uc,.int .i64 vt.m]:List Value).length=([.int .i64 0,.int .i64 0,.string ⟨#[]⟩,.int .i64 0,.int .i64 0,.int .i64 0,.string ⟨#[]⟩,.int .u64 0,.slice none 0 0,.int .i64 0]:List Value).length):=rfl
     have HOne:Hid (∀ v∈([.int .i64 x,.int .i64 y,.string (str t),.int .i64 vt.c,.int .i64 vt.s,.int .i64 vt.r,.string (str vt.p),.int .u64 vt.d,.slice ua un uc,.int .i64 vt.m]:List Value),v.oneCell'=true):=one_seI x y t vt ua un uc
     have HRT:Hid (RowT Tryz.prog 71 ([.int .i64 x,.int .i64 y,.string (str t),.int .i64 vt.c,.int .i64 vt.s,.int .i64 vt.r,.string (str vt.p),.int .u64 vt.d,.slice ua un uc,.int .i64 vt.m]:List Value).length):=rowT_seI
     go_wp2_with (first | ((with_reducible refine wl_load_bx HX.out HRT.out ?_ ?_);rfl) | ((with_reducible refine wl_store_bx HZ.out HLn.out HOne.out HRT.out ?_ ?_ ?_);rfl;rfl;intro wz HBz HKz))
     refine bodyPost_ret (bx_result (by rfl) _ (by rfl) HBz.out HRT.out) rfl ?_
     rw [HQ.out]
     obtain ⟨hk,hr⟩:=HS4.out.fin HKz.out
     refine ⟨hk,.inl ⟨rfl,_,rfl,⟨_,rfl,?_⟩,hr⟩⟩
     have hz:=HZ4.out
     exact ((HU4.out.low HKs.out (by simp;omega)).low HKz.out (by simp;omega)).mono (by omega)
    ·have HQ:=hide (((HC.out.2 (by trivial) _ _ _ HH2.out).2 (by trivial) _ _ _ HH3.out).2 (by trivial) _ _ _ HH4.out)
     have HKf:=hide (HS3.out.k.trans hk4 (fun i hi=>.inl hi))
     unfold pncE
     go_wp2_with fail
     rw [HQ.out]
     exact ⟨rfl,HKf.out,.inr ⟨he,rfl⟩⟩
   ·have HQ:=hide (((HC.out.2 (by trivial) _ _ _ HH2.out).2 (by trivial) _ _ _ HH3.out).1 he)
    have HKf:=hide (HS2.out.k.trans hk3 (fun i hi=>.inl hi))
    unfold pncE
    go_wp2_with fail
    refine ⟨rfl,HKf.out,.inr ⟨by rw [HQ.out];exact he,?_⟩⟩
    rw [HQ.out];rfl
  ·have HQ:=hide ((HC.out.2 (by trivial) _ _ _ HH2.out).1 he)
   have HKf:=hide (HS1.out.k.trans hk2 (fun i hi=>.inl hi))
   unfold pncE
   go_wp2_with fail
   refine ⟨rfl,HKf.out,.inr ⟨by rw [HQ.out];exact he,?_⟩⟩
   rw [HQ.out];rfl
 ·have HQ:=hide (HC.out.1 he)
  have HKf:=hide (HSW.out.k.trans hk1 (fun i hi=>.inl hi))
  unfold pncE
  go_wp2_with fail
  refine ⟨rfl,HKf.out,.inr ⟨by rw [HQ.out];exact he,?_⟩⟩
  rw [HQ.out];rfl
theorem bSe_pos (x:Se):0 < (bSe x).length:=by
 have:=encNum_pos x.i
 unfold bSe;rw [List.length_append];omega
def EysI (p:Nat) (F:List Nat) (w:World) (l l1:List Int) (lv iv:Value) (N:Nat) (wr:World):Prop :=
 ∃ (j:Nat) (L:List Se) (lj:List Int),iv=.int .i64 (j:Int)∧j≤N∧Hid (LsS w.heap.size wr lv L)∧Hid (Rd wr p F lj 0)∧Hid (Kept (p :: F) w wr)∧Hid (repR seR j (l1,0)=(L,(lj,0)))∧L.length=j∧j+lj.length≤l.length
set_option maxRecDepth 100000 in
theorem eySs_call (w:World) (p:Nat) (F:List Nat) (l:List Int) (most:Nat) (hm:most≤1099511627776) (hR:Rd w p F l 0) (hF:∀ k∈F,k < w.heap.size) (hl:l.length≤1000000) :
 Calls Tryz.prog 27 #[eyV p,.int .i64 most,.func (.func 28) #[eyV p] #[]] w (Eyd p F w (lsR most seR (l,0)) (fun L W v=>LsS w.heap.size W v L)):=by
 have hpw:=hR.lt
 have hoc:=hR.oct
 have k1:Kept [] w (w.alloc (.cells #[.pointer (some ⟨p,0,none⟩)] 38)):=(Kept.refl _ _).alloc _
 have hq:(w.alloc (.cells #[.pointer (some ⟨p,0,none⟩)] 38)).cell? ⟨w.heap.size,0,none⟩=some (.pointer (some ⟨p,0,none⟩)):=by simp [World.cell?_alloc_new]
 have cN:=eyN_call _ p F l (Rd.kept k1 hR (by simp) (by simp))
 have henter:∀ (a:Array Value) (w:World),Sem.run Tryz.prog (callFunc 28 a) w=.ok (.enter 28 a) w:=fun _ _=>by kernel_rfl
 have hshort:∀ x t,numR (l,0)=(x,(t,0))→t.length < l.length∧0≤x∧x≤1099511627776:=fun x t h=>⟨(cdc_num.eats encNum_pos) l x t hoc h,(good_iff x).1 (cdc_num.bwd l x t hoc h).1⟩
 obtain ⟨res,hres⟩:∃ res,res=lsR most seR (l,0):=⟨_,rfl⟩
 have HB1:Hid ((numR (l,0)).2.2≠0→res.2.2=(numR (l,0)).2.2):=fun h=>by rw [hres];exact ls_bad (most:Int) (by omega) cdc_se se0 h
 have HB2:Hid (∀ x t,numR (l,0)=(x,(t,0))→(most:Int) < x→res.2.2=4):=fun x t h1 h2=>by rw [hres];exact ls_much (by omega) h1 h2
 have HB3:Hid (∀ x t,numR (l,0)=(x,(t,0))→¬ (most:Int) < x→res=repR seR x.toNat (t,0)):=fun x t h1 h2=>by rw [hres];exact ls_goes h1 h2
 rw [← hres]
 have HF:=hide hF
 have HOF:Hid (∀ k∈p :: F,k < w.heap.size):=fun k hk=>by
  rcases List.mem_cons.1 hk with h | h
  ·rw [h];exact hpw
  ·exact hF k h
 generalize numR (l,0)=q at *
 obtain ⟨x,l1,e1⟩:=q
 clear hR hF hres hoc
 unfold eyV at *
 go_enter Tryz.func27,Tryz.ntmps27
 go_wp2_with fail
 refine cN.mono ?_
 clear cN
 rintro r w1 hE
 rcases hE.cases with ⟨he,hk1,v1,rfl,hv1,hR1⟩ | ⟨he,hk1,rfl⟩
 ·subst he hv1
  obtain ⟨hs1,hx0,hx1⟩:=hshort x l1 rfl
  obtain ⟨N,rfl⟩:∃ N:Nat,x=(N:Int):=⟨x.toNat,by omega⟩
  have HR1:=hide hR1
  have HKw:Hid (Kept (p :: F) w w1):=(k1.mono (by simp)).trans hk1 (fun i hi=>.inl hi)
  clear hE hk1 hR1 hshort HB1
  by_cases hmo:(most:Int) < N
  ·have HE:Hid (res.2.2=4):=HB2.out _ _ rfl hmo
   (try unfold pncE)
   go_wp2_with fail
   refine ⟨rfl,HKw.out,.inr ⟨by rw [HE.out];decide,?_⟩⟩
   rw [HE.out];rfl
  ·have HRP:Hid (res=repR seR N (l1,0)):=by
    have h:=HB3.out _ _ rfl (by omega)
    rw [Int.toNat_natCast] at h
    exact h
   clear HB2 HB3
   have hmd:decide (most < N)=false:=decide_eq_false (by omega)
   go_wp2_with fail
   go_loopw [8,16] (fun lv iv wr=>EysI p F w l l1 lv iv N wr) (fun _ iv _=>N - (intOf iv).toNat)
   case atStart=>exact ⟨0,[],l1,rfl,Nat.zero_le _,LsS.nil _ _,HR1,HKw,rfl,rfl,by omega⟩
   case round =>
    obtain ⟨j,L,lj,rfl,hj,HO,HR,HK,HI,hLl,hjl⟩:=hrel
    by_cases hlt:j < N
    ·have hlt':(j:Int) < N:=by omega
     have hFr:∀ k∈F,k < wr.heap.size:=fun k hk=>Nat.lt_of_lt_of_le (HF.out k hk) HK.out.size
     have cE:=eySe_call wr p F lj HR.out hFr
     have HNX:Hid (repR seR (j+1) (l1,0)=(L++[(seR (lj,0)).1],(seR (lj,0)).2)):=by show _=_;rw [rep_snoc,HI.out]
     have HEat:Hid (∀ x t,seR (lj,0)=(x,(t,0))→t.length < lj.length):=fun x t h=>(cdc_se.eats bSe_pos) lj x t HR.out.oct h
     have HBad:Hid ((seR (lj,0)).2.2≠0→res.2.2=(seR (lj,0)).2.2):=fun h=>by
      have h0:=cdc_se.nil lj h
      have h1:(repR seR (j+1) (l1,0)).2=([],(seR (lj,0)).2.2):=by rw [HNX.out];exact Prod.ext h0 rfl
      rw [HRP.out,rep_stop cdc_se h h1 N hlt]
     generalize seR (lj,0)=q2 at *
     obtain ⟨y,l2,e2⟩:=q2
     clear hFr
     unfold eyV at cE
     go_wp2_with fail
     refine cE.mono ?_
     clear cE
     rintro r w2 hE2
     rcases hE2.cases with ⟨he2,hk2,v2,rfl,hv2,hR2⟩ | ⟨he2,hk2,rfl⟩
     ·subst he2
      have hsz:=HK.out.size
      have hsz2:=hk2.size
      have hL2:=HO.out.low hk2 HOF.out
      obtain ⟨u2,rfl,hu2⟩:=hv2
      obtain ⟨ua,un,uc,rfl⟩:=ko_bare hu2
      have hu2:KoO w.heap.size w2 (.slice ua un uc) y.v.k:=hu2.mono hsz
      have HEt:=hide (HEat.out y l2 rfl)
      obtain ⟨W,hW⟩:∃ W,W=w2.alloc (.cells #[.int .i64 y.i,.int .i64 y.q,.string (str y.n),.int .i64 y.v.c,.int .i64 y.v.s,.int .i64 y.v.r,.string (str y.v.p),.int .u64 y.v.d,.slice ua un uc,.int .i64 y.v.m] 71):=⟨_,rfl⟩
      have kW:Kept [] w2 W:=by rw [hW];exact (Kept.refl _ _).alloc _
      have HcW:Hid (W.heap[w2.heap.size]?=some (.cells #[.int .i64 y.i,.int .i64 y.q,.string (str y.n),.int .i64 y.v.c,.int .i64 y.v.s,.int .i64 y.v.r,.string (str y.v.p),.int .u64 y.v.d,.slice ua un uc,.int .i64 y.v.m] 71 (0,0))):=by rw [hW];exact heap_alloc_new _ _
      have HLW:=hide (hL2.low kW (by simp))
      have HUW:=hide (hu2.low kW (by simp))
      have HRW:=hide (Rd.kept kW hR2 (by simp) (by simp))
      have HKW:Hid (Kept (p :: F) w W):=(HK.out.trans hk2 (fun i hi=>.inl hi)).trans kW (by simp)
      have hszW:=kW.size
      clear hk2 hR2 hL2 kW hE2 HBad HEat hu2
      go_wp2_with (at_builtin;(try rw [← hW]);refine wl_appSI rfl _ _ rfl w.heap.size _ L rfl HLW.out w2.heap.size y (.slice ua un uc) HUW.out rfl rfl HcW.out (by omega) (by omega) ?b1)
      case b1 =>
       intro v3 w3 hL3 hH3
       have hH3:HiK w.heap.size W w3:=by rw [hW];exact hH3
       obtain ⟨S3,k3,hS3⟩:=hH3
       have HL3:=hide hL3
       have HR3:=hide (Rd.kept k3 HRW.out (fun hm=>by have:=hS3 _ hm;omega) (fun k hk hm=>by have:=hS3 _ hm;have:=HF.out k hk;omega))
       have HK3:Hid (Kept (p :: F) w w3):=HKW.out.trans k3 (fun i hi=>.inr (hS3 i hi))
       have hl2:=HEt.out
       clear hL3 k3 hS3
       go_wp2_with fail
       go_roundw
       case rel=>exact ⟨j+1,L++[y],l2,by go_num,by omega,HL3,HR3,HK3,HNX,by simp [hLl],by omega⟩
       case measure=>simp [intOf];omega
     ·have HQ:Hid (res.2.2=e2):=HBad.out he2
      have HKf:Hid (Kept (p :: F) w w2):=HK.out.trans hk2 (fun i hi=>.inl hi)
      (try unfold pncE)
      go_wp2_with fail
      refine ⟨rfl,HKf.out,.inr ⟨by rw [HQ.out];exact he2,?_⟩⟩
      rw [HQ.out];rfl
    ·have hlt':¬ (j:Int) < N:=by omega
     have hjN:j=N:=by omega
     have HQ:Hid (res=(L,(lj,0))):=by show res=_;rw [HRP.out,← hjN,HI.out]
     clear hjN
     go_wp2_with fail
     go_ret
     rw [HQ.out]
     exact ⟨HK.out,.inl ⟨rfl,_,rfl,HO.out,HR.out⟩⟩
 ·have HQ:Hid (res.2.2=e1):=HB1.out he
  have HKf:Hid (Kept (p :: F) w w1):=(k1.mono (by simp)).trans hk1 (fun i hi=>.inl hi)
  (try unfold pncE)
  go_wp2_with fail
  refine ⟨rfl,HKf.out,.inr ⟨by rw [HQ.out];exact he,?_⟩⟩
  rw [HQ.out];rfl
end Go.Proofs.YtddhmfildfdbdaaGreat
