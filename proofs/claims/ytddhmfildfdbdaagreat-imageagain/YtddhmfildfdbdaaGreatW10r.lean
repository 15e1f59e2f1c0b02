/-
  Texts of this claim that are laid as one: ImEy2, ImEyK.
-/
import Derived.Test.YtddhmfildfdbdaaGreatW7r
set_option maxHeartbeats 8000000
/-
 The image's eye: an epoch,a commit. (Written by mk/mkey2.py.)
-/
namespace Go.Proofs.YtddhmfildfdbdaaGreat
open Go.RowKit
theorem ep_parts {l l1:List Int}{x e1:Int}(h1:numR (l,0)=(x,(l1,e1))):(e1≠0→(epR (l,0)).2.2=e1)∧(e1=0→∀ m l2 e2,lsR 15 numR (l1,0)=(m,(l2,e2))→epR (l,0)=(⟨x,m⟩,(l2,e2))):=by
 constructor
 ·intro he
  exact seq_bad2 cdc_num (fun _=>cdc_ls cdc_num 0 15 (by omega)) h1 he
 ·rintro rfl m l2 e2 h2
  have h:=seq_goes (B:=fun _=>lsR 15 numR) h1
  rw [h2] at h
  show ((fun p:Int × List Int=>(⟨p.1,p.2⟩:Ep)) (seqR numR (fun _=>lsR 15 numR) (l,0)).1,(seqR numR (fun _=>lsR 15 numR) (l,0)).2)=_
  rw [h]
theorem co_parts {l l1:List Int}{x e1:Int}(h1:numR (l,0)=(x,(l1,e1))):(e1≠0→(coR (l,0)).2.2=e1)∧(e1=0→∀ t l2 e2,txR 255 (l1,0)=(t,(l2,e2))→(e2≠0→(coR (l,0)).2.2=e2)∧(e2=0→∀ c l3 e3,lsR 64 chgR (l2,0)=(c,(l3,e3))→coR (l,0)=(⟨0,x,t,c⟩,(l3,e3)))):=by
 constructor
 ·intro he
  exact seq_bad2 cdc_num (fun _=>(cdc_tx 255 (by omega)).seq (fun _=>cdc_ls cdc_chg ch0 64 (by omega))) h1 he
 ·rintro rfl t l2 e2 h2
  have h:=seq_goes (B:=fun _=>seqR (txR 255) fun _=>lsR 64 chgR) h1
  constructor
  ·intro he
   show (seqR numR (fun _=>seqR (txR 255) fun _=>lsR 64 chgR) (l,0)).2.2=e2
   rw [h]
   exact seq_bad2 (cdc_tx 255 (by omega)) (fun _=>cdc_ls cdc_chg ch0 64 (by omega)) h2 he
  ·rintro rfl c l3 e3 h3
   have h':=seq_goes (B:=fun _=>lsR 64 chgR) h2
   rw [h3] at h'
   rw [h'] at h
   show ((fun p:Int × List UInt8 × List Ch=>(⟨0,p.1,p.2.1,p.2.2⟩:Com)) (seqR numR (fun _=>seqR (txR 255) fun _=>lsR 64 chgR) (l,0)).1,(seqR numR (fun _=>seqR (txR 255) fun _=>lsR 64 chgR) (l,0)).2)=_
   rw [h]
theorem row_bare {w:World}{B e size n:Nat}{v:Value}{xs:List Value}(h:w.ownsRow B e size v n xs):∃ ua un uc,v=.slice ua un uc:=by
 obtain ⟨_,h2⟩:=h
 rcases h2 with ⟨hv,_⟩ | ⟨g,cap,cur,hv,_⟩
 ·exact ⟨_,_,_,hv⟩
 ·exact ⟨_,_,_,hv⟩
theorem ko_bare {B:Nat}{w:World}{v:Value}{L:List Com}(h:KoO B w v L):∃ ua un uc,v=.slice ua un uc:=h.ko.one
theorem num_less {l l1:List Int}{x:Int}(ho:Oct l) (h:numR (l,0)=(x,(l1,0))):l1.length < l.length:=(cdc_num.eats encNum_pos) l x l1 ho h
theorem tx_less {most:Nat}(hm:most≤1000) {l l1:List Int}{x:List UInt8}(ho:Oct l) (h:txR most (l,0)=(x,(l1,0))):l1.length < l.length:=((cdc_tx most hm).eats bT_pos) l x l1 ho h
theorem rowT_epI:RowT Tryz.prog 62 2:=⟨_,Tryz.underlying62,rfl,by kernel_rfl⟩
theorem rowT_coI:RowT Tryz.prog 76 4:=⟨_,Tryz.underlying76,rfl,by kernel_rfl⟩
theorem one_epI (a:Int) (u:Option Addr) (n c:Nat):∀ v∈[Value.int .i64 a,.slice u n c],v.oneCell'=true:=by
 intro v hv;simp at hv;rcases hv with rfl | rfl <;> rfl
theorem one_coI (a b:Int) (t:List UInt8) (u:Option Addr) (n c:Nat):∀ v∈[Value.int .i64 a,.int .i64 b,.string (str t),.slice u n c],v.oneCell'=true:=by
 intro v hv;simp at hv;rcases hv with rfl | rfl | rfl | rfl <;> rfl
set_option maxRecDepth 100000 in
theorem eyEp_call (w:World) (p:Nat) (F:List Nat) (l:List Int) (hR:Rd w p F l 0) (hF:∀ k∈F,k < w.heap.size) (hl:l.length≤1000000) :
 Calls Tryz.prog 26 #[eyV p] w (Eyd p F w (epR (l,0)) (fun x W v=>∃ u,v=.agg #[.int .i64 x.f,u]∧RowI w.heap.size W u x.m)):=by
 have hmf:∀ (fn:Go.Fn) (first cap:Array Value) (w:World),(Instr.makeFunc fn first cap).run Tryz.prog w=.ok (.func fn first cap) w:=fun _ _ _ _=>rfl
 have HS0:=hide (Sx.new 62 [.int .i64 0,.slice none 0 0] hR hF)
 have HL0:Hid (l.length≤1000000):=hl
 have HOF:=hide hF
 have HSO:=hide hR.oct
 obtain ⟨x,l1,e1,h1⟩:∃ x t e,numR (l,0)=(x,(t,e)):=⟨_,_,_,rfl⟩
 obtain ⟨m,l2,e2,h2⟩:∃ x t e,lsR 15 numR (l1,0)=(x,(t,e)):=⟨_,_,_,rfl⟩
 obtain ⟨res,hres⟩:∃ res,res=epR (l,0):=⟨_,rfl⟩
 have HC:=hide (ep_parts h1)
 rw [← hres] at HC ⊢
 have HH1:=hide h1
 have HH2:=hide h2
 clear hR hF hl hres h1 h2
 obtain ⟨W,hW⟩:∃ W,W=((w.alloc (.cells #[.pointer (some ⟨p,0,none⟩)] 38)).alloc (.cells #[.int .i64 0,.slice none 0 0] 62)).alloc (.cells #[.int .i64 0,.slice none 0 0] 62):=⟨_,rfl⟩
 have HSW:Hid (Sx 62 [.int .i64 0,.slice none 0 0] w p F W l [.int .i64 0,.slice none 0 0]):=by rw [hW];exact HS0
 have q0:=HSW.out.e
 have c0:=eyN_call W p F l HSW.out.d
 rw [HH1.out] at c0
 unfold eyV at c0
 clear HS0
 unfold eyV at *
 go_enter Tryz.func26,Tryz.ntmps26
 go_upto_region 2 with fail
 rw [← hW]
 clear hW
 go_wp2_with fail
 refine c0.mono ?_
 clear c0
 rintro r w1 hE
 rcases hE.cases with ⟨he,hk1,v1,rfl,hv1,hR1⟩ | ⟨he,hk1,rfl⟩
 ·subst he
  subst hv1
  have HS1a:=hide (HSW.out.call hk1 hR1)
  have n0:w1.cell? ⟨w.heap.size+1+1,0,none⟩=some (.int .i64 0):=HS1a.out.x.cell 0 rfl
  have f0:w1.frozen? ⟨w.heap.size+1+1,0,none⟩=false:=HS1a.out.x.froz 0
  clear hE hk1 hR1 q0 HSW
  go_upto_region 3 with fail
  obtain ⟨W1,hW1⟩:∃ W1,W1=w1.setCell ⟨w.heap.size+1+1,0,none⟩ (.int .i64 x):=⟨_,rfl⟩
  rw [← hW1]
  have HS1:Hid (Sx 62 [.int .i64 0,.slice none 0 0] w p F W1 l1 [.int .i64 x,.slice none 0 0]):=by rw [hW1];exact HS1a.out.set 0 (.int .i64 x)
  have q1:=HS1.out.e
  have HT1:=hide HS1.out.d.oct
  have HL1:Hid (l1.length≤1000000):=by show _≤_;have:=num_less HSO.out HH1.out;have:=HL0.out;omega
  clear hW1 n0 f0 HS1a
  have c1:=eyIs_call W1 p F l1 15 (by omega) HS1.out.d (fun k hk=>Nat.lt_of_lt_of_le (HOF.out k hk) HS1.out.k.size) HL1.out
  rw [show ((15:Nat):Int)=15 from rfl] at c1
  rw [HH2.out] at c1
  unfold eyV at c1
  go_wp2_with fail
  refine c1.mono ?_
  clear c1
  rintro r w2 hE
  rcases hE.cases with ⟨he,hk2,v2,rfl,hv2,hR2⟩ | ⟨he,hk2,rfl⟩
  ·subst he
   obtain ⟨ua,un,uc,rfl⟩:=row_bare hv2
   have HU2:=hide hv2
   have HZ2:=hide HS1.out.x.lt
   have HS2a:=hide (HS1.out.call hk2 hR2)
   have n1:w2.cell? ⟨w.heap.size+1+1,1,none⟩=some (.slice none 0 0):=HS2a.out.x.cell 1 rfl
   have f1:w2.frozen? ⟨w.heap.size+1+1,1,none⟩=false:=HS2a.out.x.froz 1
   clear hE hk2 hR2 q1 HS1
   go_upto_region 4 with fail
   obtain ⟨W2,hW2⟩:∃ W2,W2=w2.setCell ⟨w.heap.size+1+1,1,none⟩ (.slice ua un uc):=⟨_,rfl⟩
   have HKs:Hid (Kept [w.heap.size+2] w2 W2):=by rw [hW2];exact kept_set w2 (w.heap.size+2) 1 _
   rw [← hW2]
   have HS2:Hid (Sx 62 [.int .i64 0,.slice none 0 0] w p F W2 l2 [.int .i64 x,.slice ua un uc]):=by rw [hW2];exact HS2a.out.set 1 (.slice ua un uc)
   clear hW2 n1 f1 HS2a
   have HQ:=hide (HC.out.2 (by trivial) _ _ _ HH2.out)
   have HX:=hide HS2.out.x
   have HZ:=hide HS2.out.r
   have HLn:Hid (([.int .i64 x,.slice ua un uc]:List Value).length=([.int .i64 0,.slice none 0 0]:List Value).length):=rfl
   have HOne:Hid (∀ v∈([.int .i64 x,.slice ua un uc]:List Value),v.oneCell'=true):=one_epI x ua un uc
   have HRT:Hid (RowT Tryz.prog 62 ([.int .i64 x,.slice ua un uc]:List Value).length):=rowT_epI
   go_wp2_with (first | ((with_reducible refine wl_load_bx HX.out HRT.out ?_ ?_);rfl) | ((with_reducible refine wl_store_bx HZ.out HLn.out HOne.out HRT.out ?_ ?_ ?_);rfl;rfl;intro wz HBz HKz))
   refine bodyPost_ret (bx_result (by rfl) _ (by rfl) HBz.out HRT.out) rfl ?_
   rw [HQ.out]
   obtain ⟨hk,hr⟩:=HS2.out.fin HKz.out
   refine ⟨hk,.inl ⟨rfl,_,rfl,⟨_,rfl,?_⟩,hr⟩⟩
   have hz:=HZ2.out
   exact row_mono (row_lowI (row_lowI HU2.out HKs.out (by simp;omega)) HKz.out (by simp;omega)) (by omega)
  ·have HQ:=hide (HC.out.2 (by trivial) _ _ _ HH2.out)
   have HKf:=hide (HS1.out.k.trans hk2 (fun i hi=>.inl hi))
   unfold pncE
   go_wp2_with fail
   rw [HQ.out]
   exact ⟨rfl,HKf.out,.inr ⟨he,rfl⟩⟩
 ·have HQ:=hide (HC.out.1 he)
  have HKf:=hide (HSW.out.k.trans hk1 (fun i hi=>.inl hi))
  unfold pncE
  go_wp2_with fail
  refine ⟨rfl,HKf.out,.inr ⟨by rw [HQ.out];exact he,?_⟩⟩
  rw [HQ.out];rfl
set_option maxRecDepth 100000 in
theorem eyCo_call (w:World) (p:Nat) (F:List Nat) (l:List Int) (hR:Rd w p F l 0) (hF:∀ k∈F,k < w.heap.size) (hl:l.length≤1000000) :
 Calls Tryz.prog 30 #[eyV p] w (Eyd p F w (coR (l,0)) (fun x W v=>∃ u,v=.agg #[.int .i64 x.r,.int .i64 x.b,.string (str x.n),u]∧OwnC w.heap.size W u x.c)):=by
 have hmf:∀ (fn:Go.Fn) (first cap:Array Value) (w:World),(Instr.makeFunc fn first cap).run Tryz.prog w=.ok (.func fn first cap) w:=fun _ _ _ _=>rfl
 have HS0:=hide (Sx.new 76 [.int .i64 0,.int .i64 0,.string ⟨#[]⟩,.slice none 0 0] hR hF)
 have HL0:Hid (l.length≤1000000):=hl
 have HOF:=hide hF
 have HSO:=hide hR.oct
 obtain ⟨x,l1,e1,h1⟩:∃ x t e,numR (l,0)=(x,(t,e)):=⟨_,_,_,rfl⟩
 obtain ⟨t,l2,e2,h2⟩:∃ x t e,txR 255 (l1,0)=(x,(t,e)):=⟨_,_,_,rfl⟩
 obtain ⟨c,l3,e3,h3⟩:∃ x t e,lsR 64 chgR (l2,0)=(x,(t,e)):=⟨_,_,_,rfl⟩
 obtain ⟨res,hres⟩:∃ res,res=coR (l,0):=⟨_,rfl⟩
 have HC:=hide (co_parts h1)
 rw [← hres] at HC ⊢
 have HH1:=hide h1
 have HH2:=hide h2
 have HH3:=hide h3
 clear hR hF hl hres h1 h2 h3
 obtain ⟨W,hW⟩:∃ W,W=((w.alloc (.cells #[.pointer (some ⟨p,0,none⟩)] 38)).alloc (.cells #[.int .i64 0,.int .i64 0,.string ⟨#[]⟩,.slice none 0 0] 76)).alloc (.cells #[.int .i64 0,.int .i64 0,.string ⟨#[]⟩,.slice none 0 0] 76):=⟨_,rfl⟩
 have HSW:Hid (Sx 76 [.int .i64 0,.int .i64 0,.string ⟨#[]⟩,.slice none 0 0] w p F W l [.int .i64 0,.int .i64 0,.string ⟨#[]⟩,.slice none 0 0]):=by rw [hW];exact HS0
 have q0:=HSW.out.e
 have c0:=eyN_call W p F l HSW.out.d
 rw [HH1.out] at c0
 unfold eyV at c0
 clear HS0
 unfold eyV at *
 go_enter Tryz.func30,Tryz.ntmps30
 go_upto_region 2 with fail
 rw [← hW]
 clear hW
 go_wp2_with fail
 refine c0.mono ?_
 clear c0
 rintro r w1 hE
 rcases hE.cases with ⟨he,hk1,v1,rfl,hv1,hR1⟩ | ⟨he,hk1,rfl⟩
 ·subst he
  subst hv1
  have HS1a:=hide (HSW.out.call hk1 hR1)
  have n0:w1.cell? ⟨w.heap.size+1+1,1,none⟩=some (.int .i64 0):=HS1a.out.x.cell 1 rfl
  have f0:w1.frozen? ⟨w.heap.size+1+1,1,none⟩=false:=HS1a.out.x.froz 1
  clear hE hk1 hR1 q0 HSW
  go_upto_region 3 with fail
  obtain ⟨W1,hW1⟩:∃ W1,W1=w1.setCell ⟨w.heap.size+1+1,1,none⟩ (.int .i64 x):=⟨_,rfl⟩
  rw [← hW1]
  have HS1:Hid (Sx 76 [.int .i64 0,.int .i64 0,.string ⟨#[]⟩,.slice none 0 0] w p F W1 l1 [.int .i64 0,.int .i64 x,.string ⟨#[]⟩,.slice none 0 0]):=by rw [hW1];exact HS1a.out.set 1 (.int .i64 x)
  have q1:=HS1.out.e
  have HT1:=hide HS1.out.d.oct
  have HL1:Hid (l1.length≤1000000):=by show _≤_;have:=num_less HSO.out HH1.out;have:=HL0.out;omega
  clear hW1 n0 f0 HS1a
  have c1:=eyT_call W1 p F l1 255 HS1.out.d
  rw [HH2.out] at c1
  unfold eyV at c1
  go_wp2_with fail
  refine c1.mono ?_
  clear c1
  rintro r w2 hE
  rcases hE.cases with ⟨he,hk2,v2,rfl,hv2,hR2⟩ | ⟨he,hk2,rfl⟩
  ·subst he
   subst hv2
   have HS2a:=hide (HS1.out.call hk2 hR2)
   have n1:w2.cell? ⟨w.heap.size+1+1,2,none⟩=some (.string ⟨#[]⟩):=HS2a.out.x.cell 2 rfl
   have f1:w2.frozen? ⟨w.heap.size+1+1,2,none⟩=false:=HS2a.out.x.froz 2
   clear hE hk2 hR2 q1 HS1
   go_upto_region 4 with fail
   obtain ⟨W2,hW2⟩:∃ W2,W2=w2.setCell ⟨w.heap.size+1+1,2,none⟩ (.string (str t)):=⟨_,rfl⟩
   rw [← hW2]
   have HS2:Hid (Sx 76 [.int .i64 0,.int .i64 0,.string ⟨#[]⟩,.slice none 0 0] w p F W2 l2 [.int .i64 0,.int .i64 x,.string (str t),.slice none 0 0]):=by rw [hW2];exact HS2a.out.set 2 (.string (str t))
   have q2:=HS2.out.e
   have HT2:=hide HS2.out.d.oct
   have HL2:Hid (l2.length≤1000000):=by show _≤_;have:=tx_less (most:=255) (by omega) HT1.out HH2.out;have:=HL1.out;omega
   clear hW2 n1 f1 HS2a
   have c2:=eyCs_call W2 p F l2 64 (by omega) HS2.out.d (fun k hk=>Nat.lt_of_lt_of_le (HOF.out k hk) HS2.out.k.size) HL2.out
   rw [show ((64:Nat):Int)=64 from rfl] at c2
   rw [HH3.out] at c2
   unfold eyV at c2
   go_wp2_with fail
   refine c2.mono ?_
   clear c2
   rintro r w3 hE
   rcases hE.cases with ⟨he,hk3,v3,rfl,hv3,hR3⟩ | ⟨he,hk3,rfl⟩
   ·subst he
    obtain ⟨ua,un,uc,rfl⟩:=row_bare hv3
    have HU3:=hide hv3
    have HZ3:=hide HS2.out.x.lt
    have HS3a:=hide (HS2.out.call hk3 hR3)
    have n2:w3.cell? ⟨w.heap.size+1+1,3,none⟩=some (.slice none 0 0):=HS3a.out.x.cell 3 rfl
    have f2:w3.frozen? ⟨w.heap.size+1+1,3,none⟩=false:=HS3a.out.x.froz 3
    clear hE hk3 hR3 q2 HS2
    go_upto_region 5 with fail
    obtain ⟨W3,hW3⟩:∃ W3,W3=w3.setCell ⟨w.heap.size+1+1,3,none⟩ (.slice ua un uc):=⟨_,rfl⟩
    have HKs:Hid (Kept [w.heap.size+2] w3 W3):=by rw [hW3];exact kept_set w3 (w.heap.size+2) 3 _
    rw [← hW3]
    have HS3:Hid (Sx 76 [.int .i64 0,.int .i64 0,.string ⟨#[]⟩,.slice none 0 0] w p F W3 l3 [.int .i64 0,.int .i64 x,.string (str t),.slice ua un uc]):=by rw [hW3];exact HS3a.out.set 3 (.slice ua un uc)
    clear hW3 n2 f2 HS3a
    have HQ:=hide ((HC.out.2 (by trivial) _ _ _ HH2.out).2 (by trivial) _ _ _ HH3.out)
    have HX:=hide HS3.out.x
    have HZ:=hide HS3.out.r
    have HLn:Hid (([.int .i64 0,.int .i64 x,.string (str t),.slice ua un uc]:List Value).length=([.int .i64 0,.int .i64 0,.string ⟨#[]⟩,.slice none 0 0]:List Value).length):=rfl
    have HOne:Hid (∀ v∈([.int .i64 0,.int .i64 x,.string (str t),.slice ua un uc]:List Value),v.oneCell'=true):=one_coI 0 x t ua un uc
    have HRT:Hid (RowT Tryz.prog 76 ([.int .i64 0,.int .i64 x,.string (str t),.slice ua un uc]:List Value).length):=rowT_coI
    go_wp2_with (first | ((with_reducible refine wl_load_bx HX.out HRT.out ?_ ?_);rfl) | ((with_reducible refine wl_store_bx HZ.out HLn.out HOne.out HRT.out ?_ ?_ ?_);rfl;rfl;intro wz HBz HKz))
    refine bodyPost_ret (bx_result (by rfl) _ (by rfl) HBz.out HRT.out) rfl ?_
    rw [HQ.out]
    obtain ⟨hk,hr⟩:=HS3.out.fin HKz.out
    refine ⟨hk,.inl ⟨rfl,_,rfl,⟨_,rfl,?_⟩,hr⟩⟩
    have hz:=HZ3.out
    exact row_mono (row_lowI (row_lowI HU3.out HKs.out (by simp;omega)) HKz.out (by simp;omega)) (by omega)
   ·have HQ:=hide ((HC.out.2 (by trivial) _ _ _ HH2.out).2 (by trivial) _ _ _ HH3.out)
    have HKf:=hide (HS2.out.k.trans hk3 (fun i hi=>.inl hi))
    unfold pncE
    go_wp2_with fail
    rw [HQ.out]
    exact ⟨rfl,HKf.out,.inr ⟨he,rfl⟩⟩
  ·have HQ:=hide ((HC.out.2 (by trivial) _ _ _ HH2.out).1 he)
   have HKf:=hide (HS1.out.k.trans hk2 (fun i hi=>.inl hi))
   unfold pncE
   go_wp2_with fail
   refine ⟨rfl,HKf.out,.inr ⟨by rw [HQ.out];exact he,?_⟩⟩
   rw [HQ.out];rfl
 ·have HQ:=hide (HC.out.1 he)
  have HKf:=hide (HSW.out.k.trans hk1 (fun i hi=>.inl hi))
  unfold pncE
  go_wp2_with fail
  refine ⟨rfl,HKf.out,.inr ⟨by rw [HQ.out];exact he,?_⟩⟩
  rw [HQ.out];rfl
theorem bCo_pos (x:Com):0 < (bCo x).length:=by
 have:=encNum_pos x.b
 unfold bCo;rw [List.length_append];omega
def EykI (p:Nat) (F:List Nat) (w:World) (l l1:List Int) (lv iv:Value) (N:Nat) (wr:World):Prop :=
 ∃ (j:Nat) (L:List Com) (lj:List Int),iv=.int .i64 (j:Int)∧j≤N∧Hid (KoO w.heap.size wr lv L)∧Hid (Rd wr p F lj 0)∧Hid (Kept (p :: F) w wr)∧Hid (repR coR j (l1,0)=(L,(lj,0)))∧L.length=j∧j+lj.length≤l.length
set_option maxRecDepth 100000 in
theorem eyKs_call (w:World) (p:Nat) (F:List Nat) (l:List Int) (most:Nat) (hm:most≤1099511627776) (hR:Rd w p F l 0) (hF:∀ k∈F,k < w.heap.size) (hl:l.length≤1000000) :
 Calls Tryz.prog 29 #[eyV p,.int .i64 most,.func (.func 30) #[eyV p] #[]] w (Eyd p F w (lsR most coR (l,0)) (fun L W v=>KoO w.heap.size W v L)):=by
 have hpw:=hR.lt
 have hoc:=hR.oct
 have k1:Kept [] w (w.alloc (.cells #[.pointer (some ⟨p,0,none⟩)] 38)):=(Kept.refl _ _).alloc _
 have hq:(w.alloc (.cells #[.pointer (some ⟨p,0,none⟩)] 38)).cell? ⟨w.heap.size,0,none⟩=some (.pointer (some ⟨p,0,none⟩)):=by simp [World.cell?_alloc_new]
 have cN:=eyN_call _ p F l (Rd.kept k1 hR (by simp) (by simp))
 have henter:∀ (a:Array Value) (w:World),Sem.run Tryz.prog (callFunc 30 a) w=.ok (.enter 30 a) w:=fun _ _=>by kernel_rfl
 have hshort:∀ x t,numR (l,0)=(x,(t,0))→t.length < l.length∧0≤x∧x≤1099511627776:=fun x t h=>⟨(cdc_num.eats encNum_pos) l x t hoc h,(good_iff x).1 (cdc_num.bwd l x t hoc h).1⟩
 obtain ⟨res,hres⟩:∃ res,res=lsR most coR (l,0):=⟨_,rfl⟩
 have HB1:Hid ((numR (l,0)).2.2≠0→res.2.2=(numR (l,0)).2.2):=fun h=>by rw [hres];exact ls_bad (most:Int) (by omega) cdc_co com0 h
 have HB2:Hid (∀ x t,numR (l,0)=(x,(t,0))→(most:Int) < x→res.2.2=4):=fun x t h1 h2=>by rw [hres];exact ls_much (by omega) h1 h2
 have HB3:Hid (∀ x t,numR (l,0)=(x,(t,0))→¬ (most:Int) < x→res=repR coR x.toNat (t,0)):=fun x t h1 h2=>by rw [hres];exact ls_goes h1 h2
 rw [← hres]
 have HF:=hide hF
 have HOF:Hid (∀ k∈p :: F,k < w.heap.size):=fun k hk=>by
  rcases List.mem_cons.1 hk with h | h
  ·rw [h];exact hpw
  ·exact hF k h
 generalize numR (l,0)=q at *
 obtain ⟨x,l1,e1⟩:=q
 clear hR hF hres hoc
 unfold eyV at *
 go_enter Tryz.func29,Tryz.ntmps29
 go_wp2_with fail
 refine cN.mono ?_
 clear cN
 rintro r w1 hE
 rcases hE.cases with ⟨he,hk1,v1,rfl,hv1,hR1⟩ | ⟨he,hk1,rfl⟩
 ·subst he hv1
  obtain ⟨hs1,hx0,hx1⟩:=hshort x l1 rfl
  obtain ⟨N,rfl⟩:∃ N:Nat,x=(N:Int):=⟨x.toNat,by omega⟩
  have HR1:=hide hR1
  have HKw:Hid (Kept (p :: F) w w1):=(k1.mono (by simp)).trans hk1 (fun i hi=>.inl hi)
  clear hE hk1 hR1 hshort HB1
  by_cases hmo:(most:Int) < N
  ·have HE:Hid (res.2.2=4):=HB2.out _ _ rfl hmo
   (try unfold pncE)
   go_wp2_with fail
   refine ⟨rfl,HKw.out,.inr ⟨by rw [HE.out];decide,?_⟩⟩
   rw [HE.out];rfl
  ·have HRP:Hid (res=repR coR N (l1,0)):=by
    have h:=HB3.out _ _ rfl (by omega)
    rw [Int.toNat_natCast] at h
    exact h
   clear HB2 HB3
   have hmd:decide (most < N)=false:=decide_eq_false (by omega)
   go_wp2_with fail
   go_loopw [8,16] (fun lv iv wr=>EykI p F w l l1 lv iv N wr) (fun _ iv _=>N - (intOf iv).toNat)
   case atStart=>exact ⟨0,[],l1,rfl,Nat.zero_le _,KoO.nil _ _,HR1,HKw,rfl,rfl,by omega⟩
   case round =>
    obtain ⟨j,L,lj,rfl,hj,HO,HR,HK,HI,hLl,hjl⟩:=hrel
    by_cases hlt:j < N
    ·have hlt':(j:Int) < N:=by omega
     have hFr:∀ k∈F,k < wr.heap.size:=fun k hk=>Nat.lt_of_lt_of_le (HF.out k hk) HK.out.size
     have cE:=eyCo_call wr p F lj HR.out hFr (by omega)
     have HNX:Hid (repR coR (j+1) (l1,0)=(L++[(coR (lj,0)).1],(coR (lj,0)).2)):=by show _=_;rw [rep_snoc,HI.out]
     have HEat:Hid (∀ x t,coR (lj,0)=(x,(t,0))→t.length < lj.length):=fun x t h=>(cdc_co.eats bCo_pos) lj x t HR.out.oct h
     have HBad:Hid ((coR (lj,0)).2.2≠0→res.2.2=(coR (lj,0)).2.2):=fun h=>by
      have h0:=cdc_co.nil lj h
      have h1:(repR coR (j+1) (l1,0)).2=([],(coR (lj,0)).2.2):=by rw [HNX.out];exact Prod.ext h0 rfl
      rw [HRP.out,rep_stop cdc_co h h1 N hlt]
     generalize coR (lj,0)=q2 at *
     obtain ⟨y,l2,e2⟩:=q2
     clear hFr
     unfold eyV at cE
     go_wp2_with fail
     refine cE.mono ?_
     clear cE
     rintro r w2 hE2
     rcases hE2.cases with ⟨he2,hk2,v2,rfl,hv2,hR2⟩ | ⟨he2,hk2,rfl⟩
     ·subst he2
      have hsz:=HK.out.size
      have hsz2:=hk2.size
      have hL2:=HO.out.low hk2 HOF.out
      obtain ⟨u2,rfl,hu2⟩:=hv2
      obtain ⟨ua,un,uc,rfl⟩:=row_bare hu2
      have hu2:OwnC w.heap.size w2 (.slice ua un uc) y.c:=row_mono hu2 hsz
      have HEt:=hide (HEat.out y l2 rfl)
      obtain ⟨W,hW⟩:∃ W,W=w2.alloc (.cells #[.int .i64 y.r,.int .i64 y.b,.string (str y.n),.slice ua un uc] 76):=⟨_,rfl⟩
      have kW:Kept [] w2 W:=by rw [hW];exact (Kept.refl _ _).alloc _
      have HcW:Hid (W.heap[w2.heap.size]?=some (.cells #[.int .i64 y.r,.int .i64 y.b,.string (str y.n),.slice ua un uc] 76 (0,0))):=by rw [hW];exact heap_alloc_new _ _
      have HLW:=hide (hL2.low kW (by simp))
      have HUW:=hide (hu2.low kW (by simp))
      have HRW:=hide (Rd.kept kW hR2 (by simp) (by simp))
      have HKW:Hid (Kept (p :: F) w W):=(HK.out.trans hk2 (fun i hi=>.inl hi)).trans kW (by simp)
      have hszW:=kW.size
      clear hk2 hR2 hL2 kW hE2 HBad HEat hu2
      go_wp2_with (at_builtin;(try rw [← hW]);refine wl_appK rfl _ _ rfl w.heap.size _ L rfl HLW.out w2.heap.size y (.slice ua un uc) HUW.out rfl rfl HcW.out (by omega) (by omega) ?b1)
      case b1 =>
       intro v3 w3 hL3 hH3
       have hH3:HiK w.heap.size W w3:=by rw [hW];exact hH3
       obtain ⟨S3,k3,hS3⟩:=hH3
       have HL3:=hide hL3
       have HR3:=hide (Rd.kept k3 HRW.out (fun hm=>by have:=hS3 _ hm;omega) (fun k hk hm=>by have:=hS3 _ hm;have:=HF.out k hk;omega))
       have HK3:Hid (Kept (p :: F) w w3):=HKW.out.trans k3 (fun i hi=>.inr (hS3 i hi))
       have hl2:=HEt.out
       clear hL3 k3 hS3
       go_wp2_with fail
       go_roundw
       case rel=>exact ⟨j+1,L++[y],l2,by go_num,by omega,HL3,HR3,HK3,HNX,by simp [hLl],by omega⟩
       case measure=>simp [intOf];omega
     ·have HQ:Hid (res.2.2=e2):=HBad.out he2
      have HKf:Hid (Kept (p :: F) w w2):=HK.out.trans hk2 (fun i hi=>.inl hi)
      (try unfold pncE)
      go_wp2_with fail
      refine ⟨rfl,HKf.out,.inr ⟨by rw [HQ.out];exact he2,?_⟩⟩
      rw [HQ.out];rfl
    ·have hlt':¬ (j:Int) < N:=by omega
     have hjN:j=N:=by omega
     have HQ:Hid (res=(L,(lj,0))):=by show res=_;rw [HRP.out,← hjN,HI.out]
     clear hjN
     go_wp2_with fail
     go_ret
     rw [HQ.out]
     exact ⟨HK.out,.inl ⟨rfl,_,rfl,HO.out,HR.out⟩⟩
 ·have HQ:Hid (res.2.2=e1):=HB1.out he
  have HKf:Hid (Kept (p :: F) w w1):=(k1.mono (by simp)).trans hk1 (fun i hi=>.inl hi)
  (try unfold pncE)
  go_wp2_with fail
  refine ⟨rfl,HKf.out,.inr ⟨by rw [HQ.out];exact he,?_⟩⟩
  rw [HQ.out];rfl
end Go.Proofs.YtddhmfildfdbdaaGreat
