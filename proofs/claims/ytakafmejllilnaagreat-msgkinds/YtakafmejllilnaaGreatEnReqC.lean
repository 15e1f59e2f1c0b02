/-
  Cases of requests. (Written by mk/mkfields.py.)
-/
import Derived.Test.YtakafmejllilnaaGreatF7
namespace Go.Proofs.YtakafmejllilnaaGreat
open Go.RowKit
variable {σ : Type}
set_option maxHeartbeats 8000000 in
set_option maxRecDepth 100000 in
theorem req_5 {H:Hnd}{P:PH σ}{At:World→List Nat→σ→Nat→Prop}(hH:Hand H P At) (w:World) (O:List Nat) (s:σ) (m:Nat) (x:Rm) (hx:RqHy O w x) (hA:At w O s (m+200)) (hkk:(P.upTo s x.r.k 7).1=5) :
 Calls Tryz.prog 144 #[H.a,rqV x] w (WentR At w O (reqP P s x.r).2 m (reqP P s x.r).1):=by
 have HH:Hid (Hand H P At):=hH
 have e0:=hH.e0
 have e1:=hH.e1
 have e2:=hH.e2
 have e3:=hH.e3
 have e4:=hH.e4
 have HF0:=hide (fl_lay w 29 O H (rqC x) zrq (hH.lt hA))
 have HA0:Hid (At (lay3 w 29 H (rqC x) zrq) O s (m+200)):=hH.kept hA (T:=[]) ((((Kept.refl _ _).alloc _).alloc _).alloc _) (by simp)
 clear hA hH
 obtain ⟨hS,hno,hd,hn,hf,hp,hc⟩:=hx
 have HQ:Hid (reqP P s x.r=(⟨5,[],(P.num (P.upTo s x.r.k 7).2 x.r.s).1,(P.num (P.num (P.upTo s x.r.k 7).2 x.r.s).2 x.r.q).1,0,[],[],[],(P.num (P.num (P.num (P.upTo s x.r.k 7).2 x.r.s).2 x.r.q).2 x.r.fr).1,(P.num (P.num (P.num (P.num (P.upTo s x.r.k 7).2 x.r.s).2 x.r.q).2 x.r.fr).2 x.r.mn).1,0⟩,(P.num (P.num (P.num (P.num (P.upTo s x.r.k 7).2 x.r.s).2 x.r.q).2 x.r.fr).2 x.r.mn).2)):=by
  show reqP P s x.r=_
  unfold reqP reqK reqS reqA reqQ
  rw [hkk,if_neg (by decide),if_neg (by decide),if_neg (by decide),if_neg (by decide),if_pos rfl]
 have HK:=hide hkk
 clear hkk
 unfold Hnd.a rqV
 go_enter Tryz.func144,Tryz.ntmps144
 go_wp2_with fail
 have cN:=HH.out.upTo _ O s (m+199) x.r.k 7 HA0.out
 rw [HK.out] at cN
 refine cN.mono ?_
 clear cN
 rintro _ w2 ⟨rfl,O2,A2,hk2,hn2⟩
 have N2:=(HF0.out.call hk2 hn2).named (HH.out.lt A2) zrq
 have hs2:w.heap.size+3≤w2.heap.size:=N2.b3
 have HB:Hid (Bx (w2.alloc (.cells #[.int .i64 0,.string ⟨#[]⟩,.int .i64 0,.int .i64 0,.int .i64 0,.string ⟨#[]⟩,.slice none 0 0,.string ⟨#[]⟩,.int .i64 0,.int .i64 0,.int .i64 0] 29)) w2.heap.size 29 zrq):=N2.n
 have HO2:=hide (one_rqLE ⟨5,[],0,0,0,[],[],[],0,0,0⟩ (.slice none 0 0) (by rfl))
 have HT2:Hid (RowT Tryz.prog 29 (rqLE ⟨5,[],0,0,0,[],[],[],0,0,0⟩ (.slice none 0 0)).length):=rowT_req
 have HL2:Hid ((rqLE ⟨5,[],0,0,0,[],[],[],0,0,0⟩ (.slice none 0 0)).length=zrq.length):=rfl
 have HN2:Hid (Fn 29 w O H (rqC x) zrq w2.heap.size zrq (w2.alloc (.cells #[.int .i64 0,.string ⟨#[]⟩,.int .i64 0,.int .i64 0,.int .i64 0,.string ⟨#[]⟩,.slice none 0 0,.string ⟨#[]⟩,.int .i64 0,.int .i64 0,.int .i64 0] 29)) O2):=N2
 have HA2:=hide (HH.out.kept A2 (T:=[]) ((Kept.refl [] w2).alloc (.cells #[.int .i64 0,.string ⟨#[]⟩,.int .i64 0,.int .i64 0,.int .i64 0,.string ⟨#[]⟩,.slice none 0 0,.string ⟨#[]⟩,.int .i64 0,.int .i64 0,.int .i64 0] 29)) (by simp))
 clear N2 A2 hk2 hn2
 go_upto_region 2 with ((with_reducible refine wl_store_bx HB.out HL2.out HO2.out HT2.out ?_ ?_ ?_);rfl;rfl;intro w3 HB3 HK3)
 have F3:=HN2.out.stored HK3.out HB3.out
 have c3:w3.cell? ⟨w2.heap.size,0,none⟩=some (.int .i64 5):=F3.n.cell 0 rfl
 have d0:¬ w.heap.size=w2.heap.size:=by omega
 have d1:¬ w.heap.size+1=w2.heap.size:=by omega
 have d2:¬ w2.heap.size=w.heap.size:=by omega
 have d3:¬ w2.heap.size=w.heap.size+1:=by omega
 obtain ⟨g3,x3⟩:=F3.cells 0 2 rfl rfl
 have HF3:=hide F3
 have HA3:=hide (HH.out.kept HA2.out HK3.out (by simpa using HN2.out.b0))
 clear F3 HB HO2 HT2 HL2 HN2 HA2 HB3 HK3
 go_wp2_with fail
 have cN:=HH.out.num _ _ _ (m+198) x.r.s HA3.out
 refine cN.mono ?_
 clear cN c3 g3 x3
 rintro _ w4 ⟨rfl,O4,A4,hk4,hn4⟩
 have F4:=HF3.out.call hk4 hn4
 have n4:w4.cell? ⟨w2.heap.size,2,none⟩=some (.int .i64 0):=F4.n.cell 2 rfl
 have f4:w4.frozen? ⟨w2.heap.size,2,none⟩=false:=F4.n.froz 2
 have c4:w4.cell? ⟨w2.heap.size,0,none⟩=some (.int .i64 5):=F4.n.cell 0 rfl
 obtain ⟨g4,x4⟩:=F4.cells 0 3 rfl rfl
 have HF4:=hide (F4.set 2 (.int .i64 (P.num (P.upTo s x.r.k 7).2 x.r.s).1))
 have HA4:=hide (HH.out.kept A4 (kept_set w4 (w2.heap.size) 2 (.int .i64 (P.num (P.upTo s x.r.k 7).2 x.r.s).1)) (by simpa using F4.b0))
 clear F4 A4 hk4 hn4
 go_wp2_with fail
 have cN:=HH.out.num _ _ _ (m+197) x.r.q HA4.out
 refine cN.mono ?_
 clear cN n4 f4 c4 g4 x4
 rintro _ w5 ⟨rfl,O5,A5,hk5,hn5⟩
 have F5:=HF4.out.call hk5 hn5
 have n5:w5.cell? ⟨w2.heap.size,3,none⟩=some (.int .i64 0):=F5.n.cell 3 rfl
 have f5:w5.frozen? ⟨w2.heap.size,3,none⟩=false:=F5.n.froz 3
 have c5:w5.cell? ⟨w2.heap.size,0,none⟩=some (.int .i64 5):=F5.n.cell 0 rfl
 obtain ⟨g5,x5⟩:=F5.cells 0 8 rfl rfl
 have HF5:=hide (F5.set 3 (.int .i64 (P.num (P.num (P.upTo s x.r.k 7).2 x.r.s).2 x.r.q).1))
 have HA5:=hide (HH.out.kept A5 (kept_set w5 (w2.heap.size) 3 (.int .i64 (P.num (P.num (P.upTo s x.r.k 7).2 x.r.s).2 x.r.q).1)) (by simpa using F5.b0))
 clear F5 A5 hk5 hn5
 go_wp2_with fail
 have cN:=HH.out.num _ _ _ (m+196) x.r.fr HA5.out
 refine cN.mono ?_
 clear cN n5 f5 c5 g5 x5
 rintro _ w6 ⟨rfl,O6,A6,hk6,hn6⟩
 have F6:=HF5.out.call hk6 hn6
 have n6:w6.cell? ⟨w2.heap.size,8,none⟩=some (.int .i64 0):=F6.n.cell 8 rfl
 have f6:w6.frozen? ⟨w2.heap.size,8,none⟩=false:=F6.n.froz 8
 have c6:w6.cell? ⟨w2.heap.size,0,none⟩=some (.int .i64 5):=F6.n.cell 0 rfl
 obtain ⟨g6,x6⟩:=F6.cells 0 9 rfl rfl
 have HF6:=hide (F6.set 8 (.int .i64 (P.num (P.num (P.num (P.upTo s x.r.k 7).2 x.r.s).2 x.r.q).2 x.r.fr).1))
 have HA6:=hide (HH.out.kept A6 (kept_set w6 (w2.heap.size) 8 (.int .i64 (P.num (P.num (P.num (P.upTo s x.r.k 7).2 x.r.s).2 x.r.q).2 x.r.fr).1)) (by simpa using F6.b0))
 clear F6 A6 hk6 hn6
 go_wp2_with fail
 have cN:=HH.out.num _ _ _ (m+195) x.r.mn HA6.out
 refine cN.mono ?_
 clear cN n6 f6 c6 g6 x6
 rintro _ w7 ⟨rfl,O7,A7,hk7,hn7⟩
 have F7:=HF6.out.call hk7 hn7
 have n7:w7.cell? ⟨w2.heap.size,9,none⟩=some (.int .i64 0):=F7.n.cell 9 rfl
 have f7:w7.frozen? ⟨w2.heap.size,9,none⟩=false:=F7.n.froz 9
 have c7:w7.cell? ⟨w2.heap.size,0,none⟩=some (.int .i64 5):=F7.n.cell 0 rfl
 have HF7:=hide (F7.set 9 (.int .i64 (P.num (P.num (P.num (P.num (P.upTo s x.r.k 7).2 x.r.s).2 x.r.q).2 x.r.fr).2 x.r.mn).1))
 have HA7:=hide (HH.out.kept A7 (kept_set w7 (w2.heap.size) 9 (.int .i64 (P.num (P.num (P.num (P.num (P.upTo s x.r.k 7).2 x.r.s).2 x.r.q).2 x.r.fr).2 x.r.mn).1)) (by simpa using F7.b0))
 clear F7 A7 hk7 hn7
 have HZ:Hid (Bx (w7.setCell ⟨w2.heap.size,9,none⟩ (.int .i64 (P.num (P.num (P.num (P.num (P.upTo s x.r.k 7).2 x.r.s).2 x.r.q).2 x.r.fr).2 x.r.mn).1)) (w.heap.size+1+1) 29 zrq):=HF7.out.f.z
 have HN:Hid (Bx (w7.setCell ⟨w2.heap.size,9,none⟩ (.int .i64 (P.num (P.num (P.num (P.num (P.upTo s x.r.k 7).2 x.r.s).2 x.r.q).2 x.r.fr).2 x.r.mn).1)) (w2.heap.size) 29 (rqLE (⟨5,[],(P.num (P.upTo s x.r.k 7).2 x.r.s).1,(P.num (P.num (P.upTo s x.r.k 7).2 x.r.s).2 x.r.q).1,0,[],[],[],(P.num (P.num (P.num (P.upTo s x.r.k 7).2 x.r.s).2 x.r.q).2 x.r.fr).1,(P.num (P.num (P.num (P.num (P.upTo s x.r.k 7).2 x.r.s).2 x.r.q).2 x.r.fr).2 x.r.mn).1,0⟩) (.slice none 0 0))):=HF7.out.n
 have HO:=hide (one_rqLE (⟨5,[],(P.num (P.upTo s x.r.k 7).2 x.r.s).1,(P.num (P.num (P.upTo s x.r.k 7).2 x.r.s).2 x.r.q).1,0,[],[],[],(P.num (P.num (P.num (P.upTo s x.r.k 7).2 x.r.s).2 x.r.q).2 x.r.fr).1,(P.num (P.num (P.num (P.num (P.upTo s x.r.k 7).2 x.r.s).2 x.r.q).2 x.r.fr).2 x.r.mn).1,0⟩) (.slice none 0 0) (by rfl))
 have HT:Hid (RowT Tryz.prog 29 (rqLE (⟨5,[],(P.num (P.upTo s x.r.k 7).2 x.r.s).1,(P.num (P.num (P.upTo s x.r.k 7).2 x.r.s).2 x.r.q).1,0,[],[],[],(P.num (P.num (P.num (P.upTo s x.r.k 7).2 x.r.s).2 x.r.q).2 x.r.fr).1,(P.num (P.num (P.num (P.num (P.upTo s x.r.k 7).2 x.r.s).2 x.r.q).2 x.r.fr).2 x.r.mn).1,0⟩) (.slice none 0 0)).length):=rowT_req
 have HL:Hid ((rqLE (⟨5,[],(P.num (P.upTo s x.r.k 7).2 x.r.s).1,(P.num (P.num (P.upTo s x.r.k 7).2 x.r.s).2 x.r.q).1,0,[],[],[],(P.num (P.num (P.num (P.upTo s x.r.k 7).2 x.r.s).2 x.r.q).2 x.r.fr).1,(P.num (P.num (P.num (P.num (P.upTo s x.r.k 7).2 x.r.s).2 x.r.q).2 x.r.fr).2 x.r.mn).1,0⟩) (.slice none 0 0)).length=zrq.length):=rfl
 go_wp2_with (first | ((with_reducible refine wl_load_bx HN.out HT.out ?_ ?_);rfl) | ((with_reducible refine wl_store_bx HZ.out HL.out HO.out HT.out ?_ ?_ ?_);rfl;rfl;intro wz HBz HKz))
 refine bodyPost_ret (bx_result (by rfl) _ (by rfl) HBz.out HT.out) rfl ?_
 rw [HQ.out]
 exact went_r HH.out HF7.out (HH.out.le HA7.out (by omega)) HKz.out _ (.slice none 0 0) rfl (OwnC.nil w2.heap.size _) (by omega) (fun k hk=>by cases hk)
set_option maxHeartbeats 8000000 in
set_option maxRecDepth 100000 in
theorem req_6 {H:Hnd}{P:PH σ}{At:World→List Nat→σ→Nat→Prop}(hH:Hand H P At) (w:World) (O:List Nat) (s:σ) (m:Nat) (x:Rm) (hx:RqHy O w x) (hA:At w O s (m+200)) (hkk:(P.upTo s x.r.k 7).1=6) :
 Calls Tryz.prog 144 #[H.a,rqV x] w (WentR At w O (reqP P s x.r).2 m (reqP P s x.r).1):=by
 have HH:Hid (Hand H P At):=hH
 have e0:=hH.e0
 have e1:=hH.e1
 have e2:=hH.e2
 have e3:=hH.e3
 have e4:=hH.e4
 have HF0:=hide (fl_lay w 29 O H (rqC x) zrq (hH.lt hA))
 have HA0:Hid (At (lay3 w 29 H (rqC x) zrq) O s (m+200)):=hH.kept hA (T:=[]) ((((Kept.refl _ _).alloc _).alloc _).alloc _) (by simp)
 clear hA hH
 obtain ⟨hS,hno,hd,hn,hf,hp,hc⟩:=hx
 have HQ:Hid (reqP P s x.r=(⟨6,[],(P.num (P.upTo s x.r.k 7).2 x.r.s).1,(P.num (P.num (P.upTo s x.r.k 7).2 x.r.s).2 x.r.q).1,0,[],[],[],0,0,(P.num (P.num (P.num (P.upTo s x.r.k 7).2 x.r.s).2 x.r.q).2 x.r.mb).1⟩,(P.num (P.num (P.num (P.upTo s x.r.k 7).2 x.r.s).2 x.r.q).2 x.r.mb).2)):=by
  show reqP P s x.r=_
  unfold reqP reqK reqS reqA reqQ
  rw [hkk,if_neg (by decide),if_neg (by decide),if_neg (by decide),if_neg (by decide),if_neg (by decide),if_pos (by decide)]
 have HK:=hide hkk
 clear hkk
 unfold Hnd.a rqV
 go_enter Tryz.func144,Tryz.ntmps144
 go_wp2_with fail
 have cN:=HH.out.upTo _ O s (m+199) x.r.k 7 HA0.out
 rw [HK.out] at cN
 refine cN.mono ?_
 clear cN
 rintro _ w2 ⟨rfl,O2,A2,hk2,hn2⟩
 have N2:=(HF0.out.call hk2 hn2).named (HH.out.lt A2) zrq
 have hs2:w.heap.size+3≤w2.heap.size:=N2.b3
 have HB:Hid (Bx (w2.alloc (.cells #[.int .i64 0,.string ⟨#[]⟩,.int .i64 0,.int .i64 0,.int .i64 0,.string ⟨#[]⟩,.slice none 0 0,.string ⟨#[]⟩,.int .i64 0,.int .i64 0,.int .i64 0] 29)) w2.heap.size 29 zrq):=N2.n
 have HO2:=hide (one_rqLE ⟨6,[],0,0,0,[],[],[],0,0,0⟩ (.slice none 0 0) (by rfl))
 have HT2:Hid (RowT Tryz.prog 29 (rqLE ⟨6,[],0,0,0,[],[],[],0,0,0⟩ (.slice none 0 0)).length):=rowT_req
 have HL2:Hid ((rqLE ⟨6,[],0,0,0,[],[],[],0,0,0⟩ (.slice none 0 0)).length=zrq.length):=rfl
 have HN2:Hid (Fn 29 w O H (rqC x) zrq w2.heap.size zrq (w2.alloc (.cells #[.int .i64 0,.string ⟨#[]⟩,.int .i64 0,.int .i64 0,.int .i64 0,.string ⟨#[]⟩,.slice none 0 0,.string ⟨#[]⟩,.int .i64 0,.int .i64 0,.int .i64 0] 29)) O2):=N2
 have HA2:=hide (HH.out.kept A2 (T:=[]) ((Kept.refl [] w2).alloc (.cells #[.int .i64 0,.string ⟨#[]⟩,.int .i64 0,.int .i64 0,.int .i64 0,.string ⟨#[]⟩,.slice none 0 0,.string ⟨#[]⟩,.int .i64 0,.int .i64 0,.int .i64 0] 29)) (by simp))
 clear N2 A2 hk2 hn2
 go_upto_region 2 with ((with_reducible refine wl_store_bx HB.out HL2.out HO2.out HT2.out ?_ ?_ ?_);rfl;rfl;intro w3 HB3 HK3)
 have F3:=HN2.out.stored HK3.out HB3.out
 have c3:w3.cell? ⟨w2.heap.size,0,none⟩=some (.int .i64 6):=F3.n.cell 0 rfl
 have d0:¬ w.heap.size=w2.heap.size:=by omega
 have d1:¬ w.heap.size+1=w2.heap.size:=by omega
 have d2:¬ w2.heap.size=w.heap.size:=by omega
 have d3:¬ w2.heap.size=w.heap.size+1:=by omega
 obtain ⟨g3,x3⟩:=F3.cells 0 2 rfl rfl
 have HF3:=hide F3
 have HA3:=hide (HH.out.kept HA2.out HK3.out (by simpa using HN2.out.b0))
 clear F3 HB HO2 HT2 HL2 HN2 HA2 HB3 HK3
 go_wp2_with fail
 have cN:=HH.out.num _ _ _ (m+198) x.r.s HA3.out
 refine cN.mono ?_
 clear cN c3 g3 x3
 rintro _ w4 ⟨rfl,O4,A4,hk4,hn4⟩
 have F4:=HF3.out.call hk4 hn4
 have n4:w4.cell? ⟨w2.heap.size,2,none⟩=some (.int .i64 0):=F4.n.cell 2 rfl
 have f4:w4.frozen? ⟨w2.heap.size,2,none⟩=false:=F4.n.froz 2
 have c4:w4.cell? ⟨w2.heap.size,0,none⟩=some (.int .i64 6):=F4.n.cell 0 rfl
 obtain ⟨g4,x4⟩:=F4.cells 0 3 rfl rfl
 have HF4:=hide (F4.set 2 (.int .i64 (P.num (P.upTo s x.r.k 7).2 x.r.s).1))
 have HA4:=hide (HH.out.kept A4 (kept_set w4 (w2.heap.size) 2 (.int .i64 (P.num (P.upTo s x.r.k 7).2 x.r.s).1)) (by simpa using F4.b0))
 clear F4 A4 hk4 hn4
 go_wp2_with fail
 have cN:=HH.out.num _ _ _ (m+197) x.r.q HA4.out
 refine cN.mono ?_
 clear cN n4 f4 c4 g4 x4
 rintro _ w5 ⟨rfl,O5,A5,hk5,hn5⟩
 have F5:=HF4.out.call hk5 hn5
 have n5:w5.cell? ⟨w2.heap.size,3,none⟩=some (.int .i64 0):=F5.n.cell 3 rfl
 have f5:w5.frozen? ⟨w2.heap.size,3,none⟩=false:=F5.n.froz 3
 have c5:w5.cell? ⟨w2.heap.size,0,none⟩=some (.int .i64 6):=F5.n.cell 0 rfl
 obtain ⟨g5,x5⟩:=F5.cells 0 10 rfl rfl
 have HF5:=hide (F5.set 3 (.int .i64 (P.num (P.num (P.upTo s x.r.k 7).2 x.r.s).2 x.r.q).1))
 have HA5:=hide (HH.out.kept A5 (kept_set w5 (w2.heap.size) 3 (.int .i64 (P.num (P.num (P.upTo s x.r.k 7).2 x.r.s).2 x.r.q).1)) (by simpa using F5.b0))
 clear F5 A5 hk5 hn5
 go_wp2_with fail
 have cN:=HH.out.num _ _ _ (m+196) x.r.mb HA5.out
 refine cN.mono ?_
 clear cN n5 f5 c5 g5 x5
 rintro _ w6 ⟨rfl,O6,A6,hk6,hn6⟩
 have F6:=HF5.out.call hk6 hn6
 have n6:w6.cell? ⟨w2.heap.size,10,none⟩=some (.int .i64 0):=F6.n.cell 10 rfl
 have f6:w6.frozen? ⟨w2.heap.size,10,none⟩=false:=F6.n.froz 10
 have c6:w6.cell? ⟨w2.heap.size,0,none⟩=some (.int .i64 6):=F6.n.cell 0 rfl
 have HF6:=hide (F6.set 10 (.int .i64 (P.num (P.num (P.num (P.upTo s x.r.k 7).2 x.r.s).2 x.r.q).2 x.r.mb).1))
 have HA6:=hide (HH.out.kept A6 (kept_set w6 (w2.heap.size) 10 (.int .i64 (P.num (P.num (P.num (P.upTo s x.r.k 7).2 x.r.s).2 x.r.q).2 x.r.mb).1)) (by simpa using F6.b0))
 clear F6 A6 hk6 hn6
 have HZ:Hid (Bx (w6.setCell ⟨w2.heap.size,10,none⟩ (.int .i64 (P.num (P.num (P.num (P.upTo s x.r.k 7).2 x.r.s).2 x.r.q).2 x.r.mb).1)) (w.heap.size+1+1) 29 zrq):=HF6.out.f.z
 have HN:Hid (Bx (w6.setCell ⟨w2.heap.size,10,none⟩ (.int .i64 (P.num (P.num (P.num (P.upTo s x.r.k 7).2 x.r.s).2 x.r.q).2 x.r.mb).1)) (w2.heap.size) 29 (rqLE (⟨6,[],(P.num (P.upTo s x.r.k 7).2 x.r.s).1,(P.num (P.num (P.upTo s x.r.k 7).2 x.r.s).2 x.r.q).1,0,[],[],[],0,0,(P.num (P.num (P.num (P.upTo s x.r.k 7).2 x.r.s).2 x.r.q).2 x.r.mb).1⟩) (.slice none 0 0))):=HF6.out.n
 have HO:=hide (one_rqLE (⟨6,[],(P.num (P.upTo s x.r.k 7).2 x.r.s).1,(P.num (P.num (P.upTo s x.r.k 7).2 x.r.s).2 x.r.q).1,0,[],[],[],0,0,(P.num (P.num (P.num (P.upTo s x.r.k 7).2 x.r.s).2 x.r.q).2 x.r.mb).1⟩) (.slice none 0 0) (by rfl))
 have HT:Hid (RowT Tryz.prog 29 (rqLE (⟨6,[],(P.num (P.upTo s x.r.k 7).2 x.r.s).1,(P.num (P.num (P.upTo s x.r.k 7).2 x.r.s).2 x.r.q).1,0,[],[],[],0,0,(P.num (P.num (P.num (P.upTo s x.r.k 7).2 x.r.s).2 x.r.q).2 x.r.mb).1⟩) (.slice none 0 0)).length):=rowT_req
 have HL:Hid ((rqLE (⟨6,[],(P.num (P.upTo s x.r.k 7).2 x.r.s).1,(P.num (P.num (P.upTo s x.r.k 7).2 x.r.s).2 x.r.q).1,0,[],[],[],0,0,(P.num (P.num (P.num (P.upTo s x.r.k 7).2 x.r.s).2 x.r.q).2 x.r.mb).1⟩) (.slice none 0 0)).length=zrq.length):=rfl
 go_wp2_with (first | ((with_reducible refine wl_load_bx HN.out HT.out ?_ ?_);rfl) | ((with_reducible refine wl_store_bx HZ.out HL.out HO.out HT.out ?_ ?_ ?_);rfl;rfl;intro wz HBz HKz))
 refine bodyPost_ret (bx_result (by rfl) _ (by rfl) HBz.out HT.out) rfl ?_
 rw [HQ.out]
 exact went_r HH.out HF6.out (HH.out.le HA6.out (by omega)) HKz.out _ (.slice none 0 0) rfl (OwnC.nil w2.heap.size _) (by omega) (fun k hk=>by cases hk)
end Go.Proofs.YtakafmejllilnaaGreat
