/-
  Cases of verdicts. (Written by mk/mkfields.py.)
-/
import Derived.Test.YtakafmejllilnaaGreatF8
namespace Go.Proofs.YtakafmejllilnaaGreat
open Go.RowKit
variable {σ : Type}
set_option maxHeartbeats 8000000 in
set_option maxRecDepth 100000 in
theorem ver_13 {H:Hnd}{P:PH σ}{At:World→List Nat→σ→Nat→Prop}(hH:Hand H P At) (w:World) (O:List Nat) (s:σ) (m:Nat) (x:Vt) (u:Value) (hx:VtHy O w x u) (hA:At w O s (m+7000)) (hkk:(P.upTo s x.c 14).1=13) :
 Calls Tryz.prog 142 #[H.a,vtV x u] w (WentV At w O (verP P s x).2 m (verP P s x).1):=by
 obtain ⟨⟨uo,un,uc,KK,rfl,hu,hKK⟩,hp,hk'⟩:=hx
 have HH:Hid (Hand H P At):=hH
 have e0:=hH.e0
 have e1:=hH.e1
 have e2:=hH.e2
 have e3:=hH.e3
 have e4:=hH.e4
 have HF0:=hide (fl_lay w 34 O H (vtLE x (.slice uo un uc)) zvt (hH.lt hA))
 have HA0:Hid (At (lay3 w 34 H (vtLE x (.slice uo un uc)) zvt) O s (m+7000)):=hH.kept hA (T:=[]) ((((Kept.refl _ _).alloc _).alloc _).alloc _) (by simp)
 clear hA hH
 have HQ:Hid (verP P s x=(⟨13,0,0,[],0,[],(P.num (P.upTo s x.c 14).2 x.m).1⟩,(P.num (P.upTo s x.c 14).2 x.m).2)):=by
  show verP P s x=_
  unfold verP verK verT
  rw [hkk,if_neg (by decide),if_neg (by decide),if_neg (by decide),if_neg (by decide),if_neg (by decide),if_neg (by decide),if_pos (by decide)]
 have HK:=hide hkk
 clear hkk
 unfold Hnd.a vtV
 go_enter Tryz.func142,Tryz.ntmps142
 go_wp2_with fail
 have cN:=HH.out.upTo _ O s (m+6999) x.c 14 HA0.out
 rw [HK.out] at cN
 refine cN.mono ?_
 clear cN
 rintro _ w2 ⟨rfl,O2,A2,hk2,hn2⟩
 have N2:=(HF0.out.call hk2 hn2).named (HH.out.lt A2) zvt
 have hs2:w.heap.size+3≤w2.heap.size:=N2.b3
 have HB:Hid (Bx (w2.alloc (.cells #[.int .i64 0,.int .i64 0,.int .i64 0,.string ⟨#[]⟩,.int .u64 0,.slice none 0 0,.int .i64 0] 34)) w2.heap.size 34 zvt):=N2.n
 have HO2:=hide (one_vtLE ⟨13,0,0,[],0,[],0⟩ (.slice none 0 0) (by rfl))
 have HT2:Hid (RowT Tryz.prog 34 (vtLE ⟨13,0,0,[],0,[],0⟩ (.slice none 0 0)).length):=rowT_ver
 have HL2:Hid ((vtLE ⟨13,0,0,[],0,[],0⟩ (.slice none 0 0)).length=zvt.length):=rfl
 have HN2:Hid (Fn 34 w O H (vtLE x (.slice uo un uc)) zvt w2.heap.size zvt (w2.alloc (.cells #[.int .i64 0,.int .i64 0,.int .i64 0,.string ⟨#[]⟩,.int .u64 0,.slice none 0 0,.int .i64 0] 34)) O2):=N2
 have HA2:=hide (HH.out.kept A2 (T:=[]) ((Kept.refl [] w2).alloc (.cells #[.int .i64 0,.int .i64 0,.int .i64 0,.string ⟨#[]⟩,.int .u64 0,.slice none 0 0,.int .i64 0] 34)) (by simp))
 clear N2 A2 hk2 hn2
 go_upto_region 2 with ((with_reducible refine wl_store_bx HB.out HL2.out HO2.out HT2.out ?_ ?_ ?_);rfl;rfl;intro w3 HB3 HK3)
 have F3:=HN2.out.stored HK3.out HB3.out
 have c3:w3.cell? ⟨w2.heap.size,0,none⟩=some (.int .i64 13):=F3.n.cell 0 rfl
 have d0:¬ w.heap.size=w2.heap.size:=by omega
 have d1:¬ w.heap.size+1=w2.heap.size:=by omega
 have d2:¬ w2.heap.size=w.heap.size:=by omega
 have d3:¬ w2.heap.size=w.heap.size+1:=by omega
 obtain ⟨g3,x3⟩:=F3.cells 0 6 rfl rfl
 have HF3:=hide F3
 have HA3:=hide (HH.out.kept HA2.out HK3.out (by simpa using HN2.out.b0))
 clear F3 HB HO2 HT2 HL2 HN2 HA2 HB3 HK3
 go_wp2_with fail
 have cN:=HH.out.num _ _ _ (m+6998) x.m HA3.out
 refine cN.mono ?_
 clear cN c3 g3 x3
 rintro _ w4 ⟨rfl,O4,A4,hk4,hn4⟩
 have F4:=HF3.out.call hk4 hn4
 have n4:w4.cell? ⟨w2.heap.size,6,none⟩=some (.int .i64 0):=F4.n.cell 6 rfl
 have f4:w4.frozen? ⟨w2.heap.size,6,none⟩=false:=F4.n.froz 6
 have c4:w4.cell? ⟨w2.heap.size,0,none⟩=some (.int .i64 13):=F4.n.cell 0 rfl
 have HF4:=hide (F4.set 6 (.int .i64 (P.num (P.upTo s x.c 14).2 x.m).1))
 have HA4:=hide (HH.out.kept A4 (kept_set w4 (w2.heap.size) 6 (.int .i64 (P.num (P.upTo s x.c 14).2 x.m).1)) (by simpa using F4.b0))
 clear F4 A4 hk4 hn4
 have HZ:Hid (Bx (w4.setCell ⟨w2.heap.size,6,none⟩ (.int .i64 (P.num (P.upTo s x.c 14).2 x.m).1)) (w.heap.size+1+1) 34 zvt):=HF4.out.f.z
 have HN:Hid (Bx (w4.setCell ⟨w2.heap.size,6,none⟩ (.int .i64 (P.num (P.upTo s x.c 14).2 x.m).1)) (w2.heap.size) 34 (vtLE (⟨13,0,0,[],0,[],(P.num (P.upTo s x.c 14).2 x.m).1⟩) (.slice none 0 0))):=HF4.out.n
 have HO:=hide (one_vtLE (⟨13,0,0,[],0,[],(P.num (P.upTo s x.c 14).2 x.m).1⟩) (.slice none 0 0) (by rfl))
 have HT:Hid (RowT Tryz.prog 34 (vtLE (⟨13,0,0,[],0,[],(P.num (P.upTo s x.c 14).2 x.m).1⟩) (.slice none 0 0)).length):=rowT_ver
 have HL:Hid ((vtLE (⟨13,0,0,[],0,[],(P.num (P.upTo s x.c 14).2 x.m).1⟩) (.slice none 0 0)).length=zvt.length):=rfl
 go_wp2_with (first | ((with_reducible refine wl_load_bx HN.out HT.out ?_ ?_);rfl) | ((with_reducible refine wl_store_bx HZ.out HL.out HO.out HT.out ?_ ?_ ?_);rfl;rfl;intro wz HBz HKz))
 refine bodyPost_ret (bx_result (by rfl) _ (by rfl) HBz.out HT.out) rfl ?_
 rw [HQ.out]
 exact went_v HH.out HF4.out (HH.out.le HA4.out (by omega)) HKz.out _ (.slice none 0 0) rfl (KoO.nil w2.heap.size _) (by omega) (fun k hk=>by cases hk)
set_option maxHeartbeats 8000000 in
set_option maxRecDepth 100000 in
theorem ver_14 {H:Hnd}{P:PH σ}{At:World→List Nat→σ→Nat→Prop}(hH:Hand H P At) (w:World) (O:List Nat) (s:σ) (m:Nat) (x:Vt) (u:Value) (hx:VtHy O w x u) (hA:At w O s (m+7000)) (hkk:(P.upTo s x.c 14).1=14) :
 Calls Tryz.prog 142 #[H.a,vtV x u] w (WentV At w O (verP P s x).2 m (verP P s x).1):=by
 obtain ⟨⟨uo,un,uc,KK,rfl,hu,hKK⟩,hp,hk'⟩:=hx
 have HH:Hid (Hand H P At):=hH
 have e0:=hH.e0
 have e1:=hH.e1
 have e2:=hH.e2
 have e3:=hH.e3
 have e4:=hH.e4
 have HF0:=hide (fl_lay w 34 O H (vtLE x (.slice uo un uc)) zvt (hH.lt hA))
 have HA0:Hid (At (lay3 w 34 H (vtLE x (.slice uo un uc)) zvt) O s (m+7000)):=hH.kept hA (T:=[]) ((((Kept.refl _ _).alloc _).alloc _).alloc _) (by simp)
 clear hA hH
 have HQ:Hid (verP P s x=(⟨14,0,0,[],0,[],(P.num (P.upTo s x.c 14).2 x.m).1⟩,(P.num (P.upTo s x.c 14).2 x.m).2)):=by
  show verP P s x=_
  unfold verP verK verT
  rw [hkk,if_neg (by decide),if_neg (by decide),if_neg (by decide),if_neg (by decide),if_neg (by decide),if_neg (by decide),if_pos (by decide)]
 have HK:=hide hkk
 clear hkk
 unfold Hnd.a vtV
 go_enter Tryz.func142,Tryz.ntmps142
 go_wp2_with fail
 have cN:=HH.out.upTo _ O s (m+6999) x.c 14 HA0.out
 rw [HK.out] at cN
 refine cN.mono ?_
 clear cN
 rintro _ w2 ⟨rfl,O2,A2,hk2,hn2⟩
 have N2:=(HF0.out.call hk2 hn2).named (HH.out.lt A2) zvt
 have hs2:w.heap.size+3≤w2.heap.size:=N2.b3
 have HB:Hid (Bx (w2.alloc (.cells #[.int .i64 0,.int .i64 0,.int .i64 0,.string ⟨#[]⟩,.int .u64 0,.slice none 0 0,.int .i64 0] 34)) w2.heap.size 34 zvt):=N2.n
 have HO2:=hide (one_vtLE ⟨14,0,0,[],0,[],0⟩ (.slice none 0 0) (by rfl))
 have HT2:Hid (RowT Tryz.prog 34 (vtLE ⟨14,0,0,[],0,[],0⟩ (.slice none 0 0)).length):=rowT_ver
 have HL2:Hid ((vtLE ⟨14,0,0,[],0,[],0⟩ (.slice none 0 0)).length=zvt.length):=rfl
 have HN2:Hid (Fn 34 w O H (vtLE x (.slice uo un uc)) zvt w2.heap.size zvt (w2.alloc (.cells #[.int .i64 0,.int .i64 0,.int .i64 0,.string ⟨#[]⟩,.int .u64 0,.slice none 0 0,.int .i64 0] 34)) O2):=N2
 have HA2:=hide (HH.out.kept A2 (T:=[]) ((Kept.refl [] w2).alloc (.cells #[.int .i64 0,.int .i64 0,.int .i64 0,.string ⟨#[]⟩,.int .u64 0,.slice none 0 0,.int .i64 0] 34)) (by simp))
 clear N2 A2 hk2 hn2
 go_upto_region 2 with ((with_reducible refine wl_store_bx HB.out HL2.out HO2.out HT2.out ?_ ?_ ?_);rfl;rfl;intro w3 HB3 HK3)
 have F3:=HN2.out.stored HK3.out HB3.out
 have c3:w3.cell? ⟨w2.heap.size,0,none⟩=some (.int .i64 14):=F3.n.cell 0 rfl
 have d0:¬ w.heap.size=w2.heap.size:=by omega
 have d1:¬ w.heap.size+1=w2.heap.size:=by omega
 have d2:¬ w2.heap.size=w.heap.size:=by omega
 have d3:¬ w2.heap.size=w.heap.size+1:=by omega
 obtain ⟨g3,x3⟩:=F3.cells 0 6 rfl rfl
 have HF3:=hide F3
 have HA3:=hide (HH.out.kept HA2.out HK3.out (by simpa using HN2.out.b0))
 clear F3 HB HO2 HT2 HL2 HN2 HA2 HB3 HK3
 go_wp2_with fail
 have cN:=HH.out.num _ _ _ (m+6998) x.m HA3.out
 refine cN.mono ?_
 clear cN c3 g3 x3
 rintro _ w4 ⟨rfl,O4,A4,hk4,hn4⟩
 have F4:=HF3.out.call hk4 hn4
 have n4:w4.cell? ⟨w2.heap.size,6,none⟩=some (.int .i64 0):=F4.n.cell 6 rfl
 have f4:w4.frozen? ⟨w2.heap.size,6,none⟩=false:=F4.n.froz 6
 have c4:w4.cell? ⟨w2.heap.size,0,none⟩=some (.int .i64 14):=F4.n.cell 0 rfl
 have HF4:=hide (F4.set 6 (.int .i64 (P.num (P.upTo s x.c 14).2 x.m).1))
 have HA4:=hide (HH.out.kept A4 (kept_set w4 (w2.heap.size) 6 (.int .i64 (P.num (P.upTo s x.c 14).2 x.m).1)) (by simpa using F4.b0))
 clear F4 A4 hk4 hn4
 have HZ:Hid (Bx (w4.setCell ⟨w2.heap.size,6,none⟩ (.int .i64 (P.num (P.upTo s x.c 14).2 x.m).1)) (w.heap.size+1+1) 34 zvt):=HF4.out.f.z
 have HN:Hid (Bx (w4.setCell ⟨w2.heap.size,6,none⟩ (.int .i64 (P.num (P.upTo s x.c 14).2 x.m).1)) (w2.heap.size) 34 (vtLE (⟨14,0,0,[],0,[],(P.num (P.upTo s x.c 14).2 x.m).1⟩) (.slice none 0 0))):=HF4.out.n
 have HO:=hide (one_vtLE (⟨14,0,0,[],0,[],(P.num (P.upTo s x.c 14).2 x.m).1⟩) (.slice none 0 0) (by rfl))
 have HT:Hid (RowT Tryz.prog 34 (vtLE (⟨14,0,0,[],0,[],(P.num (P.upTo s x.c 14).2 x.m).1⟩) (.slice none 0 0)).length):=rowT_ver
 have HL:Hid ((vtLE (⟨14,0,0,[],0,[],(P.num (P.upTo s x.c 14).2 x.m).1⟩) (.slice none 0 0)).length=zvt.length):=rfl
 go_wp2_with (first | ((with_reducible refine wl_load_bx HN.out HT.out ?_ ?_);rfl) | ((with_reducible refine wl_store_bx HZ.out HL.out HO.out HT.out ?_ ?_ ?_);rfl;rfl;intro wz HBz HKz))
 refine bodyPost_ret (bx_result (by rfl) _ (by rfl) HBz.out HT.out) rfl ?_
 rw [HQ.out]
 exact went_v HH.out HF4.out (HH.out.le HA4.out (by omega)) HKz.out _ (.slice none 0 0) rfl (KoO.nil w2.heap.size _) (by omega) (fun k hk=>by cases hk)
set_option maxHeartbeats 8000000 in
set_option maxRecDepth 100000 in
theorem ver_e {H:Hnd}{P:PH σ}{At:World→List Nat→σ→Nat→Prop}(hH:Hand H P At) (w:World) (O:List Nat) (s:σ) (m:Nat) (x:Vt) (u:Value) (hx:VtHy O w x u) (hA:At w O s (m+7000)) (kk:Int) (hkk:(P.upTo s x.c 14).1=kk) (h1:kk≠1) (h2:kk≠2) (h3:kk≠3) (h4:kk≠4) (h8:kk≠8) (h9:kk≠9) (h10:kk≠10) (h11:kk≠11) (h12:kk≠12) (h13:kk≠13) (h14:kk≠14) :
 Calls Tryz.prog 142 #[H.a,vtV x u] w (WentV At w O (verP P s x).2 m (verP P s x).1):=by
 obtain ⟨⟨uo,un,uc,KK,rfl,hu,hKK⟩,hp,hk'⟩:=hx
 have HH:Hid (Hand H P At):=hH
 have e0:=hH.e0
 have e1:=hH.e1
 have e2:=hH.e2
 have e3:=hH.e3
 have e4:=hH.e4
 have HF0:=hide (fl_lay w 34 O H (vtLE x (.slice uo un uc)) zvt (hH.lt hA))
 have HA0:Hid (At (lay3 w 34 H (vtLE x (.slice uo un uc)) zvt) O s (m+7000)):=hH.kept hA (T:=[]) ((((Kept.refl _ _).alloc _).alloc _).alloc _) (by simp)
 clear hA hH
 have HQ:Hid (verP P s x=(⟨kk,0,0,[],0,[],0⟩,(P.upTo s x.c 14).2)):=by
  show verP P s x=_
  unfold verP verK verT
  rw [hkk,if_neg (by omega),if_neg (by omega),if_neg (by omega),if_neg (by omega),if_neg (by omega),if_neg (by omega),if_neg (by omega)]
 have b1:(kk==1)=false:=by simp;omega
 have b2:(kk==2)=false:=by simp;omega
 have b3:(kk==3)=false:=by simp;omega
 have b4:(kk==4)=false:=by simp;omega
 have b8:(kk==8)=false:=by simp;omega
 have b9:(kk==9)=false:=by simp;omega
 have b10:(kk==10)=false:=by simp;omega
 have b11:(kk==11)=false:=by simp;omega
 have b12:(kk==12)=false:=by simp;omega
 have b13:(kk==13)=false:=by simp;omega
 have b14:(kk==14)=false:=by simp;omega
 clear h1 h2 h3 h4 h8 h9 h10 h11 h12 h13 h14
 have HK:=hide hkk
 clear hkk
 unfold Hnd.a vtV
 go_enter Tryz.func142,Tryz.ntmps142
 go_wp2_with fail
 have cN:=HH.out.upTo _ O s (m+6999) x.c 14 HA0.out
 rw [HK.out] at cN
 refine cN.mono ?_
 clear cN
 rintro _ w2 ⟨rfl,O2,A2,hk2,hn2⟩
 have N2:=(HF0.out.call hk2 hn2).named (HH.out.lt A2) zvt
 have hs2:w.heap.size+3≤w2.heap.size:=N2.b3
 have HB:Hid (Bx (w2.alloc (.cells #[.int .i64 0,.int .i64 0,.int .i64 0,.string ⟨#[]⟩,.int .u64 0,.slice none 0 0,.int .i64 0] 34)) w2.heap.size 34 zvt):=N2.n
 have HO2:=hide (one_vtLE ⟨kk,0,0,[],0,[],0⟩ (.slice none 0 0) (by rfl))
 have HT2:Hid (RowT Tryz.prog 34 (vtLE ⟨kk,0,0,[],0,[],0⟩ (.slice none 0 0)).length):=rowT_ver
 have HL2:Hid ((vtLE ⟨kk,0,0,[],0,[],0⟩ (.slice none 0 0)).length=zvt.length):=rfl
 have HN2:Hid (Fn 34 w O H (vtLE x (.slice uo un uc)) zvt w2.heap.size zvt (w2.alloc (.cells #[.int .i64 0,.int .i64 0,.int .i64 0,.string ⟨#[]⟩,.int .u64 0,.slice none 0 0,.int .i64 0] 34)) O2):=N2
 have HA2:=hide (HH.out.kept A2 (T:=[]) ((Kept.refl [] w2).alloc (.cells #[.int .i64 0,.int .i64 0,.int .i64 0,.string ⟨#[]⟩,.int .u64 0,.slice none 0 0,.int .i64 0] 34)) (by simp))
 clear N2 A2 hk2 hn2
 go_upto_region 2 with ((with_reducible refine wl_store_bx HB.out HL2.out HO2.out HT2.out ?_ ?_ ?_);rfl;rfl;intro w3 HB3 HK3)
 have F3:=HN2.out.stored HK3.out HB3.out
 have c3:w3.cell? ⟨w2.heap.size,0,none⟩=some (.int .i64 kk):=F3.n.cell 0 rfl
 have d0:¬ w.heap.size=w2.heap.size:=by omega
 have d1:¬ w.heap.size+1=w2.heap.size:=by omega
 have d2:¬ w2.heap.size=w.heap.size:=by omega
 have d3:¬ w2.heap.size=w.heap.size+1:=by omega
 have HF3:=hide F3
 have HA3:=hide (HH.out.kept HA2.out HK3.out (by simpa using HN2.out.b0))
 clear F3 HB HO2 HT2 HL2 HN2 HA2 HB3 HK3
 have HZ:Hid (Bx w3 (w.heap.size+1+1) 34 zvt):=HF3.out.f.z
 have HN:Hid (Bx w3 (w2.heap.size) 34 (vtLE (⟨kk,0,0,[],0,[],0⟩) (.slice none 0 0))):=HF3.out.n
 have HO:=hide (one_vtLE (⟨kk,0,0,[],0,[],0⟩) (.slice none 0 0) (by rfl))
 have HT:Hid (RowT Tryz.prog 34 (vtLE (⟨kk,0,0,[],0,[],0⟩) (.slice none 0 0)).length):=rowT_ver
 have HL:Hid ((vtLE (⟨kk,0,0,[],0,[],0⟩) (.slice none 0 0)).length=zvt.length):=rfl
 go_wp2_with (first | ((with_reducible refine wl_load_bx HN.out HT.out ?_ ?_);rfl) | ((with_reducible refine wl_store_bx HZ.out HL.out HO.out HT.out ?_ ?_ ?_);rfl;rfl;intro wz HBz HKz))
 refine bodyPost_ret (bx_result (by rfl) _ (by rfl) HBz.out HT.out) rfl ?_
 rw [HQ.out]
 exact went_v HH.out HF3.out (HH.out.le HA3.out (by omega)) HKz.out _ (.slice none 0 0) rfl (KoO.nil w2.heap.size _) (by omega) (fun k hk=>by cases hk)
end Go.Proofs.YtakafmejllilnaaGreat
