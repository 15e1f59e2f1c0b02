/-
  Texts laid as one.
-/
import Derived.Test.YtakafmejllilnaaGreatF8r
import Derived.Test.YtakafmejllilnaaGreatEnVerAr
import Derived.Test.YtakafmejllilnaaGreatEnVerBr
import Derived.Test.YtakafmejllilnaaGreatEnVerCr
set_option maxHeartbeats 8000000
set_option maxRecDepth 100000
/-
 Cases of verdicts. (Written by mk/mkfields.py.)
-/
namespace Go.Proofs.YtakafmejllilnaaGreat
open Go.RowKit
variable {σ : Type}
theorem vy {H:df}{P:PH σ}{At:World→List Nat→σ→Nat→Prop}(hH:bH H P At) (w:World) (O:List Nat) (s:σ) (m:Nat) (x:Vt) (u:Value) (hx:eb O w x u) (hA:At w O s (m+7000)) (hkk:(P.upTo s x.c 14).1=13) :
 Calls Tryz.prog 142 #[H.a,dx x u] w (eG At w O (aH P s x).2 m (aH P s x).1):=by
 obtain ⟨⟨uo,un,uc,KK,rfl,hu,hKK⟩,hp,hk'⟩:=hx;have HH:Hid (bH H P At):=hH;have e0:=hH.e0;have e1:=hH.e1;have e2:=hH.e2;have e3:=hH.e3;have e4:=hH.e4;have HF0:=aa (cu w 34 O H (au x (.slice uo un uc)) aA (hH.lt hA));have HA0:Hid (At (dZ w 34 H (au x (.slice uo un uc)) aA) O s (m+7000)):=hH.kept hA (T:=[]) ((((ab.refl _ _).alloc _).alloc _).alloc _) (by simp);clear hA hH
 have HQ:Hid (aH P s x=(⟨13,0,0,[],0,[],(P.num (P.upTo s x.c 14).2 x.m).1⟩,(P.num (P.upTo s x.c 14).2 x.m).2)):=by
  show aH P s x=_;unfold aH ch co;rw [hkk,if_neg (by decide),if_neg (by decide),if_neg (by decide),if_neg (by decide),if_neg (by decide),if_neg (by decide),if_pos (by decide)]
 have HK:=aa hkk;clear hkk;unfold df.a dx;go_enter Tryz.func142,Tryz.ntmps142;go_wp2_with fail
 have cN:=HH.out.upTo _ O s (m+6999) x.c 14 HA0.out;rw [HK.out] at cN;refine cN.mono ?_;clear cN;rintro _ w2 ⟨rfl,O2,A2,hk2,hn2⟩;have N2:=(HF0.out.call hk2 hn2).named (HH.out.lt A2) aA;have hs2:w.heap.size+3≤w2.heap.size:=N2.b3;have HB:Hid (Bx (w2.alloc (.cells #[.int .i64 0,.int .i64 0,.int .i64 0,.string ⟨#[]⟩,.int .u64 0,.slice none 0 0,.int .i64 0] 34)) w2.heap.size 34 aA):=N2.n;have HO2:=aa (aQ ⟨13,0,0,[],0,[],0⟩ (.slice none 0 0) (by rfl));have HT2:Hid (aq Tryz.prog 34 (au ⟨13,0,0,[],0,[],0⟩ (.slice none 0 0)).length):=am;have HL2:Hid ((au ⟨13,0,0,[],0,[],0⟩ (.slice none 0 0)).length=aA.length):=rfl;have HN2:Hid (Fn 34 w O H (au x (.slice uo un uc)) aA w2.heap.size aA (w2.alloc (.cells #[.int .i64 0,.int .i64 0,.int .i64 0,.string ⟨#[]⟩,.int .u64 0,.slice none 0 0,.int .i64 0] 34)) O2):=N2;have HA2:=aa (HH.out.kept A2 (T:=[]) ((ab.refl [] w2).alloc (.cells #[.int .i64 0,.int .i64 0,.int .i64 0,.string ⟨#[]⟩,.int .u64 0,.slice none 0 0,.int .i64 0] 34)) (by simp));clear N2 A2 hk2 hn2;go_upto_region 2 with ((with_reducible refine ac HB.out HL2.out HO2.out HT2.out ?_ ?_ ?_);rfl;rfl;intro w3 HB3 HK3)
 have F3:=HN2.out.stored HK3.out HB3.out;have c3:w3.cell? ⟨w2.heap.size,0,none⟩=some (.int .i64 13):=F3.n.cell 0 rfl;have d0:¬ w.heap.size=w2.heap.size:=by omega
 have d1:¬ w.heap.size+1=w2.heap.size:=by omega
 have d2:¬ w2.heap.size=w.heap.size:=by omega
 have d3:¬ w2.heap.size=w.heap.size+1:=by omega
 obtain ⟨g3,x3⟩:=F3.cells 0 6 rfl rfl;have HF3:=aa F3;have HA3:=aa (HH.out.kept HA2.out HK3.out (by simpa using HN2.out.b0));clear F3 HB HO2 HT2 HL2 HN2 HA2 HB3 HK3;go_wp2_with fail
 have cN:=HH.out.num _ _ _ (m+6998) x.m HA3.out;refine cN.mono ?_;clear cN c3 g3 x3;rintro _ w4 ⟨rfl,O4,A4,hk4,hn4⟩;have F4:=HF3.out.call hk4 hn4;have n4:w4.cell? ⟨w2.heap.size,6,none⟩=some (.int .i64 0):=F4.n.cell 6 rfl;have f4:w4.frozen? ⟨w2.heap.size,6,none⟩=false:=F4.n.froz 6;have c4:w4.cell? ⟨w2.heap.size,0,none⟩=some (.int .i64 13):=F4.n.cell 0 rfl;have HF4:=aa (F4.set 6 (.int .i64 (P.num (P.upTo s x.c 14).2 x.m).1));have HA4:=aa (HH.out.kept A4 (aj w4 (w2.heap.size) 6 (.int .i64 (P.num (P.upTo s x.c 14).2 x.m).1)) (by simpa using F4.b0));clear F4 A4 hk4 hn4;have HZ:Hid (Bx (w4.setCell ⟨w2.heap.size,6,none⟩ (.int .i64 (P.num (P.upTo s x.c 14).2 x.m).1)) (w.heap.size+1+1) 34 aA):=HF4.out.f.z;have HN:Hid (Bx (w4.setCell ⟨w2.heap.size,6,none⟩ (.int .i64 (P.num (P.upTo s x.c 14).2 x.m).1)) (w2.heap.size) 34 (au (⟨13,0,0,[],0,[],(P.num (P.upTo s x.c 14).2 x.m).1⟩) (.slice none 0 0))):=HF4.out.n;have HO:=aa (aQ (⟨13,0,0,[],0,[],(P.num (P.upTo s x.c 14).2 x.m).1⟩) (.slice none 0 0) (by rfl));have HT:Hid (aq Tryz.prog 34 (au (⟨13,0,0,[],0,[],(P.num (P.upTo s x.c 14).2 x.m).1⟩) (.slice none 0 0)).length):=am;have HL:Hid ((au (⟨13,0,0,[],0,[],(P.num (P.upTo s x.c 14).2 x.m).1⟩) (.slice none 0 0)).length=aA.length):=rfl;go_wp2_with (first | ((with_reducible refine ak HN.out HT.out ?_ ?_);rfl) | ((with_reducible refine ac HZ.out HL.out HO.out HT.out ?_ ?_ ?_);rfl;rfl;intro wz HBz HKz))
 refine bodyPost_ret (al (by rfl) _ (by rfl) HBz.out HT.out) rfl ?_;rw [HQ.out];exact eD HH.out HF4.out (HH.out.le HA4.out (by omega)) HKz.out _ (.slice none 0 0) rfl (bJ.nil w2.heap.size _) (by omega) (fun k hk=>by cases hk)
theorem vL {H:df}{P:PH σ}{At:World→List Nat→σ→Nat→Prop}(hH:bH H P At) (w:World) (O:List Nat) (s:σ) (m:Nat) (x:Vt) (u:Value) (hx:eb O w x u) (hA:At w O s (m+7000)) (hkk:(P.upTo s x.c 14).1=14) :
 Calls Tryz.prog 142 #[H.a,dx x u] w (eG At w O (aH P s x).2 m (aH P s x).1):=by
 obtain ⟨⟨uo,un,uc,KK,rfl,hu,hKK⟩,hp,hk'⟩:=hx;have HH:Hid (bH H P At):=hH;have e0:=hH.e0;have e1:=hH.e1;have e2:=hH.e2;have e3:=hH.e3;have e4:=hH.e4;have HF0:=aa (cu w 34 O H (au x (.slice uo un uc)) aA (hH.lt hA));have HA0:Hid (At (dZ w 34 H (au x (.slice uo un uc)) aA) O s (m+7000)):=hH.kept hA (T:=[]) ((((ab.refl _ _).alloc _).alloc _).alloc _) (by simp);clear hA hH
 have HQ:Hid (aH P s x=(⟨14,0,0,[],0,[],(P.num (P.upTo s x.c 14).2 x.m).1⟩,(P.num (P.upTo s x.c 14).2 x.m).2)):=by
  show aH P s x=_;unfold aH ch co;rw [hkk,if_neg (by decide),if_neg (by decide),if_neg (by decide),if_neg (by decide),if_neg (by decide),if_neg (by decide),if_pos (by decide)]
 have HK:=aa hkk;clear hkk;unfold df.a dx;go_enter Tryz.func142,Tryz.ntmps142;go_wp2_with fail
 have cN:=HH.out.upTo _ O s (m+6999) x.c 14 HA0.out;rw [HK.out] at cN;refine cN.mono ?_;clear cN;rintro _ w2 ⟨rfl,O2,A2,hk2,hn2⟩;have N2:=(HF0.out.call hk2 hn2).named (HH.out.lt A2) aA;have hs2:w.heap.size+3≤w2.heap.size:=N2.b3;have HB:Hid (Bx (w2.alloc (.cells #[.int .i64 0,.int .i64 0,.int .i64 0,.string ⟨#[]⟩,.int .u64 0,.slice none 0 0,.int .i64 0] 34)) w2.heap.size 34 aA):=N2.n;have HO2:=aa (aQ ⟨14,0,0,[],0,[],0⟩ (.slice none 0 0) (by rfl));have HT2:Hid (aq Tryz.prog 34 (au ⟨14,0,0,[],0,[],0⟩ (.slice none 0 0)).length):=am;have HL2:Hid ((au ⟨14,0,0,[],0,[],0⟩ (.slice none 0 0)).length=aA.length):=rfl;have HN2:Hid (Fn 34 w O H (au x (.slice uo un uc)) aA w2.heap.size aA (w2.alloc (.cells #[.int .i64 0,.int .i64 0,.int .i64 0,.string ⟨#[]⟩,.int .u64 0,.slice none 0 0,.int .i64 0] 34)) O2):=N2;have HA2:=aa (HH.out.kept A2 (T:=[]) ((ab.refl [] w2).alloc (.cells #[.int .i64 0,.int .i64 0,.int .i64 0,.string ⟨#[]⟩,.int .u64 0,.slice none 0 0,.int .i64 0] 34)) (by simp));clear N2 A2 hk2 hn2;go_upto_region 2 with ((with_reducible refine ac HB.out HL2.out HO2.out HT2.out ?_ ?_ ?_);rfl;rfl;intro w3 HB3 HK3)
 have F3:=HN2.out.stored HK3.out HB3.out;have c3:w3.cell? ⟨w2.heap.size,0,none⟩=some (.int .i64 14):=F3.n.cell 0 rfl;have d0:¬ w.heap.size=w2.heap.size:=by omega
 have d1:¬ w.heap.size+1=w2.heap.size:=by omega
 have d2:¬ w2.heap.size=w.heap.size:=by omega
 have d3:¬ w2.heap.size=w.heap.size+1:=by omega
 obtain ⟨g3,x3⟩:=F3.cells 0 6 rfl rfl;have HF3:=aa F3;have HA3:=aa (HH.out.kept HA2.out HK3.out (by simpa using HN2.out.b0));clear F3 HB HO2 HT2 HL2 HN2 HA2 HB3 HK3;go_wp2_with fail
 have cN:=HH.out.num _ _ _ (m+6998) x.m HA3.out;refine cN.mono ?_;clear cN c3 g3 x3;rintro _ w4 ⟨rfl,O4,A4,hk4,hn4⟩;have F4:=HF3.out.call hk4 hn4;have n4:w4.cell? ⟨w2.heap.size,6,none⟩=some (.int .i64 0):=F4.n.cell 6 rfl;have f4:w4.frozen? ⟨w2.heap.size,6,none⟩=false:=F4.n.froz 6;have c4:w4.cell? ⟨w2.heap.size,0,none⟩=some (.int .i64 14):=F4.n.cell 0 rfl;have HF4:=aa (F4.set 6 (.int .i64 (P.num (P.upTo s x.c 14).2 x.m).1));have HA4:=aa (HH.out.kept A4 (aj w4 (w2.heap.size) 6 (.int .i64 (P.num (P.upTo s x.c 14).2 x.m).1)) (by simpa using F4.b0));clear F4 A4 hk4 hn4;have HZ:Hid (Bx (w4.setCell ⟨w2.heap.size,6,none⟩ (.int .i64 (P.num (P.upTo s x.c 14).2 x.m).1)) (w.heap.size+1+1) 34 aA):=HF4.out.f.z;have HN:Hid (Bx (w4.setCell ⟨w2.heap.size,6,none⟩ (.int .i64 (P.num (P.upTo s x.c 14).2 x.m).1)) (w2.heap.size) 34 (au (⟨14,0,0,[],0,[],(P.num (P.upTo s x.c 14).2 x.m).1⟩) (.slice none 0 0))):=HF4.out.n;have HO:=aa (aQ (⟨14,0,0,[],0,[],(P.num (P.upTo s x.c 14).2 x.m).1⟩) (.slice none 0 0) (by rfl));have HT:Hid (aq Tryz.prog 34 (au (⟨14,0,0,[],0,[],(P.num (P.upTo s x.c 14).2 x.m).1⟩) (.slice none 0 0)).length):=am;have HL:Hid ((au (⟨14,0,0,[],0,[],(P.num (P.upTo s x.c 14).2 x.m).1⟩) (.slice none 0 0)).length=aA.length):=rfl;go_wp2_with (first | ((with_reducible refine ak HN.out HT.out ?_ ?_);rfl) | ((with_reducible refine ac HZ.out HL.out HO.out HT.out ?_ ?_ ?_);rfl;rfl;intro wz HBz HKz))
 refine bodyPost_ret (al (by rfl) _ (by rfl) HBz.out HT.out) rfl ?_;rw [HQ.out];exact eD HH.out HF4.out (HH.out.le HA4.out (by omega)) HKz.out _ (.slice none 0 0) rfl (bJ.nil w2.heap.size _) (by omega) (fun k hk=>by cases hk)
theorem wR {H:df}{P:PH σ}{At:World→List Nat→σ→Nat→Prop}(hH:bH H P At) (w:World) (O:List Nat) (s:σ) (m:Nat) (x:Vt) (u:Value) (hx:eb O w x u) (hA:At w O s (m+7000)) (kk:Int) (hkk:(P.upTo s x.c 14).1=kk) (h1:kk≠1) (h2:kk≠2) (h3:kk≠3) (h4:kk≠4) (h8:kk≠8) (h9:kk≠9) (h10:kk≠10) (h11:kk≠11) (h12:kk≠12) (h13:kk≠13) (h14:kk≠14) :
 Calls Tryz.prog 142 #[H.a,dx x u] w (eG At w O (aH P s x).2 m (aH P s x).1):=by
 obtain ⟨⟨uo,un,uc,KK,rfl,hu,hKK⟩,hp,hk'⟩:=hx;have HH:Hid (bH H P At):=hH;have e0:=hH.e0;have e1:=hH.e1;have e2:=hH.e2;have e3:=hH.e3;have e4:=hH.e4;have HF0:=aa (cu w 34 O H (au x (.slice uo un uc)) aA (hH.lt hA));have HA0:Hid (At (dZ w 34 H (au x (.slice uo un uc)) aA) O s (m+7000)):=hH.kept hA (T:=[]) ((((ab.refl _ _).alloc _).alloc _).alloc _) (by simp);clear hA hH
 have HQ:Hid (aH P s x=(⟨kk,0,0,[],0,[],0⟩,(P.upTo s x.c 14).2)):=by
  show aH P s x=_;unfold aH ch co;rw [hkk,if_neg (by omega),if_neg (by omega),if_neg (by omega),if_neg (by omega),if_neg (by omega),if_neg (by omega),if_neg (by omega)]
 have b1:(kk==1)=false:=by simp;omega
 have b2:(kk==2)=false:=by simp;omega
 have b3:(kk==3)=false:=by simp;omega
 have b4:(kk==4)=false:=by simp;omega
 have b8:(kk==8)=false:=by simp;omega
 have b9:(kk==9)=false:=by simp;omega
 have b10:(kk==10)=false:=by simp;omega
 have b11:(kk==11)=false:=by simp;omega
 have b12:(kk==12)=false:=by simp;omega
 have b13:(kk==13)=false:=by simp;omega
 have b14:(kk==14)=false:=by simp;omega
 clear h1 h2 h3 h4 h8 h9 h10 h11 h12 h13 h14;have HK:=aa hkk;clear hkk;unfold df.a dx;go_enter Tryz.func142,Tryz.ntmps142;go_wp2_with fail
 have cN:=HH.out.upTo _ O s (m+6999) x.c 14 HA0.out;rw [HK.out] at cN;refine cN.mono ?_;clear cN;rintro _ w2 ⟨rfl,O2,A2,hk2,hn2⟩;have N2:=(HF0.out.call hk2 hn2).named (HH.out.lt A2) aA;have hs2:w.heap.size+3≤w2.heap.size:=N2.b3;have HB:Hid (Bx (w2.alloc (.cells #[.int .i64 0,.int .i64 0,.int .i64 0,.string ⟨#[]⟩,.int .u64 0,.slice none 0 0,.int .i64 0] 34)) w2.heap.size 34 aA):=N2.n;have HO2:=aa (aQ ⟨kk,0,0,[],0,[],0⟩ (.slice none 0 0) (by rfl));have HT2:Hid (aq Tryz.prog 34 (au ⟨kk,0,0,[],0,[],0⟩ (.slice none 0 0)).length):=am;have HL2:Hid ((au ⟨kk,0,0,[],0,[],0⟩ (.slice none 0 0)).length=aA.length):=rfl;have HN2:Hid (Fn 34 w O H (au x (.slice uo un uc)) aA w2.heap.size aA (w2.alloc (.cells #[.int .i64 0,.int .i64 0,.int .i64 0,.string ⟨#[]⟩,.int .u64 0,.slice none 0 0,.int .i64 0] 34)) O2):=N2;have HA2:=aa (HH.out.kept A2 (T:=[]) ((ab.refl [] w2).alloc (.cells #[.int .i64 0,.int .i64 0,.int .i64 0,.string ⟨#[]⟩,.int .u64 0,.slice none 0 0,.int .i64 0] 34)) (by simp));clear N2 A2 hk2 hn2;go_upto_region 2 with ((with_reducible refine ac HB.out HL2.out HO2.out HT2.out ?_ ?_ ?_);rfl;rfl;intro w3 HB3 HK3)
 have F3:=HN2.out.stored HK3.out HB3.out;have c3:w3.cell? ⟨w2.heap.size,0,none⟩=some (.int .i64 kk):=F3.n.cell 0 rfl;have d0:¬ w.heap.size=w2.heap.size:=by omega
 have d1:¬ w.heap.size+1=w2.heap.size:=by omega
 have d2:¬ w2.heap.size=w.heap.size:=by omega
 have d3:¬ w2.heap.size=w.heap.size+1:=by omega
 have HF3:=aa F3;have HA3:=aa (HH.out.kept HA2.out HK3.out (by simpa using HN2.out.b0));clear F3 HB HO2 HT2 HL2 HN2 HA2 HB3 HK3;have HZ:Hid (Bx w3 (w.heap.size+1+1) 34 aA):=HF3.out.f.z;have HN:Hid (Bx w3 (w2.heap.size) 34 (au (⟨kk,0,0,[],0,[],0⟩) (.slice none 0 0))):=HF3.out.n;have HO:=aa (aQ (⟨kk,0,0,[],0,[],0⟩) (.slice none 0 0) (by rfl));have HT:Hid (aq Tryz.prog 34 (au (⟨kk,0,0,[],0,[],0⟩) (.slice none 0 0)).length):=am;have HL:Hid ((au (⟨kk,0,0,[],0,[],0⟩) (.slice none 0 0)).length=aA.length):=rfl;go_wp2_with (first | ((with_reducible refine ak HN.out HT.out ?_ ?_);rfl) | ((with_reducible refine ac HZ.out HL.out HO.out HT.out ?_ ?_ ?_);rfl;rfl;intro wz HBz HKz))
 refine bodyPost_ret (al (by rfl) _ (by rfl) HBz.out HT.out) rfl ?_;rw [HQ.out];exact eD HH.out HF3.out (HH.out.le HA3.out (by omega)) HKz.out _ (.slice none 0 0) rfl (bJ.nil w2.heap.size _) (by omega) (fun k hk=>by cases hk)
end Go.Proofs.YtakafmejllilnaaGreat
namespace Go.Proofs.YtakafmejllilnaaGreat
open Go.RowKit
variable {σ : Type}
theorem iS {H:df}{P:PH σ}{At:World→List Nat→σ→Nat→Prop}(hH:bH H P At) (w:World) (O:List Nat) (s:σ) (m:Nat) (x:Vt) (u:Value) (hx:eb O w x u) (hA:At w O s (m+7000)) :
 Calls Tryz.prog 142 #[H.a,dx x u] w (eG At w O (aH P s x).2 m (aH P s x).1):=by
 by_cases h1:(P.upTo s x.c 14).1=1
 ·exact wt hH w O s m x u hx hA h1
 by_cases h2:(P.upTo s x.c 14).1=2
 ·exact wE hH w O s m x u hx hA h2
 by_cases h3:(P.upTo s x.c 14).1=3
 ·exact wA hH w O s m x u hx hA h3
 by_cases h4:(P.upTo s x.c 14).1=4
 ·exact wV hH w O s m x u hx hA h4
 by_cases h8:(P.upTo s x.c 14).1=8
 ·exact wM hH w O s m x u hx hA h8
 by_cases h9:(P.upTo s x.c 14).1=9
 ·exact wu hH w O s m x u hx hA h9
 by_cases h10:(P.upTo s x.c 14).1=10
 ·exact vO hH w O s m x u hx hA h10
 by_cases h11:(P.upTo s x.c 14).1=11
 ·exact vz hH w O s m x u hx hA h11
 by_cases h12:(P.upTo s x.c 14).1=12
 ·exact vJ hH w O s m x u hx hA h12
 by_cases h13:(P.upTo s x.c 14).1=13
 ·exact vy hH w O s m x u hx hA h13
 by_cases h14:(P.upTo s x.c 14).1=14
 ·exact vL hH w O s m x u hx hA h14
 exact wR hH w O s m x u hx hA _ rfl h1 h2 h3 h4 h8 h9 h10 h11 h12 h13 h14
end Go.Proofs.YtakafmejllilnaaGreat
