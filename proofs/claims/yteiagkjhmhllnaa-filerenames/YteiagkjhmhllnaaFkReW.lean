/-
  FileRenames: the walk. (Its four ways are written by mk/mkfkre.py.)
-/
import Derived.Test.YteiagkjhmhllnaaFkReA
namespace Go.Proofs.Yteiagkjhmhllnaa
open Go.RowKit
set_option maxHeartbeats 8000000 in
set_option maxRecDepth 100000 in
theorem renames_walk (w:World) (ao:Option Addr) (an ac:Nat) (old:List Int) (hA:Sl w ao an ac old) (_oa:Oct old) (bo:Option Addr) (bn bc:Nat) (fresh:List Int) (hB:Sl w bo bn bc fresh) (_ob:Oct fresh) (fuse:Int) (hf:(Lit.int .i64 fuse).wf=true) :
 Calls Try.prog 7 #[.slice ao an ac,.slice bo bn bc,.int .i64 fuse] w fun e w'=>e=.returned (.bool true)∧Kept [] w w':=by
 have hw:=i64F hf
 obtain rfl:=hA.1
 obtain rfl:=hB.1
 have hca:=hA.2.2.1
 have hcb:=hB.2.2.1
 have hna:=hA.2.1
 have hnb:=hB.2.1
 unfold maxLen at hca hcb
 have HA:=hide hA
 have HB:=hide hB
 clear hA hB hf
 by_cases h1:3000 < old.length
 ·have h1':(3000:Int) < old.length:=by omega
  go_enter Try.func7,Try.ntmps7
  go_wp2_with (go_at_call 8;refine (awake12_call w).mono ?_;rintro _ w0 ⟨rfl,hk0⟩;have HK0:=hide hk0;clear hk0)
  go_ret
  exact ⟨rfl,HK0.out⟩
 by_cases h2:3000 < fresh.length
 ·have h1':¬ (3000:Int) < old.length:=by omega
  have h2':(3000:Int) < fresh.length:=by omega
  go_enter Try.func7,Try.ntmps7
  go_wp2_with (go_at_call 8;refine (awake12_call w).mono ?_;rintro _ w0 ⟨rfl,hk0⟩;have HK0:=hide hk0;clear hk0)
  go_ret
  exact ⟨rfl,HK0.out⟩
 have h1':¬ (3000:Int) < old.length:=by omega
 have h2':¬ (3000:Int) < fresh.length:=by omega
 obtain ⟨z,hz3,hz⟩:=and_le fuse 3 (by decide)
 have hoa:old.length≤3000:=by omega
 have hob:fresh.length≤3000:=by omega
 have hkw:∀ y∈[fuse,fuse],-9223372036854775808≤y∧y < 9223372036854775808:=fun y hy=>by simp at hy;subst hy;exact hw
 have hz':bits .and .i64 fuse 3=(z:Int):=hz
 clear hz
 match z,hz3 with
 | 0,_ =>
   have hz9:bits .and .i64 fuse 3=0:=hz'
   clear hz'
   go_enter Try.func7,Try.ntmps7
   go_wp2_with (first
   | (go_at_call 8;refine (awake12_call w).mono ?_;rintro _ w0 ⟨rfl,hk0⟩;have HK0:=hide hk0;clear hk0)
   | (go_at_call 9;refine (One.now HK0.out).mono ?_;rintro _ w1 ⟨p,rfl,h1,_⟩;have H1:=hide h1;clear h1)
   | (go_at_call 11;refine (One.app H1.out (Kept.refl _ _) bdd_0 [97] (by decide) ao old.length ac old (Sl.kept H1.out.k HA.out (by simp)) (by omega) (rn_1 old)).mono ?_;clear H1;rintro _ w2 ⟨rfl,h2⟩;have H2:=hide h2;clear h2)
   | (go_at_call 12;refine (One.syn H2.out (Kept.refl _ _) (rb_1 hoa) [97] (by decide) (rn_2 old)).mono ?_;clear H2;rintro _ w3 ⟨rfl,h3⟩;have H3:=hide h3;clear h3)
   | (go_at_call 10;refine (One.arm H3.out (Kept.refl _ _) 0 (rn_3 old 0)).mono ?_;clear H3;rintro _ w4 ⟨rfl,h4⟩;have H4:=hide h4;clear h4)
   | (go_at_call 11;refine (One.app H4.out (Kept.refl _ _) (rb_2 hoa (f:=0) (by decide)) [98] (by decide) bo fresh.length bc fresh (Sl.kept H4.out.k HB.out (by simp)) (by omega) (rs0a old fresh)).mono ?_;clear H4;rintro _ w5 ⟨rfl,h5⟩;have H5:=hide h5;clear h5)
   | (go_at_call 29;refine (One.crs H5.out ((Kept.refl _ _).alloc _) (rb_3 hoa hob (s:=3) (f:=0) (l:=0) (dd:=true) (by decide) (by decide) (by omega)) _ 2 2 [fuse,fuse] (sliLit _ [fuse,fuse] (by simp)) hkw rfl).mono ?_;clear H5;rintro _ w8 ⟨p8,rfl,h8,hk8⟩;have H8:=hide h8;clear h8 hk8)
   | (go_at_call 13;refine (One.red H8.out (Kept.refl _ _) (crs_bd (rb_3 hoa hob (s:=3) (f:=0) (l:=0) (dd:=true) (by decide) (by decide) (by omega)) [fuse,fuse] (by simp [rn3]) (fun x hx=>by simp [rn3,rA] at hx;rcases hx with rfl | rfl <;> simp <;> omega)) [97] (by decide) (L:=old) (red_all [fuse,fuse] rfl)).mono ?_;clear H8;rintro _ w9 ⟨⟨a9,c9,rfl,ho9⟩,h9,hk9⟩;have HK9:=hide h9.k;obtain ⟨_,_,e9,_,_,hs9⟩:=mkown ho9;cases e9;have HS9:=hide hs9;clear ho9 h9 hk9 hs9)
   | (go_at_call 33;refine (bsame_call _ _ _ _ _ _ _ old old HS9.out (Sl.kept HK9.out HA.out (by simp))).mono ?_;clear HS9;rintro _ w10 ⟨rfl,hk10⟩;have HK10:=hide hk10;clear hk10;simp only [decide_true]))
   go_ret
   exact ⟨rfl,HK9.out.trans HK10.out (by simp)⟩
 | 1,_ =>
   have hz9:bits .and .i64 fuse 3=1:=hz'
   clear hz'
   go_enter Try.func7,Try.ntmps7
   go_wp2_with (first
   | (go_at_call 8;refine (awake12_call w).mono ?_;rintro _ w0 ⟨rfl,hk0⟩;have HK0:=hide hk0;clear hk0)
   | (go_at_call 9;refine (One.now HK0.out).mono ?_;rintro _ w1 ⟨p,rfl,h1,_⟩;have H1:=hide h1;clear h1)
   | (go_at_call 11;refine (One.app H1.out (Kept.refl _ _) bdd_0 [97] (by decide) ao old.length ac old (Sl.kept H1.out.k HA.out (by simp)) (by omega) (rn_1 old)).mono ?_;clear H1;rintro _ w2 ⟨rfl,h2⟩;have H2:=hide h2;clear h2)
   | (go_at_call 12;refine (One.syn H2.out (Kept.refl _ _) (rb_1 hoa) [97] (by decide) (rn_2 old)).mono ?_;clear H2;rintro _ w3 ⟨rfl,h3⟩;have H3:=hide h3;clear h3)
   | (go_at_call 10;refine (One.arm H3.out (Kept.refl _ _) 1 (rn_3 old 1)).mono ?_;clear H3;rintro _ w4 ⟨rfl,h4⟩;have H4:=hide h4;clear h4)
   | (go_at_call 11;refine (One.app H4.out (Kept.refl _ _) (rb_2 hoa (f:=1) (by decide)) [98] (by decide) bo fresh.length bc fresh (Sl.kept H4.out.k HB.out (by simp)) (by omega) (rs1a old fresh)).mono ?_;clear H4;rintro _ w5 ⟨rfl,h5⟩;have H5:=hide h5;clear h5)
   | (go_at_call 12;refine (One.syn H5.out (Kept.refl _ _) (rb_3 hoa hob (s:=3) (f:=0) (l:=0) (dd:=false) (by decide) (by decide) (by omega)) [98] (by decide) (rs1b old fresh)).mono ?_;clear H5;rintro _ w6 ⟨rfl,h6⟩;have H6:=hide h6;clear h6)
   | (go_at_call 29;refine (One.crs H6.out ((Kept.refl _ _).alloc _) (rb_3 hoa hob (s:=4) (f:=0) (l:=0) (dd:=true) (by decide) (by decide) (by omega)) _ 2 2 [fuse,fuse] (sliLit _ [fuse,fuse] (by simp)) hkw rfl).mono ?_;clear H6;rintro _ w8 ⟨p8,rfl,h8,hk8⟩;have H8:=hide h8;clear h8 hk8)
   | (go_at_call 13;refine (One.red H8.out (Kept.refl _ _) (crs_bd (rb_3 hoa hob (s:=4) (f:=0) (l:=0) (dd:=true) (by decide) (by decide) (by omega)) [fuse,fuse] (by simp [rn3]) (fun x hx=>by simp [rn3,rA] at hx;rcases hx with rfl | rfl <;> simp <;> omega)) [97] (by decide) (L:=old) (red_all [fuse,fuse] rfl)).mono ?_;clear H8;rintro _ w9 ⟨⟨a9,c9,rfl,ho9⟩,h9,hk9⟩;have HK9:=hide h9.k;obtain ⟨_,_,e9,_,_,hs9⟩:=mkown ho9;cases e9;have HS9:=hide hs9;clear ho9 h9 hk9 hs9)
   | (go_at_call 33;refine (bsame_call _ _ _ _ _ _ _ old old HS9.out (Sl.kept HK9.out HA.out (by simp))).mono ?_;clear HS9;rintro _ w10 ⟨rfl,hk10⟩;have HK10:=hide hk10;clear hk10;simp only [decide_true]))
   go_ret
   exact ⟨rfl,HK9.out.trans HK10.out (by simp)⟩
 | 2,_ =>
   have hz9:bits .and .i64 fuse 3=2:=hz'
   clear hz'
   go_enter Try.func7,Try.ntmps7
   go_wp2_with (first
   | (go_at_call 8;refine (awake12_call w).mono ?_;rintro _ w0 ⟨rfl,hk0⟩;have HK0:=hide hk0;clear hk0)
   | (go_at_call 9;refine (One.now HK0.out).mono ?_;rintro _ w1 ⟨p,rfl,h1,_⟩;have H1:=hide h1;clear h1)
   | (go_at_call 11;refine (One.app H1.out (Kept.refl _ _) bdd_0 [97] (by decide) ao old.length ac old (Sl.kept H1.out.k HA.out (by simp)) (by omega) (rn_1 old)).mono ?_;clear H1;rintro _ w2 ⟨rfl,h2⟩;have H2:=hide h2;clear h2)
   | (go_at_call 12;refine (One.syn H2.out (Kept.refl _ _) (rb_1 hoa) [97] (by decide) (rn_2 old)).mono ?_;clear H2;rintro _ w3 ⟨rfl,h3⟩;have H3:=hide h3;clear h3)
   | (go_at_call 10;refine (One.arm H3.out (Kept.refl _ _) 2 (rn_3 old 2)).mono ?_;clear H3;rintro _ w4 ⟨rfl,h4⟩;have H4:=hide h4;clear h4)
   | (go_at_call 11;refine (One.app H4.out (Kept.refl _ _) (rb_2 hoa (f:=2) (by decide)) [98] (by decide) bo fresh.length bc fresh (Sl.kept H4.out.k HB.out (by simp)) (by omega) (rs2a old fresh)).mono ?_;clear H4;rintro _ w5 ⟨rfl,h5⟩;have H5:=hide h5;clear h5)
   | (go_at_call 12;refine (One.syn H5.out (Kept.refl _ _) (rb_3 hoa hob (s:=3) (f:=1) (l:=0) (dd:=false) (by decide) (by decide) (by omega)) [98] (by decide) (rs2b old fresh)).mono ?_;clear H5;rintro _ w6 ⟨rfl,h6⟩;have H6:=hide h6;clear h6)
   | (go_at_call 22;refine (One.ren H6.out (Kept.refl _ _) (rb_3 hoa hob (s:=4) (f:=0) (l:=fresh.length) (dd:=false) (by decide) (by decide) (by omega)) [98] [97] (by decide) (by decide) (rs2c old fresh)).mono ?_;clear H6;rintro _ w7 ⟨rfl,h7⟩;have H7:=hide h7;clear h7)
   | (go_at_call 29;refine (One.crs H7.out ((Kept.refl _ _).alloc _) (rb_3 hoa hob (s:=5) (f:=0) (l:=fresh.length) (dd:=true) (by decide) (by decide) (by omega)) _ 2 2 [fuse,fuse] (sliLit _ [fuse,fuse] (by simp)) hkw rfl).mono ?_;clear H7;rintro _ w8 ⟨p8,rfl,h8,hk8⟩;have H8:=hide h8;clear h8 hk8)
   | (go_at_call 13;refine (One.red H8.out (Kept.refl _ _) (crs_bd (rb_3 hoa hob (s:=5) (f:=0) (l:=fresh.length) (dd:=true) (by decide) (by decide) (by omega)) [fuse,fuse] (by simp [rn3]) (fun x hx=>by simp [rn3,rA] at hx;rcases hx with rfl | rfl <;> simp <;> omega)) [97] (by decide) (L:=old) (red_all [fuse,fuse] rfl)).mono ?_;clear H8;rintro _ w9 ⟨⟨a9,c9,rfl,ho9⟩,h9,hk9⟩;have HK9:=hide h9.k;obtain ⟨_,_,e9,_,_,hs9⟩:=mkown ho9;cases e9;have HS9:=hide hs9;clear ho9 h9 hk9 hs9)
   | (go_at_call 33;refine (bsame_call _ _ _ _ _ _ _ old old HS9.out (Sl.kept HK9.out HA.out (by simp))).mono ?_;clear HS9;rintro _ w10 ⟨rfl,hk10⟩;have HK10:=hide hk10;clear hk10;simp only [decide_true]))
   go_ret
   exact ⟨rfl,HK9.out.trans HK10.out (by simp)⟩
 | 3,_ =>
   have hz9:bits .and .i64 fuse 3=3:=hz'
   clear hz'
   go_enter Try.func7,Try.ntmps7
   go_wp2_with (first
   | (go_at_call 8;refine (awake12_call w).mono ?_;rintro _ w0 ⟨rfl,hk0⟩;have HK0:=hide hk0;clear hk0)
   | (go_at_call 9;refine (One.now HK0.out).mono ?_;rintro _ w1 ⟨p,rfl,h1,_⟩;have H1:=hide h1;clear h1)
   | (go_at_call 11;refine (One.app H1.out (Kept.refl _ _) bdd_0 [97] (by decide) ao old.length ac old (Sl.kept H1.out.k HA.out (by simp)) (by omega) (rn_1 old)).mono ?_;clear H1;rintro _ w2 ⟨rfl,h2⟩;have H2:=hide h2;clear h2)
   | (go_at_call 12;refine (One.syn H2.out (Kept.refl _ _) (rb_1 hoa) [97] (by decide) (rn_2 old)).mono ?_;clear H2;rintro _ w3 ⟨rfl,h3⟩;have H3:=hide h3;clear h3)
   | (go_at_call 10;refine (One.arm H3.out (Kept.refl _ _) 3 (rn_3 old 3)).mono ?_;clear H3;rintro _ w4 ⟨rfl,h4⟩;have H4:=hide h4;clear h4)
   | (go_at_call 11;refine (One.app H4.out (Kept.refl _ _) (rb_2 hoa (f:=3) (by decide)) [98] (by decide) bo fresh.length bc fresh (Sl.kept H4.out.k HB.out (by simp)) (by omega) (rs3a old fresh)).mono ?_;clear H4;rintro _ w5 ⟨rfl,h5⟩;have H5:=hide h5;clear h5)
   | (go_at_call 12;refine (One.syn H5.out (Kept.refl _ _) (rb_3 hoa hob (s:=3) (f:=2) (l:=0) (dd:=false) (by decide) (by decide) (by omega)) [98] (by decide) (rs3b old fresh)).mono ?_;clear H5;rintro _ w6 ⟨rfl,h6⟩;have H6:=hide h6;clear h6)
   | (go_at_call 22;refine (One.ren H6.out (Kept.refl _ _) (rb_3 hoa hob (s:=4) (f:=1) (l:=fresh.length) (dd:=false) (by decide) (by decide) (by omega)) [98] [97] (by decide) (by decide) (rs3c old fresh)).mono ?_;clear H6;rintro _ w7 ⟨rfl,h7⟩;have H7:=hide h7;clear h7)
   | (go_at_call 29;refine (One.crs H7.out ((Kept.refl _ _).alloc _) (rb_4 hob (s:=5) (f:=0) (dd:=false) (by decide) (by decide)) _ 2 2 [fuse,fuse] (sliLit _ [fuse,fuse] (by simp)) hkw rfl).mono ?_;clear H7;rintro _ w8 ⟨p8,rfl,h8,hk8⟩;have H8:=hide h8;clear h8 hk8)
   | (go_at_call 13;refine (One.red H8.out (Kept.refl _ _) (crs_bd (rb_4 hob (s:=5) (f:=0) (dd:=false) (by decide) (by decide)) [fuse,fuse] (by simp) (fun x hx=>by simp [rA] at hx;subst hx;simp;omega)) [97] (by decide) (L:=fresh) (red_all [fuse,fuse] rfl)).mono ?_;clear H8;rintro _ w9 ⟨⟨a9,c9,rfl,ho9⟩,h9,hk9⟩;have HK9:=hide h9.k;obtain ⟨_,_,e9,_,_,hs9⟩:=mkown ho9;cases e9;have HS9:=hide hs9;clear ho9 h9 hk9 hs9)
   | (go_at_call 33;refine (bsame_call _ _ _ _ _ _ _ fresh fresh HS9.out (Sl.kept HK9.out HB.out (by simp))).mono ?_;clear HS9;rintro _ w10 ⟨rfl,hk10⟩;have HK10:=hide hk10;clear hk10;simp only [decide_true]))
   go_ret
   exact ⟨rfl,HK9.out.trans HK10.out (by simp)⟩
end Go.Proofs.Yteiagkjhmhllnaa
