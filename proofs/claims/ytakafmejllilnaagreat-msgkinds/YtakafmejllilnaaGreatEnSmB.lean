/-
  The document's Same. (Written by mk/mksame.py.)
-/
import Derived.Test.YtakafmejllilnaaGreatEnSmB0
import Derived.Test.YtakafmejllilnaaGreatEnSmB1
import Derived.Test.YtakafmejllilnaaGreatEnSmB2
import Derived.Test.YtakafmejllilnaaGreatEnSmB3
namespace Go.Proofs.YtakafmejllilnaaGreat
open Go.RowKit
theorem rqdoc_call (w:World) (x y:Rq) (ao bo:Option Addr) (n m c d:Nat) (hL:SlC w ao n c x.c) (hM:SlC w bo m d y.c) :
 Calls Tryz.prog 49 #[.agg #[.int .i64 x.k,.string (str x.n),.int .i64 x.s,.int .i64 x.q,.int .i64 x.b,.string (str x.f),.slice ao n c,.string (str x.p),.int .i64 x.fr,.int .i64 x.mn,.int .i64 x.mb],.agg #[.int .i64 y.k,.string (str y.n),.int .i64 y.s,.int .i64 y.q,.int .i64 y.b,.string (str y.f),.slice bo m d,.string (str y.p),.int .i64 y.fr,.int .i64 y.mn,.int .i64 y.mb]] w fun e w'=>e=.returned (.bool (decide (x=y)))∧Kept [] w w':=by
 obtain ⟨xk,xn,xs,xq,xb,xf,xc,xp,xfr,xmn,xmb⟩:=x
 obtain ⟨yk,yn,ys,yq,yb,yf,yc,yp,yfr,ymn,ymb⟩:=y
 simp only at *
 by_cases hk:xk=yk
 rotate_left
 ·rw [decide_eq_false (by intro h;injection h;contradiction)]
  exact rqdoc_k w xk yk xn yn xs ys xq yq xb yb xf yf xp yp xfr yfr xmn ymn xmb ymb ao bo n m c d hk
 subst hk
 by_cases hn:xn=yn
 rotate_left
 ·rw [decide_eq_false (by intro h;injection h;contradiction)]
  exact rqdoc_n w xk xn yn xs ys xq yq xb yb xf yf xp yp xfr yfr xmn ymn xmb ymb ao bo n m c d hn
 subst hn
 by_cases hs:xs=ys
 rotate_left
 ·rw [decide_eq_false (by intro h;injection h;contradiction)]
  exact rqdoc_s w xk xn xs ys xq yq xb yb xf yf xp yp xfr yfr xmn ymn xmb ymb ao bo n m c d hs
 subst hs
 by_cases hq:xq=yq
 rotate_left
 ·rw [decide_eq_false (by intro h;injection h;contradiction)]
  exact rqdoc_q w xk xn xs xq yq xb yb xf yf xp yp xfr yfr xmn ymn xmb ymb ao bo n m c d hq
 subst hq
 by_cases hb:xb=yb
 rotate_left
 ·rw [decide_eq_false (by intro h;injection h;contradiction)]
  exact rqdoc_b w xk xn xs xq xb yb xf yf xp yp xfr yfr xmn ymn xmb ymb ao bo n m c d hb
 subst hb
 by_cases hf:xf=yf
 rotate_left
 ·rw [decide_eq_false (by intro h;injection h;contradiction)]
  exact rqdoc_f w xk xn xs xq xb xf yf xp yp xfr yfr xmn ymn xmb ymb ao bo n m c d hf
 subst hf
 by_cases hp:xp=yp
 rotate_left
 ·rw [decide_eq_false (by intro h;injection h;contradiction)]
  exact rqdoc_p w xk xn xs xq xb xf xp yp xfr yfr xmn ymn xmb ymb ao bo n m c d hp
 subst hp
 by_cases hfr:xfr=yfr
 rotate_left
 ·rw [decide_eq_false (by intro h;injection h;contradiction)]
  exact rqdoc_fr w xk xn xs xq xb xf xp xfr yfr xmn ymn xmb ymb ao bo n m c d hfr
 subst hfr
 by_cases hmn:xmn=ymn
 rotate_left
 ·rw [decide_eq_false (by intro h;injection h;contradiction)]
  exact rqdoc_mn w xk xn xs xq xb xf xp xfr xmn ymn xmb ymb ao bo n m c d hmn
 subst hmn
 by_cases hmb:xmb=ymb
 rotate_left
 ·rw [decide_eq_false (by intro h;injection h;contradiction)]
  exact rqdoc_mb w xk xn xs xq xb xf xp xfr xmn xmb ymb ao bo n m c d hmb
 subst hmb
 by_cases hc:xc=yc
 rotate_left
 ·rw [decide_eq_false (by intro h;injection h;contradiction)]
  exact rqdoc_c w xk xn xs xq xb xf xp xfr xmn xmb ao bo n m c d xc yc hL hM hc
 subst hc
 rw [decide_eq_true rfl]
 exact rqdoc_all w xk xn xs xq xb xf xp xfr xmn xmb ao bo n m c d xc xc hL hM rfl
end Go.Proofs.YtakafmejllilnaaGreat
