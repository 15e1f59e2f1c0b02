/-
  verdict: the fields of a verdict, by whatever hand.
-/
import Derived.Test.YtakafmejllilnaaGreatEnVerA
import Derived.Test.YtakafmejllilnaaGreatEnVerB
import Derived.Test.YtakafmejllilnaaGreatEnVerC
import Derived.Test.YtakafmejllilnaaGreatEnVerD
namespace Go.Proofs.YtakafmejllilnaaGreat
open Go.RowKit
variable {σ : Type}
theorem verdict_call {H:Hnd}{P:PH σ}{At:World→List Nat→σ→Nat→Prop}(hH:Hand H P At) (w:World) (O:List Nat) (s:σ) (m:Nat) (x:Vt) (u:Value) (hx:VtHy O w x u) (hA:At w O s (m+7000)) :
 Calls Tryz.prog 142 #[H.a,vtV x u] w (WentV At w O (verP P s x).2 m (verP P s x).1):=by
 by_cases h1:(P.upTo s x.c 14).1=1
 ·exact ver_1 hH w O s m x u hx hA h1
 by_cases h2:(P.upTo s x.c 14).1=2
 ·exact ver_2 hH w O s m x u hx hA h2
 by_cases h3:(P.upTo s x.c 14).1=3
 ·exact ver_3 hH w O s m x u hx hA h3
 by_cases h4:(P.upTo s x.c 14).1=4
 ·exact ver_4 hH w O s m x u hx hA h4
 by_cases h8:(P.upTo s x.c 14).1=8
 ·exact ver_8 hH w O s m x u hx hA h8
 by_cases h9:(P.upTo s x.c 14).1=9
 ·exact ver_9 hH w O s m x u hx hA h9
 by_cases h10:(P.upTo s x.c 14).1=10
 ·exact ver_10 hH w O s m x u hx hA h10
 by_cases h11:(P.upTo s x.c 14).1=11
 ·exact ver_11 hH w O s m x u hx hA h11
 by_cases h12:(P.upTo s x.c 14).1=12
 ·exact ver_12 hH w O s m x u hx hA h12
 by_cases h13:(P.upTo s x.c 14).1=13
 ·exact ver_13 hH w O s m x u hx hA h13
 by_cases h14:(P.upTo s x.c 14).1=14
 ·exact ver_14 hH w O s m x u hx hA h14
 exact ver_e hH w O s m x u hx hA _ rfl h1 h2 h3 h4 h8 h9 h10 h11 h12 h13 h14
end Go.Proofs.YtakafmejllilnaaGreat
