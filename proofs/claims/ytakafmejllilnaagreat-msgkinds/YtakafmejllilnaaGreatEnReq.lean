/-
  request: the fields of a request, by whatever hand.
-/
import Derived.Test.YtakafmejllilnaaGreatEnReqA
import Derived.Test.YtakafmejllilnaaGreatEnReqB
import Derived.Test.YtakafmejllilnaaGreatEnReqC
import Derived.Test.YtakafmejllilnaaGreatEnReqD
namespace Go.Proofs.YtakafmejllilnaaGreat
open Go.RowKit
variable {σ : Type}
theorem request_call {H:Hnd}{P:PH σ}{At:World→List Nat→σ→Nat→Prop}(hH:Hand H P At) (w:World) (O:List Nat) (s:σ) (m:Nat) (x:Rm) (hx:RqHy O w x) (hA:At w O s (m+200)) :
 Calls Tryz.prog 144 #[H.a,rqV x] w (WentR At w O (reqP P s x.r).2 m (reqP P s x.r).1):=by
 by_cases h0:(P.upTo s x.r.k 7).1=0
 ·exact req_0 hH w O s m x hx hA h0
 by_cases h1:(P.upTo s x.r.k 7).1=1
 ·exact req_1 hH w O s m x hx hA h1
 by_cases h2:(P.upTo s x.r.k 7).1=2
 ·exact req_2 hH w O s m x hx hA h2
 by_cases h4:(P.upTo s x.r.k 7).1=4
 ·exact req_4 hH w O s m x hx hA h4
 by_cases h5:(P.upTo s x.r.k 7).1=5
 ·exact req_5 hH w O s m x hx hA h5
 by_cases h6:(P.upTo s x.r.k 7).1=6
 ·exact req_6 hH w O s m x hx hA h6
 by_cases h7:(P.upTo s x.r.k 7).1=7
 ·exact req_7 hH w O s m x hx hA h7
 exact req_e hH w O s m x hx hA _ rfl h0 h1 h2 h4 h5 h6 h7
end Go.Proofs.YtakafmejllilnaaGreat
