/-
  A disk, plainly: files by rising names, each with how many of its bytes last.
-/
import Derived.WalkKit
namespace Go.Proofs.Yteiagkjhmhllnaa
structure Fl where
 n:List UInt8
 b:List Int
 l:Nat
structure Dk where
 L:List Fl
 s:Int
 f:Int
 d:Bool
def findF (n:List UInt8) (L:List Fl):Option Nat:=L.findIdx? (fun x=>decide (x.n=n))
def outF (L:List Fl) (i:Nat):List Fl:=L.take i++L.drop (i+1)
def ltN (a b:List UInt8):Bool:=Op.bytesLess a b
def posF (n:List UInt8):List Fl→Nat
 | []=>0
 | y :: L=>if ltN y.n n=true then posF n L+1 else 0
def inF (x:Fl) (L:List Fl):List Fl:=L.take (posF x.n L)++(x :: L.drop (posF x.n L))
def stepF (d:Dk):Dk × Bool :=
 if d.f=0 then (⟨d.L,d.s+1,d.f,true⟩,false)
 else if 0 < d.f then (⟨d.L,d.s+1,d.f - 1,d.d⟩,true)
 else (⟨d.L,d.s+1,d.f,d.d⟩,true)
def nameF (n:List UInt8):Bool:=decide (0 < n.length∧n.length≤24)
def resF (b:Bool):Int:=if b=true then 0 else 7
def updF (L:List Fl) (i:Nat) (g:Fl→Fl):List Fl:=match L[i]? with | some x=>L.set i (g x) | none=>L
def appF (n:List UInt8) (b:List Int) (d:Dk):Dk × Int :=
 if d.d=true then (d,7)
 else if nameF n=false then (d,1)
 else
  let q:=stepF d
  let L:=if findF n q.1.L=none then inF ⟨n,[],0⟩ q.1.L else q.1.L
  (⟨match findF n L with | some i=>updF L i (fun x=>⟨x.n,x.b++b,x.l⟩) | none=>L,q.1.s,q.1.f,q.1.d⟩,resF q.2)
def synF (n:List UInt8) (d:Dk):Dk × Int :=
 if d.d=true then (d,7)
 else match findF n d.L with
  | none=>(d,8)
  | some i=>let q:=stepF d;(if q.2=true then ⟨updF q.1.L i (fun x=>⟨x.n,x.b,x.b.length⟩),q.1.s,q.1.f,q.1.d⟩ else q.1,resF q.2)
def truF (n:List UInt8) (k:Int) (d:Dk):Dk × Int :=
 if d.d=true then (d,7)
 else match findF n d.L with
  | none=>(d,8)
  | some i =>
    if k < 0∨((d.L.getD i ⟨[],[],0⟩).b.length:Int) < k then (d,1)
    else let q:=stepF d;(if q.2=true then ⟨updF q.1.L i (fun x=>⟨x.n,x.b.take k.toNat,min x.l k.toNat⟩),q.1.s,q.1.f,q.1.d⟩ else q.1,resF q.2)
def renL (L:List Fl) (i:Nat) (t:List UInt8):List Fl :=
 let x:=L.getD i ⟨[],[],0⟩
 let L1:=outF L i
 let L2:=match findF t L1 with | some k=>outF L1 k | none=>L1
 inF ⟨t,x.b,x.l⟩ L2
def renF (n t:List UInt8) (d:Dk):Dk × Int :=
 if d.d=true then (d,7)
 else match findF n d.L with
  | none=>(d,8)
  | some i =>
    if nameF t=false then (d,1)
    else let q:=stepF d;(if q.2=true∧n≠t then ⟨renL q.1.L i t,q.1.s,q.1.f,q.1.d⟩ else q.1,resF q.2)
def rmvF (n:List UInt8) (d:Dk):Dk × Int :=
 if d.d=true then (d,7)
 else match findF n d.L with
  | none=>(d,8)
  | some i=>let q:=stepF d;(if q.2=true then ⟨outF q.1.L i,q.1.s,q.1.f,q.1.d⟩ else q.1,resF q.2)
def armF (k:Int) (d:Dk):Dk:=if d.d=true then d else ⟨d.L,d.s,max k (-1),d.d⟩
def flipB (b:List Int) (k:Nat):List Int:=b.set (k / 8) (bits .xor .u8 (b.getD (k / 8) 0) (2 ^ (k % 8) % 256))
def flpF (n:List UInt8) (k:Int) (d:Dk):Dk × Bool :=
 match findF n d.L with
 | none=>(d,false)
 | some i =>
   if k < 0∨(d.L.getD i ⟨[],[],0⟩).b.length≤k.toNat / 8 then (d,false)
   else (⟨updF d.L i (fun x=>⟨x.n,flipB x.b k.toNat,x.l⟩),d.s,d.f,d.d⟩,true)
def keptF (x:Fl) (k:Int):Nat:=if 0 < k then x.l+(min k ((x.b.length:Int) - x.l)).toNat else x.l
def crsL:List Fl→List Int→List Fl
 | [],_=>[]
 | x :: L,[]=>⟨x.n,x.b.take x.l,x.l⟩ :: crsL L []
 | x :: L,k :: K=>⟨x.n,x.b.take (keptF x k),keptF x k⟩ :: crsL L K
def crsF (K:List Int) (d:Dk):Dk:=⟨crsL d.L K,0,-1,false⟩
def okF (L:List Fl):Prop:=∀ x∈L,x.l≤x.b.length
end Go.Proofs.Yteiagkjhmhllnaa
