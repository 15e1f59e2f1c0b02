/-
  Texts laid as one.
-/
import Derived.Test.YtgpnlidnbldiiaaGreatQ1r
import Derived.Maps.OwnSet
import Derived.Maps.OwnOps
import Derived.Maps.Ext
import Derived.Sort.KeysCollected
import Derived.StringKeys
import Derived.Test.YtgpnlidnbldiiaaGreatQ3r
import Derived.Test.YtgpnlidnbldiiaaGreatQ6r
import Derived.Test.YtgpnlidnbldiiaaGreatQ4r
import Derived.Test.YtgpnlidnbldiiaaGreatQ8r
import Derived.Handy
import Derived.Deep.CutRange
set_option maxHeartbeats 8000000
/-
 Refs as a map's datum.
-/
namespace Go.Proofs.YtgpnlidnbldiiaaGreat
open Go.RowKit
def Ag (l:List (List UInt8 × Int)):DataW Unit:=.map (l.map fun x=>(.string x.1,.lit (.int .i64 x.2)))
theorem oO:∀ (x y:List UInt8),bytesBefore x y=decide (x < y):=by
 intro x;induction x with
 | nil=>intro y;cases y <;> simp [bytesBefore]
 | cons a x ih =>
   intro y;cases y with
   | nil=>simp [bytesBefore]
   | cons b y =>
     simp only [bytesBefore,List.cons_lt_cons_iff];have h:=ih y;by_cases h1:a < b
     ·simp [h1]
     ·by_cases h2:a=b
      ·subst h2;simp [h1,h]
      ·have h3:b < a:=by
        rcases UInt8.lt_or_lt_of_ne h2 with h | h
        ·exact absurd h h1
        ·exact h
       simp [h1,h2]
theorem mX (a b:List UInt8):Lit.sameKey (.string a) (.string b)=decide (a=b):=by
 by_cases h:a=b <;> simp [Lit.sameKey,h]
theorem pc {l:List (List UInt8 × Int)}{n:List UInt8}(h:∀ x∈l,x.1≠n):(l.map fun x=>((.string x.1,.lit (.int .i64 x.2)):Lit × DataW Unit)).filter (fun p=>!p.1.sameKey (.string n))=l.map fun x=>(.string x.1,.lit (.int .i64 x.2)):=by
 refine List.filter_eq_self.2 fun p hp=>?_;obtain ⟨x,hx,rfl⟩:=List.mem_map.1 hp;simp [mX,h x hx]
theorem kF {l:List (List UInt8 × Int)}{n:List UInt8}{r:Int}(h:∀ x∈l,n < x.1):DataW.insert ((.string n,.lit (.int .i64 r)):Lit × DataW Unit) (l.map fun x=>(.string x.1,.lit (.int .i64 x.2)))=((n,r) :: l).map fun x=>(.string x.1,.lit (.int .i64 x.2)):=by
 cases l with
 | nil=>rfl
 | cons y l=>simp [DataW.insert,Lit.before,oO,h y (by simp)]
theorem xR {l:List (List UInt8 × Int)}(h:sK l) (n:List UInt8) (r:Int) :
 DataW.insert ((.string n,.lit (.int .i64 r)):Lit × DataW Unit) ((l.map fun x=>((.string x.1,.lit (.int .i64 x.2)):Lit × DataW Unit)).filter (fun p=>!p.1.sameKey (.string n)))=(jp n r l).map fun x=>(.string x.1,.lit (.int .i64 x.2)):=by
 induction l with
 | nil=>rfl
 | cons y l ih =>
   obtain ⟨h1,h2⟩:=List.pairwise_cons.1 h;simp only [jp];by_cases hlt:y.1 < n
   ·have hne:¬ y.1=n:=fun e=>by rw [e] at hlt;exact List.lt_irrefl _ hlt
    have hnl:¬ n < y.1:=fun e=>List.lt_irrefl _ (List.lt_trans hlt e);simp only [hlt,if_true,List.map_cons,List.filter_cons,mX,hne,decide_false,Bool.not_false];rw [← ih h2];simp [DataW.insert,Lit.before,oO,hnl]
   ·by_cases he:y.1=n
    ·have h3:∀ x∈l,n < x.1:=fun x hx=>by have:=h1 x hx;rw [he] at this;exact this
     have hnn:¬ n < n:=List.lt_irrefl _;simp only [hnn,if_false,he,if_true,List.map_cons,List.filter_cons,mX,decide_true,Bool.not_true,Bool.false_eq_true];rw [pc fun x hx e=>by have:=h3 x hx;rw [e] at this;exact List.lt_irrefl _ this];exact kF h3
    ·have h5:=BF hlt he
     have h3:∀ x∈y :: l,n < x.1:=fun x hx=>by
      rcases List.mem_cons.1 hx with rfl | hx
      ·exact h5
      ·exact List.lt_trans h5 (h1 x hx)
     simp only [hlt,if_false,he];rw [pc fun x hx e=>by have:=h3 x hx;rw [e] at this;exact List.lt_irrefl _ this];exact kF h3
theorem Ay {l:List (List UInt8 × Int)}(h:sK l) (n:List UInt8) (r:Int):(Ag l).put (.string n) (.lit (.int .i64 r))=Ag (jp n r l):=by
 unfold Ag DataW.put;simp only
 rw [xR h]
theorem z9 (l:List (List UInt8 × Int)):Maps.size (Ag l)=l.length:=by simp [Ag,Maps.size]
theorem sO {P:Program}{k:TypeId}{R:Value→Option (DataW Unit × List MemPlace)}{w:World}{b n:Nat}{l:List (List UInt8 × Int)}(h:w.ownsMap P k R b n (Ag l)):w.ownsMap P k R b l.length (Ag l):=by
 obtain ⟨es,clock,h1,h2,h3,h4⟩:=h;refine ⟨es,clock,h1,h2,?_,h4⟩;have h5:=congrArg Maps.size h4;rw [z9] at h5;simp only [Maps.size,length_sorted] at h5;simp at h5
 omega
theorem k8 {S:List Nat}{Ts:List TypeId}{w w':World}(hk:aa S w w') (hT:aJ w S Ts) (ht:223 ∉ Ts) {B:Nat}:∀ {p:Option Addr}{t:Tr},dY B w p t→dY B w' p t
 | _,.nil,h=>h
 | _,.node _ _ _,⟨b,pl,pr,hp,hb,h0,h1,hl,hr⟩=>⟨b,pl,pr,hp,hb,hk.typed hT h0 ht,h1,k8 hk hT ht hl,k8 hk hT ht hr⟩
theorem gJ {S:List Nat}{Ts:List TypeId}{w w':World}(hk:aa S w w') (hT:aJ w S Ts) (ht:223 ∉ Ts) (ht2:169 ∉ Ts) {B:Nat}{p:Option Addr}{t:Tr}(h:mw B w p t):mw B w' p t:=by
 rcases h with h | ⟨b,q,h1,h2,h3,h4⟩
 ·exact .inl h
 ·exact .inr ⟨b,q,h1,h2,hk.typed hT h3 ht2,k8 hk hT ht h4⟩
noncomputable abbrev Bc:Value→Option (DataW Unit × List MemPlace):=plainElem Tryz.prog 3
structure GA (w:World) (b:Nat) (v:Value) (p:Option Addr) (t:Tr) (mb:Nat) (K:List (aV × Value)) (G:Gr):Prop where
 at_:w.heap[b]?=some (.cells #[v,.pointer p,.map (some mb)] 131 (0,0))
 row:bk 0 w v K
 own:gK 0 w K
 com:K.map Prod.fst=G.cs
 tree:mw w.heap.size w p t
 some_:p≠none
 list:t.list=G.ls
 good:uy t
 map:w.ownsMap Tryz.prog 9 Bc mb G.rs.length (Ag G.rs)
def dM (b mb:Nat) (v:Value):List Nat:=b :: mb :: v.ownBlock.toList
def qu (w:World) (b:Nat) (S:List Nat) (G:Gr):Prop:=∃ v p t mb K,GA w b v p t mb K G∧S=dM b mb v
theorem GA.typed {w:World}{b:Nat}{v:Value}{p:Option Addr}{t:Tr}{mb:Nat}{K:List (aV × Value)}{G:Gr}(h:GA w b v p t mb K G):aJ w (dM b mb v) [131,137]:=by
 intro k hk cur t' mk hh;rcases List.mem_cons.1 hk with rfl | hk
 ·rw [h.at_] at hh;cases hh;simp
 rcases List.mem_cons.1 hk with rfl | hk
 ·obtain ⟨es,clock,h1,_⟩:=h.map;rw [h1] at hh;cases hh
 ·obtain ⟨c2,h2⟩:=ar h.row (aw.1 hk);rw [h2] at hh;cases hh;simp
theorem GA.lt {w:World}{b:Nat}{v:Value}{p:Option Addr}{t:Tr}{mb:Nat}{K:List (aV × Value)}{G:Gr}(h:GA w b v p t mb K G):∀ k∈dM b mb v,k < w.heap.size:=by
 intro k hk;rcases List.mem_cons.1 hk with rfl | hk
 ·exact aq h.at_
 rcases List.mem_cons.1 hk with rfl | hk
 ·exact h.map.lt
 ·obtain ⟨c2,h2⟩:=ar h.row (aw.1 hk);exact aq h2
theorem iX {S:List Nat}{w w':World}(k:aa S w w') {P:Program}{kt:TypeId}{R:Value→Option (DataW Unit × List MemPlace)}{b n:Nat}{D:DataW Unit}(h:w.ownsMap P kt R b n D) (hb:b ∉ S):w'.ownsMap P kt R b n D:=by
 obtain ⟨es,clock,h1,h2⟩:=h;exact ⟨es,clock,k.at h1 hb,h2⟩
theorem GA.keep {w w':World}{b:Nat}{v:Value}{p:Option Addr}{t:Tr}{mb:Nat}{K:List (aV × Value)}{G:Gr}(h:GA w b v p t mb K G)
 {S:List Nat}{Ts:List TypeId}(k:aa S w w') (hS:∀ i∈dM b mb v,i ∉ S) (hT:aJ w S Ts) (h1:60 ∉ Ts) (h2:223 ∉ Ts) (h3:169 ∉ Ts):GA w' b v p t mb K G :=
 ⟨k.at h.at_ (hS b (by simp [dM])),k.ownsRow h.row (fun i hi=>hS i (by simp [dM,hi])),fun x hx=>ap k hT (h.own x hx) h1,h.com,
  (gJ k hT h2 h3 h.tree).mono k.size,h.some_,h.list,h.good,iX k h.map (hS mb (by simp [dM]))⟩
theorem qu.keep {w w':World}{b:Nat}{S':List Nat}{G:Gr}(h:qu w b S' G) {S:List Nat}{Ts:List TypeId}(k:aa S w w') (hS:∀ i∈S',i ∉ S) (hT:aJ w S Ts) (h1:60 ∉ Ts) (h2:223 ∉ Ts) (h3:169 ∉ Ts):qu w' b S' G:=by
 obtain ⟨v,p,t,mb,K,hG,rfl⟩:=h;exact ⟨v,p,t,mb,K,hG.keep k hS hT h1 h2 h3,rfl⟩
theorem GA.kept {w w':World}{b:Nat}{v:Value}{p:Option Addr}{t:Tr}{mb:Nat}{K:List (aV × Value)}{G:Gr}(h:GA w b v p t mb K G) (k:aa [] w w'):GA w' b v p t mb K G :=
 h.keep k (by simp) (cm w []) (by simp) (by simp) (by simp)
theorem qu.kept {w w':World}{b:Nat}{S:List Nat}{G:Gr}(h:qu w b S G) (k:aa [] w w'):qu w' b S G :=
 h.keep k (by simp) (cm w []) (by simp) (by simp) (by simp)
theorem qu.typed {w:World}{b:Nat}{S:List Nat}{G:Gr}(h:qu w b S G):aJ w S [131,137]:=by
 obtain ⟨v,p,t,mb,K,hG,rfl⟩:=h;exact hG.typed
theorem qu.lt {w:World}{b:Nat}{S:List Nat}{G:Gr}(h:qu w b S G):∀ k∈S,k < w.heap.size:=by
 obtain ⟨v,p,t,mb,K,hG,rfl⟩:=h;exact hG.lt
def DF (v:Vd) (k:Value):Value:=.agg #[.int .i64 v.c,.int .i64 0,.int .i64 v.r,.string (ak v.p),.int .u64 v.d,k,.int .i64 0]
def sH (v:Vd):Value:=DF v (.slice none 0 0)
theorem qG:Maps.Keyed Tryz.prog 9:=Maps.string_keyed Tryz.underlying9
theorem xD (w:World) :
 Calls Tryz.prog 71 #[] w fun e w'=>∃ b,e=.returned (.pointer (some ⟨b,0,none⟩))∧mw w'.heap.size w' (some ⟨b,0,none⟩) .nil∧aa [] w w':=by
 go_enter Tryz.func71,Tryz.ntmps71;go_wp2
 go_ret
 exact ⟨_,rfl,.inr ⟨w.heap.size,none,rfl,by simp,heap_alloc_new w _,rfl⟩,(aa.refl _ _).alloc _⟩
theorem ot (w:World) :
 Calls Tryz.prog 31 #[] w fun e w'=>∃ b S,e=.returned (.pointer (some ⟨b,0,none⟩))∧qu w' b S ba∧aa [] w w'∧∀ k∈S,w.heap.size≤k:=by
 have hmk:∀ W:World,(Instr.makeMap 129 none).run Tryz.prog W=.ok (.map (some W.heap.size)) (W.alloc (.map #[] 0)):=fun _=>rfl;go_enter Tryz.func31,Tryz.ntmps31;go_wp2_with fail
 refine (xD w).mono ?_;rintro e w1 ⟨tb,rfl,hT,hK1⟩;go_wp2
 go_ret
 have hs:=hK1.size;have hK2:aa [] w1 (w1.alloc (.map #[] 0)):=(aa.refl _ _).alloc _;have hK3:aa [] (w1.alloc (.map #[] 0)) ((w1.alloc (.map #[] 0)).alloc (.cells #[.slice none 0 0,.pointer (some ⟨tb,0,none⟩),.map (some w1.heap.size)] 131)):=(aa.refl _ _).alloc _;have hK:aa [] w1 ((w1.alloc (.map #[] 0)).alloc (.cells #[.slice none 0 0,.pointer (some ⟨tb,0,none⟩),.map (some w1.heap.size)] 131)):=hK2.trans hK3 (by simp);have hnew:=heap_alloc_new (w1.alloc (.map #[] 0)) (.cells #[.slice none 0 0,.pointer (some ⟨tb,0,none⟩),.map (some w1.heap.size)] 131);rw [World.size_alloc] at hnew;refine ⟨_,_,rfl,⟨_,some ⟨tb,0,none⟩,.nil,w1.heap.size,[],⟨hnew,bk.nil _ _,(fun x hx=>by simp at hx),rfl,(hT.kept hK).full,by simp,rfl,yE,?_⟩,rfl⟩,hK1.trans hK (by simp),?_⟩
 ·exact iX hK3 (World.ownsMap_made w1 _ _ _) (by simp)
 ·intro k hk;simp [dM,Value.ownBlock] at hk
  rcases hk with rfl | rfl
  ·omega
  ·exact hs
theorem jh {w:World}{b:Nat}{v:Value}{p:Option Addr}{t:Tr}{mb:Nat}{K:List (aV × Value)}{G:Gr}(h:GA w b v p t mb K G) :
 Calls Tryz.prog 111 #[.pointer (some ⟨b,0,none⟩)] w fun e w'=>e=.returned (.bool true)∧w'=w:=by
 obtain ⟨c0,c1,c2⟩:=bC h.at_;have hp:=h.some_;clear h;cases p with
 | none=>exact absurd rfl hp
 | some ad =>
   clear hp;go_enter Tryz.func111,Tryz.ntmps111;go_wp2
   go_ret
   exact ⟨rfl,rfl⟩
theorem mT {w:World}{b:Nat}{v:Value}{p:Option Addr}{t:Tr}{mb:Nat}{K:List (aV × Value)}{G:Gr}(h:GA w b v p t mb K G) :
 Calls Tryz.prog 108 #[.pointer (some ⟨b,0,none⟩)] w fun e w'=>e=.returned v∧w'=w:=by
 obtain ⟨c0,c1,c2⟩:=bC h.at_;clear h;go_enter Tryz.func108,Tryz.ntmps108;go_wp2
 go_ret
 exact ⟨rfl,rfl⟩
theorem fh {w:World}{b:Nat}{v:Value}{p:Option Addr}{t:Tr}{mb:Nat}{K:List (aV × Value)}{G:Gr}(h:GA w b v p t mb K G) :
 Calls Tryz.prog 68 #[.pointer (some ⟨b,0,none⟩)] w fun e w'=>e=.returned (.int .i64 (G.cs.length:Int))∧w'=w:=by
 obtain ⟨ao,c,rfl,hs,_⟩:=h.row.sl h.own;have hl:G.cs.length=K.length:=by rw [← h.com];simp
 rw [hl];have cC:=mT h;have hm:=hs.2.2.1;have hc:=hs.2.1;clear h hl hs;generalize K.length=n at *;go_enter Tryz.func68,Tryz.ntmps68;go_wp2_with fail
 refine cC.mono ?_;rintro e w1 ⟨rfl,rfl⟩;go_wp2
 go_ret
 exact ⟨rfl,rfl⟩
theorem ml {w:World}{b:Nat}{S:List Nat}{G:Gr}(h:qu w b S G) :
 Calls Tryz.prog 68 #[.pointer (some ⟨b,0,none⟩)] w fun e w'=>e=.returned (.int .i64 (G.cs.length:Int))∧w'=w:=by
 obtain ⟨v,p,t,mb,K,hG,rfl⟩:=h;exact fh hG
def DJ (x:Vd):Ending:=.panicked [{ v:=.iface 39 (sH x),recovered:=false }]
noncomputable def jo (G:Gr) (base:Int) (n:List UInt8) (L:List Ch):Option Vd :=
 if bY base n L=true then some ⟨5,0,[],0⟩ else if (G.cs.length:Int) < base then some ⟨4,G.cs.length,[],0⟩ else none
def Ce:Option Vd→Ending
 | some x=>DJ x
 | none=>.returned (.tuple #[])
theorem ez {n:List UInt8}(h:n≠[]):((ak n).toList.isEmpty)=false:=by
 rw [bl];cases n with
 | nil=>exact absurd rfl h
 | cons c m=>rfl
theorem zX {w:World}{b:Nat}{v:Value}{p:Option Addr}{t:Tr}{mb:Nat}{K:List (aV × Value)}{G:Gr}(h:GA w b v p t mb K G) (base:Int) (n:List UInt8) (hn:n.length≤1000000000) (ao:Option Addr) (m c:Nat) (L:List Ch) (hS:di w ao m c L) (hp:∀ x∈L,x.p.length≤1000000000) :
 Calls Tryz.prog 163 #[.pointer (some ⟨b,0,none⟩),.int .i64 base,.string (ak n),.slice ao m c] w fun e w'=>e=Ce (jo G base n L)∧aa [] w w':=by
 have cC:=sM w ao m c L hS (fun x hx=>by have:=hp x hx;omega);have cN:=fun W=>oR n W (by omega);have HG:Hid (GA w b v p t mb K G):=h
 have hz:gy L=0∨gy L=1:=by
  by_cases h:cQ L
  ·exact .inl (ia h)
  ·exact .inr (dP h)
 obtain ⟨R,hR⟩:∃ R,R=jo G base n L:=⟨_,rfl⟩;have HR:Hid (R=jo G base n L):=hR;rw [← hR];clear h hS hp hR;rcases hz with hz | hz
 ·rw [hz] at cC;by_cases h0:n=[]
  ·subst h0;have hE:=dN;by_cases hlt:base < 0
   ·have HE:Hid (R=some ⟨5,0,[],0⟩):=by show R=_;rw [HR.out];simp [jo,bY,hlt]
    go_enter Tryz.func163,Tryz.ntmps163;(go_wp2_with fail);refine cC.mono ?_;rintro e w1 ⟨rfl,hK⟩;go_wp2
    exact ⟨rfl,by rw [HE.out];rfl,hK⟩
   ·by_cases hlt2:(G.cs.length:Int) < base
    ·have HE:Hid (R=some ⟨4,G.cs.length,[],0⟩):=by show R=_;rw [HR.out];simp [jo,bY,hlt,hz,hlt2]
     go_enter Tryz.func163,Tryz.ntmps163;(go_wp2_with fail);refine cC.mono ?_;rintro e w1 ⟨rfl,hK⟩;have cH:=fh (HG.out.kept hK);(go_wp2_with fail);refine cH.mono ?_;rintro e w2 ⟨rfl,rfl⟩;(go_wp2_with fail);refine cH.mono ?_;rintro e w3 ⟨rfl,rfl⟩;go_wp2
     exact ⟨rfl,by rw [HE.out];rfl,hK⟩
    ·have HE:Hid (R=none):=by show R=_;rw [HR.out];simp [jo,bY,hlt,hz,hlt2]
     go_enter Tryz.func163,Tryz.ntmps163;(go_wp2_with fail);refine cC.mono ?_;rintro e w1 ⟨rfl,hK⟩;have cH:=fh (HG.out.kept hK);(go_wp2_with fail);refine cH.mono ?_;rintro e w2 ⟨rfl,rfl⟩;go_wp2
     go_returns
     exact ⟨by rw [HE.out];rfl,hK⟩
  ·have hE:=ez h0;cases hw:bu false n with
   | false =>
     have HE:Hid (R=some ⟨5,0,[],0⟩):=by show R=_;rw [HR.out];simp [jo,bY,hw,h0]
     rw [hw] at cN;go_enter Tryz.func163,Tryz.ntmps163;(go_wp2_with fail);refine cC.mono ?_;rintro e w1 ⟨rfl,hK⟩;(go_wp2_with fail);refine (cN _).mono ?_;rintro e w2 ⟨rfl,rfl⟩;go_wp2
     exact ⟨rfl,by rw [HE.out];rfl,hK⟩
   | true =>
     rw [hw] at cN;by_cases hlt:base < 0
     ·have HE:Hid (R=some ⟨5,0,[],0⟩):=by show R=_;rw [HR.out];simp [jo,bY,hlt]
      go_enter Tryz.func163,Tryz.ntmps163;(go_wp2_with fail);refine cC.mono ?_;rintro e w1 ⟨rfl,hK⟩;(go_wp2_with fail);refine (cN _).mono ?_;rintro e w2 ⟨rfl,rfl⟩;go_wp2
      exact ⟨rfl,by rw [HE.out];rfl,hK⟩
     ·by_cases hlt2:(G.cs.length:Int) < base
      ·have HE:Hid (R=some ⟨4,G.cs.length,[],0⟩):=by show R=_;rw [HR.out];simp [jo,bY,hlt,hz,hw,hlt2]
       go_enter Tryz.func163,Tryz.ntmps163;(go_wp2_with fail);refine cC.mono ?_;rintro e w1 ⟨rfl,hK⟩;have cH:=fh (HG.out.kept hK);(go_wp2_with fail);refine (cN _).mono ?_;rintro e w2 ⟨rfl,rfl⟩;(go_wp2_with fail);refine cH.mono ?_;rintro e w3 ⟨rfl,rfl⟩;(go_wp2_with fail);refine cH.mono ?_;rintro e w4 ⟨rfl,rfl⟩;go_wp2
       exact ⟨rfl,by rw [HE.out];rfl,hK⟩
      ·have HE:Hid (R=none):=by show R=_;rw [HR.out];simp [jo,bY,hlt,hz,hw,hlt2]
       go_enter Tryz.func163,Tryz.ntmps163;(go_wp2_with fail);refine cC.mono ?_;rintro e w1 ⟨rfl,hK⟩;have cH:=fh (HG.out.kept hK);(go_wp2_with fail);refine (cN _).mono ?_;rintro e w2 ⟨rfl,rfl⟩;(go_wp2_with fail);refine cH.mono ?_;rintro e w3 ⟨rfl,rfl⟩;go_wp2
       go_returns
       exact ⟨by rw [HE.out];rfl,hK⟩
 ·have HE:Hid (R=some ⟨5,0,[],0⟩):=by show R=_;rw [HR.out];simp [jo,bY,hz]
  rw [hz] at cC;go_enter Tryz.func163,Tryz.ntmps163;(go_wp2_with fail);refine cC.mono ?_;rintro e w1 ⟨rfl,hK⟩;go_wp2
  exact ⟨rfl,by rw [HE.out];rfl,hK⟩
def B8:Option (List UInt8 × Int)→Ending
 | some x=>DJ ⟨3,x.2,x.1,0⟩
 | none=>.returned (.tuple #[])
def DR (w:World) (ls:List Lf) (base:Int) (L:List Ch) (R:Option (List UInt8 × Int)) (kv:Value) (wr:World):Prop :=
 ∃ k:Nat,kv=.int .i64 (k:Int)∧k≤L.length∧Hid (aa [] w wr)∧Hid (bW ls base (L.drop k)=R)
theorem lf {ls:List Lf}{base:Int}{x:Ch}{l:List Ch}{y:Lf}(h:ex x.p ls=some y) (hlt:base < y.r):bW ls base (x :: l)=some (x.p,y.r):=by
 simp [bW,h,hlt]
theorem k7 {ls:List Lf}{base:Int}{x:Ch}{l:List Ch}{y:Lf}(h:ex x.p ls=some y) (hlt:¬ base < y.r):bW ls base (x :: l)=bW ls base l:=by
 simp [bW,h,hlt]
theorem jD {ls:List Lf}{base:Int}{x:Ch}{l:List Ch}(h:ex x.p ls=none):bW ls base (x :: l)=bW ls base l:=by
 simp [bW,h]
theorem kV (R:Option Lf):∃ y0 y1 y2 y3 y4,eW R=.tuple #[.agg #[.string y0,.int .u64 y1,.int .i64 y2,.bool y3],.bool y4]:=by
 cases R with
 | none=>exact ⟨_,_,_,_,_,rfl⟩
 | some x=>exact ⟨_,_,_,_,_,rfl⟩
theorem zC {w:World}{B:Nat}{v0 v1 v2 v3 u0 u1 u2 u3:Value}{t:TypeId}(h:Hid (w.heap[B]?=some (.cells #[v0,v1,v2,v3] t (0,0)))) :
 ((((w.setCell ⟨B,0,none⟩ u0).setCell ⟨B,1,none⟩ u1).setCell ⟨B,2,none⟩ u2).setCell ⟨B,3,none⟩ u3).heap[B]?=some (.cells #[u0,u1,u2,u3] t (0,0)) :=
 heap_setCell_same _ B 3 _ _ u3 (heap_setCell_same _ B 2 _ _ u2 (heap_setCell_same _ B 1 _ _ u1 (heap_setCell_same w B 0 _ _ u0 h.out)))
theorem yN {w w1:World}{u:Obj}{v0 v1 v2 v3:Value}{t:TypeId}(h:aa [] ((w.alloc u).alloc (.cells #[v0,v1,v2,v3] t)).drew w1) :
 w1.cell? ⟨w.heap.size+1,0,none⟩=some v0∧w1.cell? ⟨w.heap.size+1,1,none⟩=some v1∧w1.cell? ⟨w.heap.size+1,2,none⟩=some v2∧w1.cell? ⟨w.heap.size+1,3,none⟩=some v3 ∧
 w1.frozen? ⟨w.heap.size+1,0,none⟩=false∧w1.frozen? ⟨w.heap.size+1,1,none⟩=false∧w1.frozen? ⟨w.heap.size+1,2,none⟩=false∧w1.frozen? ⟨w.heap.size+1,3,none⟩=false∧Hid (w1.heap[w.heap.size+1]?=some (.cells #[v0,v1,v2,v3] t (0,0))):=by
 have h1:=heap_alloc_new (w.alloc u) (.cells #[v0,v1,v2,v3] t);rw [World.size_alloc] at h1;have h2:w1.heap[w.heap.size+1]?=some (.cells #[v0,v1,v2,v3] t (0,0)):=h.at h1 (by simp);obtain ⟨m0,m1,m2,m3⟩:=br h2;exact ⟨m0,m1,m2,m3,ai h2 0,ai h2 1,ai h2 2,ai h2 3,h2⟩
theorem ss {w:World}{b:Nat}{v:Value}{p:Option Addr}{t:Tr}{mb:Nat}{K:List (aV × Value)}{G:Gr}(h:GA w b v p t mb K G) (base:Int) (hb:0≤base)
 (ao:Option Addr) (m c:Nat) (L:List Ch) (hS:di w ao m c L) (hp:∀ x∈L,x.p.length≤1000000000) :
 Calls Tryz.prog 165 #[.pointer (some ⟨b,0,none⟩),.int .i64 base,.slice ao m c] w fun e w'=>e=B8 (bW G.ls base L)∧aa [] w w':=by
 have hl:=hS.1;subst hl;have hc:=hS.2.1;have hm:=hS.2.2.1;unfold maxLen at hm;have HS:Hid (di w ao L.length c L):=hS;have HP:Hid (∀ x∈L,x.p.length≤1000000000):=hp;have HG:Hid (GA w b v p t mb K G):=h;obtain ⟨R,hR⟩:∃ R,R=bW G.ls base L:=⟨_,rfl⟩;rw [← hR];have HR:Hid (bW G.ls base L=R):=hR.symm;clear hS hp hR h;go_enter Tryz.func165,Tryz.ntmps165;go_wp2_with fail
 go_loopw [12] (fun iv wr=>DR w G.ls base L R iv wr) (fun iv _=>L.length - (intOf iv).toNat)
 case atStart=>exact ⟨0,rfl,Nat.zero_le _,aa.refl _ _,HR.out⟩
 case round =>
  obtain ⟨k,rfl,hk,HK,HC⟩:=hrel;by_cases hlt:k < L.length
  ·have hlt':(k:Int) < L.length:=by omega
   have hkc:k≤c:=by omega
   obtain ⟨g,o,rfl,hx⟩:=HS.out.2.2.2 k hlt;obtain ⟨c0,c1,c2⟩:=hx.kept HK.out (by simp);obtain ⟨x,hxe⟩:∃ x,x=L[k]:=⟨_,rfl⟩;have HX:Hid (L.drop k=x :: L.drop (k+1)):=by rw [hxe];exact List.drop_eq_getElem_cons hlt
   rw [← hxe] at c0 c1 c2;have hKa:=(aa.refl [] wr).alloc (.cells #[.string (ak x.p),.bool x.g,.int .u64 x.d] 60);obtain ⟨d0,d1,d2⟩:=AM wr x 60;rw [Nat.zero_add] at d1 d2;have hxp:x.p.length≤1000000000:=by rw [hxe];exact HP.out _ (List.getElem_mem hlt)
   have hGr:=HG.out.kept HK.out;obtain ⟨e0,e1,e2⟩:=bC (hGr.kept hKa).at_;have hbw:b < wr.heap.size:=aq hGr.at_;have hB1:w.heap.size≤wr.heap.size+1:=by have:=HK.out.size;omega
   have cG:=fun W (h:aa [] wr W)=>ox _ W p t x.p ((hGr.kept h).tree) (by omega);rw [vg HG.out.good.1,HG.out.list] at cG;have hfind:=show ex x.p G.ls=G.ls.find? (fun y=>decide (x.p=y.p)) from rfl
   obtain ⟨F,hF⟩:∃ F,F=ex x.p G.ls:=⟨_,rfl⟩;rw [← hfind,← hF] at cG;have hpw:p≠none:=HG.out.some_;clear hx hxe hfind hGr;obtain ⟨y0,y1,y2,y3,y4,hv⟩:=kV F;have HV:Hid (eW F=.tuple #[.agg #[.string y0,.int .u64 y1,.int .i64 y2,.bool y3],.bool y4]):=hv;have HF:Hid (F=ex x.p G.ls):=hF;rw [hv] at cG;clear hF hv;go_upto_region 3 with fail
   go_cut [8,9] from 16 to 25 (fun s8 s9 wx=>∃ B:Nat,s8=.pointer (some ⟨B,0,none⟩)∧s9=.bool y4∧wx.cell? ⟨B,0,none⟩=some (.string y0)∧wx.cell? ⟨B,2,none⟩=some (.int .i64 y2)∧Hid (aa [] w wx))
   case first =>
    go_region_with (first
     | (go_at_call 147;refine (cG _ ?_).mono ?_;exact hKa.trans (((aa.refl [] _).alloc _).drew) (by simp);rintro e w1 ⟨rfl,hKb⟩;have hK1:aa [] (wr.alloc (.cells #[.string (ak x.p),.bool x.g,.int .u64 x.d] 60)) w1:=(((aa.refl [] _).alloc _).drew).trans hKb (by simp);obtain ⟨m0,m1,m2,m3,n0,n1,n2,n3,hB0⟩:=yN hKb)
     | (go_at_call 147;refine (cG _ ?_).mono ?_;exact hKa.trans ((aa.refl [] _).drew) (by simp);rintro e w1 ⟨rfl,hKb⟩;have hK1:aa [] (wr.alloc (.cells #[.string (ak x.p),.bool x.g,.int .u64 x.d] 60)) w1:=(aa.refl [] _).drew.trans hKb (by simp)))
    all_goals go_wp2_with fail
    all_goals go_meet
    all_goals have hKw:aa [] w w1:=(HK.out.trans hKa (by simp)).trans hK1 (by simp)
    all_goals first
     | exact ⟨_,rfl,rfl,by simp,by simp,hKw.alloc _⟩
     | exact ⟨_,rfl,rfl,(br (zC hB0)).1,(br (zC hB0)).2.2.1,((((hKw.setCell (.inr hB1) _).setCell (.inr hB1) _).setCell (.inr hB1) _).setCell (.inr hB1) _)⟩
   case rest =>
    obtain ⟨B,rfl,rfl,r0,r2,HK2⟩:=hcut;clear HK e0 e1 e2 c0 c1 c2 d0 d1 d2 cG hKa;cases F with
    | none =>
      obtain ⟨rfl,rfl⟩:y2=0∧y4=false:=by have:=HV.out;simp [eW] at this;obtain ⟨⟨_,_,h2,_⟩,h4⟩:=this;exact ⟨by first | exact h2 | exact h2.symm,by first | exact h4 | exact h4.symm⟩
      have HC2:Hid (bW G.ls base (L.drop (k+1))=R):=by
       have:=HC.out;rw [HX.out,jD HF.out.symm] at this;exact this
      have hnb:¬ base < 0:=by omega
      (go_wp2_with fail);go_roundw
      case rel=>exact ⟨k+1,by go_num,by omega,HK2,HC2⟩
      case measure=>simp [intOf];omega
    | some y =>
      obtain ⟨rfl,rfl⟩:y0=ak y.p∧y2=y.r:=by have:=HV.out;simp [eW,jm] at this;exact ⟨this.1.1.symm,this.1.2.2.1.symm⟩
      by_cases hlt2:base < y.r
      ·have HC2:Hid (R=some (y.p,y.r)):=by
        have:=HC.out;rw [HX.out,lf HF.out.symm hlt2] at this;rw [(wd HF.out.symm).2];exact this.symm
       (go_wp2_with fail);exact ⟨rfl,by rw [HC2.out];rfl,HK2.out⟩
      ·have HC2:Hid (bW G.ls base (L.drop (k+1))=R):=by
        have:=HC.out;rw [HX.out,k7 HF.out.symm hlt2] at this;exact this
       (go_wp2_with fail);go_roundw
       case rel=>exact ⟨k+1,by go_num,by omega,HK2,HC2⟩
       case measure=>simp [intOf];omega
  ·have hlt':¬ (k:Int) < L.length:=by omega
   have HE:Hid (R=none):=by
    have:=HC.out
    rw [List.drop_eq_nil_of_le (by omega)] at this;exact this.symm
   (go_wp2_with fail);go_returns
   exact ⟨by rw [HE.out];rfl,HK.out⟩
end Go.Proofs.YtgpnlidnbldiiaaGreat
