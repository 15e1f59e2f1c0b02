/-
  Texts of this claim that are laid as one: GrMap, GrMem, GrHead, GrReq, GrUnc.
-/
import Derived.Test.YtddhmfildfdbdaaGreatQ1r
import Derived.Maps.OwnSet
import Derived.Maps.OwnOps
import Derived.Maps.Ext
import Derived.Sort.KeysCollected
import Derived.StringKeys
import Derived.Test.YtddhmfildfdbdaaGreatQ3r
import Derived.Test.YtddhmfildfdbdaaGreatQ6r
import Derived.Test.YtddhmfildfdbdaaGreatQ4r
import Derived.Test.YtddhmfildfdbdaaGreatQ8r
import Derived.Handy
import Derived.Deep.CutRange
set_option maxHeartbeats 8000000
/-
 Refs as a map's datum.
-/
namespace Go.Proofs.YtddhmfildfdbdaaGreat
open Go.RowKit
def rsD (l:List (List UInt8 × Int)):DataW Unit:=.map (l.map fun x=>(.string x.1,.lit (.int .i64 x.2)))
theorem before_eq:∀ (x y:List UInt8),bytesBefore x y=decide (x < y):=by
 intro x
 induction x with
 | nil=>intro y;cases y <;> simp [bytesBefore]
 | cons a x ih =>
   intro y
   cases y with
   | nil=>simp [bytesBefore]
   | cons b y =>
     simp only [bytesBefore,List.cons_lt_cons_iff]
     have h:=ih y
     by_cases h1:a < b
     ·simp [h1]
     ·by_cases h2:a=b
      ·subst h2;simp [h1,h]
      ·have h3:b < a:=by
        rcases UInt8.lt_or_lt_of_ne h2 with h | h
        ·exact absurd h h1
        ·exact h
       simp [h1,h2]
theorem same_key (a b:List UInt8):Lit.sameKey (.string a) (.string b)=decide (a=b):=by
 by_cases h:a=b <;> simp [Lit.sameKey,h]
theorem filter_ne {l:List (List UInt8 × Int)}{n:List UInt8}(h:∀ x∈l,x.1≠n):(l.map fun x=>((.string x.1,.lit (.int .i64 x.2)):Lit × DataW Unit)).filter (fun p=>!p.1.sameKey (.string n))=l.map fun x=>(.string x.1,.lit (.int .i64 x.2)):=by
 refine List.filter_eq_self.2 fun p hp=>?_
 obtain ⟨x,hx,rfl⟩:=List.mem_map.1 hp
 simp [same_key,h x hx]
theorem insert_first {l:List (List UInt8 × Int)}{n:List UInt8}{r:Int}(h:∀ x∈l,n < x.1):DataW.insert ((.string n,.lit (.int .i64 r)):Lit × DataW Unit) (l.map fun x=>(.string x.1,.lit (.int .i64 x.2)))=((n,r) :: l).map fun x=>(.string x.1,.lit (.int .i64 x.2)):=by
 cases l with
 | nil=>rfl
 | cons y l=>simp [DataW.insert,Lit.before,before_eq,h y (by simp)]
theorem rs_insert {l:List (List UInt8 × Int)}(h:SrR l) (n:List UInt8) (r:Int) :
 DataW.insert ((.string n,.lit (.int .i64 r)):Lit × DataW Unit) ((l.map fun x=>((.string x.1,.lit (.int .i64 x.2)):Lit × DataW Unit)).filter (fun p=>!p.1.sameKey (.string n)))=(mvR n r l).map fun x=>(.string x.1,.lit (.int .i64 x.2)):=by
 induction l with
 | nil=>rfl
 | cons y l ih =>
   obtain ⟨h1,h2⟩:=List.pairwise_cons.1 h
   simp only [mvR]
   by_cases hlt:y.1 < n
   ·have hne:¬ y.1=n:=fun e=>by rw [e] at hlt;exact List.lt_irrefl _ hlt
    have hnl:¬ n < y.1:=fun e=>List.lt_irrefl _ (List.lt_trans hlt e)
    simp only [hlt,if_true,List.map_cons,List.filter_cons,same_key,hne,decide_false,Bool.not_false]
    rw [← ih h2]
    simp [DataW.insert,Lit.before,before_eq,hnl]
   ·by_cases he:y.1=n
    ·have h3:∀ x∈l,n < x.1:=fun x hx=>by have:=h1 x hx;rw [he] at this;exact this
     have hnn:¬ n < n:=List.lt_irrefl _
     simp only [hnn,if_false,he,if_true,List.map_cons,List.filter_cons,same_key,decide_true,Bool.not_true,Bool.false_eq_true]
     rw [filter_ne fun x hx e=>by have:=h3 x hx;rw [e] at this;exact List.lt_irrefl _ this]
     exact insert_first h3
    ·have h5:=lt_or hlt he
     have h3:∀ x∈y :: l,n < x.1:=fun x hx=>by
      rcases List.mem_cons.1 hx with rfl | hx
      ·exact h5
      ·exact List.lt_trans h5 (h1 x hx)
     simp only [hlt,if_false,he]
     rw [filter_ne fun x hx e=>by have:=h3 x hx;rw [e] at this;exact List.lt_irrefl _ this]
     exact insert_first h3
theorem rsD_put {l:List (List UInt8 × Int)}(h:SrR l) (n:List UInt8) (r:Int):(rsD l).put (.string n) (.lit (.int .i64 r))=rsD (mvR n r l):=by
 unfold rsD DataW.put
 simp only
 rw [rs_insert h]
theorem rsD_size (l:List (List UInt8 × Int)):Maps.size (rsD l)=l.length:=by simp [rsD,Maps.size]
theorem owns_tight {P:Program}{k:TypeId}{R:Value→Option (DataW Unit × List MemPlace)}{w:World}{b n:Nat}{l:List (List UInt8 × Int)}(h:w.ownsMap P k R b n (rsD l)):w.ownsMap P k R b l.length (rsD l):=by
 obtain ⟨es,clock,h1,h2,h3,h4⟩:=h
 refine ⟨es,clock,h1,h2,?_,h4⟩
 have h5:=congrArg Maps.size h4
 rw [rsD_size] at h5
 simp only [Maps.size,length_sorted] at h5
 simp at h5
 omega
theorem nat_typed {S:List Nat}{Ts:List TypeId}{w w':World}(hk:Kept S w w') (hT:Typed w S Ts) (ht:228 ∉ Ts) {B:Nat}:∀ {p:Option Addr}{t:Tr},NAt B w p t→NAt B w' p t
 | _,.nil,h=>h
 | _,.node _ _ _,⟨b,pl,pr,hp,hb,h0,h1,hl,hr⟩=>⟨b,pl,pr,hp,hb,hk.typed hT h0 ht,h1,nat_typed hk hT ht hl,nat_typed hk hT ht hr⟩
theorem tat_typed {S:List Nat}{Ts:List TypeId}{w w':World}(hk:Kept S w w') (hT:Typed w S Ts) (ht:228 ∉ Ts) (ht2:130 ∉ Ts) {B:Nat}{p:Option Addr}{t:Tr}(h:TAt B w p t):TAt B w' p t:=by
 rcases h with h | ⟨b,q,h1,h2,h3,h4⟩
 ·exact .inl h
 ·exact .inr ⟨b,q,h1,h2,hk.typed hT h3 ht2,nat_typed hk hT ht h4⟩
noncomputable abbrev mapR:Value→Option (DataW Unit × List MemPlace):=plainElem Tryz.prog 3
structure GA (w:World) (b:Nat) (v:Value) (p:Option Addr) (t:Tr) (mb:Nat) (K:List (Com × Value)) (G:Gr):Prop where
 at_:w.heap[b]?=some (.cells #[v,.pointer p,.map (some mb)] 109 (0,0))
 row:RowK 0 w v K
 own:OwnK 0 w K
 com:K.map Prod.fst=G.cs
 tree:TAt w.heap.size w p t
 some_:p≠none
 list:t.list=G.ls
 good:Good t
 map:w.ownsMap Tryz.prog 9 mapR mb G.rs.length (rsD G.rs)
def ownS (b mb:Nat) (v:Value):List Nat:=b :: mb :: v.ownBlock.toList
def GAt (w:World) (b:Nat) (S:List Nat) (G:Gr):Prop:=∃ v p t mb K,GA w b v p t mb K G∧S=ownS b mb v
theorem GA.typed {w:World}{b:Nat}{v:Value}{p:Option Addr}{t:Tr}{mb:Nat}{K:List (Com × Value)}{G:Gr}(h:GA w b v p t mb K G):Typed w (ownS b mb v) [109,76]:=by
 intro k hk cur t' mk hh
 rcases List.mem_cons.1 hk with rfl | hk
 ·rw [h.at_] at hh;cases hh;simp
 rcases List.mem_cons.1 hk with rfl | hk
 ·obtain ⟨es,clock,h1,_⟩:=h.map
  rw [h1] at hh;cases hh
 ·obtain ⟨c2,h2⟩:=row_block h.row (mem_own.1 hk)
  rw [h2] at hh;cases hh;simp
theorem GA.lt {w:World}{b:Nat}{v:Value}{p:Option Addr}{t:Tr}{mb:Nat}{K:List (Com × Value)}{G:Gr}(h:GA w b v p t mb K G):∀ k∈ownS b mb v,k < w.heap.size:=by
 intro k hk
 rcases List.mem_cons.1 hk with rfl | hk
 ·exact lt_of_at h.at_
 rcases List.mem_cons.1 hk with rfl | hk
 ·exact h.map.lt
 ·obtain ⟨c2,h2⟩:=row_block h.row (mem_own.1 hk)
  exact lt_of_at h2
theorem map_kept {S:List Nat}{w w':World}(k:Kept S w w') {P:Program}{kt:TypeId}{R:Value→Option (DataW Unit × List MemPlace)}{b n:Nat}{D:DataW Unit}(h:w.ownsMap P kt R b n D) (hb:b ∉ S):w'.ownsMap P kt R b n D:=by
 obtain ⟨es,clock,h1,h2⟩:=h
 exact ⟨es,clock,k.at h1 hb,h2⟩
theorem GA.keep {w w':World}{b:Nat}{v:Value}{p:Option Addr}{t:Tr}{mb:Nat}{K:List (Com × Value)}{G:Gr}(h:GA w b v p t mb K G)
 {S:List Nat}{Ts:List TypeId}(k:Kept S w w') (hS:∀ i∈ownS b mb v,i ∉ S) (hT:Typed w S Ts) (h1:116 ∉ Ts) (h2:228 ∉ Ts) (h3:130 ∉ Ts):GA w' b v p t mb K G :=
 ⟨k.at h.at_ (hS b (by simp [ownS])),k.ownsRow h.row (fun i hi=>hS i (by simp [ownS,hi])),fun x hx=>row_typed k hT (h.own x hx) h1,h.com,
  (tat_typed k hT h2 h3 h.tree).mono k.size,h.some_,h.list,h.good,map_kept k h.map (hS mb (by simp [ownS]))⟩
theorem GAt.keep {w w':World}{b:Nat}{S':List Nat}{G:Gr}(h:GAt w b S' G) {S:List Nat}{Ts:List TypeId}(k:Kept S w w') (hS:∀ i∈S',i ∉ S) (hT:Typed w S Ts) (h1:116 ∉ Ts) (h2:228 ∉ Ts) (h3:130 ∉ Ts):GAt w' b S' G:=by
 obtain ⟨v,p,t,mb,K,hG,rfl⟩:=h
 exact ⟨v,p,t,mb,K,hG.keep k hS hT h1 h2 h3,rfl⟩
theorem GA.kept {w w':World}{b:Nat}{v:Value}{p:Option Addr}{t:Tr}{mb:Nat}{K:List (Com × Value)}{G:Gr}(h:GA w b v p t mb K G) (k:Kept [] w w'):GA w' b v p t mb K G :=
 h.keep k (by simp) (typed_nil w []) (by simp) (by simp) (by simp)
theorem GAt.kept {w w':World}{b:Nat}{S:List Nat}{G:Gr}(h:GAt w b S G) (k:Kept [] w w'):GAt w' b S G :=
 h.keep k (by simp) (typed_nil w []) (by simp) (by simp) (by simp)
theorem GAt.typed {w:World}{b:Nat}{S:List Nat}{G:Gr}(h:GAt w b S G):Typed w S [109,76]:=by
 obtain ⟨v,p,t,mb,K,hG,rfl⟩:=h;exact hG.typed
theorem GAt.lt {w:World}{b:Nat}{S:List Nat}{G:Gr}(h:GAt w b S G):∀ k∈S,k < w.heap.size:=by
 obtain ⟨v,p,t,mb,K,hG,rfl⟩:=h;exact hG.lt
def vdW (v:Vd) (k:Value):Value:=.agg #[.int .i64 v.c,.int .i64 0,.int .i64 v.r,.string (str v.p),.int .u64 v.d,k,.int .i64 0]
def vdV (v:Vd):Value:=vdW v (.slice none 0 0)
theorem string_keys:Maps.Keyed Tryz.prog 9:=Maps.string_keyed Tryz.underlying9
theorem tnew_call (w:World) :
 Calls Tryz.prog 48 #[] w fun e w'=>∃ b,e=.returned (.pointer (some ⟨b,0,none⟩))∧TAt w'.heap.size w' (some ⟨b,0,none⟩) .nil∧Kept [] w w':=by
 go_enter Tryz.func48,Tryz.ntmps48
 go_wp2
 go_ret
 exact ⟨_,rfl,.inr ⟨w.heap.size,none,rfl,by simp,heap_alloc_new w _,rfl⟩,(Kept.refl _ _).alloc _⟩
theorem gnew_call (w:World) :
 Calls Tryz.prog 22 #[] w fun e w'=>∃ b S,e=.returned (.pointer (some ⟨b,0,none⟩))∧GAt w' b S voidG∧Kept [] w w'∧∀ k∈S,w.heap.size≤k:=by
 have hmk:∀ W:World,(Instr.makeMap 107 none).run Tryz.prog W=.ok (.map (some W.heap.size)) (W.alloc (.map #[] 0)):=fun _=>rfl
 go_enter Tryz.func22,Tryz.ntmps22
 go_wp2_with fail
 refine (tnew_call w).mono ?_
 rintro e w1 ⟨tb,rfl,hT,hK1⟩
 go_wp2
 go_ret
 have hs:=hK1.size
 have hK2:Kept [] w1 (w1.alloc (.map #[] 0)):=(Kept.refl _ _).alloc _
 have hK3:Kept [] (w1.alloc (.map #[] 0)) ((w1.alloc (.map #[] 0)).alloc (.cells #[.slice none 0 0,.pointer (some ⟨tb,0,none⟩),.map (some w1.heap.size)] 109)):=(Kept.refl _ _).alloc _
 have hK:Kept [] w1 ((w1.alloc (.map #[] 0)).alloc (.cells #[.slice none 0 0,.pointer (some ⟨tb,0,none⟩),.map (some w1.heap.size)] 109)):=hK2.trans hK3 (by simp)
 have hnew:=heap_alloc_new (w1.alloc (.map #[] 0)) (.cells #[.slice none 0 0,.pointer (some ⟨tb,0,none⟩),.map (some w1.heap.size)] 109)
 rw [World.size_alloc] at hnew
 refine ⟨_,_,rfl,⟨_,some ⟨tb,0,none⟩,.nil,w1.heap.size,[],⟨hnew,RowK.nil _ _,(fun x hx=>by simp at hx),rfl,(hT.kept hK).full,by simp,rfl,good_nil,?_⟩,rfl⟩,hK1.trans hK (by simp),?_⟩
 ·exact map_kept hK3 (World.ownsMap_made w1 _ _ _) (by simp)
 ·intro k hk
  simp [ownS,Value.ownBlock] at hk
  rcases hk with rfl | rfl
  ·omega
  ·exact hs
theorem made_call {w:World}{b:Nat}{v:Value}{p:Option Addr}{t:Tr}{mb:Nat}{K:List (Com × Value)}{G:Gr}(h:GA w b v p t mb K G) :
 Calls Tryz.prog 153 #[.pointer (some ⟨b,0,none⟩)] w fun e w'=>e=.returned (.bool true)∧w'=w:=by
 obtain ⟨c0,c1,c2⟩:=cells3 h.at_
 have hp:=h.some_
 clear h
 cases p with
 | none=>exact absurd rfl hp
 | some ad =>
   clear hp
   go_enter Tryz.func153,Tryz.ntmps153
   go_wp2
   go_ret
   exact ⟨rfl,rfl⟩
theorem chain_call {w:World}{b:Nat}{v:Value}{p:Option Addr}{t:Tr}{mb:Nat}{K:List (Com × Value)}{G:Gr}(h:GA w b v p t mb K G) :
 Calls Tryz.prog 100 #[.pointer (some ⟨b,0,none⟩)] w fun e w'=>e=.returned v∧w'=w:=by
 obtain ⟨c0,c1,c2⟩:=cells3 h.at_
 clear h
 go_enter Tryz.func100,Tryz.ntmps100
 go_wp2
 go_ret
 exact ⟨rfl,rfl⟩
theorem head_call {w:World}{b:Nat}{v:Value}{p:Option Addr}{t:Tr}{mb:Nat}{K:List (Com × Value)}{G:Gr}(h:GA w b v p t mb K G) :
 Calls Tryz.prog 158 #[.pointer (some ⟨b,0,none⟩)] w fun e w'=>e=.returned (.int .i64 (G.cs.length:Int))∧w'=w:=by
 obtain ⟨ao,c,rfl,hs,_⟩:=h.row.sl h.own
 have hl:G.cs.length=K.length:=by rw [← h.com];simp
 rw [hl]
 have cC:=chain_call h
 have hm:=hs.2.2.1
 have hc:=hs.2.1
 clear h hl hs
 generalize K.length=n at *
 go_enter Tryz.func158,Tryz.ntmps158
 go_wp2_with fail
 refine cC.mono ?_
 rintro e w1 ⟨rfl,rfl⟩
 go_wp2
 go_ret
 exact ⟨rfl,rfl⟩
def pan (x:Vd):Ending:=.panicked [{ v:=.iface 69 (vdV x),recovered:=false }]
noncomputable def reqV (G:Gr) (base:Int) (n:List UInt8) (L:List Ch):Option Vd :=
 if badB base n L=true then some ⟨5,0,[],0⟩ else if (G.cs.length:Int) < base then some ⟨4,G.cs.length,[],0⟩ else none
def reqE:Option Vd→Ending
 | some x=>pan x
 | none=>.returned (.tuple #[])
theorem str_ne_void {n:List UInt8}(h:n≠[]):((str n).toList.isEmpty)=false:=by
 rw [str_toList];cases n with
 | nil=>exact absurd rfl h
 | cons c m=>rfl
theorem req_call {w:World}{b:Nat}{v:Value}{p:Option Addr}{t:Tr}{mb:Nat}{K:List (Com × Value)}{G:Gr}(h:GA w b v p t mb K G) (base:Int) (n:List UInt8) (hn:n.length≤1000000000) (ao:Option Addr) (m c:Nat) (L:List Ch) (hS:SlC w ao m c L) (hp:∀ x∈L,x.p.length≤1000000000) :
 Calls Tryz.prog 155 #[.pointer (some ⟨b,0,none⟩),.int .i64 base,.string (str n),.slice ao m c] w fun e w'=>e=reqE (reqV G base n L)∧Kept [] w w':=by
 have cC:=check_call w ao m c L hS (fun x hx=>by have:=hp x hx;omega)
 have cN:=fun W=>name_call n W (by omega)
 have HG:Hid (GA w b v p t mb K G):=h
 have hz:errC L=0∨errC L=1:=by
  by_cases h:CheckOK L
  ·exact .inl (errC_ok h)
  ·exact .inr (errC_bad h)
 obtain ⟨R,hR⟩:∃ R,R=reqV G base n L:=⟨_,rfl⟩
 have HR:Hid (R=reqV G base n L):=hR
 rw [← hR]
 clear h hS hp hR
 rcases hz with hz | hz
 ·rw [hz] at cC
  by_cases h0:n=[]
  ·subst h0
   have hE:=str_void
   by_cases hlt:base < 0
   ·have HE:Hid (R=some ⟨5,0,[],0⟩):=by show R=_;rw [HR.out];simp [reqV,badB,hlt]
    go_enter Tryz.func155,Tryz.ntmps155
    go_wp2_with fail
    refine cC.mono ?_
    rintro e w1 ⟨rfl,hK⟩
    go_wp2
    exact ⟨rfl,by rw [HE.out];rfl,hK⟩
   ·by_cases hlt2:(G.cs.length:Int) < base
    ·have HE:Hid (R=some ⟨4,G.cs.length,[],0⟩):=by show R=_;rw [HR.out];simp [reqV,badB,hlt,hz,hlt2]
     go_enter Tryz.func155,Tryz.ntmps155
     go_wp2_with fail
     refine cC.mono ?_
     rintro e w1 ⟨rfl,hK⟩
     have cH:=head_call (HG.out.kept hK)
     go_wp2_with fail
     refine cH.mono ?_
     rintro e w2 ⟨rfl,rfl⟩
     go_wp2_with fail
     refine cH.mono ?_
     rintro e w3 ⟨rfl,rfl⟩
     go_wp2
     exact ⟨rfl,by rw [HE.out];rfl,hK⟩
    ·have HE:Hid (R=none):=by show R=_;rw [HR.out];simp [reqV,badB,hlt,hz,hlt2]
     go_enter Tryz.func155,Tryz.ntmps155
     go_wp2_with fail
     refine cC.mono ?_
     rintro e w1 ⟨rfl,hK⟩
     have cH:=head_call (HG.out.kept hK)
     go_wp2_with fail
     refine cH.mono ?_
     rintro e w2 ⟨rfl,rfl⟩
     go_wp2
     go_returns
     exact ⟨by rw [HE.out];rfl,hK⟩
  ·have hE:=str_ne_void h0
   cases hw:wordB false n with
   | false =>
     have HE:Hid (R=some ⟨5,0,[],0⟩):=by show R=_;rw [HR.out];simp [reqV,badB,hw,h0]
     rw [hw] at cN
     go_enter Tryz.func155,Tryz.ntmps155
     go_wp2_with fail
     refine cC.mono ?_
     rintro e w1 ⟨rfl,hK⟩
     go_wp2_with fail
     refine (cN _).mono ?_
     rintro e w2 ⟨rfl,rfl⟩
     go_wp2
     exact ⟨rfl,by rw [HE.out];rfl,hK⟩
   | true =>
     rw [hw] at cN
     by_cases hlt:base < 0
     ·have HE:Hid (R=some ⟨5,0,[],0⟩):=by show R=_;rw [HR.out];simp [reqV,badB,hlt]
      go_enter Tryz.func155,Tryz.ntmps155
      go_wp2_with fail
      refine cC.mono ?_
      rintro e w1 ⟨rfl,hK⟩
      go_wp2_with fail
      refine (cN _).mono ?_
      rintro e w2 ⟨rfl,rfl⟩
      go_wp2
      exact ⟨rfl,by rw [HE.out];rfl,hK⟩
     ·by_cases hlt2:(G.cs.length:Int) < base
      ·have HE:Hid (R=some ⟨4,G.cs.length,[],0⟩):=by show R=_;rw [HR.out];simp [reqV,badB,hlt,hz,hw,hlt2]
       go_enter Tryz.func155,Tryz.ntmps155
       go_wp2_with fail
       refine cC.mono ?_
       rintro e w1 ⟨rfl,hK⟩
       have cH:=head_call (HG.out.kept hK)
       go_wp2_with fail
       refine (cN _).mono ?_
       rintro e w2 ⟨rfl,rfl⟩
       go_wp2_with fail
       refine cH.mono ?_
       rintro e w3 ⟨rfl,rfl⟩
       go_wp2_with fail
       refine cH.mono ?_
       rintro e w4 ⟨rfl,rfl⟩
       go_wp2
       exact ⟨rfl,by rw [HE.out];rfl,hK⟩
      ·have HE:Hid (R=none):=by show R=_;rw [HR.out];simp [reqV,badB,hlt,hz,hw,hlt2]
       go_enter Tryz.func155,Tryz.ntmps155
       go_wp2_with fail
       refine cC.mono ?_
       rintro e w1 ⟨rfl,hK⟩
       have cH:=head_call (HG.out.kept hK)
       go_wp2_with fail
       refine (cN _).mono ?_
       rintro e w2 ⟨rfl,rfl⟩
       go_wp2_with fail
       refine cH.mono ?_
       rintro e w3 ⟨rfl,rfl⟩
       go_wp2
       go_returns
       exact ⟨by rw [HE.out];rfl,hK⟩
 ·have HE:Hid (R=some ⟨5,0,[],0⟩):=by show R=_;rw [HR.out];simp [reqV,badB,hz]
  rw [hz] at cC
  go_enter Tryz.func155,Tryz.ntmps155
  go_wp2_with fail
  refine cC.mono ?_
  rintro e w1 ⟨rfl,hK⟩
  go_wp2
  exact ⟨rfl,by rw [HE.out];rfl,hK⟩
def uncE:Option (List UInt8 × Int)→Ending
 | some x=>pan ⟨3,x.2,x.1,0⟩
 | none=>.returned (.tuple #[])
def UncI (w:World) (ls:List Lf) (base:Int) (L:List Ch) (R:Option (List UInt8 × Int)) (kv:Value) (wr:World):Prop :=
 ∃ k:Nat,kv=.int .i64 (k:Int)∧k≤L.length∧Hid (Kept [] w wr)∧Hid (confl ls base (L.drop k)=R)
theorem confl_hit {ls:List Lf}{base:Int}{x:Ch}{l:List Ch}{y:Lf}(h:findL x.p ls=some y) (hlt:base < y.r):confl ls base (x :: l)=some (x.p,y.r):=by
 simp [confl,h,hlt]
theorem confl_old {ls:List Lf}{base:Int}{x:Ch}{l:List Ch}{y:Lf}(h:findL x.p ls=some y) (hlt:¬ base < y.r):confl ls base (x :: l)=confl ls base l:=by
 simp [confl,h,hlt]
theorem confl_miss {ls:List Lf}{base:Int}{x:Ch}{l:List Ch}(h:findL x.p ls=none):confl ls base (x :: l)=confl ls base l:=by
 simp [confl,h]
theorem getL_form (R:Option Lf):∃ y0 y1 y2 y3 y4,tupL R=.tuple #[.agg #[.string y0,.int .u64 y1,.int .i64 y2,.bool y3],.bool y4]:=by
 cases R with
 | none=>exact ⟨_,_,_,_,_,rfl⟩
 | some x=>exact ⟨_,_,_,_,_,rfl⟩
theorem set4 {w:World}{B:Nat}{v0 v1 v2 v3 u0 u1 u2 u3:Value}{t:TypeId}(h:Hid (w.heap[B]?=some (.cells #[v0,v1,v2,v3] t (0,0)))) :
 ((((w.setCell ⟨B,0,none⟩ u0).setCell ⟨B,1,none⟩ u1).setCell ⟨B,2,none⟩ u2).setCell ⟨B,3,none⟩ u3).heap[B]?=some (.cells #[u0,u1,u2,u3] t (0,0)) :=
 heap_setCell_same _ B 3 _ _ u3 (heap_setCell_same _ B 2 _ _ u2 (heap_setCell_same _ B 1 _ _ u1 (heap_setCell_same w B 0 _ _ u0 h.out)))
theorem leaf_box {w w1:World}{u:Obj}{v0 v1 v2 v3:Value}{t:TypeId}(h:Kept [] ((w.alloc u).alloc (.cells #[v0,v1,v2,v3] t)).drew w1) :
 w1.cell? ⟨w.heap.size+1,0,none⟩=some v0∧w1.cell? ⟨w.heap.size+1,1,none⟩=some v1∧w1.cell? ⟨w.heap.size+1,2,none⟩=some v2∧w1.cell? ⟨w.heap.size+1,3,none⟩=some v3 ∧
 w1.frozen? ⟨w.heap.size+1,0,none⟩=false∧w1.frozen? ⟨w.heap.size+1,1,none⟩=false∧w1.frozen? ⟨w.heap.size+1,2,none⟩=false∧w1.frozen? ⟨w.heap.size+1,3,none⟩=false∧Hid (w1.heap[w.heap.size+1]?=some (.cells #[v0,v1,v2,v3] t (0,0))):=by
 have h1:=heap_alloc_new (w.alloc u) (.cells #[v0,v1,v2,v3] t)
 rw [World.size_alloc] at h1
 have h2:w1.heap[w.heap.size+1]?=some (.cells #[v0,v1,v2,v3] t (0,0)):=h.at h1 (by simp)
 obtain ⟨m0,m1,m2,m3⟩:=cells4 h2
 exact ⟨m0,m1,m2,m3,frozen_in h2 0,frozen_in h2 1,frozen_in h2 2,frozen_in h2 3,h2⟩
theorem unc_call {w:World}{b:Nat}{v:Value}{p:Option Addr}{t:Tr}{mb:Nat}{K:List (Com × Value)}{G:Gr}(h:GA w b v p t mb K G) (base:Int) (hb:0≤base)
 (ao:Option Addr) (m c:Nat) (L:List Ch) (hS:SlC w ao m c L) (hp:∀ x∈L,x.p.length≤1000000000) :
 Calls Tryz.prog 157 #[.pointer (some ⟨b,0,none⟩),.int .i64 base,.slice ao m c] w fun e w'=>e=uncE (confl G.ls base L)∧Kept [] w w':=by
 have hl:=hS.1
 subst hl
 have hc:=hS.2.1
 have hm:=hS.2.2.1
 unfold maxLen at hm
 have HS:Hid (SlC w ao L.length c L):=hS
 have HP:Hid (∀ x∈L,x.p.length≤1000000000):=hp
 have HG:Hid (GA w b v p t mb K G):=h
 obtain ⟨R,hR⟩:∃ R,R=confl G.ls base L:=⟨_,rfl⟩
 rw [← hR]
 have HR:Hid (confl G.ls base L=R):=hR.symm
 clear hS hp hR h
 go_enter Tryz.func157,Tryz.ntmps157
 go_wp2_with fail
 go_loopw [12] (fun iv wr=>UncI w G.ls base L R iv wr) (fun iv _=>L.length - (intOf iv).toNat)
 case atStart=>exact ⟨0,rfl,Nat.zero_le _,Kept.refl _ _,HR.out⟩
 case round =>
  obtain ⟨k,rfl,hk,HK,HC⟩:=hrel
  by_cases hlt:k < L.length
  ·have hlt':(k:Int) < L.length:=by omega
   have hkc:k≤c:=by omega
   obtain ⟨g,o,rfl,hx⟩:=HS.out.2.2.2 k hlt
   obtain ⟨c0,c1,c2⟩:=hx.kept HK.out (by simp)
   obtain ⟨x,hxe⟩:∃ x,x=L[k]:=⟨_,rfl⟩
   have HX:Hid (L.drop k=x :: L.drop (k+1)):=by rw [hxe];exact List.drop_eq_getElem_cons hlt
   rw [← hxe] at c0 c1 c2
   have hKa:=(Kept.refl [] wr).alloc (.cells #[.string (str x.p),.bool x.g,.int .u64 x.d] 116)
   obtain ⟨d0,d1,d2⟩:=box3 wr x 116
   rw [Nat.zero_add] at d1 d2
   have hxp:x.p.length≤1000000000:=by rw [hxe];exact HP.out _ (List.getElem_mem hlt)
   have hGr:=HG.out.kept HK.out
   obtain ⟨e0,e1,e2⟩:=cells3 (hGr.kept hKa).at_
   have hbw:b < wr.heap.size:=lt_of_at hGr.at_
   have hB1:w.heap.size≤wr.heap.size+1:=by have:=HK.out.size;omega
   have cG:=fun W (h:Kept [] wr W)=>tGet_call _ W p t x.p ((hGr.kept h).tree) (by omega)
   rw [get_mem HG.out.good.1,HG.out.list] at cG
   have hfind:=show findL x.p G.ls=G.ls.find? (fun y=>decide (x.p=y.p)) from rfl
   obtain ⟨F,hF⟩:∃ F,F=findL x.p G.ls:=⟨_,rfl⟩
   rw [← hfind,← hF] at cG
   have hpw:p≠none:=HG.out.some_
   clear hx hxe hfind hGr
   obtain ⟨y0,y1,y2,y3,y4,hv⟩:=getL_form F
   have HV:Hid (tupL F=.tuple #[.agg #[.string y0,.int .u64 y1,.int .i64 y2,.bool y3],.bool y4]):=hv
   have HF:Hid (F=findL x.p G.ls):=hF
   rw [hv] at cG
   clear hF hv
   go_upto_region 3 with fail
   go_cut [8,9] from 16 to 25 (fun s8 s9 wx=>∃ B:Nat,s8=.pointer (some ⟨B,0,none⟩)∧s9=.bool y4∧wx.cell? ⟨B,0,none⟩=some (.string y0)∧wx.cell? ⟨B,2,none⟩=some (.int .i64 y2)∧Hid (Kept [] w wx))
   case first =>
    go_region_with (first
     | (go_at_call 174;refine (cG _ ?_).mono ?_;exact hKa.trans (((Kept.refl [] _).alloc _).drew) (by simp);rintro e w1 ⟨rfl,hKb⟩;have hK1:Kept [] (wr.alloc (.cells #[.string (str x.p),.bool x.g,.int .u64 x.d] 116)) w1:=(((Kept.refl [] _).alloc _).drew).trans hKb (by simp);obtain ⟨m0,m1,m2,m3,n0,n1,n2,n3,hB0⟩:=leaf_box hKb)
     | (go_at_call 174;refine (cG _ ?_).mono ?_;exact hKa.trans ((Kept.refl [] _).drew) (by simp);rintro e w1 ⟨rfl,hKb⟩;have hK1:Kept [] (wr.alloc (.cells #[.string (str x.p),.bool x.g,.int .u64 x.d] 116)) w1:=(Kept.refl [] _).drew.trans hKb (by simp)))
    all_goals go_wp2_with fail
    all_goals go_meet
    all_goals have hKw:Kept [] w w1:=(HK.out.trans hKa (by simp)).trans hK1 (by simp)
    all_goals first
     | exact ⟨_,rfl,rfl,by simp,by simp,hKw.alloc _⟩
     | exact ⟨_,rfl,rfl,(cells4 (set4 hB0)).1,(cells4 (set4 hB0)).2.2.1,((((hKw.setCell (.inr hB1) _).setCell (.inr hB1) _).setCell (.inr hB1) _).setCell (.inr hB1) _)⟩
   case rest =>
    obtain ⟨B,rfl,rfl,r0,r2,HK2⟩:=hcut
    clear HK e0 e1 e2 c0 c1 c2 d0 d1 d2 cG hKa
    cases F with
    | none =>
      obtain ⟨rfl,rfl⟩:y2=0∧y4=false:=by have:=HV.out;simp [tupL] at this;obtain ⟨⟨_,_,h2,_⟩,h4⟩:=this;exact ⟨by first | exact h2 | exact h2.symm,by first | exact h4 | exact h4.symm⟩
      have HC2:Hid (confl G.ls base (L.drop (k+1))=R):=by
       have:=HC.out;rw [HX.out,confl_miss HF.out.symm] at this;exact this
      have hnb:¬ base < 0:=by omega
      go_wp2_with fail
      go_roundw
      case rel=>exact ⟨k+1,by go_num,by omega,HK2,HC2⟩
      case measure=>simp [intOf];omega
    | some y =>
      obtain ⟨rfl,rfl⟩:y0=str y.p∧y2=y.r:=by have:=HV.out;simp [tupL,lfV] at this;exact ⟨this.1.1.symm,this.1.2.2.1.symm⟩
      by_cases hlt2:base < y.r
      ·have HC2:Hid (R=some (y.p,y.r)):=by
        have:=HC.out;rw [HX.out,confl_hit HF.out.symm hlt2] at this;rw [(findL_mem HF.out.symm).2];exact this.symm
       go_wp2_with fail
       exact ⟨rfl,by rw [HC2.out];rfl,HK2.out⟩
      ·have HC2:Hid (confl G.ls base (L.drop (k+1))=R):=by
        have:=HC.out;rw [HX.out,confl_old HF.out.symm hlt2] at this;exact this
       go_wp2_with fail
       go_roundw
       case rel=>exact ⟨k+1,by go_num,by omega,HK2,HC2⟩
       case measure=>simp [intOf];omega
  ·have hlt':¬ (k:Int) < L.length:=by omega
   have HE:Hid (R=none):=by
    have:=HC.out
    rw [List.drop_eq_nil_of_le (by omega)] at this
    exact this.symm
   go_wp2_with fail
   go_returns
   exact ⟨by rw [HE.out];rfl,HK.out⟩
end Go.Proofs.YtddhmfildfdbdaaGreat
