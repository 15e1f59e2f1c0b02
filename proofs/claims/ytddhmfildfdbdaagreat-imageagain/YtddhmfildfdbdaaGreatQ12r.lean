/-
  Texts of this claim that are laid as one: SeMem, SeCopy, SeCopy2, SeCopy3.
-/
import Derived.Test.YtddhmfildfdbdaaGreatQ1r
import Derived.Test.YtddhmfildfdbdaaGreatQ3r
import Derived.Test.YtddhmfildfdbdaaGreatQ2r
import Derived.Test.YtddhmfildfdbdaaGreatShelf
import Derived.Deep.Cut
set_option maxHeartbeats 8000000
/-
 Verdicts and sessions in memory: slices that are read,rows that are owned,lists that are never written.
-/
namespace Go.Proofs.YtddhmfildfdbdaaGreat
open Go.RowKit
def seC (x:Se × Value):List Value:=[.int .i64 x.1.i,.int .i64 x.1.q,.string (str x.1.n),.int .i64 x.1.v.c,.int .i64 x.1.v.s,.int .i64 x.1.v.r,.string (str x.1.v.p),.int .u64 x.1.v.d,x.2,.int .i64 x.1.v.m]
def seV (x:Se) (u:Value):Value:=.agg #[.int .i64 x.i,.int .i64 x.q,.string (str x.n),.int .i64 x.v.c,.int .i64 x.v.s,.int .i64 x.v.r,.string (str x.v.p),.int .u64 x.v.d,u,.int .i64 x.v.m]
theorem seC_length (X:List (Se × Value)):(X.flatMap seC).length=X.length*10:=by
 induction X with
 | nil=>rfl
 | cons x X ih=>simp [List.flatMap_cons,ih,seC];omega
theorem seC_get (X:List (Se × Value)) (i:Nat) (h:i < X.length) (j:Nat) (hj:j < 10):(X.flatMap seC)[i*10+j]?=(seC X[i])[j]?:=by
 induction X generalizing i with
 | nil=>simp at h
 | cons x X ih =>
   cases i with
   | zero=>simp only [List.flatMap_cons,Nat.zero_mul,Nat.zero_add,List.getElem_cons_zero];rw [List.getElem?_append_left (by simp [seC];omega)]
   | succ i =>
     simp only [List.flatMap_cons,List.getElem_cons_succ]
     rw [List.getElem?_append_right (by simp [seC];omega)]
     rw [← ih i (by simpa using h)]
     congr 1
     simp [seC];omega
structure SeAt (w:World) (b o:Nat) (x:Se × Value):Prop where
 c0:w.cell? ⟨b,o,none⟩=some (.int .i64 x.1.i)
 c1:w.cell? ⟨b,o+1,none⟩=some (.int .i64 x.1.q)
 c2:w.cell? ⟨b,o+2,none⟩=some (.string (str x.1.n))
 c3:w.cell? ⟨b,o+3,none⟩=some (.int .i64 x.1.v.c)
 c4:w.cell? ⟨b,o+4,none⟩=some (.int .i64 x.1.v.s)
 c5:w.cell? ⟨b,o+5,none⟩=some (.int .i64 x.1.v.r)
 c6:w.cell? ⟨b,o+6,none⟩=some (.string (str x.1.v.p))
 c7:w.cell? ⟨b,o+7,none⟩=some (.int .u64 x.1.v.d)
 c8:w.cell? ⟨b,o+8,none⟩=some x.2
 c9:w.cell? ⟨b,o+9,none⟩=some (.int .i64 x.1.v.m)
theorem SeAt.kept {S:List Nat}{a w:World}{b o:Nat}{x:Se × Value}(h:SeAt a b o x) (k:Kept S a w) (hb:b ∉ S):SeAt w b o x :=
 ⟨k.cell h.c0 hb,k.cell h.c1 hb,k.cell h.c2 hb,k.cell h.c3 hb,k.cell h.c4 hb,k.cell h.c5 hb,k.cell h.c6 hb,k.cell h.c7 hb,k.cell h.c8 hb,k.cell h.c9 hb⟩
theorem SeAt.of {w:World}{b o:Nat}{x:Se × Value}(h:∀ j,j < 10→w.cell? ⟨b,o+j,none⟩=(seC x)[j]?):SeAt w b o x :=
 ⟨h 0 (by omega),h 1 (by omega),h 2 (by omega),h 3 (by omega),h 4 (by omega),h 5 (by omega),h 6 (by omega),h 7 (by omega),h 8 (by omega),h 9 (by omega)⟩
theorem SeAt.all {w:World}{b o:Nat}{x:Se × Value}(h:SeAt w b o x) {j:Nat}{u:Value}(hj:(seC x)[j]?=some u):w.cell? ⟨b,o+j,none⟩=some u:=by
 obtain ⟨c0,c1,c2,c3,c4,c5,c6,c7,c8,c9⟩:=h
 match j,hj with
 | 0,hj=>simp [seC] at hj;subst hj;exact c0
 | 1,hj=>simp [seC] at hj;subst hj;exact c1
 | 2,hj=>simp [seC] at hj;subst hj;exact c2
 | 3,hj=>simp [seC] at hj;subst hj;exact c3
 | 4,hj=>simp [seC] at hj;subst hj;exact c4
 | 5,hj=>simp [seC] at hj;subst hj;exact c5
 | 6,hj=>simp [seC] at hj;subst hj;exact c6
 | 7,hj=>simp [seC] at hj;subst hj;exact c7
 | 8,hj=>simp [seC] at hj;subst hj;exact c8
 | 9,hj=>simp [seC] at hj;subst hj;exact c9
 | j+10,hj=>simp [seC] at hj
def SlS (w:World) (ao:Option Addr) (n c:Nat) (X:List (Se × Value)):Prop :=
 X.length=n∧n≤c∧c≤maxLen∧(ao=none→c=0)∧(∀ i (h:i < X.length),∃ b o,ao=some ⟨b,o,none⟩∧SeAt w b (o+i*10) X[i])∧∀ x∈X,KoV w x.2 x.1.v.k
theorem SlS.kept {a w:World}{ao:Option Addr}{n c:Nat}{X:List (Se × Value)}(h:SlS a ao n c X) (k:Kept [] a w):SlS w ao n c X :=
 ⟨h.1,h.2.1,h.2.2.1,h.2.2.2.1,fun i hi=>by obtain ⟨b,o,e,h1⟩:=h.2.2.2.2.1 i hi;exact ⟨b,o,e,h1.kept k (by simp)⟩,fun x hx=>(h.2.2.2.2.2 x hx).kept k⟩
def RowS (B:Nat) (w:World) (v:Value) (X:List (Se × Value)):Prop:=w.ownsRow B 71 10 v X.length (X.flatMap seC)
def TRow (w:World) (v:Value) (X:List (Se × Value)):Prop :=
 (v=.slice none 0 0∧X=[])∨∃ g c cur,v=.slice (some ⟨g,0,none⟩) X.length c∧w.heap[g]?=some (.cells cur 71 (0,0))∧X.length≤c∧c≤maxLen∧cur.toList.take (X.length*10)=X.flatMap seC
theorem RowS.t {B:Nat}{w:World}{v:Value}{X:List (Se × Value)}(h:RowS B w v X):TRow w v X:=by
 obtain ⟨h1,h2⟩:=h
 rcases h2 with ⟨hv,hn⟩ | ⟨g,cap,cur,hv,hg,hh,h3,h4,h5,h6⟩
 ·have:X=[]:=by simpa using hn
  subst this
  exact .inl ⟨by rw [hv],rfl⟩
 ·exact .inr ⟨g,cap,cur,hv,hh,h3,h4,h6⟩
theorem TRow.keep {S:List Nat}{w w':World}{v:Value}{X:List (Se × Value)}(h:TRow w v X) (hk:Kept S w w') (hS:∀ k,v.ownBlock=some k→k ∉ S):TRow w' v X:=by
 rcases h with h | ⟨g,c,cur,hv,hh,r⟩
 ·exact .inl h
 ·exact .inr ⟨g,c,cur,hv,hk.at hh (hS g (by rw [hv];rfl)),r⟩
theorem TRow.kept {w w':World}{v:Value}{X:List (Se × Value)}(h:TRow w v X) (hk:Kept [] w w'):TRow w' v X:=h.keep hk (by simp)
theorem TRow.block {w:World}{v:Value}{X:List (Se × Value)}(h:TRow w v X) {k:Nat}(hk:v.ownBlock=some k):∃ cur,w.heap[k]?=some (.cells cur 71 (0,0)):=by
 rcases h with ⟨rfl,_⟩ | ⟨g,c,cur,rfl,hh,_⟩
 ·cases hk
 ·cases hk;exact ⟨cur,hh⟩
theorem TRow.typed {S:List Nat}{Ts:List TypeId}{w w':World}{v:Value}{X:List (Se × Value)}(h:TRow w v X) (hk:Kept S w w') (hT:Typed w S Ts) (ht:71 ∉ Ts):TRow w' v X :=
 h.keep hk fun k hv hm=>by
  obtain ⟨cur,hh⟩:=h.block hv
  exact ht (hT _ hm _ _ _ hh)
theorem TRow.at {w:World}{g n c:Nat}{X:List (Se × Value)}(h:TRow w (.slice (some ⟨g,0,none⟩) n c) X) {i:Nat}(hi:i < X.length):SeAt w g (i*10) X[i]:=by
 rcases h with ⟨h,_⟩ | ⟨g',c',cur,hv,hh,h1,h2,h3⟩
 ·cases h
 ·obtain ⟨rfl,rfl,rfl⟩:g=g'∧n=X.length∧c=c':=by simpa using hv
  refine SeAt.of fun j hj=>?_
  rw [← seC_get X i hi j hj,← h3,List.getElem?_take,if_pos (by omega)]
  simp [World.cell?,hh]
theorem TRow.shape {w:World}{v:Value}{X:List (Se × Value)}(h:TRow w v X):∃ ao c,v=.slice ao X.length c∧X.length≤c∧c≤maxLen∧(ao=none→c=0)∧∀ i (hi:i < X.length),∃ g,ao=some ⟨g,0,none⟩∧SeAt w g (i*10) X[i]:=by
 have h':=h
 rcases h with ⟨rfl,rfl⟩ | ⟨g,c,cur,rfl,hh,h1,h2,h3⟩
 ·exact ⟨none,0,rfl,Nat.le_refl _,Nat.zero_le _,fun _=>rfl,fun i hi=>by simp at hi⟩
 ·exact ⟨_,c,rfl,h1,h2,by simp,fun i hi=>⟨g,rfl,h'.at hi⟩⟩
theorem TRow.sl {w:World}{v:Value}{X:List (Se × Value)}(h:TRow w v X) (ho:∀ x∈X,KoV w x.2 x.1.v.k):∃ ao c,v=.slice ao X.length c∧SlS w ao X.length c X:=by
 obtain ⟨ao,c,e,h1,h2,h3,h4⟩:=h.shape
 refine ⟨ao,c,e,rfl,h1,h2,h3,fun i hi=>?_,ho⟩
 obtain ⟨g,e2,h5⟩:=h4 i hi
 exact ⟨g,0,e2,by rw [Nat.zero_add];exact h5⟩
theorem cells_runS {w:World}{b o:Nat}{X:List (Se × Value)}(h:∀ i (hi:i < X.length),SeAt w b (o+i*10) X[i]):∀ (j:Nat) (u:Value),(X.flatMap seC)[j]?=some u→w.cell? ⟨b,o+j,none⟩=some u:=by
 intro j u hj
 have hlt:j < (X.flatMap seC).length:=by
  by_cases hl:j < (X.flatMap seC).length
  ·exact hl
  ·rw [List.getElem?_eq_none (by omega)] at hj;cases hj
 rw [seC_length] at hlt
 have hi:j / 10 < X.length:=by omega
 have e:=seC_get X (j / 10) hi (j % 10) (by omega)
 have e2:j / 10*10+j % 10=j:=by omega
 rw [e2,hj] at e
 have:=(h (j / 10) hi).all e.symm
 rw [show o+j / 10*10+j % 10=o+j by omega] at this
 exact this
theorem TRow.run0 {w:World}{g n c:Nat}{X:List (Se × Value)}(h:TRow w (.slice (some ⟨g,0,none⟩) n c) X) (k:Nat):∀ (j:Nat) (u:Value),((X.take k).flatMap seC)[j]?=some u→w.cell? ((⟨g,0,none⟩:Addr).add j)=some u:=by
 intro j u hj
 rw [adr_addC]
 refine cells_runS (X:=X.take k) (fun i hi=>?_) j u hj
 rw [List.length_take] at hi
 have:=h.at (i:=i) (by omega)
 rw [List.getElem_take,Nat.zero_add]
 exact this
theorem RowS.mono {B C:Nat}{w:World}{v:Value}{X:List (Se × Value)}(h:RowS C w v X) (hB:B≤C):RowS B w v X:=by
 obtain ⟨h1,h2⟩:=h
 refine ⟨h1,?_⟩
 rcases h2 with h2 | ⟨g,cap,cur,hv,hg,r⟩
 ·exact .inl h2
 ·exact .inr ⟨g,cap,cur,hv,Nat.le_trans hB hg,r⟩
theorem one_seC {X:List (Se × Value)}(h:∀ x∈X,x.2.oneCell'=true):∀ u∈X.flatMap seC,u.oneCell'=true:=by
 intro u hu
 obtain ⟨x,hx,hu⟩:=List.mem_flatMap.1 hu
 simp [seC] at hu
 rcases hu with rfl | rfl | rfl | rfl | rfl | rfl | rfl | rfl | rfl | rfl
 ·rfl
 ·rfl
 ·rfl
 ·rfl
 ·rfl
 ·rfl
 ·rfl
 ·rfl
 ·exact h x hx
 ·rfl
theorem info_session:(Tryz.prog.info? 71).map (fun i=>(i.zero,i.size,i.bytes))=some (some (.agg #[.int .i64 0,.int .i64 0,.string ⟨#[]⟩,.int .i64 0,.int .i64 0,.int .i64 0,.string ⟨#[]⟩,.int .u64 0,.slice none 0 0,.int .i64 0]),10,112):=by kernel_rfl
theorem wp_appS {w:World}{ops:Array Oper}{rest:List Oper}{o:Oper}{a:Act}{Q:Exit→Act→World→Prop}(hgd:o.guard=none) (s x:Operand)
 (hop:o.op=.call { callee:=.builtin .append,args:=#[s,x],argTypes:=#[64,64] })
 (B:Nat) (v:Value) (M:List (Se × Value)) (hs:a.eval s=v) (hO:RowS B w v M) (ad:Addr) (m c:Nat) (N:List (Se × Value)) (hx:a.eval x=.slice (some ad) m c) (hm:m=N.length) (hc:∀ (j:Nat) (u:Value),(N.flatMap seC)[j]?=some u→w.cell? (ad.add j)=some u) (h1:∀ x∈N,x.2.oneCell'=true)
 (hlen:M.length+N.length≤1000000000) (hB:B≤w.heap.size)
 (h:∀ v' w',RowS B w' v' (M++N)→w.grownBy w' v.ownBlock→wpList Tryz.prog ops Q rest (a.put o.dst v') w'):wpList Tryz.prog ops Q (o :: rest) a w:=by
 subst hm
 obtain ⟨i0,hi,hz0,hz1,hz2⟩:=info_parts info_session
 refine wpList_append_own w hgd s x 64 hop B 71 i0 _ 10 112 Tryz.underlying64 hi hz0 hz1 hz2 rfl (by decide) v M.length (M.flatMap seC) hs hO ad N.length c (N.flatMap seC) hx (seC_length N) hc (one_seC h1) (by unfold maxLen;omega) (by omega) hB ?_
 intro v' w' h2 h3 _
 refine h v' w' ?_ h3
 unfold RowS
 rw [List.length_append,List.flatMap_append]
 exact h2
theorem RowS.nil (B:Nat) (w:World):RowS B w (.slice none 0 0) []:=World.ownsRow_nil w B 71 10
theorem se_news {w:World}{g:Nat}{x:Se × Value}{vs:Array Value}(hv:vs=(seC x).toArray) (h:w.heap[g]?=some (.cells vs 71 (0,0))):∀ (j:Nat) (u:Value),([x].flatMap seC)[j]?=some u→w.cell? ((⟨g,0,none⟩:Addr).add j)=some u:=by
 intro j u hj
 subst hv
 rw [adr_addC,Nat.zero_add]
 refine cell_inC h ?_
 simpa using hj
theorem strClone_call (l:List UInt8) (w:World) (hl:l.length≤140737488355328) :
 Calls Tryz.prog 118 #[.string (str l)] w fun e w'=>e=.returned (.string (str l))∧Kept [] w w':=by
 have cC:=Tryz.stringslite_Clone (str l)
 have hl':(str l).size≤281474976710656:=by rw [str_size];omega
 go_enter Tryz.func118,Tryz.ntmps118
 go_wp2_with fail
 refine (cC _ hl').mono ?_
 rintro e w' ⟨rfl,hB⟩
 go_wp2
 go_ret
 exact ⟨rfl,Kept.of_below hB⟩
theorem copyChange_call (w:World) (x:Ch) (hx:okC x) :
 Calls Tryz.prog 168 #[chV x] w fun e w'=>e=.returned (chV x)∧Kept [] w w':=by
 obtain ⟨W1,hW1⟩:∃ W1,W1=(w.alloc (.cells #[.string (str x.p),.bool x.g,.int .u64 x.d] 116)).alloc (.cells #[.string ⟨#[]⟩,.bool false,.int .u64 0] 116):=⟨_,rfl⟩
 have hK0:Kept [] w W1:=by rw [hW1];exact ((Kept.refl _ _).alloc _).alloc _
 have hL:=lay2 w #[.string (str x.p),.bool x.g,.int .u64 x.d] #[.string ⟨#[]⟩,.bool false,.int .u64 0] 116
 rw [← hW1] at hL
 have HL:=hide hL
 have cC:=strClone_call x.p W1 (by unfold okC at hx;omega)
 unfold chV
 clear hx hL
 go_enter Tryz.func168,Tryz.ntmps168
 go_wp2_with fail
 rw [← hW1]
 clear hW1
 refine cC.mono ?_
 rintro _ w2 ⟨rfl,hK2⟩
 have hA:=hK2.at HL.out.1 (by simp)
 have hB:=hK2.at HL.out.2 (by simp)
 have a0:=cell_inC (k:=0) hA rfl
 have a1:=cell_inC (k:=1) hA rfl
 have a2:=cell_inC (k:=2) hA rfl
 have b0:=cell_inC (k:=0) hB rfl
 have b1:=cell_inC (k:=1) hB rfl
 have b2:=cell_inC (k:=2) hB rfl
 have fa:=froz3 hA
 have fb:=froz3 hB
 go_wp2_with fail
 refine bodyPost_ret (ch_res (by rfl) _ (by rfl) (setA3_at (((Kept.refl [w.heap.size] w2).setCell (by simp) _).at hB (by simp)) rfl _ _ _) rfl) rfl ?_
 exact ⟨rfl,(hK0.trans hK2 (by simp)).trans (setA3_kept ((Kept.refl [w.heap.size,w.heap.size+1] w2).setCell (by simp) _) (by simp) _ _ _) (fun k hk=>.inr (by simp at hk;omega))⟩
def CaI (w:World) (L:List Ch) (ov iv:Value) (wr:World):Prop :=
 ∃ j:Nat,iv=.int .i64 (j:Int)∧j≤L.length∧Hid (OwnC w.heap.size wr ov (L.take j))∧Hid (Kept [] w wr)
set_option maxRecDepth 100000 in
theorem copyChanges_call (w:World) (ao:Option Addr) (n c:Nat) (L:List Ch) (hS:SlC w ao n c L) (hn:n≤4398046510976) (hok:∀ x∈L,okC x) :
 Calls Tryz.prog 167 #[.slice ao n c,.func (.func 168) #[] #[]] w fun e w'=>∃ v,e=.returned v∧OwnC w.heap.size w' v L∧Kept [] w w':=by
 have hl:=hS.1
 have hc:=hS.2.1
 have hm:=hS.2.2.1
 unfold maxLen at hm
 have HS:=hide hS
 have HL:=hide hl
 have HOk:=hide hok
 clear hS hl hok
 go_enter Tryz.func167,Tryz.ntmps167
 go_wp2_with fail
 go_loopw [5,10] (fun ov iv wr=>CaI w L ov iv wr) (fun _ iv _=>n - (intOf iv).toNat)
 case atStart=>exact ⟨0,rfl,Nat.zero_le _,OwnC.nil _ _,Kept.refl _ _⟩
 case round =>
  obtain ⟨j,rfl,hj,HO,HK⟩:=hrel
  by_cases hlt:j < n
  ·have hlt':(j:Int) < n:=by omega
   have hjc:j≤c:=by omega
   have hjL:j < L.length:=by rw [HL.out];exact hlt
   obtain ⟨g,o,rfl,hx⟩:=(HS.out.kept HK.out (by simp)).2.2.2 j hjL
   obtain ⟨x0,x1,x2⟩:=hx
   have hxo:=HOk.out _ (List.getElem_mem hjL)
   have HN:Hid (L.take (j+1)=L.take j++[L[j]]):=List.take_succ_eq_append_getElem hjL
   have HT:Hid ((L.take j).length=j):=by show _=_;simp;omega
   have cC:=fun W=>copyChange_call W L[j] hxo
   obtain ⟨x,hxe⟩:∃ x,x=L[j]:=⟨_,rfl⟩
   rw [← hxe] at x0 x1 x2 cC HN
   unfold chV at cC
   clear hxe hxo hjL
   go_wp2_with fail
   refine (cC _).mono ?_
   rintro _ w5 ⟨rfl,hK5⟩
   replace hK5:=((Kept.refl [] wr).alloc _).trans hK5 (by simp)
   have hO5:OwnC w.heap.size w5 u5 (L.take j):=hK5.ownsRow HO.out (by simp)
   have hsz:w.heap.size≤w5.heap.size:=Nat.le_trans HK.out.size hK5.size
   have HB:=(SlC.lit w5 [x] (n:=1) rfl (by simp [maxLen]) (vs:=#[.string (str x.p),.bool x.g,.int .u64 x.d]) rfl).runs'
   have hOa:OwnC w.heap.size (w5.alloc (.cells #[.string (str x.p),.bool x.g,.int .u64 x.d] 116)) u5 (L.take j):=World.ownsRow.alloc hO5 _
   clear cC x0 x1 x2
   go_wp2_with (at_builtin;refine wp_appC rfl _ _ rfl w.heap.size _ (L.take j) rfl hOa ⟨w5.heap.size,0,none⟩ 1 1 [x] rfl rfl HB (by rw [HT.out];simp;omega) (by simp;omega) ?b1)
   case b1 =>
    intro v6 w6 hO6 hg6
    have HK6:Hid (Kept [] w w6):=grown_keptC ((HK.out.trans hK5 (by simp)).alloc _) hOa (Nat.le_refl _) hg6
    have HO6:Hid (OwnC w.heap.size w6 v6 (L.take (j+1))):=by show OwnC _ _ _ _;rw [HN.out];exact hO6
    clear hO6 hg6 hOa hO5 HB hK5
    go_wp2_with fail
    go_roundw
    case rel=>exact ⟨j+1,by go_num,by rw [HL.out];omega,HO6,HK6⟩
    case measure=>simp [intOf];omega
  ·have hlt':¬ (j:Int) < n:=by omega
   have HE:Hid (OwnC w.heap.size wr u5 L):=by have h:=HO.out;rw [List.take_of_length_le (by rw [HL.out];omega)] at h;exact h
   go_wp2_with fail
   go_ret
   exact ⟨_,rfl,HE.out,HK.out⟩
set_option maxRecDepth 100000 in
theorem copyCommit_call (w:World) (x:Com) (mo:Option Addr) (m mc:Nat) (hS:SlC w mo m mc x.c) (hx:okK x) :
 Calls Tryz.prog 152 #[.agg #[.int .i64 x.r,.int .i64 x.b,.string (str x.n),.slice mo m mc]] w fun e w'=>∃ v',e=.returned (.agg #[.int .i64 x.r,.int .i64 x.b,.string (str x.n),v'])∧OwnC w.heap.size w' v' x.c∧Kept [] w w':=by
 obtain ⟨W1,hW1⟩:∃ W1,W1=(w.alloc (.cells #[.int .i64 x.r,.int .i64 x.b,.string (str x.n),.slice mo m mc] 76)).alloc (.cells #[.int .i64 0,.int .i64 0,.string ⟨#[]⟩,.slice none 0 0] 76):=⟨_,rfl⟩
 have hK0:Kept [] w W1:=by rw [hW1];exact ((Kept.refl _ _).alloc _).alloc _
 have hL:=lay2 w #[.int .i64 x.r,.int .i64 x.b,.string (str x.n),.slice mo m mc] #[.int .i64 0,.int .i64 0,.string ⟨#[]⟩,.slice none 0 0] 76
 rw [← hW1] at hL
 have HL:=hide hL
 have HK0:=hide hK0
 have cC:=strClone_call x.n W1 (by have:=hx.1;omega)
 have cD:=fun W (hk:Kept [] w W)=>copyChanges_call W mo m mc x.c (hS.kept hk (by simp)) (by rw [← hS.1];exact hx.2.1) hx.2.2
 clear hx hL hK0 hS
 go_enter Tryz.func152,Tryz.ntmps152
 go_wp2_with fail
 rw [← hW1]
 clear hW1
 refine cC.mono ?_
 rintro _ w2 ⟨rfl,hK2⟩
 have HA:Hid (w2.heap[w.heap.size]?=some (.cells #[.int .i64 x.r,.int .i64 x.b,.string (str x.n),.slice mo m mc] 76 (0,0))):=hK2.at HL.out.1 (by simp)
 have HB:Hid (w2.heap[w.heap.size+1]?=some (.cells #[.int .i64 0,.int .i64 0,.string ⟨#[]⟩,.slice none 0 0] 76 (0,0))):=hK2.at HL.out.2 (by simp)
 obtain ⟨w3,hw3⟩:∃ w3,w3=w2.setCell ⟨w.heap.size,2,none⟩ (.string (str x.n)):=⟨_,rfl⟩
 have HA3:Hid (w3.heap[w.heap.size]?=some (.cells #[.int .i64 x.r,.int .i64 x.b,.string (str x.n),.slice mo m mc] 76 (0,0))):=by show _=_;rw [hw3];exact heap_setCell_same _ _ 2 _ _ _ HA.out
 have HB3:Hid (w3.heap[w.heap.size+1]?=some (.cells #[.int .i64 0,.int .i64 0,.string ⟨#[]⟩,.slice none 0 0] 76 (0,0))):=by show _=_;rw [hw3];exact ((Kept.refl [w.heap.size] w2).setCell (by simp) _).at HB.out (by simp)
 have hK3:Kept [] w w3:=by
  rw [hw3]
  exact (HK0.out.trans hK2 (by simp)).setCell (.inr (Nat.le_refl _)) _
 have HK3:=hide hK3
 have a2:=cell_inC (k:=2) HA.out rfl
 have f2:=froz3 HA.out 2
 have a3:w3.cell? ⟨w.heap.size,3,none⟩=some (.slice mo m mc):=cell_inC HA3.out rfl
 rw [hw3] at a3
 clear hK2 hK3
 go_wp2_with fail
 rw [← hw3]
 clear hw3
 refine (cD _ HK3.out).mono ?_
 rintro _ w4 ⟨v',rfl,hO,hK4⟩
 obtain ⟨a',n',c',rfl,_,_⟩:=hO.chV
 have hA4:=hK4.at HA3.out (by simp)
 have hB4:=hK4.at HB3.out (by simp)
 have q0:=cell_inC (k:=0) hA4 rfl
 have q1:=cell_inC (k:=1) hA4 rfl
 have q2:=cell_inC (k:=2) hA4 rfl
 have q3:=cell_inC (k:=3) hA4 rfl
 have r0:=cell_inC (k:=0) hB4 rfl
 have r1:=cell_inC (k:=1) hB4 rfl
 have r2:=cell_inC (k:=2) hB4 rfl
 have r3:=cell_inC (k:=3) hB4 rfl
 have fa:=froz3 hA4
 have fb:=froz3 hB4
 have HB4:=hide hB4
 have HA4:=hide hA4
 have HO:=hide hO
 have HK4:=hide hK4
 clear hO hK4 hA4 hB4 a2 a3 f2 cC cD
 go_wp2_with fail
 have HKe:Hid (Kept [w.heap.size,w.heap.size+1] w4 (setA4 (w4.setCell ⟨w.heap.size,3,none⟩ (.slice a' n' c')) (w.heap.size+1) (.int .i64 x.r) (.int .i64 x.b) (.string (str x.n)) (.slice a' n' c'))):=setA4_kept ((Kept.refl _ w4).setCell (by simp) _) (by simp) _ _ _ _
 refine bodyPost_ret (com_res (by rfl) _ (by rfl) (setA4_at (((Kept.refl [w.heap.size] w4).setCell (by simp) _).at HB4.out (by simp)) rfl _ _ _ _) rfl) rfl ?_
 exact ⟨_,rfl,row_typed HKe.out (typed2 HA4.out HB4.out) (HO.out.mono HK3.out.size) (by decide),(HK3.out.trans HK4.out (by simp)).trans HKe.out (fun k hk=>.inr (by simp at hk;omega))⟩
theorem fst_get {α β:Type}{K:List (α × β)}{cs:List α}(h:K.map Prod.fst=cs) {j:Nat}(h1:j < K.length) (h2:j < cs.length):K[j].1=cs[j]:=by subst h;simp
def CopK (w:World) (cs:List Com) (e:Ending) (w':World):Prop:=∃ v,e=.returned v∧KoO w.heap.size w' v cs∧Kept [] w w'
def CkI (w:World) (cs:List Com) (ov iv:Value) (wr:World):Prop :=
 ∃ (j:Nat) (K':List (Com × Value)),iv=.int .i64 (j:Int)∧j≤cs.length∧Hid (K'.map Prod.fst=cs.take j)∧Hid (RowK w.heap.size wr ov K')∧Hid (OwnK w.heap.size wr K')∧Hid (Kept [] w wr)
theorem row_other2 {w w':World}{B e size n B2 e2 size2 n2:Nat}{v v2:Value}{xs xs2:List Value}(h:w.ownsRow B e size v n xs) (hg:w.grownBy w' v.ownBlock) (h2:w.ownsRow B2 e2 size2 v2 n2 xs2) (hne:e2≠e):w'.ownsRow B2 e2 size2 v2 n2 xs2:=by
 have hK:Kept v.ownBlock.toList w w':=(Kept.refl _ w).grown hg fun k hk=>.inl (mem_own.2 hk)
 refine row_typed hK (Ts:=[e]) (fun k hk cur t mk hh=>?_) h2 (by simpa using hne)
 obtain ⟨c2,h3⟩:=row_block h (mem_own.1 hk)
 rw [h3] at hh;cases hh;simp
theorem ck_next {w wr w5 w6:World}{cs:List Com}{j:Nat}{K':List (Com × Value)}{ov v5 v6:Value}{x:Com}(hx:cs[j]?=some x) (hM:K'.map Prod.fst=cs.take j) (hR:RowK w.heap.size wr ov K') (hO:OwnK w.heap.size wr K') (hK:Kept [] w wr)
 (hK5:Kept [] wr w5) (hO5:OwnC wr.heap.size w5 v5 x.c) (h1:RowK w.heap.size w6 v6 (K'++[(x,v5)])) (h2:(w5.alloc (.cells #[.int .i64 x.r,.int .i64 x.b,.string (str x.n),v5] 76)).grownBy w6 ov.ownBlock) :
 CkI w cs v6 (.int .i64 ((j+1:Nat):Int)) w6:=by
 obtain ⟨hj,hx⟩:=List.getElem?_eq_some_iff.1 hx
 have hRa:RowK w.heap.size (w5.alloc (.cells #[.int .i64 x.r,.int .i64 x.b,.string (str x.n),v5] 76)) ov K':=World.ownsRow.alloc (hK5.ownsRow hR (by simp)) _
 have hKa:=(Kept.refl [] w5).alloc (.cells #[.int .i64 x.r,.int .i64 x.b,.string (str x.n),v5] 76)
 refine ⟨j+1,_,rfl,hj,?_,h1,?_,?_⟩
 ·show _=_
  rw [List.map_append,hM,List.take_succ_eq_append_getElem hj,hx];rfl
 ·intro y hy
  rcases List.mem_append.1 hy with hy | hy
  ·exact row_other2 hRa h2 (hKa.ownsRow (hK5.ownsRow (hO y hy) (by simp)) (by simp)) (by decide)
  ·simp at hy;subst hy
   exact row_other2 hRa h2 (hKa.ownsRow (hO5.mono hK.size) (by simp)) (by decide)
 ·exact (((hK.trans hK5 (by simp)).trans hKa (by simp))).grown h2 fun k hk=>.inr (World.ownsRow.lt hRa k hk).1
theorem co_news {w:World}{g:Nat}{x:Com × Value}{vs:Array Value}(hv:vs=(coC x).toArray) (h:w.heap[g]?=some (.cells vs 76 (0,0))):∀ (j:Nat) (u:Value),([x].flatMap coC)[j]?=some u→w.cell? ((⟨g,0,none⟩:Addr).add j)=some u:=by
 intro j u hj
 subst hv
 rw [adr_addC,Nat.zero_add]
 refine cell_inC h ?_
 simpa using hj
set_option maxRecDepth 100000 in
theorem copyCommits_call (w:World) (ao:Option Addr) (n c:Nat) (K:List (Com × Value)) (cs:List Com) (hS:SlK w ao n c K) (hcom:K.map Prod.fst=cs) (hn:n≤2513169434843) (hok:∀ x∈cs,okK x) :
 Calls Tryz.prog 151 #[.slice ao n c,.func (.func 152) #[] #[]] w fun e w'=>CopK w cs e w':=by
 have hl:=hS.1
 have hc:=hS.2.1
 have hm:=hS.2.2.1
 unfold maxLen at hm
 have HS:=hide hS
 have HL:=hide hl
 have HCom:=hide hcom
 have HOk:=hide hok
 have HCl:Hid (cs.length=n):=by show _=_;rw [← hcom];simpa using hl
 clear hS hl hok hcom
 go_enter Tryz.func151,Tryz.ntmps151
 go_wp2_with fail
 go_loopw [5,10] (fun ov iv wr=>CkI w cs ov iv wr) (fun _ iv _=>n - (intOf iv).toNat)
 case atStart=>exact ⟨0,[],rfl,Nat.zero_le _,rfl,RowK.nil _ _,fun x hx=>(by cases hx),Kept.refl _ _⟩
 case round =>
  obtain ⟨j,K',rfl,hj,HM,HR,HO,HK⟩:=hrel
  by_cases hlt:j < n
  ·have hlt':(j:Int) < n:=by omega
   have hjc:j≤c:=by omega
   have hjK:j < K.length:=by rw [HL.out];exact hlt
   have hjg:j < cs.length:=by rw [HCl.out];exact hlt
   have hCk:=fst_get HCom.out hjK hjg
   obtain ⟨g4,o4,he4,hx4⟩:=(HS.out.kept HK.out).2.2.2.1 j hjK
   obtain ⟨mo,mm,mc,hm2,hsl,_⟩:=(HS.out.kept HK.out).2.2.2.2 _ (List.getElem_mem hjK)
   subst he4
   obtain ⟨h40,h41,h42,h43⟩:=hx4
   rw [hm2] at h43
   rw [hCk] at h40 h41 h42 hsl
   have hwc:=HOk.out cs[j] (List.getElem_mem hjg)
   have cK:=fun W (hk:Kept [] wr W)=>copyCommit_call W cs[j] mo mm mc (hsl.kept hk (by simp)) hwc
   obtain ⟨x,hxe⟩:∃ x,x=cs[j]:=⟨_,rfl⟩
   have HX:Hid (cs[j]?=some x):=by show _=_;rw [hxe];simp
   rw [← hxe] at h40 h41 h42 cK
   have hlenK:K'.length≤2513169434842:=by have h:=congrArg List.length HM.out;simp at h;omega
   clear hwc hsl hxe hCk hjg hjK hm2
   go_wp2_with fail
   refine (cK _ ((Kept.refl [] wr).alloc _)).mono ?_
   rintro _ w5 ⟨v5,rfl,hO5,hK5⟩
   replace hO5:=hO5.mono ((Kept.refl [] wr).alloc _).size
   replace hK5:=((Kept.refl [] wr).alloc _).trans hK5 (by simp)
   obtain ⟨a5,n5,c5,rfl,_,_⟩:=hO5.chV
   have hRa:RowK w.heap.size (w5.alloc (.cells #[.int .i64 x.r,.int .i64 x.b,.string (str x.n),.slice a5 n5 c5] 76)) u5 K':=World.ownsRow.alloc (hK5.ownsRow HR.out (by simp)) _
   have hsz5:w.heap.size≤w5.heap.size:=Nat.le_trans HK.out.size hK5.size
   have HB:=co_news (x:=(x,.slice a5 n5 c5)) rfl (heap_alloc_new w5 (.cells #[.int .i64 x.r,.int .i64 x.b,.string (str x.n),.slice a5 n5 c5] 76))
   have HF:Hid (∀ v6 w6,RowK w.heap.size w6 v6 (K'++[(x,.slice a5 n5 c5)])→(w5.alloc (.cells #[.int .i64 x.r,.int .i64 x.b,.string (str x.n),.slice a5 n5 c5] 76)).grownBy w6 u5.ownBlock→CkI w cs v6 (.int .i64 ((j+1:Nat):Int)) w6):=fun v6 w6 h1 h2=>ck_next HX.out HM.out HR.out HO.out HK.out hK5 hO5 h1 h2
   clear hO5 hK5 cK h40 h41 h42 h43
   go_wp2_with (at_builtin;refine wp_appK rfl _ _ rfl w.heap.size _ K' rfl hRa ⟨w5.heap.size,0,none⟩ 1 1 [(x,.slice a5 n5 c5)] rfl rfl HB (by intro y hy;simp at hy;subst hy;rfl) (by simp;omega) (by simp;omega) ?b1)
   case b1 =>
    intro v6 w6 hO6 hg6
    have HF2:=hide (HF.out v6 w6 hO6 hg6)
    clear hO6 hg6 hRa HB
    go_wp2_with fail
    go_roundw
    case rel=>exact HF2.out
    case measure=>(simp [intOf] <;> omega)
  ·have hlt':¬ (j:Int) < n:=by omega
   have HE:Hid (K'.map Prod.fst=cs):=by have h:=HM.out;rw [List.take_of_length_le (by rw [HCl.out];omega)] at h;exact h
   go_wp2_with fail
   go_ret
   exact ⟨_,rfl,⟨K',HR.out,HO.out,HE.out⟩,HK.out⟩
set_option maxRecDepth 100000 in
theorem copyVerdict_call (w:World) (v:Vt) (u:Value) (hu:KoV w u v.k) (hv:okV v) :
 Calls Tryz.prog 119 #[vtV v u] w fun e w'=>∃ u',e=.returned (vtV v u')∧KoO w.heap.size w' u' v.k∧Kept [] w w':=by
 obtain ⟨ao,n,c,K,rfl,hS,hcom,_⟩:=hu
 have hnl:n≤2513169434843:=by have h1:=hv.2.1;rw [← hcom] at h1;have h2:=hS.1;simp at h1;omega
 obtain ⟨W1,hW1⟩:∃ W1,W1=(w.alloc (.cells #[.int .i64 v.c,.int .i64 v.s,.int .i64 v.r,.string (str v.p),.int .u64 v.d,.slice ao n c,.int .i64 v.m] 69)).alloc (.cells #[.int .i64 0,.int .i64 0,.int .i64 0,.string ⟨#[]⟩,.int .u64 0,.slice none 0 0,.int .i64 0] 69):=⟨_,rfl⟩
 have hK0:Kept [] w W1:=by rw [hW1];exact ((Kept.refl _ _).alloc _).alloc _
 have hL:=lay2 w #[.int .i64 v.c,.int .i64 v.s,.int .i64 v.r,.string (str v.p),.int .u64 v.d,.slice ao n c,.int .i64 v.m] #[.int .i64 0,.int .i64 0,.int .i64 0,.string ⟨#[]⟩,.int .u64 0,.slice none 0 0,.int .i64 0] 69
 rw [← hW1] at hL
 have HL:=hide hL
 have HK0:=hide hK0
 have cC:=strClone_call v.p W1 (by have:=hv.1;omega)
 have cD:=fun W (hk:Kept [] w W)=>copyCommits_call W ao n c K v.k (hS.kept hk) hcom hnl hv.2.2
 unfold vtV
 clear hv hL hK0 hS hcom hnl
 go_enter Tryz.func119,Tryz.ntmps119
 go_wp2_with fail
 rw [← hW1]
 clear hW1
 refine cC.mono ?_
 rintro _ w2 ⟨rfl,hK2⟩
 have HA:Hid (w2.heap[w.heap.size]?=some (.cells #[.int .i64 v.c,.int .i64 v.s,.int .i64 v.r,.string (str v.p),.int .u64 v.d,.slice ao n c,.int .i64 v.m] 69 (0,0))):=hK2.at HL.out.1 (by simp)
 have HB:Hid (w2.heap[w.heap.size+1]?=some (.cells #[.int .i64 0,.int .i64 0,.int .i64 0,.string ⟨#[]⟩,.int .u64 0,.slice none 0 0,.int .i64 0] 69 (0,0))):=hK2.at HL.out.2 (by simp)
 obtain ⟨w3,hw3⟩:∃ w3,w3=w2.setCell ⟨w.heap.size,3,none⟩ (.string (str v.p)):=⟨_,rfl⟩
 have HA3:Hid (w3.heap[w.heap.size]?=some (.cells #[.int .i64 v.c,.int .i64 v.s,.int .i64 v.r,.string (str v.p),.int .u64 v.d,.slice ao n c,.int .i64 v.m] 69 (0,0))):=by show _=_;rw [hw3];exact heap_setCell_same _ _ 3 _ _ _ HA.out
 have HB3:Hid (w3.heap[w.heap.size+1]?=some (.cells #[.int .i64 0,.int .i64 0,.int .i64 0,.string ⟨#[]⟩,.int .u64 0,.slice none 0 0,.int .i64 0] 69 (0,0))):=by show _=_;rw [hw3];exact ((Kept.refl [w.heap.size] w2).setCell (by simp) _).at HB.out (by simp)
 have HK3:Hid (Kept [] w w3):=by
  show Kept _ _ _
  rw [hw3]
  exact (HK0.out.trans hK2 (by simp)).setCell (.inr (Nat.le_refl _)) _
 have a3:=cell_inC (k:=3) HA.out rfl
 have f3:=froz3 HA.out 3
 have a5:w3.cell? ⟨w.heap.size,5,none⟩=some (.slice ao n c):=cell_inC HA3.out rfl
 rw [hw3] at a5
 clear hK2
 go_wp2_with fail
 rw [← hw3]
 clear hw3
 refine (cD _ HK3.out).mono ?_
 rintro _ w4 ⟨v',rfl,hO,hK4⟩
 obtain ⟨a',n',c',rfl⟩:=hO.ko.one
 have hA4:=hK4.at HA3.out (by simp)
 have hB4:=hK4.at HB3.out (by simp)
 have q0:=cell_inC (k:=0) hA4 rfl
 have q1:=cell_inC (k:=1) hA4 rfl
 have q2:=cell_inC (k:=2) hA4 rfl
 have q3:=cell_inC (k:=3) hA4 rfl
 have q4:=cell_inC (k:=4) hA4 rfl
 have q5:=cell_inC (k:=5) hA4 rfl
 have q6:=cell_inC (k:=6) hA4 rfl
 have r0:=cell_inC (k:=0) hB4 rfl
 have r1:=cell_inC (k:=1) hB4 rfl
 have r2:=cell_inC (k:=2) hB4 rfl
 have r3:=cell_inC (k:=3) hB4 rfl
 have r4:=cell_inC (k:=4) hB4 rfl
 have r5:=cell_inC (k:=5) hB4 rfl
 have r6:=cell_inC (k:=6) hB4 rfl
 have fa5:=froz3 hA4 5
 have fb0:=froz3 hB4 0
 have fb1:=froz3 hB4 1
 have fb2:=froz3 hB4 2
 have fb3:=froz3 hB4 3
 have fb4:=froz3 hB4 4
 have fb5:=froz3 hB4 5
 have fb6:=froz3 hB4 6
 have HB4:=hide hB4
 have HA4:=hide hA4
 have HO:=hide hO
 have HK4:=hide hK4
 clear hO hK4 hA4 hB4 a3 a5 f3 cC cD
 go_wp2_with fail
 have HKe:Hid (Kept [w.heap.size,w.heap.size+1] w4 (setA7 (w4.setCell ⟨w.heap.size,5,none⟩ (.slice a' n' c')) (w.heap.size+1) (.int .i64 v.c) (.int .i64 v.s) (.int .i64 v.r) (.string (str v.p)) (.int .u64 v.d) (.slice a' n' c') (.int .i64 v.m))):=setA7_kept ((Kept.refl _ w4).setCell (by simp) _) (by simp) _ _ _ _ _ _ _
 refine bodyPost_ret (vt_res (by rfl) _ (by rfl) (setA7_at (((Kept.refl [w.heap.size] w4).setCell (by simp) _).at HB4.out (by simp)) rfl _ _ _ _ _ _ _) rfl) rfl ?_
 exact ⟨_,rfl,(HO.out.mono HK3.out.size).keep HKe.out (typed2 HA4.out HB4.out) (by decide) (by decide),(HK3.out.trans HK4.out (by simp)).trans HKe.out (fun k hk=>.inr (by simp at hk;omega))⟩
set_option maxRecDepth 100000 in
theorem copySession_call (w:World) (x:Se) (u:Value) (hu:KoV w u x.v.k) (hx:okS x) :
 Calls Tryz.prog 85 #[seV x u] w fun e w'=>∃ u',e=.returned (seV x u')∧KoO w.heap.size w' u' x.v.k∧Kept [] w w':=by
 obtain ⟨ao,n,c,rfl⟩:=hu.one
 obtain ⟨W1,hW1⟩:∃ W1,W1=(w.alloc (.cells #[.int .i64 x.i,.int .i64 x.q,.string (str x.n),.int .i64 x.v.c,.int .i64 x.v.s,.int .i64 x.v.r,.string (str x.v.p),.int .u64 x.v.d,.slice ao n c,.int .i64 x.v.m] 71)).alloc (.cells #[.int .i64 0,.int .i64 0,.string ⟨#[]⟩,.int .i64 0,.int .i64 0,.int .i64 0,.string ⟨#[]⟩,.int .u64 0,.slice none 0 0,.int .i64 0] 71):=⟨_,rfl⟩
 have hK0:Kept [] w W1:=by rw [hW1];exact ((Kept.refl _ _).alloc _).alloc _
 have hL:=lay2 w #[.int .i64 x.i,.int .i64 x.q,.string (str x.n),.int .i64 x.v.c,.int .i64 x.v.s,.int .i64 x.v.r,.string (str x.v.p),.int .u64 x.v.d,.slice ao n c,.int .i64 x.v.m] #[.int .i64 0,.int .i64 0,.string ⟨#[]⟩,.int .i64 0,.int .i64 0,.int .i64 0,.string ⟨#[]⟩,.int .u64 0,.slice none 0 0,.int .i64 0] 71
 rw [← hW1] at hL
 have HL:=hide hL
 have HK0:=hide hK0
 have cC:=strClone_call x.n W1 (by have:=hx.1;omega)
 have cD:=fun W (hk:Kept [] w W)=>copyVerdict_call W x.v (.slice ao n c) (hu.kept hk) hx.2
 unfold vtV at cD
 unfold seV
 clear hx hL hK0 hu
 go_enter Tryz.func85,Tryz.ntmps85
 go_wp2_with fail
 rw [← hW1]
 clear hW1
 refine cC.mono ?_
 rintro _ w2 ⟨rfl,hK2⟩
 have HA:Hid (w2.heap[w.heap.size]?=some (.cells #[.int .i64 x.i,.int .i64 x.q,.string (str x.n),.int .i64 x.v.c,.int .i64 x.v.s,.int .i64 x.v.r,.string (str x.v.p),.int .u64 x.v.d,.slice ao n c,.int .i64 x.v.m] 71 (0,0))):=hK2.at HL.out.1 (by simp)
 have HB:Hid (w2.heap[w.heap.size+1]?=some (.cells #[.int .i64 0,.int .i64 0,.string ⟨#[]⟩,.int .i64 0,.int .i64 0,.int .i64 0,.string ⟨#[]⟩,.int .u64 0,.slice none 0 0,.int .i64 0] 71 (0,0))):=hK2.at HL.out.2 (by simp)
 obtain ⟨w3,hw3⟩:∃ w3,w3=w2.setCell ⟨w.heap.size,2,none⟩ (.string (str x.n)):=⟨_,rfl⟩
 have HA3:Hid (w3.heap[w.heap.size]?=some (.cells #[.int .i64 x.i,.int .i64 x.q,.string (str x.n),.int .i64 x.v.c,.int .i64 x.v.s,.int .i64 x.v.r,.string (str x.v.p),.int .u64 x.v.d,.slice ao n c,.int .i64 x.v.m] 71 (0,0))):=by show _=_;rw [hw3];exact heap_setCell_same _ _ 2 _ _ _ HA.out
 have HB3:Hid (w3.heap[w.heap.size+1]?=some (.cells #[.int .i64 0,.int .i64 0,.string ⟨#[]⟩,.int .i64 0,.int .i64 0,.int .i64 0,.string ⟨#[]⟩,.int .u64 0,.slice none 0 0,.int .i64 0] 71 (0,0))):=by show _=_;rw [hw3];exact ((Kept.refl [w.heap.size] w2).setCell (by simp) _).at HB.out (by simp)
 have HK3:Hid (Kept [] w w3):=by
  show Kept _ _ _
  rw [hw3]
  exact (HK0.out.trans hK2 (by simp)).setCell (.inr (Nat.le_refl _)) _
 have a2:=cell_inC (k:=2) HA.out rfl
 have f2:=froz3 HA.out 2
 have p3:w3.cell? ⟨w.heap.size,3,none⟩=some (.int .i64 x.v.c):=cell_inC HA3.out rfl
 have p4:w3.cell? ⟨w.heap.size,4,none⟩=some (.int .i64 x.v.s):=cell_inC HA3.out rfl
 have p5:w3.cell? ⟨w.heap.size,5,none⟩=some (.int .i64 x.v.r):=cell_inC HA3.out rfl
 have p6:w3.cell? ⟨w.heap.size,6,none⟩=some (.string (str x.v.p)):=cell_inC HA3.out rfl
 have p7:w3.cell? ⟨w.heap.size,7,none⟩=some (.int .u64 x.v.d):=cell_inC HA3.out rfl
 have p8:w3.cell? ⟨w.heap.size,8,none⟩=some (.slice ao n c):=cell_inC HA3.out rfl
 have p9:w3.cell? ⟨w.heap.size,9,none⟩=some (.int .i64 x.v.m):=cell_inC HA3.out rfl
 rw [hw3] at p3 p4 p5 p6 p7 p8 p9
 clear hK2
 go_wp2_with fail
 rw [← hw3]
 clear hw3
 refine (cD _ HK3.out).mono ?_
 rintro _ w4 ⟨v',rfl,hO,hK4⟩
 obtain ⟨a',n',c',rfl⟩:=hO.ko.one
 have hA4:=hK4.at HA3.out (by simp)
 have hB4:=hK4.at HB3.out (by simp)
 have q3:=cell_inC (k:=3) hA4 rfl
 have q4:=cell_inC (k:=4) hA4 rfl
 have q5:=cell_inC (k:=5) hA4 rfl
 have q6:=cell_inC (k:=6) hA4 rfl
 have q7:=cell_inC (k:=7) hA4 rfl
 have q8:=cell_inC (k:=8) hA4 rfl
 have q9:=cell_inC (k:=9) hA4 rfl
 have fa3:=froz3 hA4 3
 have fa4:=froz3 hA4 4
 have fa5:=froz3 hA4 5
 have fa6:=froz3 hA4 6
 have fa7:=froz3 hA4 7
 have fa8:=froz3 hA4 8
 have fa9:=froz3 hA4 9
 have HB4:=hide hB4
 have HA4:=hide hA4
 have HO:=hide hO
 have HK4:=hide hK4
 clear hO hK4 hA4 hB4 a2 f2 p3 p4 p5 p6 p7 p8 p9 cC cD
 go_upto_region 3 with fail
 obtain ⟨w5,hw5⟩:∃ w5,w5=((((((w4.setCell ⟨w.heap.size,3,none⟩ (.int .i64 x.v.c)).setCell ⟨w.heap.size,4,none⟩ (.int .i64 x.v.s)).setCell ⟨w.heap.size,5,none⟩ (.int .i64 x.v.r)).setCell ⟨w.heap.size,6,none⟩ (.string (str x.v.p))).setCell ⟨w.heap.size,7,none⟩ (.int .u64 x.v.d)).setCell ⟨w.heap.size,8,none⟩ (.slice a' n' c')).setCell ⟨w.heap.size,9,none⟩ (.int .i64 x.v.m):=⟨_,rfl⟩
 rw [← hw5]
 have hA5:w5.heap[w.heap.size]?=some (.cells #[.int .i64 x.i,.int .i64 x.q,.string (str x.n),.int .i64 x.v.c,.int .i64 x.v.s,.int .i64 x.v.r,.string (str x.v.p),.int .u64 x.v.d,.slice a' n' c',.int .i64 x.v.m] 71 (0,0)):=by rw [hw5];exact setB7_at HA4.out _ _ _ _ _ _ _
 have hK5:Kept [w.heap.size] w4 w5:=by rw [hw5];exact setB7_kept (Kept.refl _ w4) (by simp) _ _ _ _ _ _ _
 have hB5:=hK5.at HB4.out (by simp)
 clear q3 fa3
 clear q4 fa4
 clear q5 fa5
 clear q6 fa6
 clear q7 fa7
 clear q8 fa8
 clear q9 fa9
 have q0:=cell_inC (k:=0) hA5 rfl
 have q1:=cell_inC (k:=1) hA5 rfl
 have q2:=cell_inC (k:=2) hA5 rfl
 have q3:=cell_inC (k:=3) hA5 rfl
 have q4:=cell_inC (k:=4) hA5 rfl
 have q5:=cell_inC (k:=5) hA5 rfl
 have q6:=cell_inC (k:=6) hA5 rfl
 have q7:=cell_inC (k:=7) hA5 rfl
 have q8:=cell_inC (k:=8) hA5 rfl
 have q9:=cell_inC (k:=9) hA5 rfl
 have r0:=cell_inC (k:=0) hB5 rfl
 have r1:=cell_inC (k:=1) hB5 rfl
 have r2:=cell_inC (k:=2) hB5 rfl
 have r3:=cell_inC (k:=3) hB5 rfl
 have r4:=cell_inC (k:=4) hB5 rfl
 have r5:=cell_inC (k:=5) hB5 rfl
 have r6:=cell_inC (k:=6) hB5 rfl
 have r7:=cell_inC (k:=7) hB5 rfl
 have r8:=cell_inC (k:=8) hB5 rfl
 have r9:=cell_inC (k:=9) hB5 rfl
 have fb0:=froz3 hB5 0
 have fb1:=froz3 hB5 1
 have fb2:=froz3 hB5 2
 have fb3:=froz3 hB5 3
 have fb4:=froz3 hB5 4
 have fb5:=froz3 hB5 5
 have fb6:=froz3 hB5 6
 have fb7:=froz3 hB5 7
 have fb8:=froz3 hB5 8
 have fb9:=froz3 hB5 9
 have HA5:=hide hA5
 have HB5:=hide hB5
 have HK5:=hide hK5
 clear hw5 hA5 hB5 hK5
 go_wp2_with fail
 have HKe:Hid (Kept [w.heap.size,w.heap.size+1] w4 (setA10 w5 (w.heap.size+1) (.int .i64 x.i) (.int .i64 x.q) (.string (str x.n)) (.int .i64 x.v.c) (.int .i64 x.v.s) (.int .i64 x.v.r) (.string (str x.v.p)) (.int .u64 x.v.d) (.slice a' n' c') (.int .i64 x.v.m))):=setA10_kept (HK5.out.mono (by simp)) (by simp) _ _ _ _ _ _ _ _ _ _
 refine bodyPost_ret (se_res (by rfl) _ (by rfl) (setA10_at HB5.out rfl _ _ _ _ _ _ _ _ _ _) rfl) rfl ?_
 exact ⟨_,rfl,(HO.out.mono HK3.out.size).keep HKe.out (typed2 HA4.out HB4.out) (by decide) (by decide),(HK3.out.trans HK4.out (by simp)).trans HKe.out (fun k hk=>.inr (by simp at hk;omega))⟩
def CopS (w:World) (L:List Se) (e:Ending) (w':World):Prop:=∃ v X,e=.returned v∧RowS w.heap.size w' v X∧(∀ x∈X,KoO w.heap.size w' x.2 x.1.v.k)∧X.map Prod.fst=L∧Kept [] w w'
def CsI (w:World) (L:List Se) (ov iv:Value) (wr:World):Prop :=
 ∃ (j:Nat) (X':List (Se × Value)),iv=.int .i64 (j:Int)∧j≤L.length∧Hid (X'.map Prod.fst=L.take j)∧Hid (RowS w.heap.size wr ov X')∧Hid (∀ x∈X',KoO w.heap.size wr x.2 x.1.v.k)∧Hid (Kept [] w wr)
theorem ko_other {w w':World}{B e size n C:Nat}{v u:Value}{xs:List Value}{k:List Com}(h:w.ownsRow B e size v n xs) (hg:w.grownBy w' v.ownBlock) (h2:KoO C w u k) (h1:76≠e) (h3:116≠e):KoO C w' u k:=by
 have hK:Kept v.ownBlock.toList w w':=(Kept.refl _ w).grown hg fun k hk=>.inl (mem_own.2 hk)
 refine h2.keep hK (Ts:=[e]) (fun k hk cur t mk hh=>?_) (by simpa using h1) (by simpa using h3)
 obtain ⟨c2,h3⟩:=row_block h (mem_own.1 hk)
 rw [h3] at hh;cases hh;simp
theorem cs_next {w wr w5 w6:World}{L:List Se}{j:Nat}{X':List (Se × Value)}{ov v5 v6:Value}{x:Se}(hx:L[j]?=some x) (hM:X'.map Prod.fst=L.take j) (hR:RowS w.heap.size wr ov X') (hO:∀ x∈X',KoO w.heap.size wr x.2 x.1.v.k) (hK:Kept [] w wr)
 (hK5:Kept [] wr w5) (hO5:KoO wr.heap.size w5 v5 x.v.k) (h1:RowS w.heap.size w6 v6 (X'++[(x,v5)])) (h2:(w5.alloc (.cells #[.int .i64 x.i,.int .i64 x.q,.string (str x.n),.int .i64 x.v.c,.int .i64 x.v.s,.int .i64 x.v.r,.string (str x.v.p),.int .u64 x.v.d,v5,.int .i64 x.v.m] 71)).grownBy w6 ov.ownBlock) :
 CsI w L v6 (.int .i64 ((j+1:Nat):Int)) w6:=by
 obtain ⟨hj,hx⟩:=List.getElem?_eq_some_iff.1 hx
 have hRa:RowS w.heap.size (w5.alloc (.cells #[.int .i64 x.i,.int .i64 x.q,.string (str x.n),.int .i64 x.v.c,.int .i64 x.v.s,.int .i64 x.v.r,.string (str x.v.p),.int .u64 x.v.d,v5,.int .i64 x.v.m] 71)) ov X':=World.ownsRow.alloc (hK5.ownsRow hR (by simp)) _
 have hKa:=(Kept.refl [] w5).alloc (.cells #[.int .i64 x.i,.int .i64 x.q,.string (str x.n),.int .i64 x.v.c,.int .i64 x.v.s,.int .i64 x.v.r,.string (str x.v.p),.int .u64 x.v.d,v5,.int .i64 x.v.m] 71)
 refine ⟨j+1,_,rfl,hj,?_,h1,?_,?_⟩
 ·show _=_
  rw [List.map_append,hM,List.take_succ_eq_append_getElem hj,hx];rfl
 ·intro y hy
  rcases List.mem_append.1 hy with hy | hy
  ·exact ko_other hRa h2 (((hO y hy).kept hK5).kept hKa) (by decide) (by decide)
  ·simp at hy;subst hy
   exact ko_other hRa h2 ((hO5.mono hK.size).kept hKa) (by decide) (by decide)
 ·exact (((hK.trans hK5 (by simp)).trans hKa (by simp))).grown h2 fun k hk=>.inr (World.ownsRow.lt hRa k hk).1
set_option maxRecDepth 100000 in
theorem copySessions_call (w:World) (ao:Option Addr) (n c:Nat) (X:List (Se × Value)) (L:List Se) (hS:SlS w ao n c X) (hcom:X.map Prod.fst=L) (hn:n≤100000) (hok:∀ x∈L,okS x) :
 Calls Tryz.prog 93 #[.slice ao n c,.func (.func 85) #[] #[]] w fun e w'=>CopS w L e w':=by
 have hl:=hS.1
 have hc:=hS.2.1
 have hm:=hS.2.2.1
 unfold maxLen at hm
 have HS:=hide hS
 have HL:=hide hl
 have HCom:=hide hcom
 have HOk:=hide hok
 have HCl:Hid (L.length=n):=by show _=_;rw [← hcom];simpa using hl
 clear hS hl hok hcom
 go_enter Tryz.func93,Tryz.ntmps93
 go_wp2_with fail
 go_loopw [5,10] (fun ov iv wr=>CsI w L ov iv wr) (fun _ iv _=>n - (intOf iv).toNat)
 case atStart=>exact ⟨0,[],rfl,Nat.zero_le _,rfl,RowS.nil _ _,fun x hx=>(by cases hx),Kept.refl _ _⟩
 case round =>
  obtain ⟨j,X',rfl,hj,HM,HR,HO,HK⟩:=hrel
  by_cases hlt:j < n
  ·have hlt':(j:Int) < n:=by omega
   have hjc:j≤c:=by omega
   have hjK:j < X.length:=by rw [HL.out];exact hlt
   have hjg:j < L.length:=by rw [HCl.out];exact hlt
   have hCk:=fst_get HCom.out hjK hjg
   obtain ⟨g4,o4,he4,hx4⟩:=(HS.out.kept HK.out).2.2.2.2.1 j hjK
   have hko:=(HS.out.kept HK.out).2.2.2.2.2 _ (List.getElem_mem hjK)
   subst he4
   obtain ⟨h0,h1,h2,h3,h4,h5,h6,h7,h8,h9⟩:=hx4
   rw [hCk] at h0 h1 h2 h3 h4 h5 h6 h7 h9 hko
   obtain ⟨mo,mm,mc,hm2⟩:=hko.one
   rw [hm2] at h8 hko
   have hwc:=HOk.out L[j] (List.getElem_mem hjg)
   have cK:=fun W (hk:Kept [] wr W)=>copySession_call W L[j] _ (hko.kept hk) hwc
   obtain ⟨x,hxe⟩:∃ x,x=L[j]:=⟨_,rfl⟩
   have HX:Hid (L[j]?=some x):=by show _=_;rw [hxe];simp
   rw [← hxe] at h0 h1 h2 h3 h4 h5 h6 h7 h9 cK
   unfold seV at cK
   have hlenK:X'.length≤99999:=by have h:=congrArg List.length HM.out;simp at h;omega
   clear hwc hxe hCk hjg hjK hm2 hko
   go_wp2_with fail
   refine (cK _ ((Kept.refl [] wr).alloc _)).mono ?_
   rintro _ w5 ⟨v5,rfl,hO5,hK5⟩
   replace hO5:=hO5.mono ((Kept.refl [] wr).alloc _).size
   replace hK5:=((Kept.refl [] wr).alloc _).trans hK5 (by simp)
   obtain ⟨a5,n5,c5,rfl⟩:=hO5.ko.one
   have hRa:RowS w.heap.size (w5.alloc (.cells #[.int .i64 x.i,.int .i64 x.q,.string (str x.n),.int .i64 x.v.c,.int .i64 x.v.s,.int .i64 x.v.r,.string (str x.v.p),.int .u64 x.v.d,.slice a5 n5 c5,.int .i64 x.v.m] 71)) u5 X':=World.ownsRow.alloc (hK5.ownsRow HR.out (by simp)) _
   have hsz5:w.heap.size≤w5.heap.size:=Nat.le_trans HK.out.size hK5.size
   have HB:=se_news (x:=(x,.slice a5 n5 c5)) rfl (heap_alloc_new w5 (.cells #[.int .i64 x.i,.int .i64 x.q,.string (str x.n),.int .i64 x.v.c,.int .i64 x.v.s,.int .i64 x.v.r,.string (str x.v.p),.int .u64 x.v.d,.slice a5 n5 c5,.int .i64 x.v.m] 71))
   have HF:Hid (∀ v6 w6,RowS w.heap.size w6 v6 (X'++[(x,.slice a5 n5 c5)])→(w5.alloc (.cells #[.int .i64 x.i,.int .i64 x.q,.string (str x.n),.int .i64 x.v.c,.int .i64 x.v.s,.int .i64 x.v.r,.string (str x.v.p),.int .u64 x.v.d,.slice a5 n5 c5,.int .i64 x.v.m] 71)).grownBy w6 u5.ownBlock→CsI w L v6 (.int .i64 ((j+1:Nat):Int)) w6):=fun v6 w6 h1 h2=>cs_next HX.out HM.out HR.out HO.out HK.out hK5 hO5 h1 h2
   clear hO5 hK5 cK h0 h1 h2 h3 h4 h5 h6 h7 h8 h9
   go_wp2_with (at_builtin;refine wp_appS rfl _ _ rfl w.heap.size _ X' rfl hRa ⟨w5.heap.size,0,none⟩ 1 1 [(x,.slice a5 n5 c5)] rfl rfl HB (by intro y hy;simp at hy;subst hy;rfl) (by simp;omega) (by simp;omega) ?b1)
   case b1 =>
    intro v6 w6 hO6 hg6
    have HF2:=hide (HF.out v6 w6 hO6 hg6)
    clear hO6 hg6 hRa HB
    go_wp2_with fail
    go_roundw
    case rel=>exact HF2.out
    case measure=>(simp [intOf] <;> omega)
  ·have hlt':¬ (j:Int) < n:=by omega
   have HE:Hid (X'.map Prod.fst=L):=by have h:=HM.out;rw [List.take_of_length_le (by rw [HCl.out];omega)] at h;exact h
   go_wp2_with fail
   go_ret
   exact ⟨_,X',rfl,HR.out,HO.out,HE.out,HK.out⟩
end Go.Proofs.YtddhmfildfdbdaaGreat
