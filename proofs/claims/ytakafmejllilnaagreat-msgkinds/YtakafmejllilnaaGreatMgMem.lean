/-
  Messages in memory: what is asked of those that are gone through; their cells; rows of votes.
-/
import Derived.Test.YtakafmejllilnaaGreatMsPure
import Derived.Test.YtakafmejllilnaaGreatMgTold
import Derived.Test.YtakafmejllilnaaGreatF12
import Derived.Test.YtakafmejllilnaaGreatMgOrd
import Derived.Laws.AppendOwn
namespace Go.Proofs.YtakafmejllilnaaGreat
open Go.RowKit
theorem range_kept {S:List Nat}{a w:World}{b o:Nat}{cs:List Value}(h:a.rangeAt b o cs) (k:Kept S a w) (hb:b ∉ S):w.rangeAt b o cs:=fun j v hv=>k.cell (h j v hv) hb
theorem Bx.part {w:World}{b:Nat}{T:TypeId}{pre cs post:List Value}(h:Bx w b T (pre++(cs++post))):w.rangeAt b pre.length cs:=fun j v hv=>by
 refine h.cell (pre.length+j) ?_
 have hj:j < cs.length:=by
  by_cases hl:j < cs.length
  ·exact hl
  ·rw [List.getElem?_eq_none (by omega)] at hv;cases hv
 rw [List.getElem?_append_right (by omega),Nat.add_sub_cancel_left,List.getElem?_append_left hj]
 exact hv
theorem wl_load_at {P:Program}{ops:Array Oper}{rest:List Oper}{a:Act}{w:World}{Q:Exit→Act→World→Prop}{d:Option Tmp}{x:Operand}{T ty:TypeId}{ps:String}{af:Array Edge}
 {b o:Nat}{cs:List Value}(hc:w.rangeAt b o cs) (hT:RowT P T cs.length) (hx:a.eval x=.pointer (some ⟨b,o,none⟩))
 (h:wpList P ops Q rest (a.put d (.agg cs.toArray)) w):wpList P ops Q (⟨d,.load T x,ty,ps,af,none⟩ :: rest) a w:=by
 obtain ⟨D,hu,hd,hi⟩:=hT
 exact wpList_load_mid rfl _ x rfl b o hx cs D hc hu hd hi h
theorem wl_load_atg {P:Program}{ops:Array Oper}{rest:List Oper}{a:Act}{w:World}{Q:Exit→Act→World→Prop}{d:Option Tmp}{x:Operand}{T ty:TypeId}{ps:String}{af:Array Edge}{g:Nat × Bool}
 {b o:Nat}{cs:List Value}(hc:w.rangeAt b o cs) (hT:RowT P T cs.length) (hw:Region.wanted ⟨d,.load T x,ty,ps,af,some g⟩ (yielded ops a.tmps)=true) (hx:a.eval x=.pointer (some ⟨b,o,none⟩))
 (h:wpList P ops Q rest (a.put d (.agg cs.toArray)) w):wpList P ops Q (⟨d,.load T x,ty,ps,af,some g⟩ :: rest) a w:=by
 obtain ⟨D,hu,hd,hi⟩:=hT
 unfold wpList
 rw [if_pos hw]
 exact Or.inl (wp_load_mid T x rfl b o hx cs D hc hu hd hi h)
theorem Bx.mid {w:World}{b:Nat}{T:TypeId}{pre old post ds:List Value}(h:Bx w b T (pre++(old++post))) (hl:old.length=ds.length):Bx (w.setCells b pre.length ds) b T (pre++(ds++post)):=by
 have h1:=setCells_row b ds pre old post w T (by rw [List.append_assoc];exact h) hl
 unfold Bx
 rw [h1,List.append_assoc]
theorem Bx.thereM {w:World}{b:Nat}{T:TypeId}{pre old post:List Value}(h:Bx w b T (pre++(old++post))):w.there b pre.length old.length:=fun j hj=>by
 refine ⟨?_,h.froz _⟩
 rw [h.part j (old[j]'hj) (List.getElem?_eq_getElem hj)];rfl
theorem wl_store_at {P:Program}{ops:Array Oper}{rest:List Oper}{a:Act}{w:World}{Q:Exit→Act→World→Prop}{d:Option Tmp}{x y:Operand}{T ty T0:TypeId}{ps:String}{af:Array Edge}
 {b o:Nat}{pre old post ds:List Value}(hc:Bx w b T0 (pre++(old++post))) (ho:o=pre.length) (hl:old.length=ds.length) (h1:∀ v∈ds,v.oneCell'=true) (hT:RowT P T ds.length)
 (hx:a.eval x=.pointer (some ⟨b,o,none⟩)) (hy:a.eval y=.agg ds.toArray) (h:∀ w',Hid (Bx w' b T0 (pre++(ds++post)))→Hid (Kept [b] w w')→wpList P ops Q rest (a.put d undef) w'):wpList P ops Q (⟨d,.store T x y,ty,ps,af,none⟩ :: rest) a w:=by
 subst ho
 obtain ⟨D,hu,hd,hi⟩:=hT
 exact wpList_store_mid rfl _ x y rfl b pre.length ds.toArray hx hy (by rw [List.size_toArray,← hl];exact hc.thereM) (by rw [List.size_toArray];exact hi) (all_oneCell_toArray h1) (h _ (hide (hc.mid hl)) (setCells_kept (by simp) _ _ (Kept.refl _ _)))
structure Vm where
 s:Int
 b:Int
 x:Rm
def Vm.v (y:Vm):Vo:=⟨y.s,y.b,y.x.r⟩
def voC (y:Vm):List Value:=[.int .i64 y.s,.int .i64 y.b,.int .i64 y.x.r.k,.string (str y.x.r.n),.int .i64 y.x.r.s,.int .i64 y.x.r.q,.int .i64 y.x.r.b,.string (str y.x.r.f),.slice y.x.mo y.x.m y.x.mc,.string (str y.x.r.p),.int .i64 y.x.r.fr,.int .i64 y.x.r.mn,.int .i64 y.x.r.mb]
theorem voC_length (y:Vm):(voC y).length=13:=rfl
theorem voC_eq (y:Vm):voC y=[.int .i64 y.s,.int .i64 y.b]++(rqC y.x++[]):=rfl
theorem one_rqC (x:Rm):∀ v∈rqC x,v.oneCell'=true:=by
 intro v hv
 simp [rqC] at hv
 rcases hv with rfl | rfl | rfl | rfl | rfl | rfl | rfl | rfl | rfl | rfl | rfl <;> rfl
theorem one_voC (y:Vm):∀ v∈voC y,v.oneCell'=true:=by
 intro v hv
 simp [voC] at hv
 rcases hv with rfl | rfl | rfl | rfl | rfl | rfl | rfl | rfl | rfl | rfl | rfl | rfl | rfl <;> rfl
theorem RqHy.kept {a w:World}{x:Rm}(h:RqHy [] a x) (k:Kept [] a w):RqHy [] w x:=h.on k (fun k hk=>by cases hk)
theorem VtHy.kept {a w:World}{x:Vt}{u:Value}(h:VtHy [] a x u) (k:Kept [] a w):VtHy [] w x u:=h.on k (fun k hk=>by cases hk)
structure SlV (w:World) (ao:Option Addr) (n c:Nat) (D:List Vm):Prop where
 l:D.length=n
 le:n≤c
 mx:c≤maxLen
 no:ao=none→c=0
 e:∀ i (h:i < D.length),∃ b o,ao=some ⟨b,o,none⟩∧w.rangeAt b (o+i*13) (voC D[i])
 x:∀ y∈D,RqHy [] w y.x
theorem SlV.kept {a w:World}{ao:Option Addr}{n c:Nat}{D:List Vm}(h:SlV a ao n c D) (k:Kept [] a w):SlV w ao n c D :=
 ⟨h.l,h.le,h.mx,h.no,fun i hi=>by obtain ⟨b,o,e,h1⟩:=h.e i hi;exact ⟨b,o,e,range_kept h1 k (by simp)⟩,fun y hy=>(h.x y hy).kept k⟩
theorem SlV.nil (w:World):SlV w none 0 0 []:=⟨rfl,Nat.le_refl _,Nat.zero_le _,fun _=>rfl,fun i hi=>by simp at hi,fun y hy=>by cases hy⟩
structure Mm where
 k:Int
 f:Int
 t:Int
 b:Int
 s:Int
 m:Int
 x:Rm
 vo:Option Addr
 vc:Nat
 D:List Vm
 io:Option Addr
 ic:Nat
 i:List Int
 n:Int
 r:Vt
 uo:Option Addr
 un:Nat
 uc:Nat
def Mm.ms (y:Mm):Ms:=⟨y.k,y.f,y.t,y.b,y.s,y.m,y.x.r,y.D.map Vm.v,y.i,y.n,y.r⟩
def msC (y:Mm):List Value:=[.int .i64 y.k,.int .i64 y.f,.int .i64 y.t,.int .i64 y.b,.int .i64 y.s,.int .i64 y.m,
 .int .i64 y.x.r.k,.string (str y.x.r.n),.int .i64 y.x.r.s,.int .i64 y.x.r.q,.int .i64 y.x.r.b,.string (str y.x.r.f),.slice y.x.mo y.x.m y.x.mc,.string (str y.x.r.p),.int .i64 y.x.r.fr,.int .i64 y.x.r.mn,.int .i64 y.x.r.mb,
 .slice y.vo y.D.length y.vc,.slice y.io y.i.length y.ic,.int .i64 y.n,
 .int .i64 y.r.c,.int .i64 y.r.s,.int .i64 y.r.r,.string (str y.r.p),.int .u64 y.r.d,.slice y.uo y.un y.uc,.int .i64 y.r.m]
def msV (y:Mm):Value:=.agg (msC y).toArray
theorem msC_x (y:Mm):msC y=[.int .i64 y.k,.int .i64 y.f,.int .i64 y.t,.int .i64 y.b,.int .i64 y.s,.int .i64 y.m]++(rqC y.x++[.slice y.vo y.D.length y.vc,.slice y.io y.i.length y.ic,.int .i64 y.n,
 .int .i64 y.r.c,.int .i64 y.r.s,.int .i64 y.r.r,.string (str y.r.p),.int .u64 y.r.d,.slice y.uo y.un y.uc,.int .i64 y.r.m]):=rfl
theorem msC_r (y:Mm):msC y=[.int .i64 y.k,.int .i64 y.f,.int .i64 y.t,.int .i64 y.b,.int .i64 y.s,.int .i64 y.m,
 .int .i64 y.x.r.k,.string (str y.x.r.n),.int .i64 y.x.r.s,.int .i64 y.x.r.q,.int .i64 y.x.r.b,.string (str y.x.r.f),.slice y.x.mo y.x.m y.x.mc,.string (str y.x.r.p),.int .i64 y.x.r.fr,.int .i64 y.x.r.mn,.int .i64 y.x.r.mb,
 .slice y.vo y.D.length y.vc,.slice y.io y.i.length y.ic,.int .i64 y.n]++(vtLE y.r (.slice y.uo y.un y.uc)++[]):=rfl
theorem one_msC (y:Mm):∀ v∈msC y,v.oneCell'=true:=by
 intro v hv
 simp [msC] at hv
 rcases hv with rfl | rfl | rfl | rfl | rfl | rfl | rfl | rfl | rfl | rfl | rfl | rfl | rfl | rfl | rfl | rfl | rfl | rfl | rfl | rfl | rfl | rfl | rfl | rfl | rfl | rfl | rfl <;> rfl
structure MsHy (w:World) (y:Mm):Prop where
 x:RqHy [] w y.x
 v:SlV w y.vo y.D.length y.vc y.D
 i:Sl w y.io y.i.length y.ic y.i
 o:Oct y.i
 r:VtHy [] w y.r (.slice y.uo y.un y.uc)
 u:U64c y.x.r.c
 uv:∀ z∈y.D,U64c z.x.r.c
 ur:U64v y.r
theorem MsHy.kept {a w:World}{y:Mm}(h:MsHy a y) (k:Kept [] a w):MsHy w y :=
 ⟨h.x.kept k,h.v.kept k,Sl.kept k h.i (by simp),h.o,h.r.kept k,h.u,h.uv,h.ur⟩
theorem rowT_msg:RowT Tryz.prog 36 27:=⟨_,Tryz.underlying36,rfl,by kernel_rfl⟩
theorem rowT_vote:RowT Tryz.prog 55 13:=⟨_,Tryz.underlying55,rfl,by kernel_rfl⟩
theorem Bx.msx {w:World}{b:Nat}{y:Mm}(h:Bx w b 36 (msC y)):w.rangeAt b 6 (rqC y.x):=by
 rw [msC_x] at h;exact h.part
theorem Bx.msr {w:World}{b:Nat}{y:Mm}(h:Bx w b 36 (msC y)):w.rangeAt b 20 (vtLE y.r (.slice y.uo y.un y.uc)):=by
 rw [msC_r] at h;exact h.part
theorem Bx.vox {w:World}{b:Nat}{y:Vm}{T:TypeId}(h:Bx w b T (voC y)):w.rangeAt b 2 (rqC y.x):=by
 rw [voC_eq] at h;exact h.part
def mm0:Mm:=⟨0,0,0,0,0,0,rm0,none,0,[],none,0,[],0,vt0,none,0,0⟩
theorem flat_len (D:List Vm):(D.flatMap voC).length=D.length*13:=by
 induction D with
 | nil=>rfl
 | cons x D ih=>rw [List.flatMap_cons,List.length_append,ih,List.length_cons,voC_length];omega
theorem flat_get (D:List Vm) (i:Nat) (h:i < D.length) (j:Nat) (hj:j < 13):(D.flatMap voC)[i*13+j]?=(voC D[i])[j]?:=by
 induction D generalizing i with
 | nil=>simp at h
 | cons x D ih =>
   cases i with
   | zero=>rw [List.flatMap_cons,Nat.zero_mul,Nat.zero_add,List.getElem_cons_zero,List.getElem?_append_left (by rw [voC_length];omega)]
   | succ i =>
     rw [List.flatMap_cons,List.getElem_cons_succ,List.getElem?_append_right (by rw [voC_length];omega),← ih i (by simpa using h)]
     congr 1
     rw [voC_length];omega
def RowV (B:Nat) (w:World) (v:Value) (D:List Vm):Prop:=w.ownsRow B 55 13 v D.length (D.flatMap voC)
def LsV (B:Nat) (w:World) (v:Value) (L:List Vo):Prop:=∃ D,RowV B w v D∧(∀ y∈D,OwnC B w (.slice y.x.mo y.x.m y.x.mc) y.x.r.c)∧D.map Vm.v=L
theorem LsV.nil (B:Nat) (w:World):LsV B w (.slice none 0 0) []:=⟨[],World.ownsRow_nil w B 55 13,fun x hx=>(by cases hx),rfl⟩
theorem row_lowM {S:List Nat}{w w':World}{B e size n:Nat}{v:Value}{xs:List Value}(h:w.ownsRow B e size v n xs) (hk:Kept S w w') (hS:∀ k∈S,k < B):w'.ownsRow B e size v n xs :=
 hk.ownsRow h (fun k hk' hm=>by have:=(World.ownsRow.lt h k hk').1;have:=hS k hm;omega)
theorem LsV.low {S:List Nat}{w w':World}{B:Nat}{v:Value}{L:List Vo}(h:LsV B w v L) (hk:Kept S w w') (hS:∀ k∈S,k < B):LsV B w' v L:=by
 obtain ⟨D,h1,h2,h3⟩:=h
 exact ⟨D,row_lowM h1 hk hS,fun y hy=>row_lowM (h2 y hy) hk hS,h3⟩
theorem row_outM {B w e size n v xs}(h:World.ownsRow w B e size v n xs):∃ ao c,v=.slice ao n c∧n≤c∧c≤maxLen∧(ao=none→c=0)∧(n=0∨∃ g,ao=some ⟨g,0,none⟩):=by
 obtain ⟨_,h2⟩:=h
 rcases h2 with ⟨hv,hn⟩ | ⟨g,cap,cur,hv,hg,hh,h3,h4,h5,h6⟩
 ·exact ⟨none,0,by rw [hv,hn],by omega,Nat.zero_le _,fun _=>rfl,.inl hn⟩
 ·exact ⟨_,cap,hv,h3,h4,by simp,.inr ⟨g,rfl⟩⟩
theorem LsV.sl {B:Nat}{w:World}{v:Value}{L:List Vo}(h:LsV B w v L) (hL:∀ y∈L,okReq y.v):∃ ao c D,v=.slice ao D.length c∧SlV w ao D.length c D∧D.map Vm.v=L:=by
 obtain ⟨D,h1,h2,h3⟩:=h
 obtain ⟨ao,c,e,hc,hm,hno,hg⟩:=row_outM h1
 refine ⟨ao,c,D,e,⟨rfl,hc,hm,hno,fun i hi=>?_,fun y hy=>?_⟩,h3⟩
 ·rcases hg with hg | ⟨g,rfl⟩
  ·omega
  ·refine ⟨g,0,rfl,fun j u hu=>?_⟩
   have hj:j < 13:=by
    by_cases hl:j < 13
    ·exact hl
    ·rw [List.getElem?_eq_none (by rw [voC_length];omega)] at hu;cases hu
   have:=World.ownsRow.cellAt (w:=w) (base:=B) (e:=55) (size:=13) (n:=D.length) (cap:=c) (g:=g) (xs:=D.flatMap voC) (by rw [← e];exact h1) (i*13+j) (by omega)
   rw [Nat.zero_add,this,flat_get D i hi j hj,hu]
 ·exact rqHy_told (h2 y hy) (hL y.v (by rw [← h3];exact List.mem_map_of_mem hy))
def HiV (B:Nat) (w w':World):Prop:=∃ S,Kept S w w'∧∀ k∈S,B≤k
theorem grown_hiV {w w':World}{B e size n:Nat}{v:Value}{xs:List Value}(h:w.ownsRow B e size v n xs) (hg:w.grownBy w' v.ownBlock):HiV B w w' :=
 ⟨v.ownBlock.toList,(Kept.refl _ w).grown hg (fun _ hk=>.inl (mem_own.2 hk)),fun k hk=>(World.ownsRow.lt h k (mem_own.1 hk)).1⟩
theorem row_otherV {w w':World}{B e size n:Nat}{v:Value}{xs:List Value}(h:w.ownsRow B e size v n xs) (hg:w.grownBy w' v.ownBlock) {B2 e2 size2 n2:Nat}{v2:Value}{xs2:List Value}(h2:w.ownsRow B2 e2 size2 v2 n2 xs2) (hne:e2≠e):w'.ownsRow B2 e2 size2 v2 n2 xs2 :=
 row_typed ((Kept.refl v.ownBlock.toList w).grown hg fun k hk=>.inl (mem_own.2 hk)) (Ts:=[e]) (fun k hk cur t mk hh=>by
  obtain ⟨c2,h3⟩:=row_block h (mem_own.1 hk)
  rw [h3] at hh;cases hh;simp) h2 (by simpa using hne)
theorem info_vote:(Tryz.prog.info? 55).map (fun i=>(i.zero,i.size,i.bytes))=some (some (.agg #[.int .i64 0,.int .i64 0,.int .i64 0,.string ⟨#[]⟩,.int .i64 0,.int .i64 0,.int .i64 0,.string ⟨#[]⟩,.slice none 0 0,.string ⟨#[]⟩,.int .i64 0,.int .i64 0,.int .i64 0]),13,144):=by kernel_rfl
theorem wl_appV {w:World}{ops:Array Oper}{rest:List Oper}{o:Oper}{a:Act}{Q:Exit→Act→World→Prop}(hgd:o.guard=none) (s x:Operand)
 (hop:o.op=.call { callee:=.builtin .append,args:=#[s,x],argTypes:=#[30,30] })
 (B:Nat) (v:Value) (L:List Vo) (hs:a.eval s=v) (hO:LsV B w v L) (g:Nat) (y:Vm) (hu:OwnC B w (.slice y.x.mo y.x.m y.x.mc) y.x.r.c) (hx:a.eval x=.slice (some ⟨g,0,none⟩) 1 1) (hc:w.heap[g]?=some (.cells (voC y).toArray 55 (0,0))) (hlen:L.length≤1000000) (hB:B≤w.heap.size)
 (h:∀ v' w',LsV B w' v' (L++[y.v])→HiV B w w'→wpList Tryz.prog ops Q rest (a.put o.dst v') w'):wpList Tryz.prog ops Q (o :: rest) a w:=by
 obtain ⟨D,hR,hW,he⟩:=hO
 have hXl:D.length=L.length:=by rw [← he,List.length_map]
 obtain ⟨i0,hi,hz0,hz1,hz2⟩:=info_parts info_vote
 refine wpList_append_own w hgd s x 30 hop B 55 i0 _ 13 144 Tryz.underlying30 hi hz0 hz1 hz2 rfl (by decide) v D.length (D.flatMap voC) hs hR ⟨g,0,none⟩ 1 1 (voC y) hx rfl (World.news_of_block hc) (one_voC y) (by unfold maxLen;omega) (by omega) hB ?_
 ·intro v' w' h2 h3 _
  refine h v' w' ⟨D++[y],?_,fun z hz=>?_,by simp [he]⟩ (grown_hiV hR h3)
  ·unfold RowV
   rw [List.length_append,List.flatMap_append]
   simpa using h2
  ·rcases List.mem_append.1 hz with hz | hz
   ·exact row_otherV hR h3 (hW z hz) (by decide)
   ·simp at hz;subst hz
    exact row_otherV hR h3 hu (by decide)
end Go.Proofs.YtakafmejllilnaaGreat
