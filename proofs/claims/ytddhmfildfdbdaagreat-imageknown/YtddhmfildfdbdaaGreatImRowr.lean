/-
  Lists that are read: one more behind them.
-/
import Derived.Test.YtddhmfildfdbdaaGreatF8r
import Derived.Test.YtddhmfildfdbdaaGreatQ17r
import Derived.Test.YtddhmfildfdbdaaGreatQ12r
import Derived.Test.YtddhmfildfdbdaaGreatQ2r
import Derived.Laws.AppendOwn
namespace Go.Proofs.YtddhmfildfdbdaaGreat
open Go.RowKit Go.ChangeShapes Go.WideShapes Go.ChangeAt Go.Deep
def HiK (B:Nat) (w w':World):Prop:=∃ S,Kept S w w'∧∀ k∈S,B≤k
theorem grown_hi {w w':World}{B e size n:Nat}{v:Value}{xs:List Value}(h:w.ownsRow B e size v n xs) (hg:w.grownBy w' v.ownBlock):HiK B w w' :=
 ⟨v.ownBlock.toList,(Kept.refl _ w).grown hg (fun _ hk=>.inl (mem_own.2 hk)),fun k hk=>(World.ownsRow.lt h k (mem_own.1 hk)).1⟩
theorem row_otherI {w w':World}{B e size n:Nat}{v:Value}{xs:List Value}(h:w.ownsRow B e size v n xs) (hg:w.grownBy w' v.ownBlock) {B2 e2 size2 n2:Nat}{v2:Value}{xs2:List Value}(h2:w.ownsRow B2 e2 size2 v2 n2 xs2) (hne:e2≠e):w'.ownsRow B2 e2 size2 v2 n2 xs2 :=
 row_typed ((Kept.refl v.ownBlock.toList w).grown hg fun k hk=>.inl (mem_own.2 hk)) (Ts:=[e]) (fun k hk cur t mk hh=>by
  obtain ⟨c2,h3⟩:=row_block h (mem_own.1 hk)
  rw [h3] at hh;cases hh;simp) h2 (by simpa using hne)
theorem row_lowI {S:List Nat}{w w':World}{B e size n:Nat}{v:Value}{xs:List Value}(h:w.ownsRow B e size v n xs) (hk:Kept S w w') (hS:∀ k∈S,k < B):w'.ownsRow B e size v n xs :=
 hk.ownsRow h (fun k hk' hm=>by have:=(World.ownsRow.lt h k hk').1;have:=hS k hm;omega)
def LsE (B:Nat) (w:World) (v:Value) (L:List Ep):Prop:=∃ X,RowA B w v X∧OwnA B w X∧X.map Prod.fst=L
def LsS (B:Nat) (w:World) (v:Value) (L:List Se):Prop:=∃ X,RowS B w v X∧(∀ x∈X,KoO B w x.2 x.1.v.k)∧X.map Prod.fst=L
theorem RowI.low {S:List Nat}{w w':World}{B:Nat}{v:Value}{L:List Int}(h:RowI B w v L) (hk:Kept S w w') (hS:∀ k∈S,k < B):RowI B w' v L:=row_lowI h hk hS
theorem OwnC.low {S:List Nat}{w w':World}{B:Nat}{v:Value}{L:List Ch}(h:OwnC B w v L) (hk:Kept S w w') (hS:∀ k∈S,k < B):OwnC B w' v L:=row_lowI h hk hS
theorem KoO.low {S:List Nat}{w w':World}{B:Nat}{v:Value}{L:List Com}(h:KoO B w v L) (hk:Kept S w w') (hS:∀ k∈S,k < B):KoO B w' v L:=by
 obtain ⟨K,h1,h2,h3⟩:=h
 exact ⟨K,row_lowI h1 hk hS,fun x hx=>row_lowI (h2 x hx) hk hS,h3⟩
theorem LsE.low {S:List Nat}{w w':World}{B:Nat}{v:Value}{L:List Ep}(h:LsE B w v L) (hk:Kept S w w') (hS:∀ k∈S,k < B):LsE B w' v L:=by
 obtain ⟨K,h1,h2,h3⟩:=h
 exact ⟨K,row_lowI h1 hk hS,fun x hx=>row_lowI (h2 x hx) hk hS,h3⟩
theorem LsS.low {S:List Nat}{w w':World}{B:Nat}{v:Value}{L:List Se}(h:LsS B w v L) (hk:Kept S w w') (hS:∀ k∈S,k < B):LsS B w' v L:=by
 obtain ⟨K,h1,h2,h3⟩:=h
 exact ⟨K,row_lowI h1 hk hS,fun x hx=>(h2 x hx).low hk hS,h3⟩
theorem LsE.nil (B:Nat) (w:World):LsE B w (.slice none 0 0) []:=⟨[],World.ownsRow_nil w B 62 2,fun x hx=>(by cases hx),rfl⟩
theorem LsS.nil (B:Nat) (w:World):LsS B w (.slice none 0 0) []:=⟨[],RowS.nil B w,fun x hx=>(by cases hx),rfl⟩
theorem ko_otherI {w w':World}{B e size n C:Nat}{v u:Value}{xs:List Value}{k:List Com}(h:w.ownsRow B e size v n xs) (hg:w.grownBy w' v.ownBlock) (h2:KoO C w u k) (h1:76≠e) (h3:116≠e):KoO C w' u k:=by
 obtain ⟨K,g1,g2,g3⟩:=h2
 exact ⟨K,row_otherI h hg g1 h1,fun x hx=>row_otherI h hg (g2 x hx) h3,g3⟩
theorem wl_appI {w:World}{ops:Array Oper}{rest:List Oper}{o:Oper}{a:Act}{Q:Exit→Act→World→Prop}(hgd:o.guard=none) (s x:Operand)
 (hop:o.op=.call { callee:=.builtin .append,args:=#[s,x],argTypes:=#[34,34] })
 (B:Nat) (v:Value) (L:List Int) (hs:a.eval s=v) (hO:RowI B w v L) (g:Nat) (y:Int) (hx:a.eval x=.slice (some ⟨g,0,none⟩) 1 1) (hc:w.heap[g]?=some (.cells #[.int .i64 y] 3 (0,0))) (hlen:L.length≤1000000) (hB:B≤w.heap.size)
 (h:∀ v' w',RowI B w' v' (L++[y])→HiK B w w'→wpList Tryz.prog ops Q rest (a.put o.dst v') w'):wpList Tryz.prog ops Q (o :: rest) a w :=
 wp_appI hgd s x hop B v L hs hO g y hx (cell_inC (k:=0) hc rfl) hlen hB fun v' w' h1 h2=>h v' w' h1 (grown_hi hO h2)
theorem wl_appC {w:World}{ops:Array Oper}{rest:List Oper}{o:Oper}{a:Act}{Q:Exit→Act→World→Prop}(hgd:o.guard=none) (s x:Operand)
 (hop:o.op=.call { callee:=.builtin .append,args:=#[s,x],argTypes:=#[74,74] })
 (B:Nat) (v:Value) (L:List Ch) (hs:a.eval s=v) (hO:OwnC B w v L) (g:Nat) (y:Ch) (hx:a.eval x=.slice (some ⟨g,0,none⟩) 1 1) (hc:w.heap[g]?=some (.cells #[.string (str y.p),.bool y.g,.int .u64 y.d] 116 (0,0))) (hlen:L.length≤1000000) (hB:B≤w.heap.size)
 (h:∀ v' w',OwnC B w' v' (L++[y])→HiK B w w'→wpList Tryz.prog ops Q rest (a.put o.dst v') w'):wpList Tryz.prog ops Q (o :: rest) a w :=
 wp_appC hgd s x hop B v L hs hO ⟨g,0,none⟩ 1 1 [y] hx rfl (World.news_of_block hc) (by simp;omega) hB fun v' w' h1 h2=>h v' w' h1 (grown_hi hO h2)
theorem info_epochI:(Tryz.prog.info? 62).map (fun i=>(i.zero,i.size,i.bytes))=some (some (.agg #[.int .i64 0,.slice none 0 0]),2,32):=by kernel_rfl
theorem wl_appE {w:World}{ops:Array Oper}{rest:List Oper}{o:Oper}{a:Act}{Q:Exit→Act→World→Prop}(hgd:o.guard=none) (s x:Operand)
 (hop:o.op=.call { callee:=.builtin .append,args:=#[s,x],argTypes:=#[59,59] })
 (B:Nat) (v:Value) (L:List Ep) (hs:a.eval s=v) (hO:LsE B w v L) (g:Nat) (y:Ep) (u:Value) (hu:RowI B w u y.m) (h1:u.oneCell'=true) (hx:a.eval x=.slice (some ⟨g,0,none⟩) 1 1) (hc:w.heap[g]?=some (.cells #[.int .i64 y.f,u] 62 (0,0))) (hlen:L.length≤1000000) (hB:B≤w.heap.size)
 (h:∀ v' w',LsE B w' v' (L++[y])→HiK B w w'→wpList Tryz.prog ops Q rest (a.put o.dst v') w'):wpList Tryz.prog ops Q (o :: rest) a w:=by
 obtain ⟨X,hR,hW,he⟩:=hO
 have hXl:X.length=L.length:=by rw [← he,List.length_map]
 obtain ⟨i0,hi,hz0,hz1,hz2⟩:=info_parts info_epochI
 refine wpList_append_own w hgd s x 59 hop B 62 i0 (.agg #[.int .i64 0,.slice none 0 0]) 2 32 Tryz.underlying59 hi hz0 hz1 hz2 rfl (by decide) v X.length (X.flatMap aeC) hs hR ⟨g,0,none⟩ 1 1 (aeC (y,u)) hx rfl (World.news_of_block hc) ?_ (by unfold maxLen;omega) (by omega) hB ?_
 ·intro z hz;simp [aeC] at hz;rcases hz with rfl | rfl <;> first | rfl | exact h1
 ·intro v' w' h2 h3 _
  refine h v' w' ⟨X++[(y,u)],?_,fun z hz=>?_,by simp [he]⟩ (grown_hi hR h3)
  ·unfold RowA
   rw [List.length_append,List.flatMap_append]
   simpa using h2
  ·rcases List.mem_append.1 hz with hz | hz
   ·exact row_otherI hR h3 (hW z hz) (by decide)
   ·simp at hz;subst hz
    exact row_otherI hR h3 hu (by decide)
theorem wl_appK {w:World}{ops:Array Oper}{rest:List Oper}{o:Oper}{a:Act}{Q:Exit→Act→World→Prop}(hgd:o.guard=none) (s x:Operand)
 (hop:o.op=.call { callee:=.builtin .append,args:=#[s,x],argTypes:=#[67,67] })
 (B:Nat) (v:Value) (L:List Com) (hs:a.eval s=v) (hO:KoO B w v L) (g:Nat) (y:Com) (u:Value) (hu:OwnC B w u y.c) (h1:u.oneCell'=true) (hx:a.eval x=.slice (some ⟨g,0,none⟩) 1 1) (hc:w.heap[g]?=some (.cells #[.int .i64 y.r,.int .i64 y.b,.string (str y.n),u] 76 (0,0))) (hlen:L.length≤1000000) (hB:B≤w.heap.size)
 (h:∀ v' w',KoO B w' v' (L++[y])→HiK B w w'→wpList Tryz.prog ops Q rest (a.put o.dst v') w'):wpList Tryz.prog ops Q (o :: rest) a w:=by
 obtain ⟨K,hR,hW,he⟩:=hO
 have hXl:K.length=L.length:=by rw [← he,List.length_map]
 refine wp_appK hgd s x hop B v K hs hR ⟨g,0,none⟩ 1 1 [(y,u)] hx rfl (World.news_of_block hc) (by simpa using h1) (by simp;omega) hB ?_
 intro v' w' h2 h3
 refine h v' w' ⟨K++[(y,u)],h2,fun z hz=>?_,by simp [he]⟩ (grown_hi hR h3)
 rcases List.mem_append.1 hz with hz | hz
 ·exact row_otherI hR h3 (hW z hz) (by decide)
 ·simp at hz;subst hz
  exact row_otherI hR h3 hu (by decide)
theorem wl_appSI {w:World}{ops:Array Oper}{rest:List Oper}{o:Oper}{a:Act}{Q:Exit→Act→World→Prop}(hgd:o.guard=none) (s x:Operand)
 (hop:o.op=.call { callee:=.builtin .append,args:=#[s,x],argTypes:=#[64,64] })
 (B:Nat) (v:Value) (L:List Se) (hs:a.eval s=v) (hO:LsS B w v L) (g:Nat) (y:Se) (u:Value) (hu:KoO B w u y.v.k) (h1:u.oneCell'=true) (hx:a.eval x=.slice (some ⟨g,0,none⟩) 1 1) (hc:w.heap[g]?=some (.cells #[.int .i64 y.i,.int .i64 y.q,.string (str y.n),.int .i64 y.v.c,.int .i64 y.v.s,.int .i64 y.v.r,.string (str y.v.p),.int .u64 y.v.d,u,.int .i64 y.v.m] 71 (0,0))) (hlen:L.length≤1000000) (hB:B≤w.heap.size)
 (h:∀ v' w',LsS B w' v' (L++[y])→HiK B w w'→wpList Tryz.prog ops Q rest (a.put o.dst v') w'):wpList Tryz.prog ops Q (o :: rest) a w:=by
 obtain ⟨X,hR,hW,he⟩:=hO
 have hXl:X.length=L.length:=by rw [← he,List.length_map]
 refine wp_appS hgd s x hop B v X hs hR ⟨g,0,none⟩ 1 1 [(y,u)] hx rfl (World.news_of_block hc) (by simpa using h1) (by simp;omega) hB ?_
 intro v' w' h2 h3
 refine h v' w' ⟨X++[(y,u)],h2,fun z hz=>?_,by simp [he]⟩ (grown_hi hR h3)
 rcases List.mem_append.1 hz with hz | hz
 ·exact ko_otherI hR h3 (hW z hz) (by decide) (by decide)
 ·simp at hz;subst hz
  exact ko_otherI hR h3 hu (by decide) (by decide)
end Go.Proofs.YtddhmfildfdbdaaGreat
