/-
  Texts laid as one.
-/
import Derived.Test.YtgpnlidnbldiiaaGreatQ5r
import Derived.Laws.AppendOwn
import Derived.OwnWalk
import Derived.WalkSmall
import Derived.Laws.Strings3
import Derived.Laws.Cover1
set_option maxHeartbeats 4000000
set_option maxRecDepth 100000
/-
 Rows of texts that are owned: one more at the end.
-/
namespace Go.Proofs.YtgpnlidnbldiiaaGreat
open Go.RowKit
theorem yH:(Tryz.prog.info? 9).map (fun i=>(i.zero,i.size,i.bytes))=some (some (.string ⟨#[]⟩),1,16):=by kernel_rfl
def gj (B:Nat) (w:World) (v:Value) (l:List (List UInt8)):Prop:=w.ownsRow B 9 1 v l.length (l.map fun x=>.string (ak x))
theorem gj.nil (B:Nat) (w:World):gj B w (.slice none 0 0) []:=World.ownsRow_nil w B 9 1
theorem pL {w:World}{ops:Array Oper}{rest:List Oper}{o:Oper}{a:Act}{Q:Exit→Act→World→Prop}(hgd:o.guard=none) (s x:Operand)
 (hop:o.op=.call { callee:=.builtin .append,args:=#[s,x],argTypes:=#[171,171] })
 (B:Nat) (v:Value) (l:List (List UInt8)) (hs:a.eval s=v) (hO:gj B w v l) (g:Nat) (y:List UInt8) (hx:a.eval x=.slice (some ⟨g,0,none⟩) 1 1) (hc:w.cell? ⟨g,0,none⟩=some (.string (ak y)))
 (hlen:l.length≤1000000000000) (hB:B≤w.heap.size)
 (h:∀ v' w',gj B w' v' (l++[y])→w.grownBy w' v.ownBlock→wpList Tryz.prog ops Q rest (a.put o.dst v') w'):wpList Tryz.prog ops Q (o :: rest) a w:=by
 obtain ⟨i0,hi,hz0,hz1,hz2⟩:=info_parts yH;refine wpList_append_own w hgd s x 171 hop B 9 i0 (.string ⟨#[]⟩) 1 16 Tryz.underlying171 hi hz0 hz1 hz2 rfl (by decide) v l.length (l.map fun x=>.string (ak x)) hs hO ⟨g,0,none⟩ 1 1 [.string (ak y)] hx rfl ?_ ?_ (by unfold maxLen;omega) (by omega) hB ?_
 ·intro j u hj;match j,hj with
  | 0,hj=>simp at hj;subst hj;simpa [Addr.add] using hc
 ·intro u hu;simp at hu;subst hu;rfl
 ·intro v' w' h1 h2 _;refine h v' w' ?_ h2;unfold gj;rw [List.length_append,List.map_append];exact h1
theorem gj.kept {S:List Nat}{B:Nat}{w w':World}{v:Value}{l:List (List UInt8)}(h:gj B w v l) (k:aa S w w') (hS:∀ i∈S,i < B∨w.heap.size≤i):gj B w' v l:=by
 refine k.ownsRow h ?_;intro b hb hm;have:=World.ownsRow.lt h b hb
 rcases hS b hm with h1 | h1 <;> omega
theorem gj.slice {B:Nat}{w:World}{v:Value}{l:List (List UInt8)}(h:gj B w v l) :
 ∃ ao c,v=.slice ao l.length c∧l.length≤c∧(∀ (j:Nat) x,l[j]?=some x→∃ g,ao=some ⟨g,0,none⟩∧w.cell? ⟨g,j,none⟩=some (.string (ak x))):=by
 have h':=h;obtain ⟨h1,h2⟩:=h;rcases h2 with ⟨hv,hn⟩ | ⟨g,cap,cur,hv,hg,hh,h3,h4,h5,h6⟩
 ·refine ⟨none,0,by rw [hv,hn],by omega,fun j x hx=>?_⟩;have:l=[]:=by simpa using hn
  subst this;cases hx
 ·refine ⟨some ⟨g,0,none⟩,cap,hv,h3,fun j x hx=>⟨g,rfl,?_⟩⟩
  have hj:j < l.length:=by
   by_cases e:j < l.length
   ·exact e
   ·rw [List.getElem?_eq_none (by omega)] at hx;cases hx
  unfold gj at h';rw [hv] at h';rw [World.ownsRow.cellAt h' j (by omega),List.getElem?_map,hx];rfl
theorem jK {B:Nat}{a w w':World}{v:Value}{l:List (List UInt8)}(h:aa [] a w) (hO:gj B w v l) (hB:a.heap.size≤B) (hg:w.grownBy w' v.ownBlock):aa [] a w' :=
 h.grown hg fun k hk=>.inr (Nat.le_trans hB (World.ownsRow.lt hO k hk).1)
theorem Ba (L:List UInt8) (f i:Nat):(ak L).extract f i=ak ((L.drop f).take (i - f)):=by
 rw [Lib.extract_eq,bE];rfl
theorem Bf (L:List UInt8) (f:Nat):(ak L).extract f (ak L).size=ak (L.drop f):=by
 rw [Lib.extract_eq,bE,bw,List.take_of_length_le (by simp)];rfl
theorem AX (L:List UInt8) (f i:Nat) (hf:f≤i) (hi:i < L.length):L.drop f=(L.drop f).take (i - f)++L[i] :: L.drop (i+1):=by
 have h1:=(List.take_append_drop (i - f) (L.drop f)).symm;rw [List.drop_drop,show f+(i - f)=i from by omega,List.drop_eq_getElem_cons hi] at h1;exact h1
theorem AO (L:List UInt8) (f i:Nat) (hf:f≤i) (hi:i < L.length) (hc:L[i]=47):L.drop f=(L.drop f).take (i - f)++47 :: L.drop (i+1):=by
 have h:=AX L f i hf hi;rw [hc] at h;exact h
theorem yA (L:List UInt8) (f i:Nat) (hf:f≤i) (hi:i < L.length):(L.drop f).take (i+1 - f)=(L.drop f).take (i - f)++[L[i]]:=by
 rw [show i+1 - f=(i - f)+1 from by omega,List.take_succ_eq_append_getElem (by simp;omega)];congr 2
 rw [List.getElem_drop];congr 1
 omega
theorem iM (L:List UInt8) (w:World) (hl:L.length≤100000000000) :
 Calls Tryz.prog 118 #[.string (ak L)] w fun e w'=>∃ v,e=.returned v∧gj w.heap.size w' v (aB L)∧aa [] w w':=by
 have hsz:((ak L).size:Int)=L.length:=by rw [bw]
 go_enter Tryz.func118,Tryz.ntmps118;go_wp2_with fail
 go_loopw [3,4,5] (fun v fv iv wr=>∃ (f i:Nat) (done:List (List UInt8)),fv=.int .i64 f∧iv=.int .i64 i∧f≤i∧i≤L.length∧done.length≤i∧gj w.heap.size wr v done∧aB L=done++aB (L.drop f)∧(47:UInt8) ∉ (L.drop f).take (i - f)∧aa [] w wr) (fun _ _ iv _=>L.length - (intOf iv).toNat)
 case atStart=>exact ⟨0,0,[],rfl,rfl,Nat.le_refl _,Nat.zero_le _,Nat.zero_le _,gj.nil _ _,rfl,by simp,aa.refl _ _⟩
 case round =>
  obtain ⟨f,i,done,rfl,rfl,hfi,hiL,hd,hO,hp,hno,hK⟩:=hrel;have hf':(f:Int)≤i:=by omega
  have hBw:=hK.size;by_cases hlt:i < L.length
  ·have hlt':i < (ak L).size:=by rw [bw];exact hlt
   have hget:(ak L)[i]=L[i]:=rfl;have hmid:=Ba L f i;by_cases hc:L[i]=47
   ·have hb:(((ak L)[i].toNat:Int)==47)=true:=by rw [hget,hc];rfl
    go_wp2_with (at_builtin;refine pL rfl _ _ rfl w.heap.size u3 done rfl (World.ownsRow.alloc hO _) wr.heap.size ((L.drop f).take (i - f)) rfl ?c1 (by omega) (by simp;omega) ?_)
    case c1=>rw [World.cell?_alloc_mark];rfl
    intro v' w' hO' hg;have hK':=jK (hK.alloc _) (World.ownsRow.alloc hO _) (Nat.le_refl _) hg;clear hg;go_wp2
    go_roundw
    case rel =>
     refine ⟨i+1,i+1,done++[(L.drop f).take (i - f)],by simp,by simp,Nat.le_refl _,by omega,by simp;omega,hO',?_,by simp,hK'⟩;rw [hp,List.append_assoc];congr 1
     conv=>lhs;rw [AO L f i hfi hlt hc]
     rw [jy _ _ hno];rfl
    case measure=>simp [intOf];omega
   ·have hb:((L[i].toNat:Int)==47)=false:=by
     have:L[i].toNat≠47:=fun e=>hc (UInt8.toNat_inj.1 e)
     simp;omega
    (go_wp2_with fail);go_roundw
    case rel=>exact ⟨f,i+1,done,rfl,by simp,by omega,by omega,by omega,hO,hp,by rw [yA L f i hfi hlt];simp only [List.mem_append,List.mem_singleton,not_or];exact ⟨hno,fun e=>hc e.symm⟩,hK⟩
    case measure=>simp [intOf];omega
  ·obtain rfl:i=L.length:=by omega
   have hno':(47:UInt8) ∉ L.drop f:=by rwa [List.take_of_length_le (by simp)] at hno
   rw [iD _ hno'] at hp;have hend:=Bf L f;have hfi':(f:Int)≤L.length:=by omega
   go_wp2_with (at_builtin;refine pL rfl _ _ rfl w.heap.size u3 done rfl (World.ownsRow.alloc hO _) wr.heap.size (L.drop f) rfl ?c2 (by omega) (by simp;omega) ?_)
   case c2=>rw [World.cell?_alloc_mark];rfl
   intro v' w' hO' hg;have hK':=jK (hK.alloc _) (World.ownsRow.alloc hO _) (Nat.le_refl _) hg;clear hg;rw [← hp] at hO';go_wp2
   go_ret
   exact ⟨v',rfl,hO',hK'⟩
theorem gj.some {B:Nat}{w:World}{v:Value}{l:List (List UInt8)}(h:gj B w v l) (hne:l≠[]) :
 ∃ g c,v=.slice (some ⟨g,0,none⟩) l.length c∧l.length≤c∧∀ (j:Nat) (hj:j < l.length),w.cell? ⟨g,j,none⟩=some (.string (ak l[j])):=by
 obtain ⟨ao,c,hv,hc,hcell⟩:=h.slice;obtain ⟨g,hg,_⟩:=hcell 0 _ (List.getElem?_eq_getElem (List.length_pos_iff.2 hne));refine ⟨g,c,by rw [hv,hg],hc,fun j hj=>?_⟩;obtain ⟨g',hg',hc'⟩:=hcell j _ (List.getElem?_eq_getElem hj);rw [hg] at hg';cases hg';exact hc'
theorem j7:∀ a b:List UInt8,Op.bytesLess a b=(Lib.compareBytes a b==-1)
 | [],[]=>rfl
 | [],_ :: _=>rfl
 | _ :: _,[]=>rfl
 | x :: a,y :: b=>by
   have ih:=j7 a b;unfold Op.bytesLess Lib.compareBytes;rw [ih];by_cases h1:x < y
   ·have:¬ y < x:=by rw [UInt8.lt_iff_toNat_lt] at h1 ⊢;omega
    simp [h1]
   ·by_cases h2:y < x
    ·simp [h1,h2]
     intro e;subst e;exact absurd h2 h1
    ·have:x=y:=by
      rw [UInt8.lt_iff_toNat_lt] at h1 h2;exact UInt8.toNat_inj.1 (by omega)
     simp [this]
theorem zK (p q:List UInt8):Op.bytesLess (ak p).toList (ak q).toList=(Lib.compareBytes p q==-1):=by rw [bl,bl,j7]
theorem yD (p q:List UInt8):((ak p).toList==(ak q).toList)=(Lib.compareBytes p q==0):=by
 rw [bl,bl,Bool.eq_iff_iff,beq_iff_eq,beq_iff_eq];exact (Dm.zero p q).symm
theorem xb {xs ys:List (List UInt8)}{i:Nat}(h1:i < xs.length) (h2:i < ys.length):kU (xs.drop i) (ys.drop i)=if Lib.compareBytes xs[i] ys[i]=0 then kU (xs.drop (i+1)) (ys.drop (i+1)) else Lib.compareBytes xs[i] ys[i]:=by
 rw [List.drop_eq_getElem_cons h1,List.drop_eq_getElem_cons h2];rfl
theorem jq (a b:List UInt8) (w:World) (ha:a.length≤100000000000) (hb:b.length≤100000000000) :
 Calls Tryz.prog 149 #[.string (ak a),.string (ak b)] w fun e w'=>e=.returned (.int .i64 (aA a b))∧aa [] w w':=by
 obtain ⟨R,hR⟩:∃ R,R=aA a b:=⟨_,rfl⟩;have hs0:kU (aB a) (aB b)=R:=hR.symm;rw [← hR];clear hR;go_enter Tryz.func149,Tryz.ntmps149;go_wp2_with fail
 refine (iM a _ ha).mono ?_;rintro e w1 ⟨va,rfl,hO1,hK1⟩;go_wp2_with fail
 refine (iM b _ hb).mono ?_;rintro e w2 ⟨vb,rfl,hO2,hK2⟩;have hK:aa [] w w2:=hK1.trans hK2 (by simp);have hO1':=hO1.kept hK2 (by simp);have n1:=fS a;have n2:=fS b;have l1:=i9 a;have l2:=i9 b;generalize aB a=xs at *;generalize aB b=ys at *;obtain ⟨ga,ca,rfl,hca,hxa⟩:=hO1'.some n1;obtain ⟨gb,cb,rfl,hcb,hxb⟩:=hO2.some n2;clear hO1 hO2 hO1' hK1 hK2;go_wp2_with fail
 go_loopw [7] (fun iv wr=>∃ (i n:Nat),iv=.int .i64 i∧i≤xs.length∧i≤ys.length∧wr=w2.drewN n∧kU (xs.drop i) (ys.drop i)=R) (fun iv _=>xs.length - (intOf iv).toNat)
 case atStart=>exact ⟨0,0,rfl,Nat.zero_le _,Nat.zero_le _,rfl,hs0⟩
 case round =>
  obtain ⟨i,n,rfl,hix,hiy,rfl,hc⟩:=hrel;clear hs0;by_cases h1:i < xs.length
  ·by_cases h2:i < ys.length
   ·have c1:=hxa i h1;have c2:=hxb i h2;have h1i:(i:Int) < xs.length:=by omega
    have h2i:(i:Int) < ys.length:=by omega
    rw [xb h1 h2] at hc;have e1:=zK xs[i] ys[i];have e2:=yD xs[i] ys[i];rcases kd xs[i] ys[i] with h3 | h3 | h3
    ·rw [h3] at hc e1;rw [if_neg (by decide)] at hc;subst hc;replace e1:Op.bytesLess (ak xs[i]).toList (ak ys[i]).toList=true:=e1;(go_wp2_with fail);go_region
     (go_wp2_with fail);go_ret
     exact ⟨rfl,hK.drewN _⟩
    ·rw [h3] at hc e1 e2;rw [if_pos rfl] at hc;replace e1:Op.bytesLess (ak xs[i]).toList (ak ys[i]).toList=false:=e1;replace e2:((ak xs[i]).toList==(ak ys[i]).toList)=true:=e2;(go_wp2_with fail);go_region
     (go_wp2_with fail);go_region
     (go_wp2_with fail);go_roundw
     case rel=>exact ⟨i+1,n+1+1,by simp,by omega,by omega,rfl,hc⟩
     case measure=>simp [intOf];omega
    ·rw [h3] at hc e1 e2;rw [if_neg (by decide)] at hc;subst hc;replace e1:Op.bytesLess (ak xs[i]).toList (ak ys[i]).toList=false:=e1;replace e2:((ak xs[i]).toList==(ak ys[i]).toList)=false:=e2;(go_wp2_with fail);go_region
     (go_wp2_with fail);go_region
     (go_wp2_with fail);go_ret
     exact ⟨rfl,hK.drewN _⟩
   ·have h2i:¬ (i:Int) < ys.length:=by omega
    have h3i:(ys.length:Int) < xs.length:=by omega
    rw [List.drop_eq_getElem_cons h1,List.drop_of_length_le (l:=ys) (by omega)] at hc;replace hc:(1:Int)=R:=hc;subst hc;(go_wp2_with fail);go_ret
    exact ⟨rfl,hK.drewN _⟩
  ·have h1i:¬ (i:Int) < xs.length:=by omega
   rw [List.drop_of_length_le (l:=xs) (by omega)] at hc;by_cases h2:i < ys.length
   ·have h3i:(xs.length:Int) < ys.length:=by omega
    rw [List.drop_eq_getElem_cons h2] at hc;replace hc:(-1:Int)=R:=hc;subst hc;(go_wp2_with fail);go_ret
    exact ⟨rfl,hK.drewN _⟩
   ·have h3i:(xs.length:Int)=ys.length:=by omega
    rw [List.drop_of_length_le (l:=ys) (by omega)] at hc;replace hc:(0:Int)=R:=hc;subst hc;(go_wp2_with fail);go_ret
    exact ⟨rfl,hK.drewN _⟩
theorem qn (c:UInt8) (pt:Bool) (w:World) :
 Calls Tryz.prog 148 #[.int .u8 (c.toNat:Int),.bool pt] w fun e w'=>e=.returned (.bool (eV pt c))∧w'=w:=by
 rw [kB];have h0:(0:Int)≤(c.toNat:Int):=by omega
 have h1:(c.toNat:Int) < 256:=by have:=c.toNat_lt;omega
 generalize (c.toNat:Int)=x at h0 h1;rcases (show x < 45∨x=45∨x=46∨x=47∨(48≤x∧x≤57)∨(57 < x∧x < 95)∨x=95∨x=96∨(97≤x∧x≤122)∨122 < x from by omega) with h | h | h | h | h | h | h | h | h | h
 all_goals
  cases pt
  all_goals
   go_enter Tryz.func148,Tryz.ntmps148;go_wp2
   go_ret
   refine ⟨congrArg Ending.returned (congrArg Value.bool ?_),rfl⟩;first | rfl | (rw [Bool.eq_iff_iff];simp;done) | (rw [Bool.eq_iff_iff];simp;omega)
theorem mR (l:List UInt8) (pt:Bool) (w:World) (hl:l.length≤140737488355328) :
 Calls Tryz.prog 119 #[.string (ak l),.bool pt] w fun e w'=>e=.returned (.bool (bu pt l))∧w'=w:=by
 have hsz:((ak l).size:Int)=l.length:=by rw [bw]
 by_cases h0:l=[]
 ·subst h0;rw [show bu pt []=false from rfl];go_enter Tryz.func119,Tryz.ntmps119;(go_wp2_with fail);go_ret
  exact ⟨rfl,rfl⟩
 have h0':0 < l.length:=List.length_pos_iff.2 h0;have hz:((l.length:Int)==0)=false:=by simpa using h0
 by_cases h24:l.length≤24
 ·have e1:bu pt l=l.all (eV pt):=by unfold bu;rw [decide_eq_true h0',decide_eq_true h24];simp
  rw [e1];have hi:(l.length:Int)≤24:=by omega
  obtain ⟨R,hR⟩:∃ R,R=l.all (eV pt):=⟨_,rfl⟩;rw [← hR];go_enter Tryz.func119,Tryz.ntmps119;(go_wp2_with fail);go_loop [5] (fun i=>∃ k:Nat,k≤l.length∧i=.int .i64 k∧(l.take k).all (eV pt)=true) (fun i=>l.length - (intOf i).toNat)
  case atStart=>exact ⟨0,Nat.zero_le _,rfl,rfl⟩
  case round =>
   obtain ⟨k,hk,rfl,hall⟩:=hrel;by_cases hlt:k < l.length
   ·have hlt':k < (ak l).size:=by rw [bw];exact hlt
    have cB:=qn (ak l)[k] pt;have hget:(ak l)[k]=l[k]:=rfl;rw [hget] at cB;(go_wp2_with fail);cases hb:eV pt l[k] with
    | false =>
      rw [hb] at cB
      have hall':l.all (eV pt)=false:=by
       rw [List.all_eq_false];exact ⟨l[k],List.getElem_mem hlt,by simp [hb]⟩
      rw [hall'] at hR;subst hR;refine (cB _).mono ?_;rintro e w' ⟨rfl,rfl⟩;go_wp2
      go_ret
      exact ⟨rfl,rfl⟩
    | true =>
      rw [hb] at cB;refine (cB _).mono ?_;rintro e w' ⟨rfl,rfl⟩;go_wp2
      go_round
      case rel=>exact ⟨k+1,by omega,by simp,gD hlt hall hb⟩
      case measure=>simp [intOf];omega
   ·obtain rfl:k=l.length:=by omega
    rw [List.take_length] at hall;rw [hall] at hR;subst hR;go_wp2
    go_ret
    exact ⟨rfl,rfl⟩
 ·have e1:bu pt l=false:=by unfold bu;rw [decide_eq_false h24];simp
  rw [e1];have hi:24 < (l.length:Int):=by omega
  go_enter Tryz.func119,Tryz.ntmps119;(go_wp2_with fail);go_ret
  exact ⟨rfl,rfl⟩
theorem jG (l:List UInt8) (w:World) (hl:l.length≤140737488355328) :
 Calls Tryz.prog 87 #[.string (ak l)] w fun e w'=>e=.returned (.bool (bu false l))∧w'=w:=by
 have cW:=mR l false;generalize bu false l=b at cW;go_enter Tryz.func87,Tryz.ntmps87;go_wp2_with fail
 refine (cW _ hl).mono ?_;rintro e w' ⟨rfl,rfl⟩;go_wp2
 go_ret
 exact ⟨rfl,rfl⟩
theorem qg (a b:List UInt8):ak a++ak b=ak (a++b):=by
 rw [mK (ak a++ak b),ByteArray.data_append,Array.toList_append,bE,bE]
theorem zh {B:Nat}{w:World}{g c:Nat}{l:List (List UInt8)}(h:gj B w (.slice (some ⟨g,0,none⟩) l.length c) l) (hne:l≠[]):gj B w (.slice (some ⟨g,0,none⟩) (l.length - 1) c) l.dropLast:=by
 obtain ⟨l',x,rfl⟩:∃ l' x,l=l'++[x]:=⟨l.dropLast,l.getLast hne,(List.dropLast_concat_getLast hne).symm⟩;unfold gj at h ⊢;rw [List.length_append,List.map_append] at h;rw [List.dropLast_concat,show (l'++[x]).length - 1=l'.length from by simp];exact ownsRow_pop (by simp) h
theorem wv (k:List (List UInt8)) (h:0 < k.length):bg (k.take 1)=k[0]:=by
 cases k with
 | nil=>simp at h
 | cons p r=>exact fm p
theorem wQ (k:List (List UInt8)) (j:Nat) (h0:0 < j) (h:j < k.length):bg (k.take (j+1))=bg (k.take j)++[47]++k[j]:=by
 have h1:k.take j≠[]:=by
  intro e;have h2:(k.take j).length=j:=by rw [List.length_take];omega
  rw [e,List.length_nil] at h2;omega
 rw [List.take_succ_eq_append_getElem h,xJ _ _ h1 (by simp),fm];simp
theorem kn (l:List UInt8) (w:World) (hl:l.length≤1000000000) :
 Calls Tryz.prog 78 #[.string (ak l)] w fun e w'=>e=.returned (rA (dJ l))∧aa [] w w':=by
 have cR:=iM l w (by omega);have hN:=i9 l;have hfree:=iW l;have hsh:=kD l;obtain ⟨T,hT⟩:∃ T,T=rA (dJ l):=⟨_,rfl⟩;rw [← hT];unfold dJ at hT;obtain ⟨R,hR⟩:∃ R,gi [] (aB l)=R:=⟨_,rfl⟩;rw [hR] at hT
 have hsub:∀ k,R=some k→∀ p∈k,p.length≤l.length:=by
  intro k hk p hp;rw [hk] at hR;rcases sg _ _ _ hR p hp with h | h
  ·simp at h
  ·exact hsh p h
 go_enter Tryz.func78,Tryz.ntmps78;go_wp2_with fail
 refine cR.mono ?_;rintro e w1 ⟨v,rfl,hO,hK1⟩;have hne:=fS l;generalize aB l=ps at *;obtain ⟨gl,cl,rfl,hcl,hcell⟩:=hO.some hne;have hgl:=(World.ownsRow.lt hO gl rfl).2;clear hO cR hfree hsh;go_wp2_with fail
 go_loopw [5,6] (fun ov iv wr=>∃ (i:Nat) (k:List (List UInt8)),iv=.int .i64 i∧i≤ps.length∧k.length≤i∧gj w1.heap.size wr ov k∧gi k (ps.drop i)=R∧aa [] w1 wr) (fun _ iv _=>ps.length - (intOf iv).toNat)
 case atStart=>exact ⟨0,[],rfl,Nat.zero_le _,Nat.zero_le _,gj.nil _ _,hR,aa.refl _ _⟩
 case round =>
  obtain ⟨i,k,rfl,hi,hki,hO,hres,hK⟩:=hrel;clear hR;have hKw:aa [] w wr:=hK1.trans hK (by simp);by_cases hlt:i < ps.length
  ·have hc:=hK.cell (hcell i hlt) (by simp);rw [List.drop_eq_getElem_cons hlt] at hres;simp only [gi] at hres;have hii:(i:Int) < ps.length:=by omega
   generalize hp:ps[i]=p at *;obtain ⟨ao,c,rfl,hc2,_⟩:=hO.slice;by_cases e0:p=[]
   ·subst e0;have t0:=dN;rw [if_pos (.inl rfl)] at hres;(go_wp2_with fail);go_roundw
    case rel=>exact ⟨i+1,k,by simp,by omega,by omega,hO,hres,hK⟩
    case measure=>simp [intOf];omega
   ·have t0:=nt e0;by_cases e1:p=[46]
    ·subst e1;have t1:((ak [46]).toList==[46])=true:=by rw [bl];rfl
     rw [if_pos (.inr rfl)] at hres;(go_wp2_with fail);go_roundw
     case rel=>exact ⟨i+1,k,by simp,by omega,by omega,hO,hres,hK⟩
     case measure=>simp [intOf];omega
    ·have t1:((ak p).toList==[46])=false:=by rw [bl];simpa using e1
     rw [if_neg (by simp [e0,e1])] at hres;by_cases e2:p=[46,46]
     ·subst e2;have t2:((ak [46,46]).toList==[46,46])=true:=by rw [bl];rfl
      rw [if_pos rfl] at hres;by_cases h0:k=[]
      ·subst h0;rw [if_pos rfl] at hres;subst hres;subst hT;(go_wp2_with fail);go_ret2
       exact ⟨rfl,hKw⟩
      ·have hpos:=List.length_pos_iff.2 h0;have h0i:0 < (k.length:Int):=by omega
       have hz:((k.length:Int)==0)=false:=by simpa using h0
       rw [if_neg h0] at hres;obtain ⟨g,c',hv,hc',_⟩:=hO.some h0;cases hv
       have hO':=zh hO h0;(go_wp2_with fail);go_roundw
       case rel=>exact ⟨i+1,k.dropLast,by simp,by omega,by simp;omega,hO',hres,hK⟩
       case measure=>simp [intOf];omega
     ·have t2:((ak p).toList==[46,46])=false:=by rw [bl];simpa using e2
      rw [if_neg e2] at hres;go_wp2_with (at_builtin;refine pL rfl _ _ rfl w1.heap.size _ k rfl (World.ownsRow.alloc hO _) wr.heap.size p rfl ?c1 (by omega) (by have:=hK.size;simp;omega) ?_)
      case c1=>rw [World.cell?_alloc_mark];rfl
      intro v' w' hO' hg;have hK':=jK (hK.alloc _) (World.ownsRow.alloc hO _) (Nat.le_refl _) hg;clear hg;go_wp2
      go_roundw
      case rel=>exact ⟨i+1,k++[p],by simp,by omega,by simp;omega,hO',hres,hK'⟩
      case measure=>simp [intOf];omega
  ·obtain rfl:i=ps.length:=by omega
   rw [List.drop_length] at hres;simp only [gi] at hres;subst hres;have hT':T=rA (gR k):=hT;have hsub':=hsub k rfl;clear hT hsub;by_cases h0:k=[]
   ·subst h0;obtain ⟨ao,c,rfl,hc2,_⟩:=hO.slice;rw [show gR []=none from rfl] at hT';subst hT';(go_wp2_with fail);go_ret2
    exact ⟨rfl,hKw⟩
   ·have hpos:=List.length_pos_iff.2 h0;have hz:((k.length:Int)==0)=false:=by simpa using h0
    obtain ⟨g,c',rfl,hc',hcl2⟩:=hO.some h0;by_cases h8:k.length≤8
    ·have h8i:(k.length:Int)≤8:=by omega
     clear hcell hO hK;(go_wp2_with fail);go_loop [7,8] (fun pv iv=>∃ j:Nat,j≤k.length∧iv=.int .i64 j∧pv=.string (ak (bg (k.take j)))∧(k.take j).all (bu true)=true) (fun _ iv=>k.length - (intOf iv).toNat)
     case atStart=>exact ⟨0,Nat.zero_le _,rfl,rfl,rfl⟩
     case round =>
      obtain ⟨j,hj,rfl,rfl,hall⟩:=hrel;have hjl:(bg (k.take j)).length≤8*(l.length+1):=qD _ 8 l.length (by simp;omega) (fun p hp=>hsub' p (List.mem_of_mem_take hp));have sP:((ak (bg (k.take j))).size:Int)=(bg (k.take j)).length:=by rw [bw]
      by_cases hlt:j < k.length
      ·have hc:=hcl2 j hlt;clear hcl2;have hyl:=hsub' k[j] (List.getElem_mem hlt);have hnx:=iG hlt hall
       have hno:bu true k[j]=false→k.all (bu true)=false:=fun h=>by
        rw [List.all_eq_false];exact ⟨k[j],List.getElem_mem hlt,by simp [h]⟩
       have hz0:j=0→bg (k.take (j+1))=k[j]:=fun h=>by subst h;exact wv k hlt
       have hzs:0 < j→bg (k.take (j+1))=bg (k.take j)++[47]++k[j]:=fun h=>wQ k j h hlt;generalize k[j]=y at *;have sy:((ak y).size:Int)=y.length:=by rw [bw]
       have cW:=mR y true wr (by omega);have hji:(j:Int) < k.length:=by omega
       (go_wp2_with fail);cases hw:bu true y with
       | false =>
         rw [hw] at cW;rw [show gR k=none from by unfold gR;rw [if_neg (by simp [h0];omega),if_neg (by simp [hno hw])]] at hT';subst hT';refine cW.mono ?_;rintro e w' ⟨rfl,rfl⟩;(go_wp2_with fail);go_ret2
         exact ⟨rfl,hKw⟩
       | true =>
         rw [hw] at cW;replace hnx:=hnx hw;by_cases hj0:j=0
         ·subst hj0;have e1:=hz0 rfl;have e2:ak (bg (k.take 0))++ak y=ak (bg (k.take (0+1))):=by rw [e1];exact qg [] y
          generalize bg (k.take 0)=Q at *;generalize hQ':bg (k.take (0+1))=Q' at *;clear hno hzs hz0 e1;refine cW.mono ?_;rintro e w' ⟨rfl,rfl⟩;(go_wp2_with fail);go_round
          case rel=>exact ⟨0+1,by omega,by simp,by rw [hQ'],hnx⟩
          case measure=>simp [intOf];omega
         ·have e1:=hzs (by omega);have e2:ak (bg (k.take j))++⟨#[47]⟩++ak y=ak (bg (k.take (j+1))):=by rw [e1,← qg,← qg];rfl
          have hj0i:(0:Int) < j:=by omega
          generalize bg (k.take j)=Q at *;generalize hQ':bg (k.take (j+1))=Q' at *;clear hno hzs hz0 e1;refine cW.mono ?_;rintro e w' ⟨rfl,rfl⟩;(go_wp2_with fail);go_round
          case rel=>exact ⟨j+1,by omega,by simp,by rw [hQ'],hnx⟩
          case measure=>simp [intOf];omega
      ·obtain rfl:j=k.length:=by omega
       rw [List.take_length] at hall hjl sP;rw [List.take_length]
       have hfn:gR k=if (bg k).length≤64 then some (bg k) else none:=by
        unfold gR;rw [if_neg (by simp [h0];omega),hall];simp
       rw [hfn] at hT';clear hfn;generalize bg k=J at *;by_cases h64:J.length≤64
       ·rw [if_pos h64] at hT';subst hT';have hi64:(J.length:Int)≤64:=by omega
        (go_wp2_with fail);go_ret2
        exact ⟨rfl,hKw⟩
       ·rw [if_neg h64] at hT';subst hT';have hi64:64 < (J.length:Int):=by omega
        (go_wp2_with fail);go_ret2
        exact ⟨rfl,hKw⟩
    ·have h8i:8 < (k.length:Int):=by omega
     rw [show gR k=none from by unfold gR;rw [if_pos (.inr (by omega))]] at hT';subst hT';(go_wp2_with fail);go_ret2
     exact ⟨rfl,hKw⟩
end Go.Proofs.YtgpnlidnbldiiaaGreat
