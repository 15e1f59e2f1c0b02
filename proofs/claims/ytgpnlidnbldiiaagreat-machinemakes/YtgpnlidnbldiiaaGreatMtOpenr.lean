/-
  The document's own table: Open.
-/
import Derived.Test.YtgpnlidnbldiiaaGreatW7r
import Derived.BigQuiet
import Derived.Deep.AppendLies
namespace Go.Proofs.YtgpnlidnbldiiaaGreat
open Go.RowKit
variable {P : Nat → Prop}
theorem iV {w:World}{ops:Array Oper}{rest:List Oper}{o:Oper}{a:Act}{Q:Exit→Act→World→Prop}(hgd:o.guard=none) (s x:Operand)
 (hop:o.op=.call { callee:=.builtin .append,args:=#[s,x],argTypes:=#[51,51] })
 (B:Nat) (v:Value) (M:List (Se × Value)) (hs:a.eval s=v) (hO:bp B w v M) (ad:Addr) (m c:Nat) (N:List (Se × Value)) (hx:a.eval x=.slice (some ad) m c) (hm:m=N.length) (hc:∀ (j:Nat) (u:Value),(N.flatMap dU)[j]?=some u→w.cell? (ad.add j)=some u) (h1:∀ x∈N,x.2.oneCell'=true) (hpos:0 < m)
 (hlen:M.length+N.length≤1000000000) (hB:B≤w.heap.size)
 (h:∀ g n cap w',bp B w' (.slice (some ⟨g,0,none⟩) n cap) (M++N)→w.grownBy w' v.ownBlock→(v.ownBlock=some g∨g=w.heap.size)→wpList Tryz.prog ops Q rest (a.put o.dst (.slice (some ⟨g,0,none⟩) n cap)) w'):wpList Tryz.prog ops Q (o :: rest) a w:=by
 subst hm;obtain ⟨i0,hi,hz0,hz1,hz2⟩:=info_parts dW;refine wpList_append_lies w hgd s x 51 hop B 155 i0 _ 10 112 Tryz.underlying51 hi hz0 hz1 hz2 rfl (by decide) v M.length (M.flatMap dU) hs hO ad N.length c (N.flatMap dU) hx (eq N) hc (lO h1) hpos (by unfold maxLen;omega) (by omega) hB _ rfl ?_;intro g' cap w' h2 h3 h4 _;refine h g' _ cap w' ?_ h3 h4;unfold bp;rw [List.length_append,List.flatMap_append];exact h2
theorem eH.push {w:World}{b sz:Nat}{v:Value}{X:List (Se × Value)}{L:List Se}(h:eH P w b sz v X L) {w':World}{x:Se}{u:Value}(hO:io P w u x.v.k) {g n cap:Nat}
 (hR:bp 0 w' (.slice (some ⟨g,0,none⟩) n cap) (X++[(x,u)])) (hg:w.grownBy w' v.ownBlock) (hat:v.ownBlock=some g∨g=w.heap.size) :
 eH P (w'.setCell ⟨b,1,none⟩ (.slice (some ⟨g,0,none⟩) n cap)) b sz (.slice (some ⟨g,0,none⟩) n cap) (X++[(x,u)]) (L++[x])∧aa (aW b v) w (w'.setCell ⟨b,1,none⟩ (.slice (some ⟨g,0,none⟩) n cap))∧w'.heap[b]?=some (.cells #[.int .i64 sz,v] 96 (0,0)):=by
 have hT:aJ w v.ownBlock.toList [155]:=fun k hk cur t' mk hh=>by
  obtain ⟨c2,h2⟩:=ar h.row (aw.1 hk);rw [h2] at hh;cases hh;simp
 have hK:aa v.ownBlock.toList w w':=(aa.refl _ w).grown hg fun k hk=>.inl (aw.2 hk);have hbv:b ∉ v.ownBlock.toList:=fun hm=>by have:=hT b hm _ _ _ h.at_;simp at this
 have hb':=hK.at h.at_ hbv;have hblt:=aq h.at_
 have hgb:g≠b:=fun e=>by
  subst e;rcases hat with hat | hat
  ·exact hbv (aw.2 hat)
  ·omega
 have hK2:aa [b] w' (w'.setCell ⟨b,1,none⟩ (.slice (some ⟨g,0,none⟩) n cap)):=(aa.refl _ _).setCell (by simp) _;refine ⟨⟨heap_setCell_same w' b 1 _ _ _ hb',hK2.ownsRow hR (fun k hk=>by simp [Value.ownBlock] at hk;subst hk;simpa using hgb),?_,by simp [h.ses]⟩,(hK.mono (by intro k hk;exact .inl (by simp [aW,aw.1 hk]))).setCell (.inl (by simp [aW])) _,hb'⟩;intro y hy
 have hy2:io P w y.2 y.1.v.k:=by
  rcases List.mem_append.1 hy with hy | hy
  ·exact h.own y hy
  ·simp at hy;subst hy;exact hO
 exact (hy2.keep hK hT (by decide) (by decide)).keep hK2 (dw hb') (by decide) (by decide)
theorem iP {w w':World}{b:Nat}{v v2:Value}(h:aa (aW b v2) w w') (hv:∀ k,v2.ownBlock=some k→v.ownBlock=some k∨w.heap.size≤k):aa (aW b v) w w':=by
 refine h.mono fun k hk=>?_;rcases List.mem_cons.1 hk with rfl | hk
 ·exact .inl (by simp [aW])
 ·rcases hv k (aw.1 hk) with e | e
  ·exact .inl (by simp [aW,e])
  ·exact .inr e
set_option maxHeartbeats 16000000 in
set_option maxRecDepth 100000 in
theorem uB {w:World}{b sz:Nat}{v:Value}{X:List (Se × Value)}{L:List Se}(h:eH P w b sz v X L) (hl:L.length≤sz) (hs:sz≤1000) (hp:1≤sz) (n:List UInt8) (id:Int) :
 Calls Tryz.prog 88 #[.pointer (some ⟨b,0,none⟩),.string (ak n),.int .i64 id] w fun e w'=>e=.returned (.int .i64 (eF n id L))∧Bv P w b sz v (cd sz n id L) w':=by
 have hl5:L.length≤100000:=by omega
 obtain ⟨ao,c,hv,hc,hm,_,hat⟩:=h.row.t.shape;subst hv;unfold maxLen at hm;have HT:=ah h;have HA:=ah hat;have hXL:=h.len;have HXL:=ah hXL;have hXl:X.length≤1000:=by omega
 have H1:Hid (∀ x∈X,x.2.oneCell'=true):=h.ones;clear h hat hXL;go_enter Tryz.func88,Tryz.ntmps88;go_wp2_with fail
 go_loopw [7] (fun iv wr=>DH w L (fun x=>decide (x.n=n)) iv wr) (fun iv _=>X.length - (intOf iv).toNat)
 case atStart=>exact ⟨0,rfl,Nat.zero_le _,fun k _ hk=>by omega,aa.refl _ _⟩
 case round =>
  obtain ⟨j,rfl,hj,HF,HK⟩:=hrel;have t1:=(HT.out.kept HK.out).cells.2;by_cases hlt:j < X.length
  ·have hlt':(j:Int) < X.length:=by omega
   have hjc:j≤c:=by omega
   have hjL:j < L.length:=by rw [← HXL.out];exact hlt
   have hCk:=dm HT.out.ses hlt hjL;obtain ⟨g,he,hx⟩:=HA.out j hlt;subst he;have h0:=(hx.kept HK.out (by simp)).c0;have h2:=(hx.kept HK.out (by simp)).c2;rw [hCk] at h0 h2;have HT2:=ah (fun h=>lP (f:=fun x=>decide (x.n=n)) hjL HF.out h)
   have HF2:Hid (decide (L[j].n=n)=false→∀ k (h:k < L.length),k < j+1→(fun x:Se=>decide (x.n=n)) L[k]=false):=fun h k hk hk2=>by
    by_cases e:k=j
    ·subst e;exact h
    ·exact HF.out k hk (by omega)
   have cL:=mf (HT.out.kept HK.out) hl5 j hjL;have HG:Hid (L.getD j sJ=L[j]):=cy hjL;generalize L[j]=x at *;clear hx hCk;by_cases hd:x.n=n
   ·have HE:Hid (oS n L=some j):=HT2.out (by simpa using hd);have hq:((ak x.n).toList==(ak n).toList)=true:=by rw [kE];simp [hd]
    have HO1:Hid (eF n id L=x.i):=by show _=_;unfold eF;rw [HE.out];exact congrArg Se.i HG.out
    have HO2:Hid (cd sz n id L=fN L j):=by show _=_;unfold cd;rw [HE.out]
    clear hd;(go_wp2_with fail);refine cL.mono ?_;rintro _ w2 ⟨rfl,v2,X2,hT2,hK2,hv2⟩
    have HEn:Hid (Bv P w b sz (.slice (some ⟨g,0,none⟩) X.length c) (cd sz n id L) w2):=by
     show Bv _ _ _ _ _ _ _;rw [HO2.out];exact ⟨v2,X2,hT2,(HK.out.mono (by simp)).trans hK2 (fun k hk=>.inl hk),fun k hk=>(hv2 k hk).imp (fun e=>e) (fun e=>Nat.le_trans HK.out.size e)⟩
    clear hT2 hK2 hv2 cL;(go_wp2_with fail);go_ret
    exact ⟨by rw [HO1.out];rfl,HEn.out⟩
   ·have HE:=ah (HF2.out (by simpa using hd));have hq:((ak x.n).toList==(ak n).toList)=false:=by rw [kE];simp [hd]
    clear hd;(go_wp2_with fail);go_roundw
    case rel=>exact ⟨j+1,by go_num,hjL,HE,HK⟩
    case measure=>simp [intOf];omega
  ·have hlt':¬ (j:Int) < X.length:=by omega
   have HN:Hid (oS n L=none):=jc (j:=j) (by rw [← HXL.out];exact hlt) HF.out;have cF:=jQ (HT.out.kept HK.out) hl5 id;have HOI:Hid (eF n id L=id):=by show _=_;unfold eF;rw [HN.out]
   have HOL0:Hid (cd sz n id L=gV sz (dk id L)++[⟨id,0,n,cq 0⟩]):=by show _=_;unfold cd;rw [HN.out]
   cases hI:ir id L with
   | some i =>
     obtain ⟨hi,_⟩:=eo hI;have hiX:i < X.length:=by rw [HXL.out];exact hi
     obtain ⟨g,he,_⟩:=HA.out i hiX;subst he;have HRs:Hid (dk id L=cn L i):=by show _=_;unfold dk;rw [hI]
     rw [hI] at cF;simp only [kI] at cF;have hii:(i:Int) < X.length:=by omega
     have hic:i≤c:=by omega
     have hi0:(0:Int)≤i:=by omega
     (go_wp2_with fail);refine cF.mono ?_;rintro _ Wa ⟨rfl,hKf⟩;have HTa:=ah ((HT.out.kept HK.out).kept hKf);replace HK:=ah (HK.out.trans hKf (by simp));have HLt:Hid (i=(X.take i).length):=by show _=_;simp;omega
     have H1t:Hid (∀ x∈X.take i,x.2.oneCell'=true):=fun x hx=>H1.out x (List.mem_of_mem_take hx);have H1d:Hid (∀ x∈X.drop (i+1),x.2.oneCell'=true):=fun x hx=>H1.out x (List.mem_of_mem_drop hx);have HB1:Hid (([]:List (Se × Value)).length+(X.take i).length≤1000000000):=by show _≤_;simp;omega
     have HB2:Hid ((X.take i).length+(X.drop (i+1)).length≤1000000000):=by show _≤_;simp;omega
     have hO0:=jb Wa Wa.heap.size (Nat.le_refl _);have hA0:=(aa.refl [] Wa).alloc (.cells #[] 155);have d1:=(HTa.out.kept hA0).cells.2;have HR0:=ah (HTa.out.kept hA0).row.t;clear cF hKf t1;by_cases hck:c=i+1
     ·subst hck;have HDn:Hid (X.drop (i+1)=[]):=List.drop_of_length_le (by omega);have HD1:Hid (∀ {W:World}(j:Nat) (u:Value),((X.drop (i+1)).flatMap dU)[j]?=some u→W.cell? ((⟨g,0,none⟩:Addr).add j)=some u):=fun j u hj=>by rw [HDn.out] at hj;simp at hj
      go_wp2_with (at_builtin;refine dT rfl _ _ rfl Wa.heap.size _ [] rfl hO0 ⟨g,0,none⟩ i _ (X.take i) rfl HLt.out ((HR0.out).run0 i) H1t.out HB1.out (by simp) ?p1)
      case p1 =>
       intro v1 w1 hR1 hg1;replace hR1:bp Wa.heap.size w1 v1 (X.take i):=hR1;have HK1:=ah (hA0.grown hg1 fun k hk=>.inr (World.ownsRow.lt hO0 k hk).1);have HR1:=ah hR1;have d1b:=(HTa.out.kept HK1.out).cells.2;have HRw1:=ah (HTa.out.kept HK1.out).row.t;have hs1:Wa.heap.size≤w1.heap.size:=HK1.out.size;clear hR1 hg1 hO0 hA0 d1 HR0;go_wp2_with (at_builtin;refine dT rfl _ _ rfl Wa.heap.size _ (X.take i) rfl HR1.out ⟨g,0,none⟩ _ _ (X.drop (i+1)) rfl (by rw [HDn.out];first | rfl | (simp;omega)) HD1.out H1d.out HB2.out hs1 ?p2)
       case p2 =>
        intro v3 w3 hR3 hg3;replace hR3:bp Wa.heap.size w3 v3 (cn X i):=hR3;have HK3:=ah (HK1.out.grown hg3 fun k hk=>.inr (World.ownsRow.lt HR1.out k hk).1);obtain ⟨ao2,n2,c2,rfl⟩:=hR3.t.one;have hT3:=HTa.out.kept HK3.out;obtain ⟨e0,e1⟩:=hT3.cells;have fz:=aj hT3.at_ 1;obtain ⟨w2,hw2⟩:∃ w2,w2=w3.setCell ⟨b,1,none⟩ (.slice ao2 n2 c2):=⟨_,rfl⟩
        have HT2:Hid (eH P w2 b sz (.slice ao2 n2 c2) (cn X i) (dk id L)):=by
         show eH _ _ _ _ _ _ _;rw [hw2];exact HTa.out.store HK3.out (hR3.mono (Nat.zero_le _)) (fun y hy=>(HTa.out.own y (eI hy)).kept HK3.out) (by rw [gd,HTa.out.ses,HRs.out])
        have HK2:Hid (aa [b] w w2):=by show aa _ _ _;rw [hw2];exact ((HK.out.trans HK3.out (by simp)).mono (by simp)).setCell (by simp) _
        have HV2:Hid (∀ k,(Value.slice ao2 n2 c2).ownBlock=some k→(Value.slice (some ⟨g,0,none⟩) X.length (i+1)).ownBlock=some k∨w.heap.size≤k):=fun k hk=>.inr (Nat.le_trans HK.out.size (World.ownsRow.lt hR3 k hk).1);have HSh:=ah hR3.t.shape;clear hR3 hg3 hT3;go_upto_region 12 with fail
        rw [← hw2];clear hw2 e0 e1 fz d1b;obtain ⟨X2,hX2⟩:∃ X2,X2=cn X i:=⟨_,rfl⟩;obtain ⟨L2,hL2⟩:∃ L2,L2=dk id L:=⟨_,rfl⟩;rw [← hX2,← hL2] at HT2
        have hn2:n2=X2.length:=by
         obtain ⟨a',c',e',_⟩:=HSh.out;cases e';rw [hX2]
        have hlen2:X2.length+1=L.length:=by rw [hX2,cu hiX,HXL.out];omega
        have HOL:Hid (cd sz n id L=L2++[⟨id,0,n,cq 0⟩]):=by
         show _=_;rw [HOL0.out,hL2];unfold gV;rw [if_neg (by rw [← hL2,← HT2.out.len];omega)]
        have HLe:Hid (X2.length+([(⟨id,0,n,cq 0⟩,.slice none 0 0)]:List (Se × Value)).length≤1000000000):=by show _≤_;simp;omega
        have hqs:((sz:Int)≤(n2:Int))=False:=eq_false (by omega);obtain ⟨q0,q1⟩:=HT2.out.cells;have hdq:decide ((sz:Int)≤(n2:Int))=false:=by simp;omega
        have hdn:decide (sz≤n2)=false:=by simp;omega
        have hdi:¬ (sz:Int)≤(n2:Int):=by omega
        clear hX2 hL2 HSh hqs hn2;go_quiet (fail)
        have hKd:=aN w2 nq;replace HT2:=ah (HT2.out.kept hKd);replace HK2:=ah (HK2.out.trans hKd (by simp));clear q0 q1 hKd;generalize w2.drewN nq=w5 at *;have hT2:=HT2.out;obtain ⟨c0,c1⟩:=hT2.cells;have hKb:=(aa.refl [] w5).alloc (.cells #[.int .i64 id,.int .i64 0,.string (ak n),.int .i64 0,.int .i64 0,.int .i64 0,.string ⟨#[]⟩,.int .u64 0,.slice none 0 0,.int .i64 0] 155);have HTb:=ah (hT2.kept hKb);have HNw:=eT (x:=(⟨id,0,n,cq 0⟩,.slice none 0 0)) rfl (heap_alloc_new w5 (.cells #[.int .i64 id,.int .i64 0,.string (ak n),.int .i64 0,.int .i64 0,.int .i64 0,.string ⟨#[]⟩,.int .u64 0,.slice none 0 0,.int .i64 0] 155));have HRb:=ah HTb.out.row;clear hT2;go_wp2_with (at_builtin;refine iV rfl _ _ rfl 0 _ X2 rfl HRb.out ⟨w5.heap.size,0,none⟩ 1 1 [(⟨id,0,n,cq 0⟩,.slice none 0 0)] rfl rfl HNw (by intro y hy;simp at hy;subst hy;rfl) (by omega) HLe.out (Nat.zero_le _) ?t1)
        case t1 =>
         intro g3 n3 c3 w3 hR3 hg3 hat3;have hP3:=HTb.out.push (x:=⟨id,0,n,cq 0⟩) (io.nil _) hR3 hg3 (by rw [World.size_alloc];exact hat3);have HE:=ah hP3.1;have HKe:=ah ((HK2.out.trans hKb (by simp)).mono (T:=aW b (.slice ao2 n2 c2)) (by intro k hk;simp at hk;subst hk;exact .inl (by simp [aW])) |>.trans hP3.2.1 (fun k hk=>.inl hk))
         have HVe:Hid (∀ k,(Value.slice (some ⟨g3,0,none⟩) n3 c3).ownBlock=some k→(Value.slice (some ⟨g,0,none⟩) X.length (i+1)).ownBlock=some k∨w.heap.size≤k):=fun k hk=>by
          cases hk
          rcases hat3 with e | e
          ·exact HV2.out _ e
          ·rw [e];exact .inr (Nat.le_trans HK2.out.size (by simp))
         have f3:=hP3.2.2;have c3b:=ag (k:=1) f3 rfl;have fz:=aj f3 1;clear hR3 hg3 hat3 hP3 f3 c0 c1;(go_wp2_with fail);go_ret
         exact ⟨by rw [HOI.out];rfl,_,_,by rw [HOL.out];exact HE.out,iP HKe.out HV2.out,HVe.out⟩
     ·have HLd:Hid (X.length - (i+1)=(X.drop (i+1)).length):=by show _=_;simp
      go_wp2_with (at_builtin;refine dT rfl _ _ rfl Wa.heap.size _ [] rfl hO0 ⟨g,0,none⟩ i _ (X.take i) rfl HLt.out ((HR0.out).run0 i) H1t.out HB1.out (by simp) ?p1)
      case p1 =>
       intro v1 w1 hR1 hg1;replace hR1:bp Wa.heap.size w1 v1 (X.take i):=hR1;have HK1:=ah (hA0.grown hg1 fun k hk=>.inr (World.ownsRow.lt hO0 k hk).1);have HR1:=ah hR1;have d1b:=(HTa.out.kept HK1.out).cells.2;have HRw1:=ah (HTa.out.kept HK1.out).row.t;have hs1:Wa.heap.size≤w1.heap.size:=HK1.out.size;clear hR1 hg1 hO0 hA0 d1 HR0;go_wp2_with (at_builtin;refine dT rfl _ _ rfl Wa.heap.size _ (X.take i) rfl HR1.out ⟨g,(i+1)*10,none⟩ (X.length - (i+1)) (c - (i+1)) (X.drop (i+1)) rfl HLd.out (HRw1.out.runs (i+1)) H1d.out HB2.out hs1 ?p2)
       case p2 =>
        intro v3 w3 hR3 hg3;replace hR3:bp Wa.heap.size w3 v3 (cn X i):=hR3;have HK3:=ah (HK1.out.grown hg3 fun k hk=>.inr (World.ownsRow.lt HR1.out k hk).1);obtain ⟨ao2,n2,c2,rfl⟩:=hR3.t.one;have hT3:=HTa.out.kept HK3.out;obtain ⟨e0,e1⟩:=hT3.cells;have fz:=aj hT3.at_ 1;obtain ⟨w2,hw2⟩:∃ w2,w2=w3.setCell ⟨b,1,none⟩ (.slice ao2 n2 c2):=⟨_,rfl⟩
        have HT2:Hid (eH P w2 b sz (.slice ao2 n2 c2) (cn X i) (dk id L)):=by
         show eH _ _ _ _ _ _ _;rw [hw2];exact HTa.out.store HK3.out (hR3.mono (Nat.zero_le _)) (fun y hy=>(HTa.out.own y (eI hy)).kept HK3.out) (by rw [gd,HTa.out.ses,HRs.out])
        have HK2:Hid (aa [b] w w2):=by show aa _ _ _;rw [hw2];exact ((HK.out.trans HK3.out (by simp)).mono (by simp)).setCell (by simp) _
        have HV2:Hid (∀ k,(Value.slice ao2 n2 c2).ownBlock=some k→(Value.slice (some ⟨g,0,none⟩) X.length c).ownBlock=some k∨w.heap.size≤k):=fun k hk=>.inr (Nat.le_trans HK.out.size (World.ownsRow.lt hR3 k hk).1);have HSh:=ah hR3.t.shape;clear hR3 hg3 hT3;go_upto_region 12 with fail
        rw [← hw2];clear hw2 e0 e1 fz d1b;obtain ⟨X2,hX2⟩:∃ X2,X2=cn X i:=⟨_,rfl⟩;obtain ⟨L2,hL2⟩:∃ L2,L2=dk id L:=⟨_,rfl⟩;rw [← hX2,← hL2] at HT2
        have hn2:n2=X2.length:=by
         obtain ⟨a',c',e',_⟩:=HSh.out;cases e';rw [hX2]
        have hlen2:X2.length+1=L.length:=by rw [hX2,cu hiX,HXL.out];omega
        have HOL:Hid (cd sz n id L=L2++[⟨id,0,n,cq 0⟩]):=by
         show _=_;rw [HOL0.out,hL2];unfold gV;rw [if_neg (by rw [← hL2,← HT2.out.len];omega)]
        have HLe:Hid (X2.length+([(⟨id,0,n,cq 0⟩,.slice none 0 0)]:List (Se × Value)).length≤1000000000):=by show _≤_;simp;omega
        have hqs:((sz:Int)≤(n2:Int))=False:=eq_false (by omega);obtain ⟨q0,q1⟩:=HT2.out.cells;have hdq:decide ((sz:Int)≤(n2:Int))=false:=by simp;omega
        have hdn:decide (sz≤n2)=false:=by simp;omega
        have hdi:¬ (sz:Int)≤(n2:Int):=by omega
        clear hX2 hL2 HSh hqs hn2;go_quiet (fail)
        have hKd:=aN w2 nq;replace HT2:=ah (HT2.out.kept hKd);replace HK2:=ah (HK2.out.trans hKd (by simp));clear q0 q1 hKd;generalize w2.drewN nq=w5 at *;have hT2:=HT2.out;obtain ⟨c0,c1⟩:=hT2.cells;have hKb:=(aa.refl [] w5).alloc (.cells #[.int .i64 id,.int .i64 0,.string (ak n),.int .i64 0,.int .i64 0,.int .i64 0,.string ⟨#[]⟩,.int .u64 0,.slice none 0 0,.int .i64 0] 155);have HTb:=ah (hT2.kept hKb);have HNw:=eT (x:=(⟨id,0,n,cq 0⟩,.slice none 0 0)) rfl (heap_alloc_new w5 (.cells #[.int .i64 id,.int .i64 0,.string (ak n),.int .i64 0,.int .i64 0,.int .i64 0,.string ⟨#[]⟩,.int .u64 0,.slice none 0 0,.int .i64 0] 155));have HRb:=ah HTb.out.row;clear hT2;go_wp2_with (at_builtin;refine iV rfl _ _ rfl 0 _ X2 rfl HRb.out ⟨w5.heap.size,0,none⟩ 1 1 [(⟨id,0,n,cq 0⟩,.slice none 0 0)] rfl rfl HNw (by intro y hy;simp at hy;subst hy;rfl) (by omega) HLe.out (Nat.zero_le _) ?t1)
        case t1 =>
         intro g3 n3 c3 w3 hR3 hg3 hat3;have hP3:=HTb.out.push (x:=⟨id,0,n,cq 0⟩) (io.nil _) hR3 hg3 (by rw [World.size_alloc];exact hat3);have HE:=ah hP3.1;have HKe:=ah ((HK2.out.trans hKb (by simp)).mono (T:=aW b (.slice ao2 n2 c2)) (by intro k hk;simp at hk;subst hk;exact .inl (by simp [aW])) |>.trans hP3.2.1 (fun k hk=>.inl hk))
         have HVe:Hid (∀ k,(Value.slice (some ⟨g3,0,none⟩) n3 c3).ownBlock=some k→(Value.slice (some ⟨g,0,none⟩) X.length c).ownBlock=some k∨w.heap.size≤k):=fun k hk=>by
          cases hk
          rcases hat3 with e | e
          ·exact HV2.out _ e
          ·rw [e];exact .inr (Nat.le_trans HK2.out.size (by simp))
         have f3:=hP3.2.2;have c3b:=ag (k:=1) f3 rfl;have fz:=aj f3 1;clear hR3 hg3 hat3 hP3 f3 c0 c1;(go_wp2_with fail);go_ret
         exact ⟨by rw [HOI.out];rfl,_,_,by rw [HOL.out];exact HE.out,iP HKe.out HV2.out,HVe.out⟩
   | none =>
     have HRs:Hid (dk id L=L):=by show _=_;unfold dk;rw [hI]
     rw [hI] at cF;simp only [kI] at cF;(go_wp2_with fail);refine cF.mono ?_;rintro _ Wa ⟨rfl,hKf⟩;have HTa:=ah ((HT.out.kept HK.out).kept hKf);replace HK:=ah (HK.out.trans hKf (by simp));clear cF hKf t1;go_upto_region 12 with fail
     obtain ⟨q0,q1⟩:=HTa.out.cells;have hXLe:=HXL.out;by_cases hfull:L.length=sz
     ·have hdq:decide ((sz:Int)≤(X.length:Int))=true:=by simp;omega
      have hdn:decide (sz≤X.length)=true:=by simp;omega
      have hdi:(sz:Int)≤(X.length:Int):=by omega
      have h0X:0 < X.length:=by omega
      obtain ⟨g,he,_⟩:=HA.out 0 h0X;subst he;clear hXLe;go_quiet (fail)
      have hKd:=aN Wa nq;have HTb:=ah (HTa.out.kept hKd);replace HK:=ah (HK.out.trans hKd (by simp));clear q0 q1 hKd HTa;generalize Wa.drewN nq=Wb at *;have H1d:Hid (∀ x∈X.drop 1,x.2.oneCell'=true):=fun x hx=>H1.out x (List.mem_of_mem_drop hx);have HB2:Hid (([]:List (Se × Value)).length+(X.drop 1).length≤1000000000):=by show _≤_;simp;omega
      have hO0:=jb Wb Wb.heap.size (Nat.le_refl _);have hA0:=(aa.refl [] Wb).alloc (.cells #[] 155);have d1:=(HTb.out.kept hA0).cells.2;have HR0:=ah (HTb.out.kept hA0).row.t;have h1X:(1:Int)≤X.length:=by omega
      have h1c:1≤c:=by omega
      by_cases hck:c=1
      ·subst hck;have HDn:Hid (X.drop 1=[]):=List.drop_of_length_le (by omega);have HD1:Hid (∀ {W:World}(j:Nat) (u:Value),((X.drop 1).flatMap dU)[j]?=some u→W.cell? ((⟨g,0,none⟩:Addr).add j)=some u):=fun j u hj=>by rw [HDn.out] at hj;simp at hj
       go_wp2_with (at_builtin;refine dT rfl _ _ rfl Wb.heap.size _ [] rfl hO0 ⟨g,0,none⟩ _ _ (X.drop 1) rfl (by rw [HDn.out];first | rfl | (simp;omega)) HD1.out H1d.out HB2.out (by simp) ?p1)
       case p1 =>
        intro v3 w3 hR3 hg3;replace hR3:bp Wb.heap.size w3 v3 (X.drop 1):=by rw [List.drop_one];exact hR3
        have HK3:=ah (hA0.grown hg3 fun k hk=>.inr (World.ownsRow.lt hO0 k hk).1);obtain ⟨ao2,n2,c2,rfl⟩:=hR3.t.one;have hT3:=HTb.out.kept HK3.out;obtain ⟨e0,e1⟩:=hT3.cells;have fz:=aj hT3.at_ 1;obtain ⟨w5,hw5⟩:∃ w5,w5=w3.setCell ⟨b,1,none⟩ (.slice ao2 n2 c2):=⟨_,rfl⟩
        have HT2:Hid (eH P w5 b sz (.slice ao2 n2 c2) (X.drop 1) (L.drop 1)):=by
         show eH _ _ _ _ _ _ _;rw [hw5];exact HTb.out.store HK3.out (hR3.mono (Nat.zero_le _)) (fun y hy=>(HTb.out.own y (List.mem_of_mem_drop hy)).kept HK3.out) (by rw [List.map_drop,HTb.out.ses])
        have HK2:Hid (aa [b] w w5):=by show aa _ _ _;rw [hw5];exact ((HK.out.trans HK3.out (by simp)).mono (by simp)).setCell (by simp) _
        have HV2:Hid (∀ k,(Value.slice ao2 n2 c2).ownBlock=some k→(Value.slice (some ⟨g,0,none⟩) X.length 1).ownBlock=some k∨w.heap.size≤k):=fun k hk=>.inr (Nat.le_trans HK.out.size (World.ownsRow.lt hR3 k hk).1);clear hR3 hg3 hT3;go_upto_region 14 with fail
        rw [← hw5];clear hw5 e0 e1 fz d1;obtain ⟨X2,hX2⟩:∃ X2,X2=X.drop 1:=⟨_,rfl⟩;obtain ⟨L2,hL2⟩:∃ L2,L2=L.drop 1:=⟨_,rfl⟩;rw [← hX2,← hL2] at HT2
        have HOL:Hid (cd sz n id L=L2++[⟨id,0,n,cq 0⟩]):=by
         show _=_;rw [HOL0.out,hL2,HRs.out];unfold gV;rw [if_pos hfull]
        have HLe:Hid (X2.length+([(⟨id,0,n,cq 0⟩,.slice none 0 0)]:List (Se × Value)).length≤1000000000):=by show _≤_;rw [hX2];simp;omega
        clear hX2 hL2;have hT2:=HT2.out;obtain ⟨c0,c1⟩:=hT2.cells;have hKb:=(aa.refl [] w5).alloc (.cells #[.int .i64 id,.int .i64 0,.string (ak n),.int .i64 0,.int .i64 0,.int .i64 0,.string ⟨#[]⟩,.int .u64 0,.slice none 0 0,.int .i64 0] 155);have HTb:=ah (hT2.kept hKb);have HNw:=eT (x:=(⟨id,0,n,cq 0⟩,.slice none 0 0)) rfl (heap_alloc_new w5 (.cells #[.int .i64 id,.int .i64 0,.string (ak n),.int .i64 0,.int .i64 0,.int .i64 0,.string ⟨#[]⟩,.int .u64 0,.slice none 0 0,.int .i64 0] 155));have HRb:=ah HTb.out.row;clear hT2;go_wp2_with (at_builtin;refine iV rfl _ _ rfl 0 _ X2 rfl HRb.out ⟨w5.heap.size,0,none⟩ 1 1 [(⟨id,0,n,cq 0⟩,.slice none 0 0)] rfl rfl HNw (by intro y hy;simp at hy;subst hy;rfl) (by omega) HLe.out (Nat.zero_le _) ?t1)
        case t1 =>
         intro g3 n3 c3 w3 hR3 hg3 hat3;have hP3:=HTb.out.push (x:=⟨id,0,n,cq 0⟩) (io.nil _) hR3 hg3 (by rw [World.size_alloc];exact hat3);have HE:=ah hP3.1;have HKe:=ah ((HK2.out.trans hKb (by simp)).mono (T:=aW b (.slice ao2 n2 c2)) (by intro k hk;simp at hk;subst hk;exact .inl (by simp [aW])) |>.trans hP3.2.1 (fun k hk=>.inl hk))
         have HVe:Hid (∀ k,(Value.slice (some ⟨g3,0,none⟩) n3 c3).ownBlock=some k→(Value.slice (some ⟨g,0,none⟩) X.length 1).ownBlock=some k∨w.heap.size≤k):=fun k hk=>by
          cases hk
          rcases hat3 with e | e
          ·exact HV2.out _ e
          ·rw [e];exact .inr (Nat.le_trans HK2.out.size (by simp))
         have f3:=hP3.2.2;have c3b:=ag (k:=1) f3 rfl;have fz:=aj f3 1;clear hR3 hg3 hat3 hP3 f3 c0 c1;(go_wp2_with fail);go_ret
         exact ⟨by rw [HOI.out];rfl,_,_,by rw [HOL.out];exact HE.out,iP HKe.out HV2.out,HVe.out⟩
      ·have HLd:Hid (X.length - 1=(X.drop 1).length):=by show _=_;simp
       go_wp2_with (at_builtin;refine dT rfl _ _ rfl Wb.heap.size _ [] rfl hO0 ⟨g,10,none⟩ (X.length - 1) (c - 1) (X.drop 1) rfl HLd.out (HR0.out.runs 1) H1d.out HB2.out (by simp) ?p1)
       case p1 =>
        intro v3 w3 hR3 hg3;replace hR3:bp Wb.heap.size w3 v3 (X.drop 1):=by rw [List.drop_one];exact hR3
        have HK3:=ah (hA0.grown hg3 fun k hk=>.inr (World.ownsRow.lt hO0 k hk).1);obtain ⟨ao2,n2,c2,rfl⟩:=hR3.t.one;have hT3:=HTb.out.kept HK3.out;obtain ⟨e0,e1⟩:=hT3.cells;have fz:=aj hT3.at_ 1;obtain ⟨w5,hw5⟩:∃ w5,w5=w3.setCell ⟨b,1,none⟩ (.slice ao2 n2 c2):=⟨_,rfl⟩
        have HT2:Hid (eH P w5 b sz (.slice ao2 n2 c2) (X.drop 1) (L.drop 1)):=by
         show eH _ _ _ _ _ _ _;rw [hw5];exact HTb.out.store HK3.out (hR3.mono (Nat.zero_le _)) (fun y hy=>(HTb.out.own y (List.mem_of_mem_drop hy)).kept HK3.out) (by rw [List.map_drop,HTb.out.ses])
        have HK2:Hid (aa [b] w w5):=by show aa _ _ _;rw [hw5];exact ((HK.out.trans HK3.out (by simp)).mono (by simp)).setCell (by simp) _
        have HV2:Hid (∀ k,(Value.slice ao2 n2 c2).ownBlock=some k→(Value.slice (some ⟨g,0,none⟩) X.length c).ownBlock=some k∨w.heap.size≤k):=fun k hk=>.inr (Nat.le_trans HK.out.size (World.ownsRow.lt hR3 k hk).1);clear hR3 hg3 hT3;go_upto_region 14 with fail
        rw [← hw5];clear hw5 e0 e1 fz d1;obtain ⟨X2,hX2⟩:∃ X2,X2=X.drop 1:=⟨_,rfl⟩;obtain ⟨L2,hL2⟩:∃ L2,L2=L.drop 1:=⟨_,rfl⟩;rw [← hX2,← hL2] at HT2
        have HOL:Hid (cd sz n id L=L2++[⟨id,0,n,cq 0⟩]):=by
         show _=_;rw [HOL0.out,hL2,HRs.out];unfold gV;rw [if_pos hfull]
        have HLe:Hid (X2.length+([(⟨id,0,n,cq 0⟩,.slice none 0 0)]:List (Se × Value)).length≤1000000000):=by show _≤_;rw [hX2];simp;omega
        clear hX2 hL2;have hT2:=HT2.out;obtain ⟨c0,c1⟩:=hT2.cells;have hKb:=(aa.refl [] w5).alloc (.cells #[.int .i64 id,.int .i64 0,.string (ak n),.int .i64 0,.int .i64 0,.int .i64 0,.string ⟨#[]⟩,.int .u64 0,.slice none 0 0,.int .i64 0] 155);have HTb:=ah (hT2.kept hKb);have HNw:=eT (x:=(⟨id,0,n,cq 0⟩,.slice none 0 0)) rfl (heap_alloc_new w5 (.cells #[.int .i64 id,.int .i64 0,.string (ak n),.int .i64 0,.int .i64 0,.int .i64 0,.string ⟨#[]⟩,.int .u64 0,.slice none 0 0,.int .i64 0] 155));have HRb:=ah HTb.out.row;clear hT2;go_wp2_with (at_builtin;refine iV rfl _ _ rfl 0 _ X2 rfl HRb.out ⟨w5.heap.size,0,none⟩ 1 1 [(⟨id,0,n,cq 0⟩,.slice none 0 0)] rfl rfl HNw (by intro y hy;simp at hy;subst hy;rfl) (by omega) HLe.out (Nat.zero_le _) ?t1)
        case t1 =>
         intro g3 n3 c3 w3 hR3 hg3 hat3;have hP3:=HTb.out.push (x:=⟨id,0,n,cq 0⟩) (io.nil _) hR3 hg3 (by rw [World.size_alloc];exact hat3);have HE:=ah hP3.1;have HKe:=ah ((HK2.out.trans hKb (by simp)).mono (T:=aW b (.slice ao2 n2 c2)) (by intro k hk;simp at hk;subst hk;exact .inl (by simp [aW])) |>.trans hP3.2.1 (fun k hk=>.inl hk))
         have HVe:Hid (∀ k,(Value.slice (some ⟨g3,0,none⟩) n3 c3).ownBlock=some k→(Value.slice (some ⟨g,0,none⟩) X.length c).ownBlock=some k∨w.heap.size≤k):=fun k hk=>by
          cases hk
          rcases hat3 with e | e
          ·exact HV2.out _ e
          ·rw [e];exact .inr (Nat.le_trans HK2.out.size (by simp))
         have f3:=hP3.2.2;have c3b:=ag (k:=1) f3 rfl;have fz:=aj f3 1;clear hR3 hg3 hat3 hP3 f3 c0 c1;(go_wp2_with fail);go_ret
         exact ⟨by rw [HOI.out];rfl,_,_,by rw [HOL.out];exact HE.out,iP HKe.out HV2.out,HVe.out⟩
     ·have hdq:decide ((sz:Int)≤(X.length:Int))=false:=by simp;omega
      have hdn:decide (sz≤X.length)=false:=by simp;omega
      have hdi:¬ (sz:Int)≤(X.length:Int):=by omega
      have HOL:Hid (cd sz n id L=L++[⟨id,0,n,cq 0⟩]):=by
       show _=_;rw [HOL0.out,HRs.out];unfold gV;rw [if_neg hfull]
      clear hXLe;go_quiet (fail)
      have hKd:=aN Wa nq;have HT2:=ah (HTa.out.kept hKd);have HK2:Hid (aa [b] w (Wa.drewN nq)):=(HK.out.trans hKd (by simp)).mono (by simp);have HV2:Hid (∀ k,(Value.slice ao X.length c).ownBlock=some k→(Value.slice ao X.length c).ownBlock=some k∨w.heap.size≤k):=fun k hk=>.inl hk;have HLe:Hid (X.length+([(⟨id,0,n,cq 0⟩,.slice none 0 0)]:List (Se × Value)).length≤1000000000):=by show _≤_;simp;omega
      clear q0 q1 hKd HTa;generalize Wa.drewN nq=w5 at *;have hT2:=HT2.out;obtain ⟨c0,c1⟩:=hT2.cells;have hKb:=(aa.refl [] w5).alloc (.cells #[.int .i64 id,.int .i64 0,.string (ak n),.int .i64 0,.int .i64 0,.int .i64 0,.string ⟨#[]⟩,.int .u64 0,.slice none 0 0,.int .i64 0] 155);have HTb:=ah (hT2.kept hKb);have HNw:=eT (x:=(⟨id,0,n,cq 0⟩,.slice none 0 0)) rfl (heap_alloc_new w5 (.cells #[.int .i64 id,.int .i64 0,.string (ak n),.int .i64 0,.int .i64 0,.int .i64 0,.string ⟨#[]⟩,.int .u64 0,.slice none 0 0,.int .i64 0] 155));have HRb:=ah HTb.out.row;clear hT2;go_wp2_with (at_builtin;refine iV rfl _ _ rfl 0 _ X rfl HRb.out ⟨w5.heap.size,0,none⟩ 1 1 [(⟨id,0,n,cq 0⟩,.slice none 0 0)] rfl rfl HNw (by intro y hy;simp at hy;subst hy;rfl) (by omega) HLe.out (Nat.zero_le _) ?t1)
      case t1 =>
       intro g3 n3 c3 w3 hR3 hg3 hat3;have hP3:=HTb.out.push (x:=⟨id,0,n,cq 0⟩) (io.nil _) hR3 hg3 (by rw [World.size_alloc];exact hat3);have HE:=ah hP3.1;have HKe:=ah ((HK2.out.trans hKb (by simp)).mono (T:=aW b (.slice ao X.length c)) (by intro k hk;simp at hk;subst hk;exact .inl (by simp [aW])) |>.trans hP3.2.1 (fun k hk=>.inl hk))
       have HVe:Hid (∀ k,(Value.slice (some ⟨g3,0,none⟩) n3 c3).ownBlock=some k→(Value.slice ao X.length c).ownBlock=some k∨w.heap.size≤k):=fun k hk=>by
        cases hk
        rcases hat3 with e | e
        ·exact HV2.out _ e
        ·rw [e];exact .inr (Nat.le_trans HK2.out.size (by simp))
       have f3:=hP3.2.2;have c3b:=ag (k:=1) f3 rfl;have fz:=aj f3 1;clear hR3 hg3 hat3 hP3 f3 c0 c1;(go_wp2_with fail);go_ret
       exact ⟨by rw [HOI.out];rfl,_,_,by rw [HOL.out];exact HE.out,iP HKe.out HV2.out,HVe.out⟩
end Go.Proofs.YtgpnlidnbldiiaaGreat
