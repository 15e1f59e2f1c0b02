/-
  Texts laid as one.
-/
import Derived.Test.YtakafmejllilnaaGreatF3r
import Derived.Test.YtakafmejllilnaaGreatF1r
import Derived.Defers
import Derived.Recover
set_option maxHeartbeats 2000000
/-
 A reader's number,by its contract.
-/
namespace Go.Proofs.YtakafmejllilnaaGreat
open Go.RowKit
theorem ld (w:World) (ao:Option Addr) (n c:Nat) (l:List Int) (hs:Sl w ao n c l) (hbig:n≤140737488355328) :
 Calls Tryz.prog 62 #[.slice ao n c] w fun e w'=>∃ p a c',e=.returned (.pointer (some ⟨p,0,none⟩))∧w.heap.size≤p∧aS w' p (.slice a n c') 0∧Sl w' a n c' l∧(∀ k∈bO a,w.heap.size≤k∧k < p)∧ab [] w w':=by
 have HS:Hid (Sl w ao n c l):=hs;clear hs;go_enter Tryz.func62,Tryz.ntmps62;go_wp2_with (go_at_call 61;refine (gX _ _ _ _ _ HS.out hbig).mono ?_;rintro _ w1 ⟨a,c',rfl,hsl,hb,hk⟩)
 go_ret
 refine ⟨_,a,c',rfl,hk.size,?_,?_,?_,?_⟩
 ·exact heap_alloc_new _ _
 ·exact Sl.kept ((ab.refl [] w1).alloc _) hsl (by simp)
 ·intro k hkb;have:=hb k hkb;omega
 ·exact hk.alloc _
theorem p5 {l:List Int}{k:Nat}{d:Int}{l':List Int}(h:l.drop k=d :: l'):l.drop (k+1)=l'∧k+1≤l.length:=by
 have h1:k < l.length:=by
  by_cases hk:k < l.length
  ·exact hk
  ·rw [List.drop_eq_nil_of_le (by omega)] at h;simp at h
 rw [List.drop_eq_getElem_cons h1] at h;exact ⟨(List.cons.inj h).2,h1⟩
theorem mD (f i:Nat) (acc d:Int) (l:List Int) (h:128≤d):fq (f+1) i acc (d :: l)=fq f (i+1) (acc+d % 128*2 ^ (7*i)) l:=by
 rw [fq,if_pos h]
theorem ml (f i:Nat) (acc d:Int) (l:List Int) (h:d < 128) (h2:(d=0∧0 < i)∨1099511627776 < acc+d % 128*2 ^ (7*i)):fq (f+1) i acc (d :: l)=(4,0,[]):=by
 rw [fq,if_neg (by omega),if_pos h2]
theorem kw (f i:Nat) (acc d:Int) (l:List Int) (h:d < 128) (h2:¬ ((d=0∧0 < i)∨1099511627776 < acc+d % 128*2 ^ (7*i))):fq (f+1) i acc (d :: l)=(0,acc+d % 128*2 ^ (7*i),l):=by
 rw [fq,if_neg (by omega),if_neg h2]
theorem kN (w:World) (p:Nat) (ao:Option Addr) (n c:Nat) (l:List Int) (hR:aS w p (.slice ao n c) 0) (hs:Sl w ao n c l) (hp:p ∉ bO ao) (ho:bi l) :
 Calls Tryz.prog 92 #[.pointer (some ⟨p,0,none⟩)] w fun r w' =>
  (∃ a c' rest x,bm l=(0,x,rest)∧r=.returned (.int .i64 x)∧aS w' p (.slice a rest.length c') 0∧Sl w' a rest.length c' rest∧bO a=bO ao∧ab [p] w w') ∨
  (∃ e v,bm l=(e,0,[])∧e≠0∧r=.panicked [{ v:=.iface 24 (.int .i64 e),recovered:=false }]∧aS w' p v 0∧ab [p] w w'):=by
 have hn:=hs.1;subst hn;have HR0:Hid (aS w p (.slice ao l.length c) 0):=hR;have HS0:Hid (Sl w ao l.length c l):=hs;clear hR hs;go_enter Tryz.func92,Tryz.ntmps92;go_wp2
 go_loopw [3,6] (fun t i wr=>∃ (k:Nat) (a:Option Addr) (c':Nat) (acc:Int),k≤6∧i=.int .i64 k∧t=.int .i64 acc∧0≤acc∧acc < 2 ^ (7*k)∧bm l=fq (6 - k) k acc (l.drop k)∧k≤l.length ∧
  aS wr p (.slice a (l.drop k).length c') 0∧Sl wr a (l.drop k).length c' (l.drop k)∧bO a=bO ao∧ab [p] w wr) (fun _ i _=>6 - (intOf i).toNat)
 case atStart=>exact ⟨0,ao,c,0,by omega,rfl,rfl,by omega,by decide,rfl,Nat.zero_le _,HR0.out,HS0.out,rfl,ab.refl _ _⟩
 case round =>
  obtain ⟨k,a,c',acc,hk,rfl,rfl,ha0,ha1,hrd,hkl,hR',hs',hb,hkept⟩:=hrel;clear HR0 HS0;have HB:Hid (bO a=bO ao):=hb;have HA1:Hid (acc < 2 ^ (7*k)):=ha1;by_cases hk6:k=6
  ·subst hk6;have HH:Hid (bm l=(4,0,[])):=hrd;have HR:Hid (aS wr p (.slice a (l.drop 6).length c') 0):=hR';clear hrd hb ha1 hR' hs';go_wp2
   exact ⟨rfl,.inr ⟨4,_,HH.out,by decide,rfl,HR.out,hkept⟩⟩
  ·cases hl:l.drop k with
   | nil =>
     rw [hl] at hrd hR' hs';have HR:Hid (aS wr p (.slice a ([]:List Int).length c') 0):=hR'
     have HH:Hid (bm l=(2,0,[])):=by
      show bm l=(2,0,[]);rw [hrd];obtain ⟨f,hf⟩:∃ f,6 - k=f+1:=⟨5 - k,by omega⟩;rw [hf];rfl
     clear hR' hs' hrd hb ha1 hl;have hklt:(k:Int) < 6:=by omega
     (go_wp2_with fail);refine (fS _ _ _ _ _ 1 _ HR.out (by simp)).mono ?_;rintro _ _ ⟨rfl,rfl⟩;go_wp2
     exact ⟨rfl,.inr ⟨2,_,HH.out,by decide,rfl,HR.out,hkept⟩⟩
   | cons d l' =>
     rw [hl] at hrd hR' hs';obtain ⟨hdr,hlen⟩:=p5 hl;have hd:=(show bi (d :: l') by rw [← hl];exact ho.drop k).head;have HR:Hid (aS wr p (.slice a (d :: l').length c') 0):=hR';have HS:Hid (Sl wr a (d :: l').length c' (d :: l')):=hs';have HH:Hid (bm l=fq (6 - k) k acc (d :: l')):=hrd;have HD:Hid (l.drop (k+1)=l'):=hdr;obtain ⟨f,hf⟩:∃ f,6 - k=f+1:=⟨5 - k,by omega⟩;have HF:Hid (6 - k=f+1):=hf;have hbits:=nU acc d k ha0 ha1 hd.1 hd.2 (by omega);have hlt:=iM acc d k ha0 ha1;obtain ⟨X,hX⟩:∃ X,X=acc+d % 128*2 ^ (7*k):=⟨_,rfl⟩;rw [← hX] at hbits hlt;have HX:Hid (X=acc+d % 128*2 ^ (7*k)):=hX;have HLT:Hid (0≤X∧X < 2 ^ (7*(k+1))):=hlt;have hX0:=hlt.1;clear hR' hs' hrd hdr hX hlt hf hb ha1 hl;obtain ⟨hd0,hd1⟩:=hd;have hklt:(k:Int) < 6:=by omega
     (go_wp2_with fail);refine (gL _ _ _ _ _ 1 _ _ HR.out HS.out (by rw [HB.out];exact hp) (by simp)).mono ?_;rintro _ w1 ⟨a1,c1,a2,c2,rfl,hR2,hs1,hs2,hb1,hb2,hk2⟩;obtain ⟨b,o,hb3,hc1⟩:=hs1.some (by omega);subst hb3;have hc2:=hc1 0 (by omega);clear hc1 hb1 hs1;simp at hc2
     have HR2:Hid (aS w1 p (.slice a2 l'.length c2) 0):=hR2;have HS2:Hid (Sl w1 a2 l'.length c2 l'):=hs2;have HB2:Hid (bO a2=bO ao):=hb2.trans HB.out;have HK2:Hid (ab [p] w w1):=hkept.trans hk2 (by simp);clear hR2 hs2 hb2 hk2 hkept HR HS;by_cases hd128:128≤d
     ·go_wp2
      go_roundw
      case rel =>
       refine ⟨k+1,a2,c2,X,by omega,by go_num,rfl,hX0,HLT.out.2,?_,hlen,?_,?_,HB2.out,HK2.out⟩
       ·rw [HD.out,HH.out,HF.out,mD _ _ _ _ _ hd128,← HX.out,show 6 - (k+1)=f by have:=HF.out;omega]
       ·rw [HD.out];exact HR2.out
       ·rw [HD.out];exact HS2.out
      case measure=>simp [intOf];omega
     ·have hd128':d < 128:=by omega
      by_cases hz:d=0
      ·have hzb:(d==0)=true:=by simp [hz]
       by_cases hk0:k=0
       ·have hkb:¬ (0:Int) < (k:Int):=by omega
        have hXm:¬ (1099511627776:Int) < X:=by
         have h1:=HX.out;have h2:=HA1.out;subst hk0;subst hz;omega
        have HZ:Hid (d=0):=hz;have HK0:Hid (k=0):=hk0;clear hz hk0;go_wp2
        go_ret
        refine .inl ⟨a2,c2,l',X,?_,rfl,HR2.out,HS2.out,HB2.out,HK2.out⟩;have h1:=HK0.out;rw [HH.out,HF.out,kw _ _ _ _ _ hd128' (by rw [← HX.out];omega),← HX.out]
       ·have hkb:(0:Int) < (k:Int):=by omega
        have HZ:Hid (d=0):=hz;clear hz hk0;go_wp2
        refine ⟨rfl,.inr ⟨4,_,?_,by decide,rfl,HR2.out,HK2.out⟩⟩;rw [HH.out,HF.out,ml _ _ _ _ _ hd128' (.inl ⟨HZ.out,by omega⟩)]
      ·have hzb:(d==0)=false:=by simp [hz]
       have HZ:Hid (¬ d=0):=hz;clear hz;by_cases hXm:(1099511627776:Int) < X
       ·go_wp2
        refine ⟨rfl,.inr ⟨4,_,?_,by decide,rfl,HR2.out,HK2.out⟩⟩;rw [HH.out,HF.out,ml _ _ _ _ _ hd128' (.inr (by rw [← HX.out];exact hXm))]
       ·go_wp2
        go_ret
        refine .inl ⟨a2,c2,l',X,?_,rfl,HR2.out,HS2.out,HB2.out,HK2.out⟩;have h1:=HZ.out;rw [HH.out,HF.out,kw _ _ _ _ _ hd128' (by rw [← HX.out];omega),← HX.out]
theorem ee (e:Int) (w:World):Sem.run Tryz.prog (Instr.typeAssert (.iface 24 (.int .i64 e)) 20 24 true) w=.ok (.tuple #[.int .i64 e,.bool true]) w:=by kernel_rfl
structure ev (p:Nat) (ao:Option Addr) (G:World→Value→List Int→Prop) (E:Int→Prop) (w:World) (r:Ending) (w':World):Prop where
 kept:ab [p] w w'
 ends:(∃ x a c' rest,r=.returned x∧aS w' p (.slice a rest.length c') 0∧Sl w' a rest.length c' rest∧(∀ k∈bO a,k∈bO ao)∧G w' x rest) ∨
  (∃ e v,r=.panicked [{ v:=.iface 24 (.int .i64 e),recovered:=false }]∧e≠0∧aS w' p v 0∧E e)
structure nP (p:Nat) (ao:Option Addr) (z:Value) (G:World→Value→List Int→Prop) (E:Int→Prop) (w:World) (r:Ending) (w':World):Prop where
 kept:ab [p] w w'
 ends:∃ x a c' rest e,r=.returned x∧aS w' p (.slice a rest.length c') e∧Sl w' a rest.length c' rest∧(∀ k∈bO a,k∈bO ao) ∧
  ((e=0∧G w' x rest)∨(e≠0∧E e∧x=z∧rest=[]))
theorem sz (w:World) (q p:Nat) (v:Value) (e:Int) (older:List PanicEntry) (hq:w.cell? ⟨q,0,none⟩=some (.pointer (some ⟨p,0,none⟩))) (h:aS w p v 0) :
 CallsD Tryz.prog 103 #[.pointer (some ⟨q,0,none⟩)] (.panicking ({ v:=.iface 24 (.int .i64 e),recovered:=false } :: older)) w fun r u' w' =>
  r=.returned (.tuple #[])∧u'=.panicking ({ v:=.iface 24 (.int .i64 e),recovered:=true } :: older)∧aS w' p (.slice none 0 0) e∧ab [p] w w':=by
 have HR:Hid (aS w p v 0):=h;clear h;have hta:=ee e;refine callsD_of_wpS Tryz.func103 rfl fun c₀ cs hu=>?_;apply wpS_seq
 apply wpS_region
 simp [wpOpsS,go_sem,recoverD,hu,Tryz.ntmps103,Exit.thenS,Array.replicate,List.replicate]
 refine wpS_of_wp ?_;go_wp2_with (go_at_call 104;refine (fJ _ _ _ _ _ HR.out).mono ?_;rintro _ w1 ⟨rfl,hR1,hk1⟩)
 exact ⟨rfl,_,rfl,_,by simp [results,Tryz.results103,go_sem],rfl,rfl,hR1,hk1⟩
theorem u7 (w:World) (q:Nat) :
 CallsD Tryz.prog 103 #[.pointer (some ⟨q,0,none⟩)] .returning w fun r u' w'=>r=.returned (.tuple #[])∧u'=.returning∧w'=w:=by
 refine callsD_of_wpS Tryz.func103 rfl fun c₀ cs hu=>?_;apply wpS_seq
 apply wpS_region
 simp [wpOpsS,go_sem,recoverD,hu,Tryz.ntmps103,Exit.thenS,Array.replicate,List.replicate]
 refine wpS_of_wp ?_;go_wp2
 cases c₀
 simp_all [bodyPostS,results,Tryz.results103]
theorem uH (w:World) (p:Nat) (ao:Option Addr) (n c:Nat) (l:List Int) (hR:aS w p (.slice ao n c) 0) (hs:Sl w ao n c l)
 (f:Nat) (hcf:∀ (a:Array Value) (w:World),Sem.run Tryz.prog (callFunc f a) w=.ok (.enter f a) w) (cap:Array Value) (G:World→Value→List Int→Prop) (E:Int→Prop)
 (hstep:∀ w1,ab [] w w1→aS w1 p (.slice ao n c) 0→Sl w1 ao n c l→Calls Tryz.prog f (#[.pointer (some ⟨p,0,none⟩)]++cap) w1 (ev p ao G E w1)) :
 Calls Tryz.prog 91 #[.pointer (some ⟨p,0,none⟩),.func (.func f) #[] cap] w (nP p ao (.int .i64 0) G E w):=by
 have hmf:∀ (fn:Fn) (first cap:Array Value) (w:World),(Instr.makeFunc fn first cap).run Tryz.prog w=.ok (.func fn first cap) w:=fun _ _ _ _=>rfl;have hK:ab [p] w (w.alloc (.cells #[.pointer (some ⟨p,0,none⟩)] 101)):=(ab.refl _ _).alloc _;have hR1:aS (w.alloc (.cells #[.pointer (some ⟨p,0,none⟩)] 101)) p (.slice ao n c) 0:=(show ab [] w _ from (ab.refl _ _).alloc _).at hR (by simp);have hs1:Sl (w.alloc (.cells #[.pointer (some ⟨p,0,none⟩)] 101)) ao n c l:=Sl.kept (show ab [] w _ from (ab.refl _ _).alloc _) hs (by simp);have HST:Hid (Calls Tryz.prog f (#[.pointer (some ⟨p,0,none⟩)]++cap) (w.alloc (.cells #[.pointer (some ⟨p,0,none⟩)] 101)) (ev p ao G E (w.alloc (.cells #[.pointer (some ⟨p,0,none⟩)] 101)))):=hstep _ ((ab.refl _ _).alloc _) hR1 hs1;have hq:(w.alloc (.cells #[.pointer (some ⟨p,0,none⟩)] 101)).cell? ⟨w.heap.size,0,none⟩=some (.pointer (some ⟨p,0,none⟩)):=by simp
 have hpw:p < w.heap.size:=bZ hR;have HR1:=hR1;clear hstep hs hs1 hR;go_enter_defers Tryz.func91,Tryz.ntmps91
 go_wp2_with fail
 refine (cx _ _ _ _ hR1).mono ?_;rintro _ _ ⟨rfl,rfl⟩;go_wp2_with fail
 refine HST.out.mono ?_;rintro r w1 ⟨hk1,⟨x,a,c',rest,rfl,hR2,hs2,hb2,hG⟩ | ⟨e,v,rfl,he,hR2,hE⟩⟩
 ·go_wp2
  refine leaves_cons (f:=103) (args:=#[.pointer (some ⟨w.heap.size,0,none⟩)]) (by simp) (by simp [go_sem]) ?_;refine (u7 _ _).mono ?_;rintro e u' w'' ⟨rfl,rfl,rfl⟩;refine ⟨_,results_tmp rfl _ _ _,?_⟩;exact ⟨hK.trans hk1 (by simp),x,a,c',rest,0,rfl,hR2,hs2,hb2,.inl ⟨rfl,hG⟩⟩
 ·go_wp2
  refine leaves_cons (f:=103) (args:=#[.pointer (some ⟨w.heap.size,0,none⟩)]) (by simp) (by simp [go_sem]) ?_;refine (sz _ _ p v e [] (hk1.cell hq (by simp;omega)) hR2).mono ?_;rintro _ u' w'' ⟨rfl,rfl,hR3,hk3⟩;refine ⟨_,results_tmp rfl _ _ _,?_⟩;exact ⟨(hK.trans hk1 (by simp)).trans hk3 (by simp),.int .i64 0,none,0,[],e,rfl,hR3,Sl.nil _,by simp [bO],.inr ⟨he,hE,rfl,rfl⟩⟩
theorem kt (w:World) (p:Nat) (v:Value) (e:Int) (hR:aS w p v e) (he:e≠0) (fv:Value) :
 Calls Tryz.prog 91 #[.pointer (some ⟨p,0,none⟩),fv] w fun r w'=>r=.returned (.int .i64 0)∧ab [] w w':=by
 have hK:ab [] w (w.alloc (.cells #[.pointer (some ⟨p,0,none⟩)] 101)):=(ab.refl _ _).alloc _;have hR1:aS (w.alloc (.cells #[.pointer (some ⟨p,0,none⟩)] 101)) p v e:=hK.at hR (by simp);have heb:(e != 0)=true:=by simp [he]
 clear he;go_enter Tryz.func91,Tryz.ntmps91;go_wp2_with fail
 refine (cx _ _ _ _ hR1).mono ?_;rintro _ _ ⟨rfl,rfl⟩;go_wp2
 go_ret
 exact ⟨rfl,hK⟩
theorem qY (w:World) (q p:Nat) (v:Value) (e:Int) (older:List PanicEntry) (hq:w.cell? ⟨q,0,none⟩=some (.pointer (some ⟨p,0,none⟩))) (h:aS w p v 0) :
 CallsD Tryz.prog 200 #[.pointer (some ⟨q,0,none⟩)] (.panicking ({ v:=.iface 24 (.int .i64 e),recovered:=false } :: older)) w fun r u' w' =>
  r=.returned (.tuple #[])∧u'=.panicking ({ v:=.iface 24 (.int .i64 e),recovered:=true } :: older)∧aS w' p (.slice none 0 0) e∧ab [p] w w':=by
 have HR:Hid (aS w p v 0):=h;clear h;have hta:=ee e;refine callsD_of_wpS Tryz.func200 rfl fun c₀ cs hu=>?_;apply wpS_seq
 apply wpS_region
 simp [wpOpsS,go_sem,recoverD,hu,Tryz.ntmps200,Exit.thenS,Array.replicate,List.replicate]
 refine wpS_of_wp ?_;go_wp2_with (go_at_call 104;refine (fJ _ _ _ _ _ HR.out).mono ?_;rintro _ w1 ⟨rfl,hR1,hk1⟩)
 exact ⟨rfl,_,rfl,_,by simp [results,Tryz.results200,go_sem],rfl,rfl,hR1,hk1⟩
theorem tR (w:World) (q:Nat) :
 CallsD Tryz.prog 200 #[.pointer (some ⟨q,0,none⟩)] .returning w fun r u' w'=>r=.returned (.tuple #[])∧u'=.returning∧w'=w:=by
 refine callsD_of_wpS Tryz.func200 rfl fun c₀ cs hu=>?_;apply wpS_seq
 apply wpS_region
 simp [wpOpsS,go_sem,recoverD,hu,Tryz.ntmps200,Exit.thenS,Array.replicate,List.replicate]
 refine wpS_of_wp ?_;go_wp2
 cases c₀
 simp_all [bodyPostS,results,Tryz.results200]
theorem uF (w:World) (p:Nat) (ao:Option Addr) (n c:Nat) (l:List Int) (hR:aS w p (.slice ao n c) 0) (hs:Sl w ao n c l)
 (f:Nat) (hcf:∀ (a:Array Value) (w:World),Sem.run Tryz.prog (callFunc f a) w=.ok (.enter f a) w) (cap:Array Value) (G:World→Value→List Int→Prop) (E:Int→Prop)
 (hstep:∀ w1,ab [] w w1→aS w1 p (.slice ao n c) 0→Sl w1 ao n c l→Calls Tryz.prog f (#[.pointer (some ⟨p,0,none⟩)]++cap) w1 (ev p ao G E w1)) :
 Calls Tryz.prog 195 #[.pointer (some ⟨p,0,none⟩),.func (.func f) #[] cap] w (nP p ao (.string ByteArray.empty) G E w):=by
 have hmf:∀ (fn:Fn) (first cap:Array Value) (w:World),(Instr.makeFunc fn first cap).run Tryz.prog w=.ok (.func fn first cap) w:=fun _ _ _ _=>rfl;have hK:ab [p] w (w.alloc (.cells #[.pointer (some ⟨p,0,none⟩)] 101)):=(ab.refl _ _).alloc _;have hR1:aS (w.alloc (.cells #[.pointer (some ⟨p,0,none⟩)] 101)) p (.slice ao n c) 0:=(show ab [] w _ from (ab.refl _ _).alloc _).at hR (by simp);have hs1:Sl (w.alloc (.cells #[.pointer (some ⟨p,0,none⟩)] 101)) ao n c l:=Sl.kept (show ab [] w _ from (ab.refl _ _).alloc _) hs (by simp);have HST:Hid (Calls Tryz.prog f (#[.pointer (some ⟨p,0,none⟩)]++cap) (w.alloc (.cells #[.pointer (some ⟨p,0,none⟩)] 101)) (ev p ao G E (w.alloc (.cells #[.pointer (some ⟨p,0,none⟩)] 101)))):=hstep _ ((ab.refl _ _).alloc _) hR1 hs1;have hq:(w.alloc (.cells #[.pointer (some ⟨p,0,none⟩)] 101)).cell? ⟨w.heap.size,0,none⟩=some (.pointer (some ⟨p,0,none⟩)):=by simp
 have hpw:p < w.heap.size:=bZ hR;have HR1:=hR1;clear hstep hs hs1 hR;go_enter_defers Tryz.func195,Tryz.ntmps195
 go_wp2_with fail
 refine (cx _ _ _ _ hR1).mono ?_;rintro _ _ ⟨rfl,rfl⟩;go_wp2_with fail
 refine HST.out.mono ?_;rintro r w1 ⟨hk1,⟨x,a,c',rest,rfl,hR2,hs2,hb2,hG⟩ | ⟨e,v,rfl,he,hR2,hE⟩⟩
 ·go_wp2
  refine leaves_cons (f:=200) (args:=#[.pointer (some ⟨w.heap.size,0,none⟩)]) (by simp) (by simp [go_sem]) ?_;refine (tR _ _).mono ?_;rintro e u' w'' ⟨rfl,rfl,rfl⟩;refine ⟨_,results_tmp rfl _ _ _,?_⟩;exact ⟨hK.trans hk1 (by simp),x,a,c',rest,0,rfl,hR2,hs2,hb2,.inl ⟨rfl,hG⟩⟩
 ·go_wp2
  refine leaves_cons (f:=200) (args:=#[.pointer (some ⟨w.heap.size,0,none⟩)]) (by simp) (by simp [go_sem]) ?_;refine (qY _ _ p v e [] (hk1.cell hq (by simp;omega)) hR2).mono ?_;rintro _ u' w'' ⟨rfl,rfl,hR3,hk3⟩;refine ⟨_,results_tmp rfl _ _ _,?_⟩;exact ⟨(hK.trans hk1 (by simp)).trans hk3 (by simp),.string ByteArray.empty,none,0,[],e,rfl,hR3,Sl.nil _,by simp [bO],.inr ⟨he,hE,rfl,rfl⟩⟩
theorem kL (w:World) (p:Nat) (v:Value) (e:Int) (hR:aS w p v e) (he:e≠0) (fv:Value) :
 Calls Tryz.prog 195 #[.pointer (some ⟨p,0,none⟩),fv] w fun r w'=>r=.returned (.string ByteArray.empty)∧ab [] w w':=by
 have hK:ab [] w (w.alloc (.cells #[.pointer (some ⟨p,0,none⟩)] 101)):=(ab.refl _ _).alloc _;have hR1:aS (w.alloc (.cells #[.pointer (some ⟨p,0,none⟩)] 101)) p v e:=hK.at hR (by simp);have heb:(e != 0)=true:=by simp [he]
 clear he;go_enter Tryz.func195,Tryz.ntmps195;go_wp2_with fail
 refine (cx _ _ _ _ hR1).mono ?_;rintro _ _ ⟨rfl,rfl⟩;go_wp2
 go_ret
 exact ⟨rfl,hK⟩
theorem rb (w:World) (q p:Nat) (v:Value) (e:Int) (older:List PanicEntry) (hq:w.cell? ⟨q,0,none⟩=some (.pointer (some ⟨p,0,none⟩))) (h:aS w p v 0) :
 CallsD Tryz.prog 186 #[.pointer (some ⟨q,0,none⟩)] (.panicking ({ v:=.iface 24 (.int .i64 e),recovered:=false } :: older)) w fun r u' w' =>
  r=.returned (.tuple #[])∧u'=.panicking ({ v:=.iface 24 (.int .i64 e),recovered:=true } :: older)∧aS w' p (.slice none 0 0) e∧ab [p] w w':=by
 have HR:Hid (aS w p v 0):=h;clear h;have hta:=ee e;refine callsD_of_wpS Tryz.func186 rfl fun c₀ cs hu=>?_;apply wpS_seq
 apply wpS_region
 simp [wpOpsS,go_sem,recoverD,hu,Tryz.ntmps186,Exit.thenS,Array.replicate,List.replicate]
 refine wpS_of_wp ?_;go_wp2_with (go_at_call 104;refine (fJ _ _ _ _ _ HR.out).mono ?_;rintro _ w1 ⟨rfl,hR1,hk1⟩)
 exact ⟨rfl,_,rfl,_,by simp [results,Tryz.results186,go_sem],rfl,rfl,hR1,hk1⟩
theorem uh (w:World) (q:Nat) :
 CallsD Tryz.prog 186 #[.pointer (some ⟨q,0,none⟩)] .returning w fun r u' w'=>r=.returned (.tuple #[])∧u'=.returning∧w'=w:=by
 refine callsD_of_wpS Tryz.func186 rfl fun c₀ cs hu=>?_;apply wpS_seq
 apply wpS_region
 simp [wpOpsS,go_sem,recoverD,hu,Tryz.ntmps186,Exit.thenS,Array.replicate,List.replicate]
 refine wpS_of_wp ?_;go_wp2
 cases c₀
 simp_all [bodyPostS,results,Tryz.results186]
theorem ux (w:World) (p:Nat) (ao:Option Addr) (n c:Nat) (l:List Int) (hR:aS w p (.slice ao n c) 0) (hs:Sl w ao n c l)
 (f:Nat) (hcf:∀ (a:Array Value) (w:World),Sem.run Tryz.prog (callFunc f a) w=.ok (.enter f a) w) (cap:Array Value) (G:World→Value→List Int→Prop) (E:Int→Prop)
 (hstep:∀ w1,ab [] w w1→aS w1 p (.slice ao n c) 0→Sl w1 ao n c l→Calls Tryz.prog f (#[.pointer (some ⟨p,0,none⟩)]++cap) w1 (ev p ao G E w1)) :
 Calls Tryz.prog 180 #[.pointer (some ⟨p,0,none⟩),.func (.func f) #[] cap] w (nP p ao (.slice none 0 0) G E w):=by
 have hmf:∀ (fn:Fn) (first cap:Array Value) (w:World),(Instr.makeFunc fn first cap).run Tryz.prog w=.ok (.func fn first cap) w:=fun _ _ _ _=>rfl;have hK:ab [p] w (w.alloc (.cells #[.pointer (some ⟨p,0,none⟩)] 101)):=(ab.refl _ _).alloc _;have hR1:aS (w.alloc (.cells #[.pointer (some ⟨p,0,none⟩)] 101)) p (.slice ao n c) 0:=(show ab [] w _ from (ab.refl _ _).alloc _).at hR (by simp);have hs1:Sl (w.alloc (.cells #[.pointer (some ⟨p,0,none⟩)] 101)) ao n c l:=Sl.kept (show ab [] w _ from (ab.refl _ _).alloc _) hs (by simp);have HST:Hid (Calls Tryz.prog f (#[.pointer (some ⟨p,0,none⟩)]++cap) (w.alloc (.cells #[.pointer (some ⟨p,0,none⟩)] 101)) (ev p ao G E (w.alloc (.cells #[.pointer (some ⟨p,0,none⟩)] 101)))):=hstep _ ((ab.refl _ _).alloc _) hR1 hs1;have hq:(w.alloc (.cells #[.pointer (some ⟨p,0,none⟩)] 101)).cell? ⟨w.heap.size,0,none⟩=some (.pointer (some ⟨p,0,none⟩)):=by simp
 have hpw:p < w.heap.size:=bZ hR;have HR1:=hR1;clear hstep hs hs1 hR;go_enter_defers Tryz.func180,Tryz.ntmps180
 go_wp2_with fail
 refine (cx _ _ _ _ hR1).mono ?_;rintro _ _ ⟨rfl,rfl⟩;go_wp2_with fail
 refine HST.out.mono ?_;rintro r w1 ⟨hk1,⟨x,a,c',rest,rfl,hR2,hs2,hb2,hG⟩ | ⟨e,v,rfl,he,hR2,hE⟩⟩
 ·go_wp2
  refine leaves_cons (f:=186) (args:=#[.pointer (some ⟨w.heap.size,0,none⟩)]) (by simp) (by simp [go_sem]) ?_;refine (uh _ _).mono ?_;rintro e u' w'' ⟨rfl,rfl,rfl⟩;refine ⟨_,results_tmp rfl _ _ _,?_⟩;exact ⟨hK.trans hk1 (by simp),x,a,c',rest,0,rfl,hR2,hs2,hb2,.inl ⟨rfl,hG⟩⟩
 ·go_wp2
  refine leaves_cons (f:=186) (args:=#[.pointer (some ⟨w.heap.size,0,none⟩)]) (by simp) (by simp [go_sem]) ?_;refine (rb _ _ p v e [] (hk1.cell hq (by simp;omega)) hR2).mono ?_;rintro _ u' w'' ⟨rfl,rfl,hR3,hk3⟩;refine ⟨_,results_tmp rfl _ _ _,?_⟩;exact ⟨(hK.trans hk1 (by simp)).trans hk3 (by simp),.slice none 0 0,none,0,[],e,rfl,hR3,Sl.nil _,by simp [bO],.inr ⟨he,hE,rfl,rfl⟩⟩
theorem kx (w:World) (p:Nat) (v:Value) (e:Int) (hR:aS w p v e) (he:e≠0) (fv:Value) :
 Calls Tryz.prog 180 #[.pointer (some ⟨p,0,none⟩),fv] w fun r w'=>r=.returned (.slice none 0 0)∧ab [] w w':=by
 have hK:ab [] w (w.alloc (.cells #[.pointer (some ⟨p,0,none⟩)] 101)):=(ab.refl _ _).alloc _;have hR1:aS (w.alloc (.cells #[.pointer (some ⟨p,0,none⟩)] 101)) p v e:=hK.at hR (by simp);have heb:(e != 0)=true:=by simp [he]
 clear he;go_enter Tryz.func180,Tryz.ntmps180;go_wp2_with fail
 refine (cx _ _ _ _ hR1).mono ?_;rintro _ _ ⟨rfl,rfl⟩;go_wp2
 go_ret
 exact ⟨rfl,hK⟩
theorem sg (w:World) (q p:Nat) (v:Value) (e:Int) (older:List PanicEntry) (hq:w.cell? ⟨q,0,none⟩=some (.pointer (some ⟨p,0,none⟩))) (h:aS w p v 0) :
 CallsD Tryz.prog 106 #[.pointer (some ⟨q,0,none⟩)] (.panicking ({ v:=.iface 24 (.int .i64 e),recovered:=false } :: older)) w fun r u' w' =>
  r=.returned (.tuple #[])∧u'=.panicking ({ v:=.iface 24 (.int .i64 e),recovered:=true } :: older)∧aS w' p (.slice none 0 0) e∧ab [p] w w':=by
 have HR:Hid (aS w p v 0):=h;clear h;have hta:=ee e;refine callsD_of_wpS Tryz.func106 rfl fun c₀ cs hu=>?_;apply wpS_seq
 apply wpS_region
 simp [wpOpsS,go_sem,recoverD,hu,Tryz.ntmps106,Exit.thenS,Array.replicate,List.replicate]
 refine wpS_of_wp ?_;go_wp2_with (go_at_call 104;refine (fJ _ _ _ _ _ HR.out).mono ?_;rintro _ w1 ⟨rfl,hR1,hk1⟩)
 exact ⟨rfl,_,rfl,_,by simp [results,Tryz.results106,go_sem],rfl,rfl,hR1,hk1⟩
theorem uK (w:World) (q:Nat) :
 CallsD Tryz.prog 106 #[.pointer (some ⟨q,0,none⟩)] .returning w fun r u' w'=>r=.returned (.tuple #[])∧u'=.returning∧w'=w:=by
 refine callsD_of_wpS Tryz.func106 rfl fun c₀ cs hu=>?_;apply wpS_seq
 apply wpS_region
 simp [wpOpsS,go_sem,recoverD,hu,Tryz.ntmps106,Exit.thenS,Array.replicate,List.replicate]
 refine wpS_of_wp ?_;go_wp2
 cases c₀
 simp_all [bodyPostS,results,Tryz.results106]
theorem o4 (w:World) (p:Nat) (ao:Option Addr) (n c:Nat) (l:List Int) (hR:aS w p (.slice ao n c) 0) (hs:Sl w ao n c l)
 (f:Nat) (hcf:∀ (a:Array Value) (w:World),Sem.run Tryz.prog (callFunc f a) w=.ok (.enter f a) w) (cap:Array Value) (G:World→Value→List Int→Prop) (E:Int→Prop)
 (hstep:∀ w1,ab [] w w1→aS w1 p (.slice ao n c) 0→Sl w1 ao n c l→Calls Tryz.prog f (#[.pointer (some ⟨p,0,none⟩)]++cap) w1 (ev p ao G E w1)) :
 Calls Tryz.prog 93 #[.pointer (some ⟨p,0,none⟩),.func (.func f) #[] cap] w (nP p ao (.bool false) G E w):=by
 have hmf:∀ (fn:Fn) (first cap:Array Value) (w:World),(Instr.makeFunc fn first cap).run Tryz.prog w=.ok (.func fn first cap) w:=fun _ _ _ _=>rfl;have hK:ab [p] w (w.alloc (.cells #[.pointer (some ⟨p,0,none⟩)] 101)):=(ab.refl _ _).alloc _;have hR1:aS (w.alloc (.cells #[.pointer (some ⟨p,0,none⟩)] 101)) p (.slice ao n c) 0:=(show ab [] w _ from (ab.refl _ _).alloc _).at hR (by simp);have hs1:Sl (w.alloc (.cells #[.pointer (some ⟨p,0,none⟩)] 101)) ao n c l:=Sl.kept (show ab [] w _ from (ab.refl _ _).alloc _) hs (by simp);have HST:Hid (Calls Tryz.prog f (#[.pointer (some ⟨p,0,none⟩)]++cap) (w.alloc (.cells #[.pointer (some ⟨p,0,none⟩)] 101)) (ev p ao G E (w.alloc (.cells #[.pointer (some ⟨p,0,none⟩)] 101)))):=hstep _ ((ab.refl _ _).alloc _) hR1 hs1;have hq:(w.alloc (.cells #[.pointer (some ⟨p,0,none⟩)] 101)).cell? ⟨w.heap.size,0,none⟩=some (.pointer (some ⟨p,0,none⟩)):=by simp
 have hpw:p < w.heap.size:=bZ hR;have HR1:=hR1;clear hstep hs hs1 hR;go_enter_defers Tryz.func93,Tryz.ntmps93
 go_wp2_with fail
 refine (cx _ _ _ _ hR1).mono ?_;rintro _ _ ⟨rfl,rfl⟩;go_wp2_with fail
 refine HST.out.mono ?_;rintro r w1 ⟨hk1,⟨x,a,c',rest,rfl,hR2,hs2,hb2,hG⟩ | ⟨e,v,rfl,he,hR2,hE⟩⟩
 ·go_wp2
  refine leaves_cons (f:=106) (args:=#[.pointer (some ⟨w.heap.size,0,none⟩)]) (by simp) (by simp [go_sem]) ?_;refine (uK _ _).mono ?_;rintro e u' w'' ⟨rfl,rfl,rfl⟩;refine ⟨_,results_tmp rfl _ _ _,?_⟩;exact ⟨hK.trans hk1 (by simp),x,a,c',rest,0,rfl,hR2,hs2,hb2,.inl ⟨rfl,hG⟩⟩
 ·go_wp2
  refine leaves_cons (f:=106) (args:=#[.pointer (some ⟨w.heap.size,0,none⟩)]) (by simp) (by simp [go_sem]) ?_;refine (sg _ _ p v e [] (hk1.cell hq (by simp;omega)) hR2).mono ?_;rintro _ u' w'' ⟨rfl,rfl,hR3,hk3⟩;refine ⟨_,results_tmp rfl _ _ _,?_⟩;exact ⟨(hK.trans hk1 (by simp)).trans hk3 (by simp),.bool false,none,0,[],e,rfl,hR3,Sl.nil _,by simp [bO],.inr ⟨he,hE,rfl,rfl⟩⟩
theorem gA (w:World) (p:Nat) (v:Value) (e:Int) (hR:aS w p v e) (he:e≠0) (fv:Value) :
 Calls Tryz.prog 93 #[.pointer (some ⟨p,0,none⟩),fv] w fun r w'=>r=.returned (.bool false)∧ab [] w w':=by
 have hK:ab [] w (w.alloc (.cells #[.pointer (some ⟨p,0,none⟩)] 101)):=(ab.refl _ _).alloc _;have hR1:aS (w.alloc (.cells #[.pointer (some ⟨p,0,none⟩)] 101)) p v e:=hK.at hR (by simp);have heb:(e != 0)=true:=by simp [he]
 clear he;go_enter Tryz.func93,Tryz.ntmps93;go_wp2_with fail
 refine (cx _ _ _ _ hR1).mono ?_;rintro _ _ ⟨rfl,rfl⟩;go_wp2
 go_ret
 exact ⟨rfl,hK⟩
theorem sK (w:World) (q p:Nat) (v:Value) (e:Int) (older:List PanicEntry) (hq:w.cell? ⟨q,0,none⟩=some (.pointer (some ⟨p,0,none⟩))) (h:aS w p v 0) :
 CallsD Tryz.prog 201 #[.pointer (some ⟨q,0,none⟩)] (.panicking ({ v:=.iface 24 (.int .i64 e),recovered:=false } :: older)) w fun r u' w' =>
  r=.returned (.tuple #[])∧u'=.panicking ({ v:=.iface 24 (.int .i64 e),recovered:=true } :: older)∧aS w' p (.slice none 0 0) e∧ab [p] w w':=by
 have HR:Hid (aS w p v 0):=h;clear h;have hta:=ee e;refine callsD_of_wpS Tryz.func201 rfl fun c₀ cs hu=>?_;apply wpS_seq
 apply wpS_region
 simp [wpOpsS,go_sem,recoverD,hu,Tryz.ntmps201,Exit.thenS,Array.replicate,List.replicate]
 refine wpS_of_wp ?_;go_wp2_with (go_at_call 104;refine (fJ _ _ _ _ _ HR.out).mono ?_;rintro _ w1 ⟨rfl,hR1,hk1⟩)
 exact ⟨rfl,_,rfl,_,by simp [results,Tryz.results201,go_sem],rfl,rfl,hR1,hk1⟩
theorem tp (w:World) (q:Nat) :
 CallsD Tryz.prog 201 #[.pointer (some ⟨q,0,none⟩)] .returning w fun r u' w'=>r=.returned (.tuple #[])∧u'=.returning∧w'=w:=by
 refine callsD_of_wpS Tryz.func201 rfl fun c₀ cs hu=>?_;apply wpS_seq
 apply wpS_region
 simp [wpOpsS,go_sem,recoverD,hu,Tryz.ntmps201,Exit.thenS,Array.replicate,List.replicate]
 refine wpS_of_wp ?_;go_wp2
 cases c₀
 simp_all [bodyPostS,results,Tryz.results201]
theorem u6 (w:World) (p:Nat) (ao:Option Addr) (n c:Nat) (l:List Int) (hR:aS w p (.slice ao n c) 0) (hs:Sl w ao n c l)
 (f:Nat) (hcf:∀ (a:Array Value) (w:World),Sem.run Tryz.prog (callFunc f a) w=.ok (.enter f a) w) (cap:Array Value) (G:World→Value→List Int→Prop) (E:Int→Prop)
 (hstep:∀ w1,ab [] w w1→aS w1 p (.slice ao n c) 0→Sl w1 ao n c l→Calls Tryz.prog f (#[.pointer (some ⟨p,0,none⟩)]++cap) w1 (ev p ao G E w1)) :
 Calls Tryz.prog 198 #[.pointer (some ⟨p,0,none⟩),.func (.func f) #[] cap] w (nP p ao (.int .u64 0) G E w):=by
 have hmf:∀ (fn:Fn) (first cap:Array Value) (w:World),(Instr.makeFunc fn first cap).run Tryz.prog w=.ok (.func fn first cap) w:=fun _ _ _ _=>rfl;have hK:ab [p] w (w.alloc (.cells #[.pointer (some ⟨p,0,none⟩)] 101)):=(ab.refl _ _).alloc _;have hR1:aS (w.alloc (.cells #[.pointer (some ⟨p,0,none⟩)] 101)) p (.slice ao n c) 0:=(show ab [] w _ from (ab.refl _ _).alloc _).at hR (by simp);have hs1:Sl (w.alloc (.cells #[.pointer (some ⟨p,0,none⟩)] 101)) ao n c l:=Sl.kept (show ab [] w _ from (ab.refl _ _).alloc _) hs (by simp);have HST:Hid (Calls Tryz.prog f (#[.pointer (some ⟨p,0,none⟩)]++cap) (w.alloc (.cells #[.pointer (some ⟨p,0,none⟩)] 101)) (ev p ao G E (w.alloc (.cells #[.pointer (some ⟨p,0,none⟩)] 101)))):=hstep _ ((ab.refl _ _).alloc _) hR1 hs1;have hq:(w.alloc (.cells #[.pointer (some ⟨p,0,none⟩)] 101)).cell? ⟨w.heap.size,0,none⟩=some (.pointer (some ⟨p,0,none⟩)):=by simp
 have hpw:p < w.heap.size:=bZ hR;have HR1:=hR1;clear hstep hs hs1 hR;go_enter_defers Tryz.func198,Tryz.ntmps198
 go_wp2_with fail
 refine (cx _ _ _ _ hR1).mono ?_;rintro _ _ ⟨rfl,rfl⟩;go_wp2_with fail
 refine HST.out.mono ?_;rintro r w1 ⟨hk1,⟨x,a,c',rest,rfl,hR2,hs2,hb2,hG⟩ | ⟨e,v,rfl,he,hR2,hE⟩⟩
 ·go_wp2
  refine leaves_cons (f:=201) (args:=#[.pointer (some ⟨w.heap.size,0,none⟩)]) (by simp) (by simp [go_sem]) ?_;refine (tp _ _).mono ?_;rintro e u' w'' ⟨rfl,rfl,rfl⟩;refine ⟨_,results_tmp rfl _ _ _,?_⟩;exact ⟨hK.trans hk1 (by simp),x,a,c',rest,0,rfl,hR2,hs2,hb2,.inl ⟨rfl,hG⟩⟩
 ·go_wp2
  refine leaves_cons (f:=201) (args:=#[.pointer (some ⟨w.heap.size,0,none⟩)]) (by simp) (by simp [go_sem]) ?_;refine (sK _ _ p v e [] (hk1.cell hq (by simp;omega)) hR2).mono ?_;rintro _ u' w'' ⟨rfl,rfl,hR3,hk3⟩;refine ⟨_,results_tmp rfl _ _ _,?_⟩;exact ⟨(hK.trans hk1 (by simp)).trans hk3 (by simp),.int .u64 0,none,0,[],e,rfl,hR3,Sl.nil _,by simp [bO],.inr ⟨he,hE,rfl,rfl⟩⟩
theorem kf (w:World) (p:Nat) (v:Value) (e:Int) (hR:aS w p v e) (he:e≠0) (fv:Value) :
 Calls Tryz.prog 198 #[.pointer (some ⟨p,0,none⟩),fv] w fun r w'=>r=.returned (.int .u64 0)∧ab [] w w':=by
 have hK:ab [] w (w.alloc (.cells #[.pointer (some ⟨p,0,none⟩)] 101)):=(ab.refl _ _).alloc _;have hR1:aS (w.alloc (.cells #[.pointer (some ⟨p,0,none⟩)] 101)) p v e:=hK.at hR (by simp);have heb:(e != 0)=true:=by simp [he]
 clear he;go_enter Tryz.func198,Tryz.ntmps198;go_wp2_with fail
 refine (cx _ _ _ _ hR1).mono ?_;rintro _ _ ⟨rfl,rfl⟩;go_wp2
 go_ret
 exact ⟨rfl,hK⟩
def Rd (w:World) (p:Nat) (F:List Nat) (l:List Int) (e:Int):Prop :=
 ∃ ao c,aS w p (.slice ao l.length c) e∧Sl w ao l.length c l∧(∀ k∈bO ao,k∈F)∧p ∉ F∧bi l∧(e≠0→l=[])
theorem Rd.kept {S:List Nat}{a w:World}(h:ab S a w) {p:Nat}{F:List Nat}{l:List Int}{e:Int}(hr:Rd a p F l e) (hp:p ∉ S) (hF:∀ k∈F,k ∉ S):Rd w p F l e:=by
 obtain ⟨ao,c,h1,h2,h3,h4,h5,h6⟩:=hr;exact ⟨ao,c,h.at h1 hp,Sl.kept h h2 (fun k hk=>hF k (h3 k hk)),h3,h4,h5,h6⟩
theorem Rd.lt {w:World}{p:Nat}{F:List Nat}{l:List Int}{e:Int}(hr:Rd w p F l e):p < w.heap.size:=by
 obtain ⟨ao,c,h1,_⟩:=hr;exact bZ h1
theorem kE (w:World) (ao:Option Addr) (n c:Nat) (l:List Int) (hs:Sl w ao n c l) (hbig:n≤140737488355328) (ho:bi l) :
 Calls Tryz.prog 62 #[.slice ao n c] w fun e w'=>∃ p F,e=.returned (.pointer (some ⟨p,0,none⟩))∧w.heap.size≤p∧(∀ k∈F,w.heap.size≤k)∧(∀ k∈F,k < w'.heap.size)∧Rd w' p F l 0∧ab [] w w':=by
 refine (ld w ao n c l hs hbig).mono ?_;rintro _ w' ⟨p,a,c',rfl,hp,hR,hs',hb,hk⟩;refine ⟨p,bO a,rfl,hp,fun k hk=>(hb k hk).1,fun k hk=>by have:=hb k hk;have:=bZ hR;omega,⟨a,c',?_,?_,fun k hk=>hk,fun h=>by have:=hb p h;omega,ho,by simp⟩,hk⟩
 ·rw [hs'.1];exact hR
 ·rw [hs'.1];exact hs'
theorem en (f i:Nat) (acc:Int) (l:List Int):((fq f i acc l).1=0∧∃ k,(fq f i acc l).2.2=l.drop k)∨((fq f i acc l).1≠0∧(fq f i acc l).2=(0,[])):=by
 induction f generalizing i acc l with
 | zero=>right;simp [fq]
 | succ f ih =>
   cases l with
   | nil=>right;simp [fq]
   | cons d l =>
     rw [fq];split
     ·rcases ih (i+1) (acc+d % 128*2 ^ (7*i)) l with ⟨h1,k,h2⟩ | h
      ·exact .inl ⟨h1,k+1,by simpa using h2⟩
      ·exact .inr h
     ·split
      ·right;simp
      ·left;exact ⟨rfl,1,rfl⟩
theorem lP {l:List Int}(ho:bi l):bi (bm l).2.2:=by
 rcases en 6 0 0 l with ⟨_,k,h⟩ | ⟨_,h⟩
 ·show bi (fq 6 0 0 l).2.2;rw [h];exact ho.drop k
 ·show bi (fq 6 0 0 l).2.2;rw [h];intro x hx;simp at hx
def an (e:Int) (l:List Int):Int × Int × List Int:=if e=0 then bm l else (e,0,[])
theorem iW (a:Array Value) (w:World):Sem.run Tryz.prog (callFunc 92 a) w=.ok (.enter 92 a) w:=by kernel_rfl
theorem nd (w:World) (p:Nat) (ao:Option Addr) (n c:Nat) (l:List Int) (hR:aS w p (.slice ao n c) 0) (hs:Sl w ao n c l) (hp:p ∉ bO ao) (ho:bi l) :
 Calls Tryz.prog 92 #[.pointer (some ⟨p,0,none⟩)] w (ev p ao (fun _ x rest=>∃ y,x=.int .i64 y∧bm l=(0,y,rest)) (fun e=>bm l=(e,0,[])) w):=by
 refine (kN w p ao n c l hR hs hp ho).mono ?_;rintro r w' (⟨a,c',rest,x,h1,rfl,h2,h3,h4,h5⟩ | ⟨e,v,h1,h2,rfl,h3,h4⟩)
 ·exact ⟨h5,.inl ⟨_,a,c',rest,rfl,h2,h3,fun k hk=>by rw [h4] at hk;exact hk,x,rfl,h1⟩⟩
 ·exact ⟨h4,.inr ⟨e,v,rfl,h2,h3,h1⟩⟩
theorem cz (w:World) (p:Nat) (F:List Nat) (l:List Int) (e:Int) (hr:Rd w p F l e) :
 Calls Tryz.prog 63 #[.pointer (some ⟨p,0,none⟩)] w fun r w'=>r=.returned (.int .i64 (an e l).2.1)∧Rd w' p F (an e l).2.2 (an e l).1∧ab [p] w w':=by
 obtain ⟨ao,c,h1,h2,h3,h4,h5,h6⟩:=hr;have H1:Hid (aS w p (.slice ao l.length c) e):=h1;have H2:Hid (Sl w ao l.length c l):=h2;clear h1 h2;by_cases he:e=0
 ·subst he;have hcf:=iW;go_enter Tryz.func63,Tryz.ntmps63;(go_wp2_with fail);refine (uH _ p ao _ c l H1.out H2.out 92 iW #[] _ _ (fun w1 hk hR1 hs1=>nd w1 p ao _ c l hR1 hs1 (fun h=>h4 (h3 p h)) h5)).mono ?_;rintro _ w1 ⟨hk,x,a,c',rest,e,rfl,hR,hs,hb,h7⟩
  have hx:∃ y,x=.int .i64 y∧bm l=(e,y,rest):=by
   rcases h7 with ⟨rfl,y,rfl,h8⟩ | ⟨h8,h9,rfl,rfl⟩
   ·exact ⟨y,rfl,h8⟩
   ·exact ⟨0,rfl,h9⟩
  obtain ⟨y,rfl,h8⟩:=hx;have H8:Hid (bm l=(e,y,rest)):=h8
  have h10:e≠0→rest=[]:=by
   intro he;rcases h7 with ⟨h,_⟩ | ⟨_,_,_,h⟩
   ·exact absurd h he
   ·exact h
  have h11:bi rest:=by have:=lP h5;rw [h8] at this;exact this
  clear h8 h7;go_wp2
  go_ret
  have h12:an 0 l=(e,y,rest):=by unfold an;rw [if_pos rfl];exact H8.out
  rw [h12];exact ⟨rfl,⟨a,c',hR,hs,fun k hk=>h3 k (hb k hk),h4,h11,h10⟩,hk⟩
 ·have hl:=h6 he;subst hl;have HE:Hid (¬ e=0):=he;clear he h6;go_enter Tryz.func63,Tryz.ntmps63;(go_wp2_with fail);refine (kt _ p _ e H1.out HE.out _).mono ?_;rintro _ w1 ⟨rfl,hk⟩;go_wp2
  go_ret
  have h12:an e []=(e,0,[]):=by unfold an;rw [if_neg HE.out]
  rw [h12];exact ⟨rfl,Rd.kept hk ⟨ao,c,H1.out,H2.out,h3,h4,h5,fun _=>rfl⟩ (by simp) (by simp),hk.mono (by simp)⟩
theorem gY (w:World) (p:Nat) (F:List Nat) (l:List Int) (e:Int) (hr:Rd w p F l e) :
 Calls Tryz.prog 95 #[.pointer (some ⟨p,0,none⟩)] w fun r w'=>r=.returned (.int .i64 e)∧w=w':=by
 obtain ⟨ao,c,h1,_⟩:=hr;exact cx w p _ e h1
theorem na (w:World) (p:Nat) (F:List Nat) (l:List Int) (e:Int) (hr:Rd w p F l e) :
 Calls Tryz.prog 65 #[.pointer (some ⟨p,0,none⟩)] w fun r w'=>r=.returned (.int .i64 (if e=0 then (if l.length=0 then 0 else 3) else e))∧w=w':=by
 obtain ⟨ao,c,h1,_⟩:=hr;exact ts w p _ _ _ e h1
def bE (most:Int) (l:List Int):Int × List Int × List Int :=
 if (bm l).1≠0 then ((bm l).1,[],[]) else
 if most < (bm l).2.1 then (3,[],[]) else
 if ((bm l).2.2.length:Int) < (bm l).2.1 then (2,[],[]) else
 (0,(bm l).2.2.take (bm l).2.1.toNat,(bm l).2.2.drop (bm l).2.1.toNat)
def cr:List Int→Int × Bool × List Int
 | []=>(2,false,[])
 | d :: l=>if 1 < d then (4,false,[]) else (0,d==1,l)
def cY (l:List Int):Int × Int × List Int:=if l.length < 8 then (2,0,[]) else (0,bs (l.take 8),l.drop 8)
theorem jq {most e x:Int}{l rest:List Int}(h:bm l=(e,x,rest)) :
 bE most l=if e≠0 then (e,[],[]) else if most < x then (3,[],[]) else if (rest.length:Int) < x then (2,[],[]) else (0,rest.take x.toNat,rest.drop x.toNat):=by
 unfold bE;rw [h]
def xQ (p:Nat) (ao:Option Addr) (most:Int) (l:List Int) (w:World) (r:Ending) (w':World):Prop :=
 ab [p] w w'∧((∃ a1 n1 c1 a2 c2 data rest,bE most l=(0,data,rest)∧r=.returned (.slice a1 n1 c1)∧Sl w' a1 n1 c1 data∧aS w' p (.slice a2 rest.length c2) 0∧Sl w' a2 rest.length c2 rest∧(∀ k∈bO a2,k∈bO ao)) ∨
  (∃ e v,bE most l=(e,[],[])∧e≠0∧r=.panicked [{ v:=.iface 24 (.int .i64 e),recovered:=false }]∧aS w' p v 0))
theorem px (w:World) (p:Nat) (ao:Option Addr) (n c:Nat) (most:Int) (l:List Int) (hR:aS w p (.slice ao n c) 0) (hs:Sl w ao n c l) (hp:p ∉ bO ao) (ho:bi l) :
 Calls Tryz.prog 182 #[.pointer (some ⟨p,0,none⟩),.int .i64 most] w (xQ p ao most l w):=by
 have HR:Hid (aS w p (.slice ao n c) 0):=hR;have HS:Hid (Sl w ao n c l):=hs;clear hR hs;go_enter Tryz.func182,Tryz.ntmps182;go_wp2_with fail
 refine (kN _ _ _ _ _ _ HR.out HS.out hp ho).mono ?_;rintro r w1 (⟨a,c',rest,x,h1,rfl,h2,h3,h4,h5⟩ | ⟨e,v,h1,h2,rfl,h3,h4⟩)
 ·have hx:=fw x l rest ho h1;have hrun:=jq (most:=most) h1;have HRUN:Hid (bE most l=if (0:Int)≠0 then (0,[],[]) else if most < x then (3,[],[]) else if (rest.length:Int) < x then (2,[],[]) else (0,rest.take x.toNat,rest.drop x.toNat)):=hrun;have H2:Hid (aS w1 p (.slice a rest.length c') 0):=h2;have H3:Hid (Sl w1 a rest.length c' rest):=h3;have H4:Hid (bO a=bO ao):=h4;have hx0:=hx.1;have hx1:=hx.2.1;clear h1 h2 h3 h4 hrun hx;by_cases hbig:most < x
  ·have HE:Hid (bE most l=(3,[],[])):=by show bE most l=_;rw [HRUN.out,if_neg (by simp),if_pos hbig]
   go_wp2
   exact ⟨rfl,h5,.inr ⟨3,_,HE.out,by decide,rfl,H2.out⟩⟩
  ·by_cases hsh:(rest.length:Int) < x
   ·have HE:Hid (bE most l=(2,[],[])):=by show bE most l=_;rw [HRUN.out,if_neg (by simp),if_neg hbig,if_pos hsh]
    obtain ⟨k,rfl⟩:=Int.eq_ofNat_of_zero_le hx0;(go_wp2_with fail);refine (fS _ _ _ _ _ k _ H2.out (by omega)).mono ?_;rintro _ _ ⟨rfl,rfl⟩;go_wp2
    exact ⟨rfl,h5,.inr ⟨2,_,HE.out,by decide,rfl,H2.out⟩⟩
   ·have HE:Hid (bE most l=(0,rest.take x.toNat,rest.drop x.toNat)):=by show bE most l=_;rw [HRUN.out,if_neg (by simp),if_neg hbig,if_neg hsh]
    obtain ⟨k,rfl⟩:=Int.eq_ofNat_of_zero_le hx0;(go_wp2_with fail);refine (gL _ _ _ _ _ k _ _ H2.out H3.out (by rw [H4.out];exact hp) (by omega)).mono ?_;rintro _ w2 ⟨a1,c1,a2,c2,rfl,hR2,hs1,hs2,hb1,hb2,hk2⟩
    have HFIN:Hid (xQ p ao most l w (.returned (.slice a1 k c1)) w2):=by
     refine ⟨h5.trans hk2 (by simp),.inl ⟨a1,k,c1,a2,c2,_,_,HE.out,rfl,by simpa using hs1,?_,?_,?_⟩⟩
     ·have e:(rest.drop (k:Int).toNat).length=rest.length - k:=by simp
      rw [e];exact hR2
     ·have e:(rest.drop (k:Int).toNat).length=rest.length - k:=by simp
      rw [e];simpa using hs2
     ·intro j hj;rw [hb2,H4.out] at hj;exact hj
    clear hR2 hs1 hs2 hb1 hb2 hk2;go_wp2
    go_ret
    exact HFIN.out
 ·have HE:Hid (bE most l=(e,[],[])):=by show bE most l=_;rw [jq h1,if_pos h2]
  clear h1;go_wp2
  exact ⟨rfl,h4,.inr ⟨e,v,HE.out,h2,rfl,h3⟩⟩
theorem jx {most:Int}{l:List Int}(ho:bi l):bi (bE most l).2.1∧bi (bE most l).2.2:=by
 have h:=lP ho;unfold bE;split
 ·exact ⟨bq,bq⟩
 ·split
  ·exact ⟨bq,bq⟩
  ·split
   ·exact ⟨bq,bq⟩
   ·exact ⟨h.take _,h.drop _⟩
theorem gk {most:Int}{l:List Int}:(bE most l).2.1.length≤l.length∧(bE most l).2.2.length≤l.length:=by
 have h:(bm l).2.2.length≤l.length:=by
  rcases en 6 0 0 l with ⟨_,k,h⟩ | ⟨_,h⟩
  ·show (fq 6 0 0 l).2.2.length≤_;rw [h];simp
  ·show (fq 6 0 0 l).2.2.length≤_;rw [h];simp
 unfold bE;split
 ·simp
 ·split
  ·simp
  ·split
   ·simp
   ·simp;omega
def jt (l:List Int):ByteArray:=⟨(l.map fun n=>UInt8.ofNat n.toNat).toArray⟩
theorem ov (s:ByteArray):jt (dD s)=s:=by
 unfold jt dD
 have:(s.data.toList.map fun b=>(b.toNat:Int)).map (fun n=>UInt8.ofNat n.toNat)=s.data.toList:=by
  rw [List.map_map];conv=>rhs;rw [← List.map_id s.data.toList]
  apply List.map_congr_left
  intro b _;simp
 rw [this]
theorem pX (l:List Int):l.foldl (fun r n=>r.push (UInt8.ofNat n.toNat)) ByteArray.empty=jt l:=by
 have h:∀ (l:List Int) (s:ByteArray),l.foldl (fun r n=>r.push (UInt8.ofNat n.toNat)) s=⟨s.data++(l.map fun n=>UInt8.ofNat n.toNat).toArray⟩:=by
  intro l;induction l with
  | nil=>intro s;simp
  | cons d l ih=>intro s;rw [List.foldl_cons,ih];simp [ByteArray.push]
 rw [h];simp [jt,ByteArray.empty,ByteArray.emptyWithCapacity];rfl
theorem lR (w:World) (ao:Option Addr) (n c:Nat) (l:List Int) (hs:Sl w ao n c l):(convert 23 9 (.slice ao n c)).run Tryz.prog w=.ok (.string (jt l)) w:=by
 rw [run_convert_bytes_string w 23 9 5 ao n c Tryz.underlying23 Tryz.underlying5 Tryz.underlying9];have hn:=hs.1;subst hn;cases ao with
 | none =>
   have h1:=hs.2.2.2.1 rfl;have h2:=hs.2.1
   have h3:l=[]:=by have h4:l.length=0:=by omega
                    simpa using h4
   subst h3;rfl
 | some a =>
   have h:=run_loadCells_list (P:=Tryz.prog) w a (l.map (Value.int .u8)) (mw hs);rw [List.length_map] at h;rw [run_bytesToString w a l.length c l h,pX]
theorem oj (a:Array Value) (w:World):Sem.run Tryz.prog (callFunc 196 a) w=.ok (.enter 196 a) w:=by kernel_rfl
theorem nx (a:Array Value) (w:World):Sem.run Tryz.prog (callFunc 181 a) w=.ok (.enter 181 a) w:=by kernel_rfl
theorem oT (a:Array Value) (w:World):Sem.run Tryz.prog (callFunc 199 a) w=.ok (.enter 199 a) w:=by kernel_rfl
theorem ma (a:Array Value) (w:World):Sem.run Tryz.prog (callFunc 94 a) w=.ok (.enter 94 a) w:=by kernel_rfl
theorem pD (w:World) (p q:Nat) (ao:Option Addr) (n c:Nat) (most:Int) (l:List Int) (hR:aS w p (.slice ao n c) 0) (hs:Sl w ao n c l) (hp:p ∉ bO ao) (ho:bi l) (hq:w.cell? ⟨q,0,none⟩=some (.int .i64 most)) :
 Calls Tryz.prog 196 #[.pointer (some ⟨p,0,none⟩),.pointer (some ⟨q,0,none⟩)] w (ev p ao (fun _ x rest=>∃ d,x=.string (jt d)∧bE most l=(0,d,rest)) (fun e=>bE most l=(e,[],[])) w):=by
 have HR:Hid (aS w p (.slice ao n c) 0):=hR;have HS:Hid (Sl w ao n c l):=hs;clear hR hs;go_enter Tryz.func196,Tryz.ntmps196;go_wp2_with fail
 refine (px _ _ _ _ _ _ _ HR.out HS.out hp ho).mono ?_;rintro r w1 ⟨hk,⟨a1,n1,c1,a2,c2,data,rest,h1,rfl,h2,h3,h4,h5⟩ | ⟨e,v,h1,h2,rfl,h3⟩⟩
 ·have hcv:=lR w1 a1 n1 c1 data h2;have HF:Hid (ev p ao (fun _ x rest=>∃ d,x=.string (jt d)∧bE most l=(0,d,rest)) (fun e=>bE most l=(e,[],[])) w (.returned (.string (jt data))) w1):=⟨hk,.inl ⟨_,a2,c2,rest,rfl,h3,h4,h5,data,rfl,h1⟩⟩;clear h1 h2 h3 h4 h5;go_wp2
  go_ret
  exact HF.out
 ·have HF:Hid (ev p ao (fun _ x rest=>∃ d,x=.string (jt d)∧bE most l=(0,d,rest)) (fun e=>bE most l=(e,[],[])) w (.panicked [{ v:=.iface 24 (.int .i64 e),recovered:=false }]) w1):=⟨hk,.inr ⟨e,v,rfl,h2,h3,h1⟩⟩;clear h1 h2 h3;go_wp2
  exact ⟨rfl,HF.out⟩
def av (e most:Int) (l:List Int):Int × List Int × List Int:=if e=0 then bE most l else (e,[],[])
theorem qD (w:World) (p:Nat) (F:List Nat) (l:List Int) (e most:Int) (hr:Rd w p F l e) :
 Calls Tryz.prog 192 #[.pointer (some ⟨p,0,none⟩),.int .i64 most] w fun r w'=>r=.returned (.string (jt (av e most l).2.1))∧Rd w' p F (av e most l).2.2 (av e most l).1∧ab [p] w w':=by
 obtain ⟨ao,c,h1,h2,h3,h4,h5,h6⟩:=hr;have hK:ab [] w (w.alloc (.cells #[.int .i64 most] 3)):=(ab.refl _ _).alloc _;have H1:Hid (aS (w.alloc (.cells #[.int .i64 most] 3)) p (.slice ao l.length c) e):=hK.at h1 (by simp);have H2:Hid (Sl (w.alloc (.cells #[.int .i64 most] 3)) ao l.length c l):=Sl.kept hK h2 (by simp);have hq:(w.alloc (.cells #[.int .i64 most] 3)).cell? ⟨w.heap.size,0,none⟩=some (.int .i64 most):=by simp
 have HQ:Hid ((w.alloc (.cells #[.int .i64 most] 3)).cell? ⟨w.heap.size,0,none⟩=some (.int .i64 most)):=hq;have hmf:∀ (fn:Fn) (first cap:Array Value) (w:World),(Instr.makeFunc fn first cap).run Tryz.prog w=.ok (.func fn first cap) w:=fun _ _ _ _=>rfl;clear h1 h2 hq;by_cases he:e=0
 ·subst he;go_enter Tryz.func192,Tryz.ntmps192;(go_wp2_with fail);refine (uF _ p ao _ c l H1.out H2.out 196 oj #[.pointer (some ⟨w.heap.size,0,none⟩)] _ _ (fun w1 hk hR1 hs1=>pD w1 p w.heap.size ao _ c most l hR1 hs1 (fun h=>h4 (h3 p h)) h5 (hk.cell HQ.out (by simp)))).mono ?_;rintro _ w1 ⟨hk,x,a,c',rest,e,rfl,hR,hs,hb,h7⟩
  have hx:∃ d,x=.string (jt d)∧bE most l=(e,d,rest):=by
   rcases h7 with ⟨rfl,d,rfl,h8⟩ | ⟨h8,h9,rfl,rfl⟩
   ·exact ⟨d,rfl,h8⟩
   ·exact ⟨[],rfl,h9⟩
  obtain ⟨d,rfl,h8⟩:=hx;have H8:Hid (bE most l=(e,d,rest)):=h8
  have h10:e≠0→rest=[]:=by
   intro he;rcases h7 with ⟨h,_⟩ | ⟨_,_,_,h⟩
   ·exact absurd h he
   ·exact h
  have h11:bi rest:=by have:=(jx (most:=most) h5).2;rw [h8] at this;exact this
  clear h8 h7;go_wp2
  go_ret
  have h12:av 0 most l=(e,d,rest):=by unfold av;rw [if_pos rfl];exact H8.out
  rw [h12];exact ⟨rfl,⟨a,c',hR,hs,fun k hk=>h3 k (hb k hk),h4,h11,h10⟩,(hK.mono (by simp)).trans hk (by simp)⟩
 ·have hl:=h6 he;subst hl;have HE:Hid (¬ e=0):=he;clear he h6;go_enter Tryz.func192,Tryz.ntmps192;(go_wp2_with fail);refine (kL _ p _ e H1.out HE.out _).mono ?_;rintro _ w1 ⟨rfl,hk⟩;go_wp2
  go_ret
  have h12:av e most []=(e,[],[]):=by unfold av;rw [if_neg HE.out]
  rw [h12];exact ⟨rfl,Rd.kept hk ⟨ao,c,H1.out,H2.out,h3,h4,h5,fun _=>rfl⟩ (by simp) (by simp),(hK.trans hk (by simp)).mono (by simp)⟩
def tl (w:World) (most:Int) (l:List Int) (w':World) (x:Value) (rest:List Int):Prop :=
 ∃ a n c d,x=.slice a n c∧Sl w' a n c d∧(∀ k∈bO a,w.heap.size≤k∧k < w'.heap.size)∧bE most l=(0,d,rest)
theorem om (w:World) (p q:Nat) (ao:Option Addr) (n c:Nat) (most:Int) (l:List Int) (hR:aS w p (.slice ao n c) 0) (hs:Sl w ao n c l) (hp:p ∉ bO ao) (ho:bi l) (hq:w.cell? ⟨q,0,none⟩=some (.int .i64 most)) (hbig:n≤140737488355328) :
 Calls Tryz.prog 181 #[.pointer (some ⟨p,0,none⟩),.pointer (some ⟨q,0,none⟩)] w (ev p ao (tl w most l) (fun e=>bE most l=(e,[],[])) w):=by
 have hn:=hs.1;have HR:Hid (aS w p (.slice ao n c) 0):=hR;have HS:Hid (Sl w ao n c l):=hs;clear hR hs;go_enter Tryz.func181,Tryz.ntmps181;go_wp2_with fail
 refine (px _ _ _ _ _ _ _ HR.out HS.out hp ho).mono ?_;rintro r w1 ⟨hk,⟨a1,n1,c1,a2,c2,data,rest,h1,rfl,h2,h3,h4,h5⟩ | ⟨e,v,h1,h2,rfl,h3⟩⟩
 ·have hn1:n1≤140737488355328:=by
   have h6:=h2.1;have h7:=gk (most:=most) (l:=l);rw [h1] at h7;simp only at h7;omega
  have H1:Hid (bE most l=(0,data,rest)):=h1;have H3:Hid (aS w1 p (.slice a2 rest.length c2) 0):=h3;have H4:Hid (Sl w1 a2 rest.length c2 rest):=h4;clear h1 h3 h4;(go_wp2_with fail);refine (gX _ _ _ _ _ h2 hn1).mono ?_;rintro _ w2 ⟨a3,c3,rfl,hs3,hb3,hk3⟩
  have HF:Hid (ev p ao (tl w most l) (fun e=>bE most l=(e,[],[])) w (.returned (.slice a3 n1 c3)) w2) :=
   ⟨hk.trans hk3 (by simp),.inl ⟨_,a2,c2,rest,rfl,hk3.at H3.out (by simp),Sl.kept hk3 H4.out (by simp),h5,a3,n1,c3,data,rfl,hs3,fun k hk'=>⟨Nat.le_trans hk.size (hb3 k hk').1,(hb3 k hk').2⟩,H1.out⟩⟩
  clear h2 hs3 hb3 hk3 h5;go_wp2
  go_ret
  exact HF.out
 ·have HF:Hid (ev p ao (tl w most l) (fun e=>bE most l=(e,[],[])) w (.panicked [{ v:=.iface 24 (.int .i64 e),recovered:=false }]) w1):=⟨hk,.inr ⟨e,v,rfl,h2,h3,h1⟩⟩;clear h1 h2 h3;go_wp2
  exact ⟨rfl,HF.out⟩
theorem oL (w:World) (p:Nat) (F:List Nat) (l:List Int) (e most:Int) (hr:Rd w p F l e) (hbig:l.length≤140737488355328) :
 Calls Tryz.prog 176 #[.pointer (some ⟨p,0,none⟩),.int .i64 most] w fun r w'=>∃ a n c,r=.returned (.slice a n c)∧Sl w' a n c (av e most l).2.1∧(∀ k∈bO a,w.heap.size≤k∧k < w'.heap.size)∧Rd w' p F (av e most l).2.2 (av e most l).1∧ab [p] w w':=by
 obtain ⟨ao,c,h1,h2,h3,h4,h5,h6⟩:=hr;have hK:ab [] w (w.alloc (.cells #[.int .i64 most] 3)):=(ab.refl _ _).alloc _;have H1:Hid (aS (w.alloc (.cells #[.int .i64 most] 3)) p (.slice ao l.length c) e):=hK.at h1 (by simp);have H2:Hid (Sl (w.alloc (.cells #[.int .i64 most] 3)) ao l.length c l):=Sl.kept hK h2 (by simp);have hq:(w.alloc (.cells #[.int .i64 most] 3)).cell? ⟨w.heap.size,0,none⟩=some (.int .i64 most):=by simp
 have HQ:Hid ((w.alloc (.cells #[.int .i64 most] 3)).cell? ⟨w.heap.size,0,none⟩=some (.int .i64 most)):=hq;have hmf:∀ (fn:Fn) (first cap:Array Value) (w:World),(Instr.makeFunc fn first cap).run Tryz.prog w=.ok (.func fn first cap) w:=fun _ _ _ _=>rfl;clear h1 h2 hq;by_cases he:e=0
 ·subst he;go_enter Tryz.func176,Tryz.ntmps176;(go_wp2_with fail);refine (ux _ p ao _ c l H1.out H2.out 181 nx #[.pointer (some ⟨w.heap.size,0,none⟩)] (tl w most l) (fun e=>bE most l=(e,[],[])) (fun w1 hk hR1 hs1=>(om w1 p w.heap.size ao _ c most l hR1 hs1 (fun h=>h4 (h3 p h)) h5 (hk.cell HQ.out (by simp)) hbig).mono (fun r w2 hS=>?_))).mono ?_
  ·obtain ⟨hSk,hSe⟩:=hS;refine ⟨hSk,?_⟩;rcases hSe with ⟨x,a,c',rest,k1,k2,k3,k4,a9,n9,c9,d9,m1,m2,m3,m4⟩ | hSe
   ·exact .inl ⟨x,a,c',rest,k1,k2,k3,k4,a9,n9,c9,d9,m1,m2,fun k hk'=>⟨Nat.le_trans (Nat.le_trans hK.size hk.size) (m3 k hk').1,(m3 k hk').2⟩,m4⟩
   ·exact .inr hSe
  rintro _ w1 ⟨hk,x,a,c',rest,e,rfl,hR,hs,hb,h7⟩
  have hx:∃ a9 n9 c9 d,x=.slice a9 n9 c9∧Sl w1 a9 n9 c9 d∧(∀ k∈bO a9,w.heap.size≤k∧k < w1.heap.size)∧bE most l=(e,d,rest):=by
   rcases h7 with ⟨rfl,a9,n9,c9,d,m1,m2,m3,m4⟩ | ⟨h8,h9,rfl,rfl⟩
   ·exact ⟨a9,n9,c9,d,m1,m2,m3,m4⟩
   ·exact ⟨none,0,0,[],rfl,Sl.nil _,by simp [bO],h9⟩
  obtain ⟨a9,n9,c9,d,rfl,m2,m3,h8⟩:=hx;have H8:Hid (bE most l=(e,d,rest)):=h8
  have h10:e≠0→rest=[]:=by
   intro he;rcases h7 with ⟨h,_⟩ | ⟨_,_,_,h⟩
   ·exact absurd h he
   ·exact h
  have h11:bi rest:=by have:=(jx (most:=most) h5).2;rw [h8] at this;exact this
  have M2:Hid (Sl w1 a9 n9 c9 d):=m2;clear h8 h7 m2;go_wp2
  go_ret
  have h12:av 0 most l=(e,d,rest):=by unfold av;rw [if_pos rfl];exact H8.out
  rw [h12];exact ⟨a9,n9,c9,rfl,M2.out,m3,⟨a,c',hR,hs,fun k hk=>h3 k (hb k hk),h4,h11,h10⟩,(hK.mono (by simp)).trans hk (by simp)⟩
 ·have hl:=h6 he;subst hl;have HE:Hid (¬ e=0):=he;clear he h6;go_enter Tryz.func176,Tryz.ntmps176;(go_wp2_with fail);refine (kx _ p _ e H1.out HE.out _).mono ?_;rintro _ w1 ⟨rfl,hk⟩;go_wp2
  go_ret
  have h12:av e most []=(e,[],[]):=by unfold av;rw [if_neg HE.out]
  rw [h12];exact ⟨none,0,0,rfl,Sl.nil _,by simp [bO],Rd.kept hk ⟨ao,c,H1.out,H2.out,h3,h4,h5,fun _=>rfl⟩ (by simp) (by simp),(hK.trans hk (by simp)).mono (by simp)⟩
theorem oe (a:Array Value) (w:World):Sem.run Tryz.prog (callFunc 197 a) w=.ok (.enter 197 a) w:=by kernel_rfl
theorem pJ (w:World) (p:Nat) (ao:Option Addr) (n c:Nat) (l:List Int) (hR:aS w p (.slice ao n c) 0) (hs:Sl w ao n c l) (hp:p ∉ bO ao) (ho:bi l) :
 Calls Tryz.prog 197 #[.pointer (some ⟨p,0,none⟩)] w (ev p ao (fun _ x rest=>∃ b,x=.bool b∧cr l=(0,b,rest)) (fun e=>cr l=(e,false,[])) w):=by
 have hn:=hs.1;subst hn;have HR:Hid (aS w p (.slice ao l.length c) 0):=hR;have HS:Hid (Sl w ao l.length c l):=hs;clear hR hs;cases l with
 | nil =>
   have HF:Hid (ev p ao (fun _ x rest=>∃ b,x=.bool b∧cr []=(0,b,rest)) (fun e=>cr []=(e,false,[])) w (.panicked [{ v:=.iface 24 (.int .i64 2),recovered:=false }]) w):=⟨ab.refl _ _,.inr ⟨2,_,rfl,by decide,HR.out,rfl⟩⟩;go_enter Tryz.func197,Tryz.ntmps197;(go_wp2_with fail);refine (fS _ _ _ _ _ 1 _ HR.out (by simp)).mono ?_;rintro _ _ ⟨rfl,rfl⟩;go_wp2
   exact ⟨rfl,HF.out⟩
 | cons d l' =>
   have hd:=ho.head;go_enter Tryz.func197,Tryz.ntmps197;(go_wp2_with fail);refine (gL _ _ _ _ _ 1 _ _ HR.out HS.out hp (by simp)).mono ?_;rintro _ w1 ⟨a1,c1,a2,c2,rfl,hR2,hs1,hs2,hb1,hb2,hk2⟩;obtain ⟨b,o,hb3,hc1⟩:=hs1.some (by omega);subst hb3;have hc2:=hc1 0 (by omega);clear hc1 hb1 hs1;simp at hc2
   have HR2:Hid (aS w1 p (.slice a2 l'.length c2) 0):=hR2;have HS2:Hid (Sl w1 a2 l'.length c2 l'):=hs2;have HB2:Hid (bO a2=bO ao):=hb2;clear hR2 hs2 hb2;by_cases h1:1 < d
   ·have HF:Hid (ev p ao (fun _ x rest=>∃ b,x=.bool b∧cr (d :: l')=(0,b,rest)) (fun e=>cr (d :: l')=(e,false,[])) w (.panicked [{ v:=.iface 24 (.int .i64 4),recovered:=false }]) w1):=⟨hk2,.inr ⟨4,_,rfl,by decide,HR2.out,by rw [cr,if_pos h1]⟩⟩;go_wp2
    exact ⟨rfl,HF.out⟩
   ·have HF:Hid (ev p ao (fun _ x rest=>∃ b,x=.bool b∧cr (d :: l')=(0,b,rest)) (fun e=>cr (d :: l')=(e,false,[])) w (.returned (.bool (d==1))) w1):=⟨hk2,.inl ⟨_,a2,c2,l',rfl,HR2.out,HS2.out,fun k hk=>by rw [HB2.out] at hk;exact hk,d==1,rfl,by rw [cr,if_neg h1]⟩⟩;go_wp2
    go_ret
    exact HF.out
theorem pH (w:World) (p:Nat) (ao:Option Addr) (n c:Nat) (l:List Int) (hR:aS w p (.slice ao n c) 0) (hs:Sl w ao n c l) (hp:p ∉ bO ao) (ho:bi l) :
 Calls Tryz.prog 199 #[.pointer (some ⟨p,0,none⟩)] w (ev p ao (fun _ x rest=>∃ y,x=.int .u64 y∧cY l=(0,y,rest)) (fun e=>cY l=(e,0,[])) w):=by
 have hn:=hs.1;subst hn;have HR:Hid (aS w p (.slice ao l.length c) 0):=hR;have HS:Hid (Sl w ao l.length c l):=hs;clear hR hs;by_cases h8:l.length < 8
 ·have HF:Hid (ev p ao (fun _ x rest=>∃ y,x=.int .u64 y∧cY l=(0,y,rest)) (fun e=>cY l=(e,0,[])) w (.panicked [{ v:=.iface 24 (.int .i64 2),recovered:=false }]) w):=⟨ab.refl _ _,.inr ⟨2,_,rfl,by decide,HR.out,by unfold cY;rw [if_pos h8]⟩⟩;go_enter Tryz.func199,Tryz.ntmps199;(go_wp2_with fail);refine (fS _ _ _ _ _ 8 _ HR.out h8).mono ?_;rintro _ _ ⟨rfl,rfl⟩;go_wp2
  exact ⟨rfl,HF.out⟩
 ·have HQ:Hid (cY l=(0,bs (l.take 8),l.drop 8)):=by show cY l=_;unfold cY;rw [if_neg h8]
  go_enter Tryz.func199,Tryz.ntmps199;(go_wp2_with fail);refine (gL _ _ _ _ _ 8 _ _ HR.out HS.out hp (by omega)).mono ?_;rintro _ w1 ⟨a1,c1,a2,c2,rfl,hR2,hs1,hs2,hb1,hb2,hk2⟩
  have HF:Hid (ev p ao (fun _ x rest=>∃ y,x=.int .u64 y∧cY l=(0,y,rest)) (fun e=>cY l=(e,0,[])) w (.returned (.int .u64 (bs (l.take 8)))) w1):=by
   have e:(l.drop 8).length=l.length - 8:=by simp
   exact ⟨hk2,.inl ⟨_,a2,c2,l.drop 8,rfl,by rw [e];exact hR2,by rw [e];exact hs2,fun k hk=>by rw [hb2] at hk;exact hk,_,rfl,HQ.out⟩⟩
  clear hR2 hs2 hb1 hb2 hk2;(go_wp2_with fail);refine (fm _ _ _ _ _ hs1 (ho.take 8)).mono ?_;rintro _ _ ⟨rfl,rfl⟩;go_wp2
  go_ret
  exact HF.out
theorem ng (w:World) (p:Nat) (ao:Option Addr) (v:Value) (hR:aS w p v 0) :
 Calls Tryz.prog 94 #[.pointer (some ⟨p,0,none⟩)] w (ev p ao (fun _ _ _=>False) (fun e=>e=4) w):=by
 have HF:Hid (ev p ao (fun _ _ _=>False) (fun e=>e=4) w (.panicked [{ v:=.iface 24 (.int .i64 4),recovered:=false }]) w):=⟨ab.refl _ _,.inr ⟨4,v,rfl,by decide,hR,rfl⟩⟩;clear hR;go_enter Tryz.func94,Tryz.ntmps94;go_wp2
 exact ⟨rfl,HF.out⟩
def aM (e:Int) (l:List Int):Int × Bool × List Int:=if e=0 then cr l else (e,false,[])
def aN (e:Int) (l:List Int):Int × Int × List Int:=if e=0 then cY l else (e,0,[])
def aO (e:Int):Int:=if e=0 then 4 else e
theorem oQ {l:List Int}(ho:bi l):bi (cr l).2.2:=by
 cases l with
 | nil=>exact bq
 | cons d l =>
   rw [cr];split
   ·exact bq
   ·exact ho.tail
theorem oK {l:List Int}(ho:bi l):bi (cY l).2.2:=by
 unfold cY;split
 ·exact bq
 ·exact ho.drop 8
theorem oc (w:World) (p:Nat) (F:List Nat) (l:List Int) (e:Int) (hr:Rd w p F l e) :
 Calls Tryz.prog 193 #[.pointer (some ⟨p,0,none⟩)] w fun r w'=>r=.returned (.bool (aM e l).2.1)∧Rd w' p F (aM e l).2.2 (aM e l).1∧ab [p] w w':=by
 obtain ⟨ao,c,h1,h2,h3,h4,h5,h6⟩:=hr;have H1:Hid (aS w p (.slice ao l.length c) e):=h1;have H2:Hid (Sl w ao l.length c l):=h2;have hmf:∀ (fn:Fn) (first cap:Array Value) (w:World),(Instr.makeFunc fn first cap).run Tryz.prog w=.ok (.func fn first cap) w:=fun _ _ _ _=>rfl;clear h1 h2;by_cases he:e=0
 ·subst he;go_enter Tryz.func193,Tryz.ntmps193;(go_wp2_with fail);refine (o4 _ p ao _ c l H1.out H2.out 197 oe #[] _ _ (fun w1 hk hR1 hs1=>pJ w1 p ao _ c l hR1 hs1 (fun h=>h4 (h3 p h)) h5)).mono ?_;rintro _ w1 ⟨hk,x,a,c',rest,e,rfl,hR,hs,hb,h7⟩
  have hx:∃ y,x=.bool y∧cr l=(e,y,rest):=by
   rcases h7 with ⟨rfl,y,rfl,h8⟩ | ⟨h8,h9,rfl,rfl⟩
   ·exact ⟨y,rfl,h8⟩
   ·exact ⟨false,rfl,h9⟩
  obtain ⟨y,rfl,h8⟩:=hx;have H8:Hid (cr l=(e,y,rest)):=h8
  have h10:e≠0→rest=[]:=by
   intro he;rcases h7 with ⟨h,_⟩ | ⟨_,_,_,h⟩
   ·exact absurd h he
   ·exact h
  have h11:bi rest:=by have:=oQ h5;rw [h8] at this;exact this
  clear h8 h7;go_wp2
  go_ret
  have h12:aM 0 l=(e,y,rest):=by unfold aM;rw [if_pos rfl];exact H8.out
  rw [h12];exact ⟨rfl,⟨a,c',hR,hs,fun k hk=>h3 k (hb k hk),h4,h11,h10⟩,hk⟩
 ·have hl:=h6 he;subst hl;have HE:Hid (¬ e=0):=he;clear he h6;go_enter Tryz.func193,Tryz.ntmps193;(go_wp2_with fail);refine (gA _ p _ e H1.out HE.out _).mono ?_;rintro _ w1 ⟨rfl,hk⟩;go_wp2
  go_ret
  have h12:aM e []=(e,false,[]):=by unfold aM;rw [if_neg HE.out]
  rw [h12];exact ⟨rfl,Rd.kept hk ⟨ao,c,H1.out,H2.out,h3,h4,h5,fun _=>rfl⟩ (by simp) (by simp),hk.mono (by simp)⟩
theorem oO (w:World) (p:Nat) (F:List Nat) (l:List Int) (e:Int) (hr:Rd w p F l e) :
 Calls Tryz.prog 194 #[.pointer (some ⟨p,0,none⟩)] w fun r w'=>r=.returned (.int .u64 (aN e l).2.1)∧Rd w' p F (aN e l).2.2 (aN e l).1∧ab [p] w w':=by
 obtain ⟨ao,c,h1,h2,h3,h4,h5,h6⟩:=hr;have H1:Hid (aS w p (.slice ao l.length c) e):=h1;have H2:Hid (Sl w ao l.length c l):=h2;have hmf:∀ (fn:Fn) (first cap:Array Value) (w:World),(Instr.makeFunc fn first cap).run Tryz.prog w=.ok (.func fn first cap) w:=fun _ _ _ _=>rfl;clear h1 h2;by_cases he:e=0
 ·subst he;go_enter Tryz.func194,Tryz.ntmps194;(go_wp2_with fail);refine (u6 _ p ao _ c l H1.out H2.out 199 oT #[] _ _ (fun w1 hk hR1 hs1=>pH w1 p ao _ c l hR1 hs1 (fun h=>h4 (h3 p h)) h5)).mono ?_;rintro _ w1 ⟨hk,x,a,c',rest,e,rfl,hR,hs,hb,h7⟩
  have hx:∃ y,x=.int .u64 y∧cY l=(e,y,rest):=by
   rcases h7 with ⟨rfl,y,rfl,h8⟩ | ⟨h8,h9,rfl,rfl⟩
   ·exact ⟨y,rfl,h8⟩
   ·exact ⟨0,rfl,h9⟩
  obtain ⟨y,rfl,h8⟩:=hx;have H8:Hid (cY l=(e,y,rest)):=h8
  have h10:e≠0→rest=[]:=by
   intro he;rcases h7 with ⟨h,_⟩ | ⟨_,_,_,h⟩
   ·exact absurd h he
   ·exact h
  have h11:bi rest:=by have:=oK h5;rw [h8] at this;exact this
  clear h8 h7;go_wp2
  go_ret
  have h12:aN 0 l=(e,y,rest):=by unfold aN;rw [if_pos rfl];exact H8.out
  rw [h12];exact ⟨rfl,⟨a,c',hR,hs,fun k hk=>h3 k (hb k hk),h4,h11,h10⟩,hk⟩
 ·have hl:=h6 he;subst hl;have HE:Hid (¬ e=0):=he;clear he h6;go_enter Tryz.func194,Tryz.ntmps194;(go_wp2_with fail);refine (kf _ p _ e H1.out HE.out _).mono ?_;rintro _ w1 ⟨rfl,hk⟩;go_wp2
  go_ret
  have h12:aN e []=(e,0,[]):=by unfold aN;rw [if_neg HE.out]
  rw [h12];exact ⟨rfl,Rd.kept hk ⟨ao,c,H1.out,H2.out,h3,h4,h5,fun _=>rfl⟩ (by simp) (by simp),hk.mono (by simp)⟩
theorem gH (w:World) (p:Nat) (F:List Nat) (l:List Int) (e:Int) (hr:Rd w p F l e) :
 Calls Tryz.prog 64 #[.pointer (some ⟨p,0,none⟩)] w fun r w'=>r=.returned (.tuple #[])∧Rd w' p F [] (aO e)∧ab [p] w w':=by
 obtain ⟨ao,c,h1,h2,h3,h4,h5,h6⟩:=hr;have H1:Hid (aS w p (.slice ao l.length c) e):=h1;have H2:Hid (Sl w ao l.length c l):=h2;clear h1 h2;by_cases he:e=0
 ·subst he;go_enter Tryz.func64,Tryz.ntmps64;(go_wp2_with fail);refine (o4 _ p ao _ c l H1.out H2.out 94 ma #[] _ _ (fun w1 hk hR1 hs1=>ng w1 p ao _ hR1)).mono ?_;rintro _ w1 ⟨hk,x,a,c',rest,e,rfl,hR,hs,hb,h7⟩
  have h8:e=4∧rest=[]∧x=.bool false:=by
   rcases h7 with ⟨_,h⟩ | ⟨_,h,h9,h10⟩
   ·exact h.elim
   ·exact ⟨h,h10,h9⟩
  obtain ⟨rfl,rfl,rfl⟩:=h8;clear h7;go_wp2
  go_returns
  exact ⟨rfl,⟨a,c',hR,hs,fun k hk=>h3 k (hb k hk),h4,bq,fun _=>rfl⟩,hk⟩
 ·have hl:=h6 he;subst hl;have HE:Hid (¬ e=0):=he;clear he h6;go_enter Tryz.func64,Tryz.ntmps64;(go_wp2_with fail);refine (gA _ p _ e H1.out HE.out _).mono ?_;rintro _ w1 ⟨rfl,hk⟩;go_wp2
  go_returns
  have h12:aO e=e:=by unfold aO;rw [if_neg HE.out]
  rw [h12];exact ⟨rfl,Rd.kept hk ⟨ao,c,H1.out,H2.out,h3,h4,h5,fun _=>rfl⟩ (by simp) (by simp),hk.mono (by simp)⟩
end Go.Proofs.YtakafmejllilnaaGreat
