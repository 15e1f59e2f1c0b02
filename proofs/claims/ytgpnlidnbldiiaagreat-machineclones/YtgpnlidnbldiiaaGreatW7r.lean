/-
  Texts of this claim that are laid as one: MdCl, MaClW.
-/
import Derived.Test.YtgpnlidnbldiiaaGreatQ2r
import Derived.Test.YtgpnlidnbldiiaaGreatW2r
import Derived.Test.YtgpnlidnbldiiaaGreatW1r
import Derived.Test.YtgpnlidnbldiiaaGreatMtClr
import Derived.Test.YtgpnlidnbldiiaaGreatEdCopyr
import Derived.Test.YtgpnlidnbldiiaaGreatM20r
import Derived.Test.YtgpnlidnbldiiaaGreatMaApWr
import Derived.Test.YtgpnlidnbldiiaaGreatW6r
set_option maxHeartbeats 32000000
/-
 The document's Clone.
-/
namespace Go.Proofs.YtgpnlidnbldiiaaGreat
open Go.RowKit
theorem row_back {w:World}{cs:Array Value}{t:TypeId}{B e size n:Nat}{v:Value}{xs:List Value}(h:(w.alloc (.cells cs t)).ownsRow B e size v n xs) (ht:t≠e):w.ownsRow B e size v n xs:=by
 obtain ⟨h1,h2⟩:=h
 refine ⟨h1,h2.imp id ?_⟩
 rintro ⟨g,cap,cur,hv,hg,hh,r⟩
 refine ⟨g,cap,cur,hv,hg,?_,r⟩
 have hlt:=lt_of_at hh
 rw [World.size_alloc] at hlt
 by_cases hg2:g < w.heap.size
 ·rw [Below.heap_alloc _ _ _ hg2] at hh;exact hh
 ·obtain rfl:g=w.heap.size:=by omega
  rw [heap_alloc_new] at hh
  cases hh
  exact absurd rfl ht
theorem MAt.bare {w:World}{v0 v1 v2:Value}{M:List Nat}{G:Gr}(h:MAt (w.alloc (.cells #[v0,v1,v2] 82)) w.heap.size M G):∃ K,RowK 0 w v0 K∧OwnK 0 w K∧K.map Prod.fst=G.cs∧OwnL 0 w v1 G.ls∧OwnM 0 w v2 G.rs∧NilV G.ls v1∧M=ownM w.heap.size v0:=by
 obtain ⟨v,vL,vR,K,hG,hn,rfl⟩:=h
 have hat:=hG.at_
 rw [heap_alloc_new] at hat
 cases hat
 exact ⟨K,row_back hG.row (by decide),fun x hx=>row_back (hG.own x hx) (by decide),hG.com,row_back hG.lvs (by decide),row_back hG.rfs (by decide),hn,rfl⟩
theorem liveD_parts {w w1 w2 w3:World}{v0 v1 v2:Value}{K:List (Com × Value)}{m:Ma}{al:Int}{sz:Nat}{D:List Nat}(hD:∀ k∈D,k < w.heap.size) (hK1:Kept [] w w1) (hr:RowK 0 w1 v0 K) (ho:OwnK 0 w1 K) (hc:K.map Prod.fst=m.g.cs) (hls:OwnL 0 w1 v1 m.g.ls) (hrs:OwnM 0 w1 v2 m.g.rs) (hn:NilV m.g.ls v1) (hv:∀ k,v0.ownBlock=some k→w.heap.size≤k)
 {bt:Nat}{vt:Value}{X:List (Se × Value)}(hT:MtA (fun k=>w1.heap.size≤k) w2 bt sz vt X m.s) (hK2:Kept [] w1 w2) (hTv:∀ k∈ownT bt vt,w1.heap.size≤k) (hK3:Kept [] w2 w3) {pe:Nat}(hE:EdA w.heap.size w3 pe al m.e) (hw:MaW sz al m) (hs:1≤sz) :
 LiveD w (w3.alloc (.cells #[.int .i64 m.a,v0,v1,v2,.pointer (some ⟨bt,0,none⟩),.pointer (some ⟨pe,0,none⟩)] 84)) (ownD w3.heap.size bt v0 vt) D w3.heap.size ⟨pe,bt,0⟩ al sz m:=by
 have hK4:Kept [] w3 (w3.alloc (.cells #[.int .i64 m.a,v0,v1,v2,.pointer (some ⟨bt,0,none⟩),.pointer (some ⟨pe,0,none⟩)] 84)):=(Kept.refl _ _).alloc _
 have hKb:=hK3.trans hK4 (by simp)
 have hKa:=hK2.trans hKb (by simp)
 have hz1:=hK1.size
 have hz2:=hK2.size
 have hz3:=hK3.size
 refine ⟨v0,v1,v2,K,vt,X,⟨⟨heap_alloc_new w3 _,hKa.ownsRow hr (by simp),fun x hx=>hKa.ownsRow (ho x hx) (by simp),hc,hKa.ownsRow hls (by simp),hKa.ownsRow hrs (by simp)⟩,hn,?_,hE.kept hK4⟩,rfl,hK1.trans hKa (by simp),fun k hk=>?_,fun k hk=>(by have:=hD k hk;rw [World.size_alloc];omega),hw,hs⟩
 ·refine ⟨hKb.at hT.at_ (by simp),hKb.ownsRow hT.row (by simp),fun x hx=>(hT.own x hx).stay2 hKb (fun j cur hj hh=>⟨by simp,fun hm=>?_,fun hm=>(by have:=hD j hm;have h9:w1.heap.size≤j:=hj;omega)⟩) (typed_nil w2 []) (by simp),hT.ses⟩
  have hlt:=lt_of_at hh
  rcases List.mem_cons.1 hm with rfl | hm
  ·omega
  ·obtain ⟨cur',h'⟩:=row_block hr (mem_own.1 hm)
   have:=lt_of_at h'
   omega
 ·rcases List.mem_append.1 hk with hk | hk
  ·rcases List.mem_cons.1 hk with rfl | hk
   ·omega
   ·exact hv k (mem_own.1 hk)
  ·have:=hTv k hk;omega
structure CkC (b:Nat) (p:Pl) (a al:Int) (aC aL aR aE:Option Addr) (nC cC nL cL nR cR nE cE:Nat) (w:World):Prop where
 m0:w.cell? ⟨b,0,none⟩=some (.int .i64 a)
 m1:w.cell? ⟨b,1,none⟩=some (.slice aC nC cC)
 m2:w.cell? ⟨b,2,none⟩=some (.slice aL nL cL)
 m3:w.cell? ⟨b,3,none⟩=some (.slice aR nR cR)
 m4:w.cell? ⟨b,4,none⟩=some (.pointer (some ⟨p.t,0,none⟩))
 m5:w.cell? ⟨b,5,none⟩=some (.pointer (some ⟨p.e,0,none⟩))
 e0:w.cell? ⟨p.e,0,none⟩=some (.int .i64 al)
 e1:w.cell? ⟨p.e,1,none⟩=some (.slice aE nE cE)
theorem CkC.kept {w w':World}{b:Nat}{p:Pl}{a al:Int}{aC aL aR aE:Option Addr}{nC cC nL cL nR cR nE cE:Nat}(h:CkC b p a al aC aL aR aE nC cC nL cL nR cR nE cE w) (k:Kept [] w w'):CkC b p a al aC aL aR aE nC cC nL cL nR cR nE cE w' :=
 ⟨k.cell h.m0 (by simp),k.cell h.m1 (by simp),k.cell h.m2 (by simp),k.cell h.m3 (by simp),k.cell h.m4 (by simp),k.cell h.m5 (by simp),k.cell h.e0 (by simp),k.cell h.e1 (by simp)⟩
set_option linter.unusedSimpArgs false in
set_option maxRecDepth 100000 in
theorem dclone_call {w0 w:World}{M D:List Nat}{b:Nat}{p:Pl}{al:Int}{sz:Nat}{m:Ma}(h:LiveD w0 w M D b p al sz m) (hl:m.g.cs.length≤10000) (hel:m.e.length≤1000) {D2:List Nat}(hD2:∀ k∈D2,k < w.heap.size):Calls Tryz.prog 26 #[.pointer (some ⟨b,0,none⟩)] w fun e w'=>∃ b' p' M',e=.returned (.pointer (some ⟨b',0,none⟩))∧LiveD w w' M' D2 b' p' al sz m:=by
 obtain ⟨aC,aL,aR,nC,cC,nL,cL,nR,cR,K,hC,hG⟩:=h.open
 obtain ⟨v,vL,vR,K',vt,X,h1,_,_,_,_,h6,h7⟩:=id h
 obtain ⟨gE,cE,Y,e1,hE,hY,_,_,_⟩:=h1.e.open h6.e.1
 have HC:Hid (CkC b p m.a al aC aL aR (some ⟨gE,0,none⟩) nC cC nL cL nR cR m.e.length cE w):=⟨hC.m0,hC.m1,hC.m2,hC.m3,hC.m4,hC.m5,cell_inC (k:=0) e1 rfl,cell_inC (k:=1) e1 rfl⟩
 have cG:=fun W (hk:Kept [] w W)=>mclone2_call W aC aL aR nC cC nL cL nR cR (hG.kept hk).c hG.com (hG.kept hk).l (hG.kept hk).r h6.g.wf hl
 have cT:=fun W (hk:Kept [] w W)=>mcloneT_call (h1.t.kept hk) (by have:=h6.sl;have:=h6.z1;omega) h6.so
 have cEp:=fun W (hk:Kept [] w W)=>rcopyE_call W (some ⟨gE,0,none⟩) m.e.length cE Y (hE.kept hk) (fun x hx=>(h6.e.2.2 _ (by rw [← hY];exact List.mem_map_of_mem hx)).1) hel
 rw [hY] at cEp
 have HW:=hide h6
 have HS:=hide h7
 have HD2:=hide hD2
 clear h hD2 hC hG h1 h6 h7 e1 hE hY hl hel
 generalize m.e.length=nE at *
 go_enter Tryz.func26,Tryz.ntmps26
 go_upto_region 1 with fail
 try simp only [List.append_eq,List.cons_append,List.nil_append]
 have HK0:Hid (Kept [] w w.drew):=(Kept.refl [] _).drew
 refine wp_region_held_drew (S:=CkC b p m.a al aC aL aR (some ⟨gE,0,none⟩) nC cC nL cL nR cR nE cE) (by kernel_rfl) (HC.out.kept HK0.out) (fun hHeld=>?_)
 refine wpAnyH_list (fuel':=34) (l':=#[false,false,false,false,false,false,false,false,false,false,false,false,false,false,false,false,false,false,false,false,false,false,false,false,false,false,false,false,false,false,false,false,false,false]) (by rfl) (by rfl) ?_
 refine tks [0,1,2,3,4,5,6,7,9,10,11,12,14,15,16,17,18,19,20,21,22,23,24,25,26,27] (by rfl) (by kernel_rfl) (fun _ _ _ _ _ h=>h) hHeld ?_
 iterate 26
  refine yk ?_ rfl (Or.inl ⟨by rfl,?_⟩) ?_
  rotate_left
  ·intro w9 hSw;obtain ⟨m0,m1,m2,m3,m4,m5,e0,e1⟩:=hSw;go_simp;(try with_reducible rfl)
  try simp only [sT,Act.put]
 refine yk0 ?_
 simp only [setK,sT]
 refine rd1 8 (by kernel_rfl) rfl (fun K0 hK0=>?_)
 go_simp
 refine (cG _ HK0.out).mono ?_
 rintro _ w1 ⟨x0,y0,z0,x1,y1,z1,x2,y2,z2,rfl,⟨M1,hM1,hB1⟩,hK1⟩
 obtain ⟨K1,r1,o1,c1,l1,s1,n1,rfl⟩:=hM1.bare
 have HK1:=hide (HK0.out.trans hK1 (by simp))
 have HV1:Hid (∀ k,(Value.slice x0 y0 z0).ownBlock=some k→w.heap.size≤k):=fun k hk=>hB1 k (by simp [ownM,hk])
 have HP1:Hid (RowK 0 w1 (.slice x0 y0 z0) K1∧OwnK 0 w1 K1∧K1.map Prod.fst=m.g.cs∧OwnL 0 w1 (.slice x1 y1 z1) m.g.ls∧OwnM 0 w1 (.slice x2 y2 z2) m.g.rs∧NilV m.g.ls (.slice x1 y1 z1)):=⟨r1,o1,c1,l1,s1,n1⟩
 clear cG hM1 hB1 hK1 r1 o1 c1 l1 s1 n1
 go_wp2_with fail
 refine hK0.out _ _ (HC.out.kept HK1.out) (fun hHeld=>?_)
 clear hK0 K0
 try simp only [sT,Act.put]
 refine rd1 13 (by kernel_rfl) rfl (fun K0 hK0=>?_)
 go_simp
 refine (cT _ HK1.out).mono ?_
 rintro _ w2 ⟨bt,vt2,X2,rfl,hT2,hK2,hV2⟩
 have HT2:=hide hT2
 have HK2:=hide hK2
 have HV2:=hide hV2
 have HKb:=hide (HK1.out.trans hK2 (by simp))
 clear cT hT2 hK2 hV2
 go_wp2_with fail
 refine hK0.out _ _ (HC.out.kept HKb.out) (fun hHeld=>?_)
 clear hK0 K0
 try simp only [sT,Act.put]
 refine rd1 28 (by kernel_rfl) rfl (fun K0 hK0=>?_)
 go_simp
 refine (cEp _ HKb.out).mono ?_
 rintro _ w3 ⟨v3,Y3,rfl,hr3,ho3,hy3,hK3⟩
 obtain ⟨a3,c3,rfl,_⟩:=hr3.sl ho3
 have HR3:=hide hr3
 have HO3:=hide ho3
 have HY3:=hide hy3
 have HK3:=hide hK3
 have HKc:=hide (HKb.out.trans hK3 (by simp))
 generalize Y3.length=n3 at *
 clear cEp hr3 ho3 hy3 hK3
 go_wp2_with fail
 refine hK0.out _ _ (HC.out.kept HKc.out) (fun hHeld=>?_)
 clear hK0 K0
 try simp only [sT,Act.put]
 refine tks [29] (by rfl) (by kernel_rfl) (fun _ _ _ _ _ h=>h) hHeld ?_
 iterate 1
  refine yk ?_ rfl (Or.inl ⟨by rfl,?_⟩) ?_
  rotate_left
  ·intro w9 hSw;obtain ⟨m0,m1,m2,m3,m4,m5,e0,e1⟩:=hSw;go_simp;(try with_reducible rfl)
  try simp only [sT,Act.put]
 refine yk0 ?_
 simp only [setK,sT]
 refine rd1 30 (by kernel_rfl) rfl (fun K0 hK0=>?_)
 go_simp
 have hKd:Kept [] w3 (w3.alloc (.cells #[.int .i64 al,.slice a3 n3 c3] 94)):=(Kept.refl _ _).alloc _
 have HKd:=hide hKd
 have HE4:Hid (EdA w.heap.size (w3.alloc (.cells #[.int .i64 al,.slice a3 n3 c3] 94)) w3.heap.size al m.e):=⟨_,Y3,HKc.out.size,heap_alloc_new w3 _,hKd.ownsRow (row_mono HR3.out HKb.out.size) (by simp),fun x hx=>hKd.ownsRow (row_mono (HO3.out x hx) HKb.out.size) (by simp),HY3.out⟩
 obtain ⟨p1,p2,p3,p4,p5,p6⟩:=HP1.out
 have hF:=liveD_parts HD2.out HK1.out p1 p2 p3 p4 p5 p6 HV1.out HT2.out HK2.out HV2.out (HK3.out.trans hKd (by simp)) HE4.out HW.out HS.out
 rw [World.size_alloc] at hF
 have HF:=hide hF
 clear p1 p2 p3 p4 p5 p6 hKd hF
 refine hK0.out _ _ (HC.out.kept (HKc.out.trans HKd.out (by simp))) (fun hHeld=>?_)
 clear hK0 K0
 try simp only [sT,Act.put]
 refine tks [31] (by rfl) (by kernel_rfl) (fun _ _ _ _ _ h=>h) hHeld ?_
 iterate 1
  refine yk ?_ rfl (Or.inl ⟨by rfl,?_⟩) ?_
  rotate_left
  ·intro w9 hSw;obtain ⟨m0,m1,m2,m3,m4,m5,e0,e1⟩:=hSw;go_simp;(try with_reducible rfl)
  try simp only [sT,Act.put]
 refine yk0 ?_
 simp only [setK,sT]
 refine rd1 32 (by kernel_rfl) rfl (fun K0 hK0=>?_)
 go_simp
 refine hK0.out _ _ (HC.out.kept (HKc.out.trans (HKd.out.trans ((Kept.refl [] _).alloc _) (by simp)) (by simp))) (fun hHeld=>?_)
 clear hK0 K0
 try simp only [sT,Act.put]
 refine tks [33] (by rfl) (by kernel_rfl) (fun _ _ _ _ _ h=>h) hHeld ?_
 iterate 1
  refine yk ?_ rfl (Or.inl ⟨by rfl,?_⟩) ?_
  rotate_left
  ·intro w9 hSw;obtain ⟨m0,m1,m2,m3,m4,m5,e0,e1⟩:=hSw;go_simp;(try with_reducible rfl)
  try simp only [sT,Act.put]
 refine yk0 ?_
 simp only [setK,sT]
 try simp only [sT,Act.put]
 refine wpAnyH_done (by kernel_rfl) ?_ _
 clear hHeld
 go_wp2_with fail
 go_ret
 exact ⟨_,_,_,rfl,HF.out⟩
theorem two_fresh {W w2 w3:World}{F M:List Nat}{b c:Nat}{p q:Pl}{m:Ma}{cs:Array Value}{t:TypeId}(h1:LiveM W w2 F [] b p 2 3 m) (h2:LiveD (w2.alloc (.cells cs t)) w3 M F c q 2 3 m):Two W w3 ⟨b,p,c,q⟩ 2 3 m m (.slice none 0 0) :=
 two_new (h1.kept ((Kept.refl _ _).alloc _)) h2
theorem two_clones {w4 w5 w6:World}{F M:List Nat}{b c:Nat}{p q:Pl}{m:Ma}(h1:LiveM w4 w5 F [] b p 2 3 m) (h2:LiveD w5 w6 M F c q 2 3 m):Two w4 w6 ⟨b,p,c,q⟩ 2 3 m m (.slice none 0 0):=two_new h1 h2
set_option maxRecDepth 100000 in
theorem mclones_walk (W:World) (ao:Option Addr) (n c:Nat) (D:List Rm) (hD:SlR W ao n c D) (bo:Option Addr) (n2 c2:Nat) (E:List Rm) (hE:SlR W bo n2 c2 E) :
 Calls Tryz.prog 5 #[.slice ao n c,.slice bo n2 c2] W fun e w'=>e=.returned (.bool true)∧Kept [] W w':=by
 have cW:=awakeM_call W
 have hc:=hD.2.1
 have hmx:=hD.2.2.1
 unfold maxLen at hmx
 have hc2:=hE.2.1
 have hmx2:=hE.2.2.1
 unfold maxLen at hmx2
 have HD:=hide hD
 have HL:=hide hD.1
 have HE:=hide hE
 have HL2:=hide hE.1
 clear hD hE
 go_enter Tryz.func5,Tryz.ntmps5
 go_wp2_with fail
 refine cW.mono ?_
 rintro _ w1 ⟨rfl,hK1⟩
 have HK1:=hide hK1
 have cR:=roomR_call w1 ao n c D (HD.out.kept hK1) 60
 have cR2:=roomR_call w1 bo n2 c2 E (HE.out.kept hK1) 60
 rw [show ((60:Nat):Int)=60 from rfl] at cR cR2
 clear cW hK1
 by_cases hr:RoomR 60 D
 ·rw [roomR_ok hr] at cR
  have HR:=hide hr
  clear hr
  by_cases hr2:RoomR 60 E
  ·rw [roomR_ok hr2] at cR2
   have HR2:=hide hr2
   have cF:=fresh_call w1 [] (fun k hk=>by cases hk)
   clear hr2
   go_wp2_with fail
   refine cR.mono ?_
   rintro _ W0 ⟨rfl,hW0⟩
   obtain rfl:=hW0.symm
   clear cR
   go_wp2_with fail
   refine cR2.mono ?_
   rintro _ W0 ⟨rfl,hW0⟩
   obtain rfl:=hW0.symm
   clear cR2
   go_wp2_with fail
   refine cF.mono ?_
   rintro _ w2 ⟨b,p,F,rfl,hLv⟩
   have cD:=dnew_call (w2.alloc (.cells #[.int .i64 0,.int .i64 1,.int .i64 2] 3)) F (hLv.kept ((Kept.refl [] w2).alloc _)).lt _ 3 3 [0,1,2] (SlI.lit w2 [0,1,2] 3 #[.int .i64 0,.int .i64 1,.int .i64 2] 3 rfl rfl (by omega)) 2 3
   have HLv:=hide (hLv.elder HK1.out)
   clear hLv cF
   go_wp2_with fail
   refine cD.mono ?_
   rintro _ w3 (⟨_,bd,pd,M,rfl,hLd⟩ | ⟨hno,_⟩)
   ·have HTw:=hide (two_fresh HLv.out hLd)
    obtain ⟨z,hz⟩:∃ z:Pp,z=⟨b,p,bd,pd⟩:=⟨_,rfl⟩
    rw [← hz] at HTw
    obtain ⟨hzb,hzc⟩:b=z.b∧bd=z.c:=by rw [hz];exact ⟨rfl,rfl⟩
    rw [hzb,hzc]
    clear hLd cD hz hzb hzc HLv
    go_wp2_with fail
    go_loopw [8] (fun iv wr=>TwI W z 2 3 (newM [0,1,2]) D iv wr) (fun iv _=>n - (intOf iv).toNat)
    case atStart=>exact ⟨0,rfl,Nat.zero_le _,HTw⟩
    case round =>
     obtain ⟨i,rfl,hi,HTr⟩:=hrel
     have hil:i≤n:=by rw [← HL.out];exact hi
     by_cases hlt:i < n
     ·have hlt':(i:Int) < n:=by omega
      have hic:i≤c:=by omega
      have hiD:i < D.length:=by rw [HL.out];exact hlt
      obtain ⟨g,o,he,hat⟩:=HD.out.2.2.2.1 i hiD
      subst he
      have HX:Hid (RqOk W D[i]):=⟨HD.out.2.2.2.2 _ (List.getElem_mem hiD),HR.out.2 _ (List.getElem_mem hiD)⟩
      have HG:=hide (apG_take (al:=2) (sz:=3) (apG_new [0,1,2]) hi (by have:=HR.out.1;omega))
      have HN:Hid (i≤60):=by have:=HR.out.1;show _≤_;omega
      have HT:=hide (apAl_take (al:=2) (sz:=3) (m:=newM [0,1,2]) hiD)
      have HAt:=hide hat
      generalize D[i]=y at *
      generalize apAl 2 3 (newM [0,1,2]) (D.take i)=mi at *
      obtain ⟨c0,c1,c2,c3,c4,c5,c6,c7,c8,c9,c10⟩:=hat.kept HTr.out.keeps (by simp)
      have cA:=two_apply HTr.out (by have:=HG.out.g;have:=HN.out;omega) (by have:=HG.out.e;have:=HN.out;omega) y HX.out
      unfold rqV at cA
      clear hat
      go_wp2_with fail
      refine cA.mono ?_
      rintro _ w5 ⟨a5,n5,c5',rfl,_,HT5,_⟩
      have cB:=two_dapply HT5.out (by have:=HG.out.g;have:=HN.out;omega) (by have:=HG.out.e;have:=HN.out;omega) y HX.out
      unfold rqV at cB
      clear cA c0 c1 c2 c3 c4 c5 c6 c7 c8 c9 c10
      obtain ⟨c0,c1,c2,c3,c4,c5,c6,c7,c8,c9,c10⟩:=HAt.out.kept HT5.out.keeps (by simp)
      go_wp2_with fail
      refine cB.mono ?_
      rintro _ w6 ⟨a6,n6,c6',rfl,_,HT6,_⟩
      have HT7:=hide HT6.out.none
      rw [← HT.out] at HT7
      clear cB c0 c1 c2 c3 c4 c5 c6 c7 c8 c9 c10
      go_wp2_with fail
      go_roundw
      case rel=>exact ⟨i+1,by go_num,by omega,HT7⟩
      case measure=>simp [intOf];omega
     ·have hlt':¬ (i:Int) < n:=by omega
      have HG:=hide (apG_take (al:=2) (sz:=3) (apG_new [0,1,2]) hi (by have:=HR.out.1;omega))
      have HN:Hid (i≤60):=by have:=HR.out.1;show _≤_;omega
      generalize apAl 2 3 (newM [0,1,2]) (D.take i)=mi at *
      have cC:Calls Tryz.prog 25 #[.pointer (some ⟨z.b,0,none⟩)] wr fun e w'=>∃ (bn:Nat) (q:Pl),e=.returned (.pointer (some ⟨bn,0,none⟩))∧Hid (∃ F',LiveM wr w' F' [] bn q 2 3 mi):=by
       obtain ⟨F0,M0,h1,_⟩:=HTr.out
       exact mClone_call h1 (by have:=HG.out.g;have:=HN.out;omega) (by have:=HG.out.e;have:=HN.out;omega)
      go_wp2_with fail
      refine cC.mono ?_
      rintro _ w5 ⟨bn,q,rfl,HCl⟩
      obtain ⟨Fn,hLn⟩:=HCl.out
      have cE:Calls Tryz.prog 26 #[.pointer (some ⟨z.c,0,none⟩)] w5 fun e w'=>∃ b' p' M',e=.returned (.pointer (some ⟨b',0,none⟩))∧LiveD w5 w' M' Fn b' p' 2 3 mi:=by
       obtain ⟨F0,M0,_,h2,_⟩:=HTr.out.kept hLn.keeps
       exact dclone_call h2 (by have:=HG.out.g;have:=HN.out;omega) (by have:=HG.out.e;have:=HN.out;omega) hLn.lt
      have HLn:=hide hLn
      clear cC HCl hLn
      go_wp2_with fail
      refine cE.mono ?_
      rintro _ w6 ⟨bc,qc,Mc,rfl,hLc⟩
      have HTc:=hide (two_clones HLn.out hLc)
      obtain ⟨zc,hzc⟩:∃ zc:Pp,zc=⟨bn,q,bc,qc⟩:=⟨_,rfl⟩
      rw [← hzc] at HTc
      obtain ⟨hzb,hzd⟩:bn=zc.b∧bc=zc.c:=by rw [hzc];exact ⟨rfl,rfl⟩
      rw [hzb,hzd]
      have HNi:Hid (i≤60):=HN
      clear hLc cE hzc hzb hzd HLn
      obtain ⟨wq,hwq⟩:∃ wq,wq=wr:=⟨_,rfl⟩
      rw [← hwq] at HTc HTr
      clear hwq
      go_wp2_with fail
      go_loopw [11] (fun iv wt=>TwI wq zc 2 3 mi E iv wt) (fun iv _=>n2 - (intOf iv).toNat)
      case atStart=>exact ⟨0,rfl,Nat.zero_le _,HTc⟩
      case round =>
       obtain ⟨j,rfl,hj,HTj⟩:=hrel
       have hjl:j≤n2:=by rw [← HL2.out];exact hj
       by_cases hltj:j < n2
       ·have hltj':(j:Int) < n2:=by omega
        have hjc:j≤c2:=by omega
        have hjE:j < E.length:=by rw [HL2.out];exact hltj
        obtain ⟨g,o,he,hat⟩:=HE.out.2.2.2.1 j hjE
        subst he
        have HX:Hid (RqOk wq E[j]):=⟨(HE.out.2.2.2.2 _ (List.getElem_mem hjE)).kept HTr.out.keeps,HR2.out.2 _ (List.getElem_mem hjE)⟩
        have HGj:=hide (apG_take (al:=2) (sz:=3) HG.out hj (by have:=HR2.out.1;have:=HNi.out;omega))
        have HNj:Hid (j≤60):=by have:=HR2.out.1;show _≤_;omega
        have HT:=hide (apAl_take (al:=2) (sz:=3) (m:=mi) hjE)
        have HAt:=hide (hat.kept HTr.out.keeps (by simp))
        generalize E[j]=y at *
        generalize apAl 2 3 mi (E.take j)=mj at *
        obtain ⟨d0,d1,d2,d3,d4,d5,d6,d7,d8,d9,d10⟩:=HAt.out.kept HTj.out.keeps (by simp)
        have cA:=two_apply HTj.out (by have:=HGj.out.g;have:=HNi.out;have:=HNj.out;omega) (by have:=HGj.out.e;have:=HNi.out;have:=HNj.out;omega) y HX.out
        unfold rqV at cA
        clear hat
        go_wp2_with fail
        refine cA.mono ?_
        rintro _ w7 ⟨a7,n7,c7',rfl,_,HT7,_⟩
        have cB:=two_dapply HT7.out (by have:=HGj.out.g;have:=HNi.out;have:=HNj.out;omega) (by have:=HGj.out.e;have:=HNi.out;have:=HNj.out;omega) y HX.out
        unfold rqV at cB
        clear cA d0 d1 d2 d3 d4 d5 d6 d7 d8 d9 d10
        obtain ⟨d0,d1,d2,d3,d4,d5,d6,d7,d8,d9,d10⟩:=HAt.out.kept HT7.out.keeps (by simp)
        go_wp2_with fail
        refine cB.mono ?_
        rintro _ w8 ⟨a8,n8,c8',rfl,_,HT8,_⟩
        have HT9:=hide HT8.out.none
        rw [← HT.out] at HT9
        clear cB d0 d1 d2 d3 d4 d5 d6 d7 d8 d9 d10
        go_wp2_with fail
        go_roundw
        case rel=>exact ⟨j+1,by go_num,by omega,HT9⟩
        case measure=>simp [intOf];omega
       ·have hltj':¬ (j:Int) < n2:=by omega
        have HGj:=hide (apG_take (al:=2) (sz:=3) HG.out hj (by have:=HR2.out.1;have:=HNi.out;omega))
        have HNj:Hid (j≤60):=by have:=HR2.out.1;show _≤_;omega
        generalize apAl 2 3 mi (E.take j)=mj at *
        have cX:=two_looks (HTr.out.kept HTj.out.keeps) (by have:=HG.out.g;have:=HNi.out;omega) (by have:=HG.out.e;have:=HNi.out;omega)
        go_wp2_with fail
        refine cX.mono ?_
        rintro _ w9 ⟨rfl,HK9⟩
        have cY:=two_looks (HTj.out.kept HK9.out) (by have:=HGj.out.g;have:=HNi.out;have:=HNj.out;omega) (by have:=HGj.out.e;have:=HNi.out;have:=HNj.out;omega)
        clear cX
        go_wp2_with fail
        refine cY.mono ?_
        rintro _ w10 ⟨rfl,HK10⟩
        have HKe:=hide (((HTr.out.keeps.trans HTj.out.keeps (by simp)).trans HK9.out (by simp)).trans HK10.out (by simp))
        clear cY
        go_wp2_with fail
        go_ret
        exact ⟨rfl,HKe.out⟩
   ·exact absurd ⟨may3,by omega,by omega,by omega,by omega⟩ hno
  ·rw [roomR_no hr2] at cR2
   clear hr2
   go_wp2_with fail
   refine cR.mono ?_
   rintro _ W0 ⟨rfl,hW0⟩
   obtain rfl:=hW0.symm
   clear cR
   go_wp2_with fail
   refine cR2.mono ?_
   rintro _ W0 ⟨rfl,hW0⟩
   obtain rfl:=hW0.symm
   clear cR2
   go_wp2_with fail
   go_ret
   exact ⟨rfl,HK1.out⟩
 ·rw [roomR_no hr] at cR
  clear hr cR2
  go_wp2_with fail
  refine cR.mono ?_
  rintro _ W0 ⟨rfl,hW0⟩
  obtain rfl:=hW0.symm
  clear cR
  go_wp2_with fail
  go_ret
  exact ⟨rfl,HK1.out⟩
end Go.Proofs.YtgpnlidnbldiiaaGreat
