/-
  The program's disk: New, Names.
-/
import Derived.Test.YteiagkjhmhllnaaFpRen
import Derived.Test.YteiagkjhmhllnaaLay
namespace Go.Proofs.Yteiagkjhmhllnaa
open Go.RowKit Go.Maps Go.Sort Go.Shelf
def NewD (w:World) (d:Dk) (e:Ending) (w':World):Prop:=∃ p O,e=.returned (.pointer (some ⟨p,0,none⟩))∧AtQ w' O p d∧(∀ k∈O,w.heap.size≤k)∧Kept [] w w'
theorem newP_at (w:World):AtP ((w.alloc (.map #[] 0)).alloc (.cells #[.map (some w.heap.size),.int .i64 0,.int .i64 (-1),.bool false] 56)) [w.heap.size+1,w.heap.size] (w.heap.size+1) w.heap.size (-1) ⟨[],0,-1,false⟩ []:=by
 have hz:(w.alloc (.map #[] 0)).heap.size=w.heap.size+1:=by simp
 have h1:=Bx.new (w.alloc (.map #[] 0)) 56 [.map (some w.heap.size),.int .i64 0,.int .i64 (-1),.bool false]
 rw [hz] at h1
 exact ⟨h1,World.ownsMap.alloc (World.ownsMap_made w Try.prog 9 ptR) _,fun x hx=>(by cases hx),fun x hx=>(by cases hx),rfl,rfl,by simp,List.Pairwise.nil,rfl,fun x hx=>(by cases hx)⟩
theorem makeMF (W:World):(Instr.makeMap 54 none).run Try.prog W=.ok (.map (some W.heap.size)) (W.alloc (.map #[] 0)):=rfl
set_option maxRecDepth 100000 in
theorem newP_call (w:World):Calls Try.prog 9 #[] w fun e w'=>NewD w ⟨[],0,-1,false⟩ e w':=by
 have hmk:=makeMF
 have HA:=hide (newP_at w)
 go_enter Try.func9,Try.ntmps9
 go_wp2_with fail
 go_ret
 exact ⟨w.heap.size+1,_,by simp,⟨_,_,_,HA.out⟩,by simp,((Kept.refl _ _).alloc _).alloc _⟩
theorem sortsF (m:Nat):AnyZ.SortsIn Try.prog Try.sortedZ_ren Fence.wide m :=
 ⟨fun blk off cap ss W hH hblk hsz=>callsIn_wide.2 (AnyM.slices_Sort_string Try.sortZ blk off cap ss W hH hblk hsz),
  fun p cap W=>callsIn_wide.2 (AnyM.slices_Sort_string_none Try.sortZ p cap W)⟩
theorem mkeysF_call (mb:Option Nat) (W:World):Calls Try.prog 64 #[.map mb] W fun e w'=>e=.returned (.func (.func 67) #[] #[.pointer (some ⟨W.heap.size,0,none⟩)])∧w'=W.alloc (.cells #[.map mb] 54) :=
 callsIn_wide.1 (AnyZ.keys_in Try.keysF Fence.wide 5 trivial rfl mb W)
set_option maxHeartbeats 1000000 in
theorem sortedF_call {H:Type}(b nn:Nat) (D0:DataW H) (R:Value→Option (DataW H × List MemPlace)) (w:World) (hown:w.ownsMap Try.prog 9 R b nn D0) (hmax:Maps.size D0≤maxLen) (hbytes:Maps.size D0*16≤140737488355328) :
 Calls Try.prog 63 #[.func (.func 67) #[] #[.pointer (some ⟨w.heap.size,0,none⟩)]] (w.alloc (.cells #[.map (some b)] 54)) fun e w'=>∃ (v:Value) (ss:List (List UInt8)),e=.returned v∧ss.Perm (strKeys D0) ∧
  w'.ownsRow (w.alloc (.cells #[.map (some b)] 54)).heap.size 9 1 v ss.length ((ss.mergeSort (fun x y=>decide (x≤y))).map encStr)∧(v=.slice none 0 0↔ss=[])∧Below (w.alloc (.cells #[.map (some b)] 54)).heap.size (w.alloc (.cells #[.map (some b)] 54)) w':=by
 have hbl:=hown.lt
 have hseq:SeqGives Fence.wide 2 Try.prog 67 #[.pointer (some ⟨w.heap.size,0,none⟩)] encStr (fun ss=>ss.Perm (strKeys D0)) (Maps.size D0) (w.alloc (.cells #[.map (some b)] 54)) :=
  AnyZ.keys_gives (ρ:=Try.keysF_ren) { Try.keysF with } Fence.wide _ trivial rfl (by omega) w.heap.size b nn D0 _ (by simp) (by simp) (by
   obtain ⟨es,clock,hb,Ft,hs,hD⟩:=hown
   exact ⟨es,clock,(Below.heap_alloc _ _ b hbl).trans hb,Ft,hs,hD⟩)
 exact callsIn_wide.1 (AnyZ.sorted_in Try.sortedZ Fence.wide 5 trivial trivial trivial trivial rfl (by omega) (sortsF _) (enters_of Try.func66 (by kernel_rfl) rfl) 67 #[.pointer (some ⟨w.heap.size,0,none⟩)] trivial (enters_of Try.func67 (by kernel_rfl) rfl) _ _ hmax hbytes _ hseq)
theorem keysP_call (w:World) (b:Nat) (l:List (List UInt8 × Nat)) (hs:RisG Prod.fst l) (hl:l.length≤1000000000) (hown:w.ownsMap Try.prog 9 ptR b l.length (nmD l)) :
 Calls Try.prog 63 #[.func (.func 67) #[] #[.pointer (some ⟨w.heap.size,0,none⟩)]] (w.alloc (.cells #[.map (some b)] 54)) fun e w'=>∃ v,e=.returned v ∧
  w'.ownsRow w.heap.size 9 1 v l.length ((l.map (·.1)).map fun x=>.string (str x))∧Kept [] w w':=by
 refine (sortedF_call b l.length (nmD l) ptR w hown (by rw [nmD_size];unfold maxLen;omega) (by rw [nmD_size];omega)).mono ?_
 rintro e w' ⟨v,ss,rfl,hp,hrow,_,hb⟩
 have hlen:ss.length=l.length:=by rw [hp.length_eq,nmD_keys];simp
 rw [nmD_sorted hs hp,hlen] at hrow
 refine ⟨v,rfl,?_,((Kept.refl [] w).alloc _).trans (Kept.of_below (S:=[]) hb) (by simp)⟩
 obtain ⟨h1,h2⟩:=hrow
 refine ⟨h1,?_⟩
 rcases h2 with h2 | ⟨g,cap,cur,hv,hg,r⟩
 ·exact .inl h2
 ·exact .inr ⟨g,cap,cur,hv,by simp at hg;omega,r⟩
section
variable {w : World} {O : List Nat} {p mb : Nat} {q : Int} {d : Dk} {X : List Pm}
set_option maxHeartbeats 1000000 in
set_option maxRecDepth 100000 in
theorem namP_call (h:AtP w O p mb q d X) (hX:X.length≤1000000000):Calls Try.prog 59 #[.pointer (some ⟨p,0,none⟩)] w fun e w'=>∃ ao c,e=.returned (.slice ao X.length c)∧X.length≤c∧c≤9223372036854775807∧w'.ownsRow w.heap.size 9 1 (.slice ao X.length c) X.length (X.map fun x=>.string (str x.n))∧Kept [] w w':=by
 have cM:=hide (madeF_call h)
 have cK:=hide (mkeysF_call (some mb) w)
 have hS:=keysP_call w mb (X.map Pm.p) ((risG_map Pm.n Prod.fst Pm.p (fun _=>rfl)).2 h.s) (by simpa using hX) (by rw [List.length_map];exact h.m)
 rw [List.length_map,List.map_map,List.map_map] at hS
 have cS:=hide hS
 have c0:=h.h.cell 0 rfl
 clear h hS
 go_enter Try.func59,Try.ntmps59
 go_wp2_with (first
  | (go_at_call 35;refine cM.out.mono ?_;clear cM;rintro _ w1 ⟨rfl,hw1⟩;obtain rfl:=hw1.symm)
  | (go_at_call 64;refine cK.out.mono ?_;clear cK;rintro _ w1 ⟨rfl,rfl⟩)
  | (go_at_call 63;refine cS.out.mono ?_;clear cS;rintro _ w1 ⟨v1,rfl,hr1,hk1⟩;have HR1:=hide hr1;have HK1:=hide hk1;clear hr1 hk1))
 go_ret
 obtain ⟨ao,cap,rfl,hcap,hcm⟩:∃ ao cap,v1=.slice ao X.length cap∧X.length≤cap∧cap≤maxLen:=by
  obtain ⟨_,h2⟩:=HR1.out
  rcases h2 with ⟨h3,h4⟩ | ⟨g,cap,cur,h3,_,_,h4,h5,_⟩
  ·exact ⟨none,0,by rw [h3,h4],by omega,Nat.zero_le _⟩
  ·exact ⟨_,cap,h3,h4,h5⟩
 exact ⟨ao,cap,rfl,hcap,hcm,HR1.out,HK1.out⟩
end
end Go.Proofs.Yteiagkjhmhllnaa
