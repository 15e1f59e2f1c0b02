/-
  MachineMakes: a machine that is made of what another one tells is that one, and goes on as it; any parts make a machine just if the document's Make makes one of them, and then it tells the same
-/
import Derived.Test.YtgpnlidnbldiiaaGreatMaMkWr
import Derived.Test.YtgpnlidnbldiiaaGreatMaArgsr
namespace Go.Proofs.YtgpnlidnbldiiaaGreat
open Go.ChangeShapes Go.WideShapes Go.ChangeAt Go.RowKit
set_option maxRecDepth 100000 in
theorem machineMakes_lifted (os:Os) (started:os.Started) (H:Type) (enc:TypeId × Value→H) :
 ReturnsInHanded {} Tryz.checked os 4 .any (Rows.machineMakesSpec.pre6 enc Tryz.prog Tryz.f4 Rows.machineMakesRow.domain false) (Rows.machineMakesSpec.post enc Tryz.prog Tryz.f4 false true false false):=by
 refine returnsInHanded_of_change_sized (C:=Tryz.checked) DS started (by kernel_rfl) Tryz.func4
  (ChangeSpec.witness6 (enc:=enc) (C:=Tryz.checked) false ⟨#[],#[.slice none 0 0,.slice none 0 0,.agg #[.slice none 0 0,.int .i64 0,.int .i64 0,.int .i64 0,.int .i64 0,.int .i64 0,.int .i64 0,.int .i64 0,.int .i64 0]],[]⟩ 8 (by kernel_rfl) (by kernel_rfl) (by kernel_rfl) (by kernel_rfl)) ?_
 intro W base args ds gs before hval0 hW hcnd hsz0 _;have hval:∀ (j:Nat) t v,Tryz.f4.params[j]?=some t→args[j]?=some v→Value.okWide Tryz.prog W .any base t v:=hval0;have hW':=hW;obtain ⟨p,q,hA0,hV,rfl,hfz,hnd⟩:=hW;have hA:DataW.TrodAll enc Tryz.prog W 0 (fun _=>true) true Tryz.f4.params.toList args.toList ds p:=hA0;have hsz:(DataW.weightsEach Tryz.prog (Tryz.f4.params.toList++Rows.machineMakesSpec.plain.varTypes Tryz.prog) (ds++gs)).all (·≤reachBytes)=true:=hsz0;rw [Tryz.params4] at hA hval hsz;obtain ⟨v0,vs0,d0,ds0,p0,q0,hargs,rfl,rfl,h0,r0⟩:=trodAll_cons hA;obtain ⟨v1,vs1,d1,ds1,p1,q1,rfl,rfl,rfl,h1,r1⟩:=trodAll_cons r0;obtain ⟨v2,vs2,d2,ds2,p2,q2,rfl,rfl,rfl,h2,r2⟩:=trodAll_cons r1;obtain ⟨rfl,rfl,rfl⟩:=trodAll_nil r2;obtain rfl:args=#[v0,v1,v2]:=by cases args;simp_all
 obtain ⟨rfl,rfl⟩:=trodVars_none hV;obtain ⟨a0,len0,cap0,rfl⟩:=okWide_slice Tryz.underlying25 (hval 0 25 v0 rfl rfl);have k0:=h0;have lt0:∀ x∈p0,x.block < W.heap.size:=by obtain ⟨m,hm⟩:=k0;exact DataW.trod_lt m _ _ _ hm
 have wt0:∀ m∈d0.weights Tryz.prog 25,m≤reachBytes:=fun m hm=>by have:=List.all_eq_true.1 hsz m (DataW.weights_mem_each (j:=0) (t:=25) (d:=d0) rfl rfl m hm);simpa using this
 obtain ⟨fuel0,hf0⟩:=h0;obtain ⟨L0,hL0⟩:=jr hf0 wt0;obtain ⟨a1,len1,cap1,rfl⟩:=okWide_slice Tryz.underlying25 (hval 1 25 v1 rfl rfl);have k1:=h1;have lt1:∀ x∈p1,x.block < W.heap.size:=by obtain ⟨m,hm⟩:=k1;exact DataW.trod_lt m _ _ _ hm
 have wt1:∀ m∈d1.weights Tryz.prog 25,m≤reachBytes:=fun m hm=>by have:=List.all_eq_true.1 hsz m (DataW.weights_mem_each (j:=1) (t:=25) (d:=d1) rfl rfl m hm);simpa using this
 obtain ⟨fuel1,hf1⟩:=h1;obtain ⟨L1,hL1⟩:=jr hf1 wt1;obtain ⟨cs2,rfl,hcs2⟩:=okWide_struct Tryz.underlying24 (hval 2 24 v2 rfl rfl);have k2:=h2;have lt2:∀ x∈p2,x.block < W.heap.size:=by obtain ⟨m,hm⟩:=k2;exact DataW.trod_lt m _ _ _ hm
 have wt2:∀ m∈d2.weights Tryz.prog 24,m≤reachBytes:=fun m hm=>by have:=List.all_eq_true.1 hsz m (DataW.weights_mem_each (j:=2) (t:=24) (d:=d2) rfl rfl m hm);simpa using this
 obtain ⟨fuel2,hf2⟩:=h2;obtain ⟨x2,he2,hin2⟩:=pO hf2 wt2;obtain rfl:cs2=(Dq x2).toArray:=Array.ext' he2;clear hA0 hval0;refine (sh W a0 len0 cap0 L0 hL0 a1 len1 cap1 L1 hL1 x2 hin2).mono fun e W' ⟨he,bel0⟩=>?_;have bel:Below W.heap.size W W':=bel0.below (Nat.le_refl _) (by simp);subst he;exact ⟨_,rfl,_,_,_,[],_,[],hW',trodAll_mk1 (shut_bool Tryz.underlying4 _),(trodAll_cons_mk (Below.trod pE (by kernel_rfl) (of_decide_eq_true (by kernel_rfl)) k0 bel lt0) (trodAll_cons_mk (Below.trod pE (by kernel_rfl) (of_decide_eq_true (by kernel_rfl)) k1 bel lt1) (trodAll_cons_mk (Below.trod pE (by kernel_rfl) (of_decide_eq_true (by kernel_rfl)) k2 bel lt2) trodAll_mk0))),rfl,bel.frame _,fun h=>by cases h⟩
theorem machineMakes_holds:Rows.MachineMakesSaid :=
 OpenClaim.holds_of_wide 4 Tryz.f4 rfl rfl rfl rfl rfl rfl rfl ⟨rfl,rfl,rfl,rfl,rfl⟩ rfl rfl rfl rfl rfl (by kernel_rfl) Tryz.func4 (by kernel_rfl)
  (of_decide_eq_true (by kernel_rfl)) (by unfold Func.isWrapper;first | (rw [if_pos (by decide +kernel)];kernel_rfl) | (rw [if_neg (by decide +kernel)];exact ⟨rfl,rfl⟩))
  (fun os started H enc _=>machineMakes_lifted os started H enc)
#print axioms machineMakes_holds
end Go.Proofs.YtgpnlidnbldiiaaGreat
