/-
  Torn, lengthened and changed frames, plainly.
-/
import Derived.Test.YtakafmejllilnaaGreatF1
namespace Go.Proofs.YtakafmejllilnaaGreat
open Go.RowKit
theorem crcStep_inj {x y:Nat}(hx:x < 4294967296) (hy:y < 4294967296) (h:crcStep x=crcStep y):x=y:=by
 have mix:∀ a b:Nat,a < 4294967296→b < 4294967296→(a / 2) ^^^ crcPoly=b / 2→False:=by
  intro a b ha hb e
  have e2:crcPoly=(a / 2) ^^^ (b / 2):=by rw [← e,← Nat.xor_assoc,Nat.xor_self,Nat.zero_xor]
  have:=Nat.xor_lt_two_pow (n:=31) (x:=a / 2) (y:=b / 2) (by omega) (by omega)
  rw [← e2] at this
  exact absurd this (by decide)
 unfold crcStep at h
 split at h <;> split at h
 ·have e:=congrArg (· ^^^ crcPoly) h
  simp only [Nat.xor_assoc,Nat.xor_self,Nat.xor_zero] at e
  omega
 ·exact (mix x y hx hy h).elim
 ·exact (mix y x hy hx h.symm).elim
 ·omega
theorem crcSteps_inj {k x y:Nat}(hx:x < 4294967296) (hy:y < 4294967296) (h:crcSteps k x=crcSteps k y):x=y:=by
 induction k with
 | zero=>exact h
 | succ k ih=>exact ih (crcStep_inj (crcSteps_lt _ _ hx) (crcSteps_lt _ _ hy) h)
theorem xor_cancel {a b c:Nat}(h:a ^^^ b=a ^^^ c):b=c:=by
 have e:=congrArg (a ^^^ ·) h
 simpa [← Nat.xor_assoc] using e
theorem xor_cancel' {a b c:Nat}(h:b ^^^ a=c ^^^ a):b=c:=xor_cancel (by rw [Nat.xor_comm a b,Nat.xor_comm a c];exact h)
theorem crcReg_inj {l:List Int}(hl:Oct l) {r s:Nat}(hr:r < 4294967296) (hs:s < 4294967296) (h:crcReg r l=crcReg s l):r=s:=by
 induction l generalizing r s with
 | nil=>exact h
 | cons d l ih =>
   have hd:=hl.head
   have h1:r ^^^ d.toNat < 4294967296:=Nat.xor_lt_two_pow (n:=32) (by omega) (by omega)
   have h2:s ^^^ d.toNat < 4294967296:=Nat.xor_lt_two_pow (n:=32) (by omega) (by omega)
   exact xor_cancel' (crcSteps_inj h1 h2 (ih hl.tail (crcSteps_lt _ _ h1) (crcSteps_lt _ _ h2) h))
theorem crc_changed (p q:List Int) (x y:Int) (hp:Oct p) (hq:Oct q) (hx:0≤x∧x < 256) (hy:0≤y∧y < 256) (h:crcOf (p++x :: q)=crcOf (p++y :: q)):x=y:=by
 have hr:crcReg 4294967295 p < 4294967296:=crcReg_lt _ _ (by decide) hp
 have h1:crcReg 4294967295 p ^^^ x.toNat < 4294967296:=Nat.xor_lt_two_pow (n:=32) (by omega) (by omega)
 have h2:crcReg 4294967295 p ^^^ y.toNat < 4294967296:=Nat.xor_lt_two_pow (n:=32) (by omega) (by omega)
 have e:∀ z:Int,crcReg 4294967295 (p++z :: q)=crcReg (crcSteps 8 (crcReg 4294967295 p ^^^ z.toNat)) q:=by
  intro z;rw [crcReg_append];rfl
 have b1:=crcReg_lt _ q (crcSteps_lt 8 _ h1) hq
 have b2:=crcReg_lt _ q (crcSteps_lt 8 _ h2) hq
 unfold crcOf at h
 rw [e,e] at h
 have h3:=crcReg_inj hq (crcSteps_lt 8 _ h1) (crcSteps_lt 8 _ h2) (by omega)
 have h4:=xor_cancel (crcSteps_inj h1 h2 h3)
 omega
def sumUp (l:List Int):List Int:=l++hiB 4 (crcOf l)
theorem sumUp_length (l:List Int):(sumUp l).length=l.length+4:=by simp [sumUp,hiB_length]
theorem Oct.app {l m:List Int}(h:Oct l) (k:Oct m):Oct (l++m):=by
 intro x hx
 rcases List.mem_append.1 hx with h1 | h1
 ·exact h x h1
 ·exact k x h1
theorem sumUp_oct {l:List Int}(h:Oct l):Oct (sumUp l):=Oct.app h (hiB_oct _ _)
theorem summed_parts (a b:List Int) (h:b.length=4):summed (a++b)=(rdHi b==(crcOf a:Int)):=by
 unfold summed
 have e:(a++b).length - 4=a.length:=by rw [List.length_append];omega
 rw [e,List.drop_left,List.take_left]
theorem summed_sumUp (l:List Int):summed (sumUp l)=true:=by
 unfold sumUp
 rw [summed_parts _ _ (hiB_length _ _),rdHi_hiB4 _ (by omega) (by have:=crcOf_le l;omega)]
 simp
theorem split_at (l:List Int) (k:Nat) (h:k < l.length):∃ p x q,l=p++x :: q∧p.length=k :=
 ⟨l.take k,l[k],l.drop (k+1),by rw [← List.drop_eq_getElem_cons h,List.take_append_drop],by simp;omega⟩
theorem set_mid (p q:List Int) (x y:Int):(p++x :: q).set p.length y=p++y :: q:=by simp
theorem get_mid (p q:List Int) (x:Int):(p++x :: q)[p.length]?=some x:=by simp
theorem summed_changed (l:List Int) (hl:Oct l) (k:Nat) (x y:Int) (hx:(sumUp l)[k]?=some x) (hy:0≤y∧y < 256) (hne:x≠y):summed ((sumUp l).set k y)=false:=by
 have hk:k < l.length+4:=by
  have:=(List.getElem?_eq_some_iff.1 hx).1
  rwa [sumUp_length] at this
 by_cases h:k < l.length
 ·obtain ⟨p,z,q,rfl,rfl⟩:=split_at l k h
  have e:sumUp (p++z :: q)=p++z :: (q++hiB 4 (crcOf (p++z :: q))):=by simp [sumUp]
  rw [e,get_mid] at hx
  obtain rfl:z=x:=Option.some.inj hx
  rw [e,set_mid,show p++y :: (q++hiB 4 (crcOf (p++z :: q)))=(p++y :: q)++hiB 4 (crcOf (p++z :: q)) by simp,summed_parts _ _ (hiB_length _ _),
   rdHi_hiB4 _ (by omega) (by have:=crcOf_le (p++z :: q);omega)]
  simp only [beq_eq_false_iff_ne,ne_eq]
  intro he
  exact hne (crc_changed p q z y (fun a ha=>hl a (by simp [ha])) (fun a ha=>hl a (by simp [ha])) (hl z (by simp)) hy (by omega))
 ·have hS:=hiB_length 4 (crcOf l)
  have e:(sumUp l).set k y=l++(hiB 4 (crcOf l)).set (k - l.length) y:=by
   unfold sumUp;rw [List.set_append_right _ _ (by omega)]
  have hx2:(hiB 4 (crcOf l))[k - l.length]?=some x:=by
   rw [← hx];unfold sumUp;rw [List.getElem?_append_right (by omega)]
  have hlen:((hiB 4 (crcOf l)).set (k - l.length) y).length=4:=by rw [List.length_set,hS]
  have hoct:Oct ((hiB 4 (crcOf l)).set (k - l.length) y):=by
   intro a ha
   rcases List.mem_or_eq_of_mem_set ha with h1 | rfl
   ·exact hiB_oct _ _ a h1
   ·exact hy
  rw [e,summed_parts _ _ hlen]
  simp only [beq_eq_false_iff_ne,ne_eq]
  intro he
  have h3:=(hiB4_rdHi _ hlen hoct).2.2
  rw [he] at h3
  have h4:((hiB 4 (crcOf l)).set (k - l.length) y)[k - l.length]?=some y:=by
   rw [List.getElem?_set_self (by rw [hS];omega)]
  rw [← h3,hx2] at h4
  exact hne (Option.some.inj h4)
theorem frameOf_eq (l:List Int):frameOf l=sumUp (hiB 4 l.length)++sumUp l:=rfl
theorem frameOf_length (l:List Int):(frameOf l).length=l.length+12:=by
 rw [frameOf_eq,List.length_append,sumUp_length,sumUp_length,hiB_length];omega
theorem frameOf_oct {l:List Int}(h:Oct l):Oct (frameOf l):=by
 rw [frameOf_eq];exact Oct.app (sumUp_oct (hiB_oct _ _)) (sumUp_oct h)
theorem head8 (n:Nat) (F:List Int) (h:F.take 8=sumUp (hiB 4 n)):F.take 4=hiB 4 n:=by
 have:F.take 4=(F.take 8).take 4:=by rw [List.take_take];rfl
 rw [this,h];unfold sumUp;rw [List.take_left' (hiB_length _ _)]
theorem head8_facts (n:Nat) (hn:n≤1048576) (F:List Int) (h:F.take 8=sumUp (hiB 4 n)) :
 ¬ F.length < 8∧¬ summed (F.take 8)=false∧rdHi (F.take 4)=n:=by
 refine ⟨?_,?_,?_⟩
 ·have:=congrArg List.length h
  rw [sumUp_length,hiB_length,List.length_take] at this
  omega
 ·rw [h,summed_sumUp];simp
 ·rw [head8 n F h,rdHi_hiB4 _ (by omega) (by omega)]
theorem head_take8 (n:Nat) (X:List Int):(sumUp (hiB 4 n)++X).take 8=sumUp (hiB 4 n) :=
 List.take_left' (by rw [sumUp_length,hiB_length])
theorem head_drop8 (n:Nat) (X:List Int):(sumUp (hiB 4 n)++X).drop 8=X :=
 List.drop_left' (by rw [sumUp_length,hiB_length])
theorem unframe_torn (l:List Int) (hl:l.length≤1048576) (k:Nat) (hk:k < l.length+12):unframe ((frameOf l).take k)=([],0,2):=by
 have hlen:((frameOf l).take k).length=k:=by rw [List.length_take,frameOf_length];omega
 by_cases h8:k < 8
 ·unfold unframe;rw [if_pos (by omega)]
 ·have e:((frameOf l).take k).take 8=sumUp (hiB 4 l.length):=by
   rw [List.take_take,Nat.min_eq_left (by omega),frameOf_eq,head_take8]
  obtain ⟨h1,h2,h3⟩:=head8_facts l.length hl _ e
  unfold unframe
  rw [if_neg h1,if_neg h2,h3,if_neg (by omega),hlen,if_pos (by omega)]
theorem unframe_more (l:List Int) (hl:l.length≤1048576) (more:List Int):unframe (frameOf l++more)=(l,(l.length:Int)+12,0):=by
 have e0:frameOf l++more=sumUp (hiB 4 l.length)++(sumUp l++more):=by rw [frameOf_eq,List.append_assoc]
 have e:(frameOf l++more).take 8=sumUp (hiB 4 l.length):=by rw [e0,head_take8]
 obtain ⟨h1,h2,h3⟩:=head8_facts l.length hl _ e
 have hlen:(frameOf l++more).length=l.length+12+more.length:=by rw [List.length_append,frameOf_length]
 have h4:((frameOf l++more).take (l.length+12)).drop 8=sumUp l:=by
  rw [List.take_left' (frameOf_length l),frameOf_eq,head_drop8]
 have h5:((frameOf l++more).take (8+l.length)).drop 8=l:=by
  rw [List.drop_take,e0,head_drop8]
  have:8+l.length - 8=l.length:=by omega
  rw [this];unfold sumUp;rw [List.append_assoc,List.take_left]
 unfold unframe
 rw [if_neg h1,if_neg h2,h3,if_neg (by omega),if_neg (by omega),Int.toNat_natCast,h4,summed_sumUp,h5]
 simp
theorem unframe_changed (l:List Int) (ho:Oct l) (hl:l.length≤1048576) (k:Nat) (x y:Int) (hx:(frameOf l)[k]?=some x) (hy:0≤y∧y < 256) (hne:x≠y) :
 unframe ((frameOf l).set k y)=([],0,5):=by
 have hlen8:(sumUp (hiB 4 l.length)).length=8:=by rw [sumUp_length,hiB_length]
 have hk:k < l.length+12:=by
  have:=(List.getElem?_eq_some_iff.1 hx).1
  rwa [frameOf_length] at this
 have hlen:((frameOf l).set k y).length=l.length+12:=by rw [List.length_set,frameOf_length]
 by_cases h8:k < 8
 ·have e:(frameOf l).set k y=(sumUp (hiB 4 l.length)).set k y++sumUp l:=by
   rw [frameOf_eq,List.set_append_left _ _ (by omega)]
  have hx2:(sumUp (hiB 4 l.length))[k]?=some x:=by
   rw [← hx,frameOf_eq,List.getElem?_append_left (by omega)]
  have hs:=summed_changed _ (hiB_oct 4 l.length) k x y hx2 hy hne
  have ht:((frameOf l).set k y).take 8=(sumUp (hiB 4 l.length)).set k y:=by
   rw [e];exact List.take_left' (by rw [List.length_set,hlen8])
  unfold unframe
  rw [if_neg (by omega),ht,if_pos hs]
 ·have e:(frameOf l).set k y=sumUp (hiB 4 l.length)++(sumUp l).set (k - 8) y:=by
   rw [frameOf_eq,List.set_append_right _ _ (by omega),hlen8]
  have hx2:(sumUp l)[k - 8]?=some x:=by
   rw [← hx,frameOf_eq,List.getElem?_append_right (by omega),hlen8]
  have hs:=summed_changed _ ho (k - 8) x y hx2 hy hne
  have ht:((frameOf l).set k y).take 8=sumUp (hiB 4 l.length):=by rw [e,head_take8]
  obtain ⟨h1,h2,h3⟩:=head8_facts l.length hl _ ht
  have h4:(((frameOf l).set k y).take (l.length+12)).drop 8=(sumUp l).set (k - 8) y:=by
   rw [List.take_of_length_le (by omega),e,head_drop8]
  unfold unframe
  rw [if_neg h1,if_neg h2,h3,if_neg (by omega),hlen,if_neg (by omega),Int.toNat_natCast,h4,if_pos hs]
end Go.Proofs.YtakafmejllilnaaGreat
