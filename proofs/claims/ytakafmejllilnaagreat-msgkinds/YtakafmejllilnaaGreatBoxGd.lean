/-
  Boxes that are read under a guard.
-/
import Derived.Test.YtakafmejllilnaaGreatF2
namespace Go.Proofs.YtakafmejllilnaaGreat
open Go.RowKit
theorem wl_load_bxg {P:Program}{ops:Array Oper}{rest:List Oper}{a:Act}{w:World}{Q:Exit→Act→World→Prop}{d:Option Tmp}{x:Operand}{T ty:TypeId}{ps:String}{af:Array Edge}{g:Nat × Bool}
 {b:Nat}{cs:List Value}(hc:Bx w b T cs) (hT:RowT P T cs.length) (hw:Region.wanted ⟨d,.load T x,ty,ps,af,some g⟩ (yielded ops a.tmps)=true) (hx:a.eval x=.pointer (some ⟨b,0,none⟩))
 (h:wpList P ops Q rest (a.put d (.agg cs.toArray)) w):wpList P ops Q (⟨d,.load T x,ty,ps,af,some g⟩ :: rest) a w:=by
 obtain ⟨D,hu,hd,hi⟩:=hT
 unfold wpList
 rw [if_pos hw]
 exact Or.inl (wp_load_mid T x rfl b 0 hx cs D hc.range hu hd hi h)
end Go.Proofs.YtakafmejllilnaaGreat
