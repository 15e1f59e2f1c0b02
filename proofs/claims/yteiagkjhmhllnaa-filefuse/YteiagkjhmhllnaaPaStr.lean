/-
  A text, out of its bytes.
-/
import Derived.Test.YteiagkjhmhllnaaBase
import Derived.Test.YteiagkjhmhllnaaPaPure
import Derived.Lib.CutLaws
namespace Go.Proofs.Yteiagkjhmhllnaa
open Go.RowKit
def str (l:List UInt8):ByteArray:=⟨l.toArray⟩
theorem str_data (l:List UInt8):(str l).data.toList=l:=by simp [str]
theorem str_size (l:List UInt8):(str l).size=l.length:=by rw [Lib.size_eq,str_data]
theorem str_of (s:ByteArray):s=str s.data.toList:=by cases s;simp [str]
theorem str_inj {a b:List UInt8}(h:str a=str b):a=b:=by rw [← str_data a,h,str_data]
theorem str_nil:str []=ByteArray.empty:=rfl
end Go.Proofs.Yteiagkjhmhllnaa
