/-
  Which fields a Kind has.
-/
import Derived.Test.YtakafmejllilnaaGreatBoxGd
import Derived.Test.YtakafmejllilnaaGreatF2
namespace Go.Proofs.YtakafmejllilnaaGreat
open Go.RowKit
inductive Fd where
 | B | S | T | V | L | I | N | R
deriving DecidableEq
def shp (k:Int):List Fd :=
 if k=1∨k=4 then [.B,.S]
 else if k=2 then [.B,.S,.L]
 else if k=3 then [.B,.S,.V]
 else if k=5 then [.B]
 else if k=6 then [.S,.V]
 else if k=7∨k=8 then [.B,.S,.T]
 else if k=9 then [.S]
 else if k=10 then [.S,.I]
 else if k=11∨k=12 then [.N,.V]
 else if k=13 then [.N,.R]
 else if k=14 then [.N,.S]
 else []
theorem shp_nodup (k:Int):(shp k).Nodup:=by
 unfold shp
 repeat' split
 all_goals decide
theorem shp_kind {k:Int}(h:shp k≠[]):1≤k∧k≤14:=by
 unfold shp at h
 repeat' split at h
 all_goals first | omega | exact absurd rfl h
theorem kind_shp {k:Int}(h:1≤k∧k≤14):shp k≠[]:=by
 unfold shp
 repeat' split
 all_goals first | omega | simp
end Go.Proofs.YtakafmejllilnaaGreat
