/-
  Two texts compared (strings.Compare comes to it), as an entry: the order of their bytes.
-/
import Derived.Lib.Bytealg
import Derived.Test.YtdkdhcakoccpfaaGreatDoorChecked
import Derived.Test.YtdkdhcakoccpfaaGreatDoorDaL
namespace Go.Proofs.YtdkdhcakoccpfaaGreatDoor
open Go.RowKit
def cmpI (a b:ByteArray):Int := Go.Lib.compareBytes a.data.toList b.data.toList
set_option maxRecDepth 100000 in
theorem X8u (a b:ByteArray) (w:World):Calls Tryz.prog 127 #[.string a,.string b] w fun e w' => e = .returned (.int .i64 (cmpI a b))∧w' = w := by
 have hc:∀ w,(callFunc 129 #[.string a,.string b]).run Tryz.prog w = .ok (.value (.int .i64 (cmpI a b))) w := fun w=>by
  rw [run_callFunc_extern Tryz.func129 (by kernel_rfl) (by kernel_rfl) (by kernel_rfl) (e := Extern.BytealgCompare.compare) (by kernel_rfl),Go.Lib.run_compareString]
  rfl
 go_enter Tryz.func127,Tryz.ntmps127
 go_wp2_with (simp only [hc])
 go_ret
 exact ⟨rfl,rfl⟩
theorem X8v:Enters Tryz.prog 127 := ⟨_,Tryz.func127,by kernel_rfl,by kernel_rfl⟩
theorem X8w {vs:Array Value} (h:vs.size=2):vs = #[vs.getD 0 undef,vs.getD 1 undef] := by
 apply Array.ext
 ·simpa using h
 ·intro i hi1 hi2
  have hi:i<2 := by omega
  rcases i with _ | _ | i
  ·simp [Array.getD_eq_getD_getElem?,hi1]
  ·simp [Array.getD_eq_getD_getElem?,hi1]
  ·omega
theorem X8x (a b:ByteArray):FC Tryz.prog 127 [] [.im (.val (.string a)),.im (.val (.string b))] ⟨[],[],.im (.val (.int .i64 (cmpI a b)))⟩ := by
 refine ⟨X8v,fun ok ρ w vs _ hgl h1 h2 h3 h4 h5 => ?_⟩
 have j0:vs.getD 0 undef = .string a := h5 0 _ rfl
 have j1:vs.getD 1 undef = .string b := h5 1 _ rfl
 rw [X8w h4,j0,j1]
 refine (X8u a b w).mono ?_
 rintro e' w' ⟨rfl,rfl⟩
 exact ⟨ρ,_,rfl,rfl,rfl,fun k o hk=>by simp [lol] at hk,fun k o g hk=>by simp [lol] at hk,fun k k' o o' g hk=>by simp [lol] at hk,Ext.refl,Nat.le_refl _,rfl,rfl,rfl⟩
def pCmpS (_:Nat):ByteArray×(ByteArray×Unit)→Option (Unit×Int) := fun x=>some ((),cmpI x.1 x.2.1)
def eCmpS (fu:Nat):Ent := ⟨127,.cons (.hole .str) (.cons (.hole .str) .nil),.nil,.hole (.int .i64),pCmpS fu⟩
theorem X8y (fu:Nat):(eCmpS fu).Good Tryz.prog := by
 rintro ⟨(a:ByteArray),(b:ByteArray),⟨⟩⟩ y z hp
 obtain ⟨rfl,rfl⟩ := Prod.mk.inj (Option.some.inj hp)
 exact X8x a b
end Go.Proofs.YtdkdhcakoccpfaaGreatDoor
