/-
  Two texts compared (strings.Compare comes to it), as an entry: the order of their bytes.
-/
import Derived.Lib.Bytealg
import Derived.Test.YtmjmhobeiamgiaaGreatChecked
import Derived.Test.YtmjmhobeiamgiaaGreatDaL
namespace Go.Proofs.YtmjmhobeiamgiaaGreat
open Go.RowKit
def cmpI (a b:ByteArray):Int := Go.Lib.compareBytes a.data.toList b.data.toList
set_option maxRecDepth 100000 in
theorem cp_calls (a b:ByteArray) (w:World):Calls Tryz.prog 106 #[.string a,.string b] w fun e w' => e = .returned (.int .i64 (cmpI a b))∧w' = w := by
 have hc:∀ w,(callFunc 108 #[.string a,.string b]).run Tryz.prog w = .ok (.value (.int .i64 (cmpI a b))) w := fun w=>by
  rw [run_callFunc_extern Tryz.func108 (by kernel_rfl) (by kernel_rfl) (by kernel_rfl) (e := Extern.BytealgCompare.compare) (by kernel_rfl),Go.Lib.run_compareString]
  rfl
 go_enter Tryz.func106,Tryz.ntmps106
 go_wp2_with (simp only [hc])
 go_ret
 exact ⟨rfl,rfl⟩
theorem cp_enters:Enters Tryz.prog 106 := ⟨_,Tryz.func106,by kernel_rfl,by kernel_rfl⟩
theorem cp_args {vs:Array Value} (h:vs.size=2):vs = #[vs.getD 0 undef,vs.getD 1 undef] := by
 apply Array.ext
 ·simpa using h
 ·intro i hi1 hi2
  have hi:i<2 := by omega
  rcases i with _ | _ | i
  ·simp [Array.getD_eq_getD_getElem?,hi1]
  ·simp [Array.getD_eq_getD_getElem?,hi1]
  ·omega
theorem fcCmp (a b:ByteArray):FC Tryz.prog 106 [] [.im (.val (.string a)),.im (.val (.string b))] ⟨[],[],.im (.val (.int .i64 (cmpI a b)))⟩ := by
 refine ⟨cp_enters,fun ok ρ w vs _ hgl h1 h2 h3 h4 h5 => ?_⟩
 have j0:vs.getD 0 undef = .string a := h5 0 _ rfl
 have j1:vs.getD 1 undef = .string b := h5 1 _ rfl
 rw [cp_args h4,j0,j1]
 refine (cp_calls a b w).mono ?_
 rintro e' w' ⟨rfl,rfl⟩
 exact ⟨ρ,_,rfl,rfl,rfl,fun k o hk=>by simp [lol] at hk,fun k o g hk=>by simp [lol] at hk,fun k k' o o' g hk=>by simp [lol] at hk,Ext.refl,Nat.le_refl _,rfl,rfl,rfl⟩
def pCmpS (_:Nat):ByteArray×(ByteArray×Unit)→Option (Unit×Int) := fun x=>some ((),cmpI x.1 x.2.1)
def eCmpS (fu:Nat):Ent := ⟨106,.cons (.hole .str) (.cons (.hole .str) .nil),.nil,.hole (.int .i64),pCmpS fu⟩
theorem gCmpS (fu:Nat):(eCmpS fu).Good Tryz.prog := by
 rintro ⟨(a:ByteArray),(b:ByteArray),⟨⟩⟩ y z hp
 obtain ⟨rfl,rfl⟩ := Prod.mk.inj (Option.some.inj hp)
 exact fcCmp a b
end Go.Proofs.YtmjmhobeiamgiaaGreat
