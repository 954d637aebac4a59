/-
  The functions, typed.
-/
import Derived.Test.YtiiodikdbkpjjaaDaL
import Derived.Test.YtiiodikdbkpjjaaRows
namespace Go.Proofs.Ytiiodikdbkpjjaa
open Go.RowKit
abbrev T_runtime_errorAddressString : Tp := (.pair .str (.int .u64))
abbrev D_runtime_errorAddressString := (ByteArray) × (Int)
abbrev T_api_Range : Tp := (.pair .str .str)
abbrev D_api_Range := (ByteArray) × (ByteArray)
abbrev T_api_Site : Tp := (.pair (.int .u64) (.int .i64))
abbrev D_api_Site := (Int) × (Int)
abbrev T_keyrange_bound : Tp := (.pair .str .bool)
abbrev D_keyrange_bound := (ByteArray) × (Bool)
abbrev T_runtime_boundsError : Tp := (.pair (.int .i64) (.pair (.int .i64) (.pair .bool (.int .u8))))
abbrev D_runtime_boundsError := (Int) × ((Int) × ((Bool) × (Int)))
abbrev T_api_Record : Tp := (.pair (.int .u64) (.pair .str (.pair (.sl (.int .u8)) (.pair (.int .u64) (.int .u64)))))
abbrev D_api_Record := (Int) × ((ByteArray) × ((List (Int)) × ((Int) × (Int))))
abbrev T_api_Shard : Tp := (.pair (.int .u64) (.pair T_api_Range (.pair (.int .u64) (.pair (.sl (.int .i64)) (.pair (.sl (.int .i64)) (.int .u64))))))
abbrev D_api_Shard := (Int) × ((D_api_Range) × ((Int) × ((List (Int)) × ((List (Int)) × (Int)))))
abbrev T_api_PartResult : Tp := (.pair (.int .i64) (.pair (.int .u64) (.pair .bool (.sl T_api_Record))))
abbrev D_api_PartResult := (Int) × ((Int) × ((Bool) × (List (D_api_Record))))
abbrev T_api_Topic : Tp := (.pair .str (.sl T_api_Shard))
abbrev D_api_Topic := (ByteArray) × (List (D_api_Shard))
abbrev T_api_PartCommand : Tp := (.pair (.int .i64) (.pair (.int .u64) (.pair (.int .u64) (.pair (.int .u64) (.pair .str (.pair (.sl (.int .u8)) (.pair (.int .u64) (.pair (.int .i64) T_runtime_errorAddressString))))))))
abbrev D_api_PartCommand := (Int) × ((Int) × ((Int) × ((Int) × ((ByteArray) × ((List (Int)) × ((Int) × ((Int) × (D_runtime_errorAddressString))))))))
abbrev T_api_PlaceCommand : Tp := (.pair (.int .i64) (.pair (.int .u64) (.pair (.int .u64) (.pair .str (.pair (.sl (.int .i64)) (.pair (.int .u64) (.pair (.int .u64) (.pair .str (.pair (.int .i64) (.pair (.int .i64) T_api_Site))))))))))
abbrev D_api_PlaceCommand := (Int) × ((Int) × ((Int) × ((ByteArray) × ((List (Int)) × ((Int) × ((Int) × ((ByteArray) × ((Int) × ((Int) × (D_api_Site))))))))))
abbrev T_api_Reply : Tp := (.pair (.int .u64) (.pair (.int .i64) (.pair (.int .i64) (.pair T_api_PartResult (.pair (.int .u64) (.pair (.sl T_api_Shard) (.pair (.int .u64) (.pair (.int .u64) (.int .u64)))))))))
abbrev D_api_Reply := (Int) × ((Int) × ((Int) × ((D_api_PartResult) × ((Int) × ((List (D_api_Shard)) × ((Int) × ((Int) × (Int))))))))
abbrev T_api_Request : Tp := (.pair (.int .u64) (.pair (.int .i64) (.pair (.int .u64) (.pair T_api_PartCommand (.pair T_api_PlaceCommand .str)))))
abbrev D_api_Request := (Int) × ((Int) × ((Int) × ((D_api_PartCommand) × ((D_api_PlaceCommand) × (ByteArray)))))
abbrev T_api_Call : Tp := (.pair (.int .i64) (.pair .str (.pair .str (.pair (.sl (.int .u8)) (.pair (.int .u64) (.pair (.int .i64) (.pair .str T_api_PlaceCommand)))))))
abbrev D_api_Call := (Int) × ((ByteArray) × ((ByteArray) × ((List (Int)) × ((Int) × ((Int) × ((ByteArray) × (D_api_PlaceCommand)))))))
abbrev T_api_ClientOutput : Tp := (.pair .bool (.pair (.int .i64) (.pair T_api_Request (.pair .bool T_api_Reply))))
abbrev D_api_ClientOutput := (Bool) × ((Int) × ((D_api_Request) × ((Bool) × (D_api_Reply))))
abbrev T_api_ClientInput : Tp := (.pair (.int .i64) (.pair T_api_Call T_api_Reply))
abbrev D_api_ClientInput := (Int) × ((D_api_Call) × (D_api_Reply))
abbrev T_api_Client : Tp := (.pair (.int .i64) (.pair (.sl (.int .i64)) (.pair (.int .u64) (.pair (.int .u64) (.pair (.sl T_api_Topic) (.pair (.sl T_api_Site) (.pair .bool (.pair T_api_Call (.pair (.int .u64) (.pair .bool (.pair (.int .u64) (.pair (.int .i64) (.pair (.int .i64) (.pair .bool (.int .i64)))))))))))))))
abbrev D_api_Client := (Int) × ((List (Int)) × ((Int) × ((Int) × ((List (D_api_Topic)) × ((List (D_api_Site)) × ((Bool) × ((D_api_Call) × ((Int) × ((Bool) × ((Int) × ((Int) × ((Int) × ((Bool) × (Int))))))))))))))
abbrev T_client_client : Tp := (.pair T_api_Client T_api_ClientOutput)
abbrev D_client_client := (D_api_Client) × (D_api_ClientOutput)
theorem orders : Try.prog.follows .mixedOrders = true := by kernel_rfl
abbrev Z0 : Type := (Int) × ((List (Int)) × ((Int) × ((Int) × ((List (D_api_Topic)) × ((List (D_api_Site)) × ((Bool) × ((Int) × ((ByteArray) × ((ByteArray) × ((List (Int)) × ((Int) × ((Int) × ((ByteArray) × ((Int) × ((Int) × ((Int) × ((ByteArray) × ((List (Int)) × ((Int) × ((Int) × ((ByteArray) × ((Int) × ((Int) × ((Int) × ((Int) × ((Int) × ((Bool) × ((Int) × ((Int) × ((Int) × ((Bool) × ((Int) × ((Bool) × ((Int) × ((Int) × ((Int) × ((Int) × ((Int) × ((Int) × ((Int) × ((Int) × ((ByteArray) × ((Unit) × ((Int) × ((Int) × ((ByteArray) × ((Int) × ((Int) × ((Int) × ((Int) × ((ByteArray) × ((Unit) × ((Int) × ((Int) × ((ByteArray) × ((Int) × ((Int) × ((Int) × ((Int) × ((ByteArray) × ((Bool) × ((Int) × ((Int) × ((Int) × ((Int) × ((Int) × ((Bool) × ((Unit) × ((Int) × ((Unit) × ((Int) × ((Int) × ((Int) × (Unit))))))))))))))))))))))))))))))))))))))))))))))))))))))))))))))))))))))))))
abbrev Z1 : Type := (Int) × ((List (Int)) × ((Int) × ((Int) × ((List (D_api_Topic)) × ((List (D_api_Site)) × ((Bool) × ((Int) × ((ByteArray) × ((ByteArray) × ((List (Int)) × ((Int) × ((Int) × ((ByteArray) × ((Int) × ((Int) × ((Int) × ((ByteArray) × ((List (Int)) × ((Int) × ((Int) × ((ByteArray) × ((Int) × ((Int) × ((Int) × ((Int) × ((Int) × ((Bool) × ((Int) × ((Int) × ((Int) × ((Bool) × ((Int) × (Unit)))))))))))))))))))))))))))))))))
abbrev Z2 : Type := (Int) × ((ByteArray) × ((ByteArray) × ((List (Int)) × ((Int) × ((Int) × ((ByteArray) × ((Int) × ((Int) × ((Int) × ((ByteArray) × ((List (Int)) × ((Int) × ((Int) × ((ByteArray) × ((Int) × ((Int) × ((Int) × ((Int) × (Unit)))))))))))))))))))
abbrev Z3 : Type := (Bool) × ((Int) × ((Int) × ((Int) × ((Int) × ((Int) × ((Int) × ((Int) × ((Int) × ((ByteArray) × ((List (Int)) × ((Int) × ((Int) × ((ByteArray) × ((Int) × ((Int) × ((Int) × ((Int) × ((ByteArray) × ((List (Int)) × ((Int) × ((Int) × ((ByteArray) × ((Int) × ((Int) × ((Int) × ((Int) × ((ByteArray) × ((Bool) × ((Int) × ((Int) × ((Int) × ((Int) × ((Int) × ((Bool) × ((List (D_api_Record)) × ((Int) × ((List (D_api_Shard)) × ((Int) × ((Int) × ((Int) × (Unit)))))))))))))))))))))))))))))))))))))))))
abbrev Z4 : Type := (Int) × ((Int) × ((Int) × ((Int) × ((Int) × ((Bool) × ((List (D_api_Record)) × ((Int) × ((List (D_api_Shard)) × ((Int) × ((Int) × ((Int) × (Unit))))))))))))
abbrev Y5 : Sh := (.agg 33 (.cons (.hole (.int .i64)) (.cons (.own .own 3 (.int .i64)) (.cons (.hole (.int .u64)) (.cons (.hole (.int .u64)) (.cons (.hole (.sl T_api_Topic)) (.cons (.hole (.sl T_api_Site)) (.cons (.hole .bool) (.cons (.hole (.int .i64)) (.cons (.hole .str) (.cons (.hole .str) (.cons (.hole (.sl (.int .u8))) (.cons (.hole (.int .u64)) (.cons (.hole (.int .i64)) (.cons (.hole .str) (.cons (.hole (.int .i64)) (.cons (.hole (.int .u64)) (.cons (.hole (.int .u64)) (.cons (.hole .str) (.cons (.hole (.sl (.int .i64))) (.cons (.hole (.int .u64)) (.cons (.hole (.int .u64)) (.cons (.hole .str) (.cons (.hole (.int .i64)) (.cons (.hole (.int .i64)) (.cons (.hole (.int .u64)) (.cons (.hole (.int .i64)) (.cons (.hole (.int .u64)) (.cons (.hole .bool) (.cons (.hole (.int .u64)) (.cons (.hole (.int .i64)) (.cons (.hole (.int .i64)) (.cons (.hole .bool) (.cons (.hole (.int .i64)) .nil))))))))))))))))))))))))))))))))))
abbrev Z6 : Type := (Int) × ((ByteArray) × ((ByteArray) × ((Int) × ((List (Int)) × ((List (Int)) × ((Int) × (Unit)))))))
abbrev Y7 : Sh := (.agg 7 (.cons (.hole (.int .u64)) (.cons (.hole .str) (.cons (.hole .str) (.cons (.hole (.int .u64)) (.cons (.hole (.sl (.int .i64))) (.cons (.hole (.sl (.int .i64))) (.cons (.hole (.int .u64)) .nil))))))))
abbrev Y8 : Sh := (.agg 7 (.cons (.hole (.int .u64)) (.cons (.hole .str) (.cons (.hole .str) (.cons (.hole (.int .u64)) (.cons (.own .own 3 (.int .i64)) (.cons (.own .own 3 (.int .i64)) (.cons (.hole (.int .u64)) .nil))))))))
abbrev Z9 : Type := (Int) × ((Int) × ((Int) × ((ByteArray) × ((List (Int)) × ((Int) × ((Int) × ((ByteArray) × ((Int) × ((Int) × ((Int) × ((Int) × (Unit))))))))))))
abbrev Y10 : Sh := (.agg 12 (.cons (.hole (.int .i64)) (.cons (.hole (.int .u64)) (.cons (.hole (.int .u64)) (.cons (.hole .str) (.cons (.hole (.sl (.int .i64))) (.cons (.hole (.int .u64)) (.cons (.hole (.int .u64)) (.cons (.hole .str) (.cons (.hole (.int .i64)) (.cons (.hole (.int .i64)) (.cons (.hole (.int .u64)) (.cons (.hole (.int .i64)) .nil)))))))))))))
abbrev Y11 : Sh := (.agg 12 (.cons (.hole (.int .i64)) (.cons (.hole (.int .u64)) (.cons (.hole (.int .u64)) (.cons (.hole .str) (.cons (.own .own 3 (.int .i64)) (.cons (.hole (.int .u64)) (.cons (.hole (.int .u64)) (.cons (.hole .str) (.cons (.hole (.int .i64)) (.cons (.hole (.int .i64)) (.cons (.hole (.int .u64)) (.cons (.hole (.int .i64)) .nil)))))))))))))
abbrev Y12 : Sh := (.agg 19 (.cons (.hole (.int .i64)) (.cons (.hole .str) (.cons (.hole .str) (.cons (.hole (.sl (.int .u8))) (.cons (.hole (.int .u64)) (.cons (.hole (.int .i64)) (.cons (.hole .str) (.cons (.hole (.int .i64)) (.cons (.hole (.int .u64)) (.cons (.hole (.int .u64)) (.cons (.hole .str) (.cons (.hole (.sl (.int .i64))) (.cons (.hole (.int .u64)) (.cons (.hole (.int .u64)) (.cons (.hole .str) (.cons (.hole (.int .i64)) (.cons (.hole (.int .i64)) (.cons (.hole (.int .u64)) (.cons (.hole (.int .i64)) .nil))))))))))))))))))))
abbrev Y13 : Sh := (.agg 19 (.cons (.hole (.int .i64)) (.cons (.hole .str) (.cons (.hole .str) (.cons (.own .own 5 (.int .u8)) (.cons (.hole (.int .u64)) (.cons (.hole (.int .i64)) (.cons (.hole .str) (.cons (.hole (.int .i64)) (.cons (.hole (.int .u64)) (.cons (.hole (.int .u64)) (.cons (.hole .str) (.cons (.own .own 3 (.int .i64)) (.cons (.hole (.int .u64)) (.cons (.hole (.int .u64)) (.cons (.hole .str) (.cons (.hole (.int .i64)) (.cons (.hole (.int .i64)) (.cons (.hole (.int .u64)) (.cons (.hole (.int .i64)) .nil))))))))))))))))))))
abbrev Y14 : Sh := (.agg 33 (.cons (.hole (.int .i64)) (.cons (.hole (.sl (.int .i64))) (.cons (.hole (.int .u64)) (.cons (.hole (.int .u64)) (.cons (.hole (.sl T_api_Topic)) (.cons (.hole (.sl T_api_Site)) (.cons (.hole .bool) (.cons (.hole (.int .i64)) (.cons (.hole .str) (.cons (.hole .str) (.cons (.hole (.sl (.int .u8))) (.cons (.hole (.int .u64)) (.cons (.hole (.int .i64)) (.cons (.hole .str) (.cons (.hole (.int .i64)) (.cons (.hole (.int .u64)) (.cons (.hole (.int .u64)) (.cons (.hole .str) (.cons (.hole (.sl (.int .i64))) (.cons (.hole (.int .u64)) (.cons (.hole (.int .u64)) (.cons (.hole .str) (.cons (.hole (.int .i64)) (.cons (.hole (.int .i64)) (.cons (.hole (.int .u64)) (.cons (.hole (.int .i64)) (.cons (.hole (.int .u64)) (.cons (.hole .bool) (.cons (.hole (.int .u64)) (.cons (.hole (.int .i64)) (.cons (.hole (.int .i64)) (.cons (.hole .bool) (.cons (.hole (.int .i64)) .nil))))))))))))))))))))))))))))))))))
abbrev Y15 : Sh := (.agg 33 (.cons (.hole (.int .i64)) (.cons (.own .own 3 (.int .i64)) (.cons (.hole (.int .u64)) (.cons (.hole (.int .u64)) (.cons (.own .own 82 T_api_Topic) (.cons (.own .own 84 T_api_Site) (.cons (.hole .bool) (.cons (.hole (.int .i64)) (.cons (.hole .str) (.cons (.hole .str) (.cons (.own .own 5 (.int .u8)) (.cons (.hole (.int .u64)) (.cons (.hole (.int .i64)) (.cons (.hole .str) (.cons (.hole (.int .i64)) (.cons (.hole (.int .u64)) (.cons (.hole (.int .u64)) (.cons (.hole .str) (.cons (.own .own 3 (.int .i64)) (.cons (.hole (.int .u64)) (.cons (.hole (.int .u64)) (.cons (.hole .str) (.cons (.hole (.int .i64)) (.cons (.hole (.int .i64)) (.cons (.hole (.int .u64)) (.cons (.hole (.int .i64)) (.cons (.hole (.int .u64)) (.cons (.hole .bool) (.cons (.hole (.int .u64)) (.cons (.hole (.int .i64)) (.cons (.hole (.int .i64)) (.cons (.hole .bool) (.cons (.hole (.int .i64)) .nil))))))))))))))))))))))))))))))))))
abbrev Y16 : Sh := (.agg 5 (.cons (.hole (.int .u64)) (.cons (.hole .str) (.cons (.hole (.sl (.int .u8))) (.cons (.hole (.int .u64)) (.cons (.hole (.int .u64)) .nil))))))
abbrev Y17 : Sh := (.agg 12 (.cons (.hole (.int .u64)) (.cons (.hole (.int .i64)) (.cons (.hole (.int .i64)) (.cons (.hole (.int .i64)) (.cons (.hole (.int .u64)) (.cons (.hole .bool) (.cons (.hole (.sl T_api_Record)) (.cons (.hole (.int .u64)) (.cons (.hole (.sl T_api_Shard)) (.cons (.hole (.int .u64)) (.cons (.hole (.int .u64)) (.cons (.hole (.int .u64)) .nil)))))))))))))
abbrev Y18 : Sh := (.agg 12 (.cons (.hole (.int .u64)) (.cons (.hole (.int .i64)) (.cons (.hole (.int .i64)) (.cons (.hole (.int .i64)) (.cons (.hole (.int .u64)) (.cons (.hole .bool) (.cons (.own .own 134 T_api_Record) (.cons (.hole (.int .u64)) (.cons (.own .own 67 T_api_Shard) (.cons (.hole (.int .u64)) (.cons (.hole (.int .u64)) (.cons (.hole (.int .u64)) .nil)))))))))))))
abbrev Z19 : Type := (Int) × ((List (Int)) × ((Int) × ((Int) × ((List (D_api_Topic)) × ((List (D_api_Site)) × ((Bool) × ((Int) × ((ByteArray) × ((ByteArray) × ((Unit) × ((Int) × ((Int) × ((ByteArray) × ((Int) × ((Int) × ((Int) × ((ByteArray) × ((Unit) × ((Int) × ((Int) × ((ByteArray) × ((Int) × ((Int) × ((Int) × ((Int) × ((Int) × ((Bool) × ((Int) × ((Int) × ((Int) × ((Bool) × ((Int) × ((Bool) × ((Int) × ((Int) × ((Int) × ((Int) × ((Int) × ((Int) × ((Int) × ((Int) × ((ByteArray) × ((Unit) × ((Int) × ((Int) × ((ByteArray) × ((Int) × ((Int) × ((Int) × ((Int) × ((ByteArray) × ((Unit) × ((Int) × ((Int) × ((ByteArray) × ((Int) × ((Int) × ((Int) × ((Int) × ((ByteArray) × ((Bool) × ((Int) × ((Int) × ((Int) × ((Int) × ((Int) × ((Bool) × ((List (D_api_Record)) × ((Int) × ((List (D_api_Shard)) × ((Int) × ((Int) × ((Int) × (Unit))))))))))))))))))))))))))))))))))))))))))))))))))))))))))))))))))))))))))
abbrev Y20 : Sh := (.box 87 74 (.cons (.hole (.int .i64)) (.cons (.own .own 3 (.int .i64)) (.cons (.hole (.int .u64)) (.cons (.hole (.int .u64)) (.cons (.own .own 82 T_api_Topic) (.cons (.own .own 84 T_api_Site) (.cons (.hole .bool) (.cons (.hole (.int .i64)) (.cons (.hole .str) (.cons (.hole .str) (.cons (.own .own 5 (.int .u8)) (.cons (.hole (.int .u64)) (.cons (.hole (.int .i64)) (.cons (.hole .str) (.cons (.hole (.int .i64)) (.cons (.hole (.int .u64)) (.cons (.hole (.int .u64)) (.cons (.hole .str) (.cons (.own .own 3 (.int .i64)) (.cons (.hole (.int .u64)) (.cons (.hole (.int .u64)) (.cons (.hole .str) (.cons (.hole (.int .i64)) (.cons (.hole (.int .i64)) (.cons (.hole (.int .u64)) (.cons (.hole (.int .i64)) (.cons (.hole (.int .u64)) (.cons (.hole .bool) (.cons (.hole (.int .u64)) (.cons (.hole (.int .i64)) (.cons (.hole (.int .i64)) (.cons (.hole .bool) (.cons (.hole (.int .i64)) (.cons (.hole .bool) (.cons (.hole (.int .i64)) (.cons (.hole (.int .u64)) (.cons (.hole (.int .i64)) (.cons (.hole (.int .u64)) (.cons (.hole (.int .i64)) (.cons (.hole (.int .u64)) (.cons (.hole (.int .u64)) (.cons (.hole (.int .u64)) (.cons (.hole .str) (.cons .nils (.cons (.hole (.int .u64)) (.cons (.hole (.int .i64)) (.cons (.hole .str) (.cons (.hole (.int .u64)) (.cons (.hole (.int .i64)) (.cons (.hole (.int .u64)) (.cons (.hole (.int .u64)) (.cons (.hole .str) (.cons .nils (.cons (.hole (.int .u64)) (.cons (.hole (.int .u64)) (.cons (.hole .str) (.cons (.hole (.int .i64)) (.cons (.hole (.int .i64)) (.cons (.hole (.int .u64)) (.cons (.hole (.int .i64)) (.cons (.hole .str) (.cons (.hole .bool) (.cons (.hole (.int .u64)) (.cons (.hole (.int .i64)) (.cons (.hole (.int .i64)) (.cons (.hole (.int .i64)) (.cons (.hole (.int .u64)) (.cons (.hole .bool) (.cons .nils (.cons (.hole (.int .u64)) (.cons .nils (.cons (.hole (.int .u64)) (.cons (.hole (.int .u64)) (.cons (.hole (.int .u64)) .nil)))))))))))))))))))))))))))))))))))))))))))))))))))))))))))))))))))))))))))
abbrev Y21 : Sh := (.agg 74 (.cons (.hole (.int .i64)) (.cons (.own .own 3 (.int .i64)) (.cons (.hole (.int .u64)) (.cons (.hole (.int .u64)) (.cons (.own .own 82 T_api_Topic) (.cons (.own .own 84 T_api_Site) (.cons (.hole .bool) (.cons (.hole (.int .i64)) (.cons (.hole .str) (.cons (.hole .str) (.cons .nils (.cons (.hole (.int .u64)) (.cons (.hole (.int .i64)) (.cons (.hole .str) (.cons (.hole (.int .i64)) (.cons (.hole (.int .u64)) (.cons (.hole (.int .u64)) (.cons (.hole .str) (.cons .nils (.cons (.hole (.int .u64)) (.cons (.hole (.int .u64)) (.cons (.hole .str) (.cons (.hole (.int .i64)) (.cons (.hole (.int .i64)) (.cons (.hole (.int .u64)) (.cons (.hole (.int .i64)) (.cons (.hole (.int .u64)) (.cons (.hole .bool) (.cons (.hole (.int .u64)) (.cons (.hole (.int .i64)) (.cons (.hole (.int .i64)) (.cons (.hole .bool) (.cons (.hole (.int .i64)) (.cons (.hole .bool) (.cons (.hole (.int .i64)) (.cons (.hole (.int .u64)) (.cons (.hole (.int .i64)) (.cons (.hole (.int .u64)) (.cons (.hole (.int .i64)) (.cons (.hole (.int .u64)) (.cons (.hole (.int .u64)) (.cons (.hole (.int .u64)) (.cons (.hole .str) (.cons .nils (.cons (.hole (.int .u64)) (.cons (.hole (.int .i64)) (.cons (.hole .str) (.cons (.hole (.int .u64)) (.cons (.hole (.int .i64)) (.cons (.hole (.int .u64)) (.cons (.hole (.int .u64)) (.cons (.hole .str) (.cons .nils (.cons (.hole (.int .u64)) (.cons (.hole (.int .u64)) (.cons (.hole .str) (.cons (.hole (.int .i64)) (.cons (.hole (.int .i64)) (.cons (.hole (.int .u64)) (.cons (.hole (.int .i64)) (.cons (.hole .str) (.cons (.hole .bool) (.cons (.hole (.int .u64)) (.cons (.hole (.int .i64)) (.cons (.hole (.int .i64)) (.cons (.hole (.int .i64)) (.cons (.hole (.int .u64)) (.cons (.hole .bool) (.cons (.own .own 134 T_api_Record) (.cons (.hole (.int .u64)) (.cons (.own .own 67 T_api_Shard) (.cons (.hole (.int .u64)) (.cons (.hole (.int .u64)) (.cons (.hole (.int .u64)) .nil)))))))))))))))))))))))))))))))))))))))))))))))))))))))))))))))))))))))))))
abbrev Z22 : Type := (Int) × ((List (Int)) × ((Int) × ((Int) × ((List (D_api_Topic)) × ((List (D_api_Site)) × ((Bool) × ((Int) × ((ByteArray) × ((ByteArray) × ((List (Int)) × ((Int) × ((Int) × ((ByteArray) × ((Int) × ((Int) × ((Int) × ((ByteArray) × ((List (Int)) × ((Int) × ((Int) × ((ByteArray) × ((Int) × ((Int) × ((Int) × ((Int) × ((Int) × ((Bool) × ((Int) × ((Int) × ((Int) × ((Bool) × ((Int) × ((Bool) × ((Int) × ((Int) × ((Int) × ((Int) × ((Int) × ((Int) × ((Int) × ((Int) × ((ByteArray) × ((List (Int)) × ((Int) × ((Int) × ((ByteArray) × ((Int) × ((Int) × ((Int) × ((Int) × ((ByteArray) × ((List (Int)) × ((Int) × ((Int) × ((ByteArray) × ((Int) × ((Int) × ((Int) × ((Int) × ((ByteArray) × ((Bool) × ((Int) × ((Int) × ((Int) × ((Int) × ((Int) × ((Bool) × ((List (D_api_Record)) × ((Int) × ((List (D_api_Shard)) × ((Int) × ((Int) × ((Int) × (Unit))))))))))))))))))))))))))))))))))))))))))))))))))))))))))))))))))))))))))
abbrev Y23 : Sh := (.agg 74 (.cons (.hole (.int .i64)) (.cons (.own .own 3 (.int .i64)) (.cons (.hole (.int .u64)) (.cons (.hole (.int .u64)) (.cons (.own .own 82 T_api_Topic) (.cons (.own .own 84 T_api_Site) (.cons (.hole .bool) (.cons (.hole (.int .i64)) (.cons (.hole .str) (.cons (.hole .str) (.cons (.own .own 5 (.int .u8)) (.cons (.hole (.int .u64)) (.cons (.hole (.int .i64)) (.cons (.hole .str) (.cons (.hole (.int .i64)) (.cons (.hole (.int .u64)) (.cons (.hole (.int .u64)) (.cons (.hole .str) (.cons (.own .own 3 (.int .i64)) (.cons (.hole (.int .u64)) (.cons (.hole (.int .u64)) (.cons (.hole .str) (.cons (.hole (.int .i64)) (.cons (.hole (.int .i64)) (.cons (.hole (.int .u64)) (.cons (.hole (.int .i64)) (.cons (.hole (.int .u64)) (.cons (.hole .bool) (.cons (.hole (.int .u64)) (.cons (.hole (.int .i64)) (.cons (.hole (.int .i64)) (.cons (.hole .bool) (.cons (.hole (.int .i64)) (.cons (.hole .bool) (.cons (.hole (.int .i64)) (.cons (.hole (.int .u64)) (.cons (.hole (.int .i64)) (.cons (.hole (.int .u64)) (.cons (.hole (.int .i64)) (.cons (.hole (.int .u64)) (.cons (.hole (.int .u64)) (.cons (.hole (.int .u64)) (.cons (.hole .str) (.cons .nils (.cons (.hole (.int .u64)) (.cons (.hole (.int .i64)) (.cons (.hole .str) (.cons (.hole (.int .u64)) (.cons (.hole (.int .i64)) (.cons (.hole (.int .u64)) (.cons (.hole (.int .u64)) (.cons (.hole .str) (.cons .nils (.cons (.hole (.int .u64)) (.cons (.hole (.int .u64)) (.cons (.hole .str) (.cons (.hole (.int .i64)) (.cons (.hole (.int .i64)) (.cons (.hole (.int .u64)) (.cons (.hole (.int .i64)) (.cons (.hole .str) (.cons (.hole .bool) (.cons (.hole (.int .u64)) (.cons (.hole (.int .i64)) (.cons (.hole (.int .i64)) (.cons (.hole (.int .i64)) (.cons (.hole (.int .u64)) (.cons (.hole .bool) (.cons .nils (.cons (.hole (.int .u64)) (.cons .nils (.cons (.hole (.int .u64)) (.cons (.hole (.int .u64)) (.cons (.hole (.int .u64)) .nil)))))))))))))))))))))))))))))))))))))))))))))))))))))))))))))))))))))))))))
abbrev Y24 : Sh := (.agg 10 (.cons (.hole (.int .i64)) (.cons (.hole (.int .u64)) (.cons (.hole (.int .u64)) (.cons (.hole (.int .u64)) (.cons (.hole .str) (.cons (.own .own 5 (.int .u8)) (.cons (.hole (.int .u64)) (.cons (.hole (.int .i64)) (.cons (.hole .str) (.cons (.hole (.int .u64)) .nil)))))))))))
abbrev Z25 : Type := (Int) × ((Int) × ((Int) × ((Int) × ((Int) × ((Int) × ((Int) × ((ByteArray) × ((List (Int)) × ((Int) × ((Int) × ((ByteArray) × ((Int) × ((Int) × ((Int) × ((Int) × ((ByteArray) × ((List (Int)) × ((Int) × ((Int) × ((ByteArray) × ((Int) × ((Int) × ((Int) × ((Int) × ((ByteArray) × (Unit))))))))))))))))))))))))))
abbrev Y26 : Sh := (.agg 26 (.cons (.hole (.int .u64)) (.cons (.hole (.int .i64)) (.cons (.hole (.int .u64)) (.cons (.hole (.int .i64)) (.cons (.hole (.int .u64)) (.cons (.hole (.int .u64)) (.cons (.hole (.int .u64)) (.cons (.hole .str) (.cons (.own .own 5 (.int .u8)) (.cons (.hole (.int .u64)) (.cons (.hole (.int .i64)) (.cons (.hole .str) (.cons (.hole (.int .u64)) (.cons (.hole (.int .i64)) (.cons (.hole (.int .u64)) (.cons (.hole (.int .u64)) (.cons (.hole .str) (.cons (.own .own 3 (.int .i64)) (.cons (.hole (.int .u64)) (.cons (.hole (.int .u64)) (.cons (.hole .str) (.cons (.hole (.int .i64)) (.cons (.hole (.int .i64)) (.cons (.hole (.int .u64)) (.cons (.hole (.int .i64)) (.cons (.hole .str) .nil)))))))))))))))))))))))))))
abbrev Y27 : Sh := (.agg 74 (.cons (.hole (.int .i64)) (.cons (.own .own 3 (.int .i64)) (.cons (.hole (.int .u64)) (.cons (.hole (.int .u64)) (.cons (.own .own 82 T_api_Topic) (.cons (.own .own 84 T_api_Site) (.cons (.hole .bool) (.cons (.hole (.int .i64)) (.cons (.hole .str) (.cons (.hole .str) (.cons (.own .own 5 (.int .u8)) (.cons (.hole (.int .u64)) (.cons (.hole (.int .i64)) (.cons (.hole .str) (.cons (.hole (.int .i64)) (.cons (.hole (.int .u64)) (.cons (.hole (.int .u64)) (.cons (.hole .str) (.cons (.own .own 3 (.int .i64)) (.cons (.hole (.int .u64)) (.cons (.hole (.int .u64)) (.cons (.hole .str) (.cons (.hole (.int .i64)) (.cons (.hole (.int .i64)) (.cons (.hole (.int .u64)) (.cons (.hole (.int .i64)) (.cons (.hole (.int .u64)) (.cons (.hole .bool) (.cons (.hole (.int .u64)) (.cons (.hole (.int .i64)) (.cons (.hole (.int .i64)) (.cons (.hole .bool) (.cons (.hole (.int .i64)) (.cons (.hole .bool) (.cons (.hole (.int .i64)) (.cons (.hole (.int .u64)) (.cons (.hole (.int .i64)) (.cons (.hole (.int .u64)) (.cons (.hole (.int .i64)) (.cons (.hole (.int .u64)) (.cons (.hole (.int .u64)) (.cons (.hole (.int .u64)) (.cons (.hole .str) (.cons (.own .own 5 (.int .u8)) (.cons (.hole (.int .u64)) (.cons (.hole (.int .i64)) (.cons (.hole .str) (.cons (.hole (.int .u64)) (.cons (.hole (.int .i64)) (.cons (.hole (.int .u64)) (.cons (.hole (.int .u64)) (.cons (.hole .str) (.cons (.own .own 3 (.int .i64)) (.cons (.hole (.int .u64)) (.cons (.hole (.int .u64)) (.cons (.hole .str) (.cons (.hole (.int .i64)) (.cons (.hole (.int .i64)) (.cons (.hole (.int .u64)) (.cons (.hole (.int .i64)) (.cons (.hole .str) (.cons (.hole .bool) (.cons (.hole (.int .u64)) (.cons (.hole (.int .i64)) (.cons (.hole (.int .i64)) (.cons (.hole (.int .i64)) (.cons (.hole (.int .u64)) (.cons (.hole .bool) (.cons (.own .own 134 T_api_Record) (.cons (.hole (.int .u64)) (.cons (.own .own 67 T_api_Shard) (.cons (.hole (.int .u64)) (.cons (.hole (.int .u64)) (.cons (.hole (.int .u64)) .nil)))))))))))))))))))))))))))))))))))))))))))))))))))))))))))))))))))))))))))
abbrev Z28 : Type := (Int) × ((Int) × ((ByteArray) × ((ByteArray) × ((List (Int)) × ((Int) × ((Int) × ((ByteArray) × ((Int) × ((Int) × ((Int) × ((ByteArray) × ((List (Int)) × ((Int) × ((Int) × ((ByteArray) × ((Int) × ((Int) × ((Int) × ((Int) × ((Int) × ((Int) × ((Int) × ((Int) × ((Int) × ((Bool) × ((List (D_api_Record)) × ((Int) × ((List (D_api_Shard)) × ((Int) × ((Int) × ((Int) × (Unit))))))))))))))))))))))))))))))))
abbrev Y29 : Sh := (.agg 32 (.cons (.hole (.int .i64)) (.cons (.hole (.int .i64)) (.cons (.hole .str) (.cons (.hole .str) (.cons (.hole (.sl (.int .u8))) (.cons (.hole (.int .u64)) (.cons (.hole (.int .i64)) (.cons (.hole .str) (.cons (.hole (.int .i64)) (.cons (.hole (.int .u64)) (.cons (.hole (.int .u64)) (.cons (.hole .str) (.cons (.hole (.sl (.int .i64))) (.cons (.hole (.int .u64)) (.cons (.hole (.int .u64)) (.cons (.hole .str) (.cons (.hole (.int .i64)) (.cons (.hole (.int .i64)) (.cons (.hole (.int .u64)) (.cons (.hole (.int .i64)) (.cons (.hole (.int .u64)) (.cons (.hole (.int .i64)) (.cons (.hole (.int .i64)) (.cons (.hole (.int .i64)) (.cons (.hole (.int .u64)) (.cons (.hole .bool) (.cons (.hole (.sl T_api_Record)) (.cons (.hole (.int .u64)) (.cons (.hole (.sl T_api_Shard)) (.cons (.hole (.int .u64)) (.cons (.hole (.int .u64)) (.cons (.hole (.int .u64)) .nil)))))))))))))))))))))))))))))))))
abbrev Y30 : Sh := (.agg 41 (.cons (.hole .bool) (.cons (.hole (.int .i64)) (.cons (.hole (.int .u64)) (.cons (.hole (.int .i64)) (.cons (.hole (.int .u64)) (.cons (.hole (.int .i64)) (.cons (.hole (.int .u64)) (.cons (.hole (.int .u64)) (.cons (.hole (.int .u64)) (.cons (.hole .str) (.cons (.own .own 5 (.int .u8)) (.cons (.hole (.int .u64)) (.cons (.hole (.int .i64)) (.cons (.hole .str) (.cons (.hole (.int .u64)) (.cons (.hole (.int .i64)) (.cons (.hole (.int .u64)) (.cons (.hole (.int .u64)) (.cons (.hole .str) (.cons (.own .own 3 (.int .i64)) (.cons (.hole (.int .u64)) (.cons (.hole (.int .u64)) (.cons (.hole .str) (.cons (.hole (.int .i64)) (.cons (.hole (.int .i64)) (.cons (.hole (.int .u64)) (.cons (.hole (.int .i64)) (.cons (.hole .str) (.cons (.hole .bool) (.cons (.hole (.int .u64)) (.cons (.hole (.int .i64)) (.cons (.hole (.int .i64)) (.cons (.hole (.int .i64)) (.cons (.hole (.int .u64)) (.cons (.hole .bool) (.cons (.own .own 134 T_api_Record) (.cons (.hole (.int .u64)) (.cons (.own .own 67 T_api_Shard) (.cons (.hole (.int .u64)) (.cons (.hole (.int .u64)) (.cons (.hole (.int .u64)) .nil))))))))))))))))))))))))))))))))))))))))))
abbrev Y31 : Sh := (.agg 4 (.cons (.hole (.int .i64)) (.cons (.hole (.int .u64)) (.cons (.hole .bool) (.cons (.hole (.sl T_api_Record)) .nil)))))
def rs21 : List RVx := [(.tmp 2)]
/-- gazette/client.isNode -/
def p21 (_ : Nat) : (Int) × (Unit) → Option ((Unit) × (Bool)) := fun ⟨a, _⟩ =>
bif decide (a ≥ (1 : Int)) then
 some ((), decide (a ≤ (7 : Int)))
else
 some ((), false)
def e21 (fu : Nat) : Ent := ⟨21, (.cons (.hole (.int .i64)) .nil), .nil, (.hole .bool), p21 fu⟩
def d21 (_ : Nat) : DC := (.seq (.region [opD 2 (.mov (.const vB))] [[]] false) (.seq (.region [mvD 3 0, opD 4 (.bin .geq (tD 3) (cD 1)), mvD 5 4, ogD 6 5 true (.mov (tD 0)), ogD 7 5 true (.bin .leq (tD 6) (cD 7)), opD 8 (.pick (tD 5) (tD 7) (.const vB)), mvD 2 8] [[], [0], [1], [2], [3, 2], [2, 4], [5, 2, 0, 1, 2, 3, 4, 5]] false) .ret))
set_option maxRecDepth 1000000 in
theorem v21 (fu : Nat) : evF fu (d21 fu) rs21 9 (e21 fu).ash (e21 fu).osh (e21 fu).vsh = p21 fu := by kernel_rfl
set_option maxRecDepth 1000000 in
theorem b21 (fu : Nat) : BodyD Try.prog 21 9 (d21 fu).erase rs21 := bodyD_mk Try.func21 (by kernel_rfl) (by kernel_rfl) (by kernel_rfl) (by kernel_rfl)
theorem g21 (fu : Nat) : (e21 fu).Good Try.prog := good_by orders (b21 fu) (l := []) (by kernel_rfl) trivial (by kernel_rfl) (v21 fu)
def rs37 : List RVx := [(.tmp 4)]
/-- slices.Index[[]int,int] -/
def p37 (fu : Nat) : (List (Int)) × ((Int) × (Unit)) → Option ((Unit) × (Int)) := fun ⟨a, c, _⟩ =>
loopO (S := ((Int) × (Unit)) × (Unit)) fu (fun ⟨⟨f, _⟩, _⟩ =>
 bif decide (f < (List.length a : Int)) then
 bif decide ((0 : Int) ≤ f ∧ f < (List.length a : Int)) then
 bif decide (Int.toNat f < List.length a) then
 bif (c == (List.getD a (Int.toNat f) (dflt (.int .i64)))) then
 inrO (some ((), f))
 else
 some (.inl ((IntKind.wrap .i64 (f + (1 : Int)), ()), ()))
 else none
 else none
 else
 inrO (some ((), ((-1) : Int))))
 (((0 : Int), ()), ())
def e37 (fu : Nat) : Ent := ⟨37, (.cons (.hole (.sl (.int .i64))) (.cons (.hole (.int .i64)) .nil)), .nil, (.hole (.int .i64)), p37 fu⟩
def d37 (_ : Nat) : DC := (.seq (.region [opD 4 (.mov (cD 0))] [[]] false) (.seq (.seq (.region [mvD 6 0, opD 7 (.len false (tD 6)), opD 8 (.mov (cD 0))] [[], [0], []] false) (.block 0 (.loop ⟨[8], (.cons (.hole (.int .i64)) .nil), [], .nil, [0, 1, 7], []⟩
 (.seq (.region [opD 9 (.bin .lss (tD 8) (tD 7))] [[]] false) (.seq (.cond (.tmp 9) .skip (.exit 0)) (.seq (.block 1 (.seq (.region [mvD 10 8, mvD 5 10] [[], [0, 0]] false) (.seq (.region [mvD 11 1, mvD 12 0, mvD 13 5, opD 14 (.iaddr 1 (tD 12) (tD 13)), opD 15 (.load false 1 (tD 14)), opD 16 (.bin .eql (tD 11) (tD 15))] [[], [], [], [1, 2], [3], [0, 4]] false) (.cond (.tmp 16) (.seq (.region [mvD 17 5, mvD 4 17] [[], [0, 0]] false) .ret) .skip)))) (.region [opD 18 (.bin .add (tD 8) (cD 1)), mvD 8 18] [[], [0]] false))))))) (.seq (.region [opD 4 (.mov (.const (.int .i64 (-1))))] [[]] false) .ret)))
set_option maxRecDepth 1000000 in
theorem v37 (fu : Nat) : evF fu (d37 fu) rs37 19 (e37 fu).ash (e37 fu).osh (e37 fu).vsh = p37 fu := by kernel_rfl
set_option maxRecDepth 1000000 in
theorem b37 (fu : Nat) : BodyD Try.prog 37 19 (d37 fu).erase rs37 := bodyD_mk Try.func37 (by kernel_rfl) (by kernel_rfl) (by kernel_rfl) (by kernel_rfl)
theorem g37 (fu : Nat) : (e37 fu).Good Try.prog := good_by orders (b37 fu) (l := []) (by kernel_rfl) trivial (by kernel_rfl) (v37 fu)
def rs22 : List RVx := [(.tmp 4)]
/-- slices.Contains[[]int,int] -/
def p22 (fu : Nat) : (List (Int)) × ((Int) × (Unit)) → Option ((Unit) × (Bool)) := fun ⟨a, c, _⟩ =>
Option.bind (p37 fu (a, c, ())) fun ⟨_, f⟩ =>
some ((), decide (f ≥ (0 : Int)))
def e22 (fu : Nat) : Ent := ⟨22, (.cons (.hole (.sl (.int .i64))) (.cons (.hole (.int .i64)) .nil)), .nil, (.hole .bool), p22 fu⟩
def d22 (fu : Nat) : DC := (.seq (.region [opD 4 (.mov (.const vB))] [[]] false) (.seq (.region [mvD 5 0, mvD 6 1, oqD 7 (.call 37 [(tD 5), (tD 6)]) (.ent (e37 fu)), opD 8 (.bin .geq (tD 7) (cD 0)), mvD 4 8] [[], [], [0, 1], [2], [3, 2, 0, 1, 2, 3]] false) .ret))
set_option maxRecDepth 1000000 in
theorem v22 (fu : Nat) : evF fu (d22 fu) rs22 9 (e22 fu).ash (e22 fu).osh (e22 fu).vsh = p22 fu := by kernel_rfl
set_option maxRecDepth 1000000 in
theorem b22 (fu : Nat) : BodyD Try.prog 22 9 (d22 fu).erase rs22 := bodyD_mk Try.func22 (by kernel_rfl) (by kernel_rfl) (by kernel_rfl) (by kernel_rfl)
theorem g22 (fu : Nat) : (e22 fu).Good Try.prog := good_by orders (b22 fu) (l := [e37 fu]) (by kernel_rfl) ⟨g37 fu, trivial⟩ (by kernel_rfl) (v22 fu)
def rs23 : List RVx := [(.tmp 2)]
/-- gazette/copies.List[int] -/
def p23 (_ : Nat) : (List (Int)) × (Unit) → Option ((Unit) × (List (Int))) := fun ⟨a, _⟩ =>
bif ((List.length a : Int) == (0 : Int)) then
 some ((), [])
else
 bif decide ((0 : Int) ≤ (List.length a : Int) ∧ ((List.length a : Int) : Int) ≤ (List.length a : Int) ∧ ((List.length a : Int) : Int) ≤ 9223372036854775807 ∧ (8 : Int) * (List.length a : Int) ≤ 140737488355328) then
 bif decide (Int.toNat (List.length a : Int) = List.length (List.replicate (Int.toNat (List.length a : Int)) (0 : Int) : List (Int))) then
 bif decide (Int.toNat (List.length a : Int) = List.length (copyL (List.replicate (Int.toNat (List.length a : Int)) (0 : Int) : List (Int)) 0 (Int.toNat (List.length a : Int)) a)) then
 some ((), (copyL (List.replicate (Int.toNat (List.length a : Int)) (0 : Int) : List (Int)) 0 (Int.toNat (List.length a : Int)) a))
 else none
 else none
 else none
def e23 (fu : Nat) : Ent := ⟨23, (.cons (.hole (.sl (.int .i64))) .nil), .nil, (.own .own 3 (.int .i64)), p23 fu⟩
def d23 (_ : Nat) : DC := (.seq (.region [opD 2 (.mov (.const vS))] [[]] false) (.seq (.seq (.region [mvD 4 0, opD 5 (.len false (tD 4)), opD 6 (.bin .eql (tD 5) (cD 0))] [[], [0], [1]] false) (.cond (.tmp 6) (.seq (.region [opD 2 (.mov (.const vS))] [[]] false) .ret) .skip)) (.seq (.region [mvD 7 0, opD 8 (.len false (tD 7)), oqD 9 (.make false 3 1 [vI] 8 (tD 8) (tD 8)) (.ty (.int .i64)), mvD 3 9] [[], [0], [1, 1], [2, 0, 1, 2]] false) (.seq (.region [mvD 10 3, mvD 11 0, opD 12 (.copy 1 (tD 10) (tD 11))] [[], [], [0, 1]] false) (.seq (.region [mvD 13 3, mvD 2 13] [[], [0, 0]] false) .ret)))))
set_option maxRecDepth 1000000 in
theorem v23 (fu : Nat) : evF fu (d23 fu) rs23 14 (e23 fu).ash (e23 fu).osh (e23 fu).vsh = p23 fu := by kernel_rfl
set_option maxRecDepth 1000000 in
theorem b23 (fu : Nat) : BodyD Try.prog 23 14 (d23 fu).erase rs23 := bodyD_mk Try.func23 (by kernel_rfl) (by kernel_rfl) (by kernel_rfl) (by kernel_rfl)
theorem g23 (fu : Nat) : (e23 fu).Good Try.prog := good_by orders (b23 fu) (l := []) (by kernel_rfl) trivial (by kernel_rfl) (v23 fu)
def rs10 : List RVx := [(.cell 6 true 33), (.tmp 7)]
/-- gazette/client.New -/
def p10 (fu : Nat) : (Int) × ((List (Int)) × ((Int) × (Unit))) → Option ((Unit) × ((Z1) × ((Int) × (Unit)))) := fun ⟨a, c, f, _⟩ =>
orK (E := ((Bool) × (Unit)) × (Unit))
 (Option.bind (p21 fu (a, ())) fun ⟨_, h⟩ =>
 bif h then
 bif (f != (0 : Int)) then
 bif decide ((List.length c : Int) > (0 : Int)) then
 Option.bind (p22 fu (c, a, ())) fun ⟨_, i⟩ =>
 some (.inl ((!i, ()), ()))
 else
 some (.inl ((false, ()), ()))
 else
 some (.inl ((false, ()), ()))
 else
 some (.inl ((false, ()), ())))
 fun ⟨⟨j, _⟩, _⟩ =>
loopO (S := ((Bool) × ((Int) × (Unit))) × (Unit)) fu (fun ⟨⟨j, k, _⟩, _⟩ =>
 bif decide (k < (List.length c : Int)) then
 bif decide ((0 : Int) ≤ k ∧ k < (List.length c : Int)) then
 bif decide (Int.toNat k < List.length c) then
 bif j then
 Option.bind (p21 fu ((List.getD c (Int.toNat k) (dflt (.int .i64))), ())) fun ⟨_, l⟩ =>
 bif l then
 bif decide ((0 : Int) ≤ k) then
 bif decide (0 ≤ Int.toNat k ∧ Int.toNat k ≤ List.length c) then
 Option.bind (p22 fu (List.take (Int.toNat k) c, (List.getD c (Int.toNat k) (dflt (.int .i64))), ())) fun ⟨_, m⟩ =>
 some (.inl ((!m, IntKind.wrap .i64 (k + (1 : Int)), ()), ()))
 else none
 else none
 else
 some (.inl ((false, IntKind.wrap .i64 (k + (1 : Int)), ()), ()))
 else
 some (.inl ((false, IntKind.wrap .i64 (k + (1 : Int)), ()), ()))
 else none
 else none
 else
 inrO (bif !j then
 some ((), (((0 : Int), [], (0 : Int), (0 : Int), [], [], false, (0 : Int), (⟨#[]⟩ : ByteArray), (⟨#[]⟩ : ByteArray), [], (0 : Int), (0 : Int), (⟨#[]⟩ : ByteArray), (0 : Int), (0 : Int), (0 : Int), (⟨#[]⟩ : ByteArray), [], (0 : Int), (0 : Int), (⟨#[]⟩ : ByteArray), (0 : Int), (0 : Int), (0 : Int), (0 : Int), (0 : Int), false, (0 : Int), (0 : Int), (0 : Int), false, (0 : Int), ()), (1 : Int), ()))
 else
 Option.bind (p23 fu (c, ())) fun ⟨_, n⟩ =>
 bif decide (List.length n = List.length n) then
 some ((), ((a, n, f, (0 : Int), [], [], false, (0 : Int), (⟨#[]⟩ : ByteArray), (⟨#[]⟩ : ByteArray), [], (0 : Int), (0 : Int), (⟨#[]⟩ : ByteArray), (0 : Int), (0 : Int), (0 : Int), (⟨#[]⟩ : ByteArray), [], (0 : Int), (0 : Int), (⟨#[]⟩ : ByteArray), (0 : Int), (0 : Int), (0 : Int), (0 : Int), (0 : Int), false, (0 : Int), (0 : Int), (0 : Int), false, (0 : Int), ()), (0 : Int), ()))
 else none))
 ((j, (0 : Int), ()), ())
def e10 (fu : Nat) : Ent := ⟨10, (.cons (.hole (.int .i64)) (.cons (.hole (.sl (.int .i64))) (.cons (.hole (.int .u64)) .nil))), .nil, (.tup 2 (.cons Y5 (.cons (.hole (.int .i64)) .nil))), p10 fu⟩
def d10 (fu : Nat) : DC := (.seq (.region [opD 6 (.alloc 35 33 [vI, vS, vU, vU, vS, vS, vB, vI, vT, vT, vS, vU, vI, vT, vI, vU, vU, vT, vS, vU, vU, vT, vI, vI, vU, vI, vU, vB, vU, vI, vI, vB, vI]), opD 7 (.mov (cD 0))] [[], []] false) (.join ⟨[8], (.cons (.hole .bool) .nil), [], .nil, [0, 1, 2, 6], [0]⟩
 (.region [mvD 11 0, oqD 12 (.call 21 [(tD 11)]) (.ent (e21 fu)), mvD 13 12, ogD 14 13 true (.mov (tD 2)), ogD 15 13 true (.bin .neq (tD 14) (.const vU)), opD 16 (.pick (tD 13) (tD 15) (.const vB)), mvD 17 16, ogD 18 17 true (.mov (tD 1)), ogD 19 17 true (.len false (tD 18)), ogD 20 17 true (.bin .gtr (tD 19) (cD 0)), opD 21 (.pick (tD 17) (tD 20) (.const vB)), mvD 22 21, ogD 23 22 true (.mov (tD 1)), ogD 24 22 true (.mov (tD 0)), (⟨(some 25), (some (22, true)), (.call 22 [(tD 23), (tD 24)])⟩, (.ent (e22 fu))), ogD 26 22 true (.not (tD 25)), opD 27 (.pick (tD 22) (tD 26) (.const vB)), mvD 8 27] [[], [0], [1, 1], [2], [3, 2], [2, 4], [5, 2], [6], [7, 6], [8, 6], [6, 9], [10, 6], [11], [11], [12, 13, 11, 11], [14, 11], [11, 15], [16, 14, 0, 1, 2, 3, 4, 5, 6, 7, 8, 9, 10, 11, 12, 13, 14, 15, 16]] false)
 (.seq (.seq (.region [mvD 28 1, opD 29 (.len false (tD 28)), opD 30 (.mov (cD 0))] [[], [0], []] false) (.block 0 (.loop ⟨[8, 30], (.cons (.hole .bool) (.cons (.hole (.int .i64)) .nil)), [], .nil, [0, 1, 2, 6, 28, 29], [0]⟩
 (.seq (.region [opD 31 (.bin .lss (tD 30) (tD 29))] [[]] false) (.seq (.cond (.tmp 31) .skip (.exit 0)) (.seq (.block 1 (.seq (.region [mvD 32 30, opD 33 (.iaddr 1 (tD 28) (tD 30)), opD 34 (.load false 1 (tD 33)), mvD 9 32, mvD 10 34] [[], [], [1], [0, 0, 1, 2], [2, 3, 0, 1, 2, 3]] false) (.region [mvD 35 8, mvD 36 35, ogD 37 36 true (.mov (tD 10)), (⟨(some 38), (some (36, true)), (.call 21 [(tD 37)])⟩, (.ent (e21 fu))), opD 39 (.pick (tD 36) (tD 38) (.const vB)), mvD 40 39, ogD 41 40 true (.mov (tD 1)), ogD 42 40 true (.mov (tD 9)), ogD 43 40 true (.slc 1 (tD 41) none (some (tD 42))), ogD 44 40 true (.mov (tD 10)), (⟨(some 45), (some (40, true)), (.call 22 [(tD 43), (tD 44)])⟩, (.ent (e22 fu))), ogD 46 40 true (.not (tD 45)), opD 47 (.pick (tD 40) (tD 46) (.const vB)), mvD 8 47] [[], [0], [1], [2, 1, 1], [1, 3], [4, 3], [5], [5], [6, 7, 5], [5], [8, 9, 5, 5], [10, 5], [5, 11], [12, 10, 0, 1, 2, 3, 4, 5, 6, 7, 8, 9, 10, 11, 12]] false))) (.region [opD 48 (.bin .add (tD 30) (cD 1)), mvD 30 48] [[], [0]] false))))))) (.seq (.seq (.region [mvD 49 8, opD 50 (.not (tD 49))] [[], [0]] false) (.cond (.tmp 50) (.seq (.region [opD 51 (.build 33 [vI, vS, vU, vU, vS, vS, vB, vI, vT, vT, vS, vU, vI, vT, vI, vU, vU, vT, vS, vU, vU, vT, vI, vI, vU, vI, vU, vB, vU, vI, vI, vB, vI] []), onD (.store 33 (tD 6) (tD 51)), opD 7 (.mov (cD 1))] [[], [0, 0], [1, 0, 1]] false) .ret) .skip)) (.seq (.region [mvD 52 0, mvD 53 1, oqD 54 (.call 23 [(tD 53)]) (.ent (e23 fu)), mvD 55 2, opD 56 (.build 33 [vI, vS, vU, vU, vS, vS, vB, vI, vT, vT, vS, vU, vI, vT, vI, vU, vU, vT, vS, vU, vU, vT, vI, vI, vU, vI, vU, vB, vU, vI, vI, vB, vI] [(0, (1, (tD 52))), (1, (1, (tD 54))), (2, (1, (tD 55)))]), onD (.store 33 (tD 6) (tD 56)), opD 7 (.mov (cD 0))] [[], [], [1], [], [0, 2, 3], [4, 2, 0, 1, 2, 3, 4], [5, 0, 1, 2, 3, 4, 5]] false) .ret)))))
set_option maxRecDepth 1000000 in
theorem v10 (fu : Nat) : evF fu (d10 fu) rs10 57 (e10 fu).ash (e10 fu).osh (e10 fu).vsh = p10 fu := by kernel_rfl
set_option maxRecDepth 1000000 in
theorem b10 (fu : Nat) : BodyD Try.prog 10 57 (d10 fu).erase rs10 := bodyD_mk Try.func10 (by kernel_rfl) (by kernel_rfl) (by kernel_rfl) (by kernel_rfl)
theorem g10 (fu : Nat) : (e10 fu).Good Try.prog := good_by orders (b10 fu) (l := [e21 fu, e22 fu, e21 fu, e22 fu, e23 fu]) (by kernel_rfl) ⟨g21 fu, g22 fu, g21 fu, g22 fu, g23 fu, trivial⟩ (by kernel_rfl) (v10 fu)
def rs79 : List RVx := [(.cell 2 true 7)]
/-- gazette/copies.Shard -/
def p79 (fu : Nat) : (Z6) × (Unit) → Option ((Unit) × ((Int) × ((ByteArray) × ((ByteArray) × ((Int) × ((List (Int)) × ((List (Int)) × ((Int) × (Unit))))))))) := fun ⟨⟨a, c, f, h, i, j, k, _⟩, _⟩ =>
Option.bind (p23 fu (i, ())) fun ⟨_, l⟩ =>
Option.bind (p23 fu (j, ())) fun ⟨_, m⟩ =>
bif decide (List.length l = List.length l) then
 bif decide (List.length m = List.length m) then
 some ((), (a, c, f, h, l, m, k, ()))
 else none
else none
def e79 (fu : Nat) : Ent := ⟨79, (.cons Y7 .nil), .nil, Y8, p79 fu⟩
def d79 (fu : Nat) : DC := (.seq (.region [opD 1 (.box 67 7 (tD 0)), opD 2 (.alloc 67 7 [vU, vT, vT, vU, vS, vS, vU])] [[], []] false) (.seq (.region [opD 3 (.faddr 4 (tD 1)), opD 4 (.load false 1 (tD 3)), oqD 5 (.call 23 [(tD 4)]) (.ent (e23 fu)), opD 6 (.faddr 4 (tD 1)), onD (.store 1 (tD 6) (tD 5))] [[], [0], [1], [0, 1, 2], [3, 2, 2, 0, 1, 2]] false) (.seq (.region [opD 7 (.faddr 5 (tD 1)), opD 8 (.load false 1 (tD 7)), oqD 9 (.call 23 [(tD 8)]) (.ent (e23 fu)), opD 10 (.faddr 5 (tD 1)), onD (.store 1 (tD 10) (tD 9))] [[], [0], [1], [0, 1, 2], [3, 2, 2, 0, 1, 2]] false) (.seq (.region [opD 11 (.load true 7 (tD 1)), onD (.store 7 (tD 2) (tD 11))] [[], [0, 0]] false) .ret))))
set_option maxRecDepth 1000000 in
theorem v79 (fu : Nat) : evF fu (d79 fu) rs79 12 (e79 fu).ash (e79 fu).osh (e79 fu).vsh = p79 fu := by kernel_rfl
set_option maxRecDepth 1000000 in
theorem b79 (fu : Nat) : BodyD Try.prog 79 12 (d79 fu).erase rs79 := bodyD_mk Try.func79 (by kernel_rfl) (by kernel_rfl) (by kernel_rfl) (by kernel_rfl)
theorem g79 (fu : Nat) : (e79 fu).Good Try.prog := good_by orders (b79 fu) (l := [e23 fu, e23 fu]) (by kernel_rfl) ⟨g23 fu, g23 fu, trivial⟩ (by kernel_rfl) (v79 fu)
def rs78 : List RVx := [(.tmp 4)]
/-- gazette/copies.Each[gazette/api.Shard] -/
def p78 (fu : Nat) : (List (D_api_Shard)) × (((Unit) × (Unit)) × (Unit)) → Option ((Unit) × (List (D_api_Shard))) := fun ⟨a, ⟨_, _⟩, _⟩ =>
bif ((List.length a : Int) == (0 : Int)) then
 some ((), [])
else
 bif decide ((0 : Int) ≤ (List.length a : Int) ∧ ((List.length a : Int) : Int) ≤ (List.length a : Int) ∧ ((List.length a : Int) : Int) ≤ 9223372036854775807 ∧ (104 : Int) * (List.length a : Int) ≤ 140737488355328) then
 bif decide (Int.toNat (List.length a : Int) = List.length (List.replicate (Int.toNat (List.length a : Int)) ((0 : Int), ((⟨#[]⟩ : ByteArray), (⟨#[]⟩ : ByteArray)), (0 : Int), [], [], (0 : Int)) : List (D_api_Shard))) then
 loopO (S := ((List (D_api_Shard)) × ((Int) × (Unit))) × (Unit)) fu (fun ⟨⟨c, f, _⟩, _⟩ =>
 bif decide (f < (List.length a : Int)) then
 bif decide ((0 : Int) ≤ f ∧ f < (List.length a : Int)) then
 bif decide (Int.toNat f < List.length a) then
 Option.bind (p79 fu (((List.getD a (Int.toNat f) (dflt T_api_Shard)).1, (((List.getD a (Int.toNat f) (dflt T_api_Shard)).2).1).1, (((List.getD a (Int.toNat f) (dflt T_api_Shard)).2).1).2, (((List.getD a (Int.toNat f) (dflt T_api_Shard)).2).2).1, ((((List.getD a (Int.toNat f) (dflt T_api_Shard)).2).2).2).1, (((((List.getD a (Int.toNat f) (dflt T_api_Shard)).2).2).2).2).1, (((((List.getD a (Int.toNat f) (dflt T_api_Shard)).2).2).2).2).2, ()), ())) fun ⟨_, ⟨h, i, j, k, l, m, n, _⟩⟩ =>
 bif decide ((0 : Int) ≤ f ∧ f < (List.length c : Int)) then
 bif decide (Int.toNat f < List.length c) then
 bif decide (List.length l = List.length l) then
 bif decide (List.length m = List.length m) then
 bif decide (List.length c = List.length (List.set c (Int.toNat f) (h, (i, j), k, l, m, n))) then
 some (.inl (((List.set c (Int.toNat f) (h, (i, j), k, l, m, n)), IntKind.wrap .i64 (f + (1 : Int)), ()), ()))
 else none
 else none
 else none
 else none
 else none
 else none
 else none
 else
 inrO (bif decide (List.length c = List.length c) then
 some ((), c)
 else none))
 (((List.replicate (Int.toNat (List.length a : Int)) ((0 : Int), ((⟨#[]⟩ : ByteArray), (⟨#[]⟩ : ByteArray)), (0 : Int), [], [], (0 : Int)) : List (D_api_Shard)), (0 : Int), ()), ())
 else none
 else none
def e78 (fu : Nat) : Ent := ⟨78, (.cons (.hole (.sl T_api_Shard)) (.cons (.clo 79 0 .nil 0 .nil) .nil)), .nil, (.own .own 67 T_api_Shard), p78 fu⟩
def d78 (fu : Nat) : DC := (.seq (.region [opD 4 (.mov (.const vS))] [[]] false) (.seq (.seq (.region [mvD 8 0, opD 9 (.len false (tD 8)), opD 10 (.bin .eql (tD 9) (cD 0))] [[], [0], [1]] false) (.cond (.tmp 10) (.seq (.region [opD 4 (.mov (.const vS))] [[]] false) .ret) .skip)) (.seq (.region [mvD 11 0, opD 12 (.len false (tD 11)), oqD 13 (.make false 67 7 [vU, vT, vT, vU, vS, vS, vU] 104 (tD 12) (tD 12)) (.ty T_api_Shard), mvD 5 13] [[], [0], [1, 1], [2, 0, 1, 2]] false) (.seq (.seq (.region [mvD 14 0, opD 15 (.len false (tD 14)), opD 16 (.mov (cD 0))] [[], [0], []] false) (.block 0 (.loop ⟨[5, 16], (.cons (.own .own 67 T_api_Shard) (.cons (.hole (.int .i64)) .nil)), [], .nil, [1, 14, 15], []⟩
 (.seq (.region [opD 17 (.bin .lss (tD 16) (tD 15))] [[]] false) (.seq (.cond (.tmp 17) .skip (.exit 0)) (.seq (.block 1 (.seq (.region [mvD 18 16, opD 19 (.iaddr 7 (tD 14) (tD 16)), opD 20 (.load true 7 (tD 19)), opD 7 (.alloc 67 7 [vU, vT, vT, vU, vS, vS, vU]), mvD 6 18, onD (.store 7 (tD 7) (tD 20))] [[], [], [1], [], [0, 0, 1, 2, 3], [3, 2, 4, 0, 1, 2, 3, 4]] false) (.region [mvD 21 5, mvD 22 6, mvD 23 1, opD 24 (.load true 7 (tD 7)), oqD 25 (.callv (tD 23) [(tD 24)]) (.ent (e79 fu)), opD 26 (.iaddr 7 (tD 21) (tD 22)), onD (.store 7 (tD 26) (tD 25))] [[], [], [], [], [2, 3], [0, 1, 0, 1, 2, 3, 4], [5, 4, 4, 0, 1, 2, 3, 4]] false))) (.region [opD 27 (.bin .add (tD 16) (cD 1)), mvD 16 27] [[], [0]] false))))))) (.seq (.region [mvD 28 5, mvD 4 28] [[], [0, 0]] false) .ret)))))
set_option maxRecDepth 1000000 in
theorem v78 (fu : Nat) : evF fu (d78 fu) rs78 29 (e78 fu).ash (e78 fu).osh (e78 fu).vsh = p78 fu := by kernel_rfl
set_option maxRecDepth 1000000 in
theorem b78 (fu : Nat) : BodyD Try.prog 78 29 (d78 fu).erase rs78 := bodyD_mk Try.func78 (by kernel_rfl) (by kernel_rfl) (by kernel_rfl) (by kernel_rfl)
theorem g78 (fu : Nat) : (e78 fu).Good Try.prog := good_by orders (b78 fu) (l := [e79 fu]) (by kernel_rfl) ⟨g79 fu, trivial⟩ (by kernel_rfl) (v78 fu)
def rs61 : List RVx := [(.tmp 2)]
/-- gazette/copies.Shards -/
def p61 (fu : Nat) : (List (D_api_Shard)) × (Unit) → Option ((Unit) × (List (D_api_Shard))) := fun ⟨a, _⟩ =>
Option.bind (p78 fu (a, ((), ()), ())) fun ⟨_, c⟩ =>
bif decide (List.length c = List.length c) then
 some ((), c)
else none
def e61 (fu : Nat) : Ent := ⟨61, (.cons (.hole (.sl T_api_Shard)) .nil), .nil, (.own .own 67 T_api_Shard), p61 fu⟩
def d61 (fu : Nat) : DC := (.seq (.region [opD 2 (.mov (.const vS))] [[]] false) (.seq (.region [mvD 3 0, oqD 4 (.call 78 [(tD 3), (.func 79)]) (.ent (e78 fu)), mvD 2 4] [[], [0], [1, 1, 0, 1]] false) .ret))
set_option maxRecDepth 1000000 in
theorem v61 (fu : Nat) : evF fu (d61 fu) rs61 5 (e61 fu).ash (e61 fu).osh (e61 fu).vsh = p61 fu := by kernel_rfl
set_option maxRecDepth 1000000 in
theorem b61 (fu : Nat) : BodyD Try.prog 61 5 (d61 fu).erase rs61 := bodyD_mk Try.func61 (by kernel_rfl) (by kernel_rfl) (by kernel_rfl) (by kernel_rfl)
theorem g61 (fu : Nat) : (e61 fu).Good Try.prog := good_by orders (b61 fu) (l := [e78 fu]) (by kernel_rfl) ⟨g78 fu, trivial⟩ (by kernel_rfl) (v61 fu)
def rs60 : List RVx := [(.cell 2 true 2)]
/-- gazette/copies.Topics$1 -/
def p60 (fu : Nat) : ((ByteArray) × ((List (D_api_Shard)) × (Unit))) × (Unit) → Option ((Unit) × ((ByteArray) × ((List (D_api_Shard)) × (Unit)))) := fun ⟨⟨a, c, _⟩, _⟩ =>
Option.bind (p61 fu (c, ())) fun ⟨_, f⟩ =>
bif decide (List.length f = List.length f) then
 some ((), (a, f, ()))
else none
def e60 (fu : Nat) : Ent := ⟨60, (.cons (.agg 2 (.cons (.hole .str) (.cons (.hole (.sl T_api_Shard)) .nil))) .nil), .nil, (.agg 2 (.cons (.hole .str) (.cons (.own .own 67 T_api_Shard) .nil))), p60 fu⟩
def d60 (fu : Nat) : DC := (.seq (.region [opD 1 (.box 82 2 (tD 0)), opD 2 (.alloc 82 2 [vT, vS])] [[], []] false) (.seq (.region [opD 3 (.faddr 0 (tD 1)), opD 4 (.load false 1 (tD 3)), opD 5 (.faddr 1 (tD 1)), opD 6 (.load false 1 (tD 5)), oqD 7 (.call 61 [(tD 6)]) (.ent (e61 fu)), opD 8 (.build 2 [vT, vS] [(0, (1, (tD 4))), (1, (1, (tD 7)))]), onD (.store 2 (tD 2) (tD 8))] [[], [0], [], [2], [3], [1, 4], [5, 4, 0, 1, 2, 3, 4, 5]] true) .ret))
set_option maxRecDepth 1000000 in
theorem v60 (fu : Nat) : evF fu (d60 fu) rs60 9 (e60 fu).ash (e60 fu).osh (e60 fu).vsh = p60 fu := by kernel_rfl
set_option maxRecDepth 1000000 in
theorem b60 (fu : Nat) : BodyD Try.prog 60 9 (d60 fu).erase rs60 := bodyD_mk Try.func60 (by kernel_rfl) (by kernel_rfl) (by kernel_rfl) (by kernel_rfl)
theorem g60 (fu : Nat) : (e60 fu).Good Try.prog := good_by orders (b60 fu) (l := [e61 fu]) (by kernel_rfl) ⟨g61 fu, trivial⟩ (by kernel_rfl) (v60 fu)
def rs59 : List RVx := [(.tmp 4)]
/-- gazette/copies.Each[gazette/api.Topic] -/
def p59 (fu : Nat) : (List (D_api_Topic)) × (((Unit) × (Unit)) × (Unit)) → Option ((Unit) × (List (D_api_Topic))) := fun ⟨a, ⟨_, _⟩, _⟩ =>
bif ((List.length a : Int) == (0 : Int)) then
 some ((), [])
else
 bif decide ((0 : Int) ≤ (List.length a : Int) ∧ ((List.length a : Int) : Int) ≤ (List.length a : Int) ∧ ((List.length a : Int) : Int) ≤ 9223372036854775807 ∧ (40 : Int) * (List.length a : Int) ≤ 140737488355328) then
 bif decide (Int.toNat (List.length a : Int) = List.length (List.replicate (Int.toNat (List.length a : Int)) ((⟨#[]⟩ : ByteArray), []) : List (D_api_Topic))) then
 loopO (S := ((List (D_api_Topic)) × ((Int) × (Unit))) × (Unit)) fu (fun ⟨⟨c, f, _⟩, _⟩ =>
 bif decide (f < (List.length a : Int)) then
 bif decide ((0 : Int) ≤ f ∧ f < (List.length a : Int)) then
 bif decide (Int.toNat f < List.length a) then
 Option.bind (p60 fu (((List.getD a (Int.toNat f) (dflt T_api_Topic)).1, (List.getD a (Int.toNat f) (dflt T_api_Topic)).2, ()), ())) fun ⟨_, ⟨h, i, _⟩⟩ =>
 bif decide ((0 : Int) ≤ f ∧ f < (List.length c : Int)) then
 bif decide (Int.toNat f < List.length c) then
 bif decide (List.length i = List.length i) then
 bif decide (List.length c = List.length (List.set c (Int.toNat f) (h, i))) then
 some (.inl (((List.set c (Int.toNat f) (h, i)), IntKind.wrap .i64 (f + (1 : Int)), ()), ()))
 else none
 else none
 else none
 else none
 else none
 else none
 else
 inrO (bif decide (List.length c = List.length c) then
 some ((), c)
 else none))
 (((List.replicate (Int.toNat (List.length a : Int)) ((⟨#[]⟩ : ByteArray), []) : List (D_api_Topic)), (0 : Int), ()), ())
 else none
 else none
def e59 (fu : Nat) : Ent := ⟨59, (.cons (.hole (.sl T_api_Topic)) (.cons (.clo 60 0 .nil 0 .nil) .nil)), .nil, (.own .own 82 T_api_Topic), p59 fu⟩
def d59 (fu : Nat) : DC := (.seq (.region [opD 4 (.mov (.const vS))] [[]] false) (.seq (.seq (.region [mvD 8 0, opD 9 (.len false (tD 8)), opD 10 (.bin .eql (tD 9) (cD 0))] [[], [0], [1]] false) (.cond (.tmp 10) (.seq (.region [opD 4 (.mov (.const vS))] [[]] false) .ret) .skip)) (.seq (.region [mvD 11 0, opD 12 (.len false (tD 11)), oqD 13 (.make false 82 2 [vT, vS] 40 (tD 12) (tD 12)) (.ty T_api_Topic), mvD 5 13] [[], [0], [1, 1], [2, 0, 1, 2]] false) (.seq (.seq (.region [mvD 14 0, opD 15 (.len false (tD 14)), opD 16 (.mov (cD 0))] [[], [0], []] false) (.block 0 (.loop ⟨[5, 16], (.cons (.own .own 82 T_api_Topic) (.cons (.hole (.int .i64)) .nil)), [], .nil, [1, 14, 15], []⟩
 (.seq (.region [opD 17 (.bin .lss (tD 16) (tD 15))] [[]] false) (.seq (.cond (.tmp 17) .skip (.exit 0)) (.seq (.block 1 (.seq (.region [mvD 18 16, opD 19 (.iaddr 2 (tD 14) (tD 16)), opD 20 (.load true 2 (tD 19)), opD 7 (.alloc 82 2 [vT, vS]), mvD 6 18, onD (.store 2 (tD 7) (tD 20))] [[], [], [1], [], [0, 0, 1, 2, 3], [3, 2, 4, 0, 1, 2, 3, 4]] false) (.region [mvD 21 5, mvD 22 6, mvD 23 1, opD 24 (.load true 2 (tD 7)), oqD 25 (.callv (tD 23) [(tD 24)]) (.ent (e60 fu)), opD 26 (.iaddr 2 (tD 21) (tD 22)), onD (.store 2 (tD 26) (tD 25))] [[], [], [], [], [2, 3], [0, 1, 0, 1, 2, 3, 4], [5, 4, 4, 0, 1, 2, 3, 4]] false))) (.region [opD 27 (.bin .add (tD 16) (cD 1)), mvD 16 27] [[], [0]] false))))))) (.seq (.region [mvD 28 5, mvD 4 28] [[], [0, 0]] false) .ret)))))
set_option maxRecDepth 1000000 in
theorem v59 (fu : Nat) : evF fu (d59 fu) rs59 29 (e59 fu).ash (e59 fu).osh (e59 fu).vsh = p59 fu := by kernel_rfl
set_option maxRecDepth 1000000 in
theorem b59 (fu : Nat) : BodyD Try.prog 59 29 (d59 fu).erase rs59 := bodyD_mk Try.func59 (by kernel_rfl) (by kernel_rfl) (by kernel_rfl) (by kernel_rfl)
theorem g59 (fu : Nat) : (e59 fu).Good Try.prog := good_by orders (b59 fu) (l := [e60 fu]) (by kernel_rfl) ⟨g60 fu, trivial⟩ (by kernel_rfl) (v59 fu)
def rs39 : List RVx := [(.tmp 2)]
/-- gazette/copies.Topics -/
def p39 (fu : Nat) : (List (D_api_Topic)) × (Unit) → Option ((Unit) × (List (D_api_Topic))) := fun ⟨a, _⟩ =>
Option.bind (p59 fu (a, ((), ()), ())) fun ⟨_, c⟩ =>
bif decide (List.length c = List.length c) then
 some ((), c)
else none
def e39 (fu : Nat) : Ent := ⟨39, (.cons (.hole (.sl T_api_Topic)) .nil), .nil, (.own .own 82 T_api_Topic), p39 fu⟩
def d39 (fu : Nat) : DC := (.seq (.region [opD 2 (.mov (.const vS))] [[]] false) (.seq (.region [mvD 3 0, oqD 4 (.call 59 [(tD 3), (.func 60)]) (.ent (e59 fu)), mvD 2 4] [[], [0], [1, 1, 0, 1]] false) .ret))
set_option maxRecDepth 1000000 in
theorem v39 (fu : Nat) : evF fu (d39 fu) rs39 5 (e39 fu).ash (e39 fu).osh (e39 fu).vsh = p39 fu := by kernel_rfl
set_option maxRecDepth 1000000 in
theorem b39 (fu : Nat) : BodyD Try.prog 39 5 (d39 fu).erase rs39 := bodyD_mk Try.func39 (by kernel_rfl) (by kernel_rfl) (by kernel_rfl) (by kernel_rfl)
theorem g39 (fu : Nat) : (e39 fu).Good Try.prog := good_by orders (b39 fu) (l := [e59 fu]) (by kernel_rfl) ⟨g59 fu, trivial⟩ (by kernel_rfl) (v39 fu)
def rs40 : List RVx := [(.tmp 2)]
/-- gazette/copies.List[gazette/api.Site] -/
def p40 (_ : Nat) : (List (D_api_Site)) × (Unit) → Option ((Unit) × (List (D_api_Site))) := fun ⟨a, _⟩ =>
bif ((List.length a : Int) == (0 : Int)) then
 some ((), [])
else
 bif decide ((0 : Int) ≤ (List.length a : Int) ∧ ((List.length a : Int) : Int) ≤ (List.length a : Int) ∧ ((List.length a : Int) : Int) ≤ 9223372036854775807 ∧ (16 : Int) * (List.length a : Int) ≤ 140737488355328) then
 bif decide (Int.toNat (List.length a : Int) = List.length (List.replicate (Int.toNat (List.length a : Int)) ((0 : Int), (0 : Int)) : List (D_api_Site))) then
 bif decide (Int.toNat (List.length a : Int) = List.length (copyL (List.replicate (Int.toNat (List.length a : Int)) ((0 : Int), (0 : Int)) : List (D_api_Site)) 0 (Int.toNat (List.length a : Int)) a)) then
 some ((), (copyL (List.replicate (Int.toNat (List.length a : Int)) ((0 : Int), (0 : Int)) : List (D_api_Site)) 0 (Int.toNat (List.length a : Int)) a))
 else none
 else none
 else none
def e40 (fu : Nat) : Ent := ⟨40, (.cons (.hole (.sl T_api_Site)) .nil), .nil, (.own .own 84 T_api_Site), p40 fu⟩
def d40 (_ : Nat) : DC := (.seq (.region [opD 2 (.mov (.const vS))] [[]] false) (.seq (.seq (.region [mvD 4 0, opD 5 (.len false (tD 4)), opD 6 (.bin .eql (tD 5) (cD 0))] [[], [0], [1]] false) (.cond (.tmp 6) (.seq (.region [opD 2 (.mov (.const vS))] [[]] false) .ret) .skip)) (.seq (.region [mvD 7 0, opD 8 (.len false (tD 7)), oqD 9 (.make false 84 2 [vU, vI] 16 (tD 8) (tD 8)) (.ty T_api_Site), mvD 3 9] [[], [0], [1, 1], [2, 0, 1, 2]] false) (.seq (.region [mvD 10 3, mvD 11 0, opD 12 (.copy 2 (tD 10) (tD 11))] [[], [], [0, 1]] false) (.seq (.region [mvD 13 3, mvD 2 13] [[], [0, 0]] false) .ret)))))
set_option maxRecDepth 1000000 in
theorem v40 (fu : Nat) : evF fu (d40 fu) rs40 14 (e40 fu).ash (e40 fu).osh (e40 fu).vsh = p40 fu := by kernel_rfl
set_option maxRecDepth 1000000 in
theorem b40 (fu : Nat) : BodyD Try.prog 40 14 (d40 fu).erase rs40 := bodyD_mk Try.func40 (by kernel_rfl) (by kernel_rfl) (by kernel_rfl) (by kernel_rfl)
theorem g40 (fu : Nat) : (e40 fu).Good Try.prog := good_by orders (b40 fu) (l := []) (by kernel_rfl) trivial (by kernel_rfl) (v40 fu)
def rs62 : List RVx := [(.tmp 2)]
/-- gazette/copies.List[byte] -/
def p62 (_ : Nat) : (List (Int)) × (Unit) → Option ((Unit) × (List (Int))) := fun ⟨a, _⟩ =>
bif ((List.length a : Int) == (0 : Int)) then
 some ((), [])
else
 bif decide ((0 : Int) ≤ (List.length a : Int) ∧ ((List.length a : Int) : Int) ≤ (List.length a : Int) ∧ ((List.length a : Int) : Int) ≤ 9223372036854775807 ∧ (1 : Int) * (List.length a : Int) ≤ 140737488355328) then
 bif decide (Int.toNat (List.length a : Int) = List.length (List.replicate (Int.toNat (List.length a : Int)) (0 : Int) : List (Int))) then
 bif decide (Int.toNat (List.length a : Int) = List.length (copyL (List.replicate (Int.toNat (List.length a : Int)) (0 : Int) : List (Int)) 0 (Int.toNat (List.length a : Int)) a)) then
 some ((), (copyL (List.replicate (Int.toNat (List.length a : Int)) (0 : Int) : List (Int)) 0 (Int.toNat (List.length a : Int)) a))
 else none
 else none
 else none
def e62 (fu : Nat) : Ent := ⟨62, (.cons (.hole (.sl (.int .u8))) .nil), .nil, (.own .own 5 (.int .u8)), p62 fu⟩
def d62 (_ : Nat) : DC := (.seq (.region [opD 2 (.mov (.const vS))] [[]] false) (.seq (.seq (.region [mvD 4 0, opD 5 (.len false (tD 4)), opD 6 (.bin .eql (tD 5) (cD 0))] [[], [0], [1]] false) (.cond (.tmp 6) (.seq (.region [opD 2 (.mov (.const vS))] [[]] false) .ret) .skip)) (.seq (.region [mvD 7 0, opD 8 (.len false (tD 7)), oqD 9 (.make false 5 1 [(.int .u8 0)] 1 (tD 8) (tD 8)) (.ty (.int .u8)), mvD 3 9] [[], [0], [1, 1], [2, 0, 1, 2]] false) (.seq (.region [mvD 10 3, mvD 11 0, opD 12 (.copy 1 (tD 10) (tD 11))] [[], [], [0, 1]] false) (.seq (.region [mvD 13 3, mvD 2 13] [[], [0, 0]] false) .ret)))))
set_option maxRecDepth 1000000 in
theorem v62 (fu : Nat) : evF fu (d62 fu) rs62 14 (e62 fu).ash (e62 fu).osh (e62 fu).vsh = p62 fu := by kernel_rfl
set_option maxRecDepth 1000000 in
theorem b62 (fu : Nat) : BodyD Try.prog 62 14 (d62 fu).erase rs62 := bodyD_mk Try.func62 (by kernel_rfl) (by kernel_rfl) (by kernel_rfl) (by kernel_rfl)
theorem g62 (fu : Nat) : (e62 fu).Good Try.prog := good_by orders (b62 fu) (l := []) (by kernel_rfl) trivial (by kernel_rfl) (v62 fu)
def rs63 : List RVx := [(.cell 2 true 12)]
/-- gazette/copies.PlaceCommand -/
def p63 (fu : Nat) : (Z9) × (Unit) → Option ((Unit) × ((Int) × ((Int) × ((Int) × ((ByteArray) × ((List (Int)) × ((Int) × ((Int) × ((ByteArray) × ((Int) × ((Int) × ((Int) × ((Int) × (Unit)))))))))))))) := fun ⟨⟨a, c, f, h, i, j, k, l, m, n, o, q, _⟩, _⟩ =>
Option.bind (p23 fu (i, ())) fun ⟨_, s⟩ =>
bif decide (List.length s = List.length s) then
 some ((), (a, c, f, h, s, j, k, l, m, n, o, q, ()))
else none
def e63 (fu : Nat) : Ent := ⟨63, (.cons Y10 .nil), .nil, Y11, p63 fu⟩
def d63 (fu : Nat) : DC := (.seq (.region [opD 1 (.box 31 12 (tD 0)), opD 2 (.alloc 31 12 [vI, vU, vU, vT, vS, vU, vU, vT, vI, vI, vU, vI])] [[], []] false) (.seq (.region [opD 3 (.faddr 4 (tD 1)), opD 4 (.load false 1 (tD 3)), oqD 5 (.call 23 [(tD 4)]) (.ent (e23 fu)), opD 6 (.faddr 4 (tD 1)), onD (.store 1 (tD 6) (tD 5))] [[], [0], [1], [0, 1, 2], [3, 2, 2, 0, 1, 2]] false) (.seq (.region [opD 7 (.load true 12 (tD 1)), onD (.store 12 (tD 2) (tD 7))] [[], [0, 0]] false) .ret)))
set_option maxRecDepth 1000000 in
theorem v63 (fu : Nat) : evF fu (d63 fu) rs63 8 (e63 fu).ash (e63 fu).osh (e63 fu).vsh = p63 fu := by kernel_rfl
set_option maxRecDepth 1000000 in
theorem b63 (fu : Nat) : BodyD Try.prog 63 8 (d63 fu).erase rs63 := bodyD_mk Try.func63 (by kernel_rfl) (by kernel_rfl) (by kernel_rfl) (by kernel_rfl)
theorem g63 (fu : Nat) : (e63 fu).Good Try.prog := good_by orders (b63 fu) (l := [e23 fu]) (by kernel_rfl) ⟨g23 fu, trivial⟩ (by kernel_rfl) (v63 fu)
def rs41 : List RVx := [(.cell 2 true 19)]
/-- gazette/copies.Call -/
def p41 (fu : Nat) : (Z2) × (Unit) → Option ((Unit) × ((Int) × ((ByteArray) × ((ByteArray) × ((List (Int)) × ((Int) × ((Int) × ((ByteArray) × ((Int) × ((Int) × ((Int) × ((ByteArray) × ((List (Int)) × ((Int) × ((Int) × ((ByteArray) × ((Int) × ((Int) × ((Int) × ((Int) × (Unit))))))))))))))))))))) := fun ⟨⟨a, c, f, h, i, j, k, l, m, n, o, q, s, t, u, w, x, y, z, _⟩, _⟩ =>
Option.bind (p62 fu (h, ())) fun ⟨_, a0⟩ =>
Option.bind (p63 fu ((l, m, n, o, q, s, t, u, w, x, y, z, ()), ())) fun ⟨_, ⟨c0, f0, h0, i0, j0, k0, l0, m0, n0, o0, q0, s0, _⟩⟩ =>
bif decide (List.length a0 = List.length a0) then
 bif decide (List.length j0 = List.length j0) then
 some ((), (a, c, f, a0, i, j, k, c0, f0, h0, i0, j0, k0, l0, m0, n0, o0, q0, s0, ()))
 else none
else none
def e41 (fu : Nat) : Ent := ⟨41, (.cons Y12 .nil), .nil, Y13, p41 fu⟩
def d41 (fu : Nat) : DC := (.seq (.region [opD 1 (.box 33 19 (tD 0)), opD 2 (.alloc 33 19 [vI, vT, vT, vS, vU, vI, vT, vI, vU, vU, vT, vS, vU, vU, vT, vI, vI, vU, vI])] [[], []] false) (.seq (.region [opD 3 (.faddr 3 (tD 1)), opD 4 (.load false 1 (tD 3)), oqD 5 (.call 62 [(tD 4)]) (.ent (e62 fu)), opD 6 (.faddr 3 (tD 1)), onD (.store 1 (tD 6) (tD 5))] [[], [0], [1], [0, 1, 2], [3, 2, 2, 0, 1, 2]] false) (.seq (.region [opD 7 (.faddr 7 (tD 1)), opD 8 (.load true 12 (tD 7)), oqD 9 (.call 63 [(tD 8)]) (.ent (e63 fu)), opD 10 (.faddr 7 (tD 1)), onD (.store 12 (tD 10) (tD 9))] [[], [0], [1], [0, 1, 2], [3, 2, 2, 0, 1, 2]] false) (.seq (.region [opD 11 (.load true 19 (tD 1)), onD (.store 19 (tD 2) (tD 11))] [[], [0, 0]] false) .ret))))
set_option maxRecDepth 1000000 in
theorem v41 (fu : Nat) : evF fu (d41 fu) rs41 12 (e41 fu).ash (e41 fu).osh (e41 fu).vsh = p41 fu := by kernel_rfl
set_option maxRecDepth 1000000 in
theorem b41 (fu : Nat) : BodyD Try.prog 41 12 (d41 fu).erase rs41 := bodyD_mk Try.func41 (by kernel_rfl) (by kernel_rfl) (by kernel_rfl) (by kernel_rfl)
theorem g41 (fu : Nat) : (e41 fu).Good Try.prog := good_by orders (b41 fu) (l := [e62 fu, e63 fu]) (by kernel_rfl) ⟨g62 fu, g63 fu, trivial⟩ (by kernel_rfl) (v41 fu)
def rs27 : List RVx := [(.cell 2 true 33)]
/-- gazette/copies.Client -/
def p27 (fu : Nat) : (Z1) × (Unit) → Option ((Unit) × ((Int) × ((List (Int)) × ((Int) × ((Int) × ((List (D_api_Topic)) × ((List (D_api_Site)) × ((Bool) × ((Int) × ((ByteArray) × ((ByteArray) × ((List (Int)) × ((Int) × ((Int) × ((ByteArray) × ((Int) × ((Int) × ((Int) × ((ByteArray) × ((List (Int)) × ((Int) × ((Int) × ((ByteArray) × ((Int) × ((Int) × ((Int) × ((Int) × ((Int) × ((Bool) × ((Int) × ((Int) × ((Int) × ((Bool) × ((Int) × (Unit))))))))))))))))))))))))))))))))))) := fun ⟨⟨a, c, f, h, i, j, k, l, m, n, o, q, s, t, u, w, x, y, z, a0, c0, f0, h0, i0, j0, k0, l0, m0, n0, o0, q0, s0, t0, _⟩, _⟩ =>
Option.bind (p23 fu (c, ())) fun ⟨_, u0⟩ =>
Option.bind (p39 fu (i, ())) fun ⟨_, w0⟩ =>
Option.bind (p40 fu (j, ())) fun ⟨_, x0⟩ =>
Option.bind (p41 fu ((l, m, n, o, q, s, t, u, w, x, y, z, a0, c0, f0, h0, i0, j0, k0, ()), ())) fun ⟨_, ⟨y0, z0, a1, c1, f1, h1, i1, j1, k1, l1, m1, n1, o1, q1, s1, t1, u1, w1, x1, _⟩⟩ =>
bif decide (List.length u0 = List.length u0) then
 bif decide (List.length w0 = List.length w0) then
 bif decide (List.length x0 = List.length x0) then
 bif decide (List.length c1 = List.length c1) then
 bif decide (List.length n1 = List.length n1) then
 some ((), (a, u0, f, h, w0, x0, k, y0, z0, a1, c1, f1, h1, i1, j1, k1, l1, m1, n1, o1, q1, s1, t1, u1, w1, x1, l0, m0, n0, o0, q0, s0, t0, ()))
 else none
 else none
 else none
 else none
else none
def e27 (fu : Nat) : Ent := ⟨27, (.cons Y14 .nil), .nil, Y15, p27 fu⟩
def d27 (fu : Nat) : DC := (.seq (.region [opD 1 (.box 35 33 (tD 0)), opD 2 (.alloc 35 33 [vI, vS, vU, vU, vS, vS, vB, vI, vT, vT, vS, vU, vI, vT, vI, vU, vU, vT, vS, vU, vU, vT, vI, vI, vU, vI, vU, vB, vU, vI, vI, vB, vI])] [[], []] false) (.seq (.region [opD 3 (.faddr 1 (tD 1)), opD 4 (.load false 1 (tD 3)), oqD 5 (.call 23 [(tD 4)]) (.ent (e23 fu)), opD 6 (.faddr 1 (tD 1)), onD (.store 1 (tD 6) (tD 5))] [[], [0], [1], [0, 1, 2], [3, 2, 2, 0, 1, 2]] false) (.seq (.region [opD 7 (.faddr 4 (tD 1)), opD 8 (.load false 1 (tD 7)), oqD 9 (.call 39 [(tD 8)]) (.ent (e39 fu)), opD 10 (.faddr 4 (tD 1)), onD (.store 1 (tD 10) (tD 9))] [[], [0], [1], [0, 1, 2], [3, 2, 2, 0, 1, 2]] false) (.seq (.region [opD 11 (.faddr 5 (tD 1)), opD 12 (.load false 1 (tD 11)), oqD 13 (.call 40 [(tD 12)]) (.ent (e40 fu)), opD 14 (.faddr 5 (tD 1)), onD (.store 1 (tD 14) (tD 13))] [[], [0], [1], [0, 1, 2], [3, 2, 2, 0, 1, 2]] false) (.seq (.region [opD 15 (.faddr 7 (tD 1)), opD 16 (.load true 19 (tD 15)), oqD 17 (.call 41 [(tD 16)]) (.ent (e41 fu)), opD 18 (.faddr 7 (tD 1)), onD (.store 19 (tD 18) (tD 17))] [[], [0], [1], [0, 1, 2], [3, 2, 2, 0, 1, 2]] false) (.seq (.region [opD 19 (.load true 33 (tD 1)), onD (.store 33 (tD 2) (tD 19))] [[], [0, 0]] false) .ret))))))
set_option maxRecDepth 1000000 in
theorem v27 (fu : Nat) : evF fu (d27 fu) rs27 20 (e27 fu).ash (e27 fu).osh (e27 fu).vsh = p27 fu := by kernel_rfl
set_option maxRecDepth 1000000 in
theorem b27 (fu : Nat) : BodyD Try.prog 27 20 (d27 fu).erase rs27 := bodyD_mk Try.func27 (by kernel_rfl) (by kernel_rfl) (by kernel_rfl) (by kernel_rfl)
theorem g27 (fu : Nat) : (e27 fu).Good Try.prog := good_by orders (b27 fu) (l := [e23 fu, e39 fu, e40 fu, e41 fu]) (by kernel_rfl) ⟨g23 fu, g39 fu, g40 fu, g41 fu, trivial⟩ (by kernel_rfl) (v27 fu)
def rs28 : List RVx := [(.tmp 2)]
/-- gazette/client.taker -/
def p28 (_ : Nat) : (Int) × (Unit) → Option ((Unit) × ((Bool) × (((Unit) × (Unit)) × ((Bool) × (((Unit) × (Unit)) × ((Bool) × (((Unit) × (Unit)) × (Unit)))))))) := fun ⟨a, _⟩ =>
bif (a == (1 : Int)) then
 some ((), (true, ((), ()), dflt (.pair .bool (.pair (.pair .unit .unit) (.pair .bool (.pair (.pair .unit .unit) .unit))))))
else
 bif (a == (2 : Int)) then
 some ((), (false, dflt (.pair .unit .unit), (true, ((), ()), dflt (.pair .bool (.pair (.pair .unit .unit) .unit)))))
 else
 bif (a == (3 : Int)) then
 some ((), (false, dflt (.pair .unit .unit), (false, dflt (.pair .unit .unit), (true, ((), ()), dflt .unit))))
 else
 some ((), (false, dflt (.pair .unit .unit), (false, dflt (.pair .unit .unit), (false, dflt (.pair .unit .unit), ()))))
def e28 (fu : Nat) : Ent := ⟨28, (.cons (.hole (.int .i64)) .nil), .nil, (.alt (.clo 42 0 .nil 0 .nil) (.alt (.clo 43 0 .nil 0 .nil) (.alt (.clo 44 0 .nil 0 .nil) (.nilv 2)))), p28 fu⟩
def d28 (_ : Nat) : DC := (.seq (.region [opD 2 (.mov (.const .nilFunc))] [[]] false) (.seq (.seq (.region [mvD 3 0] [[]] false) (.block 0 (.seq (.region [opD 5 (.bin .eql (tD 3) (cD 1)), mvD 4 5] [[], [0]] false) (.cond (.tmp 4) (.seq (.region [opD 2 (.mov (.func 42))] [[]] false) .ret) (.seq (.region [opD 7 (.bin .eql (tD 3) (cD 2)), mvD 6 7] [[], [0]] false) (.cond (.tmp 6) (.seq (.region [opD 2 (.mov (.func 43))] [[]] false) .ret) (.seq (.region [opD 9 (.bin .eql (tD 3) (cD 3)), mvD 8 9] [[], [0]] false) (.cond (.tmp 8) (.seq (.region [opD 2 (.mov (.func 44))] [[]] false) .ret) .skip)))))))) (.seq (.region [opD 2 (.mov (.const .nilFunc))] [[]] false) .ret)))
set_option maxRecDepth 1000000 in
theorem v28 (fu : Nat) : evF fu (d28 fu) rs28 10 (e28 fu).ash (e28 fu).osh (e28 fu).vsh = p28 fu := by kernel_rfl
set_option maxRecDepth 1000000 in
theorem b28 (fu : Nat) : BodyD Try.prog 28 10 (d28 fu).erase rs28 := bodyD_mk Try.func28 (by kernel_rfl) (by kernel_rfl) (by kernel_rfl) (by kernel_rfl)
theorem g28 (fu : Nat) : (e28 fu).Good Try.prog := good_by orders (b28 fu) (l := []) (by kernel_rfl) trivial (by kernel_rfl) (v28 fu)
def rs80 : List RVx := [(.tmp 2)]
/-- gazette/records.Name -/
def p80 (fu : Nat) : (ByteArray) × (Unit) → Option ((Unit) × (Bool)) := fun ⟨a, _⟩ =>
loopO (S := ((Int) × (Unit)) × (Unit)) fu (fun ⟨⟨c, _⟩, _⟩ =>
 bif decide (c < (List.length (numsOf a) : Int)) then
 bif decide ((0 : Int) ≤ c ∧ c < (List.length (numsOf a) : Int)) then
 bif decide (Int.toNat c < List.length (numsOf a)) then
 bif decide ((List.getD (numsOf a) (Int.toNat c) (dflt (.int .u8))) < (97 : Int)) then
 bif decide ((List.getD (numsOf a) (Int.toNat c) (dflt (.int .u8))) < (48 : Int)) then
 bif ((List.getD (numsOf a) (Int.toNat c) (dflt (.int .u8))) != (45 : Int)) then
 bif ((List.getD (numsOf a) (Int.toNat c) (dflt (.int .u8))) != (95 : Int)) then
 bif ((List.getD (numsOf a) (Int.toNat c) (dflt (.int .u8))) != (46 : Int)) then
 inrO (some ((), false))
 else
 some (.inl ((IntKind.wrap .i64 (c + (1 : Int)), ()), ()))
 else
 some (.inl ((IntKind.wrap .i64 (c + (1 : Int)), ()), ()))
 else
 some (.inl ((IntKind.wrap .i64 (c + (1 : Int)), ()), ()))
 else
 bif decide ((List.getD (numsOf a) (Int.toNat c) (dflt (.int .u8))) > (57 : Int)) then
 bif ((List.getD (numsOf a) (Int.toNat c) (dflt (.int .u8))) != (45 : Int)) then
 bif ((List.getD (numsOf a) (Int.toNat c) (dflt (.int .u8))) != (95 : Int)) then
 bif ((List.getD (numsOf a) (Int.toNat c) (dflt (.int .u8))) != (46 : Int)) then
 inrO (some ((), false))
 else
 some (.inl ((IntKind.wrap .i64 (c + (1 : Int)), ()), ()))
 else
 some (.inl ((IntKind.wrap .i64 (c + (1 : Int)), ()), ()))
 else
 some (.inl ((IntKind.wrap .i64 (c + (1 : Int)), ()), ()))
 else
 some (.inl ((IntKind.wrap .i64 (c + (1 : Int)), ()), ()))
 else
 bif decide ((List.getD (numsOf a) (Int.toNat c) (dflt (.int .u8))) > (122 : Int)) then
 bif decide ((List.getD (numsOf a) (Int.toNat c) (dflt (.int .u8))) < (48 : Int)) then
 bif ((List.getD (numsOf a) (Int.toNat c) (dflt (.int .u8))) != (45 : Int)) then
 bif ((List.getD (numsOf a) (Int.toNat c) (dflt (.int .u8))) != (95 : Int)) then
 bif ((List.getD (numsOf a) (Int.toNat c) (dflt (.int .u8))) != (46 : Int)) then
 inrO (some ((), false))
 else
 some (.inl ((IntKind.wrap .i64 (c + (1 : Int)), ()), ()))
 else
 some (.inl ((IntKind.wrap .i64 (c + (1 : Int)), ()), ()))
 else
 some (.inl ((IntKind.wrap .i64 (c + (1 : Int)), ()), ()))
 else
 bif decide ((List.getD (numsOf a) (Int.toNat c) (dflt (.int .u8))) > (57 : Int)) then
 bif ((List.getD (numsOf a) (Int.toNat c) (dflt (.int .u8))) != (45 : Int)) then
 bif ((List.getD (numsOf a) (Int.toNat c) (dflt (.int .u8))) != (95 : Int)) then
 bif ((List.getD (numsOf a) (Int.toNat c) (dflt (.int .u8))) != (46 : Int)) then
 inrO (some ((), false))
 else
 some (.inl ((IntKind.wrap .i64 (c + (1 : Int)), ()), ()))
 else
 some (.inl ((IntKind.wrap .i64 (c + (1 : Int)), ()), ()))
 else
 some (.inl ((IntKind.wrap .i64 (c + (1 : Int)), ()), ()))
 else
 some (.inl ((IntKind.wrap .i64 (c + (1 : Int)), ()), ()))
 else
 some (.inl ((IntKind.wrap .i64 (c + (1 : Int)), ()), ()))
 else none
 else none
 else
 inrO (bif decide ((ByteArray.size a : Int) ≥ (1 : Int)) then
 some ((), decide ((ByteArray.size a : Int) ≤ (32 : Int)))
 else
 some ((), false)))
 (((0 : Int), ()), ())
def e80 (fu : Nat) : Ent := ⟨80, (.cons (.hole .str) .nil), .nil, (.hole .bool), p80 fu⟩
def d80 (_ : Nat) : DC := (.seq (.region [opD 2 (.mov (.const vB))] [[]] false) (.seq (.seq (.region [mvD 5 0, opD 6 (.s2b 5 (tD 5)), opD 7 (.len false (tD 6)), opD 8 (.mov (cD 0))] [[], [0], [1], []] false) (.block 0 (.loop ⟨[8], (.cons (.hole (.int .i64)) .nil), [], .nil, [0, 6, 7], []⟩
 (.seq (.region [opD 9 (.bin .lss (tD 8) (tD 7))] [[]] false) (.seq (.cond (.tmp 9) .skip (.exit 0)) (.seq (.block 1 (.seq (.region [opD 10 (.iaddr 1 (tD 6) (tD 8)), opD 11 (.load false 1 (tD 10)), mvD 4 11] [[], [0], [1, 0, 1]] false) (.seq (.region [mvD 12 4, opD 13 (.bin .lss (tD 12) (.const (.int .u8 97))), mvD 14 13, ogD 15 14 false (.mov (tD 4)), ogD 16 14 false (.bin .gtr (tD 15) (.const (.int .u8 122))), opD 17 (.pick (tD 14) (.const (.bool true)) (tD 16)), mvD 18 17, ogD 19 18 true (.mov (tD 4)), ogD 20 18 true (.bin .lss (tD 19) (.const (.int .u8 48))), ogD 21 18 true (.mov (tD 20)), ogD 22 21 false (.mov (tD 4)), ogD 23 21 false (.bin .gtr (tD 22) (.const (.int .u8 57))), ogD 24 18 true (.pick (tD 21) (.const (.bool true)) (tD 23)), opD 25 (.pick (tD 18) (tD 24) (.const vB)), mvD 26 25, ogD 27 26 true (.mov (tD 4)), ogD 28 26 true (.bin .neq (tD 27) (.const (.int .u8 45))), opD 29 (.pick (tD 26) (tD 28) (.const vB)), mvD 30 29, ogD 31 30 true (.mov (tD 4)), ogD 32 30 true (.bin .neq (tD 31) (.const (.int .u8 95))), opD 33 (.pick (tD 30) (tD 32) (.const vB)), mvD 34 33, ogD 35 34 true (.mov (tD 4)), ogD 36 34 true (.bin .neq (tD 35) (.const (.int .u8 46))), opD 37 (.pick (tD 34) (tD 36) (.const vB))] [[], [0], [1], [2], [3, 2], [2, 4], [5, 2], [6], [7, 6], [8, 6, 6], [9], [10, 9], [9, 11, 6], [6, 12], [13, 9], [14], [15, 14], [14, 16], [17, 14], [18], [19, 18], [18, 20], [21, 18], [22], [23, 22], [22, 24]] false) (.cond (.tmp 37) (.seq (.region [opD 2 (.mov (.const vB))] [[]] false) .ret) .skip)))) (.region [opD 38 (.bin .add (tD 8) (cD 1)), mvD 8 38] [[], [0]] false))))))) (.seq (.region [mvD 39 0, opD 40 (.len true (tD 39)), opD 41 (.bin .geq (tD 40) (cD 1)), mvD 42 41, ogD 43 42 true (.mov (tD 0)), ogD 44 42 true (.len true (tD 43)), ogD 45 42 true (.bin .leq (tD 44) (cD 32)), opD 46 (.pick (tD 42) (tD 45) (.const vB)), mvD 2 46] [[], [0], [1], [2], [3], [4, 3], [5, 3], [3, 6], [7, 3, 0, 1, 2, 3, 4, 5, 6, 7]] false) .ret)))
set_option maxRecDepth 1000000 in
theorem v80 (fu : Nat) : evF fu (d80 fu) rs80 47 (e80 fu).ash (e80 fu).osh (e80 fu).vsh = p80 fu := by kernel_rfl
set_option maxRecDepth 1000000 in
theorem b80 (fu : Nat) : BodyD Try.prog 80 47 (d80 fu).erase rs80 := bodyD_mk Try.func80 (by kernel_rfl) (by kernel_rfl) (by kernel_rfl) (by kernel_rfl)
theorem g80 (fu : Nat) : (e80 fu).Good Try.prog := good_by orders (b80 fu) (l := []) (by kernel_rfl) trivial (by kernel_rfl) (v80 fu)
def rs64 : List RVx := [(.tmp 2)]
/-- gazette/client.mayBe -/
def p64 (fu : Nat) : (Z2) × (Unit) → Option ((Unit) × (Bool)) := fun ⟨⟨a, c, _, _, _, _, _, f, _, _, _, _, _, _, _, _, _, _, _, _⟩, _⟩ =>
bif (a == (5 : Int)) then
 bif decide (f ≥ (1 : Int)) then
 some ((), decide (f ≤ (4 : Int)))
 else
 some ((), false)
else
 bif decide (a ≥ (1 : Int)) then
 bif decide (a ≤ (6 : Int)) then
 Option.bind (p80 fu (c, ())) fun ⟨_, h⟩ =>
 some ((), h)
 else
 some ((), false)
 else
 some ((), false)
def e64 (fu : Nat) : Ent := ⟨64, (.cons Y12 .nil), .nil, (.hole .bool), p64 fu⟩
def d64 (fu : Nat) : DC := (.seq (.region [opD 1 (.box 33 19 (tD 0)), opD 2 (.mov (.const vB))] [[], []] false) (.seq (.seq (.region [opD 3 (.faddr 0 (tD 1)), opD 4 (.load false 1 (tD 3)), opD 5 (.bin .eql (tD 4) (cD 5))] [[], [0], [1]] false) (.cond (.tmp 5) (.seq (.region [opD 6 (.faddr 7 (tD 1)), opD 7 (.faddr 0 (tD 6)), opD 8 (.load false 1 (tD 7)), opD 9 (.bin .geq (tD 8) (cD 1)), mvD 10 9, ogD 11 10 true (.faddr 7 (tD 1)), ogD 12 10 true (.faddr 0 (tD 11)), ogD 13 10 true (.load false 1 (tD 12)), ogD 14 10 true (.bin .leq (tD 13) (cD 4)), opD 15 (.pick (tD 10) (tD 14) (.const vB)), mvD 2 15] [[], [0], [1], [2], [3], [4], [5, 4], [6, 4], [7, 4], [4, 8], [9, 4, 0, 1, 2, 3, 4, 5, 6, 7, 8, 9]] false) .ret) .skip)) (.seq (.region [opD 16 (.faddr 0 (tD 1)), opD 17 (.load false 1 (tD 16)), opD 18 (.bin .geq (tD 17) (cD 1)), mvD 19 18, ogD 20 19 true (.faddr 0 (tD 1)), ogD 21 19 true (.load false 1 (tD 20)), ogD 22 19 true (.bin .leq (tD 21) (cD 6)), opD 23 (.pick (tD 19) (tD 22) (.const vB)), mvD 24 23, ogD 25 24 true (.faddr 1 (tD 1)), ogD 26 24 true (.load false 1 (tD 25)), (⟨(some 27), (some (24, true)), (.call 80 [(tD 26)])⟩, (.ent (e80 fu))), opD 28 (.pick (tD 24) (tD 27) (.const vB)), mvD 2 28] [[], [0], [1], [2], [3], [4, 3], [5, 3], [3, 6], [7, 3], [8], [9, 8], [10, 8, 8], [8, 11], [12, 11, 0, 1, 2, 3, 4, 5, 6, 7, 8, 9, 10, 11, 12]] false) .ret)))
set_option maxRecDepth 1000000 in
theorem v64 (fu : Nat) : evF fu (d64 fu) rs64 29 (e64 fu).ash (e64 fu).osh (e64 fu).vsh = p64 fu := by kernel_rfl
set_option maxRecDepth 1000000 in
theorem b64 (fu : Nat) : BodyD Try.prog 64 29 (d64 fu).erase rs64 := bodyD_mk Try.func64 (by kernel_rfl) (by kernel_rfl) (by kernel_rfl) (by kernel_rfl)
theorem g64 (fu : Nat) : (e64 fu).Good Try.prog := good_by orders (b64 fu) (l := [e80 fu]) (by kernel_rfl) ⟨g80 fu, trivial⟩ (by kernel_rfl) (v64 fu)
def rs65 : List RVx := [(.tmp 2)]
/-- gazette/client.changes -/
def p65 (_ : Nat) : (Int) × (Unit) → Option ((Unit) × (Bool)) := fun ⟨a, _⟩ =>
bif (a == (1 : Int)) then
 some ((), true)
else
 bif (a == (3 : Int)) then
 some ((), true)
 else
 some ((), (a == (5 : Int)))
def e65 (fu : Nat) : Ent := ⟨65, (.cons (.hole (.int .i64)) .nil), .nil, (.hole .bool), p65 fu⟩
def d65 (_ : Nat) : DC := (.seq (.region [opD 2 (.mov (.const vB))] [[]] false) (.seq (.region [mvD 3 0, opD 4 (.bin .eql (tD 3) (cD 1)), mvD 5 4, ogD 6 5 false (.mov (tD 0)), ogD 7 5 false (.bin .eql (tD 6) (cD 3)), opD 8 (.pick (tD 5) (.const (.bool true)) (tD 7)), mvD 9 8, ogD 10 9 false (.mov (tD 0)), ogD 11 9 false (.bin .eql (tD 10) (cD 5)), opD 12 (.pick (tD 9) (.const (.bool true)) (tD 11)), mvD 2 12] [[], [0], [1], [2], [3, 2], [2, 4], [5, 2], [6], [7, 6], [6, 8], [9, 6, 0, 1, 2, 3, 4, 5, 6, 7, 8, 9]] false) .ret))
set_option maxRecDepth 1000000 in
theorem v65 (fu : Nat) : evF fu (d65 fu) rs65 13 (e65 fu).ash (e65 fu).osh (e65 fu).vsh = p65 fu := by kernel_rfl
set_option maxRecDepth 1000000 in
theorem b65 (fu : Nat) : BodyD Try.prog 65 13 (d65 fu).erase rs65 := bodyD_mk Try.func65 (by kernel_rfl) (by kernel_rfl) (by kernel_rfl) (by kernel_rfl)
theorem g65 (fu : Nat) : (e65 fu).Good Try.prog := good_by orders (b65 fu) (l := []) (by kernel_rfl) trivial (by kernel_rfl) (v65 fu)
def rs103 : List RVx := [(.tmp 2)]
/-- gazette/copies.newRoom -/
def p103 (_ : Nat) : (Int) × (Unit) → Option ((Unit) × ((List (Int)) × (Unit))) := fun ⟨a, _⟩ =>
bif decide ((0 : Int) ≤ 0 ∧ (0 : Int) ≤ a ∧ (a : Int) ≤ 9223372036854775807 ∧ (1 : Int) * a ≤ 140737488355328) then
 bif decide (0 = List.length (List.replicate 0 (0 : Int) : List (Int))) then
 some ((), ((List.replicate 0 (0 : Int) : List (Int)), ()))
 else none
else none
def e103 (fu : Nat) : Ent := ⟨103, (.cons (.hole (.int .i64)) .nil), .nil, (.box 146 1 (.cons (.own .app 5 (.int .u8)) .nil)), p103 fu⟩
def d103 (_ : Nat) : DC := (.seq (.region [opD 2 (.mov (.const (.pointer none)))] [[]] false) (.seq (.region [mvD 4 0, oqD 5 (.make true 5 1 [(.int .u8 0)] 1 (cD 0) (tD 4)) (.ty (.int .u8)), opD 3 (.alloc 146 1 [vS]), onD (.store 1 (tD 3) (tD 5))] [[], [0], [], [2, 1, 0, 1, 2]] false) (.seq (.region [mvD 2 3] [[]] false) .ret)))
set_option maxRecDepth 1000000 in
theorem v103 (fu : Nat) : evF fu (d103 fu) rs103 6 (e103 fu).ash (e103 fu).osh (e103 fu).vsh = p103 fu := by kernel_rfl
set_option maxRecDepth 1000000 in
theorem b103 (fu : Nat) : BodyD Try.prog 103 6 (d103 fu).erase rs103 := bodyD_mk Try.func103 (by kernel_rfl) (by kernel_rfl) (by kernel_rfl) (by kernel_rfl)
theorem g103 (fu : Nat) : (e103 fu).Good Try.prog := good_by orders (b103 fu) (l := []) (by kernel_rfl) trivial (by kernel_rfl) (v103 fu)
def rs106 : List RVx := [(.tmp 4)]
/-- (*gazette/copies.room).copied -/
def p106 (_ : Nat) : ((List (Int)) × (Unit)) × ((List (Int)) × (Unit)) → Option ((((List (Int)) × (Unit)) × ((Unit) × (Unit))) × (List (Int))) := fun ⟨⟨a, _⟩, c, _⟩ =>
bif ((List.length c : Int) == (0 : Int)) then
 bif decide (List.length a = List.length a) then
 some (((a, ()), (), ()), [])
 else none
else
 bif decide (List.length a = List.length a) then
 bif decide (List.length a + List.length c ≤ maxLen ∧ (List.length a + List.length c) * 1 ≤ 140737488355328) then
 bif decide ((0 : Int) ≤ ((List.length (a ++ c)) : Int)) then
 bif decide ((0 : Int) ≤ ((List.length (a ++ c)) : Int)) then
 bif decide ((0 : Int) ≤ ((List.length a) : Int)) then
 bif decide (Int.toNat ((List.length a) : Int) ≤ Int.toNat ((List.length (a ++ c)) : Int) ∧ Int.toNat ((List.length (a ++ c)) : Int) ≤ Int.toNat ((List.length (a ++ c)) : Int) ∧ Int.toNat ((List.length (a ++ c)) : Int) ≤ List.length (a ++ c) ∧ 0 + (List.length (a ++ c)) ≤ List.length (a ++ c)) then
 bif decide (List.length (a ++ c) = List.length (a ++ c)) then
 some ((((a ++ c), ()), (), ()), slice' (a ++ c) (Int.toNat ((List.length a) : Int)) (some (Int.toNat ((List.length (a ++ c)) : Int))))
 else none
 else none
 else none
 else none
 else none
 else none
 else none
def e106 (fu : Nat) : Ent := ⟨106, (.cons (.box 146 1 (.cons (.own .app 5 (.int .u8)) .nil)) (.cons (.hole (.sl (.int .u8))) .nil)), (.cons (.agg 1 (.cons (.own .app 5 (.int .u8)) .nil)) (.cons .dead .nil)), (.hole (.sl (.int .u8))), p106 fu⟩
def d106 (_ : Nat) : DC := (.seq (.region [opD 4 (.mov (.const vS))] [[]] false) (.seq (.seq (.region [mvD 7 1, opD 8 (.len false (tD 7)), opD 9 (.bin .eql (tD 8) (cD 0))] [[], [0], [1]] false) (.cond (.tmp 9) (.seq (.region [opD 4 (.mov (.const vS))] [[]] false) .ret) .skip)) (.seq (.region [mvD 10 0, opD 11 (.pure .nilc [(tD 10)]), opD 12 (.load false 1 (tD 11)), opD 13 (.len false (tD 12)), mvD 5 13] [[], [0], [1], [2], [3, 0, 1, 2, 3]] false) (.seq (.region [mvD 14 0, mvD 15 0, opD 16 (.pure .nilc [(tD 15)]), opD 17 (.load false 1 (tD 16)), mvD 18 1, oqD 19 (.app 5 1 [(.int .u8 0)] 1 (tD 17) (tD 18)) (.ty (.int .u8)), opD 20 (.pure .nilc [(tD 14)]), onD (.store 1 (tD 20) (tD 19))] [[], [], [1], [2], [], [3, 4], [0, 0, 1, 2, 3, 4, 5], [6, 5, 5, 0, 1, 2, 3, 4, 5]] false) (.seq (.region [mvD 21 0, opD 22 (.pure .nilc [(tD 21)]), opD 23 (.load false 1 (tD 22)), opD 24 (.len false (tD 23)), mvD 6 24] [[], [0], [1], [2], [3, 0, 1, 2, 3]] false) (.seq (.region [mvD 25 0, opD 26 (.pure .nilc [(tD 25)]), opD 27 (.load false 1 (tD 26)), mvD 28 5, mvD 29 6, mvD 30 6, opD 31 (.slc3 1 (tD 27) (some (tD 28)) (some (tD 29)) (some (tD 30))), mvD 4 31] [[], [0], [1], [], [], [], [2, 3, 4, 5], [6, 0, 1, 2, 3, 4, 5, 6]] false) .ret))))))
set_option maxRecDepth 1000000 in
theorem v106 (fu : Nat) : evF fu (d106 fu) rs106 32 (e106 fu).ash (e106 fu).osh (e106 fu).vsh = p106 fu := by kernel_rfl
set_option maxRecDepth 1000000 in
theorem b106 (fu : Nat) : BodyD Try.prog 106 32 (d106 fu).erase rs106 := bodyD_mk Try.func106 (by kernel_rfl) (by kernel_rfl) (by kernel_rfl) (by kernel_rfl)
theorem g106 (fu : Nat) : (e106 fu).Good Try.prog := good_by orders (b106 fu) (l := []) (by kernel_rfl) trivial (by kernel_rfl) (v106 fu)
def rs105 : List RVx := [(.cell 3 true 5)]
/-- gazette/copies.Records$1 -/
def p105 (fu : Nat) : ((Int) × ((ByteArray) × ((List (Int)) × ((Int) × ((Int) × (Unit)))))) × ((((List (Int)) × (Unit)) × (Unit)) × (Unit)) → Option ((((Unit) × (Unit)) × (((List (Int)) × (Unit)) × ((Unit) × (Unit)))) × ((Int) × ((ByteArray) × ((List (Int)) × ((Int) × ((Int) × (Unit))))))) := fun ⟨⟨a, c, f, h, i, _⟩, ⟨⟨j, _⟩, _⟩, _⟩ =>
bif decide (List.length j = List.length j) then
 Option.bind (p106 fu ((j, ()), f, ())) fun ⟨⟨⟨k, _⟩, _, _⟩, l⟩ =>
 bif decide (List.length k = List.length k) then
 some ((((), ()), (k, ()), (), ()), (a, c, l, h, i, ()))
 else none
else none
def e105 (fu : Nat) : Ent := ⟨105, (.cons Y16 (.cons (.box 142 1 (.cons (.box 146 1 (.cons (.own .app 5 (.int .u8)) .nil)) .nil)) .nil)), (.cons (.agg 1 (.cons (.ptr 1) .nil)) (.cons (.agg 1 (.cons (.own .app 5 (.int .u8)) .nil)) (.cons .dead .nil))), Y16, p105 fu⟩
def d105 (fu : Nat) : DC := (.seq (.region [opD 2 (.box 134 5 (tD 0)), opD 3 (.alloc 134 5 [vU, vT, vS, vU, vU])] [[], []] false) (.seq (.region [opD 4 (.load false 1 (tD 1)), opD 5 (.faddr 2 (tD 2)), opD 6 (.load false 1 (tD 5)), oqD 7 (.call 106 [(tD 4), (tD 6)]) (.ent (e106 fu)), opD 8 (.faddr 2 (tD 2)), onD (.store 1 (tD 8) (tD 7))] [[], [], [1], [0, 2], [0, 1, 2, 3], [4, 3, 3, 0, 1, 2, 3]] false) (.seq (.region [opD 9 (.load true 5 (tD 2)), onD (.store 5 (tD 3) (tD 9))] [[], [0, 0]] false) .ret)))
set_option maxRecDepth 1000000 in
theorem v105 (fu : Nat) : evF fu (d105 fu) rs105 10 (e105 fu).ash (e105 fu).osh (e105 fu).vsh = p105 fu := by kernel_rfl
set_option maxRecDepth 1000000 in
theorem b105 (fu : Nat) : BodyD Try.prog 105 10 (d105 fu).erase rs105 := bodyD_mk Try.func105 (by kernel_rfl) (by kernel_rfl) (by kernel_rfl) (by kernel_rfl)
theorem g105 (fu : Nat) : (e105 fu).Good Try.prog := good_by orders (b105 fu) (l := [e106 fu]) (by kernel_rfl) ⟨g106 fu, trivial⟩ (by kernel_rfl) (v105 fu)
def rs104 : List RVx := [(.tmp 4)]
/-- gazette/copies.Each[gazette/api.Record] -/
def p104 (fu : Nat) : (List (D_api_Record)) × (((Unit) × ((((List (Int)) × (Unit)) × (Unit)) × (Unit))) × (Unit)) → Option ((((Unit) × (Unit)) × (((List (Int)) × (Unit)) × ((Unit) × (Unit)))) × (List (D_api_Record))) := fun ⟨a, ⟨_, ⟨⟨⟨c, _⟩, _⟩, _⟩⟩, _⟩ =>
bif ((List.length a : Int) == (0 : Int)) then
 bif decide (List.length c = List.length c) then
 some ((((), ()), (c, ()), (), ()), [])
 else none
else
 bif decide ((0 : Int) ≤ (List.length a : Int) ∧ ((List.length a : Int) : Int) ≤ (List.length a : Int) ∧ ((List.length a : Int) : Int) ≤ 9223372036854775807 ∧ (64 : Int) * (List.length a : Int) ≤ 140737488355328) then
 bif decide (Int.toNat (List.length a : Int) = List.length (List.replicate (Int.toNat (List.length a : Int)) ((0 : Int), (⟨#[]⟩ : ByteArray), [], (0 : Int), (0 : Int)) : List (D_api_Record))) then
 bif decide (List.length c = List.length c) then
 loopO (S := ((List (D_api_Record)) × ((Int) × (Unit))) × (((Unit) × (Unit)) × (((List (Int)) × (Unit)) × (Unit)))) fu (fun ⟨⟨f, h, _⟩, ⟨⟨_, _⟩, ⟨i, _⟩, _⟩⟩ =>
 bif decide (h < (List.length a : Int)) then
 bif decide ((0 : Int) ≤ h ∧ h < (List.length a : Int)) then
 bif decide (Int.toNat h < List.length a) then
 bif decide (List.length i = List.length i) then
 Option.bind (p105 fu (((List.getD a (Int.toNat h) (dflt T_api_Record)).1, ((List.getD a (Int.toNat h) (dflt T_api_Record)).2).1, (((List.getD a (Int.toNat h) (dflt T_api_Record)).2).2).1, ((((List.getD a (Int.toNat h) (dflt T_api_Record)).2).2).2).1, ((((List.getD a (Int.toNat h) (dflt T_api_Record)).2).2).2).2, ()), ((i, ()), ()), ())) fun ⟨⟨⟨_, _⟩, ⟨j, _⟩, _, _⟩, ⟨k, l, m, n, o, _⟩⟩ =>
 bif decide ((0 : Int) ≤ h ∧ h < (List.length f : Int)) then
 bif decide (Int.toNat h < List.length f) then
 bif decide (List.length f = List.length (List.set f (Int.toNat h) (k, l, m, n, o))) then
 bif decide (List.length j = List.length j) then
 some (.inl (((List.set f (Int.toNat h) (k, l, m, n, o)), IntKind.wrap .i64 (h + (1 : Int)), ()), (((), ()), (j, ()), ())))
 else none
 else none
 else none
 else none
 else none
 else none
 else none
 else
 inrO (bif decide (List.length i = List.length i) then
 bif decide (List.length f = List.length f) then
 some ((((), ()), (i, ()), (), ()), f)
 else none
 else none))
 (((List.replicate (Int.toNat (List.length a : Int)) ((0 : Int), (⟨#[]⟩ : ByteArray), [], (0 : Int), (0 : Int)) : List (D_api_Record)), (0 : Int), ()), (((), ()), (c, ()), ()))
 else none
 else none
 else none
def e104 (fu : Nat) : Ent := ⟨104, (.cons (.hole (.sl T_api_Record)) (.cons (.clo 105 0 .nil 1 (.cons (.box 142 1 (.cons (.box 146 1 (.cons (.own .app 5 (.int .u8)) .nil)) .nil)) .nil)) .nil)), (.cons (.agg 1 (.cons (.ptr 1) .nil)) (.cons (.agg 1 (.cons (.own .app 5 (.int .u8)) .nil)) (.cons .dead .nil))), (.own .own 134 T_api_Record), p104 fu⟩
def d104 (fu : Nat) : DC := (.seq (.region [opD 4 (.mov (.const vS))] [[]] false) (.seq (.seq (.region [mvD 8 0, opD 9 (.len false (tD 8)), opD 10 (.bin .eql (tD 9) (cD 0))] [[], [0], [1]] false) (.cond (.tmp 10) (.seq (.region [opD 4 (.mov (.const vS))] [[]] false) .ret) .skip)) (.seq (.region [mvD 11 0, opD 12 (.len false (tD 11)), oqD 13 (.make false 134 5 [vU, vT, vS, vU, vU] 64 (tD 12) (tD 12)) (.ty T_api_Record), mvD 5 13] [[], [0], [1, 1], [2, 0, 1, 2]] false) (.seq (.seq (.region [mvD 14 0, opD 15 (.len false (tD 14)), opD 16 (.mov (cD 0))] [[], [0], []] false) (.block 0 (.loop ⟨[5, 16], (.cons (.own .own 134 T_api_Record) (.cons (.hole (.int .i64)) .nil)), [(0, 142, 1), (1, 146, 1)], (.cons (.agg 1 (.cons (.ptr 1) .nil)) (.cons (.agg 1 (.cons (.own .app 5 (.int .u8)) .nil)) .nil)), [1, 14, 15], [2]⟩
 (.seq (.region [opD 17 (.bin .lss (tD 16) (tD 15))] [[]] false) (.seq (.cond (.tmp 17) .skip (.exit 0)) (.seq (.block 1 (.seq (.region [mvD 18 16, opD 19 (.iaddr 5 (tD 14) (tD 16)), opD 20 (.load true 5 (tD 19)), opD 7 (.alloc 134 5 [vU, vT, vS, vU, vU]), mvD 6 18, onD (.store 5 (tD 7) (tD 20))] [[], [], [1], [], [0, 0, 1, 2, 3], [3, 2, 4, 0, 1, 2, 3, 4]] false) (.region [mvD 21 5, mvD 22 6, mvD 23 1, opD 24 (.load true 5 (tD 7)), oqD 25 (.callv (tD 23) [(tD 24)]) (.ent (e105 fu)), opD 26 (.iaddr 5 (tD 21) (tD 22)), onD (.store 5 (tD 26) (tD 25))] [[], [], [], [], [2, 3], [0, 1, 0, 1, 2, 3, 4], [5, 4, 4, 0, 1, 2, 3, 4]] false))) (.region [opD 27 (.bin .add (tD 16) (cD 1)), mvD 16 27] [[], [0]] false))))))) (.seq (.region [mvD 28 5, mvD 4 28] [[], [0, 0]] false) .ret)))))
set_option maxRecDepth 1000000 in
theorem v104 (fu : Nat) : evF fu (d104 fu) rs104 29 (e104 fu).ash (e104 fu).osh (e104 fu).vsh = p104 fu := by kernel_rfl
set_option maxRecDepth 1000000 in
theorem b104 (fu : Nat) : BodyD Try.prog 104 29 (d104 fu).erase rs104 := bodyD_mk Try.func104 (by kernel_rfl) (by kernel_rfl) (by kernel_rfl) (by kernel_rfl)
theorem g104 (fu : Nat) : (e104 fu).Good Try.prog := good_by orders (b104 fu) (l := [e105 fu]) (by kernel_rfl) ⟨g105 fu, trivial⟩ (by kernel_rfl) (v104 fu)
def rs98 : List RVx := [(.tmp 2)]
/-- gazette/copies.Records -/
def p98 (fu : Nat) : (List (D_api_Record)) × (Unit) → Option ((Unit) × (List (D_api_Record))) := fun ⟨a, _⟩ =>
loopO (S := ((Int) × ((Int) × (Unit))) × (Unit)) fu (fun ⟨⟨c, f, _⟩, _⟩ =>
 bif decide (f < (List.length a : Int)) then
 bif decide ((0 : Int) ≤ f ∧ f < (List.length a : Int)) then
 bif decide (Int.toNat f < List.length a) then
 some (.inl ((IntKind.wrap .i64 (c + (List.length ((((List.getD a (Int.toNat f) (dflt T_api_Record)).2).2).1) : Int)), IntKind.wrap .i64 (f + (1 : Int)), ()), ()))
 else none
 else none
 else
 inrO (Option.bind (p103 fu (c, ())) fun ⟨_, ⟨h, _⟩⟩ =>
 bif decide (List.length h = List.length h) then
 Option.bind (p104 fu (a, ((), (((h, ()), ()), ())), ())) fun ⟨⟨⟨_, _⟩, ⟨_, _⟩, _, _⟩, i⟩ =>
 bif decide (List.length i = List.length i) then
 some ((), i)
 else none
 else none))
 (((0 : Int), (0 : Int), ()), ())
def e98 (fu : Nat) : Ent := ⟨98, (.cons (.hole (.sl T_api_Record)) .nil), .nil, (.own .own 134 T_api_Record), p98 fu⟩
def d98 (fu : Nat) : DC := (.seq (.region [opD 2 (.mov (.const vS))] [[]] false) (.seq (.region [opD 3 (.mov (cD 0))] [[]] false) (.seq (.seq (.region [mvD 6 0, opD 7 (.len false (tD 6)), opD 8 (.mov (cD 0))] [[], [0], []] false) (.block 0 (.loop ⟨[3, 8], (.cons (.hole (.int .i64)) (.cons (.hole (.int .i64)) .nil)), [], .nil, [0, 7], []⟩
 (.seq (.region [opD 9 (.bin .lss (tD 8) (tD 7))] [[]] false) (.seq (.cond (.tmp 9) .skip (.exit 0)) (.seq (.block 1 (.seq (.region [mvD 10 8, mvD 4 10] [[], [0, 0]] false) (.region [mvD 11 3, mvD 12 0, mvD 13 4, opD 14 (.iaddr 5 (tD 12) (tD 13)), opD 15 (.faddr 2 (tD 14)), opD 16 (.load false 1 (tD 15)), opD 17 (.len false (tD 16)), opD 18 (.bin .add (tD 11) (tD 17)), mvD 3 18] [[], [], [], [1, 2], [3], [4], [5], [0, 6], [7, 0, 1, 2, 3, 4, 5, 6, 7]] false))) (.region [opD 19 (.bin .add (tD 8) (cD 1)), mvD 8 19] [[], [0]] false))))))) (.seq (.region [mvD 20 3, oqD 21 (.call 103 [(tD 20)]) (.ent (e103 fu)), opD 5 (.alloc 142 1 [(.pointer none)]), onD (.store 1 (tD 5) (tD 21))] [[], [0], [], [2, 1, 1, 0, 1, 2]] false) (.seq (.region [mvD 22 0, opD 23 (.fn 105 [] [(tD 5)]), oqD 24 (.call 104 [(tD 22), (tD 23)]) (.ent (e104 fu)), mvD 2 24] [[], [], [0, 1], [2, 2, 0, 1, 2]] false) .ret)))))
set_option maxRecDepth 1000000 in
theorem v98 (fu : Nat) : evF fu (d98 fu) rs98 25 (e98 fu).ash (e98 fu).osh (e98 fu).vsh = p98 fu := by kernel_rfl
set_option maxRecDepth 1000000 in
theorem b98 (fu : Nat) : BodyD Try.prog 98 25 (d98 fu).erase rs98 := bodyD_mk Try.func98 (by kernel_rfl) (by kernel_rfl) (by kernel_rfl) (by kernel_rfl)
theorem g98 (fu : Nat) : (e98 fu).Good Try.prog := good_by orders (b98 fu) (l := [e103 fu, e104 fu]) (by kernel_rfl) ⟨g103 fu, g104 fu, trivial⟩ (by kernel_rfl) (v98 fu)
def rs87 : List RVx := [(.cell 2 true 12)]
/-- gazette/copies.Reply -/
def p87 (fu : Nat) : (Z4) × (Unit) → Option ((Unit) × ((Int) × ((Int) × ((Int) × ((Int) × ((Int) × ((Bool) × ((List (D_api_Record)) × ((Int) × ((List (D_api_Shard)) × ((Int) × ((Int) × ((Int) × (Unit)))))))))))))) := fun ⟨⟨a, c, f, h, i, j, k, l, m, n, o, q, _⟩, _⟩ =>
Option.bind (p98 fu (k, ())) fun ⟨_, s⟩ =>
Option.bind (p61 fu (m, ())) fun ⟨_, t⟩ =>
bif decide (List.length s = List.length s) then
 bif decide (List.length t = List.length t) then
 some ((), (a, c, f, h, i, j, s, l, t, n, o, q, ()))
 else none
else none
def e87 (fu : Nat) : Ent := ⟨87, (.cons Y17 .nil), .nil, Y18, p87 fu⟩
def d87 (fu : Nat) : DC := (.seq (.region [opD 1 (.box 48 12 (tD 0)), opD 2 (.alloc 48 12 [vU, vI, vI, vI, vU, vB, vS, vU, vS, vU, vU, vU])] [[], []] false) (.seq (.region [opD 3 (.faddr 3 (tD 1)), opD 4 (.faddr 3 (tD 3)), opD 5 (.load false 1 (tD 4)), oqD 6 (.call 98 [(tD 5)]) (.ent (e98 fu)), opD 7 (.faddr 3 (tD 1)), opD 8 (.faddr 3 (tD 7)), onD (.store 1 (tD 8) (tD 6))] [[], [0], [1], [2], [0, 1, 2, 3], [4, 0, 1, 2, 3], [5, 3, 3, 0, 1, 2, 3]] false) (.seq (.region [opD 9 (.faddr 8 (tD 1)), opD 10 (.load false 1 (tD 9)), oqD 11 (.call 61 [(tD 10)]) (.ent (e61 fu)), opD 12 (.faddr 8 (tD 1)), onD (.store 1 (tD 12) (tD 11))] [[], [0], [1], [0, 1, 2], [3, 2, 2, 0, 1, 2]] false) (.seq (.region [opD 13 (.load true 12 (tD 1)), onD (.store 12 (tD 2) (tD 13))] [[], [0, 0]] false) .ret))))
set_option maxRecDepth 1000000 in
theorem v87 (fu : Nat) : evF fu (d87 fu) rs87 14 (e87 fu).ash (e87 fu).osh (e87 fu).vsh = p87 fu := by kernel_rfl
set_option maxRecDepth 1000000 in
theorem b87 (fu : Nat) : BodyD Try.prog 87 14 (d87 fu).erase rs87 := bodyD_mk Try.func87 (by kernel_rfl) (by kernel_rfl) (by kernel_rfl) (by kernel_rfl)
theorem g87 (fu : Nat) : (e87 fu).Good Try.prog := good_by orders (b87 fu) (l := [e98 fu, e61 fu]) (by kernel_rfl) ⟨g98 fu, g61 fu, trivial⟩ (by kernel_rfl) (v87 fu)
def rs69 : List RVx := []
/-- (*gazette/client.client).end -/
def p69 (fu : Nat) : (Z0) × ((Z4) × (Unit)) → Option (((Z19) × ((Unit) × ((Unit) × ((Unit) × ((Unit) × ((Unit) × (Unit))))))) × (Unit)) := fun ⟨⟨a, c, f, h, i, j, _, _, _, _, _, _, _, _, _, _, _, _, _, _, _, _, _, _, _, _, k, _, _, _, _, _, l, m, n, o, q, s, t, u, w, x, y, _, z, a0, c0, f0, h0, i0, j0, k0, _, l0, m0, n0, o0, q0, s0, t0, u0, _, _, _, _, _, _, _, _, _, _, _, _, _, _⟩, ⟨w0, x0, y0, z0, a1, c1, f1, h1, i1, j1, k1, l1, _⟩, _⟩ =>
Option.bind (p87 fu ((w0, x0, y0, z0, a1, c1, f1, h1, i1, j1, k1, l1, ()), ())) fun ⟨_, ⟨m1, n1, o1, q1, s1, t1, u1, w1, x1, y1, z1, a2, _⟩⟩ =>
bif decide (List.length c = List.length c) then
 bif decide (List.length i = List.length i) then
 bif decide (List.length j = List.length j) then
 bif decide (List.length u1 = List.length u1) then
 bif decide (List.length x1 = List.length x1) then
 some (((a, c, f, h, i, j, false, (0 : Int), (⟨#[]⟩ : ByteArray), (⟨#[]⟩ : ByteArray), (), (0 : Int), (0 : Int), (⟨#[]⟩ : ByteArray), (0 : Int), (0 : Int), (0 : Int), (⟨#[]⟩ : ByteArray), (), (0 : Int), (0 : Int), (⟨#[]⟩ : ByteArray), (0 : Int), (0 : Int), (0 : Int), (0 : Int), k, false, (0 : Int), (0 : Int), (0 : Int), false, l, m, n, o, q, s, t, u, w, x, y, (), z, a0, c0, f0, h0, i0, j0, k0, (), l0, m0, n0, o0, q0, s0, t0, u0, true, m1, n1, o1, q1, s1, t1, u1, w1, x1, y1, z1, a2, ()), (), (), (), (), (), ()), ())
 else none
 else none
 else none
 else none
else none
def e69 (fu : Nat) : Ent := ⟨69, (.cons Y20 (.cons Y17 .nil)), (.cons Y21 (.cons .dead (.cons .dead (.cons .dead (.cons .dead (.cons .dead .nil)))))), (.tup 0 .nil), p69 fu⟩
def d69 (fu : Nat) : DC := (.seq (.region [opD 3 (.box 48 12 (tD 1))] [[]] false) (.seq (.region [mvD 4 0, mvD 5 0, opD 6 (.load true 12 (tD 3)), oqD 7 (.call 87 [(tD 6)]) (.ent (e87 fu)), opD 8 (.pure .nilc [(tD 4)]), opD 9 (.faddr 33 (tD 8)), opD 10 (.faddr 28 (tD 9)), onD (.store 1 (tD 10) (.const (.bool true))), opD 11 (.pure .nilc [(tD 5)]), opD 12 (.faddr 33 (tD 11)), opD 13 (.faddr 29 (tD 12)), onD (.store 12 (tD 13) (tD 7))] [[], [], [], [2], [0, 0, 3], [4, 0, 3], [5, 0, 3], [6, 3, 0, 3], [1, 0, 1, 2, 3, 4, 5, 6, 7], [8, 0, 1, 2, 3, 4, 5, 6, 7], [9, 0, 1, 2, 3, 4, 5, 6, 7], [10, 3, 7, 0, 1, 2, 3, 4, 5, 6, 7]] false) (.seq (.region [mvD 14 0, mvD 15 0, mvD 16 0, opD 17 (.pure .nilc [(tD 14)]), opD 18 (.faddr 0 (tD 17)), opD 19 (.faddr 6 (tD 18)), onD (.store 1 (tD 19) (.const vB)), opD 20 (.pure .nilc [(tD 15)]), opD 21 (.faddr 0 (tD 20)), opD 22 (.faddr 27 (tD 21)), onD (.store 1 (tD 22) (.const vB)), opD 23 (.pure .nilc [(tD 16)]), opD 24 (.faddr 0 (tD 23)), opD 25 (.faddr 31 (tD 24)), onD (.store 1 (tD 25) (.const vB))] [[], [], [], [0, 0], [3, 0], [4, 0], [5, 0], [1, 0, 1, 3, 4, 5, 6], [7, 0, 1, 3, 4, 5, 6], [8, 0, 1, 3, 4, 5, 6], [9, 6, 0, 1, 3, 4, 5, 6], [2, 0, 1, 2, 3, 4, 5, 6, 7, 8, 9, 10], [11, 0, 1, 2, 3, 4, 5, 6, 7, 8, 9, 10], [12, 0, 1, 2, 3, 4, 5, 6, 7, 8, 9, 10], [13, 10, 0, 1, 2, 3, 4, 5, 6, 7, 8, 9, 10]] false) (.seq (.region [mvD 26 0, opD 27 (.build 19 [vI, vT, vT, vS, vU, vI, vT, vI, vU, vU, vT, vS, vU, vU, vT, vI, vI, vU, vI] []), opD 28 (.pure .nilc [(tD 26)]), opD 29 (.faddr 0 (tD 28)), opD 30 (.faddr 7 (tD 29)), onD (.store 19 (tD 30) (tD 27))] [[], [], [0, 0, 1], [2, 0, 1], [3, 0, 1], [4, 1, 0, 1]] false) (.region [mvD 31 0, mvD 32 0, mvD 33 0, opD 34 (.pure .nilc [(tD 31)]), opD 35 (.faddr 0 (tD 34)), opD 36 (.faddr 28 (tD 35)), onD (.store 1 (tD 36) (.const vU)), opD 37 (.pure .nilc [(tD 32)]), opD 38 (.faddr 0 (tD 37)), opD 39 (.faddr 29 (tD 38)), onD (.store 1 (tD 39) (cD 0)), opD 40 (.pure .nilc [(tD 33)]), opD 41 (.faddr 0 (tD 40)), opD 42 (.faddr 30 (tD 41)), onD (.store 1 (tD 42) (cD 0))] [[], [], [], [0, 0], [3, 0], [4, 0], [5, 0], [1, 0, 1, 3, 4, 5, 6], [7, 0, 1, 3, 4, 5, 6], [8, 0, 1, 3, 4, 5, 6], [9, 6, 0, 1, 3, 4, 5, 6], [2, 0, 1, 2, 3, 4, 5, 6, 7, 8, 9, 10], [11, 0, 1, 2, 3, 4, 5, 6, 7, 8, 9, 10], [12, 0, 1, 2, 3, 4, 5, 6, 7, 8, 9, 10], [13, 10, 0, 1, 2, 3, 4, 5, 6, 7, 8, 9, 10]] false)))))
set_option maxRecDepth 1000000 in
theorem v69 (fu : Nat) : evF fu (d69 fu) rs69 43 (e69 fu).ash (e69 fu).osh (e69 fu).vsh = p69 fu := by kernel_rfl
set_option maxRecDepth 1000000 in
theorem b69 (fu : Nat) : BodyD Try.prog 69 43 (d69 fu).erase rs69 := bodyD_mk Try.func69 (by kernel_rfl) (by kernel_rfl) (by kernel_rfl) (by kernel_rfl)
theorem g69 (fu : Nat) : (e69 fu).Good Try.prog := good_by orders (b69 fu) (l := [e87 fu]) (by kernel_rfl) ⟨g87 fu, trivial⟩ (by kernel_rfl) (v69 fu)
def rs72 : List RVx := []
/-- (*gazette/client.client).giveUp -/
def p72 (fu : Nat) : (Z0) × (Unit) → Option (((Z19) × ((Unit) × ((Unit) × ((Unit) × ((Unit) × ((Unit) × (Unit))))))) × (Unit)) := fun ⟨⟨a, c, f, h, i, j, k, l, m, n, o, q, s, t, u, w, x, y, z, a0, c0, f0, h0, i0, j0, k0, l0, m0, n0, o0, q0, s0, t0, u0, w0, x0, y0, z0, a1, c1, f1, h1, i1, _, j1, k1, l1, m1, n1, o1, q1, s1, _, t1, u1, w1, x1, y1, z1, a2, c2, f2, h2, i2, j2, k2, l2, m2, _, n2, _, o2, q2, s2, _⟩, _⟩ =>
bif decide (List.length c = List.length c) then
 bif decide (List.length i = List.length i) then
 bif decide (List.length j = List.length j) then
 bif decide (List.length o = List.length o) then
 bif decide (List.length z = List.length z) then
 Option.bind (p69 fu ((a, c, f, h, i, j, k, l, m, n, o, q, s, t, u, w, x, y, z, a0, c0, f0, h0, i0, j0, k0, l0, m0, n0, o0, q0, s0, t0, u0, w0, x0, y0, z0, a1, c1, f1, h1, i1, (), j1, k1, l1, m1, n1, o1, q1, s1, (), t1, u1, w1, x1, y1, z1, a2, c2, f2, h2, i2, j2, k2, l2, m2, (), n2, (), o2, q2, s2, ()), ((0 : Int), (213 : Int), (0 : Int), (0 : Int), (0 : Int), false, [], (0 : Int), [], (0 : Int), (0 : Int), (0 : Int), ()), ())) fun ⟨⟨⟨t2, u2, w2, x2, y2, z2, a3, c3, f3, h3, _, i3, j3, k3, l3, m3, n3, o3, _, q3, s3, t3, u3, w3, x3, y3, z3, a4, c4, f4, h4, i4, j4, k4, l4, m4, n4, o4, q4, s4, t4, u4, w4, _, x4, y4, z4, a5, c5, f5, h5, i5, _, j5, k5, l5, m5, n5, o5, q5, s5, t5, u5, w5, x5, y5, z5, a6, c6, f6, h6, i6, j6, k6, _⟩, _, _, _, _, _, _⟩, _⟩ =>
 bif decide (List.length u2 = List.length u2) then
 bif decide (List.length y2 = List.length y2) then
 bif decide (List.length z2 = List.length z2) then
 bif decide (List.length c6 = List.length c6) then
 bif decide (List.length h6 = List.length h6) then
 some (((t2, u2, w2, x2, y2, z2, a3, c3, f3, h3, (), i3, j3, k3, l3, m3, n3, o3, (), q3, s3, t3, u3, w3, x3, y3, z3, a4, c4, f4, h4, i4, j4, k4, l4, m4, n4, o4, q4, s4, t4, u4, w4, (), x4, y4, z4, a5, c5, f5, h5, i5, (), j5, k5, l5, m5, n5, o5, q5, s5, t5, u5, w5, x5, y5, z5, a6, c6, f6, h6, i6, j6, k6, ()), (), (), (), (), (), ()), ())
 else none
 else none
 else none
 else none
 else none
 else none
 else none
 else none
 else none
else none
def e72 (fu : Nat) : Ent := ⟨72, (.cons Y20 .nil), (.cons Y21 (.cons .dead (.cons .dead (.cons .dead (.cons .dead (.cons .dead .nil)))))), (.tup 0 .nil), p72 fu⟩
def d72 (fu : Nat) : DC := (.region [mvD 2 0, opD 3 (.build 12 [vU, vI, vI, vI, vU, vB, vS, vU, vS, vU, vU, vU] [(1, (1, (cD 213)))]), oqD 4 (.call 69 [(tD 2), (tD 3)]) (.ent (e69 fu))] [[], [], [0, 1]] false)
set_option maxRecDepth 1000000 in
theorem v72 (fu : Nat) : evF fu (d72 fu) rs72 5 (e72 fu).ash (e72 fu).osh (e72 fu).vsh = p72 fu := by kernel_rfl
set_option maxRecDepth 1000000 in
theorem b72 (fu : Nat) : BodyD Try.prog 72 5 (d72 fu).erase rs72 := bodyD_mk Try.func72 (by kernel_rfl) (by kernel_rfl) (by kernel_rfl) (by kernel_rfl)
theorem g72 (fu : Nat) : (e72 fu).Good Try.prog := good_by orders (b72 fu) (l := [e69 fu]) (by kernel_rfl) ⟨g69 fu, trivial⟩ (by kernel_rfl) (v72 fu)
def rs86 : List RVx := [(.tmp 2)]
/-- gazette/client.ofGroup -/
def p86 (_ : Nat) : (Int) × (Unit) → Option ((Unit) × ((Unit) × (((Int) × (Unit)) × (Unit)))) := fun ⟨a, _⟩ =>
some ((), ((), ((a, ()), ())))
def e86 (fu : Nat) : Ent := ⟨86, (.cons (.hole (.int .u64)) .nil), .nil, (.clo 97 0 .nil 1 (.cons (.box 23 1 (.cons (.hole (.int .u64)) .nil)) .nil)), p86 fu⟩
def d86 (_ : Nat) : DC := (.seq (.region [opD 1 (.box 23 1 (tD 0)), opD 2 (.mov (.const .nilFunc))] [[], []] false) (.seq (.region [opD 3 (.fn 97 [] [(tD 1)]), mvD 2 3] [[], [0, 0]] false) .ret))
set_option maxRecDepth 1000000 in
theorem v86 (fu : Nat) : evF fu (d86 fu) rs86 4 (e86 fu).ash (e86 fu).osh (e86 fu).vsh = p86 fu := by kernel_rfl
set_option maxRecDepth 1000000 in
theorem b86 (fu : Nat) : BodyD Try.prog 86 4 (d86 fu).erase rs86 := bodyD_mk Try.func86 (by kernel_rfl) (by kernel_rfl) (by kernel_rfl) (by kernel_rfl)
theorem g86 (fu : Nat) : (e86 fu).Good Try.prog := good_by orders (b86 fu) (l := []) (by kernel_rfl) trivial (by kernel_rfl) (v86 fu)
def rs97 : List RVx := [(.tmp 3)]
/-- gazette/client.ofGroup$1 -/
def p97 (_ : Nat) : ((Int) × ((Int) × (Unit))) × (((Int) × (Unit)) × (Unit)) → Option ((Unit) × (Bool)) := fun ⟨⟨a, _, _⟩, ⟨c, _⟩, _⟩ =>
some ((), (a == c))
def e97 (fu : Nat) : Ent := ⟨97, (.cons (.agg 2 (.cons (.hole (.int .u64)) (.cons (.hole (.int .i64)) .nil))) (.cons (.look (.cons (.hole (.int .u64)) .nil)) .nil)), .nil, (.hole .bool), p97 fu⟩
def d97 (_ : Nat) : DC := (.seq (.region [opD 2 (.box 84 2 (tD 0)), opD 3 (.mov (.const vB))] [[], []] false) (.seq (.region [opD 4 (.faddr 0 (tD 2)), opD 5 (.load false 1 (tD 4)), opD 6 (.load false 1 (tD 1)), opD 7 (.bin .eql (tD 5) (tD 6)), mvD 3 7] [[], [0], [], [1, 2], [3, 0, 1, 2, 3]] false) .ret))
set_option maxRecDepth 1000000 in
theorem v97 (fu : Nat) : evF fu (d97 fu) rs97 8 (e97 fu).ash (e97 fu).osh (e97 fu).vsh = p97 fu := by kernel_rfl
set_option maxRecDepth 1000000 in
theorem b97 (fu : Nat) : BodyD Try.prog 97 8 (d97 fu).erase rs97 := bodyD_mk Try.func97 (by kernel_rfl) (by kernel_rfl) (by kernel_rfl) (by kernel_rfl)
theorem g97 (fu : Nat) : (e97 fu).Good Try.prog := good_by orders (b97 fu) (l := []) (by kernel_rfl) trivial (by kernel_rfl) (v97 fu)
def rs96 : List RVx := [(.tmp 4)]
/-- slices.IndexFunc[[]gazette/api.Site,gazette/api.Site] -/
def p96 (fu : Nat) : (List (D_api_Site)) × (((Unit) × (((Int) × (Unit)) × (Unit))) × (Unit)) → Option ((((Int) × (Unit)) × (Unit)) × (Int)) := fun ⟨a, ⟨_, ⟨⟨c, _⟩, _⟩⟩, _⟩ =>
loopO (S := ((Int) × (Unit)) × (Unit)) fu (fun ⟨⟨f, _⟩, _⟩ =>
 bif decide (f < (List.length a : Int)) then
 bif decide ((0 : Int) ≤ f ∧ f < (List.length a : Int)) then
 bif decide (Int.toNat f < List.length a) then
 Option.bind (p97 fu (((List.getD a (Int.toNat f) (dflt T_api_Site)).1, (List.getD a (Int.toNat f) (dflt T_api_Site)).2, ()), (c, ()), ())) fun ⟨_, h⟩ =>
 bif h then
 inrO (some (((c, ()), ()), f))
 else
 some (.inl ((IntKind.wrap .i64 (f + (1 : Int)), ()), ()))
 else none
 else none
 else
 inrO (some (((c, ()), ()), ((-1) : Int))))
 (((0 : Int), ()), ())
def e96 (fu : Nat) : Ent := ⟨96, (.cons (.hole (.sl T_api_Site)) (.cons (.clo 97 0 .nil 1 (.cons (.box 23 1 (.cons (.hole (.int .u64)) .nil)) .nil)) .nil)), (.cons (.agg 1 (.cons (.hole (.int .u64)) .nil)) .nil), (.hole (.int .i64)), p96 fu⟩
def d96 (fu : Nat) : DC := (.seq (.region [opD 4 (.mov (cD 0))] [[]] false) (.seq (.seq (.region [mvD 6 0, opD 7 (.len false (tD 6)), opD 8 (.mov (cD 0))] [[], [0], []] false) (.block 0 (.loop ⟨[8], (.cons (.hole (.int .i64)) .nil), [], .nil, [0, 1, 7], [0]⟩
 (.seq (.region [opD 9 (.bin .lss (tD 8) (tD 7))] [[]] false) (.seq (.cond (.tmp 9) .skip (.exit 0)) (.seq (.block 1 (.seq (.region [mvD 10 8, mvD 5 10] [[], [0, 0]] false) (.seq (.region [mvD 11 1, mvD 12 0, mvD 13 5, opD 14 (.iaddr 2 (tD 12) (tD 13)), opD 15 (.load true 2 (tD 14)), oqD 16 (.callv (tD 11) [(tD 15)]) (.ent (e97 fu))] [[], [], [], [1, 2], [3], [0, 4]] false) (.cond (.tmp 16) (.seq (.region [mvD 17 5, mvD 4 17] [[], [0, 0]] false) .ret) .skip)))) (.region [opD 18 (.bin .add (tD 8) (cD 1)), mvD 8 18] [[], [0]] false))))))) (.seq (.region [opD 4 (.mov (.const (.int .i64 (-1))))] [[]] false) .ret)))
set_option maxRecDepth 1000000 in
theorem v96 (fu : Nat) : evF fu (d96 fu) rs96 19 (e96 fu).ash (e96 fu).osh (e96 fu).vsh = p96 fu := by kernel_rfl
set_option maxRecDepth 1000000 in
theorem b96 (fu : Nat) : BodyD Try.prog 96 19 (d96 fu).erase rs96 := bodyD_mk Try.func96 (by kernel_rfl) (by kernel_rfl) (by kernel_rfl) (by kernel_rfl)
theorem g96 (fu : Nat) : (e96 fu).Good Try.prog := good_by orders (b96 fu) (l := [e97 fu]) (by kernel_rfl) ⟨g97 fu, trivial⟩ (by kernel_rfl) (v96 fu)
def rs91 : List RVx := [(.tmp 2)]
/-- (*gazette/client.client).server -/
def p91 (_ : Nat) : (Z22) × (Unit) → Option ((Unit) × (Int)) := fun ⟨⟨_, a, _, _, _, _, _, _, _, _, _, _, _, _, _, _, _, _, _, _, _, _, _, _, _, _, _, _, _, _, _, _, c, _, _, _, _, _, _, _, _, _, _, _, _, _, _, _, _, _, _, _, _, _, _, _, _, _, _, _, _, _, _, _, _, _, _, _, _, _, _, _, _, _, _⟩, _⟩ =>
bif ((List.length a : Int) == (0 : Int)) then
 some ((), (0 : Int))
else
 bif !((List.length a : Int) == 0) then
 bif !((List.length a : Int) == 0) then
 bif decide ((0 : Int) ≤ Int.tmod (IntKind.wrap .i64 ((Int.tmod c (List.length a : Int)) + (List.length a : Int))) (List.length a : Int) ∧ Int.tmod (IntKind.wrap .i64 ((Int.tmod c (List.length a : Int)) + (List.length a : Int))) (List.length a : Int) < (List.length a : Int)) then
 bif decide (Int.toNat (Int.tmod (IntKind.wrap .i64 ((Int.tmod c (List.length a : Int)) + (List.length a : Int))) (List.length a : Int)) < List.length a) then
 some ((), (List.getD a (Int.toNat (Int.tmod (IntKind.wrap .i64 ((Int.tmod c (List.length a : Int)) + (List.length a : Int))) (List.length a : Int))) (dflt (.int .i64))))
 else none
 else none
 else none
 else none
def e91 (fu : Nat) : Ent := ⟨91, (.cons (.look (.cons (.hole (.int .i64)) (.cons (.hole (.sl (.int .i64))) (.cons (.hole (.int .u64)) (.cons (.hole (.int .u64)) (.cons (.hole (.sl T_api_Topic)) (.cons (.hole (.sl T_api_Site)) (.cons (.hole .bool) (.cons (.hole (.int .i64)) (.cons (.hole .str) (.cons (.hole .str) (.cons (.hole (.sl (.int .u8))) (.cons (.hole (.int .u64)) (.cons (.hole (.int .i64)) (.cons (.hole .str) (.cons (.hole (.int .i64)) (.cons (.hole (.int .u64)) (.cons (.hole (.int .u64)) (.cons (.hole .str) (.cons (.hole (.sl (.int .i64))) (.cons (.hole (.int .u64)) (.cons (.hole (.int .u64)) (.cons (.hole .str) (.cons (.hole (.int .i64)) (.cons (.hole (.int .i64)) (.cons (.hole (.int .u64)) (.cons (.hole (.int .i64)) (.cons (.hole (.int .u64)) (.cons (.hole .bool) (.cons (.hole (.int .u64)) (.cons (.hole (.int .i64)) (.cons (.hole (.int .i64)) (.cons (.hole .bool) (.cons (.hole (.int .i64)) (.cons (.hole .bool) (.cons (.hole (.int .i64)) (.cons (.hole (.int .u64)) (.cons (.hole (.int .i64)) (.cons (.hole (.int .u64)) (.cons (.hole (.int .i64)) (.cons (.hole (.int .u64)) (.cons (.hole (.int .u64)) (.cons (.hole (.int .u64)) (.cons (.hole .str) (.cons (.hole (.sl (.int .u8))) (.cons (.hole (.int .u64)) (.cons (.hole (.int .i64)) (.cons (.hole .str) (.cons (.hole (.int .u64)) (.cons (.hole (.int .i64)) (.cons (.hole (.int .u64)) (.cons (.hole (.int .u64)) (.cons (.hole .str) (.cons (.hole (.sl (.int .i64))) (.cons (.hole (.int .u64)) (.cons (.hole (.int .u64)) (.cons (.hole .str) (.cons (.hole (.int .i64)) (.cons (.hole (.int .i64)) (.cons (.hole (.int .u64)) (.cons (.hole (.int .i64)) (.cons (.hole .str) (.cons (.hole .bool) (.cons (.hole (.int .u64)) (.cons (.hole (.int .i64)) (.cons (.hole (.int .i64)) (.cons (.hole (.int .i64)) (.cons (.hole (.int .u64)) (.cons (.hole .bool) (.cons (.hole (.sl T_api_Record)) (.cons (.hole (.int .u64)) (.cons (.hole (.sl T_api_Shard)) (.cons (.hole (.int .u64)) (.cons (.hole (.int .u64)) (.cons (.hole (.int .u64)) .nil))))))))))))))))))))))))))))))))))))))))))))))))))))))))))))))))))))))))))) .nil), .nil, (.hole (.int .i64)), p91 fu⟩
def d91 (_ : Nat) : DC := (.seq (.region [opD 2 (.mov (cD 0))] [[]] false) (.seq (.region [mvD 4 0, opD 5 (.pure .nilc [(tD 4)]), opD 6 (.faddr 0 (tD 5)), opD 7 (.faddr 1 (tD 6)), opD 8 (.load false 1 (tD 7)), opD 9 (.len false (tD 8)), mvD 3 9] [[], [0], [1], [2], [3], [4], [5, 0, 1, 2, 3, 4, 5]] false) (.seq (.seq (.region [mvD 10 3, opD 11 (.bin .eql (tD 10) (cD 0))] [[], [0]] false) (.cond (.tmp 11) (.seq (.region [opD 2 (.mov (cD 0))] [[]] false) .ret) .skip)) (.seq (.region [mvD 12 0, opD 13 (.pure .nilc [(tD 12)]), opD 14 (.faddr 0 (tD 13)), opD 15 (.faddr 1 (tD 14)), opD 16 (.load false 1 (tD 15)), mvD 17 0, opD 18 (.pure .nilc [(tD 17)]), opD 19 (.faddr 0 (tD 18)), opD 20 (.faddr 32 (tD 19)), opD 21 (.load false 1 (tD 20)), mvD 22 3, opD 23 (.bin .rem (tD 21) (tD 22)), mvD 24 3, opD 25 (.bin .add (tD 23) (tD 24)), mvD 26 3, opD 27 (.bin .rem (tD 25) (tD 26)), opD 28 (.iaddr 1 (tD 16) (tD 27)), opD 29 (.load false 1 (tD 28)), mvD 2 29] [[], [0], [1], [2], [3], [], [5], [6], [7], [8], [], [9, 10], [], [11, 12], [], [13, 14], [4, 15], [16], [17, 0, 1, 2, 3, 4, 5, 6, 7, 8, 9, 10, 11, 12, 13, 14, 15, 16, 17]] true) .ret))))
set_option maxRecDepth 1000000 in
theorem v91 (fu : Nat) : evF fu (d91 fu) rs91 30 (e91 fu).ash (e91 fu).osh (e91 fu).vsh = p91 fu := by kernel_rfl
set_option maxRecDepth 1000000 in
theorem b91 (fu : Nat) : BodyD Try.prog 91 30 (d91 fu).erase rs91 := bodyD_mk Try.func91 (by kernel_rfl) (by kernel_rfl) (by kernel_rfl) (by kernel_rfl)
theorem g91 (fu : Nat) : (e91 fu).Good Try.prog := good_by orders (b91 fu) (l := []) (by kernel_rfl) trivial (by kernel_rfl) (v91 fu)
def rs90 : List RVx := [(.tmp 4)]
/-- (*gazette/client.client).to -/
def p90 (fu : Nat) : (Z22) × ((Int) × (Unit)) → Option ((Unit) × (Int)) := fun ⟨⟨a, c, f, h, i, j, k, l, m, n, o, q, s, t, u, w, x, y, z, a0, c0, f0, h0, i0, j0, k0, l0, m0, n0, o0, q0, s0, t0, u0, w0, x0, y0, z0, a1, c1, f1, h1, i1, j1, k1, l1, m1, n1, o1, q1, s1, t1, u1, w1, x1, y1, z1, a2, c2, f2, h2, i2, j2, k2, l2, m2, n2, o2, q2, s2, t2, u2, w2, x2, _⟩, y2, _⟩ =>
Option.bind (p86 fu (y2, ())) fun ⟨_, ⟨_, ⟨⟨z2, _⟩, _⟩⟩⟩ =>
Option.bind (p96 fu (j, ((), ((z2, ()), ())), ())) fun ⟨⟨⟨_, _⟩, _⟩, a3⟩ =>
bif decide (a3 ≥ (0 : Int)) then
 bif decide ((0 : Int) ≤ a3 ∧ a3 < (List.length j : Int)) then
 bif decide (Int.toNat a3 < List.length j) then
 some ((), (List.getD j (Int.toNat a3) (dflt T_api_Site)).2)
 else none
 else none
else
 Option.bind (p91 fu ((a, c, f, h, i, j, k, l, m, n, o, q, s, t, u, w, x, y, z, a0, c0, f0, h0, i0, j0, k0, l0, m0, n0, o0, q0, s0, t0, u0, w0, x0, y0, z0, a1, c1, f1, h1, i1, j1, k1, l1, m1, n1, o1, q1, s1, t1, u1, w1, x1, y1, z1, a2, c2, f2, h2, i2, j2, k2, l2, m2, n2, o2, q2, s2, t2, u2, w2, x2, ()), ())) fun ⟨_, c3⟩ =>
 some ((), c3)
def e90 (fu : Nat) : Ent := ⟨90, (.cons (.look (.cons (.hole (.int .i64)) (.cons (.hole (.sl (.int .i64))) (.cons (.hole (.int .u64)) (.cons (.hole (.int .u64)) (.cons (.hole (.sl T_api_Topic)) (.cons (.hole (.sl T_api_Site)) (.cons (.hole .bool) (.cons (.hole (.int .i64)) (.cons (.hole .str) (.cons (.hole .str) (.cons (.hole (.sl (.int .u8))) (.cons (.hole (.int .u64)) (.cons (.hole (.int .i64)) (.cons (.hole .str) (.cons (.hole (.int .i64)) (.cons (.hole (.int .u64)) (.cons (.hole (.int .u64)) (.cons (.hole .str) (.cons (.hole (.sl (.int .i64))) (.cons (.hole (.int .u64)) (.cons (.hole (.int .u64)) (.cons (.hole .str) (.cons (.hole (.int .i64)) (.cons (.hole (.int .i64)) (.cons (.hole (.int .u64)) (.cons (.hole (.int .i64)) (.cons (.hole (.int .u64)) (.cons (.hole .bool) (.cons (.hole (.int .u64)) (.cons (.hole (.int .i64)) (.cons (.hole (.int .i64)) (.cons (.hole .bool) (.cons (.hole (.int .i64)) (.cons (.hole .bool) (.cons (.hole (.int .i64)) (.cons (.hole (.int .u64)) (.cons (.hole (.int .i64)) (.cons (.hole (.int .u64)) (.cons (.hole (.int .i64)) (.cons (.hole (.int .u64)) (.cons (.hole (.int .u64)) (.cons (.hole (.int .u64)) (.cons (.hole .str) (.cons (.hole (.sl (.int .u8))) (.cons (.hole (.int .u64)) (.cons (.hole (.int .i64)) (.cons (.hole .str) (.cons (.hole (.int .u64)) (.cons (.hole (.int .i64)) (.cons (.hole (.int .u64)) (.cons (.hole (.int .u64)) (.cons (.hole .str) (.cons (.hole (.sl (.int .i64))) (.cons (.hole (.int .u64)) (.cons (.hole (.int .u64)) (.cons (.hole .str) (.cons (.hole (.int .i64)) (.cons (.hole (.int .i64)) (.cons (.hole (.int .u64)) (.cons (.hole (.int .i64)) (.cons (.hole .str) (.cons (.hole .bool) (.cons (.hole (.int .u64)) (.cons (.hole (.int .i64)) (.cons (.hole (.int .i64)) (.cons (.hole (.int .i64)) (.cons (.hole (.int .u64)) (.cons (.hole .bool) (.cons (.hole (.sl T_api_Record)) (.cons (.hole (.int .u64)) (.cons (.hole (.sl T_api_Shard)) (.cons (.hole (.int .u64)) (.cons (.hole (.int .u64)) (.cons (.hole (.int .u64)) .nil))))))))))))))))))))))))))))))))))))))))))))))))))))))))))))))))))))))))))) (.cons (.hole (.int .u64)) .nil)), .nil, (.hole (.int .i64)), p90 fu⟩
def d90 (fu : Nat) : DC := (.seq (.region [opD 4 (.mov (cD 0))] [[]] false) (.seq (.seq (.region [mvD 6 0, opD 7 (.pure .nilc [(tD 6)]), opD 8 (.faddr 0 (tD 7)), opD 9 (.faddr 5 (tD 8)), opD 10 (.load false 1 (tD 9)), mvD 11 1, oqD 12 (.call 86 [(tD 11)]) (.ent (e86 fu)), oqD 13 (.call 96 [(tD 10), (tD 12)]) (.ent (e96 fu)), mvD 5 13] [[], [0], [1], [2], [3], [], [5], [4, 6, 6], [7, 7, 0, 1, 2, 3, 4, 5, 6, 7]] true) (.seq (.region [mvD 14 5, opD 15 (.bin .geq (tD 14) (cD 0))] [[], [0]] false) (.cond (.tmp 15) (.seq (.region [mvD 16 0, opD 17 (.pure .nilc [(tD 16)]), opD 18 (.faddr 0 (tD 17)), opD 19 (.faddr 5 (tD 18)), opD 20 (.load false 1 (tD 19)), mvD 21 5, opD 22 (.iaddr 2 (tD 20) (tD 21)), opD 23 (.faddr 1 (tD 22)), opD 24 (.load false 1 (tD 23)), mvD 4 24] [[], [0], [1], [2], [3], [], [4, 5], [6], [7], [8, 0, 1, 2, 3, 4, 5, 6, 7, 8]] false) .ret) .skip))) (.seq (.region [mvD 25 0, oqD 26 (.call 91 [(tD 25)]) (.ent (e91 fu)), mvD 4 26] [[], [0], [1, 1, 0, 1]] false) .ret)))
set_option maxRecDepth 1000000 in
theorem v90 (fu : Nat) : evF fu (d90 fu) rs90 27 (e90 fu).ash (e90 fu).osh (e90 fu).vsh = p90 fu := by kernel_rfl
set_option maxRecDepth 1000000 in
theorem b90 (fu : Nat) : BodyD Try.prog 90 27 (d90 fu).erase rs90 := bodyD_mk Try.func90 (by kernel_rfl) (by kernel_rfl) (by kernel_rfl) (by kernel_rfl)
theorem g90 (fu : Nat) : (e90 fu).Good Try.prog := good_by orders (b90 fu) (l := [e86 fu, e96 fu, e91 fu]) (by kernel_rfl) ⟨g86 fu, g96 fu, g91 fu, trivial⟩ (by kernel_rfl) (v90 fu)
def rs83 : List RVx := [(.tmp 2)]
/-- gazette/client.called -/
def p83 (_ : Nat) : (ByteArray) × (Unit) → Option ((Unit) × ((Unit) × (((ByteArray) × (Unit)) × (Unit)))) := fun ⟨a, _⟩ =>
some ((), ((), ((a, ()), ())))
def e83 (fu : Nat) : Ent := ⟨83, (.cons (.hole .str) .nil), .nil, (.clo 94 0 .nil 1 (.cons (.box 9 1 (.cons (.hole .str) .nil)) .nil)), p83 fu⟩
def d83 (_ : Nat) : DC := (.seq (.region [opD 1 (.box 9 1 (tD 0)), opD 2 (.mov (.const .nilFunc))] [[], []] false) (.seq (.region [opD 3 (.fn 94 [] [(tD 1)]), mvD 2 3] [[], [0, 0]] false) .ret))
set_option maxRecDepth 1000000 in
theorem v83 (fu : Nat) : evF fu (d83 fu) rs83 4 (e83 fu).ash (e83 fu).osh (e83 fu).vsh = p83 fu := by kernel_rfl
set_option maxRecDepth 1000000 in
theorem b83 (fu : Nat) : BodyD Try.prog 83 4 (d83 fu).erase rs83 := bodyD_mk Try.func83 (by kernel_rfl) (by kernel_rfl) (by kernel_rfl) (by kernel_rfl)
theorem g83 (fu : Nat) : (e83 fu).Good Try.prog := good_by orders (b83 fu) (l := []) (by kernel_rfl) trivial (by kernel_rfl) (v83 fu)
def rs94 : List RVx := [(.tmp 3)]
/-- gazette/client.called$1 -/
def p94 (_ : Nat) : ((ByteArray) × ((List (D_api_Shard)) × (Unit))) × (((ByteArray) × (Unit)) × (Unit)) → Option ((Unit) × (Bool)) := fun ⟨⟨a, _, _⟩, ⟨c, _⟩, _⟩ =>
some ((), ByteArray.toList a == ByteArray.toList c)
def e94 (fu : Nat) : Ent := ⟨94, (.cons (.agg 2 (.cons (.hole .str) (.cons (.hole (.sl T_api_Shard)) .nil))) (.cons (.look (.cons (.hole .str) .nil)) .nil)), .nil, (.hole .bool), p94 fu⟩
def d94 (_ : Nat) : DC := (.seq (.region [opD 2 (.box 82 2 (tD 0)), opD 3 (.mov (.const vB))] [[], []] false) (.seq (.region [opD 4 (.faddr 0 (tD 2)), opD 5 (.load false 1 (tD 4)), opD 6 (.load false 1 (tD 1)), opD 7 (.bin .eql (tD 5) (tD 6)), mvD 3 7] [[], [0], [], [1, 2], [3, 0, 1, 2, 3]] false) .ret))
set_option maxRecDepth 1000000 in
theorem v94 (fu : Nat) : evF fu (d94 fu) rs94 8 (e94 fu).ash (e94 fu).osh (e94 fu).vsh = p94 fu := by kernel_rfl
set_option maxRecDepth 1000000 in
theorem b94 (fu : Nat) : BodyD Try.prog 94 8 (d94 fu).erase rs94 := bodyD_mk Try.func94 (by kernel_rfl) (by kernel_rfl) (by kernel_rfl) (by kernel_rfl)
theorem g94 (fu : Nat) : (e94 fu).Good Try.prog := good_by orders (b94 fu) (l := []) (by kernel_rfl) trivial (by kernel_rfl) (v94 fu)
def rs93 : List RVx := [(.tmp 4)]
/-- slices.IndexFunc[[]gazette/api.Topic,gazette/api.Topic] -/
def p93 (fu : Nat) : (List (D_api_Topic)) × (((Unit) × (((ByteArray) × (Unit)) × (Unit))) × (Unit)) → Option ((((ByteArray) × (Unit)) × (Unit)) × (Int)) := fun ⟨a, ⟨_, ⟨⟨c, _⟩, _⟩⟩, _⟩ =>
loopO (S := ((Int) × (Unit)) × (Unit)) fu (fun ⟨⟨f, _⟩, _⟩ =>
 bif decide (f < (List.length a : Int)) then
 bif decide ((0 : Int) ≤ f ∧ f < (List.length a : Int)) then
 bif decide (Int.toNat f < List.length a) then
 Option.bind (p94 fu (((List.getD a (Int.toNat f) (dflt T_api_Topic)).1, (List.getD a (Int.toNat f) (dflt T_api_Topic)).2, ()), (c, ()), ())) fun ⟨_, h⟩ =>
 bif h then
 inrO (some (((c, ()), ()), f))
 else
 some (.inl ((IntKind.wrap .i64 (f + (1 : Int)), ()), ()))
 else none
 else none
 else
 inrO (some (((c, ()), ()), ((-1) : Int))))
 (((0 : Int), ()), ())
def e93 (fu : Nat) : Ent := ⟨93, (.cons (.hole (.sl T_api_Topic)) (.cons (.clo 94 0 .nil 1 (.cons (.box 9 1 (.cons (.hole .str) .nil)) .nil)) .nil)), (.cons (.agg 1 (.cons (.hole .str) .nil)) .nil), (.hole (.int .i64)), p93 fu⟩
def d93 (fu : Nat) : DC := (.seq (.region [opD 4 (.mov (cD 0))] [[]] false) (.seq (.seq (.region [mvD 6 0, opD 7 (.len false (tD 6)), opD 8 (.mov (cD 0))] [[], [0], []] false) (.block 0 (.loop ⟨[8], (.cons (.hole (.int .i64)) .nil), [], .nil, [0, 1, 7], [0]⟩
 (.seq (.region [opD 9 (.bin .lss (tD 8) (tD 7))] [[]] false) (.seq (.cond (.tmp 9) .skip (.exit 0)) (.seq (.block 1 (.seq (.region [mvD 10 8, mvD 5 10] [[], [0, 0]] false) (.seq (.region [mvD 11 1, mvD 12 0, mvD 13 5, opD 14 (.iaddr 2 (tD 12) (tD 13)), opD 15 (.load true 2 (tD 14)), oqD 16 (.callv (tD 11) [(tD 15)]) (.ent (e94 fu))] [[], [], [], [1, 2], [3], [0, 4]] false) (.cond (.tmp 16) (.seq (.region [mvD 17 5, mvD 4 17] [[], [0, 0]] false) .ret) .skip)))) (.region [opD 18 (.bin .add (tD 8) (cD 1)), mvD 8 18] [[], [0]] false))))))) (.seq (.region [opD 4 (.mov (.const (.int .i64 (-1))))] [[]] false) .ret)))
set_option maxRecDepth 1000000 in
theorem v93 (fu : Nat) : evF fu (d93 fu) rs93 19 (e93 fu).ash (e93 fu).osh (e93 fu).vsh = p93 fu := by kernel_rfl
set_option maxRecDepth 1000000 in
theorem b93 (fu : Nat) : BodyD Try.prog 93 19 (d93 fu).erase rs93 := bodyD_mk Try.func93 (by kernel_rfl) (by kernel_rfl) (by kernel_rfl) (by kernel_rfl)
theorem g93 (fu : Nat) : (e93 fu).Good Try.prog := good_by orders (b93 fu) (l := [e94 fu]) (by kernel_rfl) ⟨g94 fu, trivial⟩ (by kernel_rfl) (v93 fu)
def rs100 : List RVx := [(.tmp 2)]
/-- gazette/keyrange.isKey -/
def p100 (_ : Nat) : (ByteArray) × (Unit) → Option ((Unit) × (Bool)) := fun ⟨a, _⟩ =>
some ((), decide ((ByteArray.size a : Int) ≤ (32 : Int)))
def e100 (fu : Nat) : Ent := ⟨100, (.cons (.hole .str) .nil), .nil, (.hole .bool), p100 fu⟩
def d100 (_ : Nat) : DC := (.seq (.region [opD 2 (.mov (.const vB))] [[]] false) (.seq (.region [mvD 3 0, opD 4 (.len true (tD 3)), opD 5 (.bin .leq (tD 4) (cD 32)), mvD 2 5] [[], [0], [1], [2, 0, 1, 2]] false) .ret))
set_option maxRecDepth 1000000 in
theorem v100 (fu : Nat) : evF fu (d100 fu) rs100 6 (e100 fu).ash (e100 fu).osh (e100 fu).vsh = p100 fu := by kernel_rfl
set_option maxRecDepth 1000000 in
theorem b100 (fu : Nat) : BodyD Try.prog 100 6 (d100 fu).erase rs100 := bodyD_mk Try.func100 (by kernel_rfl) (by kernel_rfl) (by kernel_rfl) (by kernel_rfl)
theorem g100 (fu : Nat) : (e100 fu).Good Try.prog := good_by orders (b100 fu) (l := []) (by kernel_rfl) trivial (by kernel_rfl) (v100 fu)
def rs101 : List RVx := [(.cell 2 true 2)]
/-- gazette/keyrange.upper -/
def p101 (_ : Nat) : ((ByteArray) × ((ByteArray) × (Unit))) × (Unit) → Option ((Unit) × ((ByteArray) × ((Bool) × (Unit)))) := fun ⟨⟨_, a, _⟩, _⟩ =>
some ((), (a, ByteArray.toList a == ByteArray.toList (⟨#[]⟩ : ByteArray), ()))
def e101 (fu : Nat) : Ent := ⟨101, (.cons (.agg 2 (.cons (.hole .str) (.cons (.hole .str) .nil))) .nil), .nil, (.agg 2 (.cons (.hole .str) (.cons (.hole .bool) .nil))), p101 fu⟩
def d101 (_ : Nat) : DC := (.seq (.region [opD 1 (.box 65 2 (tD 0)), opD 2 (.alloc 140 2 [vT, vB])] [[], []] false) (.seq (.region [opD 3 (.faddr 1 (tD 1)), opD 4 (.load false 1 (tD 3)), opD 5 (.faddr 1 (tD 1)), opD 6 (.load false 1 (tD 5)), opD 7 (.bin .eql (tD 6) (.const vT)), opD 8 (.build 2 [vT, vB] [(0, (1, (tD 4))), (1, (1, (tD 7)))]), onD (.store 2 (tD 2) (tD 8))] [[], [0], [], [2], [3], [1, 4], [5, 0, 1, 2, 3, 4, 5]] false) .ret))
set_option maxRecDepth 1000000 in
theorem v101 (fu : Nat) : evF fu (d101 fu) rs101 9 (e101 fu).ash (e101 fu).osh (e101 fu).vsh = p101 fu := by kernel_rfl
set_option maxRecDepth 1000000 in
theorem b101 (fu : Nat) : BodyD Try.prog 101 9 (d101 fu).erase rs101 := bodyD_mk Try.func101 (by kernel_rfl) (by kernel_rfl) (by kernel_rfl) (by kernel_rfl)
theorem g101 (fu : Nat) : (e101 fu).Good Try.prog := good_by orders (b101 fu) (l := []) (by kernel_rfl) trivial (by kernel_rfl) (v101 fu)
def rs102 : List RVx := [(.tmp 4)]
/-- (gazette/keyrange.bound).above -/
def p102 (_ : Nat) : ((ByteArray) × ((Bool) × (Unit))) × ((ByteArray) × (Unit)) → Option ((Unit) × (Bool)) := fun ⟨⟨a, c, _⟩, f, _⟩ =>
bif c then
 some ((), true)
else
 some ((), !(Op.bytesLess (ByteArray.toList a) (ByteArray.toList f) || ByteArray.toList a == ByteArray.toList f))
def e102 (fu : Nat) : Ent := ⟨102, (.cons (.agg 2 (.cons (.hole .str) (.cons (.hole .bool) .nil))) (.cons (.hole .str) .nil)), .nil, (.hole .bool), p102 fu⟩
def d102 (_ : Nat) : DC := (.seq (.region [opD 2 (.box 140 2 (tD 0)), opD 4 (.mov (.const vB))] [[], []] false) (.seq (.region [opD 5 (.faddr 1 (tD 2)), opD 6 (.load false 1 (tD 5)), mvD 7 6, ogD 8 7 false (.faddr 0 (tD 2)), ogD 9 7 false (.load false 1 (tD 8)), ogD 10 7 false (.mov (tD 1)), ogD 11 7 false (.bin .gtr (tD 9) (tD 10)), opD 12 (.pick (tD 7) (.const (.bool true)) (tD 11)), mvD 4 12] [[], [0], [1], [2], [3, 2], [2], [4, 5, 2], [2, 6], [7, 2, 0, 1, 2, 3, 4, 5, 6, 7]] false) .ret))
set_option maxRecDepth 1000000 in
theorem v102 (fu : Nat) : evF fu (d102 fu) rs102 13 (e102 fu).ash (e102 fu).osh (e102 fu).vsh = p102 fu := by kernel_rfl
set_option maxRecDepth 1000000 in
theorem b102 (fu : Nat) : BodyD Try.prog 102 13 (d102 fu).erase rs102 := bodyD_mk Try.func102 (by kernel_rfl) (by kernel_rfl) (by kernel_rfl) (by kernel_rfl)
theorem g102 (fu : Nat) : (e102 fu).Good Try.prog := good_by orders (b102 fu) (l := []) (by kernel_rfl) trivial (by kernel_rfl) (v102 fu)
def rs99 : List RVx := [(.tmp 2)]
/-- gazette/keyrange.Check -/
def p99 (fu : Nat) : ((ByteArray) × ((ByteArray) × (Unit))) × (Unit) → Option ((Unit) × (Int)) := fun ⟨⟨a, c, _⟩, _⟩ =>
Option.bind (p100 fu (a, ())) fun ⟨_, f⟩ =>
bif !f then
 some ((), (131 : Int))
else
 Option.bind (p100 fu (c, ())) fun ⟨_, h⟩ =>
 bif !h then
 some ((), (131 : Int))
 else
 Option.bind (p101 fu ((a, c, ()), ())) fun ⟨_, ⟨i, j, _⟩⟩ =>
 Option.bind (p102 fu ((i, j, ()), a, ())) fun ⟨_, k⟩ =>
 bif !k then
 some ((), (132 : Int))
 else
 some ((), (0 : Int))
def e99 (fu : Nat) : Ent := ⟨99, (.cons (.agg 2 (.cons (.hole .str) (.cons (.hole .str) .nil))) .nil), .nil, (.hole (.int .i64)), p99 fu⟩
def d99 (fu : Nat) : DC := (.seq (.region [opD 1 (.box 65 2 (tD 0)), opD 2 (.mov (cD 0))] [[], []] false) (.seq (.seq (.region [opD 3 (.faddr 0 (tD 1)), opD 4 (.load false 1 (tD 3)), oqD 5 (.call 100 [(tD 4)]) (.ent (e100 fu)), opD 6 (.not (tD 5)), mvD 7 6, ogD 8 7 false (.faddr 1 (tD 1)), ogD 9 7 false (.load false 1 (tD 8)), (⟨(some 10), (some (7, false)), (.call 100 [(tD 9)])⟩, (.ent (e100 fu))), ogD 11 7 false (.not (tD 10)), opD 12 (.pick (tD 7) (.const (.bool true)) (tD 11))] [[], [0], [1], [2], [3, 2], [4], [5, 4], [6, 4, 4], [7, 4], [4, 8]] false) (.cond (.tmp 12) (.seq (.region [opD 2 (.mov (cD 131))] [[]] false) .ret) .skip)) (.seq (.seq (.region [opD 13 (.load true 2 (tD 1)), oqD 14 (.call 101 [(tD 13)]) (.ent (e101 fu)), opD 15 (.faddr 0 (tD 1)), opD 16 (.load false 1 (tD 15)), oqD 17 (.call 102 [(tD 14), (tD 16)]) (.ent (e102 fu)), opD 18 (.not (tD 17))] [[], [0], [], [2], [1, 3, 1], [4]] true) (.cond (.tmp 18) (.seq (.region [opD 2 (.mov (cD 132))] [[]] false) .ret) .skip)) (.seq (.region [opD 2 (.mov (cD 0))] [[]] false) .ret))))
set_option maxRecDepth 1000000 in
theorem v99 (fu : Nat) : evF fu (d99 fu) rs99 19 (e99 fu).ash (e99 fu).osh (e99 fu).vsh = p99 fu := by kernel_rfl
set_option maxRecDepth 1000000 in
theorem b99 (fu : Nat) : BodyD Try.prog 99 19 (d99 fu).erase rs99 := bodyD_mk Try.func99 (by kernel_rfl) (by kernel_rfl) (by kernel_rfl) (by kernel_rfl)
theorem g99 (fu : Nat) : (e99 fu).Good Try.prog := good_by orders (b99 fu) (l := [e100 fu, e100 fu, e101 fu, e102 fu]) (by kernel_rfl) ⟨g100 fu, g100 fu, g101 fu, g102 fu, trivial⟩ (by kernel_rfl) (v99 fu)
def rs95 : List RVx := [(.tmp 4)]
/-- gazette/keyrange.Has -/
def p95 (fu : Nat) : ((ByteArray) × ((ByteArray) × (Unit))) × ((ByteArray) × (Unit)) → Option ((Unit) × (Bool)) := fun ⟨⟨a, c, _⟩, f, _⟩ =>
Option.bind (p99 fu ((a, c, ()), ())) fun ⟨_, h⟩ =>
bif (h == (0 : Int)) then
 Option.bind (p100 fu (f, ())) fun ⟨_, i⟩ =>
 bif i then
 bif !Op.bytesLess (ByteArray.toList f) (ByteArray.toList a) then
 Option.bind (p101 fu ((a, c, ()), ())) fun ⟨_, ⟨j, k, _⟩⟩ =>
 Option.bind (p102 fu ((j, k, ()), f, ())) fun ⟨_, l⟩ =>
 some ((), l)
 else
 some ((), false)
 else
 some ((), false)
else
 some ((), false)
def e95 (fu : Nat) : Ent := ⟨95, (.cons (.agg 2 (.cons (.hole .str) (.cons (.hole .str) .nil))) (.cons (.hole .str) .nil)), .nil, (.hole .bool), p95 fu⟩
def d95 (fu : Nat) : DC := (.seq (.region [opD 2 (.box 65 2 (tD 0)), opD 4 (.mov (.const vB))] [[], []] false) (.seq (.region [opD 5 (.load true 2 (tD 2)), oqD 6 (.call 99 [(tD 5)]) (.ent (e99 fu)), opD 7 (.bin .eql (tD 6) (cD 0)), mvD 8 7, ogD 9 8 true (.mov (tD 1)), (⟨(some 10), (some (8, true)), (.call 100 [(tD 9)])⟩, (.ent (e100 fu))), opD 11 (.pick (tD 8) (tD 10) (.const vB)), mvD 12 11, ogD 13 12 true (.mov (tD 1)), ogD 14 12 true (.faddr 0 (tD 2)), ogD 15 12 true (.load false 1 (tD 14)), ogD 16 12 true (.bin .geq (tD 13) (tD 15)), opD 17 (.pick (tD 12) (tD 16) (.const vB)), mvD 18 17, ogD 19 18 true (.load true 2 (tD 2)), (⟨(some 20), (some (18, true)), (.call 101 [(tD 19)])⟩, (.ent (e101 fu))), ogD 21 18 true (.mov (tD 1)), (⟨(some 22), (some (18, true)), (.call 102 [(tD 20), (tD 21)])⟩, (.ent (e102 fu))), opD 23 (.pick (tD 18) (tD 22) (.const vB)), mvD 4 23] [[], [0], [1], [2, 1], [3], [4, 3, 3], [3, 5], [6, 5], [7], [7], [9, 7], [8, 10, 7], [7, 11], [12, 7], [13], [14, 13, 13], [13], [15, 16, 15, 13], [13, 17], [18, 17, 0, 1, 2, 3, 4, 5, 6, 7, 8, 9, 10, 11, 12, 13, 14, 15, 16, 17, 18]] false) .ret))
set_option maxRecDepth 1000000 in
theorem v95 (fu : Nat) : evF fu (d95 fu) rs95 24 (e95 fu).ash (e95 fu).osh (e95 fu).vsh = p95 fu := by kernel_rfl
set_option maxRecDepth 1000000 in
theorem b95 (fu : Nat) : BodyD Try.prog 95 24 (d95 fu).erase rs95 := bodyD_mk Try.func95 (by kernel_rfl) (by kernel_rfl) (by kernel_rfl) (by kernel_rfl)
theorem g95 (fu : Nat) : (e95 fu).Good Try.prog := good_by orders (b95 fu) (l := [e99 fu, e100 fu, e101 fu, e102 fu]) (by kernel_rfl) ⟨g99 fu, g100 fu, g101 fu, g102 fu, trivial⟩ (by kernel_rfl) (v95 fu)
def rs84 : List RVx := [(.cell 2 true 7), (.tmp 3)]
/-- (*gazette/client.client).shard -/
def p84_1 (fu : Nat) : (Z0) × (Unit) → Option (((Z0) × ((Unit) × ((Unit) × ((Unit) × ((Unit) × ((Unit) × (Unit))))))) × ((Z6) × ((Bool) × (Unit)))) := fun ⟨⟨a, c, f, h, i, j, k, l, m, n, o, q, s, t, u, w, x, y, z, a0, c0, f0, h0, i0, j0, k0, l0, m0, n0, o0, q0, s0, t0, u0, w0, x0, y0, z0, a1, c1, f1, h1, i1, _, j1, k1, l1, m1, n1, o1, q1, s1, _, t1, u1, w1, x1, y1, z1, a2, c2, f2, h2, i2, j2, k2, l2, m2, _, n2, _, o2, q2, s2, _⟩, _⟩ =>
Option.bind (p83 fu (m, ())) fun ⟨_, ⟨_, ⟨⟨t2, _⟩, _⟩⟩⟩ =>
bif decide (List.length i = List.length i) then
 Option.bind (p93 fu (i, ((), ((t2, ()), ())), ())) fun ⟨⟨⟨_, _⟩, _⟩, u2⟩ =>
 bif decide (u2 < (0 : Int)) then
 bif decide (List.length c = List.length c) then
 bif decide (List.length i = List.length i) then
 bif decide (List.length j = List.length j) then
 bif decide (List.length o = List.length o) then
 bif decide (List.length z = List.length z) then
 some (((a, c, f, h, i, j, k, l, m, n, o, q, s, t, u, w, x, y, z, a0, c0, f0, h0, i0, j0, k0, l0, m0, n0, o0, q0, s0, t0, u0, w0, x0, y0, z0, a1, c1, f1, h1, i1, (), j1, k1, l1, m1, n1, o1, q1, s1, (), t1, u1, w1, x1, y1, z1, a2, c2, f2, h2, i2, j2, k2, l2, m2, (), n2, (), o2, q2, s2, ()), (), (), (), (), (), ()), (((0 : Int), (⟨#[]⟩ : ByteArray), (⟨#[]⟩ : ByteArray), (0 : Int), [], [], (0 : Int), ()), false, ()))
 else none
 else none
 else none
 else none
 else none
 else
 bif decide ((0 : Int) ≤ u2 ∧ u2 < (List.length i : Int)) then
 bif decide (Int.toNat u2 < List.length i) then
 loopO (S := ((Int) × (Unit)) × (Unit)) fu (fun ⟨⟨w2, _⟩, _⟩ =>
 bif decide (w2 < (List.length ((List.getD i (Int.toNat u2) (dflt T_api_Topic)).2) : Int)) then
 bif decide ((0 : Int) ≤ w2 ∧ w2 < (List.length ((List.getD i (Int.toNat u2) (dflt T_api_Topic)).2) : Int)) then
 bif decide (Int.toNat w2 < List.length ((List.getD i (Int.toNat u2) (dflt T_api_Topic)).2)) then
 Option.bind (p95 fu (((((List.getD ((List.getD i (Int.toNat u2) (dflt T_api_Topic)).2) (Int.toNat w2) (dflt T_api_Shard)).2).1).1, (((List.getD ((List.getD i (Int.toNat u2) (dflt T_api_Topic)).2) (Int.toNat w2) (dflt T_api_Shard)).2).1).2, ()), n, ())) fun ⟨_, x2⟩ =>
 bif x2 then
 inrO (bif decide (List.length c = List.length c) then
 bif decide (List.length i = List.length i) then
 bif decide (List.length j = List.length j) then
 bif decide (List.length o = List.length o) then
 bif decide (List.length z = List.length z) then
 some (((a, c, f, h, i, j, k, l, m, n, o, q, s, t, u, w, x, y, z, a0, c0, f0, h0, i0, j0, k0, l0, m0, n0, o0, q0, s0, t0, u0, w0, x0, y0, z0, a1, c1, f1, h1, i1, (), j1, k1, l1, m1, n1, o1, q1, s1, (), t1, u1, w1, x1, y1, z1, a2, c2, f2, h2, i2, j2, k2, l2, m2, (), n2, (), o2, q2, s2, ()), (), (), (), (), (), ()), (((List.getD ((List.getD i (Int.toNat u2) (dflt T_api_Topic)).2) (Int.toNat w2) (dflt T_api_Shard)).1, (((List.getD ((List.getD i (Int.toNat u2) (dflt T_api_Topic)).2) (Int.toNat w2) (dflt T_api_Shard)).2).1).1, (((List.getD ((List.getD i (Int.toNat u2) (dflt T_api_Topic)).2) (Int.toNat w2) (dflt T_api_Shard)).2).1).2, (((List.getD ((List.getD i (Int.toNat u2) (dflt T_api_Topic)).2) (Int.toNat w2) (dflt T_api_Shard)).2).2).1, ((((List.getD ((List.getD i (Int.toNat u2) (dflt T_api_Topic)).2) (Int.toNat w2) (dflt T_api_Shard)).2).2).2).1, (((((List.getD ((List.getD i (Int.toNat u2) (dflt T_api_Topic)).2) (Int.toNat w2) (dflt T_api_Shard)).2).2).2).2).1, (((((List.getD ((List.getD i (Int.toNat u2) (dflt T_api_Topic)).2) (Int.toNat w2) (dflt T_api_Shard)).2).2).2).2).2, ()), true, ()))
 else none
 else none
 else none
 else none
 else none)
 else
 some (.inl ((IntKind.wrap .i64 (w2 + (1 : Int)), ()), ()))
 else none
 else none
 else
 inrO (bif decide (List.length c = List.length c) then
 bif decide (List.length i = List.length i) then
 bif decide (List.length j = List.length j) then
 bif decide (List.length o = List.length o) then
 bif decide (List.length z = List.length z) then
 some (((a, c, f, h, i, j, k, l, m, n, o, q, s, t, u, w, x, y, z, a0, c0, f0, h0, i0, j0, k0, l0, m0, n0, o0, q0, s0, t0, u0, w0, x0, y0, z0, a1, c1, f1, h1, i1, (), j1, k1, l1, m1, n1, o1, q1, s1, (), t1, u1, w1, x1, y1, z1, a2, c2, f2, h2, i2, j2, k2, l2, m2, (), n2, (), o2, q2, s2, ()), (), (), (), (), (), ()), (((0 : Int), (⟨#[]⟩ : ByteArray), (⟨#[]⟩ : ByteArray), (0 : Int), [], [], (0 : Int), ()), false, ()))
 else none
 else none
 else none
 else none
 else none))
 (((0 : Int), ()), ())
 else none
 else none
else none
def e84_1 (fu : Nat) : Ent := ⟨84, (.cons Y20 .nil), (.cons Y23 (.cons .dead (.cons .dead (.cons .dead (.cons .dead (.cons .dead .nil)))))), (.tup 2 (.cons Y7 (.cons (.hole .bool) .nil))), p84_1 fu⟩
def d84_1 (fu : Nat) : DC := (.seq (.region [opD 2 (.alloc 67 7 [vU, vT, vT, vU, vS, vS, vU]), opD 3 (.mov (.const vB))] [[], []] false) (.seq (.region [mvD 7 0, opD 8 (.pure .nilc [(tD 7)]), opD 9 (.faddr 0 (tD 8)), opD 10 (.faddr 4 (tD 9)), opD 11 (.load false 1 (tD 10)), mvD 12 0, opD 13 (.pure .nilc [(tD 12)]), opD 14 (.faddr 0 (tD 13)), opD 15 (.faddr 7 (tD 14)), opD 16 (.faddr 1 (tD 15)), opD 17 (.load false 1 (tD 16)), oqD 18 (.call 83 [(tD 17)]) (.ent (e83 fu)), oqD 19 (.call 93 [(tD 11), (tD 18)]) (.ent (e93 fu)), mvD 4 19] [[], [0], [1], [2], [3], [], [5], [6], [7], [8], [9], [10], [4, 11, 11], [12, 12, 0, 1, 2, 3, 4, 5, 6, 7, 8, 9, 10, 11, 12]] true) (.seq (.seq (.region [mvD 20 4, opD 21 (.bin .lss (tD 20) (cD 0))] [[], [0]] false) (.cond (.tmp 21) (.seq (.region [opD 22 (.build 7 [vU, vT, vT, vU, vS, vS, vU] []), onD (.store 7 (tD 2) (tD 22)), opD 3 (.mov (.const vB))] [[], [0, 0], [1, 0, 1]] false) .ret) .skip)) (.seq (.seq (.region [mvD 23 0, opD 24 (.pure .nilc [(tD 23)]), opD 25 (.faddr 0 (tD 24)), opD 26 (.faddr 4 (tD 25)), opD 27 (.load false 1 (tD 26)), mvD 28 4, opD 29 (.iaddr 2 (tD 27) (tD 28)), opD 30 (.faddr 1 (tD 29)), opD 31 (.load false 1 (tD 30)), opD 32 (.len false (tD 31)), opD 33 (.mov (cD 0))] [[], [0], [1], [2], [3], [], [4, 5], [6], [7], [8], []] false) (.block 0 (.loop ⟨[33], (.cons (.hole (.int .i64)) .nil), [], .nil, [0, 2, 31, 32], [0, 1, 2, 3, 4, 5, 7, 8, 9, 10, 11, 12]⟩
 (.seq (.region [opD 34 (.bin .lss (tD 33) (tD 32))] [[]] false) (.seq (.cond (.tmp 34) .skip (.exit 0)) (.seq (.block 1 (.seq (.region [opD 35 (.iaddr 7 (tD 31) (tD 33)), opD 36 (.load true 7 (tD 35)), opD 6 (.alloc 67 7 [vU, vT, vT, vU, vS, vS, vU]), onD (.store 7 (tD 6) (tD 36))] [[], [0], [], [2, 1, 0, 1, 2]] false) (.seq (.region [opD 37 (.faddr 1 (tD 6)), opD 38 (.load true 2 (tD 37)), mvD 39 0, opD 40 (.pure .nilc [(tD 39)]), opD 41 (.faddr 0 (tD 40)), opD 42 (.faddr 7 (tD 41)), opD 43 (.faddr 2 (tD 42)), opD 44 (.load false 1 (tD 43)), oqD 45 (.call 95 [(tD 38), (tD 44)]) (.ent (e95 fu))] [[], [0], [], [2], [3], [4], [5], [6], [1, 7]] true) (.cond (.tmp 45) (.seq (.region [opD 46 (.load true 7 (tD 6)), onD (.store 7 (tD 2) (tD 46)), opD 3 (.mov (.const (.bool true)))] [[], [0, 0], [1, 0, 1]] false) .ret) .skip)))) (.region [opD 47 (.bin .add (tD 33) (cD 1)), mvD 33 47] [[], [0]] false))))))) (.seq (.region [opD 48 (.build 7 [vU, vT, vT, vU, vS, vS, vU] []), onD (.store 7 (tD 2) (tD 48)), opD 3 (.mov (.const vB))] [[], [0, 0], [1, 0, 1]] false) .ret)))))
set_option maxRecDepth 1000000 in
theorem v84_1 (fu : Nat) : evF fu (d84_1 fu) rs84 49 (e84_1 fu).ash (e84_1 fu).osh (e84_1 fu).vsh = p84_1 fu := by kernel_rfl
set_option maxRecDepth 1000000 in
theorem b84_1 (fu : Nat) : BodyD Try.prog 84 49 (d84_1 fu).erase rs84 := bodyD_mk Try.func84 (by kernel_rfl) (by kernel_rfl) (by kernel_rfl) (by kernel_rfl)
theorem g84_1 (fu : Nat) : (e84_1 fu).Good Try.prog := good_by orders (b84_1 fu) (l := [e83 fu, e93 fu, e95 fu]) (by kernel_rfl) ⟨g83 fu, g93 fu, g95 fu, trivial⟩ (by kernel_rfl) (v84_1 fu)
def rs92 : List RVx := [(.cell 4 true 10)]
/-- (*gazette/client.client).command -/
def p92 (fu : Nat) : (Z22) × ((Int) × (Unit)) → Option ((Unit) × ((Int) × ((Int) × ((Int) × ((Int) × ((ByteArray) × ((List (Int)) × ((Int) × ((Int) × ((ByteArray) × ((Int) × (Unit)))))))))))) := fun ⟨⟨_, _, a, c, _, _, _, f, _, h, i, j, k, l, _, _, _, _, _, _, _, _, _, _, _, _, _, _, _, _, _, _, _, _, _, _, _, _, _, _, _, _, _, _, _, _, _, _, _, _, _, _, _, _, _, _, _, _, _, _, _, _, _, _, _, _, _, _, _, _, _, _, _, _, _⟩, m, _⟩ =>
bif (f == (1 : Int)) then
 Option.bind (p62 fu (i, ())) fun ⟨_, n⟩ =>
 bif decide (List.length n = List.length n) then
 some ((), ((1 : Int), m, a, c, h, n, (0 : Int), (0 : Int), (⟨#[]⟩ : ByteArray), (0 : Int), ()))
 else none
else
 bif (f == (2 : Int)) then
 some ((), ((2 : Int), m, (0 : Int), (0 : Int), (⟨#[]⟩ : ByteArray), [], j, k, (⟨#[]⟩ : ByteArray), (0 : Int), ()))
 else
 bif (f == (3 : Int)) then
 some ((), ((3 : Int), m, a, c, (⟨#[]⟩ : ByteArray), [], j, (0 : Int), l, (0 : Int), ()))
 else
 some ((), ((4 : Int), m, (0 : Int), (0 : Int), (⟨#[]⟩ : ByteArray), [], (0 : Int), (0 : Int), l, (0 : Int), ()))
def e92 (fu : Nat) : Ent := ⟨92, (.cons (.look (.cons (.hole (.int .i64)) (.cons (.hole (.sl (.int .i64))) (.cons (.hole (.int .u64)) (.cons (.hole (.int .u64)) (.cons (.hole (.sl T_api_Topic)) (.cons (.hole (.sl T_api_Site)) (.cons (.hole .bool) (.cons (.hole (.int .i64)) (.cons (.hole .str) (.cons (.hole .str) (.cons (.hole (.sl (.int .u8))) (.cons (.hole (.int .u64)) (.cons (.hole (.int .i64)) (.cons (.hole .str) (.cons (.hole (.int .i64)) (.cons (.hole (.int .u64)) (.cons (.hole (.int .u64)) (.cons (.hole .str) (.cons (.hole (.sl (.int .i64))) (.cons (.hole (.int .u64)) (.cons (.hole (.int .u64)) (.cons (.hole .str) (.cons (.hole (.int .i64)) (.cons (.hole (.int .i64)) (.cons (.hole (.int .u64)) (.cons (.hole (.int .i64)) (.cons (.hole (.int .u64)) (.cons (.hole .bool) (.cons (.hole (.int .u64)) (.cons (.hole (.int .i64)) (.cons (.hole (.int .i64)) (.cons (.hole .bool) (.cons (.hole (.int .i64)) (.cons (.hole .bool) (.cons (.hole (.int .i64)) (.cons (.hole (.int .u64)) (.cons (.hole (.int .i64)) (.cons (.hole (.int .u64)) (.cons (.hole (.int .i64)) (.cons (.hole (.int .u64)) (.cons (.hole (.int .u64)) (.cons (.hole (.int .u64)) (.cons (.hole .str) (.cons (.hole (.sl (.int .u8))) (.cons (.hole (.int .u64)) (.cons (.hole (.int .i64)) (.cons (.hole .str) (.cons (.hole (.int .u64)) (.cons (.hole (.int .i64)) (.cons (.hole (.int .u64)) (.cons (.hole (.int .u64)) (.cons (.hole .str) (.cons (.hole (.sl (.int .i64))) (.cons (.hole (.int .u64)) (.cons (.hole (.int .u64)) (.cons (.hole .str) (.cons (.hole (.int .i64)) (.cons (.hole (.int .i64)) (.cons (.hole (.int .u64)) (.cons (.hole (.int .i64)) (.cons (.hole .str) (.cons (.hole .bool) (.cons (.hole (.int .u64)) (.cons (.hole (.int .i64)) (.cons (.hole (.int .i64)) (.cons (.hole (.int .i64)) (.cons (.hole (.int .u64)) (.cons (.hole .bool) (.cons (.hole (.sl T_api_Record)) (.cons (.hole (.int .u64)) (.cons (.hole (.sl T_api_Shard)) (.cons (.hole (.int .u64)) (.cons (.hole (.int .u64)) (.cons (.hole (.int .u64)) .nil))))))))))))))))))))))))))))))))))))))))))))))))))))))))))))))))))))))))))) (.cons (.hole (.int .u64)) .nil)), .nil, Y24, p92 fu⟩
def d92 (fu : Nat) : DC := (.seq (.region [opD 4 (.alloc 56 10 [vI, vU, vU, vU, vT, vS, vU, vI, vT, vU])] [[]] false) (.seq (.region [mvD 6 0, opD 7 (.pure .nilc [(tD 6)]), opD 8 (.faddr 0 (tD 7)), opD 9 (.faddr 7 (tD 8)), opD 10 (.load true 19 (tD 9)), opD 5 (.alloc 33 19 [vI, vT, vT, vS, vU, vI, vT, vI, vU, vU, vT, vS, vU, vU, vT, vI, vI, vU, vI]), onD (.store 19 (tD 5) (tD 10))] [[], [0], [1], [2], [3], [], [5, 4, 0, 1, 2, 3, 4, 5]] false) (.seq (.seq (.region [opD 11 (.faddr 0 (tD 5)), opD 12 (.load false 1 (tD 11))] [[], [0]] false) (.block 0 (.seq (.region [opD 14 (.bin .eql (tD 12) (cD 1)), mvD 13 14] [[], [0]] false) (.cond (.tmp 13) (.seq (.region [mvD 15 1, mvD 16 0, opD 17 (.pure .nilc [(tD 16)]), opD 18 (.faddr 0 (tD 17)), opD 19 (.faddr 2 (tD 18)), opD 20 (.load false 1 (tD 19)), mvD 21 0, opD 22 (.pure .nilc [(tD 21)]), opD 23 (.faddr 0 (tD 22)), opD 24 (.faddr 3 (tD 23)), opD 25 (.load false 1 (tD 24)), opD 26 (.faddr 2 (tD 5)), opD 27 (.load false 1 (tD 26)), opD 28 (.faddr 3 (tD 5)), opD 29 (.load false 1 (tD 28)), oqD 30 (.call 62 [(tD 29)]) (.ent (e62 fu)), opD 31 (.build 10 [vI, vU, vU, vU, vT, vS, vU, vI, vT, vU] [(0, (1, (cD 1))), (1, (1, (tD 15))), (2, (1, (tD 20))), (3, (1, (tD 25))), (4, (1, (tD 27))), (5, (1, (tD 30)))]), onD (.store 10 (tD 4) (tD 31))] [[], [], [1], [2], [3], [4], [], [6], [7], [8], [9], [], [11], [], [13], [14], [0, 5, 10, 12, 15], [16, 15, 0, 1, 2, 3, 4, 5, 6, 7, 8, 9, 10, 11, 12, 13, 14, 15, 16]] true) .ret) (.seq (.region [opD 33 (.bin .eql (tD 12) (cD 2)), mvD 32 33] [[], [0]] false) (.cond (.tmp 32) (.seq (.region [mvD 34 1, opD 35 (.faddr 4 (tD 5)), opD 36 (.load false 1 (tD 35)), opD 37 (.faddr 5 (tD 5)), opD 38 (.load false 1 (tD 37)), opD 39 (.build 10 [vI, vU, vU, vU, vT, vS, vU, vI, vT, vU] [(0, (1, (cD 2))), (1, (1, (tD 34))), (6, (1, (tD 36))), (7, (1, (tD 38)))]), onD (.store 10 (tD 4) (tD 39))] [[], [], [1], [], [3], [0, 2, 4], [5, 0, 1, 2, 3, 4, 5]] false) .ret) (.seq (.region [opD 41 (.bin .eql (tD 12) (cD 3)), mvD 40 41] [[], [0]] false) (.cond (.tmp 40) (.seq (.region [mvD 42 1, mvD 43 0, opD 44 (.pure .nilc [(tD 43)]), opD 45 (.faddr 0 (tD 44)), opD 46 (.faddr 2 (tD 45)), opD 47 (.load false 1 (tD 46)), mvD 48 0, opD 49 (.pure .nilc [(tD 48)]), opD 50 (.faddr 0 (tD 49)), opD 51 (.faddr 3 (tD 50)), opD 52 (.load false 1 (tD 51)), opD 53 (.faddr 6 (tD 5)), opD 54 (.load false 1 (tD 53)), opD 55 (.faddr 4 (tD 5)), opD 56 (.load false 1 (tD 55)), opD 57 (.build 10 [vI, vU, vU, vU, vT, vS, vU, vI, vT, vU] [(0, (1, (cD 3))), (1, (1, (tD 42))), (2, (1, (tD 47))), (3, (1, (tD 52))), (8, (1, (tD 54))), (6, (1, (tD 56)))]), onD (.store 10 (tD 4) (tD 57))] [[], [], [1], [2], [3], [4], [], [6], [7], [8], [9], [], [11], [], [13], [0, 5, 10, 12, 14], [15, 0, 1, 2, 3, 4, 5, 6, 7, 8, 9, 10, 11, 12, 13, 14, 15]] true) .ret) .skip)))))))) (.seq (.region [mvD 58 1, opD 59 (.faddr 6 (tD 5)), opD 60 (.load false 1 (tD 59)), opD 61 (.build 10 [vI, vU, vU, vU, vT, vS, vU, vI, vT, vU] [(0, (1, (cD 4))), (1, (1, (tD 58))), (8, (1, (tD 60)))]), onD (.store 10 (tD 4) (tD 61))] [[], [], [1], [0, 2], [3, 0, 1, 2, 3]] false) .ret))))
set_option maxRecDepth 1000000 in
theorem v92 (fu : Nat) : evF fu (d92 fu) rs92 62 (e92 fu).ash (e92 fu).osh (e92 fu).vsh = p92 fu := by kernel_rfl
set_option maxRecDepth 1000000 in
theorem b92 (fu : Nat) : BodyD Try.prog 92 62 (d92 fu).erase rs92 := bodyD_mk Try.func92 (by kernel_rfl) (by kernel_rfl) (by kernel_rfl) (by kernel_rfl)
theorem g92 (fu : Nat) : (e92 fu).Good Try.prog := good_by orders (b92 fu) (l := [e62 fu]) (by kernel_rfl) ⟨g62 fu, trivial⟩ (by kernel_rfl) (v92 fu)
def rs81 : List RVx := [(.cell 2 true 26), (.tmp 3)]
/-- (*gazette/client.client).request -/
def p81 (fu : Nat) : (Z0) × (Unit) → Option (((Z0) × ((Unit) × ((Unit) × ((Unit) × ((Unit) × ((Unit) × (Unit))))))) × ((Z25) × ((Int) × (Unit)))) := fun ⟨⟨a, c, f, h, i, j, k, l, m, n, o, q, s, t, u, w, x, y, z, a0, c0, f0, h0, i0, j0, k0, l0, _, m0, n0, o0, q0, s0, t0, u0, w0, x0, y0, z0, a1, c1, f1, h1, _, i1, j1, k1, l1, m1, n1, o1, q1, _, s1, t1, u1, w1, x1, y1, z1, a2, c2, f2, h2, i2, j2, k2, l2, _, m2, _, n2, o2, q2, _⟩, _⟩ =>
bif (l == (5 : Int)) then
 bif decide (List.length z = List.length z) then
 Option.bind (p63 fu ((u, w, x, y, z, a0, c0, f0, h0, i0, j0, k0, ()), ())) fun ⟨_, ⟨s2, _, _, t2, u2, w2, x2, y2, z2, a3, c3, f3, _⟩⟩ =>
 bif decide (List.length c = List.length c) then
 bif decide (List.length i = List.length i) then
 bif decide (List.length j = List.length j) then
 bif decide (List.length o = List.length o) then
 bif decide (List.length z = List.length z) then
 Option.bind (p90 fu ((a, c, f, h, i, j, k, l, m, n, o, q, s, t, u, w, x, y, z, a0, c0, f0, h0, i0, j0, k0, l0, false, m0, n0, o0, q0, s0, t0, u0, w0, x0, y0, z0, a1, c1, f1, h1, [], i1, j1, k1, l1, m1, n1, o1, q1, [], s1, t1, u1, w1, x1, y1, z1, a2, c2, f2, h2, i2, j2, k2, l2, [], m2, [], n2, o2, q2, ()), (0 : Int), ())) fun ⟨_, h3⟩ =>
 bif decide (List.length c = List.length c) then
 bif decide (List.length i = List.length i) then
 bif decide (List.length j = List.length j) then
 bif decide (List.length o = List.length o) then
 bif decide (List.length z = List.length z) then
 bif decide (List.length u2 = List.length u2) then
 some (((a, c, f, h, i, j, k, l, m, n, o, q, s, t, u, w, x, y, z, a0, c0, f0, h0, i0, j0, k0, l0, false, m0, n0, o0, q0, s0, t0, u0, w0, x0, y0, z0, a1, c1, f1, h1, (), i1, j1, k1, l1, m1, n1, o1, q1, (), s1, t1, u1, w1, x1, y1, z1, a2, c2, f2, h2, i2, j2, k2, l2, (), m2, (), n2, o2, q2, ()), (), (), (), (), (), ()), (((0 : Int), (5 : Int), (0 : Int), (0 : Int), (0 : Int), (0 : Int), (0 : Int), (⟨#[]⟩ : ByteArray), [], (0 : Int), (0 : Int), (⟨#[]⟩ : ByteArray), (0 : Int), s2, f, h, t2, u2, w2, x2, y2, z2, a3, c3, f3, (⟨#[]⟩ : ByteArray), ()), h3, ()))
 else none
 else none
 else none
 else none
 else none
 else none
 else none
 else none
 else none
 else none
 else none
 else none
else
 bif decide (List.length c = List.length c) then
 bif decide (List.length i = List.length i) then
 bif decide (List.length j = List.length j) then
 bif decide (List.length o = List.length o) then
 bif decide (List.length z = List.length z) then
 Option.bind (p84_1 fu ((a, c, f, h, i, j, k, l, m, n, o, q, s, t, u, w, x, y, z, a0, c0, f0, h0, i0, j0, k0, l0, false, m0, n0, o0, q0, s0, t0, u0, w0, x0, y0, z0, a1, c1, f1, h1, (), i1, j1, k1, l1, m1, n1, o1, q1, (), s1, t1, u1, w1, x1, y1, z1, a2, c2, f2, h2, i2, j2, k2, l2, (), m2, (), n2, o2, q2, ()), ())) fun ⟨⟨⟨i3, j3, k3, l3, m3, n3, o3, q3, s3, t3, u3, w3, x3, y3, z3, a4, c4, f4, h4, i4, j4, k4, l4, m4, n4, o4, q4, s4, t4, u4, w4, x4, y4, z4, a5, c5, f5, h5, i5, j5, k5, l5, m5, _, n5, o5, q5, s5, t5, u5, w5, x5, _, y5, z5, a6, c6, f6, h6, i6, j6, k6, l6, m6, n6, o6, q6, s6, _, t6, _, u6, w6, x6, _⟩, _, _, _, _, _, _⟩, ⟨⟨y6, _, _, z6, _, _, _, _⟩, a7, _⟩⟩ =>
 orK (E := ((Bool) × (Unit)) × (Unit))
 (bif (q3 == (6 : Int)) then
 some (.inl ((true, ()), ()))
 else
 some (.inl ((!a7, ()), ())))
 fun ⟨⟨c7, _⟩, _⟩ =>
 bif c7 then
 bif decide (List.length j3 = List.length j3) then
 bif decide (List.length m3 = List.length m3) then
 bif decide (List.length n3 = List.length n3) then
 bif decide (List.length u3 = List.length u3) then
 bif decide (List.length h4 = List.length h4) then
 Option.bind (p91 fu ((i3, j3, k3, l3, m3, n3, o3, q3, s3, t3, u3, w3, x3, y3, z3, a4, c4, f4, h4, i4, j4, k4, l4, m4, n4, o4, q4, (q3 != (6 : Int)), t4, u4, w4, x4, y4, z4, a5, c5, f5, h5, i5, j5, k5, l5, m5, [], n5, o5, q5, s5, t5, u5, w5, x5, [], y5, z5, a6, c6, f6, h6, i6, j6, k6, l6, m6, n6, o6, q6, s6, [], t6, [], u6, w6, x6, ()), ())) fun ⟨_, f7⟩ =>
 bif decide (List.length j3 = List.length j3) then
 bif decide (List.length m3 = List.length m3) then
 bif decide (List.length n3 = List.length n3) then
 bif decide (List.length u3 = List.length u3) then
 bif decide (List.length h4 = List.length h4) then
 some (((i3, j3, k3, l3, m3, n3, o3, q3, s3, t3, u3, w3, x3, y3, z3, a4, c4, f4, h4, i4, j4, k4, l4, m4, n4, o4, q4, (q3 != (6 : Int)), t4, u4, w4, x4, y4, z4, a5, c5, f5, h5, i5, j5, k5, l5, m5, (), n5, o5, q5, s5, t5, u5, w5, x5, (), y5, z5, a6, c6, f6, h6, i6, j6, k6, l6, m6, n6, o6, q6, s6, (), t6, (), u6, w6, x6, ()), (), (), (), (), (), ()), (((0 : Int), (6 : Int), (0 : Int), (0 : Int), (0 : Int), (0 : Int), (0 : Int), (⟨#[]⟩ : ByteArray), [], (0 : Int), (0 : Int), (⟨#[]⟩ : ByteArray), (0 : Int), (0 : Int), (0 : Int), (0 : Int), (⟨#[]⟩ : ByteArray), [], (0 : Int), (0 : Int), (⟨#[]⟩ : ByteArray), (0 : Int), (0 : Int), (0 : Int), (0 : Int), s3, ()), f7, ()))
 else none
 else none
 else none
 else none
 else none
 else none
 else none
 else none
 else none
 else none
 else
 bif decide (List.length j3 = List.length j3) then
 bif decide (List.length m3 = List.length m3) then
 bif decide (List.length n3 = List.length n3) then
 bif decide (List.length u3 = List.length u3) then
 bif decide (List.length h4 = List.length h4) then
 Option.bind (p92 fu ((i3, j3, k3, l3, m3, n3, o3, q3, s3, t3, u3, w3, x3, y3, z3, a4, c4, f4, h4, i4, j4, k4, l4, m4, n4, o4, q4, s4, t4, u4, w4, x4, y4, z4, a5, c5, f5, h5, i5, j5, k5, l5, m5, [], n5, o5, q5, s5, t5, u5, w5, x5, [], y5, z5, a6, c6, f6, h6, i6, j6, k6, l6, m6, n6, o6, q6, s6, [], t6, [], u6, w6, x6, ()), z6, ())) fun ⟨_, ⟨h7, i7, j7, k7, l7, m7, n7, o7, q7, s7, _⟩⟩ =>
 bif decide (List.length j3 = List.length j3) then
 bif decide (List.length m3 = List.length m3) then
 bif decide (List.length n3 = List.length n3) then
 bif decide (List.length u3 = List.length u3) then
 bif decide (List.length h4 = List.length h4) then
 Option.bind (p90 fu ((i3, j3, k3, l3, m3, n3, o3, q3, s3, t3, u3, w3, x3, y3, z3, a4, c4, f4, h4, i4, j4, k4, l4, m4, n4, o4, q4, s4, t4, u4, w4, x4, y4, z4, a5, c5, f5, h5, i5, j5, k5, l5, m5, [], n5, o5, q5, s5, t5, u5, w5, x5, [], y5, z5, a6, c6, f6, h6, i6, j6, k6, l6, m6, n6, o6, q6, s6, [], t6, [], u6, w6, x6, ()), y6, ())) fun ⟨_, t7⟩ =>
 bif decide (List.length j3 = List.length j3) then
 bif decide (List.length m3 = List.length m3) then
 bif decide (List.length n3 = List.length n3) then
 bif decide (List.length u3 = List.length u3) then
 bif decide (List.length h4 = List.length h4) then
 bif decide (List.length m7 = List.length m7) then
 some (((i3, j3, k3, l3, m3, n3, o3, q3, s3, t3, u3, w3, x3, y3, z3, a4, c4, f4, h4, i4, j4, k4, l4, m4, n4, o4, q4, s4, t4, u4, w4, x4, y4, z4, a5, c5, f5, h5, i5, j5, k5, l5, m5, (), n5, o5, q5, s5, t5, u5, w5, x5, (), y5, z5, a6, c6, f6, h6, i6, j6, k6, l6, m6, n6, o6, q6, s6, (), t6, (), u6, w6, x6, ()), (), (), (), (), (), ()), (((0 : Int), q3, y6, h7, i7, j7, k7, l7, m7, n7, o7, q7, s7, (0 : Int), (0 : Int), (0 : Int), (⟨#[]⟩ : ByteArray), [], (0 : Int), (0 : Int), (⟨#[]⟩ : ByteArray), (0 : Int), (0 : Int), (0 : Int), (0 : Int), (⟨#[]⟩ : ByteArray), ()), t7, ()))
 else none
 else none
 else none
 else none
 else none
 else none
 else none
 else none
 else none
 else none
 else none
 else none
 else none
 else none
 else none
 else none
 else none
 else none
 else none
 else none
 else none
def e81 (fu : Nat) : Ent := ⟨81, (.cons Y20 .nil), (.cons Y23 (.cons .dead (.cons .dead (.cons .dead (.cons .dead (.cons .dead .nil)))))), (.tup 2 (.cons Y26 (.cons (.hole (.int .i64)) .nil))), p81 fu⟩
def d81 (fu : Nat) : DC := (.seq (.region [opD 2 (.alloc 58 26 [vU, vI, vU, vI, vU, vU, vU, vT, vS, vU, vI, vT, vU, vI, vU, vU, vT, vS, vU, vU, vT, vI, vI, vU, vI, vT]), opD 3 (.mov (cD 0))] [[], []] false) (.seq (.region [mvD 7 0, opD 8 (.pure .nilc [(tD 7)]), opD 9 (.faddr 0 (tD 8)), opD 10 (.faddr 27 (tD 9)), onD (.store 1 (tD 10) (.const vB))] [[], [0, 0], [1, 0], [2, 0], [3, 0]] false) (.seq (.seq (.region [mvD 11 0, opD 12 (.pure .nilc [(tD 11)]), opD 13 (.faddr 0 (tD 12)), opD 14 (.faddr 7 (tD 13)), opD 15 (.faddr 0 (tD 14)), opD 16 (.load false 1 (tD 15)), opD 17 (.bin .eql (tD 16) (cD 5))] [[], [0], [1], [2], [3], [4], [5]] false) (.cond (.tmp 17) (.seq (.region [mvD 18 0, opD 19 (.pure .nilc [(tD 18)]), opD 20 (.faddr 0 (tD 19)), opD 21 (.faddr 7 (tD 20)), opD 22 (.faddr 7 (tD 21)), opD 23 (.load true 12 (tD 22)), oqD 24 (.call 63 [(tD 23)]) (.ent (e63 fu)), opD 4 (.alloc 31 12 [vI, vU, vU, vT, vS, vU, vU, vT, vI, vI, vU, vI]), onD (.store 12 (tD 4) (tD 24))] [[], [0], [1], [2], [3], [4], [5], [], [7, 6, 6, 0, 1, 2, 3, 4, 5, 6, 7]] false) (.seq (.region [mvD 25 0, opD 26 (.pure .nilc [(tD 25)]), opD 27 (.faddr 0 (tD 26)), opD 28 (.faddr 2 (tD 27)), opD 29 (.load false 1 (tD 28)), mvD 30 0, opD 31 (.pure .nilc [(tD 30)]), opD 32 (.faddr 0 (tD 31)), opD 33 (.faddr 3 (tD 32)), opD 34 (.load false 1 (tD 33)), opD 35 (.faddr 1 (tD 4)), onD (.store 1 (tD 35) (tD 29)), opD 36 (.faddr 2 (tD 4)), onD (.store 1 (tD 36) (tD 34))] [[], [0], [1], [2], [3], [], [5], [6], [7], [8], [0, 1, 2, 3, 4], [10, 4, 0, 1, 2, 3, 4], [0, 1, 2, 3, 4, 5, 6, 7, 8, 9, 10, 11], [12, 9, 11, 0, 1, 2, 3, 4, 5, 6, 7, 8, 9, 10, 11]] true) (.seq (.region [opD 37 (.load true 12 (tD 4)), opD 38 (.build 26 [vU, vI, vU, vI, vU, vU, vU, vT, vS, vU, vI, vT, vU, vI, vU, vU, vT, vS, vU, vU, vT, vI, vI, vU, vI, vT] [(1, (1, (cD 5))), (13, (12, (tD 37)))]), mvD 39 0, oqD 40 (.call 90 [(tD 39), (.const vU)]) (.ent (e90 fu)), onD (.store 26 (tD 2) (tD 38)), mvD 3 40] [[], [0], [], [2], [1, 3, 0, 1], [3, 4, 0, 1, 2, 3, 4]] true) .ret))) .skip)) (.seq (.region [mvD 42 0, oqD 43 (.call 84 [(tD 42)]) (.ent (e84_1 fu)), mvD 41 43, opD 44 (.ext (tD 41) 0), opD 45 (.ext (tD 41) 1), opD 5 (.alloc 67 7 [vU, vT, vT, vU, vS, vS, vU]), onD (.store 7 (tD 5) (tD 44)), mvD 6 45] [[], [0], [1], [2], [2], [], [5, 3, 1, 0, 1, 2, 3, 5], [4, 6, 0, 1, 2, 3, 4, 5, 6]] false) (.seq (.join ⟨[56], (.cons (.hole .bool) .nil), [], .nil, [0, 2, 5], [0, 1, 2, 3, 4, 5, 12, 252, 253, 254, 255, 256, 316]⟩
 (.region [mvD 46 0, opD 47 (.pure .nilc [(tD 46)]), opD 48 (.faddr 0 (tD 47)), opD 49 (.faddr 7 (tD 48)), opD 50 (.faddr 0 (tD 49)), opD 51 (.load false 1 (tD 50)), opD 52 (.bin .eql (tD 51) (cD 6)), mvD 53 52, ogD 54 53 false (.mov (tD 6)), ogD 55 53 false (.not (tD 54)), opD 56 (.pick (tD 53) (.const (.bool true)) (tD 55))] [[], [0], [1], [2], [3], [4], [5], [6], [7], [8, 7], [7, 9]] false)
 (.cond (.tmp 56) (.seq (.region [mvD 57 0, mvD 58 0, opD 59 (.pure .nilc [(tD 58)]), opD 60 (.faddr 0 (tD 59)), opD 61 (.faddr 7 (tD 60)), opD 62 (.faddr 0 (tD 61)), opD 63 (.load false 1 (tD 62)), opD 64 (.bin .neq (tD 63) (cD 6)), opD 65 (.pure .nilc [(tD 57)]), opD 66 (.faddr 0 (tD 65)), opD 67 (.faddr 27 (tD 66)), onD (.store 1 (tD 67) (tD 64))] [[], [], [1], [2], [3], [4], [5], [6], [0, 0, 1, 2, 3, 4, 5, 6, 7], [8, 0, 1, 2, 3, 4, 5, 6, 7], [9, 0, 1, 2, 3, 4, 5, 6, 7], [10, 7, 0, 1, 2, 3, 4, 5, 6, 7]] false) (.seq (.region [mvD 68 0, opD 69 (.pure .nilc [(tD 68)]), opD 70 (.faddr 0 (tD 69)), opD 71 (.faddr 7 (tD 70)), opD 72 (.faddr 1 (tD 71)), opD 73 (.load false 1 (tD 72)), opD 74 (.build 26 [vU, vI, vU, vI, vU, vU, vU, vT, vS, vU, vI, vT, vU, vI, vU, vU, vT, vS, vU, vU, vT, vI, vI, vU, vI, vT] [(1, (1, (cD 6))), (25, (1, (tD 73)))]), mvD 75 0, oqD 76 (.call 91 [(tD 75)]) (.ent (e91 fu)), onD (.store 26 (tD 2) (tD 74)), mvD 3 76] [[], [0], [1], [2], [3], [4], [5], [], [7], [6, 8, 0, 1, 2, 3, 4, 5, 6], [8, 9, 0, 1, 2, 3, 4, 5, 6, 7, 8, 9]] true) .ret)) .skip)) (.seq (.region [mvD 77 0, opD 78 (.pure .nilc [(tD 77)]), opD 79 (.faddr 0 (tD 78)), opD 80 (.faddr 7 (tD 79)), opD 81 (.faddr 0 (tD 80)), opD 82 (.load false 1 (tD 81)), opD 83 (.faddr 0 (tD 5)), opD 84 (.load false 1 (tD 83)), mvD 85 0, opD 86 (.faddr 3 (tD 5)), opD 87 (.load false 1 (tD 86)), oqD 88 (.call 92 [(tD 85), (tD 87)]) (.ent (e92 fu)), opD 89 (.build 26 [vU, vI, vU, vI, vU, vU, vU, vT, vS, vU, vI, vT, vU, vI, vU, vU, vT, vS, vU, vU, vT, vI, vI, vU, vI, vT] [(1, (1, (tD 82))), (2, (1, (tD 84))), (3, (10, (tD 88)))]), mvD 90 0, opD 91 (.faddr 0 (tD 5)), opD 92 (.load false 1 (tD 91)), oqD 93 (.call 90 [(tD 90), (tD 92)]) (.ent (e90 fu)), onD (.store 26 (tD 2) (tD 89)), mvD 3 93] [[], [0], [1], [2], [3], [4], [], [6], [], [], [9], [8, 10], [5, 7, 11], [], [], [14], [13, 15, 11], [12, 16, 0, 1, 2, 3, 4, 5, 6, 7, 8, 9, 10, 11, 12], [16, 17, 0, 1, 2, 3, 4, 5, 6, 7, 8, 9, 10, 11, 12, 13, 14, 15, 16, 17]] true) .ret))))))
set_option maxRecDepth 1000000 in
theorem v81 (fu : Nat) : evF fu (d81 fu) rs81 94 (e81 fu).ash (e81 fu).osh (e81 fu).vsh = p81 fu := by kernel_rfl
set_option maxRecDepth 1000000 in
theorem b81 (fu : Nat) : BodyD Try.prog 81 94 (d81 fu).erase rs81 := bodyD_mk Try.func81 (by kernel_rfl) (by kernel_rfl) (by kernel_rfl) (by kernel_rfl)
theorem g81 (fu : Nat) : (e81 fu).Good Try.prog := good_by orders (b81 fu) (l := [e63 fu, e90 fu, e84_1 fu, e91 fu, e92 fu, e90 fu]) (by kernel_rfl) ⟨g63 fu, g90 fu, g84_1 fu, g91 fu, g92 fu, g90 fu, trivial⟩ (by kernel_rfl) (v81 fu)
def rs66 : List RVx := []
/-- (*gazette/client.client).send -/
def p66 (fu : Nat) : (Z0) × (Unit) → Option (((Z22) × ((Unit) × ((Unit) × ((Unit) × ((Unit) × ((Unit) × (Unit))))))) × (Unit)) := fun ⟨⟨a, c, f, h, i, j, k, l, m, n, o, q, s, t, u, w, x, y, z, a0, c0, f0, h0, i0, j0, k0, l0, m0, n0, o0, q0, s0, t0, u0, w0, x0, y0, z0, a1, c1, f1, h1, i1, _, j1, k1, l1, m1, n1, o1, q1, s1, _, t1, u1, w1, x1, y1, z1, a2, c2, f2, h2, i2, j2, k2, l2, m2, _, n2, _, o2, q2, s2, _⟩, _⟩ =>
bif decide (o0 ≥ (24 : Int)) then
 bif decide (List.length c = List.length c) then
 bif decide (List.length i = List.length i) then
 bif decide (List.length j = List.length j) then
 bif decide (List.length o = List.length o) then
 bif decide (List.length z = List.length z) then
 Option.bind (p72 fu ((a, c, f, h, i, j, k, l, m, n, o, q, s, t, u, w, x, y, z, a0, c0, f0, h0, i0, j0, k0, l0, m0, n0, o0, q0, s0, t0, u0, w0, x0, y0, z0, a1, c1, f1, h1, i1, (), j1, k1, l1, m1, n1, o1, q1, s1, (), t1, u1, w1, x1, y1, z1, a2, c2, f2, h2, i2, j2, k2, l2, m2, (), n2, (), o2, q2, s2, ()), ())) fun ⟨⟨⟨t2, u2, w2, x2, y2, z2, a3, c3, f3, h3, _, i3, j3, k3, l3, m3, n3, o3, _, q3, s3, t3, u3, w3, x3, y3, z3, a4, c4, f4, h4, i4, j4, k4, l4, m4, n4, o4, q4, s4, t4, u4, w4, _, x4, y4, z4, a5, c5, f5, h5, i5, _, j5, k5, l5, m5, n5, o5, q5, s5, t5, u5, w5, x5, y5, z5, a6, c6, f6, h6, i6, j6, k6, _⟩, _, _, _, _, _, _⟩, _⟩ =>
 bif decide (List.length u2 = List.length u2) then
 bif decide (List.length y2 = List.length y2) then
 bif decide (List.length z2 = List.length z2) then
 bif decide (List.length c6 = List.length c6) then
 bif decide (List.length h6 = List.length h6) then
 some (((t2, u2, w2, x2, y2, z2, a3, c3, f3, h3, [], i3, j3, k3, l3, m3, n3, o3, [], q3, s3, t3, u3, w3, x3, y3, z3, a4, c4, f4, h4, i4, j4, k4, l4, m4, n4, o4, q4, s4, t4, u4, w4, [], x4, y4, z4, a5, c5, f5, h5, i5, [], j5, k5, l5, m5, n5, o5, q5, s5, t5, u5, w5, x5, y5, z5, a6, c6, f6, h6, i6, j6, k6, ()), (), (), (), (), (), ()), ())
 else none
 else none
 else none
 else none
 else none
 else none
 else none
 else none
 else none
 else none
else
 bif decide (List.length c = List.length c) then
 bif decide (List.length i = List.length i) then
 bif decide (List.length j = List.length j) then
 bif decide (List.length o = List.length o) then
 bif decide (List.length z = List.length z) then
 Option.bind (p81 fu ((a, c, f, h, i, j, k, l, m, n, o, q, s, t, u, w, x, y, z, a0, c0, f0, h0, i0, j0, k0, IntKind.wrap .u64 (l0 + (1 : Int)), m0, n0, IntKind.wrap .i64 (o0 + (1 : Int)), (0 : Int), false, t0, u0, w0, x0, y0, z0, a1, c1, f1, h1, i1, (), j1, k1, l1, m1, n1, o1, q1, s1, (), t1, u1, w1, x1, y1, z1, a2, c2, f2, h2, i2, j2, k2, l2, m2, (), n2, (), o2, q2, s2, ()), ())) fun ⟨⟨⟨l6, m6, n6, o6, q6, s6, t6, u6, w6, x6, y6, z6, a7, c7, f7, h7, i7, j7, k7, l7, m7, n7, o7, q7, s7, t7, u7, w7, _, x7, y7, z7, a8, _, _, _, _, _, _, _, _, _, _, _, _, _, _, _, _, _, _, _, _, _, _, _, _, _, _, _, _, c8, f8, h8, i8, j8, k8, l8, _, m8, _, n8, o8, q8, _⟩, _, _, _, _, _, _⟩, ⟨⟨_, s8, t8, u8, w8, x8, y8, z8, a9, c9, f9, h9, i9, j9, k9, l9, m9, n9, o9, q9, s9, t9, u9, w9, x9, y9, _⟩, z9, _⟩⟩ =>
 bif decide (List.length m6 = List.length m6) then
 bif decide (List.length q6 = List.length q6) then
 bif decide (List.length s6 = List.length s6) then
 bif decide (List.length y6 = List.length y6) then
 bif decide (List.length k7 = List.length k7) then
 bif decide (List.length a9 = List.length a9) then
 bif decide (List.length n9 = List.length n9) then
 some (((l6, m6, n6, o6, q6, s6, t6, u6, w6, x6, y6, z6, a7, c7, f7, h7, i7, j7, k7, l7, m7, n7, o7, q7, s7, t7, u7, w7, t8, x7, y7, z7, a8, true, z9, u7, s8, t8, u8, w8, x8, y8, z8, a9, c9, f9, h9, i9, j9, k9, l9, m9, n9, o9, q9, s9, t9, u9, w9, x9, y9, c8, f8, h8, i8, j8, k8, l8, [], m8, [], n8, o8, q8, ()), (), (), (), (), (), ()), ())
 else none
 else none
 else none
 else none
 else none
 else none
 else none
 else none
 else none
 else none
 else none
 else none
def e66 (fu : Nat) : Ent := ⟨66, (.cons Y20 .nil), (.cons Y27 (.cons .dead (.cons .dead (.cons .dead (.cons .dead (.cons .dead .nil)))))), (.tup 0 .nil), p66 fu⟩
def d66 (fu : Nat) : DC := (.seq (.seq (.region [mvD 4 0, opD 5 (.pure .nilc [(tD 4)]), opD 6 (.faddr 0 (tD 5)), opD 7 (.faddr 29 (tD 6)), opD 8 (.load false 1 (tD 7)), opD 9 (.bin .geq (tD 8) (cD 24))] [[], [0], [1], [2], [3], [4]] false) (.cond (.tmp 9) (.seq (.region [mvD 10 0, oqD 11 (.call 72 [(tD 10)]) (.ent (e72 fu))] [[], [0]] false) .ret) .skip)) (.seq (.region [mvD 12 0, opD 13 (.pure .nilc [(tD 12)]), opD 14 (.faddr 0 (tD 13)), opD 15 (.faddr 29 (tD 14)), opD 16 (.load false 1 (tD 15)), opD 17 (.bin .add (tD 16) (cD 1)), opD 18 (.pure .nilc [(tD 12)]), opD 19 (.faddr 0 (tD 18)), opD 20 (.faddr 29 (tD 19)), onD (.store 1 (tD 20) (tD 17))] [[], [0], [1], [2], [3], [4], [0, 0, 1, 2, 3, 4, 5], [6, 0, 1, 2, 3, 4, 5], [7, 0, 1, 2, 3, 4, 5], [8, 5, 0, 1, 2, 3, 4, 5]] false) (.seq (.region [mvD 21 0, opD 22 (.pure .nilc [(tD 21)]), opD 23 (.faddr 0 (tD 22)), opD 24 (.faddr 26 (tD 23)), opD 25 (.load false 1 (tD 24)), opD 26 (.bin .add (tD 25) (.const (.int .u64 1))), opD 27 (.pure .nilc [(tD 21)]), opD 28 (.faddr 0 (tD 27)), opD 29 (.faddr 26 (tD 28)), onD (.store 1 (tD 29) (tD 26))] [[], [0], [1], [2], [3], [4], [0, 0, 1, 2, 3, 4, 5], [6, 0, 1, 2, 3, 4, 5], [7, 0, 1, 2, 3, 4, 5], [8, 5, 0, 1, 2, 3, 4, 5]] false) (.seq (.region [mvD 30 0, mvD 31 0, opD 32 (.pure .nilc [(tD 30)]), opD 33 (.faddr 0 (tD 32)), opD 34 (.faddr 30 (tD 33)), onD (.store 1 (tD 34) (cD 0)), opD 35 (.pure .nilc [(tD 31)]), opD 36 (.faddr 0 (tD 35)), opD 37 (.faddr 31 (tD 36)), onD (.store 1 (tD 37) (.const vB))] [[], [], [0, 0], [2, 0], [3, 0], [4, 0], [1, 0, 1, 2, 3, 4, 5], [6, 0, 1, 2, 3, 4, 5], [7, 0, 1, 2, 3, 4, 5], [8, 5, 0, 1, 2, 3, 4, 5]] false) (.seq (.region [mvD 39 0, oqD 40 (.call 81 [(tD 39)]) (.ent (e81 fu)), mvD 38 40, opD 41 (.ext (tD 38) 0), opD 42 (.ext (tD 38) 1), opD 2 (.alloc 58 26 [vU, vI, vU, vI, vU, vU, vU, vT, vS, vU, vI, vT, vU, vI, vU, vU, vT, vS, vU, vU, vT, vI, vI, vU, vI, vT]), onD (.store 26 (tD 2) (tD 41)), mvD 3 42] [[], [0], [1], [2], [2], [], [5, 3, 1, 0, 1, 2, 3, 5], [4, 6, 0, 1, 2, 3, 4, 5, 6]] false) (.seq (.region [mvD 43 0, opD 44 (.pure .nilc [(tD 43)]), opD 45 (.faddr 0 (tD 44)), opD 46 (.faddr 26 (tD 45)), opD 47 (.load false 1 (tD 46)), opD 48 (.faddr 0 (tD 2)), onD (.store 1 (tD 48) (tD 47))] [[], [0], [1], [2], [3], [0, 1, 2, 3, 4], [5, 4, 0, 1, 2, 3, 4]] false) (.seq (.region [mvD 49 0, opD 50 (.faddr 2 (tD 2)), opD 51 (.load false 1 (tD 50)), opD 52 (.pure .nilc [(tD 49)]), opD 53 (.faddr 0 (tD 52)), opD 54 (.faddr 28 (tD 53)), onD (.store 1 (tD 54) (tD 51))] [[], [], [1], [0, 0, 1, 2], [3, 0, 1, 2], [4, 0, 1, 2], [5, 2, 0, 1, 2]] false) (.region [mvD 55 0, mvD 56 0, mvD 57 0, mvD 58 3, opD 59 (.load true 26 (tD 2)), opD 60 (.pure .nilc [(tD 55)]), opD 61 (.faddr 33 (tD 60)), opD 62 (.faddr 0 (tD 61)), onD (.store 1 (tD 62) (.const (.bool true))), opD 63 (.pure .nilc [(tD 56)]), opD 64 (.faddr 33 (tD 63)), opD 65 (.faddr 1 (tD 64)), onD (.store 1 (tD 65) (tD 58)), opD 66 (.pure .nilc [(tD 57)]), opD 67 (.faddr 33 (tD 66)), opD 68 (.faddr 2 (tD 67)), onD (.store 26 (tD 68) (tD 59))] [[], [], [], [], [], [0, 0], [5, 0], [6, 0], [7, 0], [1, 0, 1, 3, 5, 6, 7, 8], [9, 0, 1, 3, 5, 6, 7, 8], [10, 0, 1, 3, 5, 6, 7, 8], [11, 3, 8, 0, 1, 3, 5, 6, 7, 8], [2, 0, 1, 2, 3, 4, 5, 6, 7, 8, 9, 10, 11, 12], [13, 0, 1, 2, 3, 4, 5, 6, 7, 8, 9, 10, 11, 12], [14, 0, 1, 2, 3, 4, 5, 6, 7, 8, 9, 10, 11, 12], [15, 4, 12, 0, 1, 2, 3, 4, 5, 6, 7, 8, 9, 10, 11, 12]] true))))))))
set_option maxRecDepth 1000000 in
theorem v66 (fu : Nat) : evF fu (d66 fu) rs66 69 (e66 fu).ash (e66 fu).osh (e66 fu).vsh = p66 fu := by kernel_rfl
set_option maxRecDepth 1000000 in
theorem b66 (fu : Nat) : BodyD Try.prog 66 69 (d66 fu).erase rs66 := bodyD_mk Try.func66 (by kernel_rfl) (by kernel_rfl) (by kernel_rfl) (by kernel_rfl)
theorem g66 (fu : Nat) : (e66 fu).Good Try.prog := good_by orders (b66 fu) (l := [e72 fu, e81 fu]) (by kernel_rfl) ⟨g72 fu, g81 fu, trivial⟩ (by kernel_rfl) (v66 fu)
def rs42 : List RVx := [(.tmp 4)]
/-- (*gazette/client.client).call -/
def p42 (fu : Nat) : (Z0) × ((Z28) × (Unit)) → Option (((Z22) × ((Unit) × ((Unit) × ((Unit) × ((Unit) × ((Unit) × (Unit))))))) × (Int)) := fun ⟨⟨a, c, f, h, i, j, k, l, m, n, o, q, s, t, u, w, x, y, z, a0, c0, f0, h0, i0, j0, k0, l0, m0, n0, o0, q0, s0, t0, u0, w0, x0, y0, z0, a1, c1, f1, h1, i1, _, j1, k1, l1, m1, n1, o1, q1, s1, _, t1, u1, w1, x1, y1, z1, a2, c2, f2, h2, i2, j2, k2, l2, m2, _, n2, _, o2, q2, s2, _⟩, ⟨_, t2, u2, w2, x2, y2, z2, a3, c3, f3, h3, i3, j3, k3, l3, m3, n3, o3, q3, s3, _, _, _, _, _, _, _, _, _, _, _, _, _⟩, _⟩ =>
bif k then
 bif decide (List.length c = List.length c) then
 bif decide (List.length i = List.length i) then
 bif decide (List.length j = List.length j) then
 bif decide (List.length o = List.length o) then
 bif decide (List.length z = List.length z) then
 some (((a, c, f, h, i, j, k, l, m, n, o, q, s, t, u, w, x, y, z, a0, c0, f0, h0, i0, j0, k0, l0, m0, n0, o0, q0, s0, t0, u0, w0, x0, y0, z0, a1, c1, f1, h1, i1, [], j1, k1, l1, m1, n1, o1, q1, s1, [], t1, u1, w1, x1, y1, z1, a2, c2, f2, h2, i2, j2, k2, l2, m2, [], n2, [], o2, q2, s2, ()), (), (), (), (), (), ()), (211 : Int))
 else none
 else none
 else none
 else none
 else none
else
 Option.bind (p64 fu ((t2, u2, w2, x2, y2, z2, a3, c3, f3, h3, i3, j3, k3, l3, m3, n3, o3, q3, s3, ()), ())) fun ⟨_, t3⟩ =>
 bif !t3 then
 bif decide (List.length c = List.length c) then
 bif decide (List.length i = List.length i) then
 bif decide (List.length j = List.length j) then
 bif decide (List.length o = List.length o) then
 bif decide (List.length z = List.length z) then
 some (((a, c, f, h, i, j, k, l, m, n, o, q, s, t, u, w, x, y, z, a0, c0, f0, h0, i0, j0, k0, l0, m0, n0, o0, q0, s0, t0, u0, w0, x0, y0, z0, a1, c1, f1, h1, i1, [], j1, k1, l1, m1, n1, o1, q1, s1, [], t1, u1, w1, x1, y1, z1, a2, c2, f2, h2, i2, j2, k2, l2, m2, [], n2, [], o2, q2, s2, ()), (), (), (), (), (), ()), (212 : Int))
 else none
 else none
 else none
 else none
 else none
 else
 Option.bind (p41 fu ((t2, u2, w2, x2, y2, z2, a3, c3, f3, h3, i3, j3, k3, l3, m3, n3, o3, q3, s3, ()), ())) fun ⟨_, ⟨u3, w3, x3, y3, z3, a4, c4, f4, h4, i4, j4, k4, l4, m4, n4, o4, q4, s4, t4, _⟩⟩ =>
 Option.bind (p65 fu (u3, ())) fun ⟨_, u4⟩ =>
 bif u4 then
 bif decide (List.length c = List.length c) then
 bif decide (List.length i = List.length i) then
 bif decide (List.length j = List.length j) then
 bif decide (List.length y3 = List.length y3) then
 bif decide (List.length k4 = List.length k4) then
 Option.bind (p66 fu ((a, c, f, IntKind.wrap .u64 (h + (1 : Int)), i, j, true, u3, w3, x3, y3, z3, a4, c4, f4, h4, i4, j4, k4, l4, m4, n4, o4, q4, s4, t4, l0, m0, n0, o0, q0, s0, t0, u0, w0, x0, y0, z0, a1, c1, f1, h1, i1, (), j1, k1, l1, m1, n1, o1, q1, s1, (), t1, u1, w1, x1, y1, z1, a2, c2, f2, h2, i2, j2, k2, l2, m2, (), n2, (), o2, q2, s2, ()), ())) fun ⟨⟨⟨w4, x4, y4, z4, a5, c5, f5, h5, i5, j5, k5, l5, m5, n5, o5, q5, s5, t5, u5, w5, x5, y5, z5, a6, c6, f6, h6, i6, j6, k6, l6, m6, n6, o6, q6, s6, t6, u6, w6, x6, y6, z6, a7, c7, f7, h7, i7, j7, k7, l7, m7, n7, o7, q7, s7, t7, u7, w7, x7, y7, z7, a8, c8, f8, h8, i8, j8, k8, l8, m8, n8, o8, q8, s8, _⟩, _, _, _, _, _, _⟩, _⟩ =>
 bif decide (List.length x4 = List.length x4) then
 bif decide (List.length a5 = List.length a5) then
 bif decide (List.length c5 = List.length c5) then
 bif decide (List.length k5 = List.length k5) then
 bif decide (List.length u5 = List.length u5) then
 bif decide (List.length c7 = List.length c7) then
 bif decide (List.length o7 = List.length o7) then
 bif decide (List.length l8 = List.length l8) then
 bif decide (List.length n8 = List.length n8) then
 some (((w4, x4, y4, z4, a5, c5, f5, h5, i5, j5, k5, l5, m5, n5, o5, q5, s5, t5, u5, w5, x5, y5, z5, a6, c6, f6, h6, i6, j6, k6, l6, m6, n6, o6, q6, s6, t6, u6, w6, x6, y6, z6, a7, c7, f7, h7, i7, j7, k7, l7, m7, n7, o7, q7, s7, t7, u7, w7, x7, y7, z7, a8, c8, f8, h8, i8, j8, k8, l8, m8, n8, o8, q8, s8, ()), (), (), (), (), (), ()), (0 : Int))
 else none
 else none
 else none
 else none
 else none
 else none
 else none
 else none
 else none
 else none
 else none
 else none
 else none
 else none
 else
 bif decide (List.length c = List.length c) then
 bif decide (List.length i = List.length i) then
 bif decide (List.length j = List.length j) then
 bif decide (List.length y3 = List.length y3) then
 bif decide (List.length k4 = List.length k4) then
 Option.bind (p66 fu ((a, c, f, h, i, j, true, u3, w3, x3, y3, z3, a4, c4, f4, h4, i4, j4, k4, l4, m4, n4, o4, q4, s4, t4, l0, m0, n0, o0, q0, s0, t0, u0, w0, x0, y0, z0, a1, c1, f1, h1, i1, (), j1, k1, l1, m1, n1, o1, q1, s1, (), t1, u1, w1, x1, y1, z1, a2, c2, f2, h2, i2, j2, k2, l2, m2, (), n2, (), o2, q2, s2, ()), ())) fun ⟨⟨⟨t8, u8, w8, x8, y8, z8, a9, c9, f9, h9, i9, j9, k9, l9, m9, n9, o9, q9, s9, t9, u9, w9, x9, y9, z9, a10, c10, f10, h10, i10, j10, k10, l10, m10, n10, o10, q10, s10, t10, u10, w10, x10, y10, z10, a11, c11, f11, h11, i11, j11, k11, l11, m11, n11, o11, q11, s11, t11, u11, w11, x11, y11, z11, a12, c12, f12, h12, i12, j12, k12, l12, m12, n12, o12, _⟩, _, _, _, _, _, _⟩, _⟩ =>
 bif decide (List.length u8 = List.length u8) then
 bif decide (List.length y8 = List.length y8) then
 bif decide (List.length z8 = List.length z8) then
 bif decide (List.length i9 = List.length i9) then
 bif decide (List.length s9 = List.length s9) then
 bif decide (List.length z10 = List.length z10) then
 bif decide (List.length m11 = List.length m11) then
 bif decide (List.length j12 = List.length j12) then
 bif decide (List.length l12 = List.length l12) then
 some (((t8, u8, w8, x8, y8, z8, a9, c9, f9, h9, i9, j9, k9, l9, m9, n9, o9, q9, s9, t9, u9, w9, x9, y9, z9, a10, c10, f10, h10, i10, j10, k10, l10, m10, n10, o10, q10, s10, t10, u10, w10, x10, y10, z10, a11, c11, f11, h11, i11, j11, k11, l11, m11, n11, o11, q11, s11, t11, u11, w11, x11, y11, z11, a12, c12, f12, h12, i12, j12, k12, l12, m12, n12, o12, ()), (), (), (), (), (), ()), (0 : Int))
 else none
 else none
 else none
 else none
 else none
 else none
 else none
 else none
 else none
 else none
 else none
 else none
 else none
 else none
def e42 (fu : Nat) : Ent := ⟨42, (.cons Y20 (.cons Y29 .nil)), (.cons Y27 (.cons .dead (.cons .dead (.cons .dead (.cons .dead (.cons .dead .nil)))))), (.hole (.int .i64)), p42 fu⟩
def d42 (fu : Nat) : DC := (.seq (.region [opD 3 (.box 50 32 (tD 1)), opD 4 (.mov (cD 0))] [[], []] false) (.seq (.seq (.region [mvD 5 0, opD 6 (.pure .nilc [(tD 5)]), opD 7 (.faddr 0 (tD 6)), opD 8 (.faddr 6 (tD 7)), opD 9 (.load false 1 (tD 8))] [[], [0], [1], [2], [3]] false) (.cond (.tmp 9) (.seq (.region [opD 4 (.mov (cD 211))] [[]] false) .ret) .skip)) (.seq (.seq (.region [opD 10 (.faddr 1 (tD 3)), opD 11 (.load true 19 (tD 10)), oqD 12 (.call 64 [(tD 11)]) (.ent (e64 fu)), opD 13 (.not (tD 12))] [[], [0], [1], [2]] false) (.cond (.tmp 13) (.seq (.region [opD 4 (.mov (cD 212))] [[]] false) .ret) .skip)) (.seq (.region [mvD 14 0, mvD 15 0, opD 16 (.faddr 1 (tD 3)), opD 17 (.load true 19 (tD 16)), oqD 18 (.call 41 [(tD 17)]) (.ent (e41 fu)), opD 19 (.pure .nilc [(tD 14)]), opD 20 (.faddr 0 (tD 19)), opD 21 (.faddr 6 (tD 20)), onD (.store 1 (tD 21) (.const (.bool true))), opD 22 (.pure .nilc [(tD 15)]), opD 23 (.faddr 0 (tD 22)), opD 24 (.faddr 7 (tD 23)), onD (.store 19 (tD 24) (tD 18))] [[], [], [], [2], [3], [0, 0, 4], [5, 0, 4], [6, 0, 4], [7, 4, 0, 4], [1, 0, 1, 2, 3, 4, 5, 6, 7, 8], [9, 0, 1, 2, 3, 4, 5, 6, 7, 8], [10, 0, 1, 2, 3, 4, 5, 6, 7, 8], [11, 4, 8, 0, 1, 2, 3, 4, 5, 6, 7, 8]] false) (.seq (.seq (.region [mvD 25 0, opD 26 (.pure .nilc [(tD 25)]), opD 27 (.faddr 0 (tD 26)), opD 28 (.faddr 7 (tD 27)), opD 29 (.faddr 0 (tD 28)), opD 30 (.load false 1 (tD 29)), oqD 31 (.call 65 [(tD 30)]) (.ent (e65 fu))] [[], [0], [1], [2], [3], [4], [5]] false) (.cond (.tmp 31) (.region [mvD 32 0, opD 33 (.pure .nilc [(tD 32)]), opD 34 (.faddr 0 (tD 33)), opD 35 (.faddr 3 (tD 34)), opD 36 (.load false 1 (tD 35)), opD 37 (.bin .add (tD 36) (.const (.int .u64 1))), opD 38 (.pure .nilc [(tD 32)]), opD 39 (.faddr 0 (tD 38)), opD 40 (.faddr 3 (tD 39)), onD (.store 1 (tD 40) (tD 37))] [[], [0], [1], [2], [3], [4], [0, 0, 1, 2, 3, 4, 5], [6, 0, 1, 2, 3, 4, 5], [7, 0, 1, 2, 3, 4, 5], [8, 5, 0, 1, 2, 3, 4, 5]] false) .skip)) (.seq (.region [mvD 41 0, oqD 42 (.call 66 [(tD 41)]) (.ent (e66 fu))] [[], [0]] false) (.seq (.region [opD 4 (.mov (cD 0))] [[]] false) .ret)))))))
set_option maxRecDepth 1000000 in
theorem v42 (fu : Nat) : evF fu (d42 fu) rs42 43 (e42 fu).ash (e42 fu).osh (e42 fu).vsh = p42 fu := by kernel_rfl
set_option maxRecDepth 1000000 in
theorem b42 (fu : Nat) : BodyD Try.prog 42 43 (d42 fu).erase rs42 := bodyD_mk Try.func42 (by kernel_rfl) (by kernel_rfl) (by kernel_rfl) (by kernel_rfl)
theorem g42 (fu : Nat) : (e42 fu).Good Try.prog := good_by orders (b42 fu) (l := [e64 fu, e41 fu, e65 fu, e66 fu]) (by kernel_rfl) ⟨g64 fu, g41 fu, g65 fu, g66 fu, trivial⟩ (by kernel_rfl) (v42 fu)
def rs82 : List RVx := [(.tmp 6)]
/-- gazette/client.put[gazette/api.Topic] -/
def p82 (fu : Nat) : (List (D_api_Topic)) × (((ByteArray) × ((List (D_api_Shard)) × (Unit))) × (((Unit) × (((ByteArray) × (Unit)) × (Unit))) × (Unit))) → Option (((Unit) × (((ByteArray) × (Unit)) × (Unit))) × (List (D_api_Topic))) := fun ⟨a, ⟨c, f, _⟩, ⟨_, ⟨⟨h, _⟩, _⟩⟩, _⟩ =>
bif decide (List.length a = List.length a) then
 Option.bind (p93 fu (a, ((), ((h, ()), ())), ())) fun ⟨⟨⟨i, _⟩, _⟩, j⟩ =>
 bif decide (j ≥ (0 : Int)) then
 bif decide ((0 : Int) ≤ j ∧ j < (List.length a : Int)) then
 bif decide (Int.toNat j < List.length a) then
 bif decide (List.length a = List.length (List.set a (Int.toNat j) (c, f))) then
 some (((), (i, ()), ()), (List.set a (Int.toNat j) (c, f)))
 else none
 else none
 else none
 else
 bif decide (List.length a = List.length a) then
 bif decide (List.length a + List.length ([(c, f)]) ≤ maxLen ∧ (List.length a + List.length ([(c, f)])) * 40 ≤ 140737488355328) then
 bif decide (List.length (a ++ [(c, f)]) = List.length (a ++ [(c, f)])) then
 some (((), (i, ()), ()), (a ++ [(c, f)]))
 else none
 else none
 else none
else none
def e82 (fu : Nat) : Ent := ⟨82, (.cons (.own .own 82 T_api_Topic) (.cons (.agg 2 (.cons (.hole .str) (.cons (.hole (.sl T_api_Shard)) .nil))) (.cons (.clo 94 0 .nil 1 (.cons (.box 9 1 (.cons (.hole .str) .nil)) .nil)) .nil))), (.cons .dead (.cons (.agg 1 (.cons (.hole .str) .nil)) .nil)), (.own .own 82 T_api_Topic), p82 fu⟩
def d82 (fu : Nat) : DC := (.seq (.region [opD 4 (.box 82 2 (tD 1)), opD 6 (.mov (.const vS))] [[], []] false) (.seq (.seq (.region [mvD 8 0, mvD 9 2, oqD 10 (.call 93 [(tD 8), (tD 9)]) (.ent (e93 fu)), mvD 7 10] [[], [], [0, 1], [2, 2, 0, 1, 2]] false) (.seq (.region [mvD 11 7, opD 12 (.bin .geq (tD 11) (cD 0))] [[], [0]] false) (.cond (.tmp 12) (.seq (.region [mvD 13 0, mvD 14 7, opD 15 (.load true 2 (tD 4)), opD 16 (.iaddr 2 (tD 13) (tD 14)), onD (.store 2 (tD 16) (tD 15))] [[], [], [], [0, 1, 0, 1, 2], [3, 2, 0, 1, 2]] false) (.seq (.region [mvD 17 0, mvD 6 17] [[], [0, 0]] false) .ret)) .skip))) (.seq (.region [mvD 18 0, opD 19 (.load true 2 (tD 4)), oqD 20 (.bslice 82 2 1 [vT, vS] [(0, (tD 19))]) (.ty T_api_Topic), oqD 21 (.app 82 2 [vT, vS] 40 (tD 18) (tD 20)) (.ty T_api_Topic), mvD 6 21] [[], [], [1], [0, 2], [3, 3, 0, 1, 2, 3]] false) .ret)))
set_option maxRecDepth 1000000 in
theorem v82 (fu : Nat) : evF fu (d82 fu) rs82 22 (e82 fu).ash (e82 fu).osh (e82 fu).vsh = p82 fu := by kernel_rfl
set_option maxRecDepth 1000000 in
theorem b82 (fu : Nat) : BodyD Try.prog 82 22 (d82 fu).erase rs82 := bodyD_mk Try.func82 (by kernel_rfl) (by kernel_rfl) (by kernel_rfl) (by kernel_rfl)
theorem g82 (fu : Nat) : (e82 fu).Good Try.prog := good_by orders (b82 fu) (l := [e93 fu]) (by kernel_rfl) ⟨g93 fu, trivial⟩ (by kernel_rfl) (v82 fu)
def rs75 : List RVx := []
/-- (*gazette/client.client).nextServer -/
def p75 (_ : Nat) : (Z0) × (Unit) → Option (((Z0) × ((Unit) × ((Unit) × ((Unit) × ((Unit) × ((Unit) × (Unit))))))) × (Unit)) := fun ⟨⟨a, c, f, h, i, j, k, l, m, n, o, q, s, t, u, w, x, y, z, a0, c0, f0, h0, i0, j0, k0, l0, m0, n0, o0, q0, s0, t0, u0, w0, x0, y0, z0, a1, c1, f1, h1, i1, _, j1, k1, l1, m1, n1, o1, q1, s1, _, t1, u1, w1, x1, y1, z1, a2, c2, f2, h2, i2, j2, k2, l2, m2, _, n2, _, o2, q2, s2, _⟩, _⟩ =>
bif ((IntKind.wrap .i64 (t0 + (1 : Int))) == ((List.length c) : Int)) then
 bif decide (List.length c = List.length c) then
 bif decide (List.length i = List.length i) then
 bif decide (List.length j = List.length j) then
 bif decide (List.length o = List.length o) then
 bif decide (List.length z = List.length z) then
 some (((a, c, f, h, i, j, k, l, m, n, o, q, s, t, u, w, x, y, z, a0, c0, f0, h0, i0, j0, k0, l0, m0, n0, o0, q0, s0, (0 : Int), u0, w0, x0, y0, z0, a1, c1, f1, h1, i1, (), j1, k1, l1, m1, n1, o1, q1, s1, (), t1, u1, w1, x1, y1, z1, a2, c2, f2, h2, i2, j2, k2, l2, m2, (), n2, (), o2, q2, s2, ()), (), (), (), (), (), ()), ())
 else none
 else none
 else none
 else none
 else none
else
 bif decide (List.length c = List.length c) then
 bif decide (List.length i = List.length i) then
 bif decide (List.length j = List.length j) then
 bif decide (List.length o = List.length o) then
 bif decide (List.length z = List.length z) then
 some (((a, c, f, h, i, j, k, l, m, n, o, q, s, t, u, w, x, y, z, a0, c0, f0, h0, i0, j0, k0, l0, m0, n0, o0, q0, s0, IntKind.wrap .i64 (t0 + (1 : Int)), u0, w0, x0, y0, z0, a1, c1, f1, h1, i1, (), j1, k1, l1, m1, n1, o1, q1, s1, (), t1, u1, w1, x1, y1, z1, a2, c2, f2, h2, i2, j2, k2, l2, m2, (), n2, (), o2, q2, s2, ()), (), (), (), (), (), ()), ())
 else none
 else none
 else none
 else none
 else none
def e75 (fu : Nat) : Ent := ⟨75, (.cons Y20 .nil), (.cons Y23 (.cons .dead (.cons .dead (.cons .dead (.cons .dead (.cons .dead .nil)))))), (.tup 0 .nil), p75 fu⟩
def d75 (_ : Nat) : DC := (.seq (.region [mvD 2 0, opD 3 (.pure .nilc [(tD 2)]), opD 4 (.faddr 0 (tD 3)), opD 5 (.faddr 32 (tD 4)), opD 6 (.load false 1 (tD 5)), opD 7 (.bin .add (tD 6) (cD 1)), opD 8 (.pure .nilc [(tD 2)]), opD 9 (.faddr 0 (tD 8)), opD 10 (.faddr 32 (tD 9)), onD (.store 1 (tD 10) (tD 7))] [[], [0], [1], [2], [3], [4], [0, 0, 1, 2, 3, 4, 5], [6, 0, 1, 2, 3, 4, 5], [7, 0, 1, 2, 3, 4, 5], [8, 5, 0, 1, 2, 3, 4, 5]] false) (.seq (.region [mvD 11 0, opD 12 (.pure .nilc [(tD 11)]), opD 13 (.faddr 0 (tD 12)), opD 14 (.faddr 32 (tD 13)), opD 15 (.load false 1 (tD 14)), mvD 16 0, opD 17 (.pure .nilc [(tD 16)]), opD 18 (.faddr 0 (tD 17)), opD 19 (.faddr 1 (tD 18)), opD 20 (.load false 1 (tD 19)), opD 21 (.len false (tD 20)), opD 22 (.bin .eql (tD 15) (tD 21))] [[], [0], [1], [2], [3], [], [5], [6], [7], [8], [9], [4, 10]] true) (.cond (.tmp 22) (.region [mvD 23 0, opD 24 (.pure .nilc [(tD 23)]), opD 25 (.faddr 0 (tD 24)), opD 26 (.faddr 32 (tD 25)), onD (.store 1 (tD 26) (cD 0))] [[], [0, 0], [1, 0], [2, 0], [3, 0]] false) .skip)))
set_option maxRecDepth 1000000 in
theorem v75 (fu : Nat) : evF fu (d75 fu) rs75 27 (e75 fu).ash (e75 fu).osh (e75 fu).vsh = p75 fu := by kernel_rfl
set_option maxRecDepth 1000000 in
theorem b75 (fu : Nat) : BodyD Try.prog 75 27 (d75 fu).erase rs75 := bodyD_mk Try.func75 (by kernel_rfl) (by kernel_rfl) (by kernel_rfl) (by kernel_rfl)
theorem g75 (fu : Nat) : (e75 fu).Good Try.prog := good_by orders (b75 fu) (l := []) (by kernel_rfl) trivial (by kernel_rfl) (v75 fu)
def rs73 : List RVx := []
/-- (*gazette/client.client).later -/
def p73 (_ : Nat) : (Z0) × (Unit) → Option (((Z0) × ((Unit) × ((Unit) × ((Unit) × ((Unit) × ((Unit) × (Unit))))))) × (Unit)) := fun ⟨⟨a, c, f, h, i, j, k, l, m, n, o, q, s, t, u, w, x, y, z, a0, c0, f0, h0, i0, j0, k0, l0, m0, n0, o0, _, _, q0, s0, t0, u0, w0, x0, y0, z0, a1, c1, f1, _, h1, i1, j1, k1, l1, m1, n1, o1, _, q1, s1, t1, u1, w1, x1, y1, z1, a2, c2, f2, h2, i2, j2, k2, _, l2, _, m2, n2, o2, _⟩, _⟩ =>
bif decide (List.length c = List.length c) then
 bif decide (List.length i = List.length i) then
 bif decide (List.length j = List.length j) then
 bif decide (List.length o = List.length o) then
 bif decide (List.length z = List.length z) then
 some (((a, c, f, h, i, j, k, l, m, n, o, q, s, t, u, w, x, y, z, a0, c0, f0, h0, i0, j0, k0, l0, m0, n0, o0, (0 : Int), true, q0, s0, t0, u0, w0, x0, y0, z0, a1, c1, f1, (), h1, i1, j1, k1, l1, m1, n1, o1, (), q1, s1, t1, u1, w1, x1, y1, z1, a2, c2, f2, h2, i2, j2, k2, (), l2, (), m2, n2, o2, ()), (), (), (), (), (), ()), ())
 else none
 else none
 else none
 else none
else none
def e73 (fu : Nat) : Ent := ⟨73, (.cons Y20 .nil), (.cons Y23 (.cons .dead (.cons .dead (.cons .dead (.cons .dead (.cons .dead .nil)))))), (.tup 0 .nil), p73 fu⟩
def d73 (_ : Nat) : DC := (.region [mvD 2 0, mvD 3 0, opD 4 (.pure .nilc [(tD 2)]), opD 5 (.faddr 0 (tD 4)), opD 6 (.faddr 31 (tD 5)), onD (.store 1 (tD 6) (.const (.bool true))), opD 7 (.pure .nilc [(tD 3)]), opD 8 (.faddr 0 (tD 7)), opD 9 (.faddr 30 (tD 8)), onD (.store 1 (tD 9) (cD 0))] [[], [], [0, 0], [2, 0], [3, 0], [4, 0], [1, 0, 1, 2, 3, 4, 5], [6, 0, 1, 2, 3, 4, 5], [7, 0, 1, 2, 3, 4, 5], [8, 5, 0, 1, 2, 3, 4, 5]] false)
set_option maxRecDepth 1000000 in
theorem v73 (fu : Nat) : evF fu (d73 fu) rs73 10 (e73 fu).ash (e73 fu).osh (e73 fu).vsh = p73 fu := by kernel_rfl
set_option maxRecDepth 1000000 in
theorem b73 (fu : Nat) : BodyD Try.prog 73 10 (d73 fu).erase rs73 := bodyD_mk Try.func73 (by kernel_rfl) (by kernel_rfl) (by kernel_rfl) (by kernel_rfl)
theorem g73 (fu : Nat) : (e73 fu).Good Try.prog := good_by orders (b73 fu) (l := []) (by kernel_rfl) trivial (by kernel_rfl) (v73 fu)
def rs67 : List RVx := []
/-- (*gazette/client.client).answered -/
def p67 (fu : Nat) : (Z0) × ((Z4) × (Unit)) → Option (((Z22) × ((Unit) × ((Unit) × ((Unit) × ((Unit) × ((Unit) × (Unit))))))) × (Unit)) := fun ⟨⟨a, c, f, h, i, j, k, l, m, n, o, q, s, t, u, w, x, y, z, a0, c0, f0, h0, i0, j0, k0, l0, m0, n0, o0, q0, s0, t0, u0, w0, x0, y0, z0, a1, c1, f1, h1, i1, _, j1, k1, l1, m1, n1, o1, q1, s1, _, t1, u1, w1, x1, y1, z1, a2, c2, f2, h2, i2, j2, k2, l2, m2, _, n2, _, o2, q2, s2, _⟩, ⟨t2, u2, w2, x2, y2, z2, a3, c3, f3, h3, i3, j3, _⟩, _⟩ =>
orK (E := (Unit) × ((Z0) × (Unit)))
 (orK (E := ((Bool) × (Unit)) × (Unit))
 (bif m0 then
 some (.inl ((true, ()), ()))
 else
 some (.inl (((l == (6 : Int)), ()), ())))
 fun ⟨⟨k3, _⟩, _⟩ =>
 bif k3 then
 Option.bind (p61 fu (f3, ())) fun ⟨_, l3⟩ =>
 Option.bind (p83 fu (m, ())) fun ⟨_, ⟨_, ⟨⟨m3, _⟩, _⟩⟩⟩ =>
 bif decide (List.length i = List.length i) then
 bif decide (List.length l3 = List.length l3) then
 Option.bind (p82 fu (i, (m, l3, ()), ((), ((m3, ()), ())), ())) fun ⟨⟨_, ⟨_, _⟩, _⟩, n3⟩ =>
 bif decide (List.length c = List.length c) then
 bif decide (List.length n3 = List.length n3) then
 bif decide (List.length j = List.length j) then
 bif decide (List.length o = List.length o) then
 bif decide (List.length z = List.length z) then
 some (.inl ((), ((a, c, f, h, n3, j, k, l, m, n, o, q, s, t, u, w, x, y, z, a0, c0, f0, h0, i0, j0, k0, l0, m0, n0, o0, q0, s0, t0, u0, w0, x0, y0, z0, a1, c1, f1, h1, i1, (), j1, k1, l1, m1, n1, o1, q1, s1, (), t1, u1, w1, x1, y1, z1, a2, c2, f2, h2, i2, j2, k2, l2, m2, (), n2, (), o2, q2, s2, ()), ())))
 else none
 else none
 else none
 else none
 else none
 else none
 else none
 else
 bif decide (List.length c = List.length c) then
 bif decide (List.length i = List.length i) then
 bif decide (List.length j = List.length j) then
 bif decide (List.length o = List.length o) then
 bif decide (List.length z = List.length z) then
 some (.inl ((), ((a, c, f, h, i, j, k, l, m, n, o, q, s, t, u, w, x, y, z, a0, c0, f0, h0, i0, j0, k0, l0, m0, n0, o0, q0, s0, t0, u0, w0, x0, y0, z0, a1, c1, f1, h1, i1, (), j1, k1, l1, m1, n1, o1, q1, s1, (), t1, u1, w1, x1, y1, z1, a2, c2, f2, h2, i2, j2, k2, l2, m2, (), n2, (), o2, q2, s2, ()), ())))
 else none
 else none
 else none
 else none
 else none)
 fun ⟨_, ⟨⟨o3, q3, s3, t3, u3, w3, x3, y3, z3, a4, c4, f4, h4, i4, j4, k4, l4, m4, n4, o4, q4, s4, t4, u4, w4, x4, y4, z4, a5, c5, f5, h5, i5, j5, k5, l5, m5, n5, o5, q5, s5, t5, u5, _, w5, x5, y5, z5, a6, c6, f6, h6, _, i6, j6, k6, l6, m6, n6, o6, q6, s6, t6, u6, w6, x6, y6, z6, _, a7, _, c7, f7, h7, _⟩, _⟩⟩ =>
bif !z4 then
 bif decide (List.length q3 = List.length q3) then
 bif decide (List.length u3 = List.length u3) then
 bif decide (List.length w3 = List.length w3) then
 bif decide (List.length c4 = List.length c4) then
 bif decide (List.length n4 = List.length n4) then
 Option.bind (p69 fu ((o3, q3, s3, t3, u3, w3, x3, y3, z3, a4, c4, f4, h4, i4, j4, k4, l4, m4, n4, o4, q4, s4, t4, u4, w4, x4, y4, z4, a5, c5, f5, h5, i5, j5, k5, l5, m5, n5, o5, q5, s5, t5, u5, (), w5, x5, y5, z5, a6, c6, f6, h6, (), i6, j6, k6, l6, m6, n6, o6, q6, s6, t6, u6, w6, x6, y6, z6, (), a7, (), c7, f7, h7, ()), (t2, u2, w2, x2, y2, z2, a3, c3, f3, h3, i3, j3, ()), ())) fun ⟨⟨⟨i7, j7, k7, l7, m7, n7, o7, q7, s7, t7, _, u7, w7, x7, y7, z7, a8, c8, _, f8, h8, i8, j8, k8, l8, m8, n8, o8, q8, s8, t8, u8, w8, x8, y8, z8, a9, c9, f9, h9, i9, j9, k9, _, l9, m9, n9, o9, q9, s9, t9, u9, _, w9, x9, y9, z9, a10, c10, f10, h10, i10, j10, k10, l10, m10, n10, o10, q10, s10, t10, u10, w10, x10, _⟩, _, _, _, _, _, _⟩, _⟩ =>
 bif decide (List.length j7 = List.length j7) then
 bif decide (List.length m7 = List.length m7) then
 bif decide (List.length n7 = List.length n7) then
 bif decide (List.length q10 = List.length q10) then
 bif decide (List.length t10 = List.length t10) then
 some (((i7, j7, k7, l7, m7, n7, o7, q7, s7, t7, [], u7, w7, x7, y7, z7, a8, c8, [], f8, h8, i8, j8, k8, l8, m8, n8, o8, q8, s8, t8, u8, w8, x8, y8, z8, a9, c9, f9, h9, i9, j9, k9, [], l9, m9, n9, o9, q9, s9, t9, u9, [], w9, x9, y9, z9, a10, c10, f10, h10, i10, j10, k10, l10, m10, n10, o10, q10, s10, t10, u10, w10, x10, ()), (), (), (), (), (), ()), ())
 else none
 else none
 else none
 else none
 else none
 else none
 else none
 else none
 else none
 else none
else
 bif decide (List.length q3 = List.length q3) then
 bif decide (List.length u3 = List.length u3) then
 bif decide (List.length w3 = List.length w3) then
 bif decide (List.length c4 = List.length c4) then
 bif decide (List.length n4 = List.length n4) then
 Option.bind (p84_1 fu ((o3, q3, s3, t3, u3, w3, x3, y3, z3, a4, c4, f4, h4, i4, j4, k4, l4, m4, n4, o4, q4, s4, t4, u4, w4, x4, y4, z4, a5, c5, f5, h5, i5, j5, k5, l5, m5, n5, o5, q5, s5, t5, u5, (), w5, x5, y5, z5, a6, c6, f6, h6, (), i6, j6, k6, l6, m6, n6, o6, q6, s6, t6, u6, w6, x6, y6, z6, (), a7, (), c7, f7, h7, ()), ())) fun ⟨⟨⟨y10, z10, a11, c11, f11, h11, i11, j11, k11, l11, m11, n11, o11, q11, s11, t11, u11, w11, x11, y11, z11, a12, c12, f12, h12, i12, j12, k12, l12, m12, n12, o12, q12, s12, t12, u12, w12, x12, y12, z12, a13, c13, f13, _, h13, i13, j13, k13, l13, m13, n13, o13, _, q13, s13, t13, u13, w13, x13, y13, z13, a14, c14, f14, h14, i14, j14, k14, _, l14, _, m14, n14, o14, _⟩, _, _, _, _, _, _⟩, ⟨⟨_, _, _, _, _, _, _, _⟩, q14, _⟩⟩ =>
 bif q14 then
 bif decide (List.length z10 = List.length z10) then
 bif decide (List.length f11 = List.length f11) then
 bif decide (List.length h11 = List.length h11) then
 bif decide (List.length m11 = List.length m11) then
 bif decide (List.length x11 = List.length x11) then
 Option.bind (p66 fu ((y10, z10, a11, c11, f11, h11, i11, j11, k11, l11, m11, n11, o11, q11, s11, t11, u11, w11, x11, y11, z11, a12, c12, f12, h12, i12, j12, k12, l12, m12, n12, o12, q12, s12, t12, u12, w12, x12, y12, z12, a13, c13, f13, (), h13, i13, j13, k13, l13, m13, n13, o13, (), q13, s13, t13, u13, w13, x13, y13, z13, a14, c14, f14, h14, i14, j14, k14, (), l14, (), m14, n14, o14, ()), ())) fun ⟨⟨⟨s14, t14, u14, w14, x14, y14, z14, a15, c15, f15, h15, i15, j15, k15, l15, m15, n15, o15, q15, s15, t15, u15, w15, x15, y15, z15, a16, c16, f16, h16, i16, j16, k16, l16, m16, n16, o16, q16, s16, t16, u16, w16, x16, y16, z16, a17, c17, f17, h17, i17, j17, k17, l17, m17, n17, o17, q17, s17, t17, u17, w17, x17, y17, z17, a18, c18, f18, h18, i18, j18, k18, l18, m18, n18, _⟩, _, _, _, _, _, _⟩, _⟩ =>
 bif decide (List.length t14 = List.length t14) then
 bif decide (List.length x14 = List.length x14) then
 bif decide (List.length y14 = List.length y14) then
 bif decide (List.length h15 = List.length h15) then
 bif decide (List.length q15 = List.length q15) then
 bif decide (List.length y16 = List.length y16) then
 bif decide (List.length l17 = List.length l17) then
 bif decide (List.length i18 = List.length i18) then
 bif decide (List.length k18 = List.length k18) then
 some (((s14, t14, u14, w14, x14, y14, z14, a15, c15, f15, h15, i15, j15, k15, l15, m15, n15, o15, q15, s15, t15, u15, w15, x15, y15, z15, a16, c16, f16, h16, i16, j16, k16, l16, m16, n16, o16, q16, s16, t16, u16, w16, x16, y16, z16, a17, c17, f17, h17, i17, j17, k17, l17, m17, n17, o17, q17, s17, t17, u17, w17, x17, y17, z17, a18, c18, f18, h18, i18, j18, k18, l18, m18, n18, ()), (), (), (), (), (), ()), ())
 else none
 else none
 else none
 else none
 else none
 else none
 else none
 else none
 else none
 else none
 else none
 else none
 else none
 else none
 else
 bif decide (List.length z10 = List.length z10) then
 bif decide (List.length f11 = List.length f11) then
 bif decide (List.length h11 = List.length h11) then
 bif decide (List.length m11 = List.length m11) then
 bif decide (List.length x11 = List.length x11) then
 Option.bind (p75 fu ((y10, z10, a11, c11, f11, h11, i11, j11, k11, l11, m11, n11, o11, q11, s11, t11, u11, w11, x11, y11, z11, a12, c12, f12, h12, i12, j12, k12, l12, m12, n12, o12, q12, s12, t12, u12, w12, x12, y12, z12, a13, c13, f13, (), h13, i13, j13, k13, l13, m13, n13, o13, (), q13, s13, t13, u13, w13, x13, y13, z13, a14, c14, f14, h14, i14, j14, k14, (), l14, (), m14, n14, o14, ()), ())) fun ⟨⟨⟨o18, q18, s18, t18, u18, w18, x18, y18, z18, a19, c19, f19, h19, i19, j19, k19, l19, m19, n19, o19, q19, s19, t19, u19, w19, x19, y19, z19, a20, c20, f20, h20, i20, j20, k20, l20, m20, n20, o20, q20, s20, t20, u20, _, w20, x20, y20, z20, a21, c21, f21, h21, _, i21, j21, k21, l21, m21, n21, o21, q21, s21, t21, u21, w21, x21, y21, z21, _, a22, _, c22, f22, h22, _⟩, _, _, _, _, _, _⟩, _⟩ =>
 bif decide (List.length q18 = List.length q18) then
 bif decide (List.length u18 = List.length u18) then
 bif decide (List.length w18 = List.length w18) then
 bif decide (List.length c19 = List.length c19) then
 bif decide (List.length n19 = List.length n19) then
 Option.bind (p73 fu ((o18, q18, s18, t18, u18, w18, x18, y18, z18, a19, c19, f19, h19, i19, j19, k19, l19, m19, n19, o19, q19, s19, t19, u19, w19, x19, y19, z19, a20, c20, f20, h20, i20, j20, k20, l20, m20, n20, o20, q20, s20, t20, u20, (), w20, x20, y20, z20, a21, c21, f21, h21, (), i21, j21, k21, l21, m21, n21, o21, q21, s21, t21, u21, w21, x21, y21, z21, (), a22, (), c22, f22, h22, ()), ())) fun ⟨⟨⟨i22, j22, k22, l22, m22, n22, o22, q22, s22, t22, u22, w22, x22, y22, z22, a23, c23, f23, h23, i23, j23, k23, l23, m23, n23, o23, q23, s23, t23, u23, w23, x23, y23, z23, a24, c24, f24, h24, i24, j24, k24, l24, m24, _, n24, o24, q24, s24, t24, u24, w24, x24, _, y24, z24, a25, c25, f25, h25, i25, j25, k25, l25, m25, n25, o25, q25, s25, _, t25, _, u25, w25, x25, _⟩, _, _, _, _, _, _⟩, _⟩ =>
 bif decide (List.length j22 = List.length j22) then
 bif decide (List.length m22 = List.length m22) then
 bif decide (List.length n22 = List.length n22) then
 bif decide (List.length u22 = List.length u22) then
 bif decide (List.length h23 = List.length h23) then
 some (((i22, j22, k22, l22, m22, n22, o22, q22, s22, t22, u22, w22, x22, y22, z22, a23, c23, f23, h23, i23, j23, k23, l23, m23, n23, o23, q23, s23, t23, u23, w23, x23, y23, z23, a24, c24, f24, h24, i24, j24, k24, l24, m24, [], n24, o24, q24, s24, t24, u24, w24, x24, [], y24, z24, a25, c25, f25, h25, i25, j25, k25, l25, m25, n25, o25, q25, s25, [], t25, [], u25, w25, x25, ()), (), (), (), (), (), ()), ())
 else none
 else none
 else none
 else none
 else none
 else none
 else none
 else none
 else none
 else none
 else none
 else none
 else none
 else none
 else none
 else none
 else none
 else none
 else none
 else none
def e67 (fu : Nat) : Ent := ⟨67, (.cons Y20 (.cons Y17 .nil)), (.cons Y27 (.cons .dead (.cons .dead (.cons .dead (.cons .dead (.cons .dead .nil)))))), (.tup 0 .nil), p67 fu⟩
def d67 (fu : Nat) : DC := (.seq (.region [opD 3 (.box 48 12 (tD 1))] [[]] false) (.join ⟨[], .nil, [(0, 87, 74)], (.cons Y23 .nil), [0, 3], [1, 2, 3, 4, 5, 12]⟩
 (.join ⟨[20], (.cons (.hole .bool) .nil), [], .nil, [0, 3], [0, 1, 2, 3, 4, 5, 7, 8, 9, 10, 11, 12]⟩
 (.region [mvD 7 0, opD 8 (.pure .nilc [(tD 7)]), opD 9 (.faddr 0 (tD 8)), opD 10 (.faddr 27 (tD 9)), opD 11 (.load false 1 (tD 10)), mvD 12 11, ogD 13 12 false (.mov (tD 0)), ogD 14 12 false (.pure .nilc [(tD 13)]), ogD 15 12 false (.faddr 0 (tD 14)), ogD 16 12 false (.faddr 7 (tD 15)), ogD 17 12 false (.faddr 0 (tD 16)), ogD 18 12 false (.load false 1 (tD 17)), ogD 19 12 false (.bin .eql (tD 18) (cD 6)), opD 20 (.pick (tD 12) (.const (.bool true)) (tD 19))] [[], [0], [1], [2], [3], [4], [5], [6, 5], [7, 5], [8, 5], [9, 5], [10, 5], [11, 5], [5, 12]] false)
 (.cond (.tmp 20) (.seq (.region [mvD 21 0, opD 22 (.pure .nilc [(tD 21)]), opD 23 (.faddr 0 (tD 22)), opD 24 (.faddr 7 (tD 23)), opD 25 (.faddr 1 (tD 24)), opD 26 (.load false 1 (tD 25)), mvD 4 26] [[], [0], [1], [2], [3], [4], [5, 0, 1, 2, 3, 4, 5]] false) (.region [mvD 27 0, mvD 28 0, opD 29 (.pure .nilc [(tD 28)]), opD 30 (.faddr 0 (tD 29)), opD 31 (.faddr 4 (tD 30)), opD 32 (.load false 1 (tD 31)), mvD 33 4, opD 34 (.faddr 8 (tD 3)), opD 35 (.load false 1 (tD 34)), oqD 36 (.call 61 [(tD 35)]) (.ent (e61 fu)), opD 37 (.build 2 [vT, vS] [(0, (1, (tD 33))), (1, (1, (tD 36)))]), mvD 38 4, oqD 39 (.call 83 [(tD 38)]) (.ent (e83 fu)), oqD 40 (.call 82 [(tD 32), (tD 37), (tD 39)]) (.ent (e82 fu)), opD 41 (.pure .nilc [(tD 27)]), opD 42 (.faddr 0 (tD 41)), opD 43 (.faddr 4 (tD 42)), onD (.store 1 (tD 43) (tD 40))] [[], [], [1], [2], [3], [4], [], [], [7], [8], [6, 9], [], [11, 9], [5, 10, 12, 12], [0, 0, 1, 2, 3, 4, 5, 6, 7, 8, 9, 10, 11, 12, 13], [14, 0, 1, 2, 3, 4, 5, 6, 7, 8, 9, 10, 11, 12, 13], [15, 0, 1, 2, 3, 4, 5, 6, 7, 8, 9, 10, 11, 12, 13], [16, 13, 13, 0, 1, 2, 3, 4, 5, 6, 7, 8, 9, 10, 11, 12, 13]] true)) .skip))
 (.seq (.seq (.region [mvD 44 0, opD 45 (.pure .nilc [(tD 44)]), opD 46 (.faddr 0 (tD 45)), opD 47 (.faddr 27 (tD 46)), opD 48 (.load false 1 (tD 47)), opD 49 (.not (tD 48))] [[], [0], [1], [2], [3], [4]] false) (.cond (.tmp 49) (.seq (.region [mvD 50 0, opD 51 (.load true 12 (tD 3)), oqD 52 (.call 69 [(tD 50), (tD 51)]) (.ent (e69 fu))] [[], [], [0, 1]] false) .ret) .skip)) (.seq (.seq (.region [mvD 54 0, oqD 55 (.call 84 [(tD 54)]) (.ent (e84_1 fu)), mvD 53 55, opD 56 (.ext (tD 53) 0), opD 57 (.ext (tD 53) 1), opD 5 (.alloc 67 7 [vU, vT, vT, vU, vS, vS, vU]), onD (.store 7 (tD 5) (tD 56)), mvD 6 57] [[], [0], [1], [2], [2], [], [5, 3, 1, 0, 1, 2, 3, 5], [4, 6, 0, 1, 2, 3, 4, 5, 6]] false) (.seq (.region [mvD 58 6] [[]] false) (.cond (.tmp 58) (.seq (.region [mvD 59 0, oqD 60 (.call 66 [(tD 59)]) (.ent (e66 fu))] [[], [0]] false) .ret) .skip))) (.seq (.region [mvD 61 0, oqD 62 (.call 75 [(tD 61)]) (.ent (e75 fu))] [[], [0]] false) (.region [mvD 63 0, oqD 64 (.call 73 [(tD 63)]) (.ent (e73 fu))] [[], [0]] false))))))
set_option maxRecDepth 1000000 in
theorem v67 (fu : Nat) : evF fu (d67 fu) rs67 65 (e67 fu).ash (e67 fu).osh (e67 fu).vsh = p67 fu := by kernel_rfl
set_option maxRecDepth 1000000 in
theorem b67 (fu : Nat) : BodyD Try.prog 67 65 (d67 fu).erase rs67 := bodyD_mk Try.func67 (by kernel_rfl) (by kernel_rfl) (by kernel_rfl) (by kernel_rfl)
theorem g67 (fu : Nat) : (e67 fu).Good Try.prog := good_by orders (b67 fu) (l := [e61 fu, e83 fu, e82 fu, e69 fu, e84_1 fu, e66 fu, e75 fu, e73 fu]) (by kernel_rfl) ⟨g61 fu, g83 fu, g82 fu, g69 fu, g84_1 fu, g66 fu, g75 fu, g73 fu, trivial⟩ (by kernel_rfl) (v67 fu)
def rs85 : List RVx := [(.tmp 6)]
/-- gazette/client.put[gazette/api.Site] -/
def p85 (fu : Nat) : (List (D_api_Site)) × (((Int) × ((Int) × (Unit))) × (((Unit) × (((Int) × (Unit)) × (Unit))) × (Unit))) → Option (((Unit) × (((Int) × (Unit)) × (Unit))) × (List (D_api_Site))) := fun ⟨a, ⟨c, f, _⟩, ⟨_, ⟨⟨h, _⟩, _⟩⟩, _⟩ =>
bif decide (List.length a = List.length a) then
 Option.bind (p96 fu (a, ((), ((h, ()), ())), ())) fun ⟨⟨⟨i, _⟩, _⟩, j⟩ =>
 bif decide (j ≥ (0 : Int)) then
 bif decide ((0 : Int) ≤ j ∧ j < (List.length a : Int)) then
 bif decide (Int.toNat j < List.length a) then
 bif decide (List.length a = List.length (List.set a (Int.toNat j) (c, f))) then
 some (((), (i, ()), ()), (List.set a (Int.toNat j) (c, f)))
 else none
 else none
 else none
 else
 bif decide (List.length a = List.length a) then
 bif decide (List.length a + List.length ([(c, f)]) ≤ maxLen ∧ (List.length a + List.length ([(c, f)])) * 16 ≤ 140737488355328) then
 bif decide (List.length (a ++ [(c, f)]) = List.length (a ++ [(c, f)])) then
 some (((), (i, ()), ()), (a ++ [(c, f)]))
 else none
 else none
 else none
else none
def e85 (fu : Nat) : Ent := ⟨85, (.cons (.own .own 84 T_api_Site) (.cons (.agg 2 (.cons (.hole (.int .u64)) (.cons (.hole (.int .i64)) .nil))) (.cons (.clo 97 0 .nil 1 (.cons (.box 23 1 (.cons (.hole (.int .u64)) .nil)) .nil)) .nil))), (.cons .dead (.cons (.agg 1 (.cons (.hole (.int .u64)) .nil)) .nil)), (.own .own 84 T_api_Site), p85 fu⟩
def d85 (fu : Nat) : DC := (.seq (.region [opD 4 (.box 84 2 (tD 1)), opD 6 (.mov (.const vS))] [[], []] false) (.seq (.seq (.region [mvD 8 0, mvD 9 2, oqD 10 (.call 96 [(tD 8), (tD 9)]) (.ent (e96 fu)), mvD 7 10] [[], [], [0, 1], [2, 2, 0, 1, 2]] false) (.seq (.region [mvD 11 7, opD 12 (.bin .geq (tD 11) (cD 0))] [[], [0]] false) (.cond (.tmp 12) (.seq (.region [mvD 13 0, mvD 14 7, opD 15 (.load true 2 (tD 4)), opD 16 (.iaddr 2 (tD 13) (tD 14)), onD (.store 2 (tD 16) (tD 15))] [[], [], [], [0, 1, 0, 1, 2], [3, 2, 0, 1, 2]] false) (.seq (.region [mvD 17 0, mvD 6 17] [[], [0, 0]] false) .ret)) .skip))) (.seq (.region [mvD 18 0, opD 19 (.load true 2 (tD 4)), oqD 20 (.bslice 84 2 1 [vU, vI] [(0, (tD 19))]) (.ty T_api_Site), oqD 21 (.app 84 2 [vU, vI] 16 (tD 18) (tD 20)) (.ty T_api_Site), mvD 6 21] [[], [], [1], [0, 2], [3, 3, 0, 1, 2, 3]] false) .ret)))
set_option maxRecDepth 1000000 in
theorem v85 (fu : Nat) : evF fu (d85 fu) rs85 22 (e85 fu).ash (e85 fu).osh (e85 fu).vsh = p85 fu := by kernel_rfl
set_option maxRecDepth 1000000 in
theorem b85 (fu : Nat) : BodyD Try.prog 85 22 (d85 fu).erase rs85 := bodyD_mk Try.func85 (by kernel_rfl) (by kernel_rfl) (by kernel_rfl) (by kernel_rfl)
theorem g85 (fu : Nat) : (e85 fu).Good Try.prog := good_by orders (b85 fu) (l := [e96 fu]) (by kernel_rfl) ⟨g96 fu, trivial⟩ (by kernel_rfl) (v85 fu)
def rs89 : List RVx := [(.tmp 4)]
/-- gazette/client.without[gazette/api.Site] -/
def p89 (fu : Nat) : (List (D_api_Site)) × (((Unit) × (((Int) × (Unit)) × (Unit))) × (Unit)) → Option ((((Int) × (Unit)) × (Unit)) × (List (D_api_Site))) := fun ⟨a, ⟨_, ⟨⟨c, _⟩, _⟩⟩, _⟩ =>
loopO (S := ((List (D_api_Site)) × ((Int) × (Unit))) × (Unit)) fu (fun ⟨⟨f, h, _⟩, _⟩ =>
 bif decide (h < (List.length a : Int)) then
 bif decide ((0 : Int) ≤ h ∧ h < (List.length a : Int)) then
 bif decide (Int.toNat h < List.length a) then
 Option.bind (p97 fu (((List.getD a (Int.toNat h) (dflt T_api_Site)).1, (List.getD a (Int.toNat h) (dflt T_api_Site)).2, ()), (c, ()), ())) fun ⟨_, i⟩ =>
 bif !i then
 bif decide (List.length f = List.length f) then
 bif decide (List.length f + List.length ([((List.getD a (Int.toNat h) (dflt T_api_Site)).1, (List.getD a (Int.toNat h) (dflt T_api_Site)).2)]) ≤ maxLen ∧ (List.length f + List.length ([((List.getD a (Int.toNat h) (dflt T_api_Site)).1, (List.getD a (Int.toNat h) (dflt T_api_Site)).2)])) * 16 ≤ 140737488355328) then
 bif decide (List.length (f ++ [((List.getD a (Int.toNat h) (dflt T_api_Site)).1, (List.getD a (Int.toNat h) (dflt T_api_Site)).2)]) = List.length (f ++ [((List.getD a (Int.toNat h) (dflt T_api_Site)).1, (List.getD a (Int.toNat h) (dflt T_api_Site)).2)])) then
 some (.inl (((f ++ [((List.getD a (Int.toNat h) (dflt T_api_Site)).1, (List.getD a (Int.toNat h) (dflt T_api_Site)).2)]), IntKind.wrap .i64 (h + (1 : Int)), ()), ()))
 else none
 else none
 else none
 else
 bif decide (List.length f = List.length f) then
 some (.inl ((f, IntKind.wrap .i64 (h + (1 : Int)), ()), ()))
 else none
 else none
 else none
 else
 inrO (bif decide (List.length f = List.length f) then
 some (((c, ()), ()), f)
 else none))
 (([], (0 : Int), ()), ())
def e89 (fu : Nat) : Ent := ⟨89, (.cons (.hole (.sl T_api_Site)) (.cons (.clo 97 0 .nil 1 (.cons (.box 23 1 (.cons (.hole (.int .u64)) .nil)) .nil)) .nil)), (.cons (.agg 1 (.cons (.hole (.int .u64)) .nil)) .nil), (.own .own 84 T_api_Site), p89 fu⟩
def d89 (fu : Nat) : DC := (.seq (.region [opD 4 (.mov (.const vS))] [[]] false) (.seq (.region [opD 5 (.mov (.const vS))] [[]] false) (.seq (.seq (.region [mvD 8 0, opD 9 (.len false (tD 8)), opD 10 (.mov (cD 0))] [[], [0], []] false) (.block 0 (.loop ⟨[5, 10], (.cons (.own .own 84 T_api_Site) (.cons (.hole (.int .i64)) .nil)), [], .nil, [1, 8, 9], [0]⟩
 (.seq (.region [opD 11 (.bin .lss (tD 10) (tD 9))] [[]] false) (.seq (.cond (.tmp 11) .skip (.exit 0)) (.seq (.block 1 (.seq (.region [opD 12 (.iaddr 2 (tD 8) (tD 10)), opD 13 (.load true 2 (tD 12)), opD 7 (.alloc 84 2 [vU, vI]), onD (.store 2 (tD 7) (tD 13))] [[], [0], [], [2, 1, 0, 1, 2]] false) (.seq (.region [mvD 14 1, opD 15 (.load true 2 (tD 7)), oqD 16 (.callv (tD 14) [(tD 15)]) (.ent (e97 fu)), opD 17 (.not (tD 16))] [[], [], [0, 1], [2]] false) (.cond (.tmp 17) (.region [mvD 18 5, opD 19 (.load true 2 (tD 7)), oqD 20 (.bslice 84 2 1 [vU, vI] [(0, (tD 19))]) (.ty T_api_Site), oqD 21 (.app 84 2 [vU, vI] 16 (tD 18) (tD 20)) (.ty T_api_Site), mvD 5 21] [[], [], [1], [0, 2], [3, 3, 0, 1, 2, 3]] false) .skip)))) (.region [opD 22 (.bin .add (tD 10) (cD 1)), mvD 10 22] [[], [0]] false))))))) (.seq (.region [mvD 23 5, mvD 4 23] [[], [0, 0]] false) .ret))))
set_option maxRecDepth 1000000 in
theorem v89 (fu : Nat) : evF fu (d89 fu) rs89 24 (e89 fu).ash (e89 fu).osh (e89 fu).vsh = p89 fu := by kernel_rfl
set_option maxRecDepth 1000000 in
theorem b89 (fu : Nat) : BodyD Try.prog 89 24 (d89 fu).erase rs89 := bodyD_mk Try.func89 (by kernel_rfl) (by kernel_rfl) (by kernel_rfl) (by kernel_rfl)
theorem g89 (fu : Nat) : (e89 fu).Good Try.prog := good_by orders (b89 fu) (l := [e97 fu]) (by kernel_rfl) ⟨g97 fu, trivial⟩ (by kernel_rfl) (v89 fu)
def rs74 : List RVx := []
/-- (*gazette/client.client).forget -/
def p74 (fu : Nat) : (Z0) × (Unit) → Option (((Z0) × ((Unit) × ((Unit) × ((Unit) × ((Unit) × ((Unit) × (Unit))))))) × (Unit)) := fun ⟨⟨a, c, f, h, i, j, k, l, m, n, o, q, s, t, u, w, x, y, z, a0, c0, f0, h0, i0, j0, k0, l0, m0, n0, o0, q0, s0, t0, u0, w0, x0, y0, z0, a1, c1, f1, h1, i1, _, j1, k1, l1, m1, n1, o1, q1, s1, _, t1, u1, w1, x1, y1, z1, a2, c2, f2, h2, i2, j2, k2, l2, m2, _, n2, _, o2, q2, s2, _⟩, _⟩ =>
Option.bind (p86 fu (n0, ())) fun ⟨_, ⟨_, ⟨⟨t2, _⟩, _⟩⟩⟩ =>
bif decide (List.length j = List.length j) then
 Option.bind (p89 fu (j, ((), ((t2, ()), ())), ())) fun ⟨⟨⟨_, _⟩, _⟩, u2⟩ =>
 bif decide (List.length c = List.length c) then
 bif decide (List.length i = List.length i) then
 bif decide (List.length u2 = List.length u2) then
 bif decide (List.length o = List.length o) then
 bif decide (List.length z = List.length z) then
 some (((a, c, f, h, i, u2, k, l, m, n, o, q, s, t, u, w, x, y, z, a0, c0, f0, h0, i0, j0, k0, l0, m0, n0, o0, q0, s0, t0, u0, w0, x0, y0, z0, a1, c1, f1, h1, i1, (), j1, k1, l1, m1, n1, o1, q1, s1, (), t1, u1, w1, x1, y1, z1, a2, c2, f2, h2, i2, j2, k2, l2, m2, (), n2, (), o2, q2, s2, ()), (), (), (), (), (), ()), ())
 else none
 else none
 else none
 else none
 else none
else none
def e74 (fu : Nat) : Ent := ⟨74, (.cons Y20 .nil), (.cons Y23 (.cons .dead (.cons .dead (.cons .dead (.cons .dead (.cons .dead .nil)))))), (.tup 0 .nil), p74 fu⟩
def d74 (fu : Nat) : DC := (.region [mvD 2 0, mvD 3 0, opD 4 (.pure .nilc [(tD 3)]), opD 5 (.faddr 0 (tD 4)), opD 6 (.faddr 5 (tD 5)), opD 7 (.load false 1 (tD 6)), mvD 8 0, opD 9 (.pure .nilc [(tD 8)]), opD 10 (.faddr 0 (tD 9)), opD 11 (.faddr 28 (tD 10)), opD 12 (.load false 1 (tD 11)), oqD 13 (.call 86 [(tD 12)]) (.ent (e86 fu)), oqD 14 (.call 89 [(tD 7), (tD 13)]) (.ent (e89 fu)), opD 15 (.pure .nilc [(tD 2)]), opD 16 (.faddr 0 (tD 15)), opD 17 (.faddr 5 (tD 16)), onD (.store 1 (tD 17) (tD 14))] [[], [], [1], [2], [3], [4], [], [6], [7], [8], [9], [10], [5, 11, 11], [0, 0, 1, 2, 3, 4, 5, 6, 7, 8, 9, 10, 11, 12], [13, 0, 1, 2, 3, 4, 5, 6, 7, 8, 9, 10, 11, 12], [14, 0, 1, 2, 3, 4, 5, 6, 7, 8, 9, 10, 11, 12], [15, 12, 12, 0, 1, 2, 3, 4, 5, 6, 7, 8, 9, 10, 11, 12]] true)
set_option maxRecDepth 1000000 in
theorem v74 (fu : Nat) : evF fu (d74 fu) rs74 18 (e74 fu).ash (e74 fu).osh (e74 fu).vsh = p74 fu := by kernel_rfl
set_option maxRecDepth 1000000 in
theorem b74 (fu : Nat) : BodyD Try.prog 74 18 (d74 fu).erase rs74 := bodyD_mk Try.func74 (by kernel_rfl) (by kernel_rfl) (by kernel_rfl) (by kernel_rfl)
theorem g74 (fu : Nat) : (e74 fu).Good Try.prog := good_by orders (b74 fu) (l := [e86 fu, e89 fu]) (by kernel_rfl) ⟨g86 fu, g89 fu, trivial⟩ (by kernel_rfl) (v74 fu)
def rs71 : List RVx := []
/-- (*gazette/client.client).elsewhere -/
def p71 (fu : Nat) : (Z0) × (Unit) → Option (((Z0) × ((Unit) × ((Unit) × ((Unit) × ((Unit) × ((Unit) × (Unit))))))) × (Unit)) := fun ⟨⟨a, c, f, h, i, j, k, l, m, n, o, q, s, t, u, w, x, y, z, a0, c0, f0, h0, i0, j0, k0, l0, m0, n0, o0, q0, s0, t0, u0, w0, x0, y0, z0, a1, c1, f1, h1, i1, _, j1, k1, l1, m1, n1, o1, q1, s1, _, t1, u1, w1, x1, y1, z1, a2, c2, f2, h2, i2, j2, k2, l2, m2, _, n2, _, o2, q2, s2, _⟩, _⟩ =>
bif decide (List.length c = List.length c) then
 bif decide (List.length i = List.length i) then
 bif decide (List.length j = List.length j) then
 bif decide (List.length o = List.length o) then
 bif decide (List.length z = List.length z) then
 Option.bind (p74 fu ((a, c, f, h, i, j, k, l, m, n, o, q, s, t, u, w, x, y, z, a0, c0, f0, h0, i0, j0, k0, l0, m0, n0, o0, q0, s0, t0, u0, w0, x0, y0, z0, a1, c1, f1, h1, i1, (), j1, k1, l1, m1, n1, o1, q1, s1, (), t1, u1, w1, x1, y1, z1, a2, c2, f2, h2, i2, j2, k2, l2, m2, (), n2, (), o2, q2, s2, ()), ())) fun ⟨⟨⟨t2, u2, w2, x2, y2, z2, a3, c3, f3, h3, i3, j3, k3, l3, m3, n3, o3, q3, s3, t3, u3, w3, x3, y3, z3, a4, c4, f4, h4, i4, j4, k4, l4, m4, n4, o4, q4, s4, t4, u4, w4, x4, y4, _, z4, a5, c5, f5, h5, i5, j5, k5, _, l5, m5, n5, o5, q5, s5, t5, u5, w5, x5, y5, z5, a6, c6, f6, _, h6, _, i6, j6, k6, _⟩, _, _, _, _, _, _⟩, _⟩ =>
 bif decide (List.length u2 = List.length u2) then
 bif decide (List.length y2 = List.length y2) then
 bif decide (List.length z2 = List.length z2) then
 bif decide (List.length i3 = List.length i3) then
 bif decide (List.length s3 = List.length s3) then
 Option.bind (p75 fu ((t2, u2, w2, x2, y2, z2, a3, c3, f3, h3, i3, j3, k3, l3, m3, n3, o3, q3, s3, t3, u3, w3, x3, y3, z3, a4, c4, f4, h4, i4, j4, k4, l4, m4, n4, o4, q4, s4, t4, u4, w4, x4, y4, (), z4, a5, c5, f5, h5, i5, j5, k5, (), l5, m5, n5, o5, q5, s5, t5, u5, w5, x5, y5, z5, a6, c6, f6, (), h6, (), i6, j6, k6, ()), ())) fun ⟨⟨⟨l6, m6, n6, o6, q6, s6, t6, u6, w6, x6, y6, z6, a7, c7, f7, h7, i7, j7, k7, l7, m7, n7, o7, q7, s7, t7, u7, w7, x7, y7, z7, a8, c8, f8, h8, i8, j8, k8, l8, m8, n8, o8, q8, _, s8, t8, u8, w8, x8, y8, z8, a9, _, c9, f9, h9, i9, j9, k9, l9, m9, n9, o9, q9, s9, t9, u9, w9, _, x9, _, y9, z9, a10, _⟩, _, _, _, _, _, _⟩, _⟩ =>
 bif decide (List.length m6 = List.length m6) then
 bif decide (List.length q6 = List.length q6) then
 bif decide (List.length s6 = List.length s6) then
 bif decide (List.length y6 = List.length y6) then
 bif decide (List.length k7 = List.length k7) then
 Option.bind (p73 fu ((l6, m6, n6, o6, q6, s6, t6, u6, w6, x6, y6, z6, a7, c7, f7, h7, i7, j7, k7, l7, m7, n7, o7, q7, s7, t7, u7, w7, x7, y7, z7, a8, c8, f8, h8, i8, j8, k8, l8, m8, n8, o8, q8, (), s8, t8, u8, w8, x8, y8, z8, a9, (), c9, f9, h9, i9, j9, k9, l9, m9, n9, o9, q9, s9, t9, u9, w9, (), x9, (), y9, z9, a10, ()), ())) fun ⟨⟨⟨c10, f10, h10, i10, j10, k10, l10, m10, n10, o10, q10, s10, t10, u10, w10, x10, y10, z10, a11, c11, f11, h11, i11, j11, k11, l11, m11, n11, o11, q11, s11, t11, u11, w11, x11, y11, z11, a12, c12, f12, h12, i12, j12, _, k12, l12, m12, n12, o12, q12, s12, t12, _, u12, w12, x12, y12, z12, a13, c13, f13, h13, i13, j13, k13, l13, m13, n13, _, o13, _, q13, s13, t13, _⟩, _, _, _, _, _, _⟩, _⟩ =>
 bif decide (List.length f10 = List.length f10) then
 bif decide (List.length j10 = List.length j10) then
 bif decide (List.length k10 = List.length k10) then
 bif decide (List.length q10 = List.length q10) then
 bif decide (List.length a11 = List.length a11) then
 some (((c10, f10, h10, i10, j10, k10, l10, m10, n10, o10, q10, s10, t10, u10, w10, x10, y10, z10, a11, c11, f11, h11, i11, j11, k11, l11, m11, n11, o11, q11, s11, t11, u11, w11, x11, y11, z11, a12, c12, f12, h12, i12, j12, (), k12, l12, m12, n12, o12, q12, s12, t12, (), u12, w12, x12, y12, z12, a13, c13, f13, h13, i13, j13, k13, l13, m13, n13, (), o13, (), q13, s13, t13, ()), (), (), (), (), (), ()), ())
 else none
 else none
 else none
 else none
 else none
 else none
 else none
 else none
 else none
 else none
 else none
 else none
 else none
 else none
 else none
 else none
 else none
 else none
 else none
else none
def e71 (fu : Nat) : Ent := ⟨71, (.cons Y20 .nil), (.cons Y23 (.cons .dead (.cons .dead (.cons .dead (.cons .dead (.cons .dead .nil)))))), (.tup 0 .nil), p71 fu⟩
def d71 (fu : Nat) : DC := (.seq (.region [mvD 2 0, oqD 3 (.call 74 [(tD 2)]) (.ent (e74 fu))] [[], [0]] false) (.seq (.region [mvD 4 0, oqD 5 (.call 75 [(tD 4)]) (.ent (e75 fu))] [[], [0]] false) (.region [mvD 6 0, oqD 7 (.call 73 [(tD 6)]) (.ent (e73 fu))] [[], [0]] false)))
set_option maxRecDepth 1000000 in
theorem v71 (fu : Nat) : evF fu (d71 fu) rs71 8 (e71 fu).ash (e71 fu).osh (e71 fu).vsh = p71 fu := by kernel_rfl
set_option maxRecDepth 1000000 in
theorem b71 (fu : Nat) : BodyD Try.prog 71 8 (d71 fu).erase rs71 := bodyD_mk Try.func71 (by kernel_rfl) (by kernel_rfl) (by kernel_rfl) (by kernel_rfl)
theorem g71 (fu : Nat) : (e71 fu).Good Try.prog := good_by orders (b71 fu) (l := [e74 fu, e75 fu, e73 fu]) (by kernel_rfl) ⟨g74 fu, g75 fu, g73 fu, trivial⟩ (by kernel_rfl) (v71 fu)
def rs68 : List RVx := []
/-- (*gazette/client.client).toldLeader -/
def p68 (fu : Nat) : (Z0) × ((Int) × (Unit)) → Option (((Z22) × ((Unit) × ((Unit) × ((Unit) × ((Unit) × ((Unit) × (Unit))))))) × (Unit)) := fun ⟨⟨a, c, f, h, i, j, k, l, m, n, o, q, s, t, u, w, x, y, z, a0, c0, f0, h0, i0, j0, k0, l0, m0, n0, o0, q0, s0, t0, u0, w0, x0, y0, z0, a1, c1, f1, h1, i1, _, j1, k1, l1, m1, n1, o1, q1, s1, _, t1, u1, w1, x1, y1, z1, a2, c2, f2, h2, i2, j2, k2, l2, m2, _, n2, _, o2, q2, s2, _⟩, t2, _⟩ =>
bif decide (List.length c = List.length c) then
 Option.bind (p22 fu (c, t2, ())) fun ⟨_, u2⟩ =>
 bif u2 then
 Option.bind (p86 fu (n0, ())) fun ⟨_, ⟨_, ⟨⟨w2, _⟩, _⟩⟩⟩ =>
 bif decide (List.length j = List.length j) then
 Option.bind (p85 fu (j, (n0, t2, ()), ((), ((w2, ()), ())), ())) fun ⟨⟨_, ⟨_, _⟩, _⟩, x2⟩ =>
 bif decide (List.length c = List.length c) then
 bif decide (List.length i = List.length i) then
 bif decide (List.length x2 = List.length x2) then
 bif decide (List.length o = List.length o) then
 bif decide (List.length z = List.length z) then
 Option.bind (p66 fu ((a, c, f, h, i, x2, k, l, m, n, o, q, s, t, u, w, x, y, z, a0, c0, f0, h0, i0, j0, k0, l0, m0, n0, o0, q0, s0, t0, u0, w0, x0, y0, z0, a1, c1, f1, h1, i1, (), j1, k1, l1, m1, n1, o1, q1, s1, (), t1, u1, w1, x1, y1, z1, a2, c2, f2, h2, i2, j2, k2, l2, m2, (), n2, (), o2, q2, s2, ()), ())) fun ⟨⟨⟨y2, z2, a3, c3, f3, h3, i3, j3, k3, l3, m3, n3, o3, q3, s3, t3, u3, w3, x3, y3, z3, a4, c4, f4, h4, i4, j4, k4, l4, m4, n4, o4, q4, s4, t4, u4, w4, x4, y4, z4, a5, c5, f5, h5, i5, j5, k5, l5, m5, n5, o5, q5, s5, t5, u5, w5, x5, y5, z5, a6, c6, f6, h6, i6, j6, k6, l6, m6, n6, o6, q6, s6, t6, u6, _⟩, _, _, _, _, _, _⟩, _⟩ =>
 bif decide (List.length z2 = List.length z2) then
 bif decide (List.length f3 = List.length f3) then
 bif decide (List.length h3 = List.length h3) then
 bif decide (List.length m3 = List.length m3) then
 bif decide (List.length x3 = List.length x3) then
 bif decide (List.length h5 = List.length h5) then
 bif decide (List.length s5 = List.length s5) then
 bif decide (List.length n6 = List.length n6) then
 bif decide (List.length q6 = List.length q6) then
 some (((y2, z2, a3, c3, f3, h3, i3, j3, k3, l3, m3, n3, o3, q3, s3, t3, u3, w3, x3, y3, z3, a4, c4, f4, h4, i4, j4, k4, l4, m4, n4, o4, q4, s4, t4, u4, w4, x4, y4, z4, a5, c5, f5, h5, i5, j5, k5, l5, m5, n5, o5, q5, s5, t5, u5, w5, x5, y5, z5, a6, c6, f6, h6, i6, j6, k6, l6, m6, n6, o6, q6, s6, t6, u6, ()), (), (), (), (), (), ()), ())
 else none
 else none
 else none
 else none
 else none
 else none
 else none
 else none
 else none
 else none
 else none
 else none
 else none
 else none
 else none
 else
 bif decide (List.length c = List.length c) then
 bif decide (List.length i = List.length i) then
 bif decide (List.length j = List.length j) then
 bif decide (List.length o = List.length o) then
 bif decide (List.length z = List.length z) then
 Option.bind (p71 fu ((a, c, f, h, i, j, k, l, m, n, o, q, s, t, u, w, x, y, z, a0, c0, f0, h0, i0, j0, k0, l0, m0, n0, o0, q0, s0, t0, u0, w0, x0, y0, z0, a1, c1, f1, h1, i1, (), j1, k1, l1, m1, n1, o1, q1, s1, (), t1, u1, w1, x1, y1, z1, a2, c2, f2, h2, i2, j2, k2, l2, m2, (), n2, (), o2, q2, s2, ()), ())) fun ⟨⟨⟨w6, x6, y6, z6, a7, c7, f7, h7, i7, j7, k7, l7, m7, n7, o7, q7, s7, t7, u7, w7, x7, y7, z7, a8, c8, f8, h8, i8, j8, k8, l8, m8, n8, o8, q8, s8, t8, u8, w8, x8, y8, z8, a9, _, c9, f9, h9, i9, j9, k9, l9, m9, _, n9, o9, q9, s9, t9, u9, w9, x9, y9, z9, a10, c10, f10, h10, i10, _, j10, _, k10, l10, m10, _⟩, _, _, _, _, _, _⟩, _⟩ =>
 bif decide (List.length x6 = List.length x6) then
 bif decide (List.length a7 = List.length a7) then
 bif decide (List.length c7 = List.length c7) then
 bif decide (List.length k7 = List.length k7) then
 bif decide (List.length u7 = List.length u7) then
 some (((w6, x6, y6, z6, a7, c7, f7, h7, i7, j7, k7, l7, m7, n7, o7, q7, s7, t7, u7, w7, x7, y7, z7, a8, c8, f8, h8, i8, j8, k8, l8, m8, n8, o8, q8, s8, t8, u8, w8, x8, y8, z8, a9, [], c9, f9, h9, i9, j9, k9, l9, m9, [], n9, o9, q9, s9, t9, u9, w9, x9, y9, z9, a10, c10, f10, h10, i10, [], j10, [], k10, l10, m10, ()), (), (), (), (), (), ()), ())
 else none
 else none
 else none
 else none
 else none
 else none
 else none
 else none
 else none
 else none
else none
def e68 (fu : Nat) : Ent := ⟨68, (.cons Y20 (.cons (.hole (.int .i64)) .nil)), (.cons Y27 (.cons .dead (.cons .dead (.cons .dead (.cons .dead (.cons .dead .nil)))))), (.tup 0 .nil), p68 fu⟩
def d68 (fu : Nat) : DC := (.seq (.seq (.region [mvD 4 0, opD 5 (.pure .nilc [(tD 4)]), opD 6 (.faddr 0 (tD 5)), opD 7 (.faddr 1 (tD 6)), opD 8 (.load false 1 (tD 7)), mvD 9 1, oqD 10 (.call 22 [(tD 8), (tD 9)]) (.ent (e22 fu))] [[], [0], [1], [2], [3], [], [4, 5]] false) (.cond (.tmp 10) (.seq (.region [mvD 11 0, mvD 12 0, opD 13 (.pure .nilc [(tD 12)]), opD 14 (.faddr 0 (tD 13)), opD 15 (.faddr 5 (tD 14)), opD 16 (.load false 1 (tD 15)), mvD 17 0, opD 18 (.pure .nilc [(tD 17)]), opD 19 (.faddr 0 (tD 18)), opD 20 (.faddr 28 (tD 19)), opD 21 (.load false 1 (tD 20)), mvD 22 1, opD 23 (.build 2 [vU, vI] [(0, (1, (tD 21))), (1, (1, (tD 22)))]), mvD 24 0, opD 25 (.pure .nilc [(tD 24)]), opD 26 (.faddr 0 (tD 25)), opD 27 (.faddr 28 (tD 26)), opD 28 (.load false 1 (tD 27)), oqD 29 (.call 86 [(tD 28)]) (.ent (e86 fu)), oqD 30 (.call 85 [(tD 16), (tD 23), (tD 29)]) (.ent (e85 fu)), opD 31 (.pure .nilc [(tD 11)]), opD 32 (.faddr 0 (tD 31)), opD 33 (.faddr 5 (tD 32)), onD (.store 1 (tD 33) (tD 30))] [[], [], [1], [2], [3], [4], [], [6], [7], [8], [9], [], [10, 11], [], [13], [14], [15], [16], [17], [5, 12, 18, 18], [0, 0, 1, 2, 3, 4, 5, 6, 7, 8, 9, 10, 11, 12, 13, 14, 15, 16, 17, 18, 19], [20, 0, 1, 2, 3, 4, 5, 6, 7, 8, 9, 10, 11, 12, 13, 14, 15, 16, 17, 18, 19], [21, 0, 1, 2, 3, 4, 5, 6, 7, 8, 9, 10, 11, 12, 13, 14, 15, 16, 17, 18, 19], [22, 19, 19, 0, 1, 2, 3, 4, 5, 6, 7, 8, 9, 10, 11, 12, 13, 14, 15, 16, 17, 18, 19]] true) (.seq (.region [mvD 34 0, oqD 35 (.call 66 [(tD 34)]) (.ent (e66 fu))] [[], [0]] false) .ret)) .skip)) (.region [mvD 36 0, oqD 37 (.call 71 [(tD 36)]) (.ent (e71 fu))] [[], [0]] false))
set_option maxRecDepth 1000000 in
theorem v68 (fu : Nat) : evF fu (d68 fu) rs68 38 (e68 fu).ash (e68 fu).osh (e68 fu).vsh = p68 fu := by kernel_rfl
set_option maxRecDepth 1000000 in
theorem b68 (fu : Nat) : BodyD Try.prog 68 38 (d68 fu).erase rs68 := bodyD_mk Try.func68 (by kernel_rfl) (by kernel_rfl) (by kernel_rfl) (by kernel_rfl)
theorem g68 (fu : Nat) : (e68 fu).Good Try.prog := good_by orders (b68 fu) (l := [e22 fu, e86 fu, e85 fu, e66 fu, e71 fu]) (by kernel_rfl) ⟨g22 fu, g86 fu, g85 fu, g66 fu, g71 fu, trivial⟩ (by kernel_rfl) (v68 fu)
def rs88 : List RVx := [(.tmp 4)]
/-- gazette/client.without[gazette/api.Topic] -/
def p88 (fu : Nat) : (List (D_api_Topic)) × (((Unit) × (((ByteArray) × (Unit)) × (Unit))) × (Unit)) → Option ((((ByteArray) × (Unit)) × (Unit)) × (List (D_api_Topic))) := fun ⟨a, ⟨_, ⟨⟨c, _⟩, _⟩⟩, _⟩ =>
loopO (S := ((List (D_api_Topic)) × ((Int) × (Unit))) × (Unit)) fu (fun ⟨⟨f, h, _⟩, _⟩ =>
 bif decide (h < (List.length a : Int)) then
 bif decide ((0 : Int) ≤ h ∧ h < (List.length a : Int)) then
 bif decide (Int.toNat h < List.length a) then
 Option.bind (p94 fu (((List.getD a (Int.toNat h) (dflt T_api_Topic)).1, (List.getD a (Int.toNat h) (dflt T_api_Topic)).2, ()), (c, ()), ())) fun ⟨_, i⟩ =>
 bif !i then
 bif decide (List.length f = List.length f) then
 bif decide (List.length f + List.length ([((List.getD a (Int.toNat h) (dflt T_api_Topic)).1, (List.getD a (Int.toNat h) (dflt T_api_Topic)).2)]) ≤ maxLen ∧ (List.length f + List.length ([((List.getD a (Int.toNat h) (dflt T_api_Topic)).1, (List.getD a (Int.toNat h) (dflt T_api_Topic)).2)])) * 40 ≤ 140737488355328) then
 bif decide (List.length (f ++ [((List.getD a (Int.toNat h) (dflt T_api_Topic)).1, (List.getD a (Int.toNat h) (dflt T_api_Topic)).2)]) = List.length (f ++ [((List.getD a (Int.toNat h) (dflt T_api_Topic)).1, (List.getD a (Int.toNat h) (dflt T_api_Topic)).2)])) then
 some (.inl (((f ++ [((List.getD a (Int.toNat h) (dflt T_api_Topic)).1, (List.getD a (Int.toNat h) (dflt T_api_Topic)).2)]), IntKind.wrap .i64 (h + (1 : Int)), ()), ()))
 else none
 else none
 else none
 else
 bif decide (List.length f = List.length f) then
 some (.inl ((f, IntKind.wrap .i64 (h + (1 : Int)), ()), ()))
 else none
 else none
 else none
 else
 inrO (bif decide (List.length f = List.length f) then
 some (((c, ()), ()), f)
 else none))
 (([], (0 : Int), ()), ())
def e88 (fu : Nat) : Ent := ⟨88, (.cons (.hole (.sl T_api_Topic)) (.cons (.clo 94 0 .nil 1 (.cons (.box 9 1 (.cons (.hole .str) .nil)) .nil)) .nil)), (.cons (.agg 1 (.cons (.hole .str) .nil)) .nil), (.own .own 82 T_api_Topic), p88 fu⟩
def d88 (fu : Nat) : DC := (.seq (.region [opD 4 (.mov (.const vS))] [[]] false) (.seq (.region [opD 5 (.mov (.const vS))] [[]] false) (.seq (.seq (.region [mvD 8 0, opD 9 (.len false (tD 8)), opD 10 (.mov (cD 0))] [[], [0], []] false) (.block 0 (.loop ⟨[5, 10], (.cons (.own .own 82 T_api_Topic) (.cons (.hole (.int .i64)) .nil)), [], .nil, [1, 8, 9], [0]⟩
 (.seq (.region [opD 11 (.bin .lss (tD 10) (tD 9))] [[]] false) (.seq (.cond (.tmp 11) .skip (.exit 0)) (.seq (.block 1 (.seq (.region [opD 12 (.iaddr 2 (tD 8) (tD 10)), opD 13 (.load true 2 (tD 12)), opD 7 (.alloc 82 2 [vT, vS]), onD (.store 2 (tD 7) (tD 13))] [[], [0], [], [2, 1, 0, 1, 2]] false) (.seq (.region [mvD 14 1, opD 15 (.load true 2 (tD 7)), oqD 16 (.callv (tD 14) [(tD 15)]) (.ent (e94 fu)), opD 17 (.not (tD 16))] [[], [], [0, 1], [2]] false) (.cond (.tmp 17) (.region [mvD 18 5, opD 19 (.load true 2 (tD 7)), oqD 20 (.bslice 82 2 1 [vT, vS] [(0, (tD 19))]) (.ty T_api_Topic), oqD 21 (.app 82 2 [vT, vS] 40 (tD 18) (tD 20)) (.ty T_api_Topic), mvD 5 21] [[], [], [1], [0, 2], [3, 3, 0, 1, 2, 3]] false) .skip)))) (.region [opD 22 (.bin .add (tD 10) (cD 1)), mvD 10 22] [[], [0]] false))))))) (.seq (.region [mvD 23 5, mvD 4 23] [[], [0, 0]] false) .ret))))
set_option maxRecDepth 1000000 in
theorem v88 (fu : Nat) : evF fu (d88 fu) rs88 24 (e88 fu).ash (e88 fu).osh (e88 fu).vsh = p88 fu := by kernel_rfl
set_option maxRecDepth 1000000 in
theorem b88 (fu : Nat) : BodyD Try.prog 88 24 (d88 fu).erase rs88 := bodyD_mk Try.func88 (by kernel_rfl) (by kernel_rfl) (by kernel_rfl) (by kernel_rfl)
theorem g88 (fu : Nat) : (e88 fu).Good Try.prog := good_by orders (b88 fu) (l := [e94 fu]) (by kernel_rfl) ⟨g94 fu, trivial⟩ (by kernel_rfl) (v88 fu)
def rs70 : List RVx := []
/-- (*gazette/client.client).routeAnew -/
def p70 (fu : Nat) : (Z0) × (Unit) → Option (((Z0) × ((Unit) × ((Unit) × ((Unit) × ((Unit) × ((Unit) × (Unit))))))) × (Unit)) := fun ⟨⟨a, c, f, h, i, j, k, l, m, n, o, q, s, t, u, w, x, y, z, a0, c0, f0, h0, i0, j0, k0, l0, m0, n0, o0, q0, s0, t0, u0, w0, x0, y0, z0, a1, c1, f1, h1, i1, _, j1, k1, l1, m1, n1, o1, q1, s1, _, t1, u1, w1, x1, y1, z1, a2, c2, f2, h2, i2, j2, k2, l2, m2, _, n2, _, o2, q2, s2, _⟩, _⟩ =>
Option.bind (p83 fu (m, ())) fun ⟨_, ⟨_, ⟨⟨t2, _⟩, _⟩⟩⟩ =>
bif decide (List.length i = List.length i) then
 Option.bind (p88 fu (i, ((), ((t2, ()), ())), ())) fun ⟨⟨⟨_, _⟩, _⟩, u2⟩ =>
 bif decide (List.length c = List.length c) then
 bif decide (List.length u2 = List.length u2) then
 bif decide (List.length j = List.length j) then
 bif decide (List.length o = List.length o) then
 bif decide (List.length z = List.length z) then
 Option.bind (p71 fu ((a, c, f, h, u2, j, k, l, m, n, o, q, s, t, u, w, x, y, z, a0, c0, f0, h0, i0, j0, k0, l0, m0, n0, o0, q0, s0, t0, u0, w0, x0, y0, z0, a1, c1, f1, h1, i1, (), j1, k1, l1, m1, n1, o1, q1, s1, (), t1, u1, w1, x1, y1, z1, a2, c2, f2, h2, i2, j2, k2, l2, m2, (), n2, (), o2, q2, s2, ()), ())) fun ⟨⟨⟨w2, x2, y2, z2, a3, c3, f3, h3, i3, j3, k3, l3, m3, n3, o3, q3, s3, t3, u3, w3, x3, y3, z3, a4, c4, f4, h4, i4, j4, k4, l4, m4, n4, o4, q4, s4, t4, u4, w4, x4, y4, z4, a5, _, c5, f5, h5, i5, j5, k5, l5, m5, _, n5, o5, q5, s5, t5, u5, w5, x5, y5, z5, a6, c6, f6, h6, i6, _, j6, _, k6, l6, m6, _⟩, _, _, _, _, _, _⟩, _⟩ =>
 bif decide (List.length x2 = List.length x2) then
 bif decide (List.length a3 = List.length a3) then
 bif decide (List.length c3 = List.length c3) then
 bif decide (List.length k3 = List.length k3) then
 bif decide (List.length u3 = List.length u3) then
 some (((w2, x2, y2, z2, a3, c3, f3, h3, i3, j3, k3, l3, m3, n3, o3, q3, s3, t3, u3, w3, x3, y3, z3, a4, c4, f4, h4, i4, j4, k4, l4, m4, n4, o4, q4, s4, t4, u4, w4, x4, y4, z4, a5, (), c5, f5, h5, i5, j5, k5, l5, m5, (), n5, o5, q5, s5, t5, u5, w5, x5, y5, z5, a6, c6, f6, h6, i6, (), j6, (), k6, l6, m6, ()), (), (), (), (), (), ()), ())
 else none
 else none
 else none
 else none
 else none
 else none
 else none
 else none
 else none
 else none
else none
def e70 (fu : Nat) : Ent := ⟨70, (.cons Y20 .nil), (.cons Y23 (.cons .dead (.cons .dead (.cons .dead (.cons .dead (.cons .dead .nil)))))), (.tup 0 .nil), p70 fu⟩
def d70 (fu : Nat) : DC := (.seq (.region [mvD 2 0, mvD 3 0, opD 4 (.pure .nilc [(tD 3)]), opD 5 (.faddr 0 (tD 4)), opD 6 (.faddr 4 (tD 5)), opD 7 (.load false 1 (tD 6)), mvD 8 0, opD 9 (.pure .nilc [(tD 8)]), opD 10 (.faddr 0 (tD 9)), opD 11 (.faddr 7 (tD 10)), opD 12 (.faddr 1 (tD 11)), opD 13 (.load false 1 (tD 12)), oqD 14 (.call 83 [(tD 13)]) (.ent (e83 fu)), oqD 15 (.call 88 [(tD 7), (tD 14)]) (.ent (e88 fu)), opD 16 (.pure .nilc [(tD 2)]), opD 17 (.faddr 0 (tD 16)), opD 18 (.faddr 4 (tD 17)), onD (.store 1 (tD 18) (tD 15))] [[], [], [1], [2], [3], [4], [], [6], [7], [8], [9], [10], [11], [5, 12, 12], [0, 0, 1, 2, 3, 4, 5, 6, 7, 8, 9, 10, 11, 12, 13], [14, 0, 1, 2, 3, 4, 5, 6, 7, 8, 9, 10, 11, 12, 13], [15, 0, 1, 2, 3, 4, 5, 6, 7, 8, 9, 10, 11, 12, 13], [16, 13, 13, 0, 1, 2, 3, 4, 5, 6, 7, 8, 9, 10, 11, 12, 13]] true) (.region [mvD 19 0, oqD 20 (.call 71 [(tD 19)]) (.ent (e71 fu))] [[], [0]] false))
set_option maxRecDepth 1000000 in
theorem v70 (fu : Nat) : evF fu (d70 fu) rs70 21 (e70 fu).ash (e70 fu).osh (e70 fu).vsh = p70 fu := by kernel_rfl
set_option maxRecDepth 1000000 in
theorem b70 (fu : Nat) : BodyD Try.prog 70 21 (d70 fu).erase rs70 := bodyD_mk Try.func70 (by kernel_rfl) (by kernel_rfl) (by kernel_rfl) (by kernel_rfl)
theorem g70 (fu : Nat) : (e70 fu).Good Try.prog := good_by orders (b70 fu) (l := [e83 fu, e88 fu, e71 fu]) (by kernel_rfl) ⟨g83 fu, g88 fu, g71 fu, trivial⟩ (by kernel_rfl) (v70 fu)
def rs43 : List RVx := [(.tmp 4)]
/-- (*gazette/client.client).reply -/
def p43 (fu : Nat) : (Z0) × ((Z28) × (Unit)) → Option (((Z22) × ((Unit) × ((Unit) × ((Unit) × ((Unit) × ((Unit) × (Unit))))))) × (Int)) := fun ⟨⟨a, c, f, h, i, j, k, l, m, n, o, q, s, t, u, w, x, y, z, a0, c0, f0, h0, i0, j0, k0, l0, m0, n0, o0, q0, s0, t0, u0, w0, x0, y0, z0, a1, c1, f1, h1, i1, _, j1, k1, l1, m1, n1, o1, q1, s1, _, t1, u1, w1, x1, y1, z1, a2, c2, f2, h2, i2, j2, k2, l2, m2, _, n2, _, o2, q2, s2, _⟩, ⟨_, _, _, _, _, _, _, _, _, _, _, _, _, _, _, _, _, _, _, _, t2, u2, w2, x2, y2, z2, a3, c3, f3, h3, i3, j3, _⟩, _⟩ =>
bif !k then
 bif decide (List.length c = List.length c) then
 bif decide (List.length i = List.length i) then
 bif decide (List.length j = List.length j) then
 bif decide (List.length o = List.length o) then
 bif decide (List.length z = List.length z) then
 some (((a, c, f, h, i, j, k, l, m, n, o, q, s, t, u, w, x, y, z, a0, c0, f0, h0, i0, j0, k0, l0, m0, n0, o0, q0, s0, t0, u0, w0, x0, y0, z0, a1, c1, f1, h1, i1, [], j1, k1, l1, m1, n1, o1, q1, s1, [], t1, u1, w1, x1, y1, z1, a2, c2, f2, h2, i2, j2, k2, l2, m2, [], n2, [], o2, q2, s2, ()), (), (), (), (), (), ()), (0 : Int))
 else none
 else none
 else none
 else none
 else none
else
 bif s0 then
 bif decide (List.length c = List.length c) then
 bif decide (List.length i = List.length i) then
 bif decide (List.length j = List.length j) then
 bif decide (List.length o = List.length o) then
 bif decide (List.length z = List.length z) then
 some (((a, c, f, h, i, j, k, l, m, n, o, q, s, t, u, w, x, y, z, a0, c0, f0, h0, i0, j0, k0, l0, m0, n0, o0, q0, s0, t0, u0, w0, x0, y0, z0, a1, c1, f1, h1, i1, [], j1, k1, l1, m1, n1, o1, q1, s1, [], t1, u1, w1, x1, y1, z1, a2, c2, f2, h2, i2, j2, k2, l2, m2, [], n2, [], o2, q2, s2, ()), (), (), (), (), (), ()), (0 : Int))
 else none
 else none
 else none
 else none
 else none
 else
 bif (t2 != l0) then
 bif decide (List.length c = List.length c) then
 bif decide (List.length i = List.length i) then
 bif decide (List.length j = List.length j) then
 bif decide (List.length o = List.length o) then
 bif decide (List.length z = List.length z) then
 some (((a, c, f, h, i, j, k, l, m, n, o, q, s, t, u, w, x, y, z, a0, c0, f0, h0, i0, j0, k0, l0, m0, n0, o0, q0, s0, t0, u0, w0, x0, y0, z0, a1, c1, f1, h1, i1, [], j1, k1, l1, m1, n1, o1, q1, s1, [], t1, u1, w1, x1, y1, z1, a2, c2, f2, h2, i2, j2, k2, l2, m2, [], n2, [], o2, q2, s2, ()), (), (), (), (), (), ()), (0 : Int))
 else none
 else none
 else none
 else none
 else none
 else
 bif (u2 == (0 : Int)) then
 bif decide (List.length c = List.length c) then
 bif decide (List.length i = List.length i) then
 bif decide (List.length j = List.length j) then
 bif decide (List.length o = List.length o) then
 bif decide (List.length z = List.length z) then
 Option.bind (p67 fu ((a, c, f, h, i, j, k, l, m, n, o, q, s, t, u, w, x, y, z, a0, c0, f0, h0, i0, j0, k0, l0, m0, n0, o0, q0, s0, t0, u0, w0, x0, y0, z0, a1, c1, f1, h1, i1, (), j1, k1, l1, m1, n1, o1, q1, s1, (), t1, u1, w1, x1, y1, z1, a2, c2, f2, h2, i2, j2, k2, l2, m2, (), n2, (), o2, q2, s2, ()), (t2, u2, w2, x2, y2, z2, a3, c3, f3, h3, i3, j3, ()), ())) fun ⟨⟨⟨k3, l3, m3, n3, o3, q3, s3, t3, u3, w3, x3, y3, z3, a4, c4, f4, h4, i4, j4, k4, l4, m4, n4, o4, q4, s4, t4, u4, w4, x4, y4, z4, a5, c5, f5, h5, i5, j5, k5, l5, m5, n5, o5, q5, s5, t5, u5, w5, x5, y5, z5, a6, c6, f6, h6, i6, j6, k6, l6, m6, n6, o6, q6, s6, t6, u6, w6, x6, y6, z6, a7, c7, f7, h7, _⟩, _, _, _, _, _, _⟩, _⟩ =>
 bif decide (List.length l3 = List.length l3) then
 bif decide (List.length o3 = List.length o3) then
 bif decide (List.length q3 = List.length q3) then
 bif decide (List.length x3 = List.length x3) then
 bif decide (List.length j4 = List.length j4) then
 bif decide (List.length q5 = List.length q5) then
 bif decide (List.length c6 = List.length c6) then
 bif decide (List.length y6 = List.length y6) then
 bif decide (List.length a7 = List.length a7) then
 some (((k3, l3, m3, n3, o3, q3, s3, t3, u3, w3, x3, y3, z3, a4, c4, f4, h4, i4, j4, k4, l4, m4, n4, o4, q4, s4, t4, u4, w4, x4, y4, z4, a5, c5, f5, h5, i5, j5, k5, l5, m5, n5, o5, q5, s5, t5, u5, w5, x5, y5, z5, a6, c6, f6, h6, i6, j6, k6, l6, m6, n6, o6, q6, s6, t6, u6, w6, x6, y6, z6, a7, c7, f7, h7, ()), (), (), (), (), (), ()), (0 : Int))
 else none
 else none
 else none
 else none
 else none
 else none
 else none
 else none
 else none
 else none
 else none
 else none
 else none
 else none
 else
 bif (u2 == (201 : Int)) then
 bif decide (List.length c = List.length c) then
 bif decide (List.length i = List.length i) then
 bif decide (List.length j = List.length j) then
 bif decide (List.length o = List.length o) then
 bif decide (List.length z = List.length z) then
 Option.bind (p68 fu ((a, c, f, h, i, j, k, l, m, n, o, q, s, t, u, w, x, y, z, a0, c0, f0, h0, i0, j0, k0, l0, m0, n0, o0, q0, s0, t0, u0, w0, x0, y0, z0, a1, c1, f1, h1, i1, (), j1, k1, l1, m1, n1, o1, q1, s1, (), t1, u1, w1, x1, y1, z1, a2, c2, f2, h2, i2, j2, k2, l2, m2, (), n2, (), o2, q2, s2, ()), w2, ())) fun ⟨⟨⟨i7, j7, k7, l7, m7, n7, o7, q7, s7, t7, u7, w7, x7, y7, z7, a8, c8, f8, h8, i8, j8, k8, l8, m8, n8, o8, q8, s8, t8, u8, w8, x8, y8, z8, a9, c9, f9, h9, i9, j9, k9, l9, m9, n9, o9, q9, s9, t9, u9, w9, x9, y9, z9, a10, c10, f10, h10, i10, j10, k10, l10, m10, n10, o10, q10, s10, t10, u10, w10, x10, y10, z10, a11, c11, _⟩, _, _, _, _, _, _⟩, _⟩ =>
 bif decide (List.length j7 = List.length j7) then
 bif decide (List.length m7 = List.length m7) then
 bif decide (List.length n7 = List.length n7) then
 bif decide (List.length u7 = List.length u7) then
 bif decide (List.length h8 = List.length h8) then
 bif decide (List.length n9 = List.length n9) then
 bif decide (List.length z9 = List.length z9) then
 bif decide (List.length w10 = List.length w10) then
 bif decide (List.length y10 = List.length y10) then
 some (((i7, j7, k7, l7, m7, n7, o7, q7, s7, t7, u7, w7, x7, y7, z7, a8, c8, f8, h8, i8, j8, k8, l8, m8, n8, o8, q8, s8, t8, u8, w8, x8, y8, z8, a9, c9, f9, h9, i9, j9, k9, l9, m9, n9, o9, q9, s9, t9, u9, w9, x9, y9, z9, a10, c10, f10, h10, i10, j10, k10, l10, m10, n10, o10, q10, s10, t10, u10, w10, x10, y10, z10, a11, c11, ()), (), (), (), (), (), ()), (0 : Int))
 else none
 else none
 else none
 else none
 else none
 else none
 else none
 else none
 else none
 else none
 else none
 else none
 else none
 else none
 else
 orK (E := ((Bool) × (Unit)) × (Unit))
 (bif (u2 == (162 : Int)) then
 some (.inl ((true, ()), ()))
 else
 bif (u2 == (164 : Int)) then
 some (.inl ((true, ()), ()))
 else
 bif (u2 == (163 : Int)) then
 some (.inl ((true, ()), ()))
 else
 some (.inl (((u2 == (182 : Int)), ()), ())))
 fun ⟨⟨f11, _⟩, _⟩ =>
 bif f11 then
 bif (l == (5 : Int)) then
 bif decide (List.length c = List.length c) then
 bif decide (List.length i = List.length i) then
 bif decide (List.length j = List.length j) then
 bif decide (List.length o = List.length o) then
 bif decide (List.length z = List.length z) then
 Option.bind (p69 fu ((a, c, f, h, i, j, k, l, m, n, o, q, s, t, u, w, x, y, z, a0, c0, f0, h0, i0, j0, k0, l0, m0, n0, o0, q0, s0, t0, u0, w0, x0, y0, z0, a1, c1, f1, h1, i1, (), j1, k1, l1, m1, n1, o1, q1, s1, (), t1, u1, w1, x1, y1, z1, a2, c2, f2, h2, i2, j2, k2, l2, m2, (), n2, (), o2, q2, s2, ()), (t2, u2, w2, x2, y2, z2, a3, c3, f3, h3, i3, j3, ()), ())) fun ⟨⟨⟨h11, i11, j11, k11, l11, m11, n11, o11, q11, s11, _, t11, u11, w11, x11, y11, z11, a12, _, c12, f12, h12, i12, j12, k12, l12, m12, n12, o12, q12, s12, t12, u12, w12, x12, y12, z12, a13, c13, f13, h13, i13, j13, _, k13, l13, m13, n13, o13, q13, s13, t13, _, u13, w13, x13, y13, z13, a14, c14, f14, h14, i14, j14, k14, l14, m14, n14, o14, q14, s14, t14, u14, w14, _⟩, _, _, _, _, _, _⟩, _⟩ =>
 bif decide (List.length i11 = List.length i11) then
 bif decide (List.length l11 = List.length l11) then
 bif decide (List.length m11 = List.length m11) then
 bif decide (List.length o14 = List.length o14) then
 bif decide (List.length s14 = List.length s14) then
 some (((h11, i11, j11, k11, l11, m11, n11, o11, q11, s11, [], t11, u11, w11, x11, y11, z11, a12, [], c12, f12, h12, i12, j12, k12, l12, m12, n12, o12, q12, s12, t12, u12, w12, x12, y12, z12, a13, c13, f13, h13, i13, j13, [], k13, l13, m13, n13, o13, q13, s13, t13, [], u13, w13, x13, y13, z13, a14, c14, f14, h14, i14, j14, k14, l14, m14, n14, o14, q14, s14, t14, u14, w14, ()), (), (), (), (), (), ()), (0 : Int))
 else none
 else none
 else none
 else none
 else none
 else none
 else none
 else none
 else none
 else none
 else
 bif decide (List.length c = List.length c) then
 bif decide (List.length i = List.length i) then
 bif decide (List.length j = List.length j) then
 bif decide (List.length o = List.length o) then
 bif decide (List.length z = List.length z) then
 Option.bind (p70 fu ((a, c, f, h, i, j, k, l, m, n, o, q, s, t, u, w, x, y, z, a0, c0, f0, h0, i0, j0, k0, l0, m0, n0, o0, q0, s0, t0, u0, w0, x0, y0, z0, a1, c1, f1, h1, i1, (), j1, k1, l1, m1, n1, o1, q1, s1, (), t1, u1, w1, x1, y1, z1, a2, c2, f2, h2, i2, j2, k2, l2, m2, (), n2, (), o2, q2, s2, ()), ())) fun ⟨⟨⟨x14, y14, z14, a15, c15, f15, h15, i15, j15, k15, l15, m15, n15, o15, q15, s15, t15, u15, w15, x15, y15, z15, a16, c16, f16, h16, i16, j16, k16, l16, m16, n16, o16, q16, s16, t16, u16, w16, x16, y16, z16, a17, c17, _, f17, h17, i17, j17, k17, l17, m17, n17, _, o17, q17, s17, t17, u17, w17, x17, y17, z17, a18, c18, f18, h18, i18, j18, _, k18, _, l18, m18, n18, _⟩, _, _, _, _, _, _⟩, _⟩ =>
 bif decide (List.length y14 = List.length y14) then
 bif decide (List.length c15 = List.length c15) then
 bif decide (List.length f15 = List.length f15) then
 bif decide (List.length l15 = List.length l15) then
 bif decide (List.length w15 = List.length w15) then
 some (((x14, y14, z14, a15, c15, f15, h15, i15, j15, k15, l15, m15, n15, o15, q15, s15, t15, u15, w15, x15, y15, z15, a16, c16, f16, h16, i16, j16, k16, l16, m16, n16, o16, q16, s16, t16, u16, w16, x16, y16, z16, a17, c17, [], f17, h17, i17, j17, k17, l17, m17, n17, [], o17, q17, s17, t17, u17, w17, x17, y17, z17, a18, c18, f18, h18, i18, j18, [], k18, [], l18, m18, n18, ()), (), (), (), (), (), ()), (0 : Int))
 else none
 else none
 else none
 else none
 else none
 else none
 else none
 else none
 else none
 else none
 else
 bif (u2 == (202 : Int)) then
 bif (l == (5 : Int)) then
 bif decide (List.length c = List.length c) then
 bif decide (List.length i = List.length i) then
 bif decide (List.length j = List.length j) then
 bif decide (List.length o = List.length o) then
 bif decide (List.length z = List.length z) then
 Option.bind (p71 fu ((a, c, f, h, i, j, k, l, m, n, o, q, s, t, u, w, x, y, z, a0, c0, f0, h0, i0, j0, k0, l0, m0, n0, o0, q0, s0, t0, u0, w0, x0, y0, z0, a1, c1, f1, h1, i1, (), j1, k1, l1, m1, n1, o1, q1, s1, (), t1, u1, w1, x1, y1, z1, a2, c2, f2, h2, i2, j2, k2, l2, m2, (), n2, (), o2, q2, s2, ()), ())) fun ⟨⟨⟨o18, q18, s18, t18, u18, w18, x18, y18, z18, a19, c19, f19, h19, i19, j19, k19, l19, m19, n19, o19, q19, s19, t19, u19, w19, x19, y19, z19, a20, c20, f20, h20, i20, j20, k20, l20, m20, n20, o20, q20, s20, t20, u20, _, w20, x20, y20, z20, a21, c21, f21, h21, _, i21, j21, k21, l21, m21, n21, o21, q21, s21, t21, u21, w21, x21, y21, z21, _, a22, _, c22, f22, h22, _⟩, _, _, _, _, _, _⟩, _⟩ =>
 bif decide (List.length q18 = List.length q18) then
 bif decide (List.length u18 = List.length u18) then
 bif decide (List.length w18 = List.length w18) then
 bif decide (List.length c19 = List.length c19) then
 bif decide (List.length n19 = List.length n19) then
 some (((o18, q18, s18, t18, u18, w18, x18, y18, z18, a19, c19, f19, h19, i19, j19, k19, l19, m19, n19, o19, q19, s19, t19, u19, w19, x19, y19, z19, a20, c20, f20, h20, i20, j20, k20, l20, m20, n20, o20, q20, s20, t20, u20, [], w20, x20, y20, z20, a21, c21, f21, h21, [], i21, j21, k21, l21, m21, n21, o21, q21, s21, t21, u21, w21, x21, y21, z21, [], a22, [], c22, f22, h22, ()), (), (), (), (), (), ()), (0 : Int))
 else none
 else none
 else none
 else none
 else none
 else none
 else none
 else none
 else none
 else none
 else
 bif decide (List.length c = List.length c) then
 bif decide (List.length i = List.length i) then
 bif decide (List.length j = List.length j) then
 bif decide (List.length o = List.length o) then
 bif decide (List.length z = List.length z) then
 Option.bind (p70 fu ((a, c, f, h, i, j, k, l, m, n, o, q, s, t, u, w, x, y, z, a0, c0, f0, h0, i0, j0, k0, l0, m0, n0, o0, q0, s0, t0, u0, w0, x0, y0, z0, a1, c1, f1, h1, i1, (), j1, k1, l1, m1, n1, o1, q1, s1, (), t1, u1, w1, x1, y1, z1, a2, c2, f2, h2, i2, j2, k2, l2, m2, (), n2, (), o2, q2, s2, ()), ())) fun ⟨⟨⟨i22, j22, k22, l22, m22, n22, o22, q22, s22, t22, u22, w22, x22, y22, z22, a23, c23, f23, h23, i23, j23, k23, l23, m23, n23, o23, q23, s23, t23, u23, w23, x23, y23, z23, a24, c24, f24, h24, i24, j24, k24, l24, m24, _, n24, o24, q24, s24, t24, u24, w24, x24, _, y24, z24, a25, c25, f25, h25, i25, j25, k25, l25, m25, n25, o25, q25, s25, _, t25, _, u25, w25, x25, _⟩, _, _, _, _, _, _⟩, _⟩ =>
 bif decide (List.length j22 = List.length j22) then
 bif decide (List.length m22 = List.length m22) then
 bif decide (List.length n22 = List.length n22) then
 bif decide (List.length u22 = List.length u22) then
 bif decide (List.length h23 = List.length h23) then
 some (((i22, j22, k22, l22, m22, n22, o22, q22, s22, t22, u22, w22, x22, y22, z22, a23, c23, f23, h23, i23, j23, k23, l23, m23, n23, o23, q23, s23, t23, u23, w23, x23, y23, z23, a24, c24, f24, h24, i24, j24, k24, l24, m24, [], n24, o24, q24, s24, t24, u24, w24, x24, [], y24, z24, a25, c25, f25, h25, i25, j25, k25, l25, m25, n25, o25, q25, s25, [], t25, [], u25, w25, x25, ()), (), (), (), (), (), ()), (0 : Int))
 else none
 else none
 else none
 else none
 else none
 else none
 else none
 else none
 else none
 else none
 else
 bif (u2 == (203 : Int)) then
 bif (l == (5 : Int)) then
 bif decide (List.length c = List.length c) then
 bif decide (List.length i = List.length i) then
 bif decide (List.length j = List.length j) then
 bif decide (List.length o = List.length o) then
 bif decide (List.length z = List.length z) then
 Option.bind (p72 fu ((a, c, f, h, i, j, k, l, m, n, o, q, s, t, u, w, x, y, z, a0, c0, f0, h0, i0, j0, k0, l0, m0, n0, o0, q0, s0, t0, u0, w0, x0, y0, z0, a1, c1, f1, h1, i1, (), j1, k1, l1, m1, n1, o1, q1, s1, (), t1, u1, w1, x1, y1, z1, a2, c2, f2, h2, i2, j2, k2, l2, m2, (), n2, (), o2, q2, s2, ()), ())) fun ⟨⟨⟨y25, z25, a26, c26, f26, h26, i26, j26, k26, l26, _, m26, n26, o26, q26, s26, t26, u26, _, w26, x26, y26, z26, a27, c27, f27, h27, i27, j27, k27, l27, m27, n27, o27, q27, s27, t27, u27, w27, x27, y27, z27, a28, _, c28, f28, h28, i28, j28, k28, l28, m28, _, n28, o28, q28, s28, t28, u28, w28, x28, y28, z28, a29, c29, f29, h29, i29, j29, k29, l29, m29, n29, o29, _⟩, _, _, _, _, _, _⟩, _⟩ =>
 bif decide (List.length z25 = List.length z25) then
 bif decide (List.length f26 = List.length f26) then
 bif decide (List.length h26 = List.length h26) then
 bif decide (List.length j29 = List.length j29) then
 bif decide (List.length l29 = List.length l29) then
 some (((y25, z25, a26, c26, f26, h26, i26, j26, k26, l26, [], m26, n26, o26, q26, s26, t26, u26, [], w26, x26, y26, z26, a27, c27, f27, h27, i27, j27, k27, l27, m27, n27, o27, q27, s27, t27, u27, w27, x27, y27, z27, a28, [], c28, f28, h28, i28, j28, k28, l28, m28, [], n28, o28, q28, s28, t28, u28, w28, x28, y28, z28, a29, c29, f29, h29, i29, j29, k29, l29, m29, n29, o29, ()), (), (), (), (), (), ()), (0 : Int))
 else none
 else none
 else none
 else none
 else none
 else none
 else none
 else none
 else none
 else none
 else
 bif decide (List.length c = List.length c) then
 bif decide (List.length i = List.length i) then
 bif decide (List.length j = List.length j) then
 bif decide (List.length o = List.length o) then
 bif decide (List.length z = List.length z) then
 Option.bind (p73 fu ((a, c, f, h, i, j, k, l, m, n, o, q, s, t, u, w, x, y, z, a0, c0, f0, h0, i0, j0, k0, l0, m0, n0, o0, q0, s0, t0, u0, w0, x0, y0, z0, a1, c1, f1, h1, i1, (), j1, k1, l1, m1, n1, o1, q1, s1, (), t1, u1, w1, x1, y1, z1, a2, c2, f2, h2, i2, j2, k2, l2, m2, (), n2, (), o2, q2, s2, ()), ())) fun ⟨⟨⟨q29, s29, t29, u29, w29, x29, y29, z29, a30, c30, f30, h30, i30, j30, k30, l30, m30, n30, o30, q30, s30, t30, u30, w30, x30, y30, z30, a31, c31, f31, h31, i31, j31, k31, l31, m31, n31, o31, q31, s31, t31, u31, w31, _, x31, y31, z31, a32, c32, f32, h32, i32, _, j32, k32, l32, m32, n32, o32, q32, s32, t32, u32, w32, x32, y32, z32, a33, _, c33, _, f33, h33, i33, _⟩, _, _, _, _, _, _⟩, _⟩ =>
 bif decide (List.length s29 = List.length s29) then
 bif decide (List.length w29 = List.length w29) then
 bif decide (List.length x29 = List.length x29) then
 bif decide (List.length f30 = List.length f30) then
 bif decide (List.length o30 = List.length o30) then
 some (((q29, s29, t29, u29, w29, x29, y29, z29, a30, c30, f30, h30, i30, j30, k30, l30, m30, n30, o30, q30, s30, t30, u30, w30, x30, y30, z30, a31, c31, f31, h31, i31, j31, k31, l31, m31, n31, o31, q31, s31, t31, u31, w31, [], x31, y31, z31, a32, c32, f32, h32, i32, [], j32, k32, l32, m32, n32, o32, q32, s32, t32, u32, w32, x32, y32, z32, a33, [], c33, [], f33, h33, i33, ()), (), (), (), (), (), ()), (0 : Int))
 else none
 else none
 else none
 else none
 else none
 else none
 else none
 else none
 else none
 else none
 else
 bif decide (List.length c = List.length c) then
 bif decide (List.length i = List.length i) then
 bif decide (List.length j = List.length j) then
 bif decide (List.length o = List.length o) then
 bif decide (List.length z = List.length z) then
 Option.bind (p69 fu ((a, c, f, h, i, j, k, l, m, n, o, q, s, t, u, w, x, y, z, a0, c0, f0, h0, i0, j0, k0, l0, m0, n0, o0, q0, s0, t0, u0, w0, x0, y0, z0, a1, c1, f1, h1, i1, (), j1, k1, l1, m1, n1, o1, q1, s1, (), t1, u1, w1, x1, y1, z1, a2, c2, f2, h2, i2, j2, k2, l2, m2, (), n2, (), o2, q2, s2, ()), (t2, u2, w2, x2, y2, z2, a3, c3, f3, h3, i3, j3, ()), ())) fun ⟨⟨⟨j33, k33, l33, m33, n33, o33, q33, s33, t33, u33, _, w33, x33, y33, z33, a34, c34, f34, _, h34, i34, j34, k34, l34, m34, n34, o34, q34, s34, t34, u34, w34, x34, y34, z34, a35, c35, f35, h35, i35, j35, k35, l35, _, m35, n35, o35, q35, s35, t35, u35, w35, _, x35, y35, z35, a36, c36, f36, h36, i36, j36, k36, l36, m36, n36, o36, q36, s36, t36, u36, w36, x36, y36, _⟩, _, _, _, _, _, _⟩, _⟩ =>
 bif decide (List.length k33 = List.length k33) then
 bif decide (List.length n33 = List.length n33) then
 bif decide (List.length o33 = List.length o33) then
 bif decide (List.length s36 = List.length s36) then
 bif decide (List.length u36 = List.length u36) then
 some (((j33, k33, l33, m33, n33, o33, q33, s33, t33, u33, [], w33, x33, y33, z33, a34, c34, f34, [], h34, i34, j34, k34, l34, m34, n34, o34, q34, s34, t34, u34, w34, x34, y34, z34, a35, c35, f35, h35, i35, j35, k35, l35, [], m35, n35, o35, q35, s35, t35, u35, w35, [], x35, y35, z35, a36, c36, f36, h36, i36, j36, k36, l36, m36, n36, o36, q36, s36, t36, u36, w36, x36, y36, ()), (), (), (), (), (), ()), (0 : Int))
 else none
 else none
 else none
 else none
 else none
 else none
 else none
 else none
 else none
 else none
def e43 (fu : Nat) : Ent := ⟨43, (.cons Y20 (.cons Y29 .nil)), (.cons Y27 (.cons .dead (.cons .dead (.cons .dead (.cons .dead (.cons .dead .nil)))))), (.hole (.int .i64)), p43 fu⟩
def d43 (fu : Nat) : DC := (.seq (.region [opD 3 (.box 50 32 (tD 1)), opD 4 (.mov (cD 0))] [[], []] false) (.seq (.region [opD 7 (.faddr 20 (tD 3)), opD 8 (.load true 12 (tD 7)), opD 5 (.alloc 48 12 [vU, vI, vI, vI, vU, vB, vS, vU, vS, vU, vU, vU]), onD (.store 12 (tD 5) (tD 8))] [[], [0], [], [2, 1, 0, 1, 2]] false) (.seq (.seq (.region [mvD 9 0, opD 10 (.pure .nilc [(tD 9)]), opD 11 (.faddr 0 (tD 10)), opD 12 (.faddr 6 (tD 11)), opD 13 (.load false 1 (tD 12)), opD 14 (.not (tD 13)), mvD 15 14, ogD 16 15 false (.mov (tD 0)), ogD 17 15 false (.pure .nilc [(tD 16)]), ogD 18 15 false (.faddr 0 (tD 17)), ogD 19 15 false (.faddr 31 (tD 18)), ogD 20 15 false (.load false 1 (tD 19)), opD 21 (.pick (tD 15) (.const (.bool true)) (tD 20)), mvD 22 21, ogD 23 22 false (.faddr 0 (tD 5)), ogD 24 22 false (.load false 1 (tD 23)), ogD 25 22 false (.mov (tD 0)), ogD 26 22 false (.pure .nilc [(tD 25)]), ogD 27 22 false (.faddr 0 (tD 26)), ogD 28 22 false (.faddr 26 (tD 27)), ogD 29 22 false (.load false 1 (tD 28)), ogD 30 22 false (.bin .neq (tD 24) (tD 29)), opD 31 (.pick (tD 22) (.const (.bool true)) (tD 30))] [[], [0], [1], [2], [3], [4], [5], [6], [7, 6], [8, 6], [9, 6], [10, 6], [6, 11], [12, 6], [13], [14, 13], [13], [16, 13], [17, 13], [18, 13], [19, 13], [15, 20, 13], [13, 21]] true) (.cond (.tmp 31) (.seq (.region [opD 4 (.mov (cD 0))] [[]] false) .ret) .skip)) (.seq (.region [mvD 32 0, opD 33 (.pure .nilc [(tD 32)]), opD 34 (.faddr 0 (tD 33)), opD 35 (.faddr 7 (tD 34)), opD 36 (.faddr 0 (tD 35)), opD 37 (.load false 1 (tD 36)), opD 38 (.bin .eql (tD 37) (cD 5)), mvD 6 38] [[], [0], [1], [2], [3], [4], [5], [6, 0, 1, 2, 3, 4, 5, 6]] false) (.seq (.seq (.region [opD 39 (.faddr 1 (tD 5)), opD 40 (.load false 1 (tD 39))] [[], [0]] false) (.block 0 (.seq (.region [opD 45 (.bin .eql (tD 40) (cD 0)), mvD 44 45] [[], [0]] false) (.cond (.tmp 44) (.region [mvD 46 0, opD 47 (.load true 12 (tD 5)), oqD 48 (.call 67 [(tD 46), (tD 47)]) (.ent (e67 fu))] [[], [], [0, 1]] false) (.seq (.region [opD 50 (.bin .eql (tD 40) (cD 201)), mvD 49 50] [[], [0]] false) (.cond (.tmp 49) (.region [mvD 51 0, opD 52 (.faddr 2 (tD 5)), opD 53 (.load false 1 (tD 52)), oqD 54 (.call 68 [(tD 51), (tD 53)]) (.ent (e68 fu))] [[], [], [1], [0, 2]] false) (.join ⟨[55], (.cons (.hole .bool) .nil), [], .nil, [0, 5, 6, 40], [0, 1, 2, 3, 4, 5, 7, 8, 9, 10, 11, 76]⟩
 (.seq (.region [opD 56 (.bin .eql (tD 40) (cD 162)), mvD 55 56] [[], [0]] false) (.cond (.tmp 55) .skip (.seq (.region [opD 57 (.bin .eql (tD 40) (cD 164)), mvD 55 57] [[], [0]] false) (.cond (.tmp 55) .skip (.seq (.region [opD 58 (.bin .eql (tD 40) (cD 163)), mvD 55 58] [[], [0]] false) (.cond (.tmp 55) .skip (.region [opD 59 (.bin .eql (tD 40) (cD 182)), mvD 55 59] [[], [0]] false)))))))
 (.cond (.tmp 55) (.seq (.seq (.region [mvD 60 6] [[]] false) (.cond (.tmp 60) (.seq (.region [mvD 61 0, opD 62 (.load true 12 (tD 5)), oqD 63 (.call 69 [(tD 61), (tD 62)]) (.ent (e69 fu))] [[], [], [0, 1]] false) (.exit 0)) .skip)) (.region [mvD 64 0, oqD 65 (.call 70 [(tD 64)]) (.ent (e70 fu))] [[], [0]] false)) (.seq (.region [opD 67 (.bin .eql (tD 40) (cD 202)), mvD 66 67] [[], [0]] false) (.cond (.tmp 66) (.seq (.seq (.region [mvD 68 6] [[]] false) (.cond (.tmp 68) (.seq (.region [mvD 69 0, oqD 70 (.call 71 [(tD 69)]) (.ent (e71 fu))] [[], [0]] false) (.exit 0)) .skip)) (.region [mvD 71 0, oqD 72 (.call 70 [(tD 71)]) (.ent (e70 fu))] [[], [0]] false)) (.seq (.region [opD 74 (.bin .eql (tD 40) (cD 203)), mvD 73 74] [[], [0]] false) (.cond (.tmp 73) (.seq (.seq (.region [mvD 75 6] [[]] false) (.cond (.tmp 75) (.seq (.region [mvD 76 0, oqD 77 (.call 72 [(tD 76)]) (.ent (e72 fu))] [[], [0]] false) (.exit 0)) .skip)) (.region [mvD 78 0, oqD 79 (.call 73 [(tD 78)]) (.ent (e73 fu))] [[], [0]] false)) (.region [mvD 41 0, opD 42 (.load true 12 (tD 5)), oqD 43 (.call 69 [(tD 41), (tD 42)]) (.ent (e69 fu))] [[], [], [0, 1]] false))))))))))))) (.seq (.region [opD 4 (.mov (cD 0))] [[]] false) .ret))))))
set_option maxRecDepth 1000000 in
theorem v43 (fu : Nat) : evF fu (d43 fu) rs43 80 (e43 fu).ash (e43 fu).osh (e43 fu).vsh = p43 fu := by kernel_rfl
set_option maxRecDepth 1000000 in
theorem b43 (fu : Nat) : BodyD Try.prog 43 80 (d43 fu).erase rs43 := bodyD_mk Try.func43 (by kernel_rfl) (by kernel_rfl) (by kernel_rfl) (by kernel_rfl)
theorem g43 (fu : Nat) : (e43 fu).Good Try.prog := good_by orders (b43 fu) (l := [e67 fu, e68 fu, e69 fu, e70 fu, e71 fu, e70 fu, e72 fu, e73 fu, e69 fu]) (by kernel_rfl) ⟨g67 fu, g68 fu, g69 fu, g70 fu, g71 fu, g70 fu, g72 fu, g73 fu, g69 fu, trivial⟩ (by kernel_rfl) (v43 fu)
def rs44 : List RVx := [(.tmp 4)]
/-- (*gazette/client.client).tick -/
def p44 (fu : Nat) : (Z0) × ((Z28) × (Unit)) → Option (((Z22) × ((Unit) × ((Unit) × ((Unit) × ((Unit) × ((Unit) × (Unit))))))) × (Int)) := fun ⟨⟨a, c, f, h, i, j, k, l, m, n, o, q, s, t, u, w, x, y, z, a0, c0, f0, h0, i0, j0, k0, l0, m0, n0, o0, q0, s0, t0, u0, w0, x0, y0, z0, a1, c1, f1, h1, i1, _, j1, k1, l1, m1, n1, o1, q1, s1, _, t1, u1, w1, x1, y1, z1, a2, c2, f2, h2, i2, j2, k2, l2, m2, _, n2, _, o2, q2, s2, _⟩, ⟨_, _, _, _, _, _, _, _, _, _, _, _, _, _, _, _, _, _, _, _, _, _, _, _, _, _, _, _, _, _, _, _, _⟩, _⟩ =>
bif !k then
 bif decide (List.length c = List.length c) then
 bif decide (List.length i = List.length i) then
 bif decide (List.length j = List.length j) then
 bif decide (List.length o = List.length o) then
 bif decide (List.length z = List.length z) then
 some (((a, c, f, h, i, j, k, l, m, n, o, q, s, t, u, w, x, y, z, a0, c0, f0, h0, i0, j0, k0, l0, m0, n0, o0, q0, s0, t0, u0, w0, x0, y0, z0, a1, c1, f1, h1, i1, [], j1, k1, l1, m1, n1, o1, q1, s1, [], t1, u1, w1, x1, y1, z1, a2, c2, f2, h2, i2, j2, k2, l2, m2, [], n2, [], o2, q2, s2, ()), (), (), (), (), (), ()), (0 : Int))
 else none
 else none
 else none
 else none
 else none
else
 bif s0 then
 bif decide (List.length c = List.length c) then
 bif decide (List.length i = List.length i) then
 bif decide (List.length j = List.length j) then
 bif decide (List.length o = List.length o) then
 bif decide (List.length z = List.length z) then
 Option.bind (p66 fu ((a, c, f, h, i, j, k, l, m, n, o, q, s, t, u, w, x, y, z, a0, c0, f0, h0, i0, j0, k0, l0, m0, n0, o0, q0, s0, t0, u0, w0, x0, y0, z0, a1, c1, f1, h1, i1, (), j1, k1, l1, m1, n1, o1, q1, s1, (), t1, u1, w1, x1, y1, z1, a2, c2, f2, h2, i2, j2, k2, l2, m2, (), n2, (), o2, q2, s2, ()), ())) fun ⟨⟨⟨t2, u2, w2, x2, y2, z2, a3, c3, f3, h3, i3, j3, k3, l3, m3, n3, o3, q3, s3, t3, u3, w3, x3, y3, z3, a4, c4, f4, h4, i4, j4, k4, l4, m4, n4, o4, q4, s4, t4, u4, w4, x4, y4, z4, a5, c5, f5, h5, i5, j5, k5, l5, m5, n5, o5, q5, s5, t5, u5, w5, x5, y5, z5, a6, c6, f6, h6, i6, j6, k6, l6, m6, n6, o6, _⟩, _, _, _, _, _, _⟩, _⟩ =>
 bif decide (List.length u2 = List.length u2) then
 bif decide (List.length y2 = List.length y2) then
 bif decide (List.length z2 = List.length z2) then
 bif decide (List.length i3 = List.length i3) then
 bif decide (List.length s3 = List.length s3) then
 bif decide (List.length z4 = List.length z4) then
 bif decide (List.length m5 = List.length m5) then
 bif decide (List.length j6 = List.length j6) then
 bif decide (List.length l6 = List.length l6) then
 some (((t2, u2, w2, x2, y2, z2, a3, c3, f3, h3, i3, j3, k3, l3, m3, n3, o3, q3, s3, t3, u3, w3, x3, y3, z3, a4, c4, f4, h4, i4, j4, k4, l4, m4, n4, o4, q4, s4, t4, u4, w4, x4, y4, z4, a5, c5, f5, h5, i5, j5, k5, l5, m5, n5, o5, q5, s5, t5, u5, w5, x5, y5, z5, a6, c6, f6, h6, i6, j6, k6, l6, m6, n6, o6, ()), (), (), (), (), (), ()), (0 : Int))
 else none
 else none
 else none
 else none
 else none
 else none
 else none
 else none
 else none
 else none
 else none
 else none
 else none
 else none
 else
 bif decide ((IntKind.wrap .i64 (q0 + (1 : Int))) ≥ (12 : Int)) then
 bif decide (List.length c = List.length c) then
 bif decide (List.length i = List.length i) then
 bif decide (List.length j = List.length j) then
 bif decide (List.length o = List.length o) then
 bif decide (List.length z = List.length z) then
 Option.bind (p74 fu ((a, c, f, h, i, j, k, l, m, n, o, q, s, t, u, w, x, y, z, a0, c0, f0, h0, i0, j0, k0, l0, m0, n0, o0, IntKind.wrap .i64 (q0 + (1 : Int)), s0, t0, u0, w0, x0, y0, z0, a1, c1, f1, h1, i1, (), j1, k1, l1, m1, n1, o1, q1, s1, (), t1, u1, w1, x1, y1, z1, a2, c2, f2, h2, i2, j2, k2, l2, m2, (), n2, (), o2, q2, s2, ()), ())) fun ⟨⟨⟨q6, s6, t6, u6, w6, x6, y6, z6, a7, c7, f7, h7, i7, j7, k7, l7, m7, n7, o7, q7, s7, t7, u7, w7, x7, y7, z7, a8, c8, f8, h8, i8, j8, k8, l8, m8, n8, o8, q8, s8, t8, u8, w8, _, x8, y8, z8, a9, c9, f9, h9, i9, _, j9, k9, l9, m9, n9, o9, q9, s9, t9, u9, w9, x9, y9, z9, a10, _, c10, _, f10, h10, i10, _⟩, _, _, _, _, _, _⟩, _⟩ =>
 bif decide (List.length s6 = List.length s6) then
 bif decide (List.length w6 = List.length w6) then
 bif decide (List.length x6 = List.length x6) then
 bif decide (List.length f7 = List.length f7) then
 bif decide (List.length o7 = List.length o7) then
 Option.bind (p75 fu ((q6, s6, t6, u6, w6, x6, y6, z6, a7, c7, f7, h7, i7, j7, k7, l7, m7, n7, o7, q7, s7, t7, u7, w7, x7, y7, z7, a8, c8, f8, h8, i8, j8, k8, l8, m8, n8, o8, q8, s8, t8, u8, w8, (), x8, y8, z8, a9, c9, f9, h9, i9, (), j9, k9, l9, m9, n9, o9, q9, s9, t9, u9, w9, x9, y9, z9, a10, (), c10, (), f10, h10, i10, ()), ())) fun ⟨⟨⟨j10, k10, l10, m10, n10, o10, q10, s10, t10, u10, w10, x10, y10, z10, a11, c11, f11, h11, i11, j11, k11, l11, m11, n11, o11, q11, s11, t11, u11, w11, x11, y11, z11, a12, c12, f12, h12, i12, j12, k12, l12, m12, n12, _, o12, q12, s12, t12, u12, w12, x12, y12, _, z12, a13, c13, f13, h13, i13, j13, k13, l13, m13, n13, o13, q13, s13, t13, _, u13, _, w13, x13, y13, _⟩, _, _, _, _, _, _⟩, _⟩ =>
 bif (s10 == (5 : Int)) then
 bif decide (List.length k10 = List.length k10) then
 bif decide (List.length n10 = List.length n10) then
 bif decide (List.length o10 = List.length o10) then
 bif decide (List.length w10 = List.length w10) then
 bif decide (List.length i11 = List.length i11) then
 Option.bind (p72 fu ((j10, k10, l10, m10, n10, o10, q10, s10, t10, u10, w10, x10, y10, z10, a11, c11, f11, h11, i11, j11, k11, l11, m11, n11, o11, q11, s11, t11, u11, w11, x11, y11, z11, a12, c12, f12, h12, i12, j12, k12, l12, m12, n12, (), o12, q12, s12, t12, u12, w12, x12, y12, (), z12, a13, c13, f13, h13, i13, j13, k13, l13, m13, n13, o13, q13, s13, t13, (), u13, (), w13, x13, y13, ()), ())) fun ⟨⟨⟨z13, a14, c14, f14, h14, i14, j14, k14, l14, m14, _, n14, o14, q14, s14, t14, u14, w14, _, x14, y14, z14, a15, c15, f15, h15, i15, j15, k15, l15, m15, n15, o15, q15, s15, t15, u15, w15, x15, y15, z15, a16, c16, _, f16, h16, i16, j16, k16, l16, m16, n16, _, o16, q16, s16, t16, u16, w16, x16, y16, z16, a17, c17, f17, h17, i17, j17, k17, l17, m17, n17, o17, q17, _⟩, _, _, _, _, _, _⟩, _⟩ =>
 bif decide (List.length a14 = List.length a14) then
 bif decide (List.length h14 = List.length h14) then
 bif decide (List.length i14 = List.length i14) then
 bif decide (List.length k17 = List.length k17) then
 bif decide (List.length m17 = List.length m17) then
 some (((z13, a14, c14, f14, h14, i14, j14, k14, l14, m14, [], n14, o14, q14, s14, t14, u14, w14, [], x14, y14, z14, a15, c15, f15, h15, i15, j15, k15, l15, m15, n15, o15, q15, s15, t15, u15, w15, x15, y15, z15, a16, c16, [], f16, h16, i16, j16, k16, l16, m16, n16, [], o16, q16, s16, t16, u16, w16, x16, y16, z16, a17, c17, f17, h17, i17, j17, k17, l17, m17, n17, o17, q17, ()), (), (), (), (), (), ()), (0 : Int))
 else none
 else none
 else none
 else none
 else none
 else none
 else none
 else none
 else none
 else none
 else
 bif decide (List.length k10 = List.length k10) then
 bif decide (List.length n10 = List.length n10) then
 bif decide (List.length o10 = List.length o10) then
 bif decide (List.length w10 = List.length w10) then
 bif decide (List.length i11 = List.length i11) then
 Option.bind (p66 fu ((j10, k10, l10, m10, n10, o10, q10, s10, t10, u10, w10, x10, y10, z10, a11, c11, f11, h11, i11, j11, k11, l11, m11, n11, o11, q11, s11, t11, u11, w11, x11, y11, z11, a12, c12, f12, h12, i12, j12, k12, l12, m12, n12, (), o12, q12, s12, t12, u12, w12, x12, y12, (), z12, a13, c13, f13, h13, i13, j13, k13, l13, m13, n13, o13, q13, s13, t13, (), u13, (), w13, x13, y13, ()), ())) fun ⟨⟨⟨s17, t17, u17, w17, x17, y17, z17, a18, c18, f18, h18, i18, j18, k18, l18, m18, n18, o18, q18, s18, t18, u18, w18, x18, y18, z18, a19, c19, f19, h19, i19, j19, k19, l19, m19, n19, o19, q19, s19, t19, u19, w19, x19, y19, z19, a20, c20, f20, h20, i20, j20, k20, l20, m20, n20, o20, q20, s20, t20, u20, w20, x20, y20, z20, a21, c21, f21, h21, i21, j21, k21, l21, m21, n21, _⟩, _, _, _, _, _, _⟩, _⟩ =>
 bif decide (List.length t17 = List.length t17) then
 bif decide (List.length x17 = List.length x17) then
 bif decide (List.length y17 = List.length y17) then
 bif decide (List.length h18 = List.length h18) then
 bif decide (List.length q18 = List.length q18) then
 bif decide (List.length y19 = List.length y19) then
 bif decide (List.length l20 = List.length l20) then
 bif decide (List.length i21 = List.length i21) then
 bif decide (List.length k21 = List.length k21) then
 some (((s17, t17, u17, w17, x17, y17, z17, a18, c18, f18, h18, i18, j18, k18, l18, m18, n18, o18, q18, s18, t18, u18, w18, x18, y18, z18, a19, c19, f19, h19, i19, j19, k19, l19, m19, n19, o19, q19, s19, t19, u19, w19, x19, y19, z19, a20, c20, f20, h20, i20, j20, k20, l20, m20, n20, o20, q20, s20, t20, u20, w20, x20, y20, z20, a21, c21, f21, h21, i21, j21, k21, l21, m21, n21, ()), (), (), (), (), (), ()), (0 : Int))
 else none
 else none
 else none
 else none
 else none
 else none
 else none
 else none
 else none
 else none
 else none
 else none
 else none
 else none
 else none
 else none
 else none
 else none
 else none
 else none
 else none
 else none
 else none
 else none
 else
 bif decide (List.length c = List.length c) then
 bif decide (List.length i = List.length i) then
 bif decide (List.length j = List.length j) then
 bif decide (List.length o = List.length o) then
 bif decide (List.length z = List.length z) then
 some (((a, c, f, h, i, j, k, l, m, n, o, q, s, t, u, w, x, y, z, a0, c0, f0, h0, i0, j0, k0, l0, m0, n0, o0, IntKind.wrap .i64 (q0 + (1 : Int)), s0, t0, u0, w0, x0, y0, z0, a1, c1, f1, h1, i1, [], j1, k1, l1, m1, n1, o1, q1, s1, [], t1, u1, w1, x1, y1, z1, a2, c2, f2, h2, i2, j2, k2, l2, m2, [], n2, [], o2, q2, s2, ()), (), (), (), (), (), ()), (0 : Int))
 else none
 else none
 else none
 else none
 else none
def e44 (fu : Nat) : Ent := ⟨44, (.cons Y20 (.cons Y29 .nil)), (.cons Y27 (.cons .dead (.cons .dead (.cons .dead (.cons .dead (.cons .dead .nil)))))), (.hole (.int .i64)), p44 fu⟩
def d44 (fu : Nat) : DC := (.seq (.region [opD 3 (.box 50 32 (tD 1)), opD 4 (.mov (cD 0))] [[], []] false) (.seq (.seq (.region [mvD 5 0, opD 6 (.pure .nilc [(tD 5)]), opD 7 (.faddr 0 (tD 6)), opD 8 (.faddr 6 (tD 7)), opD 9 (.load false 1 (tD 8)), opD 10 (.not (tD 9))] [[], [0], [1], [2], [3], [4]] false) (.cond (.tmp 10) (.seq (.region [opD 4 (.mov (cD 0))] [[]] false) .ret) .skip)) (.seq (.seq (.region [mvD 11 0, opD 12 (.pure .nilc [(tD 11)]), opD 13 (.faddr 0 (tD 12)), opD 14 (.faddr 31 (tD 13)), opD 15 (.load false 1 (tD 14))] [[], [0], [1], [2], [3]] false) (.cond (.tmp 15) (.seq (.region [mvD 16 0, oqD 17 (.call 66 [(tD 16)]) (.ent (e66 fu))] [[], [0]] false) (.seq (.region [opD 4 (.mov (cD 0))] [[]] false) .ret)) .skip)) (.seq (.region [mvD 18 0, opD 19 (.pure .nilc [(tD 18)]), opD 20 (.faddr 0 (tD 19)), opD 21 (.faddr 30 (tD 20)), opD 22 (.load false 1 (tD 21)), opD 23 (.bin .add (tD 22) (cD 1)), opD 24 (.pure .nilc [(tD 18)]), opD 25 (.faddr 0 (tD 24)), opD 26 (.faddr 30 (tD 25)), onD (.store 1 (tD 26) (tD 23))] [[], [0], [1], [2], [3], [4], [0, 0, 1, 2, 3, 4, 5], [6, 0, 1, 2, 3, 4, 5], [7, 0, 1, 2, 3, 4, 5], [8, 5, 0, 1, 2, 3, 4, 5]] false) (.seq (.seq (.region [mvD 27 0, opD 28 (.pure .nilc [(tD 27)]), opD 29 (.faddr 0 (tD 28)), opD 30 (.faddr 30 (tD 29)), opD 31 (.load false 1 (tD 30)), opD 32 (.bin .geq (tD 31) (cD 12))] [[], [0], [1], [2], [3], [4]] false) (.cond (.tmp 32) (.seq (.region [mvD 33 0, oqD 34 (.call 74 [(tD 33)]) (.ent (e74 fu))] [[], [0]] false) (.seq (.region [mvD 35 0, oqD 36 (.call 75 [(tD 35)]) (.ent (e75 fu))] [[], [0]] false) (.seq (.region [mvD 37 0, opD 38 (.pure .nilc [(tD 37)]), opD 39 (.faddr 0 (tD 38)), opD 40 (.faddr 7 (tD 39)), opD 41 (.faddr 0 (tD 40)), opD 42 (.load false 1 (tD 41)), opD 43 (.bin .eql (tD 42) (cD 5))] [[], [0], [1], [2], [3], [4], [5]] false) (.cond (.tmp 43) (.region [mvD 44 0, oqD 45 (.call 72 [(tD 44)]) (.ent (e72 fu))] [[], [0]] false) (.region [mvD 46 0, oqD 47 (.call 66 [(tD 46)]) (.ent (e66 fu))] [[], [0]] false))))) .skip)) (.seq (.region [opD 4 (.mov (cD 0))] [[]] false) .ret))))))
set_option maxRecDepth 1000000 in
theorem v44 (fu : Nat) : evF fu (d44 fu) rs44 48 (e44 fu).ash (e44 fu).osh (e44 fu).vsh = p44 fu := by kernel_rfl
set_option maxRecDepth 1000000 in
theorem b44 (fu : Nat) : BodyD Try.prog 44 48 (d44 fu).erase rs44 := bodyD_mk Try.func44 (by kernel_rfl) (by kernel_rfl) (by kernel_rfl) (by kernel_rfl)
theorem g44 (fu : Nat) : (e44 fu).Good Try.prog := good_by orders (b44 fu) (l := [e66 fu, e74 fu, e75 fu, e72 fu, e66 fu]) (by kernel_rfl) ⟨g66 fu, g74 fu, g75 fu, g72 fu, g66 fu, trivial⟩ (by kernel_rfl) (v44 fu)
end Go.Proofs.Ytiiodikdbkpjjaa
