/-
  The functions, typed.
-/
import Derived.Test.YtnhniiannbimgaaDaN
import Derived.Test.YtnhniiannbimgaaRows
namespace Go.Proofs.Ytnhniiannbimgaa
set_option maxRecDepth 1000000
open Go.RowKit
abbrev T_api_Range:Tp := (.pair .str .str)
abbrev D_api_Range := (ByteArray)×(ByteArray)
abbrev T_api_Site:Tp := (.pair (.int .u64) (.int .i64))
abbrev D_api_Site := (Int)×(Int)
abbrev T_api_Record:Tp := (.pair (.int .u64) (.pair .str (.pair (.sl .any (.int .u8)) (.pair (.int .u64) (.int .u64)))))
abbrev D_api_Record := (Int)×((ByteArray)×((List (Int))×((Int)×(Int))))
abbrev T_api_Record_n:Tp := (.pair (.int .u64) (.pair .str (.pair (.sl .new (.int .u8)) (.pair (.int .u64) (.int .u64)))))
abbrev T_api_Record_s:Tp := (.pair (.int .u64) (.pair .str (.pair (.sl .saf (.int .u8)) (.pair (.int .u64) (.int .u64)))))
abbrev T_api_Shard:Tp := (.pair (.int .u64) (.pair T_api_Range (.pair (.int .u64) (.pair (.sl .any (.int .i64)) (.pair (.sl .any (.int .i64)) (.int .u64))))))
abbrev D_api_Shard := (Int)×((D_api_Range)×((Int)×((List (Int))×((List (Int))×(Int)))))
abbrev T_api_Shard_n:Tp := (.pair (.int .u64) (.pair T_api_Range (.pair (.int .u64) (.pair (.sl .new (.int .i64)) (.pair (.sl .new (.int .i64)) (.int .u64))))))
abbrev T_api_Shard_s:Tp := (.pair (.int .u64) (.pair T_api_Range (.pair (.int .u64) (.pair (.sl .saf (.int .i64)) (.pair (.sl .saf (.int .i64)) (.int .u64))))))
abbrev T_api_PartResult:Tp := (.pair (.int .i64) (.pair (.int .u64) (.pair .bool (.sl .any T_api_Record))))
abbrev D_api_PartResult := (Int)×((Int)×((Bool)×(List (D_api_Record))))
abbrev T_api_Topic:Tp := (.pair .str (.sl .any T_api_Shard))
abbrev D_api_Topic := (ByteArray)×(List (D_api_Shard))
abbrev T_api_Topic_n:Tp := (.pair .str (.sl .new T_api_Shard_n))
abbrev T_api_Topic_s:Tp := (.pair .str (.sl .saf T_api_Shard_s))
abbrev T_api_PlaceCommand:Tp := (.pair (.int .i64) (.pair (.int .u64) (.pair (.int .u64) (.pair .str (.pair (.sl .any (.int .i64)) (.pair (.int .u64) (.pair (.int .u64) (.pair .str (.pair (.int .i64) (.pair (.int .i64) T_api_Site))))))))))
abbrev D_api_PlaceCommand := (Int)×((Int)×((Int)×((ByteArray)×((List (Int))×((Int)×((Int)×((ByteArray)×((Int)×((Int)×(D_api_Site))))))))))
abbrev T_api_Reply:Tp := (.pair (.int .u64) (.pair (.int .i64) (.pair (.int .i64) (.pair T_api_PartResult (.pair (.int .u64) (.pair (.sl .any T_api_Shard) (.pair (.int .u64) (.pair (.int .u64) (.int .u64)))))))))
abbrev D_api_Reply := (Int)×((Int)×((Int)×((D_api_PartResult)×((Int)×((List (D_api_Shard))×((Int)×((Int)×(Int))))))))
abbrev T_api_Call:Tp := (.pair (.int .i64) (.pair .str (.pair .str (.pair (.sl .any (.int .u8)) (.pair (.int .u64) (.pair (.int .i64) (.pair .str T_api_PlaceCommand)))))))
abbrev D_api_Call := (Int)×((ByteArray)×((ByteArray)×((List (Int))×((Int)×((Int)×((ByteArray)×(D_api_PlaceCommand)))))))
abbrev T_api_ClientInput:Tp := (.pair (.int .i64) (.pair T_api_Call T_api_Reply))
abbrev D_api_ClientInput := (Int)×((D_api_Call)×(D_api_Reply))
theorem orders:Try.prog.follows .mixedOrders=true := by kernel_rfl
abbrev Z0:Type := (Int)×((List (Int))×((Int)×((Int)×((List (D_api_Topic))×((List (D_api_Site))×((Bool)×((Int)×((ByteArray)×((ByteArray)×((List (Int))×((Int)×((Int)×((ByteArray)×((Int)×((Int)×((Int)×((ByteArray)×((List (Int))×((Int)×((Int)×((ByteArray)×((Int)×((Int)×((Int)×((Int)×((Int)×((Bool)×((Int)×((Int)×((Int)×((Bool)×((Int)×((Bool)×((Int)×((Int)×((Int)×((Int)×((Int)×((Int)×((Int)×((Int)×((ByteArray)×((Unit)×((Int)×((Int)×((ByteArray)×((Int)×((Int)×((Int)×((Int)×((ByteArray)×((Unit)×((Int)×((Int)×((ByteArray)×((Int)×((Int)×((Int)×((Int)×((ByteArray)×((Bool)×((Int)×((Int)×((Int)×((Int)×((Int)×((Bool)×((Unit)×((Int)×((Unit)×((Int)×((Int)×((Int)×(Unit))))))))))))))))))))))))))))))))))))))))))))))))))))))))))))))))))))))))))
abbrev Z1:Type := (Bool)×(((Unit)×(Unit))×((Bool)×(((Unit)×(Unit))×((Bool)×(((Unit)×(Unit))×(Unit))))))
abbrev Z2:Type := (Int)×((Int)×((Int)×((Int)×((Int)×((Int)×((Int)×((ByteArray)×((List (Int))×((Int)×((Int)×((ByteArray)×((Int)×((Int)×((Int)×((Int)×((ByteArray)×((List (Int))×((Int)×((Int)×((ByteArray)×((Int)×((Int)×((Int)×((Int)×((ByteArray)×(Unit))))))))))))))))))))))))))
abbrev Z3:Type := (Int)×((List (Int))×((Int)×((Int)×((List (D_api_Topic))×((List (D_api_Site))×((Bool)×((Int)×((ByteArray)×((ByteArray)×((List (Int))×((Int)×((Int)×((ByteArray)×((Int)×((Int)×((Int)×((ByteArray)×((List (Int))×((Int)×((Int)×((ByteArray)×((Int)×((Int)×((Int)×((Int)×((Int)×((Bool)×((Int)×((Int)×((Int)×((Bool)×((Int)×((Bool)×((Int)×((Int)×((Int)×((Int)×((Int)×((Int)×((Int)×((Int)×((ByteArray)×((List (Int))×((Int)×((Int)×((ByteArray)×((Int)×((Int)×((Int)×((Int)×((ByteArray)×((List (Int))×((Int)×((Int)×((ByteArray)×((Int)×((Int)×((Int)×((Int)×((ByteArray)×((Bool)×((Int)×((Int)×((Int)×((Int)×((Int)×((Bool)×((List (D_api_Record))×((Int)×((List (D_api_Shard))×((Int)×((Int)×((Int)×(Unit))))))))))))))))))))))))))))))))))))))))))))))))))))))))))))))))))))))))))
abbrev Z4:Type := (Int)×((Int)×((ByteArray)×((ByteArray)×((List (Int))×((Int)×((Int)×((ByteArray)×((Int)×((Int)×((Int)×((ByteArray)×((List (Int))×((Int)×((Int)×((ByteArray)×((Int)×((Int)×((Int)×((Int)×((Int)×((Int)×((Int)×((Int)×((Int)×((Bool)×((List (D_api_Record))×((Int)×((List (D_api_Shard))×((Int)×((Int)×((Int)×(Unit))))))))))))))))))))))))))))))))
abbrev Z5:Type := (Bool)×((Int)×((Int)×((Int)×((Int)×((Int)×((Int)×((Int)×((Int)×((ByteArray)×((List (Int))×((Int)×((Int)×((ByteArray)×((Int)×((Int)×((Int)×((Int)×((ByteArray)×((List (Int))×((Int)×((Int)×((ByteArray)×((Int)×((Int)×((Int)×((Int)×((ByteArray)×((Bool)×((Int)×((Int)×((Int)×((Int)×((Int)×((Bool)×((List (D_api_Record))×((Int)×((List (D_api_Shard))×((Int)×((Int)×((Int)×(Unit)))))))))))))))))))))))))))))))))))))))))
abbrev Z6:Type := (Int)×((List (Int))×((Int)×((Int)×((List (D_api_Topic))×((List (D_api_Site))×((Bool)×((Int)×((ByteArray)×((ByteArray)×((List (Int))×((Int)×((Int)×((ByteArray)×((Int)×((Int)×((Int)×((ByteArray)×((List (Int))×((Int)×((Int)×((ByteArray)×((Int)×((Int)×((Int)×((Int)×((Int)×((Bool)×((Int)×((Int)×((Int)×((Bool)×((Int)×(Unit)))))))))))))))))))))))))))))))))
abbrev Y7:Sh := (.agg 33 (.cons (.hole (.int .i64)) (.cons (.own .own 3 (.int .i64)) (.cons (.hole (.int .u64)) (.cons (.hole (.int .u64)) (.cons (.hole (.sl .new T_api_Topic_n)) (.cons (.hole (.sl .new T_api_Site)) (.cons (.hole .bool) (.cons (.hole (.int .i64)) (.cons (.hole .str) (.cons (.hole .str) (.cons (.hole (.sl .new (.int .u8))) (.cons (.hole (.int .u64)) (.cons (.hole (.int .i64)) (.cons (.hole .str) (.cons (.hole (.int .i64)) (.cons (.hole (.int .u64)) (.cons (.hole (.int .u64)) (.cons (.hole .str) (.cons (.hole (.sl .new (.int .i64))) (.cons (.hole (.int .u64)) (.cons (.hole (.int .u64)) (.cons (.hole .str) (.cons (.hole (.int .i64)) (.cons (.hole (.int .i64)) (.cons (.hole (.int .u64)) (.cons (.hole (.int .i64)) (.cons (.hole (.int .u64)) (.cons (.hole .bool) (.cons (.hole (.int .u64)) (.cons (.hole (.int .i64)) (.cons (.hole (.int .i64)) (.cons (.hole .bool) (.cons (.hole (.int .i64)) .nil))))))))))))))))))))))))))))))))))
abbrev Z8:Type := (Int)×((ByteArray)×((ByteArray)×((Int)×((List (Int))×((List (Int))×((Int)×(Unit)))))))
abbrev Y9:Sh := (.agg 7 (.cons (.hole (.int .u64)) (.cons (.hole .str) (.cons (.hole .str) (.cons (.hole (.int .u64)) (.cons (.hole (.sl .saf (.int .i64))) (.cons (.hole (.sl .saf (.int .i64))) (.cons (.hole (.int .u64)) .nil))))))))
abbrev Y10:Sh := (.agg 7 (.cons (.hole (.int .u64)) (.cons (.hole .str) (.cons (.hole .str) (.cons (.hole (.int .u64)) (.cons (.own .own 3 (.int .i64)) (.cons (.own .own 3 (.int .i64)) (.cons (.hole (.int .u64)) .nil))))))))
abbrev Z11:Type := (Int)×((Int)×((Int)×((ByteArray)×((List (Int))×((Int)×((Int)×((ByteArray)×((Int)×((Int)×((Int)×((Int)×(Unit))))))))))))
abbrev Y12:Sh := (.agg 12 (.cons (.hole (.int .i64)) (.cons (.hole (.int .u64)) (.cons (.hole (.int .u64)) (.cons (.hole .str) (.cons (.hole (.sl .saf (.int .i64))) (.cons (.hole (.int .u64)) (.cons (.hole (.int .u64)) (.cons (.hole .str) (.cons (.hole (.int .i64)) (.cons (.hole (.int .i64)) (.cons (.hole (.int .u64)) (.cons (.hole (.int .i64)) .nil)))))))))))))
abbrev Y13:Sh := (.agg 12 (.cons (.hole (.int .i64)) (.cons (.hole (.int .u64)) (.cons (.hole (.int .u64)) (.cons (.hole .str) (.cons (.own .own 3 (.int .i64)) (.cons (.hole (.int .u64)) (.cons (.hole (.int .u64)) (.cons (.hole .str) (.cons (.hole (.int .i64)) (.cons (.hole (.int .i64)) (.cons (.hole (.int .u64)) (.cons (.hole (.int .i64)) .nil)))))))))))))
abbrev Z14:Type := (Int)×((ByteArray)×((ByteArray)×((List (Int))×((Int)×((Int)×((ByteArray)×((Int)×((Int)×((Int)×((ByteArray)×((List (Int))×((Int)×((Int)×((ByteArray)×((Int)×((Int)×((Int)×((Int)×(Unit)))))))))))))))))))
abbrev Y15:Sh := (.agg 19 (.cons (.hole (.int .i64)) (.cons (.hole .str) (.cons (.hole .str) (.cons (.hole (.sl .saf (.int .u8))) (.cons (.hole (.int .u64)) (.cons (.hole (.int .i64)) (.cons (.hole .str) (.cons (.hole (.int .i64)) (.cons (.hole (.int .u64)) (.cons (.hole (.int .u64)) (.cons (.hole .str) (.cons (.hole (.sl .saf (.int .i64))) (.cons (.hole (.int .u64)) (.cons (.hole (.int .u64)) (.cons (.hole .str) (.cons (.hole (.int .i64)) (.cons (.hole (.int .i64)) (.cons (.hole (.int .u64)) (.cons (.hole (.int .i64)) .nil))))))))))))))))))))
abbrev Y16:Sh := (.agg 19 (.cons (.hole (.int .i64)) (.cons (.hole .str) (.cons (.hole .str) (.cons (.own .own 5 (.int .u8)) (.cons (.hole (.int .u64)) (.cons (.hole (.int .i64)) (.cons (.hole .str) (.cons (.hole (.int .i64)) (.cons (.hole (.int .u64)) (.cons (.hole (.int .u64)) (.cons (.hole .str) (.cons (.own .own 3 (.int .i64)) (.cons (.hole (.int .u64)) (.cons (.hole (.int .u64)) (.cons (.hole .str) (.cons (.hole (.int .i64)) (.cons (.hole (.int .i64)) (.cons (.hole (.int .u64)) (.cons (.hole (.int .i64)) .nil))))))))))))))))))))
abbrev Y17:Sh := (.agg 33 (.cons (.hole (.int .i64)) (.cons (.hole (.sl .any (.int .i64))) (.cons (.hole (.int .u64)) (.cons (.hole (.int .u64)) (.cons (.hole (.sl .saf T_api_Topic_s)) (.cons (.hole (.sl .saf T_api_Site)) (.cons (.hole .bool) (.cons (.hole (.int .i64)) (.cons (.hole .str) (.cons (.hole .str) (.cons (.hole (.sl .saf (.int .u8))) (.cons (.hole (.int .u64)) (.cons (.hole (.int .i64)) (.cons (.hole .str) (.cons (.hole (.int .i64)) (.cons (.hole (.int .u64)) (.cons (.hole (.int .u64)) (.cons (.hole .str) (.cons (.hole (.sl .saf (.int .i64))) (.cons (.hole (.int .u64)) (.cons (.hole (.int .u64)) (.cons (.hole .str) (.cons (.hole (.int .i64)) (.cons (.hole (.int .i64)) (.cons (.hole (.int .u64)) (.cons (.hole (.int .i64)) (.cons (.hole (.int .u64)) (.cons (.hole .bool) (.cons (.hole (.int .u64)) (.cons (.hole (.int .i64)) (.cons (.hole (.int .i64)) (.cons (.hole .bool) (.cons (.hole (.int .i64)) .nil))))))))))))))))))))))))))))))))))
abbrev Y18:Sh := (.agg 33 (.cons (.hole (.int .i64)) (.cons (.own .own 3 (.int .i64)) (.cons (.hole (.int .u64)) (.cons (.hole (.int .u64)) (.cons (.own .own 72 T_api_Topic_n) (.cons (.own .own 88 T_api_Site) (.cons (.hole .bool) (.cons (.hole (.int .i64)) (.cons (.hole .str) (.cons (.hole .str) (.cons (.own .own 5 (.int .u8)) (.cons (.hole (.int .u64)) (.cons (.hole (.int .i64)) (.cons (.hole .str) (.cons (.hole (.int .i64)) (.cons (.hole (.int .u64)) (.cons (.hole (.int .u64)) (.cons (.hole .str) (.cons (.own .own 3 (.int .i64)) (.cons (.hole (.int .u64)) (.cons (.hole (.int .u64)) (.cons (.hole .str) (.cons (.hole (.int .i64)) (.cons (.hole (.int .i64)) (.cons (.hole (.int .u64)) (.cons (.hole (.int .i64)) (.cons (.hole (.int .u64)) (.cons (.hole .bool) (.cons (.hole (.int .u64)) (.cons (.hole (.int .i64)) (.cons (.hole (.int .i64)) (.cons (.hole .bool) (.cons (.hole (.int .i64)) .nil))))))))))))))))))))))))))))))))))
abbrev Y19:Sh := (.agg 19 (.cons (.hole (.int .i64)) (.cons (.hole .str) (.cons (.hole .str) (.cons (.hole (.sl .any (.int .u8))) (.cons (.hole (.int .u64)) (.cons (.hole (.int .i64)) (.cons (.hole .str) (.cons (.hole (.int .i64)) (.cons (.hole (.int .u64)) (.cons (.hole (.int .u64)) (.cons (.hole .str) (.cons (.hole (.sl .any (.int .i64))) (.cons (.hole (.int .u64)) (.cons (.hole (.int .u64)) (.cons (.hole .str) (.cons (.hole (.int .i64)) (.cons (.hole (.int .i64)) (.cons (.hole (.int .u64)) (.cons (.hole (.int .i64)) .nil))))))))))))))))))))
abbrev Y20:Sh := (.agg 12 (.cons (.hole (.int .i64)) (.cons (.hole (.int .u64)) (.cons (.hole (.int .u64)) (.cons (.hole .str) (.cons (.hole (.sl .any (.int .i64))) (.cons (.hole (.int .u64)) (.cons (.hole (.int .u64)) (.cons (.hole .str) (.cons (.hole (.int .i64)) (.cons (.hole (.int .i64)) (.cons (.hole (.int .u64)) (.cons (.hole (.int .i64)) .nil)))))))))))))
abbrev Y21:Sh := (.agg 5 (.cons (.hole (.int .u64)) (.cons (.hole .str) (.cons (.hole (.sl .saf (.int .u8))) (.cons (.hole (.int .u64)) (.cons (.hole (.int .u64)) .nil))))))
abbrev Y22:Sh := (.agg 5 (.cons (.hole (.int .u64)) (.cons (.hole .str) (.cons (.hole (.sl .new (.int .u8))) (.cons (.hole (.int .u64)) (.cons (.hole (.int .u64)) .nil))))))
abbrev Z23:Type := (Int)×((Int)×((Int)×((Int)×((Int)×((Bool)×((List (D_api_Record))×((Int)×((List (D_api_Shard))×((Int)×((Int)×((Int)×(Unit))))))))))))
abbrev Y24:Sh := (.agg 12 (.cons (.hole (.int .u64)) (.cons (.hole (.int .i64)) (.cons (.hole (.int .i64)) (.cons (.hole (.int .i64)) (.cons (.hole (.int .u64)) (.cons (.hole .bool) (.cons (.hole (.sl .saf T_api_Record_s)) (.cons (.hole (.int .u64)) (.cons (.hole (.sl .saf T_api_Shard_s)) (.cons (.hole (.int .u64)) (.cons (.hole (.int .u64)) (.cons (.hole (.int .u64)) .nil)))))))))))))
abbrev Y25:Sh := (.agg 12 (.cons (.hole (.int .u64)) (.cons (.hole (.int .i64)) (.cons (.hole (.int .i64)) (.cons (.hole (.int .i64)) (.cons (.hole (.int .u64)) (.cons (.hole .bool) (.cons (.own .own 133 T_api_Record_n) (.cons (.hole (.int .u64)) (.cons (.own .own 66 T_api_Shard_n) (.cons (.hole (.int .u64)) (.cons (.hole (.int .u64)) (.cons (.hole (.int .u64)) .nil)))))))))))))
abbrev Z26:Type := (Int)×((List (Int))×((Int)×((Int)×((List (D_api_Topic))×((List (D_api_Site))×((Bool)×((Int)×((ByteArray)×((ByteArray)×((Unit)×((Int)×((Int)×((ByteArray)×((Int)×((Int)×((Int)×((ByteArray)×((Unit)×((Int)×((Int)×((ByteArray)×((Int)×((Int)×((Int)×((Int)×((Int)×((Bool)×((Int)×((Int)×((Int)×((Bool)×((Int)×((Bool)×((Int)×((Int)×((Int)×((Int)×((Int)×((Int)×((Int)×((Int)×((ByteArray)×((Unit)×((Int)×((Int)×((ByteArray)×((Int)×((Int)×((Int)×((Int)×((ByteArray)×((Unit)×((Int)×((Int)×((ByteArray)×((Int)×((Int)×((Int)×((Int)×((ByteArray)×((Bool)×((Int)×((Int)×((Int)×((Int)×((Int)×((Bool)×((List (D_api_Record))×((Int)×((List (D_api_Shard))×((Int)×((Int)×((Int)×(Unit))))))))))))))))))))))))))))))))))))))))))))))))))))))))))))))))))))))))))
abbrev Y27:Sh := (.box 75 74 (.cons (.hole (.int .i64)) (.cons (.own .own 3 (.int .i64)) (.cons (.hole (.int .u64)) (.cons (.hole (.int .u64)) (.cons (.own .own 72 T_api_Topic_n) (.cons (.own .own 88 T_api_Site) (.cons (.hole .bool) (.cons (.hole (.int .i64)) (.cons (.hole .str) (.cons (.hole .str) (.cons (.own .own 5 (.int .u8)) (.cons (.hole (.int .u64)) (.cons (.hole (.int .i64)) (.cons (.hole .str) (.cons (.hole (.int .i64)) (.cons (.hole (.int .u64)) (.cons (.hole (.int .u64)) (.cons (.hole .str) (.cons (.own .own 3 (.int .i64)) (.cons (.hole (.int .u64)) (.cons (.hole (.int .u64)) (.cons (.hole .str) (.cons (.hole (.int .i64)) (.cons (.hole (.int .i64)) (.cons (.hole (.int .u64)) (.cons (.hole (.int .i64)) (.cons (.hole (.int .u64)) (.cons (.hole .bool) (.cons (.hole (.int .u64)) (.cons (.hole (.int .i64)) (.cons (.hole (.int .i64)) (.cons (.hole .bool) (.cons (.hole (.int .i64)) (.cons (.hole .bool) (.cons (.hole (.int .i64)) (.cons (.hole (.int .u64)) (.cons (.hole (.int .i64)) (.cons (.hole (.int .u64)) (.cons (.hole (.int .i64)) (.cons (.hole (.int .u64)) (.cons (.hole (.int .u64)) (.cons (.hole (.int .u64)) (.cons (.hole .str) (.cons .nils (.cons (.hole (.int .u64)) (.cons (.hole (.int .i64)) (.cons (.hole .str) (.cons (.hole (.int .u64)) (.cons (.hole (.int .i64)) (.cons (.hole (.int .u64)) (.cons (.hole (.int .u64)) (.cons (.hole .str) (.cons .nils (.cons (.hole (.int .u64)) (.cons (.hole (.int .u64)) (.cons (.hole .str) (.cons (.hole (.int .i64)) (.cons (.hole (.int .i64)) (.cons (.hole (.int .u64)) (.cons (.hole (.int .i64)) (.cons (.hole .str) (.cons (.hole .bool) (.cons (.hole (.int .u64)) (.cons (.hole (.int .i64)) (.cons (.hole (.int .i64)) (.cons (.hole (.int .i64)) (.cons (.hole (.int .u64)) (.cons (.hole .bool) (.cons .nils (.cons (.hole (.int .u64)) (.cons .nils (.cons (.hole (.int .u64)) (.cons (.hole (.int .u64)) (.cons (.hole (.int .u64)) .nil)))))))))))))))))))))))))))))))))))))))))))))))))))))))))))))))))))))))))))
abbrev Y28:Sh := (.agg 74 (.cons (.hole (.int .i64)) (.cons (.own .own 3 (.int .i64)) (.cons (.hole (.int .u64)) (.cons (.hole (.int .u64)) (.cons (.own .own 72 T_api_Topic_n) (.cons (.own .own 88 T_api_Site) (.cons (.hole .bool) (.cons (.hole (.int .i64)) (.cons (.hole .str) (.cons (.hole .str) (.cons .nils (.cons (.hole (.int .u64)) (.cons (.hole (.int .i64)) (.cons (.hole .str) (.cons (.hole (.int .i64)) (.cons (.hole (.int .u64)) (.cons (.hole (.int .u64)) (.cons (.hole .str) (.cons .nils (.cons (.hole (.int .u64)) (.cons (.hole (.int .u64)) (.cons (.hole .str) (.cons (.hole (.int .i64)) (.cons (.hole (.int .i64)) (.cons (.hole (.int .u64)) (.cons (.hole (.int .i64)) (.cons (.hole (.int .u64)) (.cons (.hole .bool) (.cons (.hole (.int .u64)) (.cons (.hole (.int .i64)) (.cons (.hole (.int .i64)) (.cons (.hole .bool) (.cons (.hole (.int .i64)) (.cons (.hole .bool) (.cons (.hole (.int .i64)) (.cons (.hole (.int .u64)) (.cons (.hole (.int .i64)) (.cons (.hole (.int .u64)) (.cons (.hole (.int .i64)) (.cons (.hole (.int .u64)) (.cons (.hole (.int .u64)) (.cons (.hole (.int .u64)) (.cons (.hole .str) (.cons .nils (.cons (.hole (.int .u64)) (.cons (.hole (.int .i64)) (.cons (.hole .str) (.cons (.hole (.int .u64)) (.cons (.hole (.int .i64)) (.cons (.hole (.int .u64)) (.cons (.hole (.int .u64)) (.cons (.hole .str) (.cons .nils (.cons (.hole (.int .u64)) (.cons (.hole (.int .u64)) (.cons (.hole .str) (.cons (.hole (.int .i64)) (.cons (.hole (.int .i64)) (.cons (.hole (.int .u64)) (.cons (.hole (.int .i64)) (.cons (.hole .str) (.cons (.hole .bool) (.cons (.hole (.int .u64)) (.cons (.hole (.int .i64)) (.cons (.hole (.int .i64)) (.cons (.hole (.int .i64)) (.cons (.hole (.int .u64)) (.cons (.hole .bool) (.cons (.own .own 133 T_api_Record_n) (.cons (.hole (.int .u64)) (.cons (.own .own 66 T_api_Shard_n) (.cons (.hole (.int .u64)) (.cons (.hole (.int .u64)) (.cons (.hole (.int .u64)) .nil)))))))))))))))))))))))))))))))))))))))))))))))))))))))))))))))))))))))))))
abbrev Y29:Sh := (.agg 74 (.cons (.hole (.int .i64)) (.cons (.own .own 3 (.int .i64)) (.cons (.hole (.int .u64)) (.cons (.hole (.int .u64)) (.cons (.own .own 72 T_api_Topic_n) (.cons (.own .own 88 T_api_Site) (.cons (.hole .bool) (.cons (.hole (.int .i64)) (.cons (.hole .str) (.cons (.hole .str) (.cons (.own .own 5 (.int .u8)) (.cons (.hole (.int .u64)) (.cons (.hole (.int .i64)) (.cons (.hole .str) (.cons (.hole (.int .i64)) (.cons (.hole (.int .u64)) (.cons (.hole (.int .u64)) (.cons (.hole .str) (.cons (.own .own 3 (.int .i64)) (.cons (.hole (.int .u64)) (.cons (.hole (.int .u64)) (.cons (.hole .str) (.cons (.hole (.int .i64)) (.cons (.hole (.int .i64)) (.cons (.hole (.int .u64)) (.cons (.hole (.int .i64)) (.cons (.hole (.int .u64)) (.cons (.hole .bool) (.cons (.hole (.int .u64)) (.cons (.hole (.int .i64)) (.cons (.hole (.int .i64)) (.cons (.hole .bool) (.cons (.hole (.int .i64)) (.cons (.hole .bool) (.cons (.hole (.int .i64)) (.cons (.hole (.int .u64)) (.cons (.hole (.int .i64)) (.cons (.hole (.int .u64)) (.cons (.hole (.int .i64)) (.cons (.hole (.int .u64)) (.cons (.hole (.int .u64)) (.cons (.hole (.int .u64)) (.cons (.hole .str) (.cons .nils (.cons (.hole (.int .u64)) (.cons (.hole (.int .i64)) (.cons (.hole .str) (.cons (.hole (.int .u64)) (.cons (.hole (.int .i64)) (.cons (.hole (.int .u64)) (.cons (.hole (.int .u64)) (.cons (.hole .str) (.cons .nils (.cons (.hole (.int .u64)) (.cons (.hole (.int .u64)) (.cons (.hole .str) (.cons (.hole (.int .i64)) (.cons (.hole (.int .i64)) (.cons (.hole (.int .u64)) (.cons (.hole (.int .i64)) (.cons (.hole .str) (.cons (.hole .bool) (.cons (.hole (.int .u64)) (.cons (.hole (.int .i64)) (.cons (.hole (.int .i64)) (.cons (.hole (.int .i64)) (.cons (.hole (.int .u64)) (.cons (.hole .bool) (.cons .nils (.cons (.hole (.int .u64)) (.cons .nils (.cons (.hole (.int .u64)) (.cons (.hole (.int .u64)) (.cons (.hole (.int .u64)) .nil)))))))))))))))))))))))))))))))))))))))))))))))))))))))))))))))))))))))))))
abbrev Y30:Sh := (.agg 7 (.cons (.hole (.int .u64)) (.cons (.hole .str) (.cons (.hole .str) (.cons (.hole (.int .u64)) (.cons (.hole (.sl .new (.int .i64))) (.cons (.hole (.sl .new (.int .i64))) (.cons (.hole (.int .u64)) .nil))))))))
abbrev Y31:Sh := (.agg 10 (.cons (.hole (.int .i64)) (.cons (.hole (.int .u64)) (.cons (.hole (.int .u64)) (.cons (.hole (.int .u64)) (.cons (.hole .str) (.cons (.own .own 5 (.int .u8)) (.cons (.hole (.int .u64)) (.cons (.hole (.int .i64)) (.cons (.hole .str) (.cons (.hole (.int .u64)) .nil)))))))))))
abbrev Y32:Sh := (.agg 26 (.cons (.hole (.int .u64)) (.cons (.hole (.int .i64)) (.cons (.hole (.int .u64)) (.cons (.hole (.int .i64)) (.cons (.hole (.int .u64)) (.cons (.hole (.int .u64)) (.cons (.hole (.int .u64)) (.cons (.hole .str) (.cons (.own .own 5 (.int .u8)) (.cons (.hole (.int .u64)) (.cons (.hole (.int .i64)) (.cons (.hole .str) (.cons (.hole (.int .u64)) (.cons (.hole (.int .i64)) (.cons (.hole (.int .u64)) (.cons (.hole (.int .u64)) (.cons (.hole .str) (.cons (.own .own 3 (.int .i64)) (.cons (.hole (.int .u64)) (.cons (.hole (.int .u64)) (.cons (.hole .str) (.cons (.hole (.int .i64)) (.cons (.hole (.int .i64)) (.cons (.hole (.int .u64)) (.cons (.hole (.int .i64)) (.cons (.hole .str) .nil)))))))))))))))))))))))))))
abbrev Y33:Sh := (.agg 74 (.cons (.hole (.int .i64)) (.cons (.own .own 3 (.int .i64)) (.cons (.hole (.int .u64)) (.cons (.hole (.int .u64)) (.cons (.own .own 72 T_api_Topic_n) (.cons (.own .own 88 T_api_Site) (.cons (.hole .bool) (.cons (.hole (.int .i64)) (.cons (.hole .str) (.cons (.hole .str) (.cons (.own .own 5 (.int .u8)) (.cons (.hole (.int .u64)) (.cons (.hole (.int .i64)) (.cons (.hole .str) (.cons (.hole (.int .i64)) (.cons (.hole (.int .u64)) (.cons (.hole (.int .u64)) (.cons (.hole .str) (.cons (.own .own 3 (.int .i64)) (.cons (.hole (.int .u64)) (.cons (.hole (.int .u64)) (.cons (.hole .str) (.cons (.hole (.int .i64)) (.cons (.hole (.int .i64)) (.cons (.hole (.int .u64)) (.cons (.hole (.int .i64)) (.cons (.hole (.int .u64)) (.cons (.hole .bool) (.cons (.hole (.int .u64)) (.cons (.hole (.int .i64)) (.cons (.hole (.int .i64)) (.cons (.hole .bool) (.cons (.hole (.int .i64)) (.cons (.hole .bool) (.cons (.hole (.int .i64)) (.cons (.hole (.int .u64)) (.cons (.hole (.int .i64)) (.cons (.hole (.int .u64)) (.cons (.hole (.int .i64)) (.cons (.hole (.int .u64)) (.cons (.hole (.int .u64)) (.cons (.hole (.int .u64)) (.cons (.hole .str) (.cons (.own .own 5 (.int .u8)) (.cons (.hole (.int .u64)) (.cons (.hole (.int .i64)) (.cons (.hole .str) (.cons (.hole (.int .u64)) (.cons (.hole (.int .i64)) (.cons (.hole (.int .u64)) (.cons (.hole (.int .u64)) (.cons (.hole .str) (.cons (.own .own 3 (.int .i64)) (.cons (.hole (.int .u64)) (.cons (.hole (.int .u64)) (.cons (.hole .str) (.cons (.hole (.int .i64)) (.cons (.hole (.int .i64)) (.cons (.hole (.int .u64)) (.cons (.hole (.int .i64)) (.cons (.hole .str) (.cons (.hole .bool) (.cons (.hole (.int .u64)) (.cons (.hole (.int .i64)) (.cons (.hole (.int .i64)) (.cons (.hole (.int .i64)) (.cons (.hole (.int .u64)) (.cons (.hole .bool) (.cons (.own .own 133 T_api_Record_n) (.cons (.hole (.int .u64)) (.cons (.own .own 66 T_api_Shard_n) (.cons (.hole (.int .u64)) (.cons (.hole (.int .u64)) (.cons (.hole (.int .u64)) .nil)))))))))))))))))))))))))))))))))))))))))))))))))))))))))))))))))))))))))))
abbrev Y34:Sh := (.agg 32 (.cons (.hole (.int .i64)) (.cons (.hole (.int .i64)) (.cons (.hole .str) (.cons (.hole .str) (.cons (.hole (.sl .any (.int .u8))) (.cons (.hole (.int .u64)) (.cons (.hole (.int .i64)) (.cons (.hole .str) (.cons (.hole (.int .i64)) (.cons (.hole (.int .u64)) (.cons (.hole (.int .u64)) (.cons (.hole .str) (.cons (.hole (.sl .any (.int .i64))) (.cons (.hole (.int .u64)) (.cons (.hole (.int .u64)) (.cons (.hole .str) (.cons (.hole (.int .i64)) (.cons (.hole (.int .i64)) (.cons (.hole (.int .u64)) (.cons (.hole (.int .i64)) (.cons (.hole (.int .u64)) (.cons (.hole (.int .i64)) (.cons (.hole (.int .i64)) (.cons (.hole (.int .i64)) (.cons (.hole (.int .u64)) (.cons (.hole .bool) (.cons (.hole (.sl .any T_api_Record)) (.cons (.hole (.int .u64)) (.cons (.hole (.sl .any T_api_Shard)) (.cons (.hole (.int .u64)) (.cons (.hole (.int .u64)) (.cons (.hole (.int .u64)) .nil)))))))))))))))))))))))))))))))))
abbrev Y35:Sh := (.agg 7 (.cons (.hole (.int .u64)) (.cons (.hole .str) (.cons (.hole .str) (.cons (.hole (.int .u64)) (.cons (.hole (.sl .any (.int .i64))) (.cons (.hole (.sl .any (.int .i64))) (.cons (.hole (.int .u64)) .nil))))))))
abbrev Y36:Sh := (.agg 5 (.cons (.hole (.int .u64)) (.cons (.hole .str) (.cons (.hole (.sl .any (.int .u8))) (.cons (.hole (.int .u64)) (.cons (.hole (.int .u64)) .nil))))))
abbrev Y37:Sh := (.agg 12 (.cons (.hole (.int .u64)) (.cons (.hole (.int .i64)) (.cons (.hole (.int .i64)) (.cons (.hole (.int .i64)) (.cons (.hole (.int .u64)) (.cons (.hole .bool) (.cons (.hole (.sl .any T_api_Record)) (.cons (.hole (.int .u64)) (.cons (.hole (.sl .any T_api_Shard)) (.cons (.hole (.int .u64)) (.cons (.hole (.int .u64)) (.cons (.hole (.int .u64)) .nil)))))))))))))
abbrev Y38:Sh := (.box 75 74 (.cons (.hole (.int .i64)) (.cons (.own .own 3 (.int .i64)) (.cons (.hole (.int .u64)) (.cons (.hole (.int .u64)) (.cons (.own .own 72 T_api_Topic_s) (.cons (.own .own 88 T_api_Site) (.cons (.hole .bool) (.cons (.hole (.int .i64)) (.cons (.hole .str) (.cons (.hole .str) (.cons (.own .own 5 (.int .u8)) (.cons (.hole (.int .u64)) (.cons (.hole (.int .i64)) (.cons (.hole .str) (.cons (.hole (.int .i64)) (.cons (.hole (.int .u64)) (.cons (.hole (.int .u64)) (.cons (.hole .str) (.cons (.own .own 3 (.int .i64)) (.cons (.hole (.int .u64)) (.cons (.hole (.int .u64)) (.cons (.hole .str) (.cons (.hole (.int .i64)) (.cons (.hole (.int .i64)) (.cons (.hole (.int .u64)) (.cons (.hole (.int .i64)) (.cons (.hole (.int .u64)) (.cons (.hole .bool) (.cons (.hole (.int .u64)) (.cons (.hole (.int .i64)) (.cons (.hole (.int .i64)) (.cons (.hole .bool) (.cons (.hole (.int .i64)) (.cons (.hole .bool) (.cons (.hole (.int .i64)) (.cons (.hole (.int .u64)) (.cons (.hole (.int .i64)) (.cons (.hole (.int .u64)) (.cons (.hole (.int .i64)) (.cons (.hole (.int .u64)) (.cons (.hole (.int .u64)) (.cons (.hole (.int .u64)) (.cons (.hole .str) (.cons .nils (.cons (.hole (.int .u64)) (.cons (.hole (.int .i64)) (.cons (.hole .str) (.cons (.hole (.int .u64)) (.cons (.hole (.int .i64)) (.cons (.hole (.int .u64)) (.cons (.hole (.int .u64)) (.cons (.hole .str) (.cons .nils (.cons (.hole (.int .u64)) (.cons (.hole (.int .u64)) (.cons (.hole .str) (.cons (.hole (.int .i64)) (.cons (.hole (.int .i64)) (.cons (.hole (.int .u64)) (.cons (.hole (.int .i64)) (.cons (.hole .str) (.cons (.hole .bool) (.cons (.hole (.int .u64)) (.cons (.hole (.int .i64)) (.cons (.hole (.int .i64)) (.cons (.hole (.int .i64)) (.cons (.hole (.int .u64)) (.cons (.hole .bool) (.cons .nils (.cons (.hole (.int .u64)) (.cons .nils (.cons (.hole (.int .u64)) (.cons (.hole (.int .u64)) (.cons (.hole (.int .u64)) .nil)))))))))))))))))))))))))))))))))))))))))))))))))))))))))))))))))))))))))))
abbrev Y39:Sh := (.agg 74 (.cons (.hole (.int .i64)) (.cons (.own .own 3 (.int .i64)) (.cons (.hole (.int .u64)) (.cons (.hole (.int .u64)) (.cons (.own .own 72 T_api_Topic_s) (.cons (.own .own 88 T_api_Site) (.cons (.hole .bool) (.cons (.hole (.int .i64)) (.cons (.hole .str) (.cons (.hole .str) (.cons (.own .own 5 (.int .u8)) (.cons (.hole (.int .u64)) (.cons (.hole (.int .i64)) (.cons (.hole .str) (.cons (.hole (.int .i64)) (.cons (.hole (.int .u64)) (.cons (.hole (.int .u64)) (.cons (.hole .str) (.cons (.own .own 3 (.int .i64)) (.cons (.hole (.int .u64)) (.cons (.hole (.int .u64)) (.cons (.hole .str) (.cons (.hole (.int .i64)) (.cons (.hole (.int .i64)) (.cons (.hole (.int .u64)) (.cons (.hole (.int .i64)) (.cons (.hole (.int .u64)) (.cons (.hole .bool) (.cons (.hole (.int .u64)) (.cons (.hole (.int .i64)) (.cons (.hole (.int .i64)) (.cons (.hole .bool) (.cons (.hole (.int .i64)) (.cons (.hole .bool) (.cons (.hole (.int .i64)) (.cons (.hole (.int .u64)) (.cons (.hole (.int .i64)) (.cons (.hole (.int .u64)) (.cons (.hole (.int .i64)) (.cons (.hole (.int .u64)) (.cons (.hole (.int .u64)) (.cons (.hole (.int .u64)) (.cons (.hole .str) (.cons .nils (.cons (.hole (.int .u64)) (.cons (.hole (.int .i64)) (.cons (.hole .str) (.cons (.hole (.int .u64)) (.cons (.hole (.int .i64)) (.cons (.hole (.int .u64)) (.cons (.hole (.int .u64)) (.cons (.hole .str) (.cons .nils (.cons (.hole (.int .u64)) (.cons (.hole (.int .u64)) (.cons (.hole .str) (.cons (.hole (.int .i64)) (.cons (.hole (.int .i64)) (.cons (.hole (.int .u64)) (.cons (.hole (.int .i64)) (.cons (.hole .str) (.cons (.hole .bool) (.cons (.hole (.int .u64)) (.cons (.hole (.int .i64)) (.cons (.hole (.int .i64)) (.cons (.hole (.int .i64)) (.cons (.hole (.int .u64)) (.cons (.hole .bool) (.cons .nils (.cons (.hole (.int .u64)) (.cons .nils (.cons (.hole (.int .u64)) (.cons (.hole (.int .u64)) (.cons (.hole (.int .u64)) .nil)))))))))))))))))))))))))))))))))))))))))))))))))))))))))))))))))))))))))))
abbrev Y40:Sh := (.agg 74 (.cons (.hole (.int .i64)) (.cons (.own .own 3 (.int .i64)) (.cons (.hole (.int .u64)) (.cons (.hole (.int .u64)) (.cons (.hole (.sl .new T_api_Topic_s)) (.cons (.own .own 88 T_api_Site) (.cons (.hole .bool) (.cons (.hole (.int .i64)) (.cons (.hole .str) (.cons (.hole .str) (.cons (.own .own 5 (.int .u8)) (.cons (.hole (.int .u64)) (.cons (.hole (.int .i64)) (.cons (.hole .str) (.cons (.hole (.int .i64)) (.cons (.hole (.int .u64)) (.cons (.hole (.int .u64)) (.cons (.hole .str) (.cons (.own .own 3 (.int .i64)) (.cons (.hole (.int .u64)) (.cons (.hole (.int .u64)) (.cons (.hole .str) (.cons (.hole (.int .i64)) (.cons (.hole (.int .i64)) (.cons (.hole (.int .u64)) (.cons (.hole (.int .i64)) (.cons (.hole (.int .u64)) (.cons (.hole .bool) (.cons (.hole (.int .u64)) (.cons (.hole (.int .i64)) (.cons (.hole (.int .i64)) (.cons (.hole .bool) (.cons (.hole (.int .i64)) (.cons (.hole .bool) (.cons (.hole (.int .i64)) (.cons (.hole (.int .u64)) (.cons (.hole (.int .i64)) (.cons (.hole (.int .u64)) (.cons (.hole (.int .i64)) (.cons (.hole (.int .u64)) (.cons (.hole (.int .u64)) (.cons (.hole (.int .u64)) (.cons (.hole .str) (.cons (.own .own 5 (.int .u8)) (.cons (.hole (.int .u64)) (.cons (.hole (.int .i64)) (.cons (.hole .str) (.cons (.hole (.int .u64)) (.cons (.hole (.int .i64)) (.cons (.hole (.int .u64)) (.cons (.hole (.int .u64)) (.cons (.hole .str) (.cons (.own .own 3 (.int .i64)) (.cons (.hole (.int .u64)) (.cons (.hole (.int .u64)) (.cons (.hole .str) (.cons (.hole (.int .i64)) (.cons (.hole (.int .i64)) (.cons (.hole (.int .u64)) (.cons (.hole (.int .i64)) (.cons (.hole .str) (.cons (.hole .bool) (.cons (.hole (.int .u64)) (.cons (.hole (.int .i64)) (.cons (.hole (.int .i64)) (.cons (.hole (.int .i64)) (.cons (.hole (.int .u64)) (.cons (.hole .bool) (.cons (.own .own 133 T_api_Record_n) (.cons (.hole (.int .u64)) (.cons (.own .own 66 T_api_Shard_n) (.cons (.hole (.int .u64)) (.cons (.hole (.int .u64)) (.cons (.hole (.int .u64)) .nil)))))))))))))))))))))))))))))))))))))))))))))))))))))))))))))))))))))))))))
abbrev Y41:Sh := (.agg 32 (.cons (.hole (.int .i64)) (.cons (.hole (.int .i64)) (.cons (.hole .str) (.cons (.hole .str) (.cons (.hole (.sl .any (.int .u8))) (.cons (.hole (.int .u64)) (.cons (.hole (.int .i64)) (.cons (.hole .str) (.cons (.hole (.int .i64)) (.cons (.hole (.int .u64)) (.cons (.hole (.int .u64)) (.cons (.hole .str) (.cons (.hole (.sl .any (.int .i64))) (.cons (.hole (.int .u64)) (.cons (.hole (.int .u64)) (.cons (.hole .str) (.cons (.hole (.int .i64)) (.cons (.hole (.int .i64)) (.cons (.hole (.int .u64)) (.cons (.hole (.int .i64)) (.cons (.hole (.int .u64)) (.cons (.hole (.int .i64)) (.cons (.hole (.int .i64)) (.cons (.hole (.int .i64)) (.cons (.hole (.int .u64)) (.cons (.hole .bool) (.cons (.hole (.sl .any T_api_Record_s)) (.cons (.hole (.int .u64)) (.cons (.hole (.sl .any T_api_Shard_s)) (.cons (.hole (.int .u64)) (.cons (.hole (.int .u64)) (.cons (.hole (.int .u64)) .nil)))))))))))))))))))))))))))))))))
abbrev Y42:Sh := (.agg 33 (.cons (.hole (.int .i64)) (.cons (.own .own 3 (.int .i64)) (.cons (.hole (.int .u64)) (.cons (.hole (.int .u64)) (.cons (.hole (.sl .new T_api_Topic_s)) (.cons (.own .own 88 T_api_Site) (.cons (.hole .bool) (.cons (.hole (.int .i64)) (.cons (.hole .str) (.cons (.hole .str) (.cons (.own .own 5 (.int .u8)) (.cons (.hole (.int .u64)) (.cons (.hole (.int .i64)) (.cons (.hole .str) (.cons (.hole (.int .i64)) (.cons (.hole (.int .u64)) (.cons (.hole (.int .u64)) (.cons (.hole .str) (.cons (.own .own 3 (.int .i64)) (.cons (.hole (.int .u64)) (.cons (.hole (.int .u64)) (.cons (.hole .str) (.cons (.hole (.int .i64)) (.cons (.hole (.int .i64)) (.cons (.hole (.int .u64)) (.cons (.hole (.int .i64)) (.cons (.hole (.int .u64)) (.cons (.hole .bool) (.cons (.hole (.int .u64)) (.cons (.hole (.int .i64)) (.cons (.hole (.int .i64)) (.cons (.hole .bool) (.cons (.hole (.int .i64)) .nil))))))))))))))))))))))))))))))))))
abbrev Y43:Sh := (.agg 41 (.cons (.hole .bool) (.cons (.hole (.int .i64)) (.cons (.hole (.int .u64)) (.cons (.hole (.int .i64)) (.cons (.hole (.int .u64)) (.cons (.hole (.int .i64)) (.cons (.hole (.int .u64)) (.cons (.hole (.int .u64)) (.cons (.hole (.int .u64)) (.cons (.hole .str) (.cons (.own .own 5 (.int .u8)) (.cons (.hole (.int .u64)) (.cons (.hole (.int .i64)) (.cons (.hole .str) (.cons (.hole (.int .u64)) (.cons (.hole (.int .i64)) (.cons (.hole (.int .u64)) (.cons (.hole (.int .u64)) (.cons (.hole .str) (.cons (.own .own 3 (.int .i64)) (.cons (.hole (.int .u64)) (.cons (.hole (.int .u64)) (.cons (.hole .str) (.cons (.hole (.int .i64)) (.cons (.hole (.int .i64)) (.cons (.hole (.int .u64)) (.cons (.hole (.int .i64)) (.cons (.hole .str) (.cons (.hole .bool) (.cons (.hole (.int .u64)) (.cons (.hole (.int .i64)) (.cons (.hole (.int .i64)) (.cons (.hole (.int .i64)) (.cons (.hole (.int .u64)) (.cons (.hole .bool) (.cons (.own .own 133 T_api_Record_n) (.cons (.hole (.int .u64)) (.cons (.own .own 66 T_api_Shard_n) (.cons (.hole (.int .u64)) (.cons (.hole (.int .u64)) (.cons (.hole (.int .u64)) .nil))))))))))))))))))))))))))))))))))))))))))
abbrev Y44:Sh := (.agg 33 (.cons (.hole (.int .i64)) (.cons (.hole (.sl .any (.int .i64))) (.cons (.hole (.int .u64)) (.cons (.hole (.int .u64)) (.cons (.hole (.sl .any T_api_Topic)) (.cons (.hole (.sl .any T_api_Site)) (.cons (.hole .bool) (.cons (.hole (.int .i64)) (.cons (.hole .str) (.cons (.hole .str) (.cons (.hole (.sl .any (.int .u8))) (.cons (.hole (.int .u64)) (.cons (.hole (.int .i64)) (.cons (.hole .str) (.cons (.hole (.int .i64)) (.cons (.hole (.int .u64)) (.cons (.hole (.int .u64)) (.cons (.hole .str) (.cons (.hole (.sl .any (.int .i64))) (.cons (.hole (.int .u64)) (.cons (.hole (.int .u64)) (.cons (.hole .str) (.cons (.hole (.int .i64)) (.cons (.hole (.int .i64)) (.cons (.hole (.int .u64)) (.cons (.hole (.int .i64)) (.cons (.hole (.int .u64)) (.cons (.hole .bool) (.cons (.hole (.int .u64)) (.cons (.hole (.int .i64)) (.cons (.hole (.int .i64)) (.cons (.hole .bool) (.cons (.hole (.int .i64)) .nil))))))))))))))))))))))))))))))))))
abbrev Y45:Sh := (.agg 32 (.cons (.hole (.int .i64)) (.cons (.hole (.int .i64)) (.cons (.hole .str) (.cons (.hole .str) (.cons (.hole (.sl .any (.int .u8))) (.cons (.hole (.int .u64)) (.cons (.hole (.int .i64)) (.cons (.hole .str) (.cons (.hole (.int .i64)) (.cons (.hole (.int .u64)) (.cons (.hole (.int .u64)) (.cons (.hole .str) (.cons (.hole (.sl .any (.int .i64))) (.cons (.hole (.int .u64)) (.cons (.hole (.int .u64)) (.cons (.hole .str) (.cons (.hole (.int .i64)) (.cons (.hole (.int .i64)) (.cons (.hole (.int .u64)) (.cons (.hole (.int .i64)) (.cons (.hole (.int .u64)) (.cons (.hole (.int .i64)) (.cons (.hole (.int .i64)) (.cons (.hole (.int .i64)) (.cons (.hole (.int .u64)) (.cons (.hole .bool) (.cons (.hole (.sl .any T_api_Record)) (.cons (.hole (.int .u64)) (.cons (.hole (.sl .any T_api_Shard_s)) (.cons (.hole (.int .u64)) (.cons (.hole (.int .u64)) (.cons (.hole (.int .u64)) .nil)))))))))))))))))))))))))))))))))
abbrev Y46:Sh := (.box 80 74 (.cons (.hole (.int .i64)) (.cons (.own .own 3 (.int .i64)) (.cons (.hole (.int .u64)) (.cons (.hole (.int .u64)) (.cons (.own .own 72 T_api_Topic_n) (.cons (.own .own 88 T_api_Site) (.cons (.hole .bool) (.cons (.hole (.int .i64)) (.cons (.hole .str) (.cons (.hole .str) (.cons (.own .own 5 (.int .u8)) (.cons (.hole (.int .u64)) (.cons (.hole (.int .i64)) (.cons (.hole .str) (.cons (.hole (.int .i64)) (.cons (.hole (.int .u64)) (.cons (.hole (.int .u64)) (.cons (.hole .str) (.cons (.own .own 3 (.int .i64)) (.cons (.hole (.int .u64)) (.cons (.hole (.int .u64)) (.cons (.hole .str) (.cons (.hole (.int .i64)) (.cons (.hole (.int .i64)) (.cons (.hole (.int .u64)) (.cons (.hole (.int .i64)) (.cons (.hole (.int .u64)) (.cons (.hole .bool) (.cons (.hole (.int .u64)) (.cons (.hole (.int .i64)) (.cons (.hole (.int .i64)) (.cons (.hole .bool) (.cons (.hole (.int .i64)) (.cons (.hole .bool) (.cons (.hole (.int .i64)) (.cons (.hole (.int .u64)) (.cons (.hole (.int .i64)) (.cons (.hole (.int .u64)) (.cons (.hole (.int .i64)) (.cons (.hole (.int .u64)) (.cons (.hole (.int .u64)) (.cons (.hole (.int .u64)) (.cons (.hole .str) (.cons .nils (.cons (.hole (.int .u64)) (.cons (.hole (.int .i64)) (.cons (.hole .str) (.cons (.hole (.int .u64)) (.cons (.hole (.int .i64)) (.cons (.hole (.int .u64)) (.cons (.hole (.int .u64)) (.cons (.hole .str) (.cons .nils (.cons (.hole (.int .u64)) (.cons (.hole (.int .u64)) (.cons (.hole .str) (.cons (.hole (.int .i64)) (.cons (.hole (.int .i64)) (.cons (.hole (.int .u64)) (.cons (.hole (.int .i64)) (.cons (.hole .str) (.cons (.hole .bool) (.cons (.hole (.int .u64)) (.cons (.hole (.int .i64)) (.cons (.hole (.int .i64)) (.cons (.hole (.int .i64)) (.cons (.hole (.int .u64)) (.cons (.hole .bool) (.cons .nils (.cons (.hole (.int .u64)) (.cons .nils (.cons (.hole (.int .u64)) (.cons (.hole (.int .u64)) (.cons (.hole (.int .u64)) .nil)))))))))))))))))))))))))))))))))))))))))))))))))))))))))))))))))))))))))))
abbrev Y47:Sh := (.agg 74 (.cons (.hole (.int .i64)) (.cons (.own .own 3 (.int .i64)) (.cons (.hole (.int .u64)) (.cons (.hole (.int .u64)) (.cons (.own .own 72 T_api_Topic_n) (.cons (.own .own 88 T_api_Site) (.cons (.hole .bool) (.cons (.hole (.int .i64)) (.cons (.hole .str) (.cons (.hole .str) (.cons .nils (.cons (.hole (.int .u64)) (.cons (.hole (.int .i64)) (.cons (.hole .str) (.cons (.hole (.int .i64)) (.cons (.hole (.int .u64)) (.cons (.hole (.int .u64)) (.cons (.hole .str) (.cons .nils (.cons (.hole (.int .u64)) (.cons (.hole (.int .u64)) (.cons (.hole .str) (.cons (.hole (.int .i64)) (.cons (.hole (.int .i64)) (.cons (.hole (.int .u64)) (.cons (.hole (.int .i64)) (.cons (.hole (.int .u64)) (.cons (.hole .bool) (.cons (.hole (.int .u64)) (.cons (.hole (.int .i64)) (.cons (.hole (.int .i64)) (.cons (.hole .bool) (.cons (.hole (.int .i64)) (.cons (.hole .bool) (.cons (.hole (.int .i64)) (.cons (.hole (.int .u64)) (.cons (.hole (.int .i64)) (.cons (.hole (.int .u64)) (.cons (.hole (.int .i64)) (.cons (.hole (.int .u64)) (.cons (.hole (.int .u64)) (.cons (.hole (.int .u64)) (.cons (.hole .str) (.cons .nils (.cons (.hole (.int .u64)) (.cons (.hole (.int .i64)) (.cons (.hole .str) (.cons (.hole (.int .u64)) (.cons (.hole (.int .i64)) (.cons (.hole (.int .u64)) (.cons (.hole (.int .u64)) (.cons (.hole .str) (.cons .nils (.cons (.hole (.int .u64)) (.cons (.hole (.int .u64)) (.cons (.hole .str) (.cons (.hole (.int .i64)) (.cons (.hole (.int .i64)) (.cons (.hole (.int .u64)) (.cons (.hole (.int .i64)) (.cons (.hole .str) (.cons (.hole .bool) (.cons (.hole (.int .u64)) (.cons (.hole (.int .i64)) (.cons (.hole (.int .i64)) (.cons (.hole (.int .i64)) (.cons (.hole (.int .u64)) (.cons (.hole .bool) (.cons (.hole (.sl .any T_api_Record)) (.cons (.hole (.int .u64)) (.cons (.hole (.sl .any T_api_Shard)) (.cons (.hole (.int .u64)) (.cons (.hole (.int .u64)) (.cons (.hole (.int .u64)) .nil)))))))))))))))))))))))))))))))))))))))))))))))))))))))))))))))))))))))))))
abbrev Z48:Type := (Int)×((Int)×((Int)×((Int)×((Int)×((Bool)×((Unit)×((Int)×((Unit)×((Int)×((Int)×((Int)×(Unit))))))))))))
abbrev Z49:Type := (Int)×((List (Int))×((Int)×((Int)×((List (D_api_Topic))×((List (D_api_Site))×((Bool)×((Int)×((ByteArray)×((ByteArray)×((Unit)×((Int)×((Int)×((ByteArray)×((Int)×((Int)×((Int)×((ByteArray)×((Unit)×((Int)×((Int)×((ByteArray)×((Int)×((Int)×((Int)×((Int)×((Int)×((Bool)×((Int)×((Int)×((Int)×((Bool)×((Int)×((Bool)×((Int)×((Int)×((Int)×((Int)×((Int)×((Int)×((Int)×((Int)×((ByteArray)×((Unit)×((Int)×((Int)×((ByteArray)×((Int)×((Int)×((Int)×((Int)×((ByteArray)×((Unit)×((Int)×((Int)×((ByteArray)×((Int)×((Int)×((Int)×((Int)×((ByteArray)×((Bool)×((Int)×((Int)×((Int)×((Int)×((Int)×((Bool)×((Unit)×((Int)×((Unit)×((Int)×((Int)×((Int)×(Unit))))))))))))))))))))))))))))))))))))))))))))))))))))))))))))))))))))))))))
abbrev Y50:Sh := (.agg 12 (.cons (.hole (.int .u64)) (.cons (.hole (.int .i64)) (.cons (.hole (.int .i64)) (.cons (.hole (.int .i64)) (.cons (.hole (.int .u64)) (.cons (.hole .bool) (.cons .nils (.cons (.hole (.int .u64)) (.cons .nils (.cons (.hole (.int .u64)) (.cons (.hole (.int .u64)) (.cons (.hole (.int .u64)) .nil)))))))))))))
abbrev Y51:Sh := (.agg 74 (.cons (.hole (.int .i64)) (.cons (.own .own 3 (.int .i64)) (.cons (.hole (.int .u64)) (.cons (.hole (.int .u64)) (.cons (.own .own 72 T_api_Topic_n) (.cons (.own .own 88 T_api_Site) (.cons (.hole .bool) (.cons (.hole (.int .i64)) (.cons (.hole .str) (.cons (.hole .str) (.cons .nils (.cons (.hole (.int .u64)) (.cons (.hole (.int .i64)) (.cons (.hole .str) (.cons (.hole (.int .i64)) (.cons (.hole (.int .u64)) (.cons (.hole (.int .u64)) (.cons (.hole .str) (.cons .nils (.cons (.hole (.int .u64)) (.cons (.hole (.int .u64)) (.cons (.hole .str) (.cons (.hole (.int .i64)) (.cons (.hole (.int .i64)) (.cons (.hole (.int .u64)) (.cons (.hole (.int .i64)) (.cons (.hole (.int .u64)) (.cons (.hole .bool) (.cons (.hole (.int .u64)) (.cons (.hole (.int .i64)) (.cons (.hole (.int .i64)) (.cons (.hole .bool) (.cons (.hole (.int .i64)) (.cons (.hole .bool) (.cons (.hole (.int .i64)) (.cons (.hole (.int .u64)) (.cons (.hole (.int .i64)) (.cons (.hole (.int .u64)) (.cons (.hole (.int .i64)) (.cons (.hole (.int .u64)) (.cons (.hole (.int .u64)) (.cons (.hole (.int .u64)) (.cons (.hole .str) (.cons .nils (.cons (.hole (.int .u64)) (.cons (.hole (.int .i64)) (.cons (.hole .str) (.cons (.hole (.int .u64)) (.cons (.hole (.int .i64)) (.cons (.hole (.int .u64)) (.cons (.hole (.int .u64)) (.cons (.hole .str) (.cons .nils (.cons (.hole (.int .u64)) (.cons (.hole (.int .u64)) (.cons (.hole .str) (.cons (.hole (.int .i64)) (.cons (.hole (.int .i64)) (.cons (.hole (.int .u64)) (.cons (.hole (.int .i64)) (.cons (.hole .str) (.cons (.hole .bool) (.cons (.hole (.int .u64)) (.cons (.hole (.int .i64)) (.cons (.hole (.int .i64)) (.cons (.hole (.int .i64)) (.cons (.hole (.int .u64)) (.cons (.hole .bool) (.cons .nils (.cons (.hole (.int .u64)) (.cons .nils (.cons (.hole (.int .u64)) (.cons (.hole (.int .u64)) (.cons (.hole (.int .u64)) .nil)))))))))))))))))))))))))))))))))))))))))))))))))))))))))))))))))))))))))))
abbrev Y52:Sh := (.box 80 74 (.cons (.hole (.int .i64)) (.cons (.hole (.sl .new (.int .i64))) (.cons (.hole (.int .u64)) (.cons (.hole (.int .u64)) (.cons (.hole (.sl .new T_api_Topic_n)) (.cons (.hole (.sl .new T_api_Site)) (.cons (.hole .bool) (.cons (.hole (.int .i64)) (.cons (.hole .str) (.cons (.hole .str) (.cons (.hole (.sl .new (.int .u8))) (.cons (.hole (.int .u64)) (.cons (.hole (.int .i64)) (.cons (.hole .str) (.cons (.hole (.int .i64)) (.cons (.hole (.int .u64)) (.cons (.hole (.int .u64)) (.cons (.hole .str) (.cons (.hole (.sl .new (.int .i64))) (.cons (.hole (.int .u64)) (.cons (.hole (.int .u64)) (.cons (.hole .str) (.cons (.hole (.int .i64)) (.cons (.hole (.int .i64)) (.cons (.hole (.int .u64)) (.cons (.hole (.int .i64)) (.cons (.hole (.int .u64)) (.cons (.hole .bool) (.cons (.hole (.int .u64)) (.cons (.hole (.int .i64)) (.cons (.hole (.int .i64)) (.cons (.hole .bool) (.cons (.hole (.int .i64)) (.cons (.hole .bool) (.cons (.hole (.int .i64)) (.cons (.hole (.int .u64)) (.cons (.hole (.int .i64)) (.cons (.hole (.int .u64)) (.cons (.hole (.int .i64)) (.cons (.hole (.int .u64)) (.cons (.hole (.int .u64)) (.cons (.hole (.int .u64)) (.cons (.hole .str) (.cons .nils (.cons (.hole (.int .u64)) (.cons (.hole (.int .i64)) (.cons (.hole .str) (.cons (.hole (.int .u64)) (.cons (.hole (.int .i64)) (.cons (.hole (.int .u64)) (.cons (.hole (.int .u64)) (.cons (.hole .str) (.cons .nils (.cons (.hole (.int .u64)) (.cons (.hole (.int .u64)) (.cons (.hole .str) (.cons (.hole (.int .i64)) (.cons (.hole (.int .i64)) (.cons (.hole (.int .u64)) (.cons (.hole (.int .i64)) (.cons (.hole .str) (.cons (.hole .bool) (.cons (.hole (.int .u64)) (.cons (.hole (.int .i64)) (.cons (.hole (.int .i64)) (.cons (.hole (.int .i64)) (.cons (.hole (.int .u64)) (.cons (.hole .bool) (.cons .nils (.cons (.hole (.int .u64)) (.cons .nils (.cons (.hole (.int .u64)) (.cons (.hole (.int .u64)) (.cons (.hole (.int .u64)) .nil)))))))))))))))))))))))))))))))))))))))))))))))))))))))))))))))))))))))))))
abbrev Y53:Sh := (.agg 74 (.cons (.hole (.int .i64)) (.cons (.hole (.sl .new (.int .i64))) (.cons (.hole (.int .u64)) (.cons (.hole (.int .u64)) (.cons (.hole (.sl .new T_api_Topic_n)) (.cons (.hole (.sl .new T_api_Site)) (.cons (.hole .bool) (.cons (.hole (.int .i64)) (.cons (.hole .str) (.cons (.hole .str) (.cons (.hole (.sl .new (.int .u8))) (.cons (.hole (.int .u64)) (.cons (.hole (.int .i64)) (.cons (.hole .str) (.cons (.hole (.int .i64)) (.cons (.hole (.int .u64)) (.cons (.hole (.int .u64)) (.cons (.hole .str) (.cons (.hole (.sl .new (.int .i64))) (.cons (.hole (.int .u64)) (.cons (.hole (.int .u64)) (.cons (.hole .str) (.cons (.hole (.int .i64)) (.cons (.hole (.int .i64)) (.cons (.hole (.int .u64)) (.cons (.hole (.int .i64)) (.cons (.hole (.int .u64)) (.cons (.hole .bool) (.cons (.hole (.int .u64)) (.cons (.hole (.int .i64)) (.cons (.hole (.int .i64)) (.cons (.hole .bool) (.cons (.hole (.int .i64)) (.cons (.hole .bool) (.cons (.hole (.int .i64)) (.cons (.hole (.int .u64)) (.cons (.hole (.int .i64)) (.cons (.hole (.int .u64)) (.cons (.hole (.int .i64)) (.cons (.hole (.int .u64)) (.cons (.hole (.int .u64)) (.cons (.hole (.int .u64)) (.cons (.hole .str) (.cons .nils (.cons (.hole (.int .u64)) (.cons (.hole (.int .i64)) (.cons (.hole .str) (.cons (.hole (.int .u64)) (.cons (.hole (.int .i64)) (.cons (.hole (.int .u64)) (.cons (.hole (.int .u64)) (.cons (.hole .str) (.cons .nils (.cons (.hole (.int .u64)) (.cons (.hole (.int .u64)) (.cons (.hole .str) (.cons (.hole (.int .i64)) (.cons (.hole (.int .i64)) (.cons (.hole (.int .u64)) (.cons (.hole (.int .i64)) (.cons (.hole .str) (.cons (.hole .bool) (.cons (.hole (.int .u64)) (.cons (.hole (.int .i64)) (.cons (.hole (.int .i64)) (.cons (.hole (.int .i64)) (.cons (.hole (.int .u64)) (.cons (.hole .bool) (.cons .nils (.cons (.hole (.int .u64)) (.cons .nils (.cons (.hole (.int .u64)) (.cons (.hole (.int .u64)) (.cons (.hole (.int .u64)) .nil)))))))))))))))))))))))))))))))))))))))))))))))))))))))))))))))))))))))))))
abbrev Z54:Type := (Int)×((List (Int))×((Int)×((Int)×((List (D_api_Topic))×((List (D_api_Site))×((Bool)×((Int)×((ByteArray)×((ByteArray)×((List (Int))×((Int)×((Int)×((ByteArray)×((Int)×((Int)×((Int)×((ByteArray)×((List (Int))×((Int)×((Int)×((ByteArray)×((Int)×((Int)×((Int)×((Int)×((Int)×((Bool)×((Int)×((Int)×((Int)×((Bool)×((Int)×((Bool)×((Int)×((Int)×((Int)×((Int)×((Int)×((Int)×((Int)×((Int)×((ByteArray)×((List (Int))×((Int)×((Int)×((ByteArray)×((Int)×((Int)×((Int)×((Int)×((ByteArray)×((List (Int))×((Int)×((Int)×((ByteArray)×((Int)×((Int)×((Int)×((Int)×((ByteArray)×((Bool)×((Int)×((Int)×((Int)×((Int)×((Int)×((Bool)×((Unit)×((Int)×((Unit)×((Int)×((Int)×((Int)×(Unit))))))))))))))))))))))))))))))))))))))))))))))))))))))))))))))))))))))))))
abbrev Y55:Sh := (.agg 74 (.cons (.hole (.int .i64)) (.cons (.hole (.sl .new (.int .i64))) (.cons (.hole (.int .u64)) (.cons (.hole (.int .u64)) (.cons (.hole (.sl .new T_api_Topic_n)) (.cons (.hole (.sl .new T_api_Site)) (.cons (.hole .bool) (.cons (.hole (.int .i64)) (.cons (.hole .str) (.cons (.hole .str) (.cons (.hole (.sl .new (.int .u8))) (.cons (.hole (.int .u64)) (.cons (.hole (.int .i64)) (.cons (.hole .str) (.cons (.hole (.int .i64)) (.cons (.hole (.int .u64)) (.cons (.hole (.int .u64)) (.cons (.hole .str) (.cons (.hole (.sl .new (.int .i64))) (.cons (.hole (.int .u64)) (.cons (.hole (.int .u64)) (.cons (.hole .str) (.cons (.hole (.int .i64)) (.cons (.hole (.int .i64)) (.cons (.hole (.int .u64)) (.cons (.hole (.int .i64)) (.cons (.hole (.int .u64)) (.cons (.hole .bool) (.cons (.hole (.int .u64)) (.cons (.hole (.int .i64)) (.cons (.hole (.int .i64)) (.cons (.hole .bool) (.cons (.hole (.int .i64)) (.cons (.hole .bool) (.cons (.hole (.int .i64)) (.cons (.hole (.int .u64)) (.cons (.hole (.int .i64)) (.cons (.hole (.int .u64)) (.cons (.hole (.int .i64)) (.cons (.hole (.int .u64)) (.cons (.hole (.int .u64)) (.cons (.hole (.int .u64)) (.cons (.hole .str) (.cons (.own .own 5 (.int .u8)) (.cons (.hole (.int .u64)) (.cons (.hole (.int .i64)) (.cons (.hole .str) (.cons (.hole (.int .u64)) (.cons (.hole (.int .i64)) (.cons (.hole (.int .u64)) (.cons (.hole (.int .u64)) (.cons (.hole .str) (.cons (.own .own 3 (.int .i64)) (.cons (.hole (.int .u64)) (.cons (.hole (.int .u64)) (.cons (.hole .str) (.cons (.hole (.int .i64)) (.cons (.hole (.int .i64)) (.cons (.hole (.int .u64)) (.cons (.hole (.int .i64)) (.cons (.hole .str) (.cons (.hole .bool) (.cons (.hole (.int .u64)) (.cons (.hole (.int .i64)) (.cons (.hole (.int .i64)) (.cons (.hole (.int .i64)) (.cons (.hole (.int .u64)) (.cons (.hole .bool) (.cons .nils (.cons (.hole (.int .u64)) (.cons .nils (.cons (.hole (.int .u64)) (.cons (.hole (.int .u64)) (.cons (.hole (.int .u64)) .nil)))))))))))))))))))))))))))))))))))))))))))))))))))))))))))))))))))))))))))
abbrev Y56:Sh := (.agg 74 (.cons (.hole (.int .i64)) (.cons (.hole (.sl .new (.int .i64))) (.cons (.hole (.int .u64)) (.cons (.hole (.int .u64)) (.cons (.hole (.sl .new T_api_Topic_n)) (.cons (.hole (.sl .new T_api_Site)) (.cons (.hole .bool) (.cons (.hole (.int .i64)) (.cons (.hole .str) (.cons (.hole .str) (.cons (.hole (.sl .new (.int .u8))) (.cons (.hole (.int .u64)) (.cons (.hole (.int .i64)) (.cons (.hole .str) (.cons (.hole (.int .i64)) (.cons (.hole (.int .u64)) (.cons (.hole (.int .u64)) (.cons (.hole .str) (.cons (.hole (.sl .new (.int .i64))) (.cons (.hole (.int .u64)) (.cons (.hole (.int .u64)) (.cons (.hole .str) (.cons (.hole (.int .i64)) (.cons (.hole (.int .i64)) (.cons (.hole (.int .u64)) (.cons (.hole (.int .i64)) (.cons (.hole (.int .u64)) (.cons (.hole .bool) (.cons (.hole (.int .u64)) (.cons (.hole (.int .i64)) (.cons (.hole (.int .i64)) (.cons (.hole .bool) (.cons (.hole (.int .i64)) (.cons (.hole .bool) (.cons (.hole (.int .i64)) (.cons (.hole (.int .u64)) (.cons (.hole (.int .i64)) (.cons (.hole (.int .u64)) (.cons (.hole (.int .i64)) (.cons (.hole (.int .u64)) (.cons (.hole (.int .u64)) (.cons (.hole (.int .u64)) (.cons (.hole .str) (.cons (.own .own 5 (.int .u8)) (.cons (.hole (.int .u64)) (.cons (.hole (.int .i64)) (.cons (.hole .str) (.cons (.hole (.int .u64)) (.cons (.hole (.int .i64)) (.cons (.hole (.int .u64)) (.cons (.hole (.int .u64)) (.cons (.hole .str) (.cons (.own .own 3 (.int .i64)) (.cons (.hole (.int .u64)) (.cons (.hole (.int .u64)) (.cons (.hole .str) (.cons (.hole (.int .i64)) (.cons (.hole (.int .i64)) (.cons (.hole (.int .u64)) (.cons (.hole (.int .i64)) (.cons (.hole .str) (.cons (.hole .bool) (.cons (.hole (.int .u64)) (.cons (.hole (.int .i64)) (.cons (.hole (.int .i64)) (.cons (.hole (.int .i64)) (.cons (.hole (.int .u64)) (.cons (.hole .bool) (.cons (.hole (.sl .any T_api_Record)) (.cons (.hole (.int .u64)) (.cons (.hole (.sl .any T_api_Shard)) (.cons (.hole (.int .u64)) (.cons (.hole (.int .u64)) (.cons (.hole (.int .u64)) .nil)))))))))))))))))))))))))))))))))))))))))))))))))))))))))))))))))))))))))))
abbrev Y57:Sh := (.agg 41 (.cons (.hole .bool) (.cons (.hole (.int .i64)) (.cons (.hole (.int .u64)) (.cons (.hole (.int .i64)) (.cons (.hole (.int .u64)) (.cons (.hole (.int .i64)) (.cons (.hole (.int .u64)) (.cons (.hole (.int .u64)) (.cons (.hole (.int .u64)) (.cons (.hole .str) (.cons (.own .own 5 (.int .u8)) (.cons (.hole (.int .u64)) (.cons (.hole (.int .i64)) (.cons (.hole .str) (.cons (.hole (.int .u64)) (.cons (.hole (.int .i64)) (.cons (.hole (.int .u64)) (.cons (.hole (.int .u64)) (.cons (.hole .str) (.cons (.own .own 3 (.int .i64)) (.cons (.hole (.int .u64)) (.cons (.hole (.int .u64)) (.cons (.hole .str) (.cons (.hole (.int .i64)) (.cons (.hole (.int .i64)) (.cons (.hole (.int .u64)) (.cons (.hole (.int .i64)) (.cons (.hole .str) (.cons (.hole .bool) (.cons (.hole (.int .u64)) (.cons (.hole (.int .i64)) (.cons (.hole (.int .i64)) (.cons (.hole (.int .i64)) (.cons (.hole (.int .u64)) (.cons (.hole .bool) (.cons (.hole (.sl .any T_api_Record)) (.cons (.hole (.int .u64)) (.cons (.hole (.sl .any T_api_Shard)) (.cons (.hole (.int .u64)) (.cons (.hole (.int .u64)) (.cons (.hole (.int .u64)) .nil))))))))))))))))))))))))))))))))))))))))))
abbrev Z58:Type := (Int)×((Int)×((Int)×((Int)×((ByteArray)×((List (Int))×((Int)×((Int)×((ByteArray)×((Int)×(Unit))))))))))
abbrev Y59:Sh := (.agg 10 (.cons (.hole (.int .i64)) (.cons (.hole (.int .u64)) (.cons (.hole (.int .u64)) (.cons (.hole (.int .u64)) (.cons (.hole .str) (.cons (.hole (.sl .any (.int .u8))) (.cons (.hole (.int .u64)) (.cons (.hole (.int .i64)) (.cons (.hole .str) (.cons (.hole (.int .u64)) .nil)))))))))))
abbrev Y60:Sh := (.agg 26 (.cons (.hole (.int .u64)) (.cons (.hole (.int .i64)) (.cons (.hole (.int .u64)) (.cons (.hole (.int .i64)) (.cons (.hole (.int .u64)) (.cons (.hole (.int .u64)) (.cons (.hole (.int .u64)) (.cons (.hole .str) (.cons (.hole (.sl .any (.int .u8))) (.cons (.hole (.int .u64)) (.cons (.hole (.int .i64)) (.cons (.hole .str) (.cons (.hole (.int .u64)) (.cons (.hole (.int .i64)) (.cons (.hole (.int .u64)) (.cons (.hole (.int .u64)) (.cons (.hole .str) (.cons (.hole (.sl .any (.int .i64))) (.cons (.hole (.int .u64)) (.cons (.hole (.int .u64)) (.cons (.hole .str) (.cons (.hole (.int .i64)) (.cons (.hole (.int .i64)) (.cons (.hole (.int .u64)) (.cons (.hole (.int .i64)) (.cons (.hole .str) .nil)))))))))))))))))))))))))))
abbrev Y61:Sh := (.agg 4 (.cons (.hole (.int .i64)) (.cons (.hole (.int .u64)) (.cons (.hole .bool) (.cons (.hole (.sl .any T_api_Record)) .nil)))))
abbrev Y62:Sh := (.agg 41 (.cons (.hole .bool) (.cons (.hole (.int .i64)) (.cons (.hole (.int .u64)) (.cons (.hole (.int .i64)) (.cons (.hole (.int .u64)) (.cons (.hole (.int .i64)) (.cons (.hole (.int .u64)) (.cons (.hole (.int .u64)) (.cons (.hole (.int .u64)) (.cons (.hole .str) (.cons (.hole (.sl .any (.int .u8))) (.cons (.hole (.int .u64)) (.cons (.hole (.int .i64)) (.cons (.hole .str) (.cons (.hole (.int .u64)) (.cons (.hole (.int .i64)) (.cons (.hole (.int .u64)) (.cons (.hole (.int .u64)) (.cons (.hole .str) (.cons (.hole (.sl .any (.int .i64))) (.cons (.hole (.int .u64)) (.cons (.hole (.int .u64)) (.cons (.hole .str) (.cons (.hole (.int .i64)) (.cons (.hole (.int .i64)) (.cons (.hole (.int .u64)) (.cons (.hole (.int .i64)) (.cons (.hole .str) (.cons (.hole .bool) (.cons (.hole (.int .u64)) (.cons (.hole (.int .i64)) (.cons (.hole (.int .i64)) (.cons (.hole (.int .i64)) (.cons (.hole (.int .u64)) (.cons (.hole .bool) (.cons (.hole (.sl .any T_api_Record)) (.cons (.hole (.int .u64)) (.cons (.hole (.sl .any T_api_Shard)) (.cons (.hole (.int .u64)) (.cons (.hole (.int .u64)) (.cons (.hole (.int .u64)) .nil))))))))))))))))))))))))))))))))))))))))))
abbrev Y63:Sh := (.agg 33 (.cons (.hole (.int .i64)) (.cons (.own .own 3 (.int .i64)) (.cons (.hole (.int .u64)) (.cons (.hole (.int .u64)) (.cons (.hole (.sl .new T_api_Topic_s)) (.cons (.hole (.sl .new T_api_Site)) (.cons (.hole .bool) (.cons (.hole (.int .i64)) (.cons (.hole .str) (.cons (.hole .str) (.cons (.hole (.sl .new (.int .u8))) (.cons (.hole (.int .u64)) (.cons (.hole (.int .i64)) (.cons (.hole .str) (.cons (.hole (.int .i64)) (.cons (.hole (.int .u64)) (.cons (.hole (.int .u64)) (.cons (.hole .str) (.cons (.hole (.sl .new (.int .i64))) (.cons (.hole (.int .u64)) (.cons (.hole (.int .u64)) (.cons (.hole .str) (.cons (.hole (.int .i64)) (.cons (.hole (.int .i64)) (.cons (.hole (.int .u64)) (.cons (.hole (.int .i64)) (.cons (.hole (.int .u64)) (.cons (.hole .bool) (.cons (.hole (.int .u64)) (.cons (.hole (.int .i64)) (.cons (.hole (.int .i64)) (.cons (.hole .bool) (.cons (.hole (.int .i64)) .nil))))))))))))))))))))))))))))))))))
abbrev Y64:Sh := (.agg 32 (.cons (.hole (.int .i64)) (.cons (.hole (.int .i64)) (.cons (.hole .str) (.cons (.hole .str) (.cons (.own .own 5 (.int .u8)) (.cons (.hole (.int .u64)) (.cons (.hole (.int .i64)) (.cons (.hole .str) (.cons (.hole (.int .i64)) (.cons (.hole (.int .u64)) (.cons (.hole (.int .u64)) (.cons (.hole .str) (.cons (.own .own 3 (.int .i64)) (.cons (.hole (.int .u64)) (.cons (.hole (.int .u64)) (.cons (.hole .str) (.cons (.hole (.int .i64)) (.cons (.hole (.int .i64)) (.cons (.hole (.int .u64)) (.cons (.hole (.int .i64)) (.cons (.hole (.int .u64)) (.cons (.hole (.int .i64)) (.cons (.hole (.int .i64)) (.cons (.hole (.int .i64)) (.cons (.hole (.int .u64)) (.cons (.hole .bool) (.cons (.hole (.sl .any T_api_Record)) (.cons (.hole (.int .u64)) (.cons (.own .own 66 T_api_Shard_n) (.cons (.hole (.int .u64)) (.cons (.hole (.int .u64)) (.cons (.hole (.int .u64)) .nil)))))))))))))))))))))))))))))))))
def rs14:List RVx := [(.tmp 2)]
def p14 (_:Nat):(Int)×(Unit)→Option ((Unit)×(Bool)) := fun ⟨a,_⟩ =>
bif decide (a≥(1:Int)) then
 some ((),decide (a≤(7:Int)))
else
 some ((),false)
def e14 (fu:Nat):Ent := ⟨14,(.cons (.hole (.int .i64)) .nil),.nil,(.hole .bool),p14 fu⟩
theorem g14 (fu:Nat):(e14 fu).Good Try.prog := good_fx orders Try.func14 fu [] [] rs14 9 (l := []) trivial
def rs29:List RVx := [(.tmp 4)]
def p29 (fu:Nat):(List (Int))×((Int)×(Unit))→Option ((Unit)×(Int)) := fun ⟨a,c,_⟩ =>
loopO (S := ((Int)×(Unit))×(Unit)) fu (fun ⟨⟨f,_⟩,_⟩ =>
 bif decide (f<(List.length a:Int)) then
 bif decide ((0:Int)≤f∧f<(List.length a:Int)) then
 bif decide (Int.toNat f<List.length a) then
 bif (c==(List.getD a (Int.toNat f) (dflt (.int .i64)))) then
 inrO (some ((),f))
 else
 some (.inl ((IntKind.wrap .i64 (f+(1:Int)),()),()))
 else none
 else none
 else
 inrO (some ((),((-1):Int))))
 (((0:Int),()),())
def e29 (fu:Nat):Ent := ⟨29,(.cons (.hole (.sl .any (.int .i64))) (.cons (.hole (.int .i64)) .nil)),.nil,(.hole (.int .i64)),p29 fu⟩
theorem g29 (fu:Nat):(e29 fu).Good Try.prog := good_fx orders Try.func29 fu [] [(3,⟨[8],(.cons (.hole (.int .i64)) .nil),[],.nil,[0,1,7],[]⟩)] rs29 19 (l := []) trivial
def rs15:List RVx := [(.tmp 4)]
def p15 (fu:Nat):(List (Int))×((Int)×(Unit))→Option ((Unit)×(Bool)) := fun ⟨a,c,_⟩ =>
Option.bind (p29 fu (a,c,())) fun ⟨_,f⟩ =>
some ((),decide (f≥(0:Int)))
def e15 (fu:Nat):Ent := ⟨15,(.cons (.hole (.sl .any (.int .i64))) (.cons (.hole (.int .i64)) .nil)),.nil,(.hole .bool),p15 fu⟩
theorem g15 (fu:Nat):(e15 fu).Good Try.prog := good_fx orders Try.func15 fu [(3,(.ent (e29 fu)))] [] rs15 9 (l := [e29 fu]) ⟨g29 fu,trivial⟩
def rs16:List RVx := [(.tmp 2)]
def p16 (_:Nat):(List (Int))×(Unit)→Option ((Unit)×(List (Int))) := fun ⟨a,_⟩ =>
bif ((List.length a:Int)==(0:Int)) then
 some ((),[])
else
 bif decide ((0:Int)≤(List.length a:Int)∧((List.length a:Int):Int)≤(List.length a:Int)∧((List.length a:Int):Int)≤9223372036854775807∧(8:Int) * (List.length a:Int)≤140737488355328) then
 bif decide (Int.toNat (List.length a:Int)=List.length (List.replicate (Int.toNat (List.length a:Int)) (0:Int):List (Int))) then
 bif decide (Int.toNat (List.length a:Int)=List.length (copyL (List.replicate (Int.toNat (List.length a:Int)) (0:Int):List (Int)) 0 (Int.toNat (List.length a:Int)) a)) then
 some ((),(copyL (List.replicate (Int.toNat (List.length a:Int)) (0:Int):List (Int)) 0 (Int.toNat (List.length a:Int)) a))
 else none
 else none
 else none
def e16 (fu:Nat):Ent := ⟨16,(.cons (.hole (.sl .any (.int .i64))) .nil),.nil,(.own .own 3 (.int .i64)),p16 fu⟩
theorem g16 (fu:Nat):(e16 fu).Good Try.prog := good_fx orders Try.func16 fu [(7,(.ty (.int .i64)))] [] rs16 14 (l := []) trivial
def rs5:List RVx := [(.cell 6 true 33),(.tmp 7)]
def p5 (fu:Nat):(Int)×((List (Int))×((Int)×(Unit)))→Option ((Unit)×((Z6)×((Int)×(Unit)))) := fun ⟨a,c,f,_⟩ =>
orK (E := ((Bool)×(Unit))×(Unit))
 (Option.bind (p14 fu (a,())) fun ⟨_,h⟩ =>
 bif h then
 bif (f != (0:Int)) then
 bif decide ((List.length c:Int)>(0:Int)) then
 Option.bind (p15 fu (c,a,())) fun ⟨_,i⟩ =>
 some (.inl ((!i,()),()))
 else
 some (.inl ((false,()),()))
 else
 some (.inl ((false,()),()))
 else
 some (.inl ((false,()),())))
 fun ⟨⟨j,_⟩,_⟩ =>
loopO (S := ((Bool)×((Int)×(Unit)))×(Unit)) fu (fun ⟨⟨j,k,_⟩,_⟩ =>
 bif decide (k<(List.length c:Int)) then
 bif decide ((0:Int)≤k∧k<(List.length c:Int)) then
 bif decide (Int.toNat k<List.length c) then
 bif j then
 Option.bind (p14 fu ((List.getD c (Int.toNat k) (dflt (.int .i64))),())) fun ⟨_,l⟩ =>
 bif l then
 bif decide ((0:Int)≤k) then
 bif decide (0≤Int.toNat k∧Int.toNat k≤List.length c) then
 Option.bind (p15 fu (List.take (Int.toNat k) c,(List.getD c (Int.toNat k) (dflt (.int .i64))),())) fun ⟨_,m⟩ =>
 some (.inl ((!m,IntKind.wrap .i64 (k+(1:Int)),()),()))
 else none
 else none
 else
 some (.inl ((false,IntKind.wrap .i64 (k+(1:Int)),()),()))
 else
 some (.inl ((false,IntKind.wrap .i64 (k+(1:Int)),()),()))
 else none
 else none
 else
 inrO (bif !j then
 some ((),(((0:Int),[],(0:Int),(0:Int),[],[],false,(0:Int),(⟨#[]⟩:ByteArray),(⟨#[]⟩:ByteArray),[],(0:Int),(0:Int),(⟨#[]⟩:ByteArray),(0:Int),(0:Int),(0:Int),(⟨#[]⟩:ByteArray),[],(0:Int),(0:Int),(⟨#[]⟩:ByteArray),(0:Int),(0:Int),(0:Int),(0:Int),(0:Int),false,(0:Int),(0:Int),(0:Int),false,(0:Int),()),(1:Int),()))
 else
 Option.bind (p16 fu (c,())) fun ⟨_,n⟩ =>
 bif decide (List.length n=List.length n) then
 some ((),((a,n,f,(0:Int),[],[],false,(0:Int),(⟨#[]⟩:ByteArray),(⟨#[]⟩:ByteArray),[],(0:Int),(0:Int),(⟨#[]⟩:ByteArray),(0:Int),(0:Int),(0:Int),(⟨#[]⟩:ByteArray),[],(0:Int),(0:Int),(⟨#[]⟩:ByteArray),(0:Int),(0:Int),(0:Int),(0:Int),(0:Int),false,(0:Int),(0:Int),(0:Int),false,(0:Int),()),(0:Int),()))
 else none))
 ((j,(0:Int),()),())
def e5 (fu:Nat):Ent := ⟨5,(.cons (.hole (.int .i64)) (.cons (.hole (.sl .any (.int .i64))) (.cons (.hole (.int .u64)) .nil))),.nil,(.tup 2 (.cons Y7 (.cons (.hole (.int .i64)) .nil))),p5 fu⟩
theorem g5 (fu:Nat):(e5 fu).Good Try.prog := good_fx orders Try.func5 fu [(3,(.ent (e14 fu))),(16,(.ent (e15 fu))),(32,(.ent (e14 fu))),(39,(.ent (e15 fu))),(52,(.ent (e16 fu)))] [(1,⟨[8],(.cons (.hole .bool) .nil),[],.nil,[0,1,2,6],[0]⟩),(4,⟨[8,30],(.cons (.hole .bool) (.cons (.hole (.int .i64)) .nil)),[],.nil,[0,1,2,6,28,29],[0]⟩)] rs5 57 (l := [e14 fu,e15 fu,e14 fu,e15 fu,e16 fu]) ⟨g14 fu,g15 fu,g14 fu,g15 fu,g16 fu,trivial⟩
def p16_1 (_:Nat):(List (Int))×(Unit)→Option ((Unit)×(List (Int))) := fun ⟨a,_⟩ =>
bif ((List.length a:Int)==(0:Int)) then
 some ((),[])
else
 bif decide ((0:Int)≤(List.length a:Int)∧((List.length a:Int):Int)≤(List.length a:Int)∧((List.length a:Int):Int)≤9223372036854775807∧(8:Int) * (List.length a:Int)≤140737488355328) then
 bif decide (Int.toNat (List.length a:Int)=List.length (List.replicate (Int.toNat (List.length a:Int)) (0:Int):List (Int))) then
 bif decide (Int.toNat (List.length a:Int)=List.length (copyL (List.replicate (Int.toNat (List.length a:Int)) (0:Int):List (Int)) 0 (Int.toNat (List.length a:Int)) a)) then
 some ((),(copyL (List.replicate (Int.toNat (List.length a:Int)) (0:Int):List (Int)) 0 (Int.toNat (List.length a:Int)) a))
 else none
 else none
 else none
def e16_1 (fu:Nat):Ent := ⟨16,(.cons (.hole (.sl .saf (.int .i64))) .nil),.nil,(.own .own 3 (.int .i64)),p16_1 fu⟩
theorem g16_1 (fu:Nat):(e16_1 fu).Good Try.prog := good_fx orders Try.func16 fu [(7,(.ty (.int .i64)))] [] rs16 14 (l := []) trivial
def rs72:List RVx := [(.cell 2 true 7)]
def p72 (fu:Nat):(Z8)×(Unit)→Option ((Unit)×((Int)×((ByteArray)×((ByteArray)×((Int)×((List (Int))×((List (Int))×((Int)×(Unit))))))))) := fun ⟨⟨a,c,f,h,i,j,k,_⟩,_⟩ =>
Option.bind (p16_1 fu (i,())) fun ⟨_,l⟩ =>
Option.bind (p16_1 fu (j,())) fun ⟨_,m⟩ =>
bif decide (List.length l=List.length l) then
 bif decide (List.length m=List.length m) then
 some ((),(a,c,f,h,l,m,k,()))
 else none
else none
def e72 (fu:Nat):Ent := ⟨72,(.cons Y9 .nil),.nil,Y10,p72 fu⟩
theorem g72 (fu:Nat):(e72 fu).Good Try.prog := good_fx orders Try.func72 fu [(4,(.ent (e16_1 fu))),(9,(.ent (e16_1 fu)))] [] rs72 12 (l := [e16_1 fu,e16_1 fu]) ⟨g16_1 fu,g16_1 fu,trivial⟩
def rs71:List RVx := [(.tmp 4)]
def p71 (fu:Nat):(List (D_api_Shard))×(((Unit)×(Unit))×(Unit))→Option ((Unit)×(List (D_api_Shard))) := fun ⟨a,⟨_,_⟩,_⟩ =>
bif ((List.length a:Int)==(0:Int)) then
 some ((),[])
else
 bif decide ((0:Int)≤(List.length a:Int)∧((List.length a:Int):Int)≤(List.length a:Int)∧((List.length a:Int):Int)≤9223372036854775807∧(104:Int) * (List.length a:Int)≤140737488355328) then
 bif decide (Int.toNat (List.length a:Int)=List.length (List.replicate (Int.toNat (List.length a:Int)) ((0:Int),((⟨#[]⟩:ByteArray),(⟨#[]⟩:ByteArray)),(0:Int),[],[],(0:Int)):List (D_api_Shard))) then
 loopO (S := ((List (D_api_Shard))×((Int)×(Unit)))×(Unit)) fu (fun ⟨⟨c,f,_⟩,_⟩ =>
 bif decide (f<(List.length a:Int)) then
 bif decide ((0:Int)≤f∧f<(List.length a:Int)) then
 bif decide (Int.toNat f<List.length a) then
 Option.bind (p72 fu (((List.getD a (Int.toNat f) (dflt T_api_Shard)).1,(((List.getD a (Int.toNat f) (dflt T_api_Shard)).2).1).1,(((List.getD a (Int.toNat f) (dflt T_api_Shard)).2).1).2,(((List.getD a (Int.toNat f) (dflt T_api_Shard)).2).2).1,((((List.getD a (Int.toNat f) (dflt T_api_Shard)).2).2).2).1,(((((List.getD a (Int.toNat f) (dflt T_api_Shard)).2).2).2).2).1,(((((List.getD a (Int.toNat f) (dflt T_api_Shard)).2).2).2).2).2,()),())) fun ⟨_,⟨h,i,j,k,l,m,n,_⟩⟩ =>
 bif decide ((0:Int)≤f∧f<(List.length c:Int)) then
 bif decide (Int.toNat f<List.length c) then
 bif decide (List.length l=List.length l) then
 bif decide (List.length m=List.length m) then
 bif decide (List.length c=List.length (List.set c (Int.toNat f) (h,(i,j),k,l,m,n))) then
 some (.inl (((List.set c (Int.toNat f) (h,(i,j),k,l,m,n)),IntKind.wrap .i64 (f+(1:Int)),()),()))
 else none
 else none
 else none
 else none
 else none
 else none
 else none
 else
 inrO (bif decide (List.length c=List.length c) then
 some ((),c)
 else none))
 (((List.replicate (Int.toNat (List.length a:Int)) ((0:Int),((⟨#[]⟩:ByteArray),(⟨#[]⟩:ByteArray)),(0:Int),[],[],(0:Int)):List (D_api_Shard)),(0:Int),()),())
 else none
 else none
def e71 (fu:Nat):Ent := ⟨71,(.cons (.hole (.sl .saf T_api_Shard_s)) (.cons (.clo 72 0 .nil 0 .nil) .nil)),.nil,(.own .own 66 T_api_Shard_n),p71 fu⟩
theorem g71 (fu:Nat):(e71 fu).Good Try.prog := good_fx orders Try.func71 fu [(7,(.ty T_api_Shard_n)),(23,(.ent (e72 fu)))] [(7,⟨[5,16],(.cons (.own .own 66 T_api_Shard_n) (.cons (.hole (.int .i64)) .nil)),[],.nil,[1,14,15],[]⟩)] rs71 29 (l := [e72 fu]) ⟨g72 fu,trivial⟩
def rs52:List RVx := [(.tmp 2)]
def p52 (fu:Nat):(List (D_api_Shard))×(Unit)→Option ((Unit)×(List (D_api_Shard))) := fun ⟨a,_⟩ =>
Option.bind (p71 fu (a,((),()),())) fun ⟨_,c⟩ =>
bif decide (List.length c=List.length c) then
 some ((),c)
else none
def e52 (fu:Nat):Ent := ⟨52,(.cons (.hole (.sl .saf T_api_Shard_s)) .nil),.nil,(.own .own 66 T_api_Shard_n),p52 fu⟩
theorem g52 (fu:Nat):(e52 fu).Good Try.prog := good_fx orders Try.func52 fu [(2,(.ent (e71 fu)))] [] rs52 5 (l := [e71 fu]) ⟨g71 fu,trivial⟩
def rs51:List RVx := [(.cell 2 true 2)]
def p51 (fu:Nat):((ByteArray)×((List (D_api_Shard))×(Unit)))×(Unit)→Option ((Unit)×((ByteArray)×((List (D_api_Shard))×(Unit)))) := fun ⟨⟨a,c,_⟩,_⟩ =>
Option.bind (p52 fu (c,())) fun ⟨_,f⟩ =>
bif decide (List.length f=List.length f) then
 some ((),(a,f,()))
else none
def e51 (fu:Nat):Ent := ⟨51,(.cons (.agg 2 (.cons (.hole .str) (.cons (.hole (.sl .saf T_api_Shard_s)) .nil))) .nil),.nil,(.agg 2 (.cons (.hole .str) (.cons (.own .own 66 T_api_Shard_n) .nil))),p51 fu⟩
theorem g51 (fu:Nat):(e51 fu).Good Try.prog := good_fx orders Try.func51 fu [(6,(.ent (e52 fu)))] [] rs51 9 (l := [e52 fu]) ⟨g52 fu,trivial⟩
def rs50:List RVx := [(.tmp 4)]
def p50 (fu:Nat):(List (D_api_Topic))×(((Unit)×(Unit))×(Unit))→Option ((Unit)×(List (D_api_Topic))) := fun ⟨a,⟨_,_⟩,_⟩ =>
bif ((List.length a:Int)==(0:Int)) then
 some ((),[])
else
 bif decide ((0:Int)≤(List.length a:Int)∧((List.length a:Int):Int)≤(List.length a:Int)∧((List.length a:Int):Int)≤9223372036854775807∧(40:Int) * (List.length a:Int)≤140737488355328) then
 bif decide (Int.toNat (List.length a:Int)=List.length (List.replicate (Int.toNat (List.length a:Int)) ((⟨#[]⟩:ByteArray),[]):List (D_api_Topic))) then
 loopO (S := ((List (D_api_Topic))×((Int)×(Unit)))×(Unit)) fu (fun ⟨⟨c,f,_⟩,_⟩ =>
 bif decide (f<(List.length a:Int)) then
 bif decide ((0:Int)≤f∧f<(List.length a:Int)) then
 bif decide (Int.toNat f<List.length a) then
 Option.bind (p51 fu (((List.getD a (Int.toNat f) (dflt T_api_Topic)).1,(List.getD a (Int.toNat f) (dflt T_api_Topic)).2,()),())) fun ⟨_,⟨h,i,_⟩⟩ =>
 bif decide ((0:Int)≤f∧f<(List.length c:Int)) then
 bif decide (Int.toNat f<List.length c) then
 bif decide (List.length i=List.length i) then
 bif decide (List.length c=List.length (List.set c (Int.toNat f) (h,i))) then
 some (.inl (((List.set c (Int.toNat f) (h,i)),IntKind.wrap .i64 (f+(1:Int)),()),()))
 else none
 else none
 else none
 else none
 else none
 else none
 else
 inrO (bif decide (List.length c=List.length c) then
 some ((),c)
 else none))
 (((List.replicate (Int.toNat (List.length a:Int)) ((⟨#[]⟩:ByteArray),[]):List (D_api_Topic)),(0:Int),()),())
 else none
 else none
def e50 (fu:Nat):Ent := ⟨50,(.cons (.hole (.sl .saf T_api_Topic_s)) (.cons (.clo 51 0 .nil 0 .nil) .nil)),.nil,(.own .own 72 T_api_Topic_n),p50 fu⟩
theorem g50 (fu:Nat):(e50 fu).Good Try.prog := good_fx orders Try.func50 fu [(7,(.ty T_api_Topic_n)),(23,(.ent (e51 fu)))] [(7,⟨[5,16],(.cons (.own .own 72 T_api_Topic_n) (.cons (.hole (.int .i64)) .nil)),[],.nil,[1,14,15],[]⟩)] rs50 29 (l := [e51 fu]) ⟨g51 fu,trivial⟩
def rs30:List RVx := [(.tmp 2)]
def p30 (fu:Nat):(List (D_api_Topic))×(Unit)→Option ((Unit)×(List (D_api_Topic))) := fun ⟨a,_⟩ =>
Option.bind (p50 fu (a,((),()),())) fun ⟨_,c⟩ =>
bif decide (List.length c=List.length c) then
 some ((),c)
else none
def e30 (fu:Nat):Ent := ⟨30,(.cons (.hole (.sl .saf T_api_Topic_s)) .nil),.nil,(.own .own 72 T_api_Topic_n),p30 fu⟩
theorem g30 (fu:Nat):(e30 fu).Good Try.prog := good_fx orders Try.func30 fu [(2,(.ent (e50 fu)))] [] rs30 5 (l := [e50 fu]) ⟨g50 fu,trivial⟩
def rs31:List RVx := [(.tmp 2)]
def p31 (_:Nat):(List (D_api_Site))×(Unit)→Option ((Unit)×(List (D_api_Site))) := fun ⟨a,_⟩ =>
bif ((List.length a:Int)==(0:Int)) then
 some ((),[])
else
 bif decide ((0:Int)≤(List.length a:Int)∧((List.length a:Int):Int)≤(List.length a:Int)∧((List.length a:Int):Int)≤9223372036854775807∧(16:Int) * (List.length a:Int)≤140737488355328) then
 bif decide (Int.toNat (List.length a:Int)=List.length (List.replicate (Int.toNat (List.length a:Int)) ((0:Int),(0:Int)):List (D_api_Site))) then
 bif decide (Int.toNat (List.length a:Int)=List.length (copyL (List.replicate (Int.toNat (List.length a:Int)) ((0:Int),(0:Int)):List (D_api_Site)) 0 (Int.toNat (List.length a:Int)) a)) then
 some ((),(copyL (List.replicate (Int.toNat (List.length a:Int)) ((0:Int),(0:Int)):List (D_api_Site)) 0 (Int.toNat (List.length a:Int)) a))
 else none
 else none
 else none
def e31 (fu:Nat):Ent := ⟨31,(.cons (.hole (.sl .saf T_api_Site)) .nil),.nil,(.own .own 88 T_api_Site),p31 fu⟩
theorem g31 (fu:Nat):(e31 fu).Good Try.prog := good_fx orders Try.func31 fu [(7,(.ty T_api_Site))] [] rs31 14 (l := []) trivial
def rs53:List RVx := [(.tmp 2)]
def p53 (_:Nat):(List (Int))×(Unit)→Option ((Unit)×(List (Int))) := fun ⟨a,_⟩ =>
bif ((List.length a:Int)==(0:Int)) then
 some ((),[])
else
 bif decide ((0:Int)≤(List.length a:Int)∧((List.length a:Int):Int)≤(List.length a:Int)∧((List.length a:Int):Int)≤9223372036854775807∧(1:Int) * (List.length a:Int)≤140737488355328) then
 bif decide (Int.toNat (List.length a:Int)=List.length (List.replicate (Int.toNat (List.length a:Int)) (0:Int):List (Int))) then
 bif decide (Int.toNat (List.length a:Int)=List.length (copyL (List.replicate (Int.toNat (List.length a:Int)) (0:Int):List (Int)) 0 (Int.toNat (List.length a:Int)) a)) then
 some ((),(copyL (List.replicate (Int.toNat (List.length a:Int)) (0:Int):List (Int)) 0 (Int.toNat (List.length a:Int)) a))
 else none
 else none
 else none
def e53 (fu:Nat):Ent := ⟨53,(.cons (.hole (.sl .saf (.int .u8))) .nil),.nil,(.own .own 5 (.int .u8)),p53 fu⟩
theorem g53 (fu:Nat):(e53 fu).Good Try.prog := good_fx orders Try.func53 fu [(7,(.ty (.int .u8)))] [] rs53 14 (l := []) trivial
def rs54:List RVx := [(.cell 2 true 12)]
def p54 (fu:Nat):(Z11)×(Unit)→Option ((Unit)×((Int)×((Int)×((Int)×((ByteArray)×((List (Int))×((Int)×((Int)×((ByteArray)×((Int)×((Int)×((Int)×((Int)×(Unit)))))))))))))) := fun ⟨⟨a,c,f,h,i,j,k,l,m,n,o,q,_⟩,_⟩ =>
Option.bind (p16_1 fu (i,())) fun ⟨_,s⟩ =>
bif decide (List.length s=List.length s) then
 some ((),(a,c,f,h,s,j,k,l,m,n,o,q,()))
else none
def e54 (fu:Nat):Ent := ⟨54,(.cons Y12 .nil),.nil,Y13,p54 fu⟩
theorem g54 (fu:Nat):(e54 fu).Good Try.prog := good_fx orders Try.func54 fu [(4,(.ent (e16_1 fu)))] [] rs54 8 (l := [e16_1 fu]) ⟨g16_1 fu,trivial⟩
def rs32:List RVx := [(.cell 2 true 19)]
def p32 (fu:Nat):(Z14)×(Unit)→Option ((Unit)×((Int)×((ByteArray)×((ByteArray)×((List (Int))×((Int)×((Int)×((ByteArray)×((Int)×((Int)×((Int)×((ByteArray)×((List (Int))×((Int)×((Int)×((ByteArray)×((Int)×((Int)×((Int)×((Int)×(Unit))))))))))))))))))))) := fun ⟨⟨a,c,f,h,i,j,k,l,m,n,o,q,s,t,u,w,x,y,z,_⟩,_⟩ =>
Option.bind (p53 fu (h,())) fun ⟨_,a0⟩ =>
Option.bind (p54 fu ((l,m,n,o,q,s,t,u,w,x,y,z,()),())) fun ⟨_,⟨c0,f0,h0,i0,j0,k0,l0,m0,n0,o0,q0,s0,_⟩⟩ =>
bif decide (List.length a0=List.length a0) then
 bif decide (List.length j0=List.length j0) then
 some ((),(a,c,f,a0,i,j,k,c0,f0,h0,i0,j0,k0,l0,m0,n0,o0,q0,s0,()))
 else none
else none
def e32 (fu:Nat):Ent := ⟨32,(.cons Y15 .nil),.nil,Y16,p32 fu⟩
theorem g32 (fu:Nat):(e32 fu).Good Try.prog := good_fx orders Try.func32 fu [(4,(.ent (e53 fu))),(9,(.ent (e54 fu)))] [] rs32 12 (l := [e53 fu,e54 fu]) ⟨g53 fu,g54 fu,trivial⟩
def rs17:List RVx := [(.cell 2 true 33)]
def p17 (fu:Nat):(Z6)×(Unit)→Option ((Unit)×((Int)×((List (Int))×((Int)×((Int)×((List (D_api_Topic))×((List (D_api_Site))×((Bool)×((Int)×((ByteArray)×((ByteArray)×((List (Int))×((Int)×((Int)×((ByteArray)×((Int)×((Int)×((Int)×((ByteArray)×((List (Int))×((Int)×((Int)×((ByteArray)×((Int)×((Int)×((Int)×((Int)×((Int)×((Bool)×((Int)×((Int)×((Int)×((Bool)×((Int)×(Unit))))))))))))))))))))))))))))))))))) := fun ⟨⟨a,c,f,h,i,j,k,l,m,n,o,q,s,t,u,w,x,y,z,a0,c0,f0,h0,i0,j0,k0,l0,m0,n0,o0,q0,s0,t0,_⟩,_⟩ =>
Option.bind (p16 fu (c,())) fun ⟨_,u0⟩ =>
Option.bind (p30 fu (i,())) fun ⟨_,w0⟩ =>
Option.bind (p31 fu (j,())) fun ⟨_,x0⟩ =>
Option.bind (p32 fu ((l,m,n,o,q,s,t,u,w,x,y,z,a0,c0,f0,h0,i0,j0,k0,()),())) fun ⟨_,⟨y0,z0,a1,c1,f1,h1,i1,j1,k1,l1,m1,n1,o1,q1,s1,t1,u1,w1,x1,_⟩⟩ =>
bif decide (List.length u0=List.length u0) then
 bif decide (List.length w0=List.length w0) then
 bif decide (List.length x0=List.length x0) then
 bif decide (List.length c1=List.length c1) then
 bif decide (List.length n1=List.length n1) then
 some ((),(a,u0,f,h,w0,x0,k,y0,z0,a1,c1,f1,h1,i1,j1,k1,l1,m1,n1,o1,q1,s1,t1,u1,w1,x1,l0,m0,n0,o0,q0,s0,t0,()))
 else none
 else none
 else none
 else none
else none
def e17 (fu:Nat):Ent := ⟨17,(.cons Y17 .nil),.nil,Y18,p17 fu⟩
theorem g17 (fu:Nat):(e17 fu).Good Try.prog := good_fx orders Try.func17 fu [(4,(.ent (e16 fu))),(9,(.ent (e30 fu))),(14,(.ent (e31 fu))),(19,(.ent (e32 fu)))] [] rs17 20 (l := [e16 fu,e30 fu,e31 fu,e32 fu]) ⟨g16 fu,g30 fu,g31 fu,g32 fu,trivial⟩
def rs18:List RVx := [(.tmp 2)]
def p18 (_:Nat):(Int)×(Unit)→Option ((Unit)×((Bool)×(((Unit)×(Unit))×((Bool)×(((Unit)×(Unit))×((Bool)×(((Unit)×(Unit))×(Unit)))))))) := fun ⟨a,_⟩ =>
bif (a==(1:Int)) then
 some ((),(true,((),()),dflt (.pair .bool (.pair (.pair .unit .unit) (.pair .bool (.pair (.pair .unit .unit) .unit))))))
else
 bif (a==(2:Int)) then
 some ((),(false,dflt (.pair .unit .unit),(true,((),()),dflt (.pair .bool (.pair (.pair .unit .unit) .unit)))))
 else
 bif (a==(3:Int)) then
 some ((),(false,dflt (.pair .unit .unit),(false,dflt (.pair .unit .unit),(true,((),()),dflt .unit))))
 else
 some ((),(false,dflt (.pair .unit .unit),(false,dflt (.pair .unit .unit),(false,dflt (.pair .unit .unit),()))))
def e18 (fu:Nat):Ent := ⟨18,(.cons (.hole (.int .i64)) .nil),.nil,(.alt false (.clo 33 0 .nil 0 .nil) (.alt false (.clo 34 0 .nil 0 .nil) (.alt false (.clo 35 0 .nil 0 .nil) (.nilv 2)))),p18 fu⟩
theorem g18 (fu:Nat):(e18 fu).Good Try.prog := good_fx orders Try.func18 fu [] [] rs18 10 (l := []) trivial
def rs73:List RVx := [(.tmp 2)]
def p73 (fu:Nat):(ByteArray)×(Unit)→Option ((Unit)×(Bool)) := fun ⟨a,_⟩ =>
loopO (S := ((Int)×(Unit))×(Unit)) fu (fun ⟨⟨c,_⟩,_⟩ =>
 bif decide (c<(List.length (numsOf a):Int)) then
 bif decide ((0:Int)≤c∧c<(List.length (numsOf a):Int)) then
 bif decide (Int.toNat c<List.length (numsOf a)) then
 bif decide ((List.getD (numsOf a) (Int.toNat c) (dflt (.int .u8)))<(97:Int)) then
 bif decide ((List.getD (numsOf a) (Int.toNat c) (dflt (.int .u8)))<(48:Int)) then
 bif ((List.getD (numsOf a) (Int.toNat c) (dflt (.int .u8))) != (45:Int)) then
 bif ((List.getD (numsOf a) (Int.toNat c) (dflt (.int .u8))) != (95:Int)) then
 bif ((List.getD (numsOf a) (Int.toNat c) (dflt (.int .u8))) != (46:Int)) then
 inrO (some ((),false))
 else
 some (.inl ((IntKind.wrap .i64 (c+(1:Int)),()),()))
 else
 some (.inl ((IntKind.wrap .i64 (c+(1:Int)),()),()))
 else
 some (.inl ((IntKind.wrap .i64 (c+(1:Int)),()),()))
 else
 bif decide ((List.getD (numsOf a) (Int.toNat c) (dflt (.int .u8)))>(57:Int)) then
 bif ((List.getD (numsOf a) (Int.toNat c) (dflt (.int .u8))) != (45:Int)) then
 bif ((List.getD (numsOf a) (Int.toNat c) (dflt (.int .u8))) != (95:Int)) then
 bif ((List.getD (numsOf a) (Int.toNat c) (dflt (.int .u8))) != (46:Int)) then
 inrO (some ((),false))
 else
 some (.inl ((IntKind.wrap .i64 (c+(1:Int)),()),()))
 else
 some (.inl ((IntKind.wrap .i64 (c+(1:Int)),()),()))
 else
 some (.inl ((IntKind.wrap .i64 (c+(1:Int)),()),()))
 else
 some (.inl ((IntKind.wrap .i64 (c+(1:Int)),()),()))
 else
 bif decide ((List.getD (numsOf a) (Int.toNat c) (dflt (.int .u8)))>(122:Int)) then
 bif decide ((List.getD (numsOf a) (Int.toNat c) (dflt (.int .u8)))<(48:Int)) then
 bif ((List.getD (numsOf a) (Int.toNat c) (dflt (.int .u8))) != (45:Int)) then
 bif ((List.getD (numsOf a) (Int.toNat c) (dflt (.int .u8))) != (95:Int)) then
 bif ((List.getD (numsOf a) (Int.toNat c) (dflt (.int .u8))) != (46:Int)) then
 inrO (some ((),false))
 else
 some (.inl ((IntKind.wrap .i64 (c+(1:Int)),()),()))
 else
 some (.inl ((IntKind.wrap .i64 (c+(1:Int)),()),()))
 else
 some (.inl ((IntKind.wrap .i64 (c+(1:Int)),()),()))
 else
 bif decide ((List.getD (numsOf a) (Int.toNat c) (dflt (.int .u8)))>(57:Int)) then
 bif ((List.getD (numsOf a) (Int.toNat c) (dflt (.int .u8))) != (45:Int)) then
 bif ((List.getD (numsOf a) (Int.toNat c) (dflt (.int .u8))) != (95:Int)) then
 bif ((List.getD (numsOf a) (Int.toNat c) (dflt (.int .u8))) != (46:Int)) then
 inrO (some ((),false))
 else
 some (.inl ((IntKind.wrap .i64 (c+(1:Int)),()),()))
 else
 some (.inl ((IntKind.wrap .i64 (c+(1:Int)),()),()))
 else
 some (.inl ((IntKind.wrap .i64 (c+(1:Int)),()),()))
 else
 some (.inl ((IntKind.wrap .i64 (c+(1:Int)),()),()))
 else
 some (.inl ((IntKind.wrap .i64 (c+(1:Int)),()),()))
 else none
 else none
 else
 inrO (bif decide ((ByteArray.size a:Int)≥(1:Int)) then
 some ((),decide ((ByteArray.size a:Int)≤(32:Int)))
 else
 some ((),false)))
 (((0:Int),()),())
def e73 (fu:Nat):Ent := ⟨73,(.cons (.hole .str) .nil),.nil,(.hole .bool),p73 fu⟩
theorem g73 (fu:Nat):(e73 fu).Good Try.prog := good_fx orders Try.func73 fu [] [(3,⟨[8],(.cons (.hole (.int .i64)) .nil),[],.nil,[0,6,7],[]⟩)] rs73 47 (l := []) trivial
def rs55:List RVx := [(.tmp 2)]
def p55 (fu:Nat):(Z14)×(Unit)→Option ((Unit)×(Bool)) := fun ⟨⟨a,c,_,_,_,_,_,f,_,_,_,_,_,_,_,_,_,_,_,_⟩,_⟩ =>
bif (a==(5:Int)) then
 bif decide (f≥(1:Int)) then
 some ((),decide (f≤(4:Int)))
 else
 some ((),false)
else
 bif decide (a≥(1:Int)) then
 bif decide (a≤(6:Int)) then
 Option.bind (p73 fu (c,())) fun ⟨_,h⟩ =>
 some ((),h)
 else
 some ((),false)
 else
 some ((),false)
def e55 (fu:Nat):Ent := ⟨55,(.cons Y19 .nil),.nil,(.hole .bool),p55 fu⟩
theorem g55 (fu:Nat):(e55 fu).Good Try.prog := good_fx orders Try.func55 fu [(27,(.ent (e73 fu)))] [] rs55 29 (l := [e73 fu]) ⟨g73 fu,trivial⟩
def p53_1 (_:Nat):(List (Int))×(Unit)→Option ((Unit)×(List (Int))) := fun ⟨a,_⟩ =>
bif ((List.length a:Int)==(0:Int)) then
 some ((),[])
else
 bif decide ((0:Int)≤(List.length a:Int)∧((List.length a:Int):Int)≤(List.length a:Int)∧((List.length a:Int):Int)≤9223372036854775807∧(1:Int) * (List.length a:Int)≤140737488355328) then
 bif decide (Int.toNat (List.length a:Int)=List.length (List.replicate (Int.toNat (List.length a:Int)) (0:Int):List (Int))) then
 bif decide (Int.toNat (List.length a:Int)=List.length (copyL (List.replicate (Int.toNat (List.length a:Int)) (0:Int):List (Int)) 0 (Int.toNat (List.length a:Int)) a)) then
 some ((),(copyL (List.replicate (Int.toNat (List.length a:Int)) (0:Int):List (Int)) 0 (Int.toNat (List.length a:Int)) a))
 else none
 else none
 else none
def e53_1 (fu:Nat):Ent := ⟨53,(.cons (.hole (.sl .any (.int .u8))) .nil),.nil,(.own .own 5 (.int .u8)),p53_1 fu⟩
theorem g53_1 (fu:Nat):(e53_1 fu).Good Try.prog := good_fx orders Try.func53 fu [(7,(.ty (.int .u8)))] [] rs53 14 (l := []) trivial
def p54_1 (fu:Nat):(Z11)×(Unit)→Option ((Unit)×((Int)×((Int)×((Int)×((ByteArray)×((List (Int))×((Int)×((Int)×((ByteArray)×((Int)×((Int)×((Int)×((Int)×(Unit)))))))))))))) := fun ⟨⟨a,c,f,h,i,j,k,l,m,n,o,q,_⟩,_⟩ =>
Option.bind (p16 fu (i,())) fun ⟨_,s⟩ =>
bif decide (List.length s=List.length s) then
 some ((),(a,c,f,h,s,j,k,l,m,n,o,q,()))
else none
def e54_1 (fu:Nat):Ent := ⟨54,(.cons Y20 .nil),.nil,Y13,p54_1 fu⟩
theorem g54_1 (fu:Nat):(e54_1 fu).Good Try.prog := good_fx orders Try.func54 fu [(4,(.ent (e16 fu)))] [] rs54 8 (l := [e16 fu]) ⟨g16 fu,trivial⟩
def p32_1 (fu:Nat):(Z14)×(Unit)→Option ((Unit)×((Int)×((ByteArray)×((ByteArray)×((List (Int))×((Int)×((Int)×((ByteArray)×((Int)×((Int)×((Int)×((ByteArray)×((List (Int))×((Int)×((Int)×((ByteArray)×((Int)×((Int)×((Int)×((Int)×(Unit))))))))))))))))))))) := fun ⟨⟨a,c,f,h,i,j,k,l,m,n,o,q,s,t,u,w,x,y,z,_⟩,_⟩ =>
Option.bind (p53_1 fu (h,())) fun ⟨_,a0⟩ =>
Option.bind (p54_1 fu ((l,m,n,o,q,s,t,u,w,x,y,z,()),())) fun ⟨_,⟨c0,f0,h0,i0,j0,k0,l0,m0,n0,o0,q0,s0,_⟩⟩ =>
bif decide (List.length a0=List.length a0) then
 bif decide (List.length j0=List.length j0) then
 some ((),(a,c,f,a0,i,j,k,c0,f0,h0,i0,j0,k0,l0,m0,n0,o0,q0,s0,()))
 else none
else none
def e32_1 (fu:Nat):Ent := ⟨32,(.cons Y19 .nil),.nil,Y16,p32_1 fu⟩
theorem g32_1 (fu:Nat):(e32_1 fu).Good Try.prog := good_fx orders Try.func32 fu [(4,(.ent (e53_1 fu))),(9,(.ent (e54_1 fu)))] [] rs32 12 (l := [e53_1 fu,e54_1 fu]) ⟨g53_1 fu,g54_1 fu,trivial⟩
def rs56:List RVx := [(.tmp 2)]
def p56 (_:Nat):(Int)×(Unit)→Option ((Unit)×(Bool)) := fun ⟨a,_⟩ =>
bif (a==(1:Int)) then
 some ((),true)
else
 bif (a==(3:Int)) then
 some ((),true)
 else
 some ((),(a==(5:Int)))
def e56 (fu:Nat):Ent := ⟨56,(.cons (.hole (.int .i64)) .nil),.nil,(.hole .bool),p56 fu⟩
theorem g56 (fu:Nat):(e56 fu).Good Try.prog := good_fx orders Try.func56 fu [] [] rs56 13 (l := []) trivial
def rs98:List RVx := [(.tmp 2)]
def p98 (_:Nat):(Int)×(Unit)→Option ((Unit)×((List (Int))×(Unit))) := fun ⟨a,_⟩ =>
bif decide ((0:Int)≤0∧(0:Int)≤a∧(a:Int)≤9223372036854775807∧(1:Int) * a≤140737488355328) then
 bif decide (0=List.length (List.replicate 0 (0:Int):List (Int))) then
 some ((),((List.replicate 0 (0:Int):List (Int)),()))
 else none
else none
def e98 (fu:Nat):Ent := ⟨98,(.cons (.hole (.int .i64)) .nil),.nil,(.box 141 1 (.cons (.own .app 5 (.int .u8)) .nil)),p98 fu⟩
theorem g98 (fu:Nat):(e98 fu).Good Try.prog := good_fx orders Try.func98 fu [(2,(.ty (.int .u8)))] [] rs98 6 (l := []) trivial
def rs101:List RVx := [(.tmp 4)]
def p101 (_:Nat):((List (Int))×(Unit))×((List (Int))×(Unit))→Option ((((List (Int))×(Unit))×((Unit)×(Unit)))×(List (Int))) := fun ⟨⟨a,_⟩,c,_⟩ =>
bif ((List.length c:Int)==(0:Int)) then
 bif decide (List.length a=List.length a) then
 some (((a,()),(),()),[])
 else none
else
 bif decide (List.length a=List.length a) then
 bif decide (List.length a+List.length c≤maxLen∧(List.length a+List.length c) * 1≤140737488355328) then
 bif decide ((0:Int)≤((List.length (a ++ c)):Int)) then
 bif decide ((0:Int)≤((List.length (a ++ c)):Int)) then
 bif decide ((0:Int)≤((List.length a):Int)) then
 bif decide (Int.toNat ((List.length a):Int)≤Int.toNat ((List.length (a ++ c)):Int)∧Int.toNat ((List.length (a ++ c)):Int)≤Int.toNat ((List.length (a ++ c)):Int)∧Int.toNat ((List.length (a ++ c)):Int)≤List.length (a ++ c)∧0+(List.length (a ++ c))≤List.length (a ++ c)) then
 bif decide (List.length (a ++ c)=List.length (a ++ c)) then
 some ((((a ++ c),()),(),()),slice' (a ++ c) (Int.toNat ((List.length a):Int)) (some (Int.toNat ((List.length (a ++ c)):Int))))
 else none
 else none
 else none
 else none
 else none
 else none
 else none
def e101 (fu:Nat):Ent := ⟨101,(.cons (.box 141 1 (.cons (.own .app 5 (.int .u8)) .nil)) (.cons (.hole (.sl .saf (.int .u8))) .nil)),(.cons (.agg 1 (.cons (.own .app 5 (.int .u8)) .nil)) (.cons .dead .nil)),(.hole (.sl .new (.int .u8))),p101 fu⟩
theorem g101 (fu:Nat):(e101 fu).Good Try.prog := good_fx orders Try.func101 fu [(15,(.ty (.int .u8)))] [] rs101 32 (l := []) trivial
def rs100:List RVx := [(.cell 3 true 5)]
def p100 (fu:Nat):((Int)×((ByteArray)×((List (Int))×((Int)×((Int)×(Unit))))))×((((List (Int))×(Unit))×(Unit))×(Unit))→Option ((((Unit)×(Unit))×(((List (Int))×(Unit))×((Unit)×(Unit))))×((Int)×((ByteArray)×((List (Int))×((Int)×((Int)×(Unit))))))) := fun ⟨⟨a,c,f,h,i,_⟩,⟨⟨j,_⟩,_⟩,_⟩ =>
bif decide (List.length j=List.length j) then
 Option.bind (p101 fu ((j,()),f,())) fun ⟨⟨⟨k,_⟩,_,_⟩,l⟩ =>
 bif decide (List.length k=List.length k) then
 some ((((),()),(k,()),(),()),(a,c,l,h,i,()))
 else none
else none
def e100 (fu:Nat):Ent := ⟨100,(.cons Y21 (.cons (.box 137 1 (.cons (.box 141 1 (.cons (.own .app 5 (.int .u8)) .nil)) .nil)) .nil)),(.cons (.agg 1 (.cons (.ptr 1) .nil)) (.cons (.agg 1 (.cons (.own .app 5 (.int .u8)) .nil)) (.cons .dead .nil))),Y22,p100 fu⟩
theorem g100 (fu:Nat):(e100 fu).Good Try.prog := good_fx orders Try.func100 fu [(5,(.ent (e101 fu)))] [] rs100 10 (l := [e101 fu]) ⟨g101 fu,trivial⟩
def rs99:List RVx := [(.tmp 4)]
def p99 (fu:Nat):(List (D_api_Record))×(((Unit)×((((List (Int))×(Unit))×(Unit))×(Unit)))×(Unit))→Option ((((Unit)×(Unit))×(((List (Int))×(Unit))×((Unit)×(Unit))))×(List (D_api_Record))) := fun ⟨a,⟨_,⟨⟨⟨c,_⟩,_⟩,_⟩⟩,_⟩ =>
bif ((List.length a:Int)==(0:Int)) then
 bif decide (List.length c=List.length c) then
 some ((((),()),(c,()),(),()),[])
 else none
else
 bif decide ((0:Int)≤(List.length a:Int)∧((List.length a:Int):Int)≤(List.length a:Int)∧((List.length a:Int):Int)≤9223372036854775807∧(64:Int) * (List.length a:Int)≤140737488355328) then
 bif decide (Int.toNat (List.length a:Int)=List.length (List.replicate (Int.toNat (List.length a:Int)) ((0:Int),(⟨#[]⟩:ByteArray),[],(0:Int),(0:Int)):List (D_api_Record))) then
 bif decide (List.length c=List.length c) then
 loopO (S := ((List (D_api_Record))×((Int)×(Unit)))×(((Unit)×(Unit))×(((List (Int))×(Unit))×(Unit)))) fu (fun ⟨⟨f,h,_⟩,⟨⟨_,_⟩,⟨i,_⟩,_⟩⟩ =>
 bif decide (h<(List.length a:Int)) then
 bif decide ((0:Int)≤h∧h<(List.length a:Int)) then
 bif decide (Int.toNat h<List.length a) then
 bif decide (List.length i=List.length i) then
 Option.bind (p100 fu (((List.getD a (Int.toNat h) (dflt T_api_Record)).1,((List.getD a (Int.toNat h) (dflt T_api_Record)).2).1,(((List.getD a (Int.toNat h) (dflt T_api_Record)).2).2).1,((((List.getD a (Int.toNat h) (dflt T_api_Record)).2).2).2).1,((((List.getD a (Int.toNat h) (dflt T_api_Record)).2).2).2).2,()),((i,()),()),())) fun ⟨⟨⟨_,_⟩,⟨j,_⟩,_,_⟩,⟨k,l,m,n,o,_⟩⟩ =>
 bif decide ((0:Int)≤h∧h<(List.length f:Int)) then
 bif decide (Int.toNat h<List.length f) then
 bif decide (List.length f=List.length (List.set f (Int.toNat h) (k,l,m,n,o))) then
 bif decide (List.length j=List.length j) then
 some (.inl (((List.set f (Int.toNat h) (k,l,m,n,o)),IntKind.wrap .i64 (h+(1:Int)),()),(((),()),(j,()),())))
 else none
 else none
 else none
 else none
 else none
 else none
 else none
 else
 inrO (bif decide (List.length i=List.length i) then
 bif decide (List.length f=List.length f) then
 some ((((),()),(i,()),(),()),f)
 else none
 else none))
 (((List.replicate (Int.toNat (List.length a:Int)) ((0:Int),(⟨#[]⟩:ByteArray),[],(0:Int),(0:Int)):List (D_api_Record)),(0:Int),()),(((),()),(c,()),()))
 else none
 else none
 else none
def e99 (fu:Nat):Ent := ⟨99,(.cons (.hole (.sl .saf T_api_Record_s)) (.cons (.clo 100 0 .nil 1 (.cons (.box 137 1 (.cons (.box 141 1 (.cons (.own .app 5 (.int .u8)) .nil)) .nil)) .nil)) .nil)),(.cons (.agg 1 (.cons (.ptr 1) .nil)) (.cons (.agg 1 (.cons (.own .app 5 (.int .u8)) .nil)) (.cons .dead .nil))),(.own .own 133 T_api_Record_n),p99 fu⟩
theorem g99 (fu:Nat):(e99 fu).Good Try.prog := good_fx orders Try.func99 fu [(7,(.ty T_api_Record_n)),(23,(.ent (e100 fu)))] [(7,⟨[5,16],(.cons (.own .own 133 T_api_Record_n) (.cons (.hole (.int .i64)) .nil)),[(0,137,1),(1,141,1)],(.cons (.agg 1 (.cons (.ptr 1) .nil)) (.cons (.agg 1 (.cons (.own .app 5 (.int .u8)) .nil)) .nil)),[1,14,15],[2]⟩)] rs99 29 (l := [e100 fu]) ⟨g100 fu,trivial⟩
def rs93:List RVx := [(.tmp 2)]
def p93 (fu:Nat):(List (D_api_Record))×(Unit)→Option ((Unit)×(List (D_api_Record))) := fun ⟨a,_⟩ =>
loopO (S := ((Int)×((Int)×(Unit)))×(Unit)) fu (fun ⟨⟨c,f,_⟩,_⟩ =>
 bif decide (f<(List.length a:Int)) then
 bif decide ((0:Int)≤f∧f<(List.length a:Int)) then
 bif decide (Int.toNat f<List.length a) then
 some (.inl ((IntKind.wrap .i64 (c+(List.length ((((List.getD a (Int.toNat f) (dflt T_api_Record)).2).2).1):Int)),IntKind.wrap .i64 (f+(1:Int)),()),()))
 else none
 else none
 else
 inrO (Option.bind (p98 fu (c,())) fun ⟨_,⟨h,_⟩⟩ =>
 bif decide (List.length h=List.length h) then
 Option.bind (p99 fu (a,((),(((h,()),()),())),())) fun ⟨⟨⟨_,_⟩,⟨_,_⟩,_,_⟩,i⟩ =>
 bif decide (List.length i=List.length i) then
 some ((),i)
 else none
 else none))
 (((0:Int),(0:Int),()),())
def e93 (fu:Nat):Ent := ⟨93,(.cons (.hole (.sl .saf T_api_Record_s)) .nil),.nil,(.own .own 133 T_api_Record_n),p93 fu⟩
theorem g93 (fu:Nat):(e93 fu).Good Try.prog := good_fx orders Try.func93 fu [(20,(.ent (e98 fu))),(25,(.ent (e99 fu)))] [(4,⟨[3,8],(.cons (.hole (.int .i64)) (.cons (.hole (.int .i64)) .nil)),[],.nil,[0,7],[]⟩)] rs93 25 (l := [e98 fu,e99 fu]) ⟨g98 fu,g99 fu,trivial⟩
def rs80:List RVx := [(.cell 2 true 12)]
def p80 (fu:Nat):(Z23)×(Unit)→Option ((Unit)×((Int)×((Int)×((Int)×((Int)×((Int)×((Bool)×((List (D_api_Record))×((Int)×((List (D_api_Shard))×((Int)×((Int)×((Int)×(Unit)))))))))))))) := fun ⟨⟨a,c,f,h,i,j,k,l,m,n,o,q,_⟩,_⟩ =>
Option.bind (p93 fu (k,())) fun ⟨_,s⟩ =>
Option.bind (p52 fu (m,())) fun ⟨_,t⟩ =>
bif decide (List.length s=List.length s) then
 bif decide (List.length t=List.length t) then
 some ((),(a,c,f,h,i,j,s,l,t,n,o,q,()))
 else none
else none
def e80 (fu:Nat):Ent := ⟨80,(.cons Y24 .nil),.nil,Y25,p80 fu⟩
theorem g80 (fu:Nat):(e80 fu).Good Try.prog := good_fx orders Try.func80 fu [(5,(.ent (e93 fu))),(11,(.ent (e52 fu)))] [] rs80 14 (l := [e93 fu,e52 fu]) ⟨g93 fu,g52 fu,trivial⟩
def rs60:List RVx := []
def p60 (fu:Nat):(Z0)×((Z23)×(Unit))→Option (((Z26)×((Unit)×((Unit)×((Unit)×((Unit)×((Unit)×(Unit)))))))×(Unit)) := fun ⟨⟨a,c,f,h,i,j,_,_,_,_,_,_,_,_,_,_,_,_,_,_,_,_,_,_,_,_,k,_,_,_,_,_,l,m,n,o,q,s,t,u,w,x,y,_,z,a0,c0,f0,h0,i0,j0,k0,_,l0,m0,n0,o0,q0,s0,t0,u0,_,_,_,_,_,_,_,_,_,_,_,_,_,_⟩,⟨w0,x0,y0,z0,a1,c1,f1,h1,i1,j1,k1,l1,_⟩,_⟩ =>
Option.bind (p80 fu ((w0,x0,y0,z0,a1,c1,f1,h1,i1,j1,k1,l1,()),())) fun ⟨_,⟨m1,n1,o1,q1,s1,t1,u1,w1,x1,y1,z1,a2,_⟩⟩ =>
bif decide (List.length c=List.length c) then
 bif decide (List.length i=List.length i) then
 bif decide (List.length j=List.length j) then
 bif decide (List.length u1=List.length u1) then
 bif decide (List.length x1=List.length x1) then
 some (((a,c,f,h,i,j,false,(0:Int),(⟨#[]⟩:ByteArray),(⟨#[]⟩:ByteArray),(),(0:Int),(0:Int),(⟨#[]⟩:ByteArray),(0:Int),(0:Int),(0:Int),(⟨#[]⟩:ByteArray),(),(0:Int),(0:Int),(⟨#[]⟩:ByteArray),(0:Int),(0:Int),(0:Int),(0:Int),k,false,(0:Int),(0:Int),(0:Int),false,l,m,n,o,q,s,t,u,w,x,y,(),z,a0,c0,f0,h0,i0,j0,k0,(),l0,m0,n0,o0,q0,s0,t0,u0,true,m1,n1,o1,q1,s1,t1,u1,w1,x1,y1,z1,a2,()),(),(),(),(),(),()),())
 else none
 else none
 else none
 else none
else none
def e60 (fu:Nat):Ent := ⟨60,(.cons Y27 (.cons Y24 .nil)),(.cons Y28 (.cons .dead (.cons .dead (.cons .dead (.cons .dead (.cons .dead .nil)))))),(.tup 0 .nil),p60 fu⟩
theorem g60 (fu:Nat):(e60 fu).Good Try.prog := good_fx orders Try.func60 fu [(4,(.ent (e80 fu)))] [] rs60 43 (l := [e80 fu]) ⟨g80 fu,trivial⟩
def rs63:List RVx := []
def p63 (fu:Nat):(Z0)×(Unit)→Option (((Z26)×((Unit)×((Unit)×((Unit)×((Unit)×((Unit)×(Unit)))))))×(Unit)) := fun ⟨⟨a,c,f,h,i,j,k,l,m,n,o,q,s,t,u,w,x,y,z,a0,c0,f0,h0,i0,j0,k0,l0,m0,n0,o0,q0,s0,t0,u0,w0,x0,y0,z0,a1,c1,f1,h1,i1,_,j1,k1,l1,m1,n1,o1,q1,s1,_,t1,u1,w1,x1,y1,z1,a2,c2,f2,h2,i2,j2,k2,l2,m2,_,n2,_,o2,q2,s2,_⟩,_⟩ =>
bif decide (List.length c=List.length c) then
 bif decide (List.length i=List.length i) then
 bif decide (List.length j=List.length j) then
 bif decide (List.length o=List.length o) then
 bif decide (List.length z=List.length z) then
 Option.bind (p60 fu ((a,c,f,h,i,j,k,l,m,n,o,q,s,t,u,w,x,y,z,a0,c0,f0,h0,i0,j0,k0,l0,m0,n0,o0,q0,s0,t0,u0,w0,x0,y0,z0,a1,c1,f1,h1,i1,(),j1,k1,l1,m1,n1,o1,q1,s1,(),t1,u1,w1,x1,y1,z1,a2,c2,f2,h2,i2,j2,k2,l2,m2,(),n2,(),o2,q2,s2,()),((0:Int),(213:Int),(0:Int),(0:Int),(0:Int),false,[],(0:Int),[],(0:Int),(0:Int),(0:Int),()),())) fun ⟨⟨⟨t2,u2,w2,x2,y2,z2,a3,c3,f3,h3,_,i3,j3,k3,l3,m3,n3,o3,_,q3,s3,t3,u3,w3,x3,y3,z3,a4,c4,f4,h4,i4,j4,k4,l4,m4,n4,o4,q4,s4,t4,u4,w4,_,x4,y4,z4,a5,c5,f5,h5,i5,_,j5,k5,l5,m5,n5,o5,q5,s5,t5,u5,w5,x5,y5,z5,a6,c6,f6,h6,i6,j6,k6,_⟩,_,_,_,_,_,_⟩,_⟩ =>
 bif decide (List.length u2=List.length u2) then
 bif decide (List.length y2=List.length y2) then
 bif decide (List.length z2=List.length z2) then
 bif decide (List.length c6=List.length c6) then
 bif decide (List.length h6=List.length h6) then
 some (((t2,u2,w2,x2,y2,z2,a3,c3,f3,h3,(),i3,j3,k3,l3,m3,n3,o3,(),q3,s3,t3,u3,w3,x3,y3,z3,a4,c4,f4,h4,i4,j4,k4,l4,m4,n4,o4,q4,s4,t4,u4,w4,(),x4,y4,z4,a5,c5,f5,h5,i5,(),j5,k5,l5,m5,n5,o5,q5,s5,t5,u5,w5,x5,y5,z5,a6,c6,f6,h6,i6,j6,k6,()),(),(),(),(),(),()),())
 else none
 else none
 else none
 else none
 else none
 else none
 else none
 else none
 else none
else none
def e63 (fu:Nat):Ent := ⟨63,(.cons Y27 .nil),(.cons Y28 (.cons .dead (.cons .dead (.cons .dead (.cons .dead (.cons .dead .nil)))))),(.tup 0 .nil),p63 fu⟩
theorem g63 (fu:Nat):(e63 fu).Good Try.prog := good_fx orders Try.func63 fu [(2,(.ent (e60 fu)))] [] rs63 5 (l := [e60 fu]) ⟨g60 fu,trivial⟩
def rs79:List RVx := [(.tmp 2)]
def p79 (_:Nat):(Int)×(Unit)→Option ((Unit)×((Unit)×(((Int)×(Unit))×(Unit)))) := fun ⟨a,_⟩ =>
some ((),((),((a,()),())))
def e79 (fu:Nat):Ent := ⟨79,(.cons (.hole (.int .u64)) .nil),.nil,(.clo 92 0 .nil 1 (.cons (.box 25 1 (.cons (.hole (.int .u64)) .nil)) .nil)),p79 fu⟩
theorem g79 (fu:Nat):(e79 fu).Good Try.prog := good_fx orders Try.func79 fu [] [] rs79 4 (l := []) trivial
def rs92:List RVx := [(.tmp 3)]
def p92 (_:Nat):((Int)×((Int)×(Unit)))×(((Int)×(Unit))×(Unit))→Option ((Unit)×(Bool)) := fun ⟨⟨a,_,_⟩,⟨c,_⟩,_⟩ =>
some ((),(a==c))
def e92 (fu:Nat):Ent := ⟨92,(.cons (.agg 2 (.cons (.hole (.int .u64)) (.cons (.hole (.int .i64)) .nil))) (.cons (.look (.cons (.hole (.int .u64)) .nil)) .nil)),.nil,(.hole .bool),p92 fu⟩
theorem g92 (fu:Nat):(e92 fu).Good Try.prog := good_fx orders Try.func92 fu [] [] rs92 8 (l := []) trivial
def rs91:List RVx := [(.tmp 4)]
def p91 (fu:Nat):(List (D_api_Site))×(((Unit)×(((Int)×(Unit))×(Unit)))×(Unit))→Option ((((Int)×(Unit))×(Unit))×(Int)) := fun ⟨a,⟨_,⟨⟨c,_⟩,_⟩⟩,_⟩ =>
loopO (S := ((Int)×(Unit))×(Unit)) fu (fun ⟨⟨f,_⟩,_⟩ =>
 bif decide (f<(List.length a:Int)) then
 bif decide ((0:Int)≤f∧f<(List.length a:Int)) then
 bif decide (Int.toNat f<List.length a) then
 Option.bind (p92 fu (((List.getD a (Int.toNat f) (dflt T_api_Site)).1,(List.getD a (Int.toNat f) (dflt T_api_Site)).2,()),(c,()),())) fun ⟨_,h⟩ =>
 bif h then
 inrO (some (((c,()),()),f))
 else
 some (.inl ((IntKind.wrap .i64 (f+(1:Int)),()),()))
 else none
 else none
 else
 inrO (some (((c,()),()),((-1):Int))))
 (((0:Int),()),())
def e91 (fu:Nat):Ent := ⟨91,(.cons (.hole (.sl .any T_api_Site)) (.cons (.clo 92 0 .nil 1 (.cons (.box 25 1 (.cons (.hole (.int .u64)) .nil)) .nil)) .nil)),(.cons (.agg 1 (.cons (.hole (.int .u64)) .nil)) .nil),(.hole (.int .i64)),p91 fu⟩
theorem g91 (fu:Nat):(e91 fu).Good Try.prog := good_fx orders Try.func91 fu [(12,(.ent (e92 fu)))] [(3,⟨[8],(.cons (.hole (.int .i64)) .nil),[],.nil,[0,1,7],[0]⟩)] rs91 19 (l := [e92 fu]) ⟨g92 fu,trivial⟩
def rs86:List RVx := [(.tmp 2)]
def p86 (_:Nat):(Z3)×(Unit)→Option ((Unit)×(Int)) := fun ⟨⟨_,a,_,_,_,_,_,_,_,_,_,_,_,_,_,_,_,_,_,_,_,_,_,_,_,_,_,_,_,_,_,_,c,_,_,_,_,_,_,_,_,_,_,_,_,_,_,_,_,_,_,_,_,_,_,_,_,_,_,_,_,_,_,_,_,_,_,_,_,_,_,_,_,_,_⟩,_⟩ =>
bif ((List.length a:Int)==(0:Int)) then
 some ((),(0:Int))
else
 bif !((List.length a:Int)==0) then
 bif !((List.length a:Int)==0) then
 bif decide ((0:Int)≤Int.tmod (IntKind.wrap .i64 ((Int.tmod c (List.length a:Int))+(List.length a:Int))) (List.length a:Int)∧Int.tmod (IntKind.wrap .i64 ((Int.tmod c (List.length a:Int))+(List.length a:Int))) (List.length a:Int)<(List.length a:Int)) then
 bif decide (Int.toNat (Int.tmod (IntKind.wrap .i64 ((Int.tmod c (List.length a:Int))+(List.length a:Int))) (List.length a:Int))<List.length a) then
 some ((),(List.getD a (Int.toNat (Int.tmod (IntKind.wrap .i64 ((Int.tmod c (List.length a:Int))+(List.length a:Int))) (List.length a:Int))) (dflt (.int .i64))))
 else none
 else none
 else none
 else none
def e86 (fu:Nat):Ent := ⟨86,(.cons (.look (.cons (.hole (.int .i64)) (.cons (.hole (.sl .any (.int .i64))) (.cons (.hole (.int .u64)) (.cons (.hole (.int .u64)) (.cons (.hole (.sl .any T_api_Topic)) (.cons (.hole (.sl .any T_api_Site)) (.cons (.hole .bool) (.cons (.hole (.int .i64)) (.cons (.hole .str) (.cons (.hole .str) (.cons (.hole (.sl .any (.int .u8))) (.cons (.hole (.int .u64)) (.cons (.hole (.int .i64)) (.cons (.hole .str) (.cons (.hole (.int .i64)) (.cons (.hole (.int .u64)) (.cons (.hole (.int .u64)) (.cons (.hole .str) (.cons (.hole (.sl .any (.int .i64))) (.cons (.hole (.int .u64)) (.cons (.hole (.int .u64)) (.cons (.hole .str) (.cons (.hole (.int .i64)) (.cons (.hole (.int .i64)) (.cons (.hole (.int .u64)) (.cons (.hole (.int .i64)) (.cons (.hole (.int .u64)) (.cons (.hole .bool) (.cons (.hole (.int .u64)) (.cons (.hole (.int .i64)) (.cons (.hole (.int .i64)) (.cons (.hole .bool) (.cons (.hole (.int .i64)) (.cons (.hole .bool) (.cons (.hole (.int .i64)) (.cons (.hole (.int .u64)) (.cons (.hole (.int .i64)) (.cons (.hole (.int .u64)) (.cons (.hole (.int .i64)) (.cons (.hole (.int .u64)) (.cons (.hole (.int .u64)) (.cons (.hole (.int .u64)) (.cons (.hole .str) (.cons (.hole (.sl .any (.int .u8))) (.cons (.hole (.int .u64)) (.cons (.hole (.int .i64)) (.cons (.hole .str) (.cons (.hole (.int .u64)) (.cons (.hole (.int .i64)) (.cons (.hole (.int .u64)) (.cons (.hole (.int .u64)) (.cons (.hole .str) (.cons (.hole (.sl .any (.int .i64))) (.cons (.hole (.int .u64)) (.cons (.hole (.int .u64)) (.cons (.hole .str) (.cons (.hole (.int .i64)) (.cons (.hole (.int .i64)) (.cons (.hole (.int .u64)) (.cons (.hole (.int .i64)) (.cons (.hole .str) (.cons (.hole .bool) (.cons (.hole (.int .u64)) (.cons (.hole (.int .i64)) (.cons (.hole (.int .i64)) (.cons (.hole (.int .i64)) (.cons (.hole (.int .u64)) (.cons (.hole .bool) (.cons (.hole (.sl .any T_api_Record)) (.cons (.hole (.int .u64)) (.cons (.hole (.sl .any T_api_Shard)) (.cons (.hole (.int .u64)) (.cons (.hole (.int .u64)) (.cons (.hole (.int .u64)) .nil))))))))))))))))))))))))))))))))))))))))))))))))))))))))))))))))))))))))))) .nil),.nil,(.hole (.int .i64)),p86 fu⟩
theorem g86 (fu:Nat):(e86 fu).Good Try.prog := good_fx orders Try.func86 fu [] [] rs86 30 (l := []) trivial
def rs85:List RVx := [(.tmp 4)]
def p85 (fu:Nat):(Z3)×((Int)×(Unit))→Option ((Unit)×(Int)) := fun ⟨⟨a,c,f,h,i,j,k,l,m,n,o,q,s,t,u,w,x,y,z,a0,c0,f0,h0,i0,j0,k0,l0,m0,n0,o0,q0,s0,t0,u0,w0,x0,y0,z0,a1,c1,f1,h1,i1,j1,k1,l1,m1,n1,o1,q1,s1,t1,u1,w1,x1,y1,z1,a2,c2,f2,h2,i2,j2,k2,l2,m2,n2,o2,q2,s2,t2,u2,w2,x2,_⟩,y2,_⟩ =>
Option.bind (p79 fu (y2,())) fun ⟨_,⟨_,⟨⟨z2,_⟩,_⟩⟩⟩ =>
Option.bind (p91 fu (j,((),((z2,()),())),())) fun ⟨⟨⟨_,_⟩,_⟩,a3⟩ =>
bif decide (a3≥(0:Int)) then
 bif decide ((0:Int)≤a3∧a3<(List.length j:Int)) then
 bif decide (Int.toNat a3<List.length j) then
 some ((),(List.getD j (Int.toNat a3) (dflt T_api_Site)).2)
 else none
 else none
else
 Option.bind (p86 fu ((a,c,f,h,i,j,k,l,m,n,o,q,s,t,u,w,x,y,z,a0,c0,f0,h0,i0,j0,k0,l0,m0,n0,o0,q0,s0,t0,u0,w0,x0,y0,z0,a1,c1,f1,h1,i1,j1,k1,l1,m1,n1,o1,q1,s1,t1,u1,w1,x1,y1,z1,a2,c2,f2,h2,i2,j2,k2,l2,m2,n2,o2,q2,s2,t2,u2,w2,x2,()),())) fun ⟨_,c3⟩ =>
 some ((),c3)
def e85 (fu:Nat):Ent := ⟨85,(.cons (.look (.cons (.hole (.int .i64)) (.cons (.hole (.sl .any (.int .i64))) (.cons (.hole (.int .u64)) (.cons (.hole (.int .u64)) (.cons (.hole (.sl .any T_api_Topic)) (.cons (.hole (.sl .any T_api_Site)) (.cons (.hole .bool) (.cons (.hole (.int .i64)) (.cons (.hole .str) (.cons (.hole .str) (.cons (.hole (.sl .any (.int .u8))) (.cons (.hole (.int .u64)) (.cons (.hole (.int .i64)) (.cons (.hole .str) (.cons (.hole (.int .i64)) (.cons (.hole (.int .u64)) (.cons (.hole (.int .u64)) (.cons (.hole .str) (.cons (.hole (.sl .any (.int .i64))) (.cons (.hole (.int .u64)) (.cons (.hole (.int .u64)) (.cons (.hole .str) (.cons (.hole (.int .i64)) (.cons (.hole (.int .i64)) (.cons (.hole (.int .u64)) (.cons (.hole (.int .i64)) (.cons (.hole (.int .u64)) (.cons (.hole .bool) (.cons (.hole (.int .u64)) (.cons (.hole (.int .i64)) (.cons (.hole (.int .i64)) (.cons (.hole .bool) (.cons (.hole (.int .i64)) (.cons (.hole .bool) (.cons (.hole (.int .i64)) (.cons (.hole (.int .u64)) (.cons (.hole (.int .i64)) (.cons (.hole (.int .u64)) (.cons (.hole (.int .i64)) (.cons (.hole (.int .u64)) (.cons (.hole (.int .u64)) (.cons (.hole (.int .u64)) (.cons (.hole .str) (.cons (.hole (.sl .any (.int .u8))) (.cons (.hole (.int .u64)) (.cons (.hole (.int .i64)) (.cons (.hole .str) (.cons (.hole (.int .u64)) (.cons (.hole (.int .i64)) (.cons (.hole (.int .u64)) (.cons (.hole (.int .u64)) (.cons (.hole .str) (.cons (.hole (.sl .any (.int .i64))) (.cons (.hole (.int .u64)) (.cons (.hole (.int .u64)) (.cons (.hole .str) (.cons (.hole (.int .i64)) (.cons (.hole (.int .i64)) (.cons (.hole (.int .u64)) (.cons (.hole (.int .i64)) (.cons (.hole .str) (.cons (.hole .bool) (.cons (.hole (.int .u64)) (.cons (.hole (.int .i64)) (.cons (.hole (.int .i64)) (.cons (.hole (.int .i64)) (.cons (.hole (.int .u64)) (.cons (.hole .bool) (.cons (.hole (.sl .any T_api_Record)) (.cons (.hole (.int .u64)) (.cons (.hole (.sl .any T_api_Shard)) (.cons (.hole (.int .u64)) (.cons (.hole (.int .u64)) (.cons (.hole (.int .u64)) .nil))))))))))))))))))))))))))))))))))))))))))))))))))))))))))))))))))))))))))) (.cons (.hole (.int .u64)) .nil)),.nil,(.hole (.int .i64)),p85 fu⟩
theorem g85 (fu:Nat):(e85 fu).Good Try.prog := good_fx orders Try.func85 fu [(7,(.ent (e79 fu))),(8,(.ent (e91 fu))),(23,(.ent (e86 fu)))] [] rs85 27 (l := [e79 fu,e91 fu,e86 fu]) ⟨g79 fu,g91 fu,g86 fu,trivial⟩
def rs76:List RVx := [(.tmp 2)]
def p76 (_:Nat):(ByteArray)×(Unit)→Option ((Unit)×((Unit)×(((ByteArray)×(Unit))×(Unit)))) := fun ⟨a,_⟩ =>
some ((),((),((a,()),())))
def e76 (fu:Nat):Ent := ⟨76,(.cons (.hole .str) .nil),.nil,(.clo 89 0 .nil 1 (.cons (.box 9 1 (.cons (.hole .str) .nil)) .nil)),p76 fu⟩
theorem g76 (fu:Nat):(e76 fu).Good Try.prog := good_fx orders Try.func76 fu [] [] rs76 4 (l := []) trivial
def rs95:List RVx := [(.tmp 2)]
def p95 (_:Nat):(ByteArray)×(Unit)→Option ((Unit)×(Bool)) := fun ⟨a,_⟩ =>
some ((),decide ((ByteArray.size a:Int)≤(32:Int)))
def e95 (fu:Nat):Ent := ⟨95,(.cons (.hole .str) .nil),.nil,(.hole .bool),p95 fu⟩
theorem g95 (fu:Nat):(e95 fu).Good Try.prog := good_fx orders Try.func95 fu [] [] rs95 6 (l := []) trivial
def rs96:List RVx := [(.cell 2 true 2)]
def p96 (_:Nat):((ByteArray)×((ByteArray)×(Unit)))×(Unit)→Option ((Unit)×((ByteArray)×((Bool)×(Unit)))) := fun ⟨⟨_,a,_⟩,_⟩ =>
some ((),(a,ByteArray.toList a==ByteArray.toList (⟨#[]⟩:ByteArray),()))
def e96 (fu:Nat):Ent := ⟨96,(.cons (.agg 2 (.cons (.hole .str) (.cons (.hole .str) .nil))) .nil),.nil,(.agg 2 (.cons (.hole .str) (.cons (.hole .bool) .nil))),p96 fu⟩
theorem g96 (fu:Nat):(e96 fu).Good Try.prog := good_fx orders Try.func96 fu [] [] rs96 9 (l := []) trivial
def rs97:List RVx := [(.tmp 4)]
def p97 (_:Nat):((ByteArray)×((Bool)×(Unit)))×((ByteArray)×(Unit))→Option ((Unit)×(Bool)) := fun ⟨⟨a,c,_⟩,f,_⟩ =>
bif c then
 some ((),true)
else
 some ((),!(Op.bytesLess (ByteArray.toList a) (ByteArray.toList f)||ByteArray.toList a==ByteArray.toList f))
def e97 (fu:Nat):Ent := ⟨97,(.cons (.agg 2 (.cons (.hole .str) (.cons (.hole .bool) .nil))) (.cons (.hole .str) .nil)),.nil,(.hole .bool),p97 fu⟩
theorem g97 (fu:Nat):(e97 fu).Good Try.prog := good_fx orders Try.func97 fu [] [] rs97 13 (l := []) trivial
def rs94:List RVx := [(.tmp 2)]
def p94 (fu:Nat):((ByteArray)×((ByteArray)×(Unit)))×(Unit)→Option ((Unit)×(Int)) := fun ⟨⟨a,c,_⟩,_⟩ =>
Option.bind (p95 fu (a,())) fun ⟨_,f⟩ =>
bif !f then
 some ((),(131:Int))
else
 Option.bind (p95 fu (c,())) fun ⟨_,h⟩ =>
 bif !h then
 some ((),(131:Int))
 else
 Option.bind (p96 fu ((a,c,()),())) fun ⟨_,⟨i,j,_⟩⟩ =>
 Option.bind (p97 fu ((i,j,()),a,())) fun ⟨_,k⟩ =>
 bif !k then
 some ((),(132:Int))
 else
 some ((),(0:Int))
def e94 (fu:Nat):Ent := ⟨94,(.cons (.agg 2 (.cons (.hole .str) (.cons (.hole .str) .nil))) .nil),.nil,(.hole (.int .i64)),p94 fu⟩
theorem g94 (fu:Nat):(e94 fu).Good Try.prog := good_fx orders Try.func94 fu [(4,(.ent (e95 fu))),(9,(.ent (e95 fu))),(14,(.ent (e96 fu))),(17,(.ent (e97 fu)))] [] rs94 19 (l := [e95 fu,e95 fu,e96 fu,e97 fu]) ⟨g95 fu,g95 fu,g96 fu,g97 fu,trivial⟩
def rs90:List RVx := [(.tmp 4)]
def p90 (fu:Nat):((ByteArray)×((ByteArray)×(Unit)))×((ByteArray)×(Unit))→Option ((Unit)×(Bool)) := fun ⟨⟨a,c,_⟩,f,_⟩ =>
Option.bind (p94 fu ((a,c,()),())) fun ⟨_,h⟩ =>
bif (h==(0:Int)) then
 Option.bind (p95 fu (f,())) fun ⟨_,i⟩ =>
 bif i then
 bif !Op.bytesLess (ByteArray.toList f) (ByteArray.toList a) then
 Option.bind (p96 fu ((a,c,()),())) fun ⟨_,⟨j,k,_⟩⟩ =>
 Option.bind (p97 fu ((j,k,()),f,())) fun ⟨_,l⟩ =>
 some ((),l)
 else
 some ((),false)
 else
 some ((),false)
else
 some ((),false)
def e90 (fu:Nat):Ent := ⟨90,(.cons (.agg 2 (.cons (.hole .str) (.cons (.hole .str) .nil))) (.cons (.hole .str) .nil)),.nil,(.hole .bool),p90 fu⟩
theorem g90 (fu:Nat):(e90 fu).Good Try.prog := good_fx orders Try.func90 fu [(3,(.ent (e94 fu))),(7,(.ent (e95 fu))),(17,(.ent (e96 fu))),(19,(.ent (e97 fu)))] [] rs90 24 (l := [e94 fu,e95 fu,e96 fu,e97 fu]) ⟨g94 fu,g95 fu,g96 fu,g97 fu,trivial⟩
def rs89:List RVx := [(.tmp 3)]
def p89_1 (_:Nat):((ByteArray)×((List (D_api_Shard))×(Unit)))×(((ByteArray)×(Unit))×(Unit))→Option ((Unit)×(Bool)) := fun ⟨⟨a,_,_⟩,⟨c,_⟩,_⟩ =>
some ((),ByteArray.toList a==ByteArray.toList c)
def e89_1 (fu:Nat):Ent := ⟨89,(.cons (.agg 2 (.cons (.hole .str) (.cons (.hole (.sl .saf T_api_Shard_s)) .nil))) (.cons (.look (.cons (.hole .str) .nil)) .nil)),.nil,(.hole .bool),p89_1 fu⟩
theorem g89_1 (fu:Nat):(e89_1 fu).Good Try.prog := good_fx orders Try.func89 fu [] [] rs89 8 (l := []) trivial
def rs88:List RVx := [(.tmp 4)]
def p88_1 (fu:Nat):(List (D_api_Topic))×(((Unit)×(((ByteArray)×(Unit))×(Unit)))×(Unit))→Option ((((ByteArray)×(Unit))×(Unit))×(Int)) := fun ⟨a,⟨_,⟨⟨c,_⟩,_⟩⟩,_⟩ =>
loopO (S := ((Int)×(Unit))×(Unit)) fu (fun ⟨⟨f,_⟩,_⟩ =>
 bif decide (f<(List.length a:Int)) then
 bif decide ((0:Int)≤f∧f<(List.length a:Int)) then
 bif decide (Int.toNat f<List.length a) then
 Option.bind (p89_1 fu (((List.getD a (Int.toNat f) (dflt T_api_Topic)).1,(List.getD a (Int.toNat f) (dflt T_api_Topic)).2,()),(c,()),())) fun ⟨_,h⟩ =>
 bif h then
 inrO (some (((c,()),()),f))
 else
 some (.inl ((IntKind.wrap .i64 (f+(1:Int)),()),()))
 else none
 else none
 else
 inrO (some (((c,()),()),((-1):Int))))
 (((0:Int),()),())
def e88_1 (fu:Nat):Ent := ⟨88,(.cons (.hole (.sl .any T_api_Topic_s)) (.cons (.clo 89 0 .nil 1 (.cons (.box 9 1 (.cons (.hole .str) .nil)) .nil)) .nil)),(.cons (.agg 1 (.cons (.hole .str) .nil)) .nil),(.hole (.int .i64)),p88_1 fu⟩
theorem g88_1 (fu:Nat):(e88_1 fu).Good Try.prog := good_fx orders Try.func88 fu [(12,(.ent (e89_1 fu)))] [(3,⟨[8],(.cons (.hole (.int .i64)) .nil),[],.nil,[0,1,7],[0]⟩)] rs88 19 (l := [e89_1 fu]) ⟨g89_1 fu,trivial⟩
def rs77:List RVx := [(.cell 2 true 7),(.tmp 3)]
def p77_1 (fu:Nat):(Z0)×(Unit)→Option (((Z0)×((Unit)×((Unit)×((Unit)×((Unit)×((Unit)×(Unit)))))))×((Z8)×((Bool)×(Unit)))) := fun ⟨⟨a,c,f,h,i,j,k,l,m,n,o,q,s,t,u,w,x,y,z,a0,c0,f0,h0,i0,j0,k0,l0,m0,n0,o0,q0,s0,t0,u0,w0,x0,y0,z0,a1,c1,f1,h1,i1,_,j1,k1,l1,m1,n1,o1,q1,s1,_,t1,u1,w1,x1,y1,z1,a2,c2,f2,h2,i2,j2,k2,l2,m2,_,n2,_,o2,q2,s2,_⟩,_⟩ =>
Option.bind (p76 fu (m,())) fun ⟨_,⟨_,⟨⟨t2,_⟩,_⟩⟩⟩ =>
bif decide (List.length i=List.length i) then
 Option.bind (p88_1 fu (i,((),((t2,()),())),())) fun ⟨⟨⟨_,_⟩,_⟩,u2⟩ =>
 bif decide (u2<(0:Int)) then
 bif decide (List.length c=List.length c) then
 bif decide (List.length i=List.length i) then
 bif decide (List.length j=List.length j) then
 bif decide (List.length o=List.length o) then
 bif decide (List.length z=List.length z) then
 some (((a,c,f,h,i,j,k,l,m,n,o,q,s,t,u,w,x,y,z,a0,c0,f0,h0,i0,j0,k0,l0,m0,n0,o0,q0,s0,t0,u0,w0,x0,y0,z0,a1,c1,f1,h1,i1,(),j1,k1,l1,m1,n1,o1,q1,s1,(),t1,u1,w1,x1,y1,z1,a2,c2,f2,h2,i2,j2,k2,l2,m2,(),n2,(),o2,q2,s2,()),(),(),(),(),(),()),(((0:Int),(⟨#[]⟩:ByteArray),(⟨#[]⟩:ByteArray),(0:Int),[],[],(0:Int),()),false,()))
 else none
 else none
 else none
 else none
 else none
 else
 bif decide ((0:Int)≤u2∧u2<(List.length i:Int)) then
 bif decide (Int.toNat u2<List.length i) then
 loopO (S := ((Int)×(Unit))×(Unit)) fu (fun ⟨⟨w2,_⟩,_⟩ =>
 bif decide (w2<(List.length ((List.getD i (Int.toNat u2) (dflt T_api_Topic)).2):Int)) then
 bif decide ((0:Int)≤w2∧w2<(List.length ((List.getD i (Int.toNat u2) (dflt T_api_Topic)).2):Int)) then
 bif decide (Int.toNat w2<List.length ((List.getD i (Int.toNat u2) (dflt T_api_Topic)).2)) then
 Option.bind (p90 fu (((((List.getD ((List.getD i (Int.toNat u2) (dflt T_api_Topic)).2) (Int.toNat w2) (dflt T_api_Shard)).2).1).1,(((List.getD ((List.getD i (Int.toNat u2) (dflt T_api_Topic)).2) (Int.toNat w2) (dflt T_api_Shard)).2).1).2,()),n,())) fun ⟨_,x2⟩ =>
 bif x2 then
 inrO (bif decide (List.length c=List.length c) then
 bif decide (List.length i=List.length i) then
 bif decide (List.length j=List.length j) then
 bif decide (List.length o=List.length o) then
 bif decide (List.length z=List.length z) then
 some (((a,c,f,h,i,j,k,l,m,n,o,q,s,t,u,w,x,y,z,a0,c0,f0,h0,i0,j0,k0,l0,m0,n0,o0,q0,s0,t0,u0,w0,x0,y0,z0,a1,c1,f1,h1,i1,(),j1,k1,l1,m1,n1,o1,q1,s1,(),t1,u1,w1,x1,y1,z1,a2,c2,f2,h2,i2,j2,k2,l2,m2,(),n2,(),o2,q2,s2,()),(),(),(),(),(),()),(((List.getD ((List.getD i (Int.toNat u2) (dflt T_api_Topic)).2) (Int.toNat w2) (dflt T_api_Shard)).1,(((List.getD ((List.getD i (Int.toNat u2) (dflt T_api_Topic)).2) (Int.toNat w2) (dflt T_api_Shard)).2).1).1,(((List.getD ((List.getD i (Int.toNat u2) (dflt T_api_Topic)).2) (Int.toNat w2) (dflt T_api_Shard)).2).1).2,(((List.getD ((List.getD i (Int.toNat u2) (dflt T_api_Topic)).2) (Int.toNat w2) (dflt T_api_Shard)).2).2).1,((((List.getD ((List.getD i (Int.toNat u2) (dflt T_api_Topic)).2) (Int.toNat w2) (dflt T_api_Shard)).2).2).2).1,(((((List.getD ((List.getD i (Int.toNat u2) (dflt T_api_Topic)).2) (Int.toNat w2) (dflt T_api_Shard)).2).2).2).2).1,(((((List.getD ((List.getD i (Int.toNat u2) (dflt T_api_Topic)).2) (Int.toNat w2) (dflt T_api_Shard)).2).2).2).2).2,()),true,()))
 else none
 else none
 else none
 else none
 else none)
 else
 some (.inl ((IntKind.wrap .i64 (w2+(1:Int)),()),()))
 else none
 else none
 else
 inrO (bif decide (List.length c=List.length c) then
 bif decide (List.length i=List.length i) then
 bif decide (List.length j=List.length j) then
 bif decide (List.length o=List.length o) then
 bif decide (List.length z=List.length z) then
 some (((a,c,f,h,i,j,k,l,m,n,o,q,s,t,u,w,x,y,z,a0,c0,f0,h0,i0,j0,k0,l0,m0,n0,o0,q0,s0,t0,u0,w0,x0,y0,z0,a1,c1,f1,h1,i1,(),j1,k1,l1,m1,n1,o1,q1,s1,(),t1,u1,w1,x1,y1,z1,a2,c2,f2,h2,i2,j2,k2,l2,m2,(),n2,(),o2,q2,s2,()),(),(),(),(),(),()),(((0:Int),(⟨#[]⟩:ByteArray),(⟨#[]⟩:ByteArray),(0:Int),[],[],(0:Int),()),false,()))
 else none
 else none
 else none
 else none
 else none))
 (((0:Int),()),())
 else none
 else none
else none
def e77_1 (fu:Nat):Ent := ⟨77,(.cons Y27 .nil),(.cons Y29 (.cons .dead (.cons .dead (.cons .dead (.cons .dead (.cons .dead .nil)))))),(.tup 2 (.cons Y30 (.cons (.hole .bool) .nil))),p77_1 fu⟩
theorem g77_1 (fu:Nat):(e77_1 fu).Good Try.prog := good_fx orders Try.func77 fu [(13,(.ent (e76 fu))),(14,(.ent (e88_1 fu))),(45,(.ent (e90 fu)))] [(7,⟨[33],(.cons (.hole (.int .i64)) .nil),[],.nil,[0,2,31,32],[0,1,2,3,4,5,7,8,9,10,11,12]⟩)] rs77 49 (l := [e76 fu,e88_1 fu,e90 fu]) ⟨g76 fu,g88_1 fu,g90 fu,trivial⟩
def rs87:List RVx := [(.cell 4 true 10)]
def p87 (fu:Nat):(Z3)×((Int)×(Unit))→Option ((Unit)×((Int)×((Int)×((Int)×((Int)×((ByteArray)×((List (Int))×((Int)×((Int)×((ByteArray)×((Int)×(Unit)))))))))))) := fun ⟨⟨_,_,a,c,_,_,_,f,_,h,i,j,k,l,_,_,_,_,_,_,_,_,_,_,_,_,_,_,_,_,_,_,_,_,_,_,_,_,_,_,_,_,_,_,_,_,_,_,_,_,_,_,_,_,_,_,_,_,_,_,_,_,_,_,_,_,_,_,_,_,_,_,_,_,_⟩,m,_⟩ =>
bif (f==(1:Int)) then
 Option.bind (p53_1 fu (i,())) fun ⟨_,n⟩ =>
 bif decide (List.length n=List.length n) then
 some ((),((1:Int),m,a,c,h,n,(0:Int),(0:Int),(⟨#[]⟩:ByteArray),(0:Int),()))
 else none
else
 bif (f==(2:Int)) then
 some ((),((2:Int),m,(0:Int),(0:Int),(⟨#[]⟩:ByteArray),[],j,k,(⟨#[]⟩:ByteArray),(0:Int),()))
 else
 bif (f==(3:Int)) then
 some ((),((3:Int),m,a,c,(⟨#[]⟩:ByteArray),[],j,(0:Int),l,(0:Int),()))
 else
 some ((),((4:Int),m,(0:Int),(0:Int),(⟨#[]⟩:ByteArray),[],(0:Int),(0:Int),l,(0:Int),()))
def e87 (fu:Nat):Ent := ⟨87,(.cons (.look (.cons (.hole (.int .i64)) (.cons (.hole (.sl .any (.int .i64))) (.cons (.hole (.int .u64)) (.cons (.hole (.int .u64)) (.cons (.hole (.sl .any T_api_Topic)) (.cons (.hole (.sl .any T_api_Site)) (.cons (.hole .bool) (.cons (.hole (.int .i64)) (.cons (.hole .str) (.cons (.hole .str) (.cons (.hole (.sl .any (.int .u8))) (.cons (.hole (.int .u64)) (.cons (.hole (.int .i64)) (.cons (.hole .str) (.cons (.hole (.int .i64)) (.cons (.hole (.int .u64)) (.cons (.hole (.int .u64)) (.cons (.hole .str) (.cons (.hole (.sl .any (.int .i64))) (.cons (.hole (.int .u64)) (.cons (.hole (.int .u64)) (.cons (.hole .str) (.cons (.hole (.int .i64)) (.cons (.hole (.int .i64)) (.cons (.hole (.int .u64)) (.cons (.hole (.int .i64)) (.cons (.hole (.int .u64)) (.cons (.hole .bool) (.cons (.hole (.int .u64)) (.cons (.hole (.int .i64)) (.cons (.hole (.int .i64)) (.cons (.hole .bool) (.cons (.hole (.int .i64)) (.cons (.hole .bool) (.cons (.hole (.int .i64)) (.cons (.hole (.int .u64)) (.cons (.hole (.int .i64)) (.cons (.hole (.int .u64)) (.cons (.hole (.int .i64)) (.cons (.hole (.int .u64)) (.cons (.hole (.int .u64)) (.cons (.hole (.int .u64)) (.cons (.hole .str) (.cons (.hole (.sl .any (.int .u8))) (.cons (.hole (.int .u64)) (.cons (.hole (.int .i64)) (.cons (.hole .str) (.cons (.hole (.int .u64)) (.cons (.hole (.int .i64)) (.cons (.hole (.int .u64)) (.cons (.hole (.int .u64)) (.cons (.hole .str) (.cons (.hole (.sl .any (.int .i64))) (.cons (.hole (.int .u64)) (.cons (.hole (.int .u64)) (.cons (.hole .str) (.cons (.hole (.int .i64)) (.cons (.hole (.int .i64)) (.cons (.hole (.int .u64)) (.cons (.hole (.int .i64)) (.cons (.hole .str) (.cons (.hole .bool) (.cons (.hole (.int .u64)) (.cons (.hole (.int .i64)) (.cons (.hole (.int .i64)) (.cons (.hole (.int .i64)) (.cons (.hole (.int .u64)) (.cons (.hole .bool) (.cons (.hole (.sl .any T_api_Record)) (.cons (.hole (.int .u64)) (.cons (.hole (.sl .any T_api_Shard)) (.cons (.hole (.int .u64)) (.cons (.hole (.int .u64)) (.cons (.hole (.int .u64)) .nil))))))))))))))))))))))))))))))))))))))))))))))))))))))))))))))))))))))))))) (.cons (.hole (.int .u64)) .nil)),.nil,Y31,p87 fu⟩
theorem g87 (fu:Nat):(e87 fu).Good Try.prog := good_fx orders Try.func87 fu [(27,(.ent (e53_1 fu)))] [] rs87 62 (l := [e53_1 fu]) ⟨g53_1 fu,trivial⟩
def rs74:List RVx := [(.cell 2 true 26),(.tmp 3)]
def p74 (fu:Nat):(Z0)×(Unit)→Option (((Z0)×((Unit)×((Unit)×((Unit)×((Unit)×((Unit)×(Unit)))))))×((Z2)×((Int)×(Unit)))) := fun ⟨⟨a,c,f,h,i,j,k,l,m,n,o,q,s,t,u,w,x,y,z,a0,c0,f0,h0,i0,j0,k0,l0,_,m0,n0,o0,q0,s0,t0,u0,w0,x0,y0,z0,a1,c1,f1,h1,_,i1,j1,k1,l1,m1,n1,o1,q1,_,s1,t1,u1,w1,x1,y1,z1,a2,c2,f2,h2,i2,j2,k2,l2,_,m2,_,n2,o2,q2,_⟩,_⟩ =>
bif (l==(5:Int)) then
 bif decide (List.length z=List.length z) then
 Option.bind (p54_1 fu ((u,w,x,y,z,a0,c0,f0,h0,i0,j0,k0,()),())) fun ⟨_,⟨s2,_,_,t2,u2,w2,x2,y2,z2,a3,c3,f3,_⟩⟩ =>
 bif decide (List.length c=List.length c) then
 bif decide (List.length i=List.length i) then
 bif decide (List.length j=List.length j) then
 bif decide (List.length o=List.length o) then
 bif decide (List.length z=List.length z) then
 Option.bind (p85 fu ((a,c,f,h,i,j,k,l,m,n,o,q,s,t,u,w,x,y,z,a0,c0,f0,h0,i0,j0,k0,l0,false,m0,n0,o0,q0,s0,t0,u0,w0,x0,y0,z0,a1,c1,f1,h1,[],i1,j1,k1,l1,m1,n1,o1,q1,[],s1,t1,u1,w1,x1,y1,z1,a2,c2,f2,h2,i2,j2,k2,l2,[],m2,[],n2,o2,q2,()),(0:Int),())) fun ⟨_,h3⟩ =>
 bif decide (List.length c=List.length c) then
 bif decide (List.length i=List.length i) then
 bif decide (List.length j=List.length j) then
 bif decide (List.length o=List.length o) then
 bif decide (List.length z=List.length z) then
 bif decide (List.length u2=List.length u2) then
 some (((a,c,f,h,i,j,k,l,m,n,o,q,s,t,u,w,x,y,z,a0,c0,f0,h0,i0,j0,k0,l0,false,m0,n0,o0,q0,s0,t0,u0,w0,x0,y0,z0,a1,c1,f1,h1,(),i1,j1,k1,l1,m1,n1,o1,q1,(),s1,t1,u1,w1,x1,y1,z1,a2,c2,f2,h2,i2,j2,k2,l2,(),m2,(),n2,o2,q2,()),(),(),(),(),(),()),(((0:Int),(5:Int),(0:Int),(0:Int),(0:Int),(0:Int),(0:Int),(⟨#[]⟩:ByteArray),[],(0:Int),(0:Int),(⟨#[]⟩:ByteArray),(0:Int),s2,f,h,t2,u2,w2,x2,y2,z2,a3,c3,f3,(⟨#[]⟩:ByteArray),()),h3,()))
 else none
 else none
 else none
 else none
 else none
 else none
 else none
 else none
 else none
 else none
 else none
 else none
else
 bif decide (List.length c=List.length c) then
 bif decide (List.length i=List.length i) then
 bif decide (List.length j=List.length j) then
 bif decide (List.length o=List.length o) then
 bif decide (List.length z=List.length z) then
 Option.bind (p77_1 fu ((a,c,f,h,i,j,k,l,m,n,o,q,s,t,u,w,x,y,z,a0,c0,f0,h0,i0,j0,k0,l0,false,m0,n0,o0,q0,s0,t0,u0,w0,x0,y0,z0,a1,c1,f1,h1,(),i1,j1,k1,l1,m1,n1,o1,q1,(),s1,t1,u1,w1,x1,y1,z1,a2,c2,f2,h2,i2,j2,k2,l2,(),m2,(),n2,o2,q2,()),())) fun ⟨⟨⟨i3,j3,k3,l3,m3,n3,o3,q3,s3,t3,u3,w3,x3,y3,z3,a4,c4,f4,h4,i4,j4,k4,l4,m4,n4,o4,q4,s4,t4,u4,w4,x4,y4,z4,a5,c5,f5,h5,i5,j5,k5,l5,m5,_,n5,o5,q5,s5,t5,u5,w5,x5,_,y5,z5,a6,c6,f6,h6,i6,j6,k6,l6,m6,n6,o6,q6,s6,_,t6,_,u6,w6,x6,_⟩,_,_,_,_,_,_⟩,⟨⟨y6,_,_,z6,_,_,_,_⟩,a7,_⟩⟩ =>
 orK (E := ((Bool)×(Unit))×(Unit))
 (bif (q3==(6:Int)) then
 some (.inl ((true,()),()))
 else
 some (.inl ((!a7,()),())))
 fun ⟨⟨c7,_⟩,_⟩ =>
 bif c7 then
 bif decide (List.length j3=List.length j3) then
 bif decide (List.length m3=List.length m3) then
 bif decide (List.length n3=List.length n3) then
 bif decide (List.length u3=List.length u3) then
 bif decide (List.length h4=List.length h4) then
 Option.bind (p86 fu ((i3,j3,k3,l3,m3,n3,o3,q3,s3,t3,u3,w3,x3,y3,z3,a4,c4,f4,h4,i4,j4,k4,l4,m4,n4,o4,q4,(q3 != (6:Int)),t4,u4,w4,x4,y4,z4,a5,c5,f5,h5,i5,j5,k5,l5,m5,[],n5,o5,q5,s5,t5,u5,w5,x5,[],y5,z5,a6,c6,f6,h6,i6,j6,k6,l6,m6,n6,o6,q6,s6,[],t6,[],u6,w6,x6,()),())) fun ⟨_,f7⟩ =>
 bif decide (List.length j3=List.length j3) then
 bif decide (List.length m3=List.length m3) then
 bif decide (List.length n3=List.length n3) then
 bif decide (List.length u3=List.length u3) then
 bif decide (List.length h4=List.length h4) then
 some (((i3,j3,k3,l3,m3,n3,o3,q3,s3,t3,u3,w3,x3,y3,z3,a4,c4,f4,h4,i4,j4,k4,l4,m4,n4,o4,q4,(q3 != (6:Int)),t4,u4,w4,x4,y4,z4,a5,c5,f5,h5,i5,j5,k5,l5,m5,(),n5,o5,q5,s5,t5,u5,w5,x5,(),y5,z5,a6,c6,f6,h6,i6,j6,k6,l6,m6,n6,o6,q6,s6,(),t6,(),u6,w6,x6,()),(),(),(),(),(),()),(((0:Int),(6:Int),(0:Int),(0:Int),(0:Int),(0:Int),(0:Int),(⟨#[]⟩:ByteArray),[],(0:Int),(0:Int),(⟨#[]⟩:ByteArray),(0:Int),(0:Int),(0:Int),(0:Int),(⟨#[]⟩:ByteArray),[],(0:Int),(0:Int),(⟨#[]⟩:ByteArray),(0:Int),(0:Int),(0:Int),(0:Int),s3,()),f7,()))
 else none
 else none
 else none
 else none
 else none
 else none
 else none
 else none
 else none
 else none
 else
 bif decide (List.length j3=List.length j3) then
 bif decide (List.length m3=List.length m3) then
 bif decide (List.length n3=List.length n3) then
 bif decide (List.length u3=List.length u3) then
 bif decide (List.length h4=List.length h4) then
 Option.bind (p87 fu ((i3,j3,k3,l3,m3,n3,o3,q3,s3,t3,u3,w3,x3,y3,z3,a4,c4,f4,h4,i4,j4,k4,l4,m4,n4,o4,q4,s4,t4,u4,w4,x4,y4,z4,a5,c5,f5,h5,i5,j5,k5,l5,m5,[],n5,o5,q5,s5,t5,u5,w5,x5,[],y5,z5,a6,c6,f6,h6,i6,j6,k6,l6,m6,n6,o6,q6,s6,[],t6,[],u6,w6,x6,()),z6,())) fun ⟨_,⟨h7,i7,j7,k7,l7,m7,n7,o7,q7,s7,_⟩⟩ =>
 bif decide (List.length j3=List.length j3) then
 bif decide (List.length m3=List.length m3) then
 bif decide (List.length n3=List.length n3) then
 bif decide (List.length u3=List.length u3) then
 bif decide (List.length h4=List.length h4) then
 Option.bind (p85 fu ((i3,j3,k3,l3,m3,n3,o3,q3,s3,t3,u3,w3,x3,y3,z3,a4,c4,f4,h4,i4,j4,k4,l4,m4,n4,o4,q4,s4,t4,u4,w4,x4,y4,z4,a5,c5,f5,h5,i5,j5,k5,l5,m5,[],n5,o5,q5,s5,t5,u5,w5,x5,[],y5,z5,a6,c6,f6,h6,i6,j6,k6,l6,m6,n6,o6,q6,s6,[],t6,[],u6,w6,x6,()),y6,())) fun ⟨_,t7⟩ =>
 bif decide (List.length j3=List.length j3) then
 bif decide (List.length m3=List.length m3) then
 bif decide (List.length n3=List.length n3) then
 bif decide (List.length u3=List.length u3) then
 bif decide (List.length h4=List.length h4) then
 bif decide (List.length m7=List.length m7) then
 some (((i3,j3,k3,l3,m3,n3,o3,q3,s3,t3,u3,w3,x3,y3,z3,a4,c4,f4,h4,i4,j4,k4,l4,m4,n4,o4,q4,s4,t4,u4,w4,x4,y4,z4,a5,c5,f5,h5,i5,j5,k5,l5,m5,(),n5,o5,q5,s5,t5,u5,w5,x5,(),y5,z5,a6,c6,f6,h6,i6,j6,k6,l6,m6,n6,o6,q6,s6,(),t6,(),u6,w6,x6,()),(),(),(),(),(),()),(((0:Int),q3,y6,h7,i7,j7,k7,l7,m7,n7,o7,q7,s7,(0:Int),(0:Int),(0:Int),(⟨#[]⟩:ByteArray),[],(0:Int),(0:Int),(⟨#[]⟩:ByteArray),(0:Int),(0:Int),(0:Int),(0:Int),(⟨#[]⟩:ByteArray),()),t7,()))
 else none
 else none
 else none
 else none
 else none
 else none
 else none
 else none
 else none
 else none
 else none
 else none
 else none
 else none
 else none
 else none
 else none
 else none
 else none
 else none
 else none
def e74 (fu:Nat):Ent := ⟨74,(.cons Y27 .nil),(.cons Y29 (.cons .dead (.cons .dead (.cons .dead (.cons .dead (.cons .dead .nil)))))),(.tup 2 (.cons Y32 (.cons (.hole (.int .i64)) .nil))),p74 fu⟩
theorem g74 (fu:Nat):(e74 fu).Good Try.prog := good_fx orders Try.func74 fu [(20,(.ent (e54_1 fu))),(40,(.ent (e85 fu))),(44,(.ent (e77_1 fu))),(82,(.ent (e86 fu))),(96,(.ent (e87 fu))),(101,(.ent (e85 fu)))] [(9,⟨[56],(.cons (.hole .bool) .nil),[],.nil,[0,2,5],[0,1,2,3,4,5,12,252,253,254,255,256,316]⟩)] rs74 94 (l := [e54_1 fu,e85 fu,e77_1 fu,e86 fu,e87 fu,e85 fu]) ⟨g54_1 fu,g85 fu,g77_1 fu,g86 fu,g87 fu,g85 fu,trivial⟩
def rs57:List RVx := []
def p57 (fu:Nat):(Z0)×(Unit)→Option (((Z3)×((Unit)×((Unit)×((Unit)×((Unit)×((Unit)×(Unit)))))))×(Unit)) := fun ⟨⟨a,c,f,h,i,j,k,l,m,n,o,q,s,t,u,w,x,y,z,a0,c0,f0,h0,i0,j0,k0,l0,m0,n0,o0,q0,s0,t0,u0,w0,x0,y0,z0,a1,c1,f1,h1,i1,_,j1,k1,l1,m1,n1,o1,q1,s1,_,t1,u1,w1,x1,y1,z1,a2,c2,f2,h2,i2,j2,k2,l2,m2,_,n2,_,o2,q2,s2,_⟩,_⟩ =>
bif decide (o0≥(24:Int)) then
 bif decide (List.length c=List.length c) then
 bif decide (List.length i=List.length i) then
 bif decide (List.length j=List.length j) then
 bif decide (List.length o=List.length o) then
 bif decide (List.length z=List.length z) then
 Option.bind (p63 fu ((a,c,f,h,i,j,k,l,m,n,o,q,s,t,u,w,x,y,z,a0,c0,f0,h0,i0,j0,k0,l0,m0,n0,o0,q0,s0,t0,u0,w0,x0,y0,z0,a1,c1,f1,h1,i1,(),j1,k1,l1,m1,n1,o1,q1,s1,(),t1,u1,w1,x1,y1,z1,a2,c2,f2,h2,i2,j2,k2,l2,m2,(),n2,(),o2,q2,s2,()),())) fun ⟨⟨⟨t2,u2,w2,x2,y2,z2,a3,c3,f3,h3,_,i3,j3,k3,l3,m3,n3,o3,_,q3,s3,t3,u3,w3,x3,y3,z3,a4,c4,f4,h4,i4,j4,k4,l4,m4,n4,o4,q4,s4,t4,u4,w4,_,x4,y4,z4,a5,c5,f5,h5,i5,_,j5,k5,l5,m5,n5,o5,q5,s5,t5,u5,w5,x5,y5,z5,a6,c6,f6,h6,i6,j6,k6,_⟩,_,_,_,_,_,_⟩,_⟩ =>
 bif decide (List.length u2=List.length u2) then
 bif decide (List.length y2=List.length y2) then
 bif decide (List.length z2=List.length z2) then
 bif decide (List.length c6=List.length c6) then
 bif decide (List.length h6=List.length h6) then
 some (((t2,u2,w2,x2,y2,z2,a3,c3,f3,h3,[],i3,j3,k3,l3,m3,n3,o3,[],q3,s3,t3,u3,w3,x3,y3,z3,a4,c4,f4,h4,i4,j4,k4,l4,m4,n4,o4,q4,s4,t4,u4,w4,[],x4,y4,z4,a5,c5,f5,h5,i5,[],j5,k5,l5,m5,n5,o5,q5,s5,t5,u5,w5,x5,y5,z5,a6,c6,f6,h6,i6,j6,k6,()),(),(),(),(),(),()),())
 else none
 else none
 else none
 else none
 else none
 else none
 else none
 else none
 else none
 else none
else
 bif decide (List.length c=List.length c) then
 bif decide (List.length i=List.length i) then
 bif decide (List.length j=List.length j) then
 bif decide (List.length o=List.length o) then
 bif decide (List.length z=List.length z) then
 Option.bind (p74 fu ((a,c,f,h,i,j,k,l,m,n,o,q,s,t,u,w,x,y,z,a0,c0,f0,h0,i0,j0,k0,IntKind.wrap .u64 (l0+(1:Int)),m0,n0,IntKind.wrap .i64 (o0+(1:Int)),(0:Int),false,t0,u0,w0,x0,y0,z0,a1,c1,f1,h1,i1,(),j1,k1,l1,m1,n1,o1,q1,s1,(),t1,u1,w1,x1,y1,z1,a2,c2,f2,h2,i2,j2,k2,l2,m2,(),n2,(),o2,q2,s2,()),())) fun ⟨⟨⟨l6,m6,n6,o6,q6,s6,t6,u6,w6,x6,y6,z6,a7,c7,f7,h7,i7,j7,k7,l7,m7,n7,o7,q7,s7,t7,u7,w7,_,x7,y7,z7,a8,_,_,_,_,_,_,_,_,_,_,_,_,_,_,_,_,_,_,_,_,_,_,_,_,_,_,_,_,c8,f8,h8,i8,j8,k8,l8,_,m8,_,n8,o8,q8,_⟩,_,_,_,_,_,_⟩,⟨⟨_,s8,t8,u8,w8,x8,y8,z8,a9,c9,f9,h9,i9,j9,k9,l9,m9,n9,o9,q9,s9,t9,u9,w9,x9,y9,_⟩,z9,_⟩⟩ =>
 bif decide (List.length m6=List.length m6) then
 bif decide (List.length q6=List.length q6) then
 bif decide (List.length s6=List.length s6) then
 bif decide (List.length y6=List.length y6) then
 bif decide (List.length k7=List.length k7) then
 bif decide (List.length a9=List.length a9) then
 bif decide (List.length n9=List.length n9) then
 some (((l6,m6,n6,o6,q6,s6,t6,u6,w6,x6,y6,z6,a7,c7,f7,h7,i7,j7,k7,l7,m7,n7,o7,q7,s7,t7,u7,w7,t8,x7,y7,z7,a8,true,z9,u7,s8,t8,u8,w8,x8,y8,z8,a9,c9,f9,h9,i9,j9,k9,l9,m9,n9,o9,q9,s9,t9,u9,w9,x9,y9,c8,f8,h8,i8,j8,k8,l8,[],m8,[],n8,o8,q8,()),(),(),(),(),(),()),())
 else none
 else none
 else none
 else none
 else none
 else none
 else none
 else none
 else none
 else none
 else none
 else none
def e57 (fu:Nat):Ent := ⟨57,(.cons Y27 .nil),(.cons Y33 (.cons .dead (.cons .dead (.cons .dead (.cons .dead (.cons .dead .nil)))))),(.tup 0 .nil),p57 fu⟩
theorem g57 (fu:Nat):(e57 fu).Good Try.prog := good_fx orders Try.func57 fu [(7,(.ent (e63 fu))),(39,(.ent (e74 fu)))] [] rs57 69 (l := [e63 fu,e74 fu]) ⟨g63 fu,g74 fu,trivial⟩
def rs33:List RVx := [(.tmp 4)]
def p33 (fu:Nat):(Z0)×((Z4)×(Unit))→Option (((Z3)×((Unit)×((Unit)×((Unit)×((Unit)×((Unit)×(Unit)))))))×(Int)) := fun ⟨⟨a,c,f,h,i,j,k,l,m,n,o,q,s,t,u,w,x,y,z,a0,c0,f0,h0,i0,j0,k0,l0,m0,n0,o0,q0,s0,t0,u0,w0,x0,y0,z0,a1,c1,f1,h1,i1,_,j1,k1,l1,m1,n1,o1,q1,s1,_,t1,u1,w1,x1,y1,z1,a2,c2,f2,h2,i2,j2,k2,l2,m2,_,n2,_,o2,q2,s2,_⟩,⟨_,t2,u2,w2,x2,y2,z2,a3,c3,f3,h3,i3,j3,k3,l3,m3,n3,o3,q3,s3,_,_,_,_,_,_,_,_,_,_,_,_,_⟩,_⟩ =>
bif k then
 bif decide (List.length c=List.length c) then
 bif decide (List.length i=List.length i) then
 bif decide (List.length j=List.length j) then
 bif decide (List.length o=List.length o) then
 bif decide (List.length z=List.length z) then
 some (((a,c,f,h,i,j,k,l,m,n,o,q,s,t,u,w,x,y,z,a0,c0,f0,h0,i0,j0,k0,l0,m0,n0,o0,q0,s0,t0,u0,w0,x0,y0,z0,a1,c1,f1,h1,i1,[],j1,k1,l1,m1,n1,o1,q1,s1,[],t1,u1,w1,x1,y1,z1,a2,c2,f2,h2,i2,j2,k2,l2,m2,[],n2,[],o2,q2,s2,()),(),(),(),(),(),()),(211:Int))
 else none
 else none
 else none
 else none
 else none
else
 Option.bind (p55 fu ((t2,u2,w2,x2,y2,z2,a3,c3,f3,h3,i3,j3,k3,l3,m3,n3,o3,q3,s3,()),())) fun ⟨_,t3⟩ =>
 bif !t3 then
 bif decide (List.length c=List.length c) then
 bif decide (List.length i=List.length i) then
 bif decide (List.length j=List.length j) then
 bif decide (List.length o=List.length o) then
 bif decide (List.length z=List.length z) then
 some (((a,c,f,h,i,j,k,l,m,n,o,q,s,t,u,w,x,y,z,a0,c0,f0,h0,i0,j0,k0,l0,m0,n0,o0,q0,s0,t0,u0,w0,x0,y0,z0,a1,c1,f1,h1,i1,[],j1,k1,l1,m1,n1,o1,q1,s1,[],t1,u1,w1,x1,y1,z1,a2,c2,f2,h2,i2,j2,k2,l2,m2,[],n2,[],o2,q2,s2,()),(),(),(),(),(),()),(212:Int))
 else none
 else none
 else none
 else none
 else none
 else
 Option.bind (p32_1 fu ((t2,u2,w2,x2,y2,z2,a3,c3,f3,h3,i3,j3,k3,l3,m3,n3,o3,q3,s3,()),())) fun ⟨_,⟨u3,w3,x3,y3,z3,a4,c4,f4,h4,i4,j4,k4,l4,m4,n4,o4,q4,s4,t4,_⟩⟩ =>
 Option.bind (p56 fu (u3,())) fun ⟨_,u4⟩ =>
 bif u4 then
 bif decide (List.length c=List.length c) then
 bif decide (List.length i=List.length i) then
 bif decide (List.length j=List.length j) then
 bif decide (List.length y3=List.length y3) then
 bif decide (List.length k4=List.length k4) then
 Option.bind (p57 fu ((a,c,f,IntKind.wrap .u64 (h+(1:Int)),i,j,true,u3,w3,x3,y3,z3,a4,c4,f4,h4,i4,j4,k4,l4,m4,n4,o4,q4,s4,t4,l0,m0,n0,o0,q0,s0,t0,u0,w0,x0,y0,z0,a1,c1,f1,h1,i1,(),j1,k1,l1,m1,n1,o1,q1,s1,(),t1,u1,w1,x1,y1,z1,a2,c2,f2,h2,i2,j2,k2,l2,m2,(),n2,(),o2,q2,s2,()),())) fun ⟨⟨⟨w4,x4,y4,z4,a5,c5,f5,h5,i5,j5,k5,l5,m5,n5,o5,q5,s5,t5,u5,w5,x5,y5,z5,a6,c6,f6,h6,i6,j6,k6,l6,m6,n6,o6,q6,s6,t6,u6,w6,x6,y6,z6,a7,c7,f7,h7,i7,j7,k7,l7,m7,n7,o7,q7,s7,t7,u7,w7,x7,y7,z7,a8,c8,f8,h8,i8,j8,k8,l8,m8,n8,o8,q8,s8,_⟩,_,_,_,_,_,_⟩,_⟩ =>
 bif decide (List.length x4=List.length x4) then
 bif decide (List.length a5=List.length a5) then
 bif decide (List.length c5=List.length c5) then
 bif decide (List.length k5=List.length k5) then
 bif decide (List.length u5=List.length u5) then
 bif decide (List.length c7=List.length c7) then
 bif decide (List.length o7=List.length o7) then
 bif decide (List.length l8=List.length l8) then
 bif decide (List.length n8=List.length n8) then
 some (((w4,x4,y4,z4,a5,c5,f5,h5,i5,j5,k5,l5,m5,n5,o5,q5,s5,t5,u5,w5,x5,y5,z5,a6,c6,f6,h6,i6,j6,k6,l6,m6,n6,o6,q6,s6,t6,u6,w6,x6,y6,z6,a7,c7,f7,h7,i7,j7,k7,l7,m7,n7,o7,q7,s7,t7,u7,w7,x7,y7,z7,a8,c8,f8,h8,i8,j8,k8,l8,m8,n8,o8,q8,s8,()),(),(),(),(),(),()),(0:Int))
 else none
 else none
 else none
 else none
 else none
 else none
 else none
 else none
 else none
 else none
 else none
 else none
 else none
 else none
 else
 bif decide (List.length c=List.length c) then
 bif decide (List.length i=List.length i) then
 bif decide (List.length j=List.length j) then
 bif decide (List.length y3=List.length y3) then
 bif decide (List.length k4=List.length k4) then
 Option.bind (p57 fu ((a,c,f,h,i,j,true,u3,w3,x3,y3,z3,a4,c4,f4,h4,i4,j4,k4,l4,m4,n4,o4,q4,s4,t4,l0,m0,n0,o0,q0,s0,t0,u0,w0,x0,y0,z0,a1,c1,f1,h1,i1,(),j1,k1,l1,m1,n1,o1,q1,s1,(),t1,u1,w1,x1,y1,z1,a2,c2,f2,h2,i2,j2,k2,l2,m2,(),n2,(),o2,q2,s2,()),())) fun ⟨⟨⟨t8,u8,w8,x8,y8,z8,a9,c9,f9,h9,i9,j9,k9,l9,m9,n9,o9,q9,s9,t9,u9,w9,x9,y9,z9,a10,c10,f10,h10,i10,j10,k10,l10,m10,n10,o10,q10,s10,t10,u10,w10,x10,y10,z10,a11,c11,f11,h11,i11,j11,k11,l11,m11,n11,o11,q11,s11,t11,u11,w11,x11,y11,z11,a12,c12,f12,h12,i12,j12,k12,l12,m12,n12,o12,_⟩,_,_,_,_,_,_⟩,_⟩ =>
 bif decide (List.length u8=List.length u8) then
 bif decide (List.length y8=List.length y8) then
 bif decide (List.length z8=List.length z8) then
 bif decide (List.length i9=List.length i9) then
 bif decide (List.length s9=List.length s9) then
 bif decide (List.length z10=List.length z10) then
 bif decide (List.length m11=List.length m11) then
 bif decide (List.length j12=List.length j12) then
 bif decide (List.length l12=List.length l12) then
 some (((t8,u8,w8,x8,y8,z8,a9,c9,f9,h9,i9,j9,k9,l9,m9,n9,o9,q9,s9,t9,u9,w9,x9,y9,z9,a10,c10,f10,h10,i10,j10,k10,l10,m10,n10,o10,q10,s10,t10,u10,w10,x10,y10,z10,a11,c11,f11,h11,i11,j11,k11,l11,m11,n11,o11,q11,s11,t11,u11,w11,x11,y11,z11,a12,c12,f12,h12,i12,j12,k12,l12,m12,n12,o12,()),(),(),(),(),(),()),(0:Int))
 else none
 else none
 else none
 else none
 else none
 else none
 else none
 else none
 else none
 else none
 else none
 else none
 else none
 else none
def e33 (fu:Nat):Ent := ⟨33,(.cons Y27 (.cons Y34 .nil)),(.cons Y33 (.cons .dead (.cons .dead (.cons .dead (.cons .dead (.cons .dead .nil)))))),(.hole (.int .i64)),p33 fu⟩
theorem g33 (fu:Nat):(e33 fu).Good Try.prog := good_fx orders Try.func33 fu [(10,(.ent (e55 fu))),(17,(.ent (e32_1 fu))),(32,(.ent (e56 fu))),(44,(.ent (e57 fu)))] [] rs33 43 (l := [e55 fu,e32_1 fu,e56 fu,e57 fu]) ⟨g55 fu,g32_1 fu,g56 fu,g57 fu,trivial⟩
def p72_1 (fu:Nat):(Z8)×(Unit)→Option ((Unit)×((Int)×((ByteArray)×((ByteArray)×((Int)×((List (Int))×((List (Int))×((Int)×(Unit))))))))) := fun ⟨⟨a,c,f,h,i,j,k,_⟩,_⟩ =>
Option.bind (p16 fu (i,())) fun ⟨_,l⟩ =>
Option.bind (p16 fu (j,())) fun ⟨_,m⟩ =>
bif decide (List.length l=List.length l) then
 bif decide (List.length m=List.length m) then
 some ((),(a,c,f,h,l,m,k,()))
 else none
else none
def e72_1 (fu:Nat):Ent := ⟨72,(.cons Y35 .nil),.nil,Y10,p72_1 fu⟩
theorem g72_1 (fu:Nat):(e72_1 fu).Good Try.prog := good_fx orders Try.func72 fu [(4,(.ent (e16 fu))),(9,(.ent (e16 fu)))] [] rs72 12 (l := [e16 fu,e16 fu]) ⟨g16 fu,g16 fu,trivial⟩
def p71_1 (fu:Nat):(List (D_api_Shard))×(((Unit)×(Unit))×(Unit))→Option ((Unit)×(List (D_api_Shard))) := fun ⟨a,⟨_,_⟩,_⟩ =>
bif ((List.length a:Int)==(0:Int)) then
 some ((),[])
else
 bif decide ((0:Int)≤(List.length a:Int)∧((List.length a:Int):Int)≤(List.length a:Int)∧((List.length a:Int):Int)≤9223372036854775807∧(104:Int) * (List.length a:Int)≤140737488355328) then
 bif decide (Int.toNat (List.length a:Int)=List.length (List.replicate (Int.toNat (List.length a:Int)) ((0:Int),((⟨#[]⟩:ByteArray),(⟨#[]⟩:ByteArray)),(0:Int),[],[],(0:Int)):List (D_api_Shard))) then
 loopO (S := ((List (D_api_Shard))×((Int)×(Unit)))×(Unit)) fu (fun ⟨⟨c,f,_⟩,_⟩ =>
 bif decide (f<(List.length a:Int)) then
 bif decide ((0:Int)≤f∧f<(List.length a:Int)) then
 bif decide (Int.toNat f<List.length a) then
 Option.bind (p72_1 fu (((List.getD a (Int.toNat f) (dflt T_api_Shard)).1,(((List.getD a (Int.toNat f) (dflt T_api_Shard)).2).1).1,(((List.getD a (Int.toNat f) (dflt T_api_Shard)).2).1).2,(((List.getD a (Int.toNat f) (dflt T_api_Shard)).2).2).1,((((List.getD a (Int.toNat f) (dflt T_api_Shard)).2).2).2).1,(((((List.getD a (Int.toNat f) (dflt T_api_Shard)).2).2).2).2).1,(((((List.getD a (Int.toNat f) (dflt T_api_Shard)).2).2).2).2).2,()),())) fun ⟨_,⟨h,i,j,k,l,m,n,_⟩⟩ =>
 bif decide ((0:Int)≤f∧f<(List.length c:Int)) then
 bif decide (Int.toNat f<List.length c) then
 bif decide (List.length l=List.length l) then
 bif decide (List.length m=List.length m) then
 bif decide (List.length c=List.length (List.set c (Int.toNat f) (h,(i,j),k,l,m,n))) then
 some (.inl (((List.set c (Int.toNat f) (h,(i,j),k,l,m,n)),IntKind.wrap .i64 (f+(1:Int)),()),()))
 else none
 else none
 else none
 else none
 else none
 else none
 else none
 else
 inrO (bif decide (List.length c=List.length c) then
 some ((),c)
 else none))
 (((List.replicate (Int.toNat (List.length a:Int)) ((0:Int),((⟨#[]⟩:ByteArray),(⟨#[]⟩:ByteArray)),(0:Int),[],[],(0:Int)):List (D_api_Shard)),(0:Int),()),())
 else none
 else none
def e71_1 (fu:Nat):Ent := ⟨71,(.cons (.hole (.sl .any T_api_Shard)) (.cons (.clo 72 0 .nil 0 .nil) .nil)),.nil,(.own .own 66 T_api_Shard_n),p71_1 fu⟩
theorem g71_1 (fu:Nat):(e71_1 fu).Good Try.prog := good_fx orders Try.func71 fu [(7,(.ty T_api_Shard_n)),(23,(.ent (e72_1 fu)))] [(7,⟨[5,16],(.cons (.own .own 66 T_api_Shard_n) (.cons (.hole (.int .i64)) .nil)),[],.nil,[1,14,15],[]⟩)] rs71 29 (l := [e72_1 fu]) ⟨g72_1 fu,trivial⟩
def p52_1 (fu:Nat):(List (D_api_Shard))×(Unit)→Option ((Unit)×(List (D_api_Shard))) := fun ⟨a,_⟩ =>
Option.bind (p71_1 fu (a,((),()),())) fun ⟨_,c⟩ =>
bif decide (List.length c=List.length c) then
 some ((),c)
else none
def e52_1 (fu:Nat):Ent := ⟨52,(.cons (.hole (.sl .any T_api_Shard)) .nil),.nil,(.own .own 66 T_api_Shard_n),p52_1 fu⟩
theorem g52_1 (fu:Nat):(e52_1 fu).Good Try.prog := good_fx orders Try.func52 fu [(2,(.ent (e71_1 fu)))] [] rs52 5 (l := [e71_1 fu]) ⟨g71_1 fu,trivial⟩
def rs75:List RVx := [(.tmp 6)]
def p75 (fu:Nat):(List (D_api_Topic))×(((ByteArray)×((List (D_api_Shard))×(Unit)))×(((Unit)×(((ByteArray)×(Unit))×(Unit)))×(Unit)))→Option (((Unit)×((Unit)×(((ByteArray)×(Unit))×(Unit))))×(List (D_api_Topic))) := fun ⟨a,⟨c,f,_⟩,⟨_,⟨⟨h,_⟩,_⟩⟩,_⟩ =>
bif decide (List.length a=List.length a) then
 Option.bind (p88_1 fu (a,((),((h,()),())),())) fun ⟨⟨⟨i,_⟩,_⟩,j⟩ =>
 bif decide (j≥(0:Int)) then
 bif decide ((0:Int)≤j∧j<(List.length a:Int)) then
 bif decide (Int.toNat j<List.length a) then
 bif decide (List.length f=List.length f) then
 bif decide (List.length a=List.length (List.set a (Int.toNat j) (c,f))) then
 some (((),(),(i,()),()),(List.set a (Int.toNat j) (c,f)))
 else none
 else none
 else none
 else none
 else
 bif decide (List.length f=List.length f) then
 bif decide (List.length a=List.length a) then
 bif decide (List.length a+List.length ([(c,f)])≤maxLen∧(List.length a+List.length ([(c,f)])) * 40≤140737488355328) then
 bif decide (List.length (a ++ [(c,f)])=List.length (a ++ [(c,f)])) then
 some (((),(),(i,()),()),(a ++ [(c,f)]))
 else none
 else none
 else none
 else none
else none
def e75 (fu:Nat):Ent := ⟨75,(.cons (.own .own 72 T_api_Topic_n) (.cons (.agg 2 (.cons (.hole .str) (.cons (.own .own 66 T_api_Shard_n) .nil))) (.cons (.clo 89 0 .nil 1 (.cons (.box 9 1 (.cons (.hole .str) .nil)) .nil)) .nil))),(.cons .dead (.cons .dead (.cons (.agg 1 (.cons (.hole .str) .nil)) .nil))),(.own .own 72 T_api_Topic_n),p75 fu⟩
theorem g75 (fu:Nat):(e75 fu).Good Try.prog := good_fx orders Try.func75 fu [(4,(.ent (e88_1 fu))),(17,(.ty T_api_Topic_n)),(18,(.ty T_api_Topic_n))] [] rs75 22 (l := [e88_1 fu]) ⟨g88_1 fu,trivial⟩
def p101_1 (_:Nat):((List (Int))×(Unit))×((List (Int))×(Unit))→Option ((((List (Int))×(Unit))×((Unit)×(Unit)))×(List (Int))) := fun ⟨⟨a,_⟩,c,_⟩ =>
bif ((List.length c:Int)==(0:Int)) then
 bif decide (List.length a=List.length a) then
 some (((a,()),(),()),[])
 else none
else
 bif decide (List.length a=List.length a) then
 bif decide (List.length a+List.length c≤maxLen∧(List.length a+List.length c) * 1≤140737488355328) then
 bif decide ((0:Int)≤((List.length (a ++ c)):Int)) then
 bif decide ((0:Int)≤((List.length (a ++ c)):Int)) then
 bif decide ((0:Int)≤((List.length a):Int)) then
 bif decide (Int.toNat ((List.length a):Int)≤Int.toNat ((List.length (a ++ c)):Int)∧Int.toNat ((List.length (a ++ c)):Int)≤Int.toNat ((List.length (a ++ c)):Int)∧Int.toNat ((List.length (a ++ c)):Int)≤List.length (a ++ c)∧0+(List.length (a ++ c))≤List.length (a ++ c)) then
 bif decide (List.length (a ++ c)=List.length (a ++ c)) then
 some ((((a ++ c),()),(),()),slice' (a ++ c) (Int.toNat ((List.length a):Int)) (some (Int.toNat ((List.length (a ++ c)):Int))))
 else none
 else none
 else none
 else none
 else none
 else none
 else none
def e101_1 (fu:Nat):Ent := ⟨101,(.cons (.box 141 1 (.cons (.own .app 5 (.int .u8)) .nil)) (.cons (.hole (.sl .any (.int .u8))) .nil)),(.cons (.agg 1 (.cons (.own .app 5 (.int .u8)) .nil)) (.cons .dead .nil)),(.hole (.sl .new (.int .u8))),p101_1 fu⟩
theorem g101_1 (fu:Nat):(e101_1 fu).Good Try.prog := good_fx orders Try.func101 fu [(15,(.ty (.int .u8)))] [] rs101 32 (l := []) trivial
def p100_1 (fu:Nat):((Int)×((ByteArray)×((List (Int))×((Int)×((Int)×(Unit))))))×((((List (Int))×(Unit))×(Unit))×(Unit))→Option ((((Unit)×(Unit))×(((List (Int))×(Unit))×((Unit)×(Unit))))×((Int)×((ByteArray)×((List (Int))×((Int)×((Int)×(Unit))))))) := fun ⟨⟨a,c,f,h,i,_⟩,⟨⟨j,_⟩,_⟩,_⟩ =>
bif decide (List.length j=List.length j) then
 Option.bind (p101_1 fu ((j,()),f,())) fun ⟨⟨⟨k,_⟩,_,_⟩,l⟩ =>
 bif decide (List.length k=List.length k) then
 some ((((),()),(k,()),(),()),(a,c,l,h,i,()))
 else none
else none
def e100_1 (fu:Nat):Ent := ⟨100,(.cons Y36 (.cons (.box 137 1 (.cons (.box 141 1 (.cons (.own .app 5 (.int .u8)) .nil)) .nil)) .nil)),(.cons (.agg 1 (.cons (.ptr 1) .nil)) (.cons (.agg 1 (.cons (.own .app 5 (.int .u8)) .nil)) (.cons .dead .nil))),Y22,p100_1 fu⟩
theorem g100_1 (fu:Nat):(e100_1 fu).Good Try.prog := good_fx orders Try.func100 fu [(5,(.ent (e101_1 fu)))] [] rs100 10 (l := [e101_1 fu]) ⟨g101_1 fu,trivial⟩
def p99_1 (fu:Nat):(List (D_api_Record))×(((Unit)×((((List (Int))×(Unit))×(Unit))×(Unit)))×(Unit))→Option ((((Unit)×(Unit))×(((List (Int))×(Unit))×((Unit)×(Unit))))×(List (D_api_Record))) := fun ⟨a,⟨_,⟨⟨⟨c,_⟩,_⟩,_⟩⟩,_⟩ =>
bif ((List.length a:Int)==(0:Int)) then
 bif decide (List.length c=List.length c) then
 some ((((),()),(c,()),(),()),[])
 else none
else
 bif decide ((0:Int)≤(List.length a:Int)∧((List.length a:Int):Int)≤(List.length a:Int)∧((List.length a:Int):Int)≤9223372036854775807∧(64:Int) * (List.length a:Int)≤140737488355328) then
 bif decide (Int.toNat (List.length a:Int)=List.length (List.replicate (Int.toNat (List.length a:Int)) ((0:Int),(⟨#[]⟩:ByteArray),[],(0:Int),(0:Int)):List (D_api_Record))) then
 bif decide (List.length c=List.length c) then
 loopO (S := ((List (D_api_Record))×((Int)×(Unit)))×(((Unit)×(Unit))×(((List (Int))×(Unit))×(Unit)))) fu (fun ⟨⟨f,h,_⟩,⟨⟨_,_⟩,⟨i,_⟩,_⟩⟩ =>
 bif decide (h<(List.length a:Int)) then
 bif decide ((0:Int)≤h∧h<(List.length a:Int)) then
 bif decide (Int.toNat h<List.length a) then
 bif decide (List.length i=List.length i) then
 Option.bind (p100_1 fu (((List.getD a (Int.toNat h) (dflt T_api_Record)).1,((List.getD a (Int.toNat h) (dflt T_api_Record)).2).1,(((List.getD a (Int.toNat h) (dflt T_api_Record)).2).2).1,((((List.getD a (Int.toNat h) (dflt T_api_Record)).2).2).2).1,((((List.getD a (Int.toNat h) (dflt T_api_Record)).2).2).2).2,()),((i,()),()),())) fun ⟨⟨⟨_,_⟩,⟨j,_⟩,_,_⟩,⟨k,l,m,n,o,_⟩⟩ =>
 bif decide ((0:Int)≤h∧h<(List.length f:Int)) then
 bif decide (Int.toNat h<List.length f) then
 bif decide (List.length f=List.length (List.set f (Int.toNat h) (k,l,m,n,o))) then
 bif decide (List.length j=List.length j) then
 some (.inl (((List.set f (Int.toNat h) (k,l,m,n,o)),IntKind.wrap .i64 (h+(1:Int)),()),(((),()),(j,()),())))
 else none
 else none
 else none
 else none
 else none
 else none
 else none
 else
 inrO (bif decide (List.length i=List.length i) then
 bif decide (List.length f=List.length f) then
 some ((((),()),(i,()),(),()),f)
 else none
 else none))
 (((List.replicate (Int.toNat (List.length a:Int)) ((0:Int),(⟨#[]⟩:ByteArray),[],(0:Int),(0:Int)):List (D_api_Record)),(0:Int),()),(((),()),(c,()),()))
 else none
 else none
 else none
def e99_1 (fu:Nat):Ent := ⟨99,(.cons (.hole (.sl .any T_api_Record)) (.cons (.clo 100 0 .nil 1 (.cons (.box 137 1 (.cons (.box 141 1 (.cons (.own .app 5 (.int .u8)) .nil)) .nil)) .nil)) .nil)),(.cons (.agg 1 (.cons (.ptr 1) .nil)) (.cons (.agg 1 (.cons (.own .app 5 (.int .u8)) .nil)) (.cons .dead .nil))),(.own .own 133 T_api_Record_n),p99_1 fu⟩
theorem g99_1 (fu:Nat):(e99_1 fu).Good Try.prog := good_fx orders Try.func99 fu [(7,(.ty T_api_Record_n)),(23,(.ent (e100_1 fu)))] [(7,⟨[5,16],(.cons (.own .own 133 T_api_Record_n) (.cons (.hole (.int .i64)) .nil)),[(0,137,1),(1,141,1)],(.cons (.agg 1 (.cons (.ptr 1) .nil)) (.cons (.agg 1 (.cons (.own .app 5 (.int .u8)) .nil)) .nil)),[1,14,15],[2]⟩)] rs99 29 (l := [e100_1 fu]) ⟨g100_1 fu,trivial⟩
def p93_1 (fu:Nat):(List (D_api_Record))×(Unit)→Option ((Unit)×(List (D_api_Record))) := fun ⟨a,_⟩ =>
loopO (S := ((Int)×((Int)×(Unit)))×(Unit)) fu (fun ⟨⟨c,f,_⟩,_⟩ =>
 bif decide (f<(List.length a:Int)) then
 bif decide ((0:Int)≤f∧f<(List.length a:Int)) then
 bif decide (Int.toNat f<List.length a) then
 some (.inl ((IntKind.wrap .i64 (c+(List.length ((((List.getD a (Int.toNat f) (dflt T_api_Record)).2).2).1):Int)),IntKind.wrap .i64 (f+(1:Int)),()),()))
 else none
 else none
 else
 inrO (Option.bind (p98 fu (c,())) fun ⟨_,⟨h,_⟩⟩ =>
 bif decide (List.length h=List.length h) then
 Option.bind (p99_1 fu (a,((),(((h,()),()),())),())) fun ⟨⟨⟨_,_⟩,⟨_,_⟩,_,_⟩,i⟩ =>
 bif decide (List.length i=List.length i) then
 some ((),i)
 else none
 else none))
 (((0:Int),(0:Int),()),())
def e93_1 (fu:Nat):Ent := ⟨93,(.cons (.hole (.sl .any T_api_Record)) .nil),.nil,(.own .own 133 T_api_Record_n),p93_1 fu⟩
theorem g93_1 (fu:Nat):(e93_1 fu).Good Try.prog := good_fx orders Try.func93 fu [(20,(.ent (e98 fu))),(25,(.ent (e99_1 fu)))] [(4,⟨[3,8],(.cons (.hole (.int .i64)) (.cons (.hole (.int .i64)) .nil)),[],.nil,[0,7],[]⟩)] rs93 25 (l := [e98 fu,e99_1 fu]) ⟨g98 fu,g99_1 fu,trivial⟩
def p80_1 (fu:Nat):(Z23)×(Unit)→Option ((Unit)×((Int)×((Int)×((Int)×((Int)×((Int)×((Bool)×((List (D_api_Record))×((Int)×((List (D_api_Shard))×((Int)×((Int)×((Int)×(Unit)))))))))))))) := fun ⟨⟨a,c,f,h,i,j,k,l,m,n,o,q,_⟩,_⟩ =>
Option.bind (p93_1 fu (k,())) fun ⟨_,s⟩ =>
Option.bind (p52_1 fu (m,())) fun ⟨_,t⟩ =>
bif decide (List.length s=List.length s) then
 bif decide (List.length t=List.length t) then
 some ((),(a,c,f,h,i,j,s,l,t,n,o,q,()))
 else none
else none
def e80_1 (fu:Nat):Ent := ⟨80,(.cons Y37 .nil),.nil,Y25,p80_1 fu⟩
theorem g80_1 (fu:Nat):(e80_1 fu).Good Try.prog := good_fx orders Try.func80 fu [(5,(.ent (e93_1 fu))),(11,(.ent (e52_1 fu)))] [] rs80 14 (l := [e93_1 fu,e52_1 fu]) ⟨g93_1 fu,g52_1 fu,trivial⟩
def p60_1 (fu:Nat):(Z0)×((Z23)×(Unit))→Option (((Z26)×((Unit)×((Unit)×((Unit)×((Unit)×((Unit)×(Unit)))))))×(Unit)) := fun ⟨⟨a,c,f,h,i,j,_,_,_,_,_,_,_,_,_,_,_,_,_,_,_,_,_,_,_,_,k,_,_,_,_,_,l,m,n,o,q,s,t,u,w,x,y,_,z,a0,c0,f0,h0,i0,j0,k0,_,l0,m0,n0,o0,q0,s0,t0,u0,_,_,_,_,_,_,_,_,_,_,_,_,_,_⟩,⟨w0,x0,y0,z0,a1,c1,f1,h1,i1,j1,k1,l1,_⟩,_⟩ =>
Option.bind (p80_1 fu ((w0,x0,y0,z0,a1,c1,f1,h1,i1,j1,k1,l1,()),())) fun ⟨_,⟨m1,n1,o1,q1,s1,t1,u1,w1,x1,y1,z1,a2,_⟩⟩ =>
bif decide (List.length c=List.length c) then
 bif decide (List.length i=List.length i) then
 bif decide (List.length j=List.length j) then
 bif decide (List.length u1=List.length u1) then
 bif decide (List.length x1=List.length x1) then
 some (((a,c,f,h,i,j,false,(0:Int),(⟨#[]⟩:ByteArray),(⟨#[]⟩:ByteArray),(),(0:Int),(0:Int),(⟨#[]⟩:ByteArray),(0:Int),(0:Int),(0:Int),(⟨#[]⟩:ByteArray),(),(0:Int),(0:Int),(⟨#[]⟩:ByteArray),(0:Int),(0:Int),(0:Int),(0:Int),k,false,(0:Int),(0:Int),(0:Int),false,l,m,n,o,q,s,t,u,w,x,y,(),z,a0,c0,f0,h0,i0,j0,k0,(),l0,m0,n0,o0,q0,s0,t0,u0,true,m1,n1,o1,q1,s1,t1,u1,w1,x1,y1,z1,a2,()),(),(),(),(),(),()),())
 else none
 else none
 else none
 else none
else none
def e60_1 (fu:Nat):Ent := ⟨60,(.cons Y27 (.cons Y37 .nil)),(.cons Y28 (.cons .dead (.cons .dead (.cons .dead (.cons .dead (.cons .dead .nil)))))),(.tup 0 .nil),p60_1 fu⟩
theorem g60_1 (fu:Nat):(e60_1 fu).Good Try.prog := good_fx orders Try.func60 fu [(4,(.ent (e80_1 fu)))] [] rs60 43 (l := [e80_1 fu]) ⟨g80_1 fu,trivial⟩
def rs66:List RVx := []
def p66 (_:Nat):(Z0)×(Unit)→Option (((Z0)×((Unit)×((Unit)×((Unit)×((Unit)×((Unit)×(Unit)))))))×(Unit)) := fun ⟨⟨a,c,f,h,i,j,k,l,m,n,o,q,s,t,u,w,x,y,z,a0,c0,f0,h0,i0,j0,k0,l0,m0,n0,o0,q0,s0,t0,u0,w0,x0,y0,z0,a1,c1,f1,h1,i1,_,j1,k1,l1,m1,n1,o1,q1,s1,_,t1,u1,w1,x1,y1,z1,a2,c2,f2,h2,i2,j2,k2,l2,m2,_,n2,_,o2,q2,s2,_⟩,_⟩ =>
bif ((IntKind.wrap .i64 (t0+(1:Int)))==((List.length c):Int)) then
 bif decide (List.length c=List.length c) then
 bif decide (List.length i=List.length i) then
 bif decide (List.length j=List.length j) then
 bif decide (List.length o=List.length o) then
 bif decide (List.length z=List.length z) then
 some (((a,c,f,h,i,j,k,l,m,n,o,q,s,t,u,w,x,y,z,a0,c0,f0,h0,i0,j0,k0,l0,m0,n0,o0,q0,s0,(0:Int),u0,w0,x0,y0,z0,a1,c1,f1,h1,i1,(),j1,k1,l1,m1,n1,o1,q1,s1,(),t1,u1,w1,x1,y1,z1,a2,c2,f2,h2,i2,j2,k2,l2,m2,(),n2,(),o2,q2,s2,()),(),(),(),(),(),()),())
 else none
 else none
 else none
 else none
 else none
else
 bif decide (List.length c=List.length c) then
 bif decide (List.length i=List.length i) then
 bif decide (List.length j=List.length j) then
 bif decide (List.length o=List.length o) then
 bif decide (List.length z=List.length z) then
 some (((a,c,f,h,i,j,k,l,m,n,o,q,s,t,u,w,x,y,z,a0,c0,f0,h0,i0,j0,k0,l0,m0,n0,o0,q0,s0,IntKind.wrap .i64 (t0+(1:Int)),u0,w0,x0,y0,z0,a1,c1,f1,h1,i1,(),j1,k1,l1,m1,n1,o1,q1,s1,(),t1,u1,w1,x1,y1,z1,a2,c2,f2,h2,i2,j2,k2,l2,m2,(),n2,(),o2,q2,s2,()),(),(),(),(),(),()),())
 else none
 else none
 else none
 else none
 else none
def e66 (fu:Nat):Ent := ⟨66,(.cons Y27 .nil),(.cons Y29 (.cons .dead (.cons .dead (.cons .dead (.cons .dead (.cons .dead .nil)))))),(.tup 0 .nil),p66 fu⟩
theorem g66 (fu:Nat):(e66 fu).Good Try.prog := good_fx orders Try.func66 fu [] [] rs66 27 (l := []) trivial
def rs64:List RVx := []
def p64 (_:Nat):(Z0)×(Unit)→Option (((Z0)×((Unit)×((Unit)×((Unit)×((Unit)×((Unit)×(Unit)))))))×(Unit)) := fun ⟨⟨a,c,f,h,i,j,k,l,m,n,o,q,s,t,u,w,x,y,z,a0,c0,f0,h0,i0,j0,k0,l0,m0,n0,o0,_,_,q0,s0,t0,u0,w0,x0,y0,z0,a1,c1,f1,_,h1,i1,j1,k1,l1,m1,n1,o1,_,q1,s1,t1,u1,w1,x1,y1,z1,a2,c2,f2,h2,i2,j2,k2,_,l2,_,m2,n2,o2,_⟩,_⟩ =>
bif decide (List.length c=List.length c) then
 bif decide (List.length i=List.length i) then
 bif decide (List.length j=List.length j) then
 bif decide (List.length o=List.length o) then
 bif decide (List.length z=List.length z) then
 some (((a,c,f,h,i,j,k,l,m,n,o,q,s,t,u,w,x,y,z,a0,c0,f0,h0,i0,j0,k0,l0,m0,n0,o0,(0:Int),true,q0,s0,t0,u0,w0,x0,y0,z0,a1,c1,f1,(),h1,i1,j1,k1,l1,m1,n1,o1,(),q1,s1,t1,u1,w1,x1,y1,z1,a2,c2,f2,h2,i2,j2,k2,(),l2,(),m2,n2,o2,()),(),(),(),(),(),()),())
 else none
 else none
 else none
 else none
else none
def e64 (fu:Nat):Ent := ⟨64,(.cons Y27 .nil),(.cons Y29 (.cons .dead (.cons .dead (.cons .dead (.cons .dead (.cons .dead .nil)))))),(.tup 0 .nil),p64 fu⟩
theorem g64 (fu:Nat):(e64 fu).Good Try.prog := good_fx orders Try.func64 fu [] [] rs64 10 (l := []) trivial
def rs58:List RVx := []
def p58 (fu:Nat):(Z0)×((Z23)×(Unit))→Option (((Z3)×((Unit)×((Unit)×((Unit)×((Unit)×((Unit)×(Unit)))))))×(Unit)) := fun ⟨⟨a,c,f,h,i,j,k,l,m,n,o,q,s,t,u,w,x,y,z,a0,c0,f0,h0,i0,j0,k0,l0,m0,n0,o0,q0,s0,t0,u0,w0,x0,y0,z0,a1,c1,f1,h1,i1,_,j1,k1,l1,m1,n1,o1,q1,s1,_,t1,u1,w1,x1,y1,z1,a2,c2,f2,h2,i2,j2,k2,l2,m2,_,n2,_,o2,q2,s2,_⟩,⟨t2,u2,w2,x2,y2,z2,a3,c3,f3,h3,i3,j3,_⟩,_⟩ =>
orK (E := (Unit)×((Z0)×(Unit)))
 (orK (E := ((Bool)×(Unit))×(Unit))
 (bif m0 then
 some (.inl ((true,()),()))
 else
 some (.inl (((l==(6:Int)),()),())))
 fun ⟨⟨k3,_⟩,_⟩ =>
 bif k3 then
 Option.bind (p52_1 fu (f3,())) fun ⟨_,l3⟩ =>
 Option.bind (p76 fu (m,())) fun ⟨_,⟨_,⟨⟨m3,_⟩,_⟩⟩⟩ =>
 bif decide (List.length i=List.length i) then
 bif decide (List.length l3=List.length l3) then
 Option.bind (p75 fu (i,(m,l3,()),((),((m3,()),())),())) fun ⟨⟨_,_,⟨_,_⟩,_⟩,n3⟩ =>
 bif decide (List.length c=List.length c) then
 bif decide (List.length n3=List.length n3) then
 bif decide (List.length j=List.length j) then
 bif decide (List.length o=List.length o) then
 bif decide (List.length z=List.length z) then
 some (.inl ((),((a,c,f,h,n3,j,k,l,m,n,o,q,s,t,u,w,x,y,z,a0,c0,f0,h0,i0,j0,k0,l0,m0,n0,o0,q0,s0,t0,u0,w0,x0,y0,z0,a1,c1,f1,h1,i1,(),j1,k1,l1,m1,n1,o1,q1,s1,(),t1,u1,w1,x1,y1,z1,a2,c2,f2,h2,i2,j2,k2,l2,m2,(),n2,(),o2,q2,s2,()),())))
 else none
 else none
 else none
 else none
 else none
 else none
 else none
 else
 bif decide (List.length c=List.length c) then
 bif decide (List.length i=List.length i) then
 bif decide (List.length j=List.length j) then
 bif decide (List.length o=List.length o) then
 bif decide (List.length z=List.length z) then
 some (.inl ((),((a,c,f,h,i,j,k,l,m,n,o,q,s,t,u,w,x,y,z,a0,c0,f0,h0,i0,j0,k0,l0,m0,n0,o0,q0,s0,t0,u0,w0,x0,y0,z0,a1,c1,f1,h1,i1,(),j1,k1,l1,m1,n1,o1,q1,s1,(),t1,u1,w1,x1,y1,z1,a2,c2,f2,h2,i2,j2,k2,l2,m2,(),n2,(),o2,q2,s2,()),())))
 else none
 else none
 else none
 else none
 else none)
 fun ⟨_,⟨⟨o3,q3,s3,t3,u3,w3,x3,y3,z3,a4,c4,f4,h4,i4,j4,k4,l4,m4,n4,o4,q4,s4,t4,u4,w4,x4,y4,z4,a5,c5,f5,h5,i5,j5,k5,l5,m5,n5,o5,q5,s5,t5,u5,_,w5,x5,y5,z5,a6,c6,f6,h6,_,i6,j6,k6,l6,m6,n6,o6,q6,s6,t6,u6,w6,x6,y6,z6,_,a7,_,c7,f7,h7,_⟩,_⟩⟩ =>
bif !z4 then
 bif decide (List.length q3=List.length q3) then
 bif decide (List.length u3=List.length u3) then
 bif decide (List.length w3=List.length w3) then
 bif decide (List.length c4=List.length c4) then
 bif decide (List.length n4=List.length n4) then
 Option.bind (p60_1 fu ((o3,q3,s3,t3,u3,w3,x3,y3,z3,a4,c4,f4,h4,i4,j4,k4,l4,m4,n4,o4,q4,s4,t4,u4,w4,x4,y4,z4,a5,c5,f5,h5,i5,j5,k5,l5,m5,n5,o5,q5,s5,t5,u5,(),w5,x5,y5,z5,a6,c6,f6,h6,(),i6,j6,k6,l6,m6,n6,o6,q6,s6,t6,u6,w6,x6,y6,z6,(),a7,(),c7,f7,h7,()),(t2,u2,w2,x2,y2,z2,a3,c3,f3,h3,i3,j3,()),())) fun ⟨⟨⟨i7,j7,k7,l7,m7,n7,o7,q7,s7,t7,_,u7,w7,x7,y7,z7,a8,c8,_,f8,h8,i8,j8,k8,l8,m8,n8,o8,q8,s8,t8,u8,w8,x8,y8,z8,a9,c9,f9,h9,i9,j9,k9,_,l9,m9,n9,o9,q9,s9,t9,u9,_,w9,x9,y9,z9,a10,c10,f10,h10,i10,j10,k10,l10,m10,n10,o10,q10,s10,t10,u10,w10,x10,_⟩,_,_,_,_,_,_⟩,_⟩ =>
 bif decide (List.length j7=List.length j7) then
 bif decide (List.length m7=List.length m7) then
 bif decide (List.length n7=List.length n7) then
 bif decide (List.length q10=List.length q10) then
 bif decide (List.length t10=List.length t10) then
 some (((i7,j7,k7,l7,m7,n7,o7,q7,s7,t7,[],u7,w7,x7,y7,z7,a8,c8,[],f8,h8,i8,j8,k8,l8,m8,n8,o8,q8,s8,t8,u8,w8,x8,y8,z8,a9,c9,f9,h9,i9,j9,k9,[],l9,m9,n9,o9,q9,s9,t9,u9,[],w9,x9,y9,z9,a10,c10,f10,h10,i10,j10,k10,l10,m10,n10,o10,q10,s10,t10,u10,w10,x10,()),(),(),(),(),(),()),())
 else none
 else none
 else none
 else none
 else none
 else none
 else none
 else none
 else none
 else none
else
 bif decide (List.length q3=List.length q3) then
 bif decide (List.length u3=List.length u3) then
 bif decide (List.length w3=List.length w3) then
 bif decide (List.length c4=List.length c4) then
 bif decide (List.length n4=List.length n4) then
 Option.bind (p77_1 fu ((o3,q3,s3,t3,u3,w3,x3,y3,z3,a4,c4,f4,h4,i4,j4,k4,l4,m4,n4,o4,q4,s4,t4,u4,w4,x4,y4,z4,a5,c5,f5,h5,i5,j5,k5,l5,m5,n5,o5,q5,s5,t5,u5,(),w5,x5,y5,z5,a6,c6,f6,h6,(),i6,j6,k6,l6,m6,n6,o6,q6,s6,t6,u6,w6,x6,y6,z6,(),a7,(),c7,f7,h7,()),())) fun ⟨⟨⟨y10,z10,a11,c11,f11,h11,i11,j11,k11,l11,m11,n11,o11,q11,s11,t11,u11,w11,x11,y11,z11,a12,c12,f12,h12,i12,j12,k12,l12,m12,n12,o12,q12,s12,t12,u12,w12,x12,y12,z12,a13,c13,f13,_,h13,i13,j13,k13,l13,m13,n13,o13,_,q13,s13,t13,u13,w13,x13,y13,z13,a14,c14,f14,h14,i14,j14,k14,_,l14,_,m14,n14,o14,_⟩,_,_,_,_,_,_⟩,⟨⟨_,_,_,_,_,_,_,_⟩,q14,_⟩⟩ =>
 bif q14 then
 bif decide (List.length z10=List.length z10) then
 bif decide (List.length f11=List.length f11) then
 bif decide (List.length h11=List.length h11) then
 bif decide (List.length m11=List.length m11) then
 bif decide (List.length x11=List.length x11) then
 Option.bind (p57 fu ((y10,z10,a11,c11,f11,h11,i11,j11,k11,l11,m11,n11,o11,q11,s11,t11,u11,w11,x11,y11,z11,a12,c12,f12,h12,i12,j12,k12,l12,m12,n12,o12,q12,s12,t12,u12,w12,x12,y12,z12,a13,c13,f13,(),h13,i13,j13,k13,l13,m13,n13,o13,(),q13,s13,t13,u13,w13,x13,y13,z13,a14,c14,f14,h14,i14,j14,k14,(),l14,(),m14,n14,o14,()),())) fun ⟨⟨⟨s14,t14,u14,w14,x14,y14,z14,a15,c15,f15,h15,i15,j15,k15,l15,m15,n15,o15,q15,s15,t15,u15,w15,x15,y15,z15,a16,c16,f16,h16,i16,j16,k16,l16,m16,n16,o16,q16,s16,t16,u16,w16,x16,y16,z16,a17,c17,f17,h17,i17,j17,k17,l17,m17,n17,o17,q17,s17,t17,u17,w17,x17,y17,z17,a18,c18,f18,h18,i18,j18,k18,l18,m18,n18,_⟩,_,_,_,_,_,_⟩,_⟩ =>
 bif decide (List.length t14=List.length t14) then
 bif decide (List.length x14=List.length x14) then
 bif decide (List.length y14=List.length y14) then
 bif decide (List.length h15=List.length h15) then
 bif decide (List.length q15=List.length q15) then
 bif decide (List.length y16=List.length y16) then
 bif decide (List.length l17=List.length l17) then
 bif decide (List.length i18=List.length i18) then
 bif decide (List.length k18=List.length k18) then
 some (((s14,t14,u14,w14,x14,y14,z14,a15,c15,f15,h15,i15,j15,k15,l15,m15,n15,o15,q15,s15,t15,u15,w15,x15,y15,z15,a16,c16,f16,h16,i16,j16,k16,l16,m16,n16,o16,q16,s16,t16,u16,w16,x16,y16,z16,a17,c17,f17,h17,i17,j17,k17,l17,m17,n17,o17,q17,s17,t17,u17,w17,x17,y17,z17,a18,c18,f18,h18,i18,j18,k18,l18,m18,n18,()),(),(),(),(),(),()),())
 else none
 else none
 else none
 else none
 else none
 else none
 else none
 else none
 else none
 else none
 else none
 else none
 else none
 else none
 else
 bif decide (List.length z10=List.length z10) then
 bif decide (List.length f11=List.length f11) then
 bif decide (List.length h11=List.length h11) then
 bif decide (List.length m11=List.length m11) then
 bif decide (List.length x11=List.length x11) then
 Option.bind (p66 fu ((y10,z10,a11,c11,f11,h11,i11,j11,k11,l11,m11,n11,o11,q11,s11,t11,u11,w11,x11,y11,z11,a12,c12,f12,h12,i12,j12,k12,l12,m12,n12,o12,q12,s12,t12,u12,w12,x12,y12,z12,a13,c13,f13,(),h13,i13,j13,k13,l13,m13,n13,o13,(),q13,s13,t13,u13,w13,x13,y13,z13,a14,c14,f14,h14,i14,j14,k14,(),l14,(),m14,n14,o14,()),())) fun ⟨⟨⟨o18,q18,s18,t18,u18,w18,x18,y18,z18,a19,c19,f19,h19,i19,j19,k19,l19,m19,n19,o19,q19,s19,t19,u19,w19,x19,y19,z19,a20,c20,f20,h20,i20,j20,k20,l20,m20,n20,o20,q20,s20,t20,u20,_,w20,x20,y20,z20,a21,c21,f21,h21,_,i21,j21,k21,l21,m21,n21,o21,q21,s21,t21,u21,w21,x21,y21,z21,_,a22,_,c22,f22,h22,_⟩,_,_,_,_,_,_⟩,_⟩ =>
 bif decide (List.length q18=List.length q18) then
 bif decide (List.length u18=List.length u18) then
 bif decide (List.length w18=List.length w18) then
 bif decide (List.length c19=List.length c19) then
 bif decide (List.length n19=List.length n19) then
 Option.bind (p64 fu ((o18,q18,s18,t18,u18,w18,x18,y18,z18,a19,c19,f19,h19,i19,j19,k19,l19,m19,n19,o19,q19,s19,t19,u19,w19,x19,y19,z19,a20,c20,f20,h20,i20,j20,k20,l20,m20,n20,o20,q20,s20,t20,u20,(),w20,x20,y20,z20,a21,c21,f21,h21,(),i21,j21,k21,l21,m21,n21,o21,q21,s21,t21,u21,w21,x21,y21,z21,(),a22,(),c22,f22,h22,()),())) fun ⟨⟨⟨i22,j22,k22,l22,m22,n22,o22,q22,s22,t22,u22,w22,x22,y22,z22,a23,c23,f23,h23,i23,j23,k23,l23,m23,n23,o23,q23,s23,t23,u23,w23,x23,y23,z23,a24,c24,f24,h24,i24,j24,k24,l24,m24,_,n24,o24,q24,s24,t24,u24,w24,x24,_,y24,z24,a25,c25,f25,h25,i25,j25,k25,l25,m25,n25,o25,q25,s25,_,t25,_,u25,w25,x25,_⟩,_,_,_,_,_,_⟩,_⟩ =>
 bif decide (List.length j22=List.length j22) then
 bif decide (List.length m22=List.length m22) then
 bif decide (List.length n22=List.length n22) then
 bif decide (List.length u22=List.length u22) then
 bif decide (List.length h23=List.length h23) then
 some (((i22,j22,k22,l22,m22,n22,o22,q22,s22,t22,u22,w22,x22,y22,z22,a23,c23,f23,h23,i23,j23,k23,l23,m23,n23,o23,q23,s23,t23,u23,w23,x23,y23,z23,a24,c24,f24,h24,i24,j24,k24,l24,m24,[],n24,o24,q24,s24,t24,u24,w24,x24,[],y24,z24,a25,c25,f25,h25,i25,j25,k25,l25,m25,n25,o25,q25,s25,[],t25,[],u25,w25,x25,()),(),(),(),(),(),()),())
 else none
 else none
 else none
 else none
 else none
 else none
 else none
 else none
 else none
 else none
 else none
 else none
 else none
 else none
 else none
 else none
 else none
 else none
 else none
 else none
def e58 (fu:Nat):Ent := ⟨58,(.cons Y27 (.cons Y37 .nil)),(.cons Y33 (.cons .dead (.cons .dead (.cons .dead (.cons .dead (.cons .dead .nil)))))),(.tup 0 .nil),p58 fu⟩
theorem g58 (fu:Nat):(e58 fu).Good Try.prog := good_fx orders Try.func58 fu [(31,(.ent (e52_1 fu))),(34,(.ent (e76 fu))),(35,(.ent (e75 fu))),(48,(.ent (e60_1 fu))),(50,(.ent (e77_1 fu))),(59,(.ent (e57 fu))),(61,(.ent (e66 fu))),(63,(.ent (e64 fu)))] [(1,⟨[],.nil,[(0,75,74)],(.cons Y29 .nil),[0,3],[1,2,3,4,5,12]⟩),(2,⟨[20],(.cons (.hole .bool) .nil),[],.nil,[0,3],[0,1,2,3,4,5,7,8,9,10,11,12]⟩)] rs58 65 (l := [e52_1 fu,e76 fu,e75 fu,e60_1 fu,e77_1 fu,e57 fu,e66 fu,e64 fu]) ⟨g52_1 fu,g76 fu,g75 fu,g60_1 fu,g77_1 fu,g57 fu,g66 fu,g64 fu,trivial⟩
def rs78:List RVx := [(.tmp 6)]
def p78 (fu:Nat):(List (D_api_Site))×(((Int)×((Int)×(Unit)))×(((Unit)×(((Int)×(Unit))×(Unit)))×(Unit)))→Option (((Unit)×(((Int)×(Unit))×(Unit)))×(List (D_api_Site))) := fun ⟨a,⟨c,f,_⟩,⟨_,⟨⟨h,_⟩,_⟩⟩,_⟩ =>
bif decide (List.length a=List.length a) then
 Option.bind (p91 fu (a,((),((h,()),())),())) fun ⟨⟨⟨i,_⟩,_⟩,j⟩ =>
 bif decide (j≥(0:Int)) then
 bif decide ((0:Int)≤j∧j<(List.length a:Int)) then
 bif decide (Int.toNat j<List.length a) then
 bif decide (List.length a=List.length (List.set a (Int.toNat j) (c,f))) then
 some (((),(i,()),()),(List.set a (Int.toNat j) (c,f)))
 else none
 else none
 else none
 else
 bif decide (List.length a=List.length a) then
 bif decide (List.length a+List.length ([(c,f)])≤maxLen∧(List.length a+List.length ([(c,f)])) * 16≤140737488355328) then
 bif decide (List.length (a ++ [(c,f)])=List.length (a ++ [(c,f)])) then
 some (((),(i,()),()),(a ++ [(c,f)]))
 else none
 else none
 else none
else none
def e78 (fu:Nat):Ent := ⟨78,(.cons (.own .own 88 T_api_Site) (.cons (.agg 2 (.cons (.hole (.int .u64)) (.cons (.hole (.int .i64)) .nil))) (.cons (.clo 92 0 .nil 1 (.cons (.box 25 1 (.cons (.hole (.int .u64)) .nil)) .nil)) .nil))),(.cons .dead (.cons (.agg 1 (.cons (.hole (.int .u64)) .nil)) .nil)),(.own .own 88 T_api_Site),p78 fu⟩
theorem g78 (fu:Nat):(e78 fu).Good Try.prog := good_fx orders Try.func78 fu [(4,(.ent (e91 fu))),(17,(.ty T_api_Site)),(18,(.ty T_api_Site))] [] rs78 22 (l := [e91 fu]) ⟨g91 fu,trivial⟩
def rs82:List RVx := [(.tmp 4)]
def p82 (fu:Nat):(List (D_api_Site))×(((Unit)×(((Int)×(Unit))×(Unit)))×(Unit))→Option ((((Int)×(Unit))×(Unit))×(List (D_api_Site))) := fun ⟨a,⟨_,⟨⟨c,_⟩,_⟩⟩,_⟩ =>
loopO (S := ((List (D_api_Site))×((Int)×(Unit)))×(Unit)) fu (fun ⟨⟨f,h,_⟩,_⟩ =>
 bif decide (h<(List.length a:Int)) then
 bif decide ((0:Int)≤h∧h<(List.length a:Int)) then
 bif decide (Int.toNat h<List.length a) then
 Option.bind (p92 fu (((List.getD a (Int.toNat h) (dflt T_api_Site)).1,(List.getD a (Int.toNat h) (dflt T_api_Site)).2,()),(c,()),())) fun ⟨_,i⟩ =>
 bif !i then
 bif decide (List.length f=List.length f) then
 bif decide (List.length f+List.length ([((List.getD a (Int.toNat h) (dflt T_api_Site)).1,(List.getD a (Int.toNat h) (dflt T_api_Site)).2)])≤maxLen∧(List.length f+List.length ([((List.getD a (Int.toNat h) (dflt T_api_Site)).1,(List.getD a (Int.toNat h) (dflt T_api_Site)).2)])) * 16≤140737488355328) then
 bif decide (List.length (f ++ [((List.getD a (Int.toNat h) (dflt T_api_Site)).1,(List.getD a (Int.toNat h) (dflt T_api_Site)).2)])=List.length (f ++ [((List.getD a (Int.toNat h) (dflt T_api_Site)).1,(List.getD a (Int.toNat h) (dflt T_api_Site)).2)])) then
 some (.inl (((f ++ [((List.getD a (Int.toNat h) (dflt T_api_Site)).1,(List.getD a (Int.toNat h) (dflt T_api_Site)).2)]),IntKind.wrap .i64 (h+(1:Int)),()),()))
 else none
 else none
 else none
 else
 bif decide (List.length f=List.length f) then
 some (.inl ((f,IntKind.wrap .i64 (h+(1:Int)),()),()))
 else none
 else none
 else none
 else
 inrO (bif decide (List.length f=List.length f) then
 some (((c,()),()),f)
 else none))
 (([],(0:Int),()),())
def e82 (fu:Nat):Ent := ⟨82,(.cons (.hole (.sl .any T_api_Site)) (.cons (.clo 92 0 .nil 1 (.cons (.box 25 1 (.cons (.hole (.int .u64)) .nil)) .nil)) .nil)),(.cons (.agg 1 (.cons (.hole (.int .u64)) .nil)) .nil),(.own .own 88 T_api_Site),p82 fu⟩
theorem g82 (fu:Nat):(e82 fu).Good Try.prog := good_fx orders Try.func82 fu [(12,(.ent (e92 fu))),(16,(.ty T_api_Site)),(17,(.ty T_api_Site))] [(4,⟨[5,10],(.cons (.own .own 88 T_api_Site) (.cons (.hole (.int .i64)) .nil)),[],.nil,[1,8,9],[0]⟩)] rs82 24 (l := [e92 fu]) ⟨g92 fu,trivial⟩
def rs65:List RVx := []
def p65 (fu:Nat):(Z0)×(Unit)→Option (((Z0)×((Unit)×((Unit)×((Unit)×((Unit)×((Unit)×(Unit)))))))×(Unit)) := fun ⟨⟨a,c,f,h,i,j,k,l,m,n,o,q,s,t,u,w,x,y,z,a0,c0,f0,h0,i0,j0,k0,l0,m0,n0,o0,q0,s0,t0,u0,w0,x0,y0,z0,a1,c1,f1,h1,i1,_,j1,k1,l1,m1,n1,o1,q1,s1,_,t1,u1,w1,x1,y1,z1,a2,c2,f2,h2,i2,j2,k2,l2,m2,_,n2,_,o2,q2,s2,_⟩,_⟩ =>
Option.bind (p79 fu (n0,())) fun ⟨_,⟨_,⟨⟨t2,_⟩,_⟩⟩⟩ =>
bif decide (List.length j=List.length j) then
 Option.bind (p82 fu (j,((),((t2,()),())),())) fun ⟨⟨⟨_,_⟩,_⟩,u2⟩ =>
 bif decide (List.length c=List.length c) then
 bif decide (List.length i=List.length i) then
 bif decide (List.length u2=List.length u2) then
 bif decide (List.length o=List.length o) then
 bif decide (List.length z=List.length z) then
 some (((a,c,f,h,i,u2,k,l,m,n,o,q,s,t,u,w,x,y,z,a0,c0,f0,h0,i0,j0,k0,l0,m0,n0,o0,q0,s0,t0,u0,w0,x0,y0,z0,a1,c1,f1,h1,i1,(),j1,k1,l1,m1,n1,o1,q1,s1,(),t1,u1,w1,x1,y1,z1,a2,c2,f2,h2,i2,j2,k2,l2,m2,(),n2,(),o2,q2,s2,()),(),(),(),(),(),()),())
 else none
 else none
 else none
 else none
 else none
else none
def e65 (fu:Nat):Ent := ⟨65,(.cons Y27 .nil),(.cons Y29 (.cons .dead (.cons .dead (.cons .dead (.cons .dead (.cons .dead .nil)))))),(.tup 0 .nil),p65 fu⟩
theorem g65 (fu:Nat):(e65 fu).Good Try.prog := good_fx orders Try.func65 fu [(11,(.ent (e79 fu))),(12,(.ent (e82 fu)))] [] rs65 18 (l := [e79 fu,e82 fu]) ⟨g79 fu,g82 fu,trivial⟩
def rs62:List RVx := []
def p62 (fu:Nat):(Z0)×(Unit)→Option (((Z0)×((Unit)×((Unit)×((Unit)×((Unit)×((Unit)×(Unit)))))))×(Unit)) := fun ⟨⟨a,c,f,h,i,j,k,l,m,n,o,q,s,t,u,w,x,y,z,a0,c0,f0,h0,i0,j0,k0,l0,m0,n0,o0,q0,s0,t0,u0,w0,x0,y0,z0,a1,c1,f1,h1,i1,_,j1,k1,l1,m1,n1,o1,q1,s1,_,t1,u1,w1,x1,y1,z1,a2,c2,f2,h2,i2,j2,k2,l2,m2,_,n2,_,o2,q2,s2,_⟩,_⟩ =>
bif decide (List.length c=List.length c) then
 bif decide (List.length i=List.length i) then
 bif decide (List.length j=List.length j) then
 bif decide (List.length o=List.length o) then
 bif decide (List.length z=List.length z) then
 Option.bind (p65 fu ((a,c,f,h,i,j,k,l,m,n,o,q,s,t,u,w,x,y,z,a0,c0,f0,h0,i0,j0,k0,l0,m0,n0,o0,q0,s0,t0,u0,w0,x0,y0,z0,a1,c1,f1,h1,i1,(),j1,k1,l1,m1,n1,o1,q1,s1,(),t1,u1,w1,x1,y1,z1,a2,c2,f2,h2,i2,j2,k2,l2,m2,(),n2,(),o2,q2,s2,()),())) fun ⟨⟨⟨t2,u2,w2,x2,y2,z2,a3,c3,f3,h3,i3,j3,k3,l3,m3,n3,o3,q3,s3,t3,u3,w3,x3,y3,z3,a4,c4,f4,h4,i4,j4,k4,l4,m4,n4,o4,q4,s4,t4,u4,w4,x4,y4,_,z4,a5,c5,f5,h5,i5,j5,k5,_,l5,m5,n5,o5,q5,s5,t5,u5,w5,x5,y5,z5,a6,c6,f6,_,h6,_,i6,j6,k6,_⟩,_,_,_,_,_,_⟩,_⟩ =>
 bif decide (List.length u2=List.length u2) then
 bif decide (List.length y2=List.length y2) then
 bif decide (List.length z2=List.length z2) then
 bif decide (List.length i3=List.length i3) then
 bif decide (List.length s3=List.length s3) then
 Option.bind (p66 fu ((t2,u2,w2,x2,y2,z2,a3,c3,f3,h3,i3,j3,k3,l3,m3,n3,o3,q3,s3,t3,u3,w3,x3,y3,z3,a4,c4,f4,h4,i4,j4,k4,l4,m4,n4,o4,q4,s4,t4,u4,w4,x4,y4,(),z4,a5,c5,f5,h5,i5,j5,k5,(),l5,m5,n5,o5,q5,s5,t5,u5,w5,x5,y5,z5,a6,c6,f6,(),h6,(),i6,j6,k6,()),())) fun ⟨⟨⟨l6,m6,n6,o6,q6,s6,t6,u6,w6,x6,y6,z6,a7,c7,f7,h7,i7,j7,k7,l7,m7,n7,o7,q7,s7,t7,u7,w7,x7,y7,z7,a8,c8,f8,h8,i8,j8,k8,l8,m8,n8,o8,q8,_,s8,t8,u8,w8,x8,y8,z8,a9,_,c9,f9,h9,i9,j9,k9,l9,m9,n9,o9,q9,s9,t9,u9,w9,_,x9,_,y9,z9,a10,_⟩,_,_,_,_,_,_⟩,_⟩ =>
 bif decide (List.length m6=List.length m6) then
 bif decide (List.length q6=List.length q6) then
 bif decide (List.length s6=List.length s6) then
 bif decide (List.length y6=List.length y6) then
 bif decide (List.length k7=List.length k7) then
 Option.bind (p64 fu ((l6,m6,n6,o6,q6,s6,t6,u6,w6,x6,y6,z6,a7,c7,f7,h7,i7,j7,k7,l7,m7,n7,o7,q7,s7,t7,u7,w7,x7,y7,z7,a8,c8,f8,h8,i8,j8,k8,l8,m8,n8,o8,q8,(),s8,t8,u8,w8,x8,y8,z8,a9,(),c9,f9,h9,i9,j9,k9,l9,m9,n9,o9,q9,s9,t9,u9,w9,(),x9,(),y9,z9,a10,()),())) fun ⟨⟨⟨c10,f10,h10,i10,j10,k10,l10,m10,n10,o10,q10,s10,t10,u10,w10,x10,y10,z10,a11,c11,f11,h11,i11,j11,k11,l11,m11,n11,o11,q11,s11,t11,u11,w11,x11,y11,z11,a12,c12,f12,h12,i12,j12,_,k12,l12,m12,n12,o12,q12,s12,t12,_,u12,w12,x12,y12,z12,a13,c13,f13,h13,i13,j13,k13,l13,m13,n13,_,o13,_,q13,s13,t13,_⟩,_,_,_,_,_,_⟩,_⟩ =>
 bif decide (List.length f10=List.length f10) then
 bif decide (List.length j10=List.length j10) then
 bif decide (List.length k10=List.length k10) then
 bif decide (List.length q10=List.length q10) then
 bif decide (List.length a11=List.length a11) then
 some (((c10,f10,h10,i10,j10,k10,l10,m10,n10,o10,q10,s10,t10,u10,w10,x10,y10,z10,a11,c11,f11,h11,i11,j11,k11,l11,m11,n11,o11,q11,s11,t11,u11,w11,x11,y11,z11,a12,c12,f12,h12,i12,j12,(),k12,l12,m12,n12,o12,q12,s12,t12,(),u12,w12,x12,y12,z12,a13,c13,f13,h13,i13,j13,k13,l13,m13,n13,(),o13,(),q13,s13,t13,()),(),(),(),(),(),()),())
 else none
 else none
 else none
 else none
 else none
 else none
 else none
 else none
 else none
 else none
 else none
 else none
 else none
 else none
 else none
 else none
 else none
 else none
 else none
else none
def e62 (fu:Nat):Ent := ⟨62,(.cons Y27 .nil),(.cons Y29 (.cons .dead (.cons .dead (.cons .dead (.cons .dead (.cons .dead .nil)))))),(.tup 0 .nil),p62 fu⟩
theorem g62 (fu:Nat):(e62 fu).Good Try.prog := good_fx orders Try.func62 fu [(1,(.ent (e65 fu))),(3,(.ent (e66 fu))),(5,(.ent (e64 fu)))] [] rs62 8 (l := [e65 fu,e66 fu,e64 fu]) ⟨g65 fu,g66 fu,g64 fu,trivial⟩
def rs59:List RVx := []
def p59 (fu:Nat):(Z0)×((Int)×(Unit))→Option (((Z3)×((Unit)×((Unit)×((Unit)×((Unit)×((Unit)×(Unit)))))))×(Unit)) := fun ⟨⟨a,c,f,h,i,j,k,l,m,n,o,q,s,t,u,w,x,y,z,a0,c0,f0,h0,i0,j0,k0,l0,m0,n0,o0,q0,s0,t0,u0,w0,x0,y0,z0,a1,c1,f1,h1,i1,_,j1,k1,l1,m1,n1,o1,q1,s1,_,t1,u1,w1,x1,y1,z1,a2,c2,f2,h2,i2,j2,k2,l2,m2,_,n2,_,o2,q2,s2,_⟩,t2,_⟩ =>
bif decide (List.length c=List.length c) then
 Option.bind (p15 fu (c,t2,())) fun ⟨_,u2⟩ =>
 bif u2 then
 Option.bind (p79 fu (n0,())) fun ⟨_,⟨_,⟨⟨w2,_⟩,_⟩⟩⟩ =>
 bif decide (List.length j=List.length j) then
 Option.bind (p78 fu (j,(n0,t2,()),((),((w2,()),())),())) fun ⟨⟨_,⟨_,_⟩,_⟩,x2⟩ =>
 bif decide (List.length c=List.length c) then
 bif decide (List.length i=List.length i) then
 bif decide (List.length x2=List.length x2) then
 bif decide (List.length o=List.length o) then
 bif decide (List.length z=List.length z) then
 Option.bind (p57 fu ((a,c,f,h,i,x2,k,l,m,n,o,q,s,t,u,w,x,y,z,a0,c0,f0,h0,i0,j0,k0,l0,m0,n0,o0,q0,s0,t0,u0,w0,x0,y0,z0,a1,c1,f1,h1,i1,(),j1,k1,l1,m1,n1,o1,q1,s1,(),t1,u1,w1,x1,y1,z1,a2,c2,f2,h2,i2,j2,k2,l2,m2,(),n2,(),o2,q2,s2,()),())) fun ⟨⟨⟨y2,z2,a3,c3,f3,h3,i3,j3,k3,l3,m3,n3,o3,q3,s3,t3,u3,w3,x3,y3,z3,a4,c4,f4,h4,i4,j4,k4,l4,m4,n4,o4,q4,s4,t4,u4,w4,x4,y4,z4,a5,c5,f5,h5,i5,j5,k5,l5,m5,n5,o5,q5,s5,t5,u5,w5,x5,y5,z5,a6,c6,f6,h6,i6,j6,k6,l6,m6,n6,o6,q6,s6,t6,u6,_⟩,_,_,_,_,_,_⟩,_⟩ =>
 bif decide (List.length z2=List.length z2) then
 bif decide (List.length f3=List.length f3) then
 bif decide (List.length h3=List.length h3) then
 bif decide (List.length m3=List.length m3) then
 bif decide (List.length x3=List.length x3) then
 bif decide (List.length h5=List.length h5) then
 bif decide (List.length s5=List.length s5) then
 bif decide (List.length n6=List.length n6) then
 bif decide (List.length q6=List.length q6) then
 some (((y2,z2,a3,c3,f3,h3,i3,j3,k3,l3,m3,n3,o3,q3,s3,t3,u3,w3,x3,y3,z3,a4,c4,f4,h4,i4,j4,k4,l4,m4,n4,o4,q4,s4,t4,u4,w4,x4,y4,z4,a5,c5,f5,h5,i5,j5,k5,l5,m5,n5,o5,q5,s5,t5,u5,w5,x5,y5,z5,a6,c6,f6,h6,i6,j6,k6,l6,m6,n6,o6,q6,s6,t6,u6,()),(),(),(),(),(),()),())
 else none
 else none
 else none
 else none
 else none
 else none
 else none
 else none
 else none
 else none
 else none
 else none
 else none
 else none
 else none
 else
 bif decide (List.length c=List.length c) then
 bif decide (List.length i=List.length i) then
 bif decide (List.length j=List.length j) then
 bif decide (List.length o=List.length o) then
 bif decide (List.length z=List.length z) then
 Option.bind (p62 fu ((a,c,f,h,i,j,k,l,m,n,o,q,s,t,u,w,x,y,z,a0,c0,f0,h0,i0,j0,k0,l0,m0,n0,o0,q0,s0,t0,u0,w0,x0,y0,z0,a1,c1,f1,h1,i1,(),j1,k1,l1,m1,n1,o1,q1,s1,(),t1,u1,w1,x1,y1,z1,a2,c2,f2,h2,i2,j2,k2,l2,m2,(),n2,(),o2,q2,s2,()),())) fun ⟨⟨⟨w6,x6,y6,z6,a7,c7,f7,h7,i7,j7,k7,l7,m7,n7,o7,q7,s7,t7,u7,w7,x7,y7,z7,a8,c8,f8,h8,i8,j8,k8,l8,m8,n8,o8,q8,s8,t8,u8,w8,x8,y8,z8,a9,_,c9,f9,h9,i9,j9,k9,l9,m9,_,n9,o9,q9,s9,t9,u9,w9,x9,y9,z9,a10,c10,f10,h10,i10,_,j10,_,k10,l10,m10,_⟩,_,_,_,_,_,_⟩,_⟩ =>
 bif decide (List.length x6=List.length x6) then
 bif decide (List.length a7=List.length a7) then
 bif decide (List.length c7=List.length c7) then
 bif decide (List.length k7=List.length k7) then
 bif decide (List.length u7=List.length u7) then
 some (((w6,x6,y6,z6,a7,c7,f7,h7,i7,j7,k7,l7,m7,n7,o7,q7,s7,t7,u7,w7,x7,y7,z7,a8,c8,f8,h8,i8,j8,k8,l8,m8,n8,o8,q8,s8,t8,u8,w8,x8,y8,z8,a9,[],c9,f9,h9,i9,j9,k9,l9,m9,[],n9,o9,q9,s9,t9,u9,w9,x9,y9,z9,a10,c10,f10,h10,i10,[],j10,[],k10,l10,m10,()),(),(),(),(),(),()),())
 else none
 else none
 else none
 else none
 else none
 else none
 else none
 else none
 else none
 else none
else none
def e59 (fu:Nat):Ent := ⟨59,(.cons Y27 (.cons (.hole (.int .i64)) .nil)),(.cons Y33 (.cons .dead (.cons .dead (.cons .dead (.cons .dead (.cons .dead .nil)))))),(.tup 0 .nil),p59 fu⟩
theorem g59 (fu:Nat):(e59 fu).Good Try.prog := good_fx orders Try.func59 fu [(6,(.ent (e15 fu))),(25,(.ent (e79 fu))),(26,(.ent (e78 fu))),(32,(.ent (e57 fu))),(34,(.ent (e62 fu)))] [] rs59 38 (l := [e15 fu,e79 fu,e78 fu,e57 fu,e62 fu]) ⟨g15 fu,g79 fu,g78 fu,g57 fu,g62 fu,trivial⟩
def rs81:List RVx := [(.tmp 4)]
def p81_1 (fu:Nat):(List (D_api_Topic))×(((Unit)×(((ByteArray)×(Unit))×(Unit)))×(Unit))→Option ((((ByteArray)×(Unit))×(Unit))×(List (D_api_Topic))) := fun ⟨a,⟨_,⟨⟨c,_⟩,_⟩⟩,_⟩ =>
loopO (S := ((List (D_api_Topic))×((Int)×(Unit)))×(Unit)) fu (fun ⟨⟨f,h,_⟩,_⟩ =>
 bif decide (h<(List.length a:Int)) then
 bif decide ((0:Int)≤h∧h<(List.length a:Int)) then
 bif decide (Int.toNat h<List.length a) then
 Option.bind (p89_1 fu (((List.getD a (Int.toNat h) (dflt T_api_Topic)).1,(List.getD a (Int.toNat h) (dflt T_api_Topic)).2,()),(c,()),())) fun ⟨_,i⟩ =>
 bif !i then
 bif decide (List.length f=List.length f) then
 bif decide (List.length f+List.length ([((List.getD a (Int.toNat h) (dflt T_api_Topic)).1,(List.getD a (Int.toNat h) (dflt T_api_Topic)).2)])≤maxLen∧(List.length f+List.length ([((List.getD a (Int.toNat h) (dflt T_api_Topic)).1,(List.getD a (Int.toNat h) (dflt T_api_Topic)).2)])) * 40≤140737488355328) then
 bif decide (List.length (f ++ [((List.getD a (Int.toNat h) (dflt T_api_Topic)).1,(List.getD a (Int.toNat h) (dflt T_api_Topic)).2)])=List.length (f ++ [((List.getD a (Int.toNat h) (dflt T_api_Topic)).1,(List.getD a (Int.toNat h) (dflt T_api_Topic)).2)])) then
 some (.inl (((f ++ [((List.getD a (Int.toNat h) (dflt T_api_Topic)).1,(List.getD a (Int.toNat h) (dflt T_api_Topic)).2)]),IntKind.wrap .i64 (h+(1:Int)),()),()))
 else none
 else none
 else none
 else
 bif decide (List.length f=List.length f) then
 some (.inl ((f,IntKind.wrap .i64 (h+(1:Int)),()),()))
 else none
 else none
 else none
 else
 inrO (bif decide (List.length f=List.length f) then
 some (((c,()),()),f)
 else none))
 (([],(0:Int),()),())
def e81_1 (fu:Nat):Ent := ⟨81,(.cons (.hole (.sl .any T_api_Topic_s)) (.cons (.clo 89 0 .nil 1 (.cons (.box 9 1 (.cons (.hole .str) .nil)) .nil)) .nil)),(.cons (.agg 1 (.cons (.hole .str) .nil)) .nil),(.own .own 72 T_api_Topic_s),p81_1 fu⟩
theorem g81_1 (fu:Nat):(e81_1 fu).Good Try.prog := good_fx orders Try.func81 fu [(12,(.ent (e89_1 fu))),(16,(.ty T_api_Topic_s)),(17,(.ty T_api_Topic_s))] [(4,⟨[5,10],(.cons (.own .own 72 T_api_Topic_s) (.cons (.hole (.int .i64)) .nil)),[],.nil,[1,8,9],[0]⟩)] rs81 24 (l := [e89_1 fu]) ⟨g89_1 fu,trivial⟩
def p65_1 (fu:Nat):(Z0)×(Unit)→Option (((Z0)×((Unit)×((Unit)×((Unit)×((Unit)×((Unit)×(Unit)))))))×(Unit)) := fun ⟨⟨a,c,f,h,i,j,k,l,m,n,o,q,s,t,u,w,x,y,z,a0,c0,f0,h0,i0,j0,k0,l0,m0,n0,o0,q0,s0,t0,u0,w0,x0,y0,z0,a1,c1,f1,h1,i1,_,j1,k1,l1,m1,n1,o1,q1,s1,_,t1,u1,w1,x1,y1,z1,a2,c2,f2,h2,i2,j2,k2,l2,m2,_,n2,_,o2,q2,s2,_⟩,_⟩ =>
Option.bind (p79 fu (n0,())) fun ⟨_,⟨_,⟨⟨t2,_⟩,_⟩⟩⟩ =>
bif decide (List.length j=List.length j) then
 Option.bind (p82 fu (j,((),((t2,()),())),())) fun ⟨⟨⟨_,_⟩,_⟩,u2⟩ =>
 bif decide (List.length c=List.length c) then
 bif decide (List.length i=List.length i) then
 bif decide (List.length u2=List.length u2) then
 bif decide (List.length o=List.length o) then
 bif decide (List.length z=List.length z) then
 some (((a,c,f,h,i,u2,k,l,m,n,o,q,s,t,u,w,x,y,z,a0,c0,f0,h0,i0,j0,k0,l0,m0,n0,o0,q0,s0,t0,u0,w0,x0,y0,z0,a1,c1,f1,h1,i1,(),j1,k1,l1,m1,n1,o1,q1,s1,(),t1,u1,w1,x1,y1,z1,a2,c2,f2,h2,i2,j2,k2,l2,m2,(),n2,(),o2,q2,s2,()),(),(),(),(),(),()),())
 else none
 else none
 else none
 else none
 else none
else none
def e65_1 (fu:Nat):Ent := ⟨65,(.cons Y38 .nil),(.cons Y39 (.cons .dead (.cons .dead (.cons .dead (.cons .dead (.cons .dead .nil)))))),(.tup 0 .nil),p65_1 fu⟩
theorem g65_1 (fu:Nat):(e65_1 fu).Good Try.prog := good_fx orders Try.func65 fu [(11,(.ent (e79 fu))),(12,(.ent (e82 fu)))] [] rs65 18 (l := [e79 fu,e82 fu]) ⟨g79 fu,g82 fu,trivial⟩
def p66_1 (_:Nat):(Z0)×(Unit)→Option (((Z0)×((Unit)×((Unit)×((Unit)×((Unit)×((Unit)×(Unit)))))))×(Unit)) := fun ⟨⟨a,c,f,h,i,j,k,l,m,n,o,q,s,t,u,w,x,y,z,a0,c0,f0,h0,i0,j0,k0,l0,m0,n0,o0,q0,s0,t0,u0,w0,x0,y0,z0,a1,c1,f1,h1,i1,_,j1,k1,l1,m1,n1,o1,q1,s1,_,t1,u1,w1,x1,y1,z1,a2,c2,f2,h2,i2,j2,k2,l2,m2,_,n2,_,o2,q2,s2,_⟩,_⟩ =>
bif ((IntKind.wrap .i64 (t0+(1:Int)))==((List.length c):Int)) then
 bif decide (List.length c=List.length c) then
 bif decide (List.length i=List.length i) then
 bif decide (List.length j=List.length j) then
 bif decide (List.length o=List.length o) then
 bif decide (List.length z=List.length z) then
 some (((a,c,f,h,i,j,k,l,m,n,o,q,s,t,u,w,x,y,z,a0,c0,f0,h0,i0,j0,k0,l0,m0,n0,o0,q0,s0,(0:Int),u0,w0,x0,y0,z0,a1,c1,f1,h1,i1,(),j1,k1,l1,m1,n1,o1,q1,s1,(),t1,u1,w1,x1,y1,z1,a2,c2,f2,h2,i2,j2,k2,l2,m2,(),n2,(),o2,q2,s2,()),(),(),(),(),(),()),())
 else none
 else none
 else none
 else none
 else none
else
 bif decide (List.length c=List.length c) then
 bif decide (List.length i=List.length i) then
 bif decide (List.length j=List.length j) then
 bif decide (List.length o=List.length o) then
 bif decide (List.length z=List.length z) then
 some (((a,c,f,h,i,j,k,l,m,n,o,q,s,t,u,w,x,y,z,a0,c0,f0,h0,i0,j0,k0,l0,m0,n0,o0,q0,s0,IntKind.wrap .i64 (t0+(1:Int)),u0,w0,x0,y0,z0,a1,c1,f1,h1,i1,(),j1,k1,l1,m1,n1,o1,q1,s1,(),t1,u1,w1,x1,y1,z1,a2,c2,f2,h2,i2,j2,k2,l2,m2,(),n2,(),o2,q2,s2,()),(),(),(),(),(),()),())
 else none
 else none
 else none
 else none
 else none
def e66_1 (fu:Nat):Ent := ⟨66,(.cons Y38 .nil),(.cons Y39 (.cons .dead (.cons .dead (.cons .dead (.cons .dead (.cons .dead .nil)))))),(.tup 0 .nil),p66_1 fu⟩
theorem g66_1 (fu:Nat):(e66_1 fu).Good Try.prog := good_fx orders Try.func66 fu [] [] rs66 27 (l := []) trivial
def p64_1 (_:Nat):(Z0)×(Unit)→Option (((Z0)×((Unit)×((Unit)×((Unit)×((Unit)×((Unit)×(Unit)))))))×(Unit)) := fun ⟨⟨a,c,f,h,i,j,k,l,m,n,o,q,s,t,u,w,x,y,z,a0,c0,f0,h0,i0,j0,k0,l0,m0,n0,o0,_,_,q0,s0,t0,u0,w0,x0,y0,z0,a1,c1,f1,_,h1,i1,j1,k1,l1,m1,n1,o1,_,q1,s1,t1,u1,w1,x1,y1,z1,a2,c2,f2,h2,i2,j2,k2,_,l2,_,m2,n2,o2,_⟩,_⟩ =>
bif decide (List.length c=List.length c) then
 bif decide (List.length i=List.length i) then
 bif decide (List.length j=List.length j) then
 bif decide (List.length o=List.length o) then
 bif decide (List.length z=List.length z) then
 some (((a,c,f,h,i,j,k,l,m,n,o,q,s,t,u,w,x,y,z,a0,c0,f0,h0,i0,j0,k0,l0,m0,n0,o0,(0:Int),true,q0,s0,t0,u0,w0,x0,y0,z0,a1,c1,f1,(),h1,i1,j1,k1,l1,m1,n1,o1,(),q1,s1,t1,u1,w1,x1,y1,z1,a2,c2,f2,h2,i2,j2,k2,(),l2,(),m2,n2,o2,()),(),(),(),(),(),()),())
 else none
 else none
 else none
 else none
else none
def e64_1 (fu:Nat):Ent := ⟨64,(.cons Y38 .nil),(.cons Y39 (.cons .dead (.cons .dead (.cons .dead (.cons .dead (.cons .dead .nil)))))),(.tup 0 .nil),p64_1 fu⟩
theorem g64_1 (fu:Nat):(e64_1 fu).Good Try.prog := good_fx orders Try.func64 fu [] [] rs64 10 (l := []) trivial
def p62_1 (fu:Nat):(Z0)×(Unit)→Option (((Z0)×((Unit)×((Unit)×((Unit)×((Unit)×((Unit)×(Unit)))))))×(Unit)) := fun ⟨⟨a,c,f,h,i,j,k,l,m,n,o,q,s,t,u,w,x,y,z,a0,c0,f0,h0,i0,j0,k0,l0,m0,n0,o0,q0,s0,t0,u0,w0,x0,y0,z0,a1,c1,f1,h1,i1,_,j1,k1,l1,m1,n1,o1,q1,s1,_,t1,u1,w1,x1,y1,z1,a2,c2,f2,h2,i2,j2,k2,l2,m2,_,n2,_,o2,q2,s2,_⟩,_⟩ =>
bif decide (List.length c=List.length c) then
 bif decide (List.length i=List.length i) then
 bif decide (List.length j=List.length j) then
 bif decide (List.length o=List.length o) then
 bif decide (List.length z=List.length z) then
 Option.bind (p65_1 fu ((a,c,f,h,i,j,k,l,m,n,o,q,s,t,u,w,x,y,z,a0,c0,f0,h0,i0,j0,k0,l0,m0,n0,o0,q0,s0,t0,u0,w0,x0,y0,z0,a1,c1,f1,h1,i1,(),j1,k1,l1,m1,n1,o1,q1,s1,(),t1,u1,w1,x1,y1,z1,a2,c2,f2,h2,i2,j2,k2,l2,m2,(),n2,(),o2,q2,s2,()),())) fun ⟨⟨⟨t2,u2,w2,x2,y2,z2,a3,c3,f3,h3,i3,j3,k3,l3,m3,n3,o3,q3,s3,t3,u3,w3,x3,y3,z3,a4,c4,f4,h4,i4,j4,k4,l4,m4,n4,o4,q4,s4,t4,u4,w4,x4,y4,_,z4,a5,c5,f5,h5,i5,j5,k5,_,l5,m5,n5,o5,q5,s5,t5,u5,w5,x5,y5,z5,a6,c6,f6,_,h6,_,i6,j6,k6,_⟩,_,_,_,_,_,_⟩,_⟩ =>
 bif decide (List.length u2=List.length u2) then
 bif decide (List.length y2=List.length y2) then
 bif decide (List.length z2=List.length z2) then
 bif decide (List.length i3=List.length i3) then
 bif decide (List.length s3=List.length s3) then
 Option.bind (p66_1 fu ((t2,u2,w2,x2,y2,z2,a3,c3,f3,h3,i3,j3,k3,l3,m3,n3,o3,q3,s3,t3,u3,w3,x3,y3,z3,a4,c4,f4,h4,i4,j4,k4,l4,m4,n4,o4,q4,s4,t4,u4,w4,x4,y4,(),z4,a5,c5,f5,h5,i5,j5,k5,(),l5,m5,n5,o5,q5,s5,t5,u5,w5,x5,y5,z5,a6,c6,f6,(),h6,(),i6,j6,k6,()),())) fun ⟨⟨⟨l6,m6,n6,o6,q6,s6,t6,u6,w6,x6,y6,z6,a7,c7,f7,h7,i7,j7,k7,l7,m7,n7,o7,q7,s7,t7,u7,w7,x7,y7,z7,a8,c8,f8,h8,i8,j8,k8,l8,m8,n8,o8,q8,_,s8,t8,u8,w8,x8,y8,z8,a9,_,c9,f9,h9,i9,j9,k9,l9,m9,n9,o9,q9,s9,t9,u9,w9,_,x9,_,y9,z9,a10,_⟩,_,_,_,_,_,_⟩,_⟩ =>
 bif decide (List.length m6=List.length m6) then
 bif decide (List.length q6=List.length q6) then
 bif decide (List.length s6=List.length s6) then
 bif decide (List.length y6=List.length y6) then
 bif decide (List.length k7=List.length k7) then
 Option.bind (p64_1 fu ((l6,m6,n6,o6,q6,s6,t6,u6,w6,x6,y6,z6,a7,c7,f7,h7,i7,j7,k7,l7,m7,n7,o7,q7,s7,t7,u7,w7,x7,y7,z7,a8,c8,f8,h8,i8,j8,k8,l8,m8,n8,o8,q8,(),s8,t8,u8,w8,x8,y8,z8,a9,(),c9,f9,h9,i9,j9,k9,l9,m9,n9,o9,q9,s9,t9,u9,w9,(),x9,(),y9,z9,a10,()),())) fun ⟨⟨⟨c10,f10,h10,i10,j10,k10,l10,m10,n10,o10,q10,s10,t10,u10,w10,x10,y10,z10,a11,c11,f11,h11,i11,j11,k11,l11,m11,n11,o11,q11,s11,t11,u11,w11,x11,y11,z11,a12,c12,f12,h12,i12,j12,_,k12,l12,m12,n12,o12,q12,s12,t12,_,u12,w12,x12,y12,z12,a13,c13,f13,h13,i13,j13,k13,l13,m13,n13,_,o13,_,q13,s13,t13,_⟩,_,_,_,_,_,_⟩,_⟩ =>
 bif decide (List.length f10=List.length f10) then
 bif decide (List.length j10=List.length j10) then
 bif decide (List.length k10=List.length k10) then
 bif decide (List.length q10=List.length q10) then
 bif decide (List.length a11=List.length a11) then
 some (((c10,f10,h10,i10,j10,k10,l10,m10,n10,o10,q10,s10,t10,u10,w10,x10,y10,z10,a11,c11,f11,h11,i11,j11,k11,l11,m11,n11,o11,q11,s11,t11,u11,w11,x11,y11,z11,a12,c12,f12,h12,i12,j12,(),k12,l12,m12,n12,o12,q12,s12,t12,(),u12,w12,x12,y12,z12,a13,c13,f13,h13,i13,j13,k13,l13,m13,n13,(),o13,(),q13,s13,t13,()),(),(),(),(),(),()),())
 else none
 else none
 else none
 else none
 else none
 else none
 else none
 else none
 else none
 else none
 else none
 else none
 else none
 else none
 else none
 else none
 else none
 else none
 else none
else none
def e62_1 (fu:Nat):Ent := ⟨62,(.cons Y38 .nil),(.cons Y39 (.cons .dead (.cons .dead (.cons .dead (.cons .dead (.cons .dead .nil)))))),(.tup 0 .nil),p62_1 fu⟩
theorem g62_1 (fu:Nat):(e62_1 fu).Good Try.prog := good_fx orders Try.func62 fu [(1,(.ent (e65_1 fu))),(3,(.ent (e66_1 fu))),(5,(.ent (e64_1 fu)))] [] rs62 8 (l := [e65_1 fu,e66_1 fu,e64_1 fu]) ⟨g65_1 fu,g66_1 fu,g64_1 fu,trivial⟩
def rs61:List RVx := []
def p61 (fu:Nat):(Z0)×(Unit)→Option (((Z0)×((Unit)×((Unit)×((Unit)×((Unit)×((Unit)×(Unit)))))))×(Unit)) := fun ⟨⟨a,c,f,h,i,j,k,l,m,n,o,q,s,t,u,w,x,y,z,a0,c0,f0,h0,i0,j0,k0,l0,m0,n0,o0,q0,s0,t0,u0,w0,x0,y0,z0,a1,c1,f1,h1,i1,_,j1,k1,l1,m1,n1,o1,q1,s1,_,t1,u1,w1,x1,y1,z1,a2,c2,f2,h2,i2,j2,k2,l2,m2,_,n2,_,o2,q2,s2,_⟩,_⟩ =>
Option.bind (p76 fu (m,())) fun ⟨_,⟨_,⟨⟨t2,_⟩,_⟩⟩⟩ =>
bif decide (List.length i=List.length i) then
 Option.bind (p81_1 fu (i,((),((t2,()),())),())) fun ⟨⟨⟨_,_⟩,_⟩,u2⟩ =>
 bif decide (List.length c=List.length c) then
 bif decide (List.length u2=List.length u2) then
 bif decide (List.length j=List.length j) then
 bif decide (List.length o=List.length o) then
 bif decide (List.length z=List.length z) then
 Option.bind (p62_1 fu ((a,c,f,h,u2,j,k,l,m,n,o,q,s,t,u,w,x,y,z,a0,c0,f0,h0,i0,j0,k0,l0,m0,n0,o0,q0,s0,t0,u0,w0,x0,y0,z0,a1,c1,f1,h1,i1,(),j1,k1,l1,m1,n1,o1,q1,s1,(),t1,u1,w1,x1,y1,z1,a2,c2,f2,h2,i2,j2,k2,l2,m2,(),n2,(),o2,q2,s2,()),())) fun ⟨⟨⟨w2,x2,y2,z2,a3,c3,f3,h3,i3,j3,k3,l3,m3,n3,o3,q3,s3,t3,u3,w3,x3,y3,z3,a4,c4,f4,h4,i4,j4,k4,l4,m4,n4,o4,q4,s4,t4,u4,w4,x4,y4,z4,a5,_,c5,f5,h5,i5,j5,k5,l5,m5,_,n5,o5,q5,s5,t5,u5,w5,x5,y5,z5,a6,c6,f6,h6,i6,_,j6,_,k6,l6,m6,_⟩,_,_,_,_,_,_⟩,_⟩ =>
 bif decide (List.length x2=List.length x2) then
 bif decide (List.length a3=List.length a3) then
 bif decide (List.length c3=List.length c3) then
 bif decide (List.length k3=List.length k3) then
 bif decide (List.length u3=List.length u3) then
 some (((w2,x2,y2,z2,a3,c3,f3,h3,i3,j3,k3,l3,m3,n3,o3,q3,s3,t3,u3,w3,x3,y3,z3,a4,c4,f4,h4,i4,j4,k4,l4,m4,n4,o4,q4,s4,t4,u4,w4,x4,y4,z4,a5,(),c5,f5,h5,i5,j5,k5,l5,m5,(),n5,o5,q5,s5,t5,u5,w5,x5,y5,z5,a6,c6,f6,h6,i6,(),j6,(),k6,l6,m6,()),(),(),(),(),(),()),())
 else none
 else none
 else none
 else none
 else none
 else none
 else none
 else none
 else none
 else none
else none
def e61 (fu:Nat):Ent := ⟨61,(.cons Y27 .nil),(.cons Y39 (.cons .dead (.cons .dead (.cons .dead (.cons .dead (.cons .dead .nil)))))),(.tup 0 .nil),p61 fu⟩
theorem g61 (fu:Nat):(e61 fu).Good Try.prog := good_fx orders Try.func61 fu [(12,(.ent (e76 fu))),(13,(.ent (e81_1 fu))),(19,(.ent (e62_1 fu)))] [] rs61 21 (l := [e76 fu,e81_1 fu,e62_1 fu]) ⟨g76 fu,g81_1 fu,g62_1 fu,trivial⟩
def rs34:List RVx := [(.tmp 4)]
def p34 (fu:Nat):(Z0)×((Z4)×(Unit))→Option (((Z3)×((Unit)×((Unit)×((Unit)×((Unit)×((Unit)×(Unit)))))))×(Int)) := fun ⟨⟨a,c,f,h,i,j,k,l,m,n,o,q,s,t,u,w,x,y,z,a0,c0,f0,h0,i0,j0,k0,l0,m0,n0,o0,q0,s0,t0,u0,w0,x0,y0,z0,a1,c1,f1,h1,i1,_,j1,k1,l1,m1,n1,o1,q1,s1,_,t1,u1,w1,x1,y1,z1,a2,c2,f2,h2,i2,j2,k2,l2,m2,_,n2,_,o2,q2,s2,_⟩,⟨_,_,_,_,_,_,_,_,_,_,_,_,_,_,_,_,_,_,_,_,t2,u2,w2,x2,y2,z2,a3,c3,f3,h3,i3,j3,_⟩,_⟩ =>
bif !k then
 bif decide (List.length c=List.length c) then
 bif decide (List.length i=List.length i) then
 bif decide (List.length j=List.length j) then
 bif decide (List.length o=List.length o) then
 bif decide (List.length z=List.length z) then
 some (((a,c,f,h,i,j,k,l,m,n,o,q,s,t,u,w,x,y,z,a0,c0,f0,h0,i0,j0,k0,l0,m0,n0,o0,q0,s0,t0,u0,w0,x0,y0,z0,a1,c1,f1,h1,i1,[],j1,k1,l1,m1,n1,o1,q1,s1,[],t1,u1,w1,x1,y1,z1,a2,c2,f2,h2,i2,j2,k2,l2,m2,[],n2,[],o2,q2,s2,()),(),(),(),(),(),()),(0:Int))
 else none
 else none
 else none
 else none
 else none
else
 bif s0 then
 bif decide (List.length c=List.length c) then
 bif decide (List.length i=List.length i) then
 bif decide (List.length j=List.length j) then
 bif decide (List.length o=List.length o) then
 bif decide (List.length z=List.length z) then
 some (((a,c,f,h,i,j,k,l,m,n,o,q,s,t,u,w,x,y,z,a0,c0,f0,h0,i0,j0,k0,l0,m0,n0,o0,q0,s0,t0,u0,w0,x0,y0,z0,a1,c1,f1,h1,i1,[],j1,k1,l1,m1,n1,o1,q1,s1,[],t1,u1,w1,x1,y1,z1,a2,c2,f2,h2,i2,j2,k2,l2,m2,[],n2,[],o2,q2,s2,()),(),(),(),(),(),()),(0:Int))
 else none
 else none
 else none
 else none
 else none
 else
 bif (t2 != l0) then
 bif decide (List.length c=List.length c) then
 bif decide (List.length i=List.length i) then
 bif decide (List.length j=List.length j) then
 bif decide (List.length o=List.length o) then
 bif decide (List.length z=List.length z) then
 some (((a,c,f,h,i,j,k,l,m,n,o,q,s,t,u,w,x,y,z,a0,c0,f0,h0,i0,j0,k0,l0,m0,n0,o0,q0,s0,t0,u0,w0,x0,y0,z0,a1,c1,f1,h1,i1,[],j1,k1,l1,m1,n1,o1,q1,s1,[],t1,u1,w1,x1,y1,z1,a2,c2,f2,h2,i2,j2,k2,l2,m2,[],n2,[],o2,q2,s2,()),(),(),(),(),(),()),(0:Int))
 else none
 else none
 else none
 else none
 else none
 else
 bif (u2==(0:Int)) then
 bif decide (List.length c=List.length c) then
 bif decide (List.length i=List.length i) then
 bif decide (List.length j=List.length j) then
 bif decide (List.length o=List.length o) then
 bif decide (List.length z=List.length z) then
 Option.bind (p58 fu ((a,c,f,h,i,j,k,l,m,n,o,q,s,t,u,w,x,y,z,a0,c0,f0,h0,i0,j0,k0,l0,m0,n0,o0,q0,s0,t0,u0,w0,x0,y0,z0,a1,c1,f1,h1,i1,(),j1,k1,l1,m1,n1,o1,q1,s1,(),t1,u1,w1,x1,y1,z1,a2,c2,f2,h2,i2,j2,k2,l2,m2,(),n2,(),o2,q2,s2,()),(t2,u2,w2,x2,y2,z2,a3,c3,f3,h3,i3,j3,()),())) fun ⟨⟨⟨k3,l3,m3,n3,o3,q3,s3,t3,u3,w3,x3,y3,z3,a4,c4,f4,h4,i4,j4,k4,l4,m4,n4,o4,q4,s4,t4,u4,w4,x4,y4,z4,a5,c5,f5,h5,i5,j5,k5,l5,m5,n5,o5,q5,s5,t5,u5,w5,x5,y5,z5,a6,c6,f6,h6,i6,j6,k6,l6,m6,n6,o6,q6,s6,t6,u6,w6,x6,y6,z6,a7,c7,f7,h7,_⟩,_,_,_,_,_,_⟩,_⟩ =>
 bif decide (List.length l3=List.length l3) then
 bif decide (List.length o3=List.length o3) then
 bif decide (List.length q3=List.length q3) then
 bif decide (List.length x3=List.length x3) then
 bif decide (List.length j4=List.length j4) then
 bif decide (List.length q5=List.length q5) then
 bif decide (List.length c6=List.length c6) then
 bif decide (List.length y6=List.length y6) then
 bif decide (List.length a7=List.length a7) then
 some (((k3,l3,m3,n3,o3,q3,s3,t3,u3,w3,x3,y3,z3,a4,c4,f4,h4,i4,j4,k4,l4,m4,n4,o4,q4,s4,t4,u4,w4,x4,y4,z4,a5,c5,f5,h5,i5,j5,k5,l5,m5,n5,o5,q5,s5,t5,u5,w5,x5,y5,z5,a6,c6,f6,h6,i6,j6,k6,l6,m6,n6,o6,q6,s6,t6,u6,w6,x6,y6,z6,a7,c7,f7,h7,()),(),(),(),(),(),()),(0:Int))
 else none
 else none
 else none
 else none
 else none
 else none
 else none
 else none
 else none
 else none
 else none
 else none
 else none
 else none
 else
 bif (u2==(201:Int)) then
 bif decide (List.length c=List.length c) then
 bif decide (List.length i=List.length i) then
 bif decide (List.length j=List.length j) then
 bif decide (List.length o=List.length o) then
 bif decide (List.length z=List.length z) then
 Option.bind (p59 fu ((a,c,f,h,i,j,k,l,m,n,o,q,s,t,u,w,x,y,z,a0,c0,f0,h0,i0,j0,k0,l0,m0,n0,o0,q0,s0,t0,u0,w0,x0,y0,z0,a1,c1,f1,h1,i1,(),j1,k1,l1,m1,n1,o1,q1,s1,(),t1,u1,w1,x1,y1,z1,a2,c2,f2,h2,i2,j2,k2,l2,m2,(),n2,(),o2,q2,s2,()),w2,())) fun ⟨⟨⟨i7,j7,k7,l7,m7,n7,o7,q7,s7,t7,u7,w7,x7,y7,z7,a8,c8,f8,h8,i8,j8,k8,l8,m8,n8,o8,q8,s8,t8,u8,w8,x8,y8,z8,a9,c9,f9,h9,i9,j9,k9,l9,m9,n9,o9,q9,s9,t9,u9,w9,x9,y9,z9,a10,c10,f10,h10,i10,j10,k10,l10,m10,n10,o10,q10,s10,t10,u10,w10,x10,y10,z10,a11,c11,_⟩,_,_,_,_,_,_⟩,_⟩ =>
 bif decide (List.length j7=List.length j7) then
 bif decide (List.length m7=List.length m7) then
 bif decide (List.length n7=List.length n7) then
 bif decide (List.length u7=List.length u7) then
 bif decide (List.length h8=List.length h8) then
 bif decide (List.length n9=List.length n9) then
 bif decide (List.length z9=List.length z9) then
 bif decide (List.length w10=List.length w10) then
 bif decide (List.length y10=List.length y10) then
 some (((i7,j7,k7,l7,m7,n7,o7,q7,s7,t7,u7,w7,x7,y7,z7,a8,c8,f8,h8,i8,j8,k8,l8,m8,n8,o8,q8,s8,t8,u8,w8,x8,y8,z8,a9,c9,f9,h9,i9,j9,k9,l9,m9,n9,o9,q9,s9,t9,u9,w9,x9,y9,z9,a10,c10,f10,h10,i10,j10,k10,l10,m10,n10,o10,q10,s10,t10,u10,w10,x10,y10,z10,a11,c11,()),(),(),(),(),(),()),(0:Int))
 else none
 else none
 else none
 else none
 else none
 else none
 else none
 else none
 else none
 else none
 else none
 else none
 else none
 else none
 else
 orK (E := ((Bool)×(Unit))×(Unit))
 (bif (u2==(162:Int)) then
 some (.inl ((true,()),()))
 else
 bif (u2==(164:Int)) then
 some (.inl ((true,()),()))
 else
 bif (u2==(163:Int)) then
 some (.inl ((true,()),()))
 else
 some (.inl (((u2==(182:Int)),()),())))
 fun ⟨⟨f11,_⟩,_⟩ =>
 bif f11 then
 bif (l==(5:Int)) then
 bif decide (List.length c=List.length c) then
 bif decide (List.length i=List.length i) then
 bif decide (List.length j=List.length j) then
 bif decide (List.length o=List.length o) then
 bif decide (List.length z=List.length z) then
 Option.bind (p60_1 fu ((a,c,f,h,i,j,k,l,m,n,o,q,s,t,u,w,x,y,z,a0,c0,f0,h0,i0,j0,k0,l0,m0,n0,o0,q0,s0,t0,u0,w0,x0,y0,z0,a1,c1,f1,h1,i1,(),j1,k1,l1,m1,n1,o1,q1,s1,(),t1,u1,w1,x1,y1,z1,a2,c2,f2,h2,i2,j2,k2,l2,m2,(),n2,(),o2,q2,s2,()),(t2,u2,w2,x2,y2,z2,a3,c3,f3,h3,i3,j3,()),())) fun ⟨⟨⟨h11,i11,j11,k11,l11,m11,n11,o11,q11,s11,_,t11,u11,w11,x11,y11,z11,a12,_,c12,f12,h12,i12,j12,k12,l12,m12,n12,o12,q12,s12,t12,u12,w12,x12,y12,z12,a13,c13,f13,h13,i13,j13,_,k13,l13,m13,n13,o13,q13,s13,t13,_,u13,w13,x13,y13,z13,a14,c14,f14,h14,i14,j14,k14,l14,m14,n14,o14,q14,s14,t14,u14,w14,_⟩,_,_,_,_,_,_⟩,_⟩ =>
 bif decide (List.length i11=List.length i11) then
 bif decide (List.length l11=List.length l11) then
 bif decide (List.length m11=List.length m11) then
 bif decide (List.length o14=List.length o14) then
 bif decide (List.length s14=List.length s14) then
 some (((h11,i11,j11,k11,l11,m11,n11,o11,q11,s11,[],t11,u11,w11,x11,y11,z11,a12,[],c12,f12,h12,i12,j12,k12,l12,m12,n12,o12,q12,s12,t12,u12,w12,x12,y12,z12,a13,c13,f13,h13,i13,j13,[],k13,l13,m13,n13,o13,q13,s13,t13,[],u13,w13,x13,y13,z13,a14,c14,f14,h14,i14,j14,k14,l14,m14,n14,o14,q14,s14,t14,u14,w14,()),(),(),(),(),(),()),(0:Int))
 else none
 else none
 else none
 else none
 else none
 else none
 else none
 else none
 else none
 else none
 else
 bif decide (List.length c=List.length c) then
 bif decide (List.length i=List.length i) then
 bif decide (List.length j=List.length j) then
 bif decide (List.length o=List.length o) then
 bif decide (List.length z=List.length z) then
 Option.bind (p61 fu ((a,c,f,h,i,j,k,l,m,n,o,q,s,t,u,w,x,y,z,a0,c0,f0,h0,i0,j0,k0,l0,m0,n0,o0,q0,s0,t0,u0,w0,x0,y0,z0,a1,c1,f1,h1,i1,(),j1,k1,l1,m1,n1,o1,q1,s1,(),t1,u1,w1,x1,y1,z1,a2,c2,f2,h2,i2,j2,k2,l2,m2,(),n2,(),o2,q2,s2,()),())) fun ⟨⟨⟨x14,y14,z14,a15,c15,f15,h15,i15,j15,k15,l15,m15,n15,o15,q15,s15,t15,u15,w15,x15,y15,z15,a16,c16,f16,h16,i16,j16,k16,l16,m16,n16,o16,q16,s16,t16,u16,w16,x16,y16,z16,a17,c17,_,f17,h17,i17,j17,k17,l17,m17,n17,_,o17,q17,s17,t17,u17,w17,x17,y17,z17,a18,c18,f18,h18,i18,j18,_,k18,_,l18,m18,n18,_⟩,_,_,_,_,_,_⟩,_⟩ =>
 bif decide (List.length y14=List.length y14) then
 bif decide (List.length c15=List.length c15) then
 bif decide (List.length f15=List.length f15) then
 bif decide (List.length l15=List.length l15) then
 bif decide (List.length w15=List.length w15) then
 some (((x14,y14,z14,a15,c15,f15,h15,i15,j15,k15,l15,m15,n15,o15,q15,s15,t15,u15,w15,x15,y15,z15,a16,c16,f16,h16,i16,j16,k16,l16,m16,n16,o16,q16,s16,t16,u16,w16,x16,y16,z16,a17,c17,[],f17,h17,i17,j17,k17,l17,m17,n17,[],o17,q17,s17,t17,u17,w17,x17,y17,z17,a18,c18,f18,h18,i18,j18,[],k18,[],l18,m18,n18,()),(),(),(),(),(),()),(0:Int))
 else none
 else none
 else none
 else none
 else none
 else none
 else none
 else none
 else none
 else none
 else
 bif (u2==(202:Int)) then
 bif (l==(5:Int)) then
 bif decide (List.length c=List.length c) then
 bif decide (List.length i=List.length i) then
 bif decide (List.length j=List.length j) then
 bif decide (List.length o=List.length o) then
 bif decide (List.length z=List.length z) then
 Option.bind (p62 fu ((a,c,f,h,i,j,k,l,m,n,o,q,s,t,u,w,x,y,z,a0,c0,f0,h0,i0,j0,k0,l0,m0,n0,o0,q0,s0,t0,u0,w0,x0,y0,z0,a1,c1,f1,h1,i1,(),j1,k1,l1,m1,n1,o1,q1,s1,(),t1,u1,w1,x1,y1,z1,a2,c2,f2,h2,i2,j2,k2,l2,m2,(),n2,(),o2,q2,s2,()),())) fun ⟨⟨⟨o18,q18,s18,t18,u18,w18,x18,y18,z18,a19,c19,f19,h19,i19,j19,k19,l19,m19,n19,o19,q19,s19,t19,u19,w19,x19,y19,z19,a20,c20,f20,h20,i20,j20,k20,l20,m20,n20,o20,q20,s20,t20,u20,_,w20,x20,y20,z20,a21,c21,f21,h21,_,i21,j21,k21,l21,m21,n21,o21,q21,s21,t21,u21,w21,x21,y21,z21,_,a22,_,c22,f22,h22,_⟩,_,_,_,_,_,_⟩,_⟩ =>
 bif decide (List.length q18=List.length q18) then
 bif decide (List.length u18=List.length u18) then
 bif decide (List.length w18=List.length w18) then
 bif decide (List.length c19=List.length c19) then
 bif decide (List.length n19=List.length n19) then
 some (((o18,q18,s18,t18,u18,w18,x18,y18,z18,a19,c19,f19,h19,i19,j19,k19,l19,m19,n19,o19,q19,s19,t19,u19,w19,x19,y19,z19,a20,c20,f20,h20,i20,j20,k20,l20,m20,n20,o20,q20,s20,t20,u20,[],w20,x20,y20,z20,a21,c21,f21,h21,[],i21,j21,k21,l21,m21,n21,o21,q21,s21,t21,u21,w21,x21,y21,z21,[],a22,[],c22,f22,h22,()),(),(),(),(),(),()),(0:Int))
 else none
 else none
 else none
 else none
 else none
 else none
 else none
 else none
 else none
 else none
 else
 bif decide (List.length c=List.length c) then
 bif decide (List.length i=List.length i) then
 bif decide (List.length j=List.length j) then
 bif decide (List.length o=List.length o) then
 bif decide (List.length z=List.length z) then
 Option.bind (p61 fu ((a,c,f,h,i,j,k,l,m,n,o,q,s,t,u,w,x,y,z,a0,c0,f0,h0,i0,j0,k0,l0,m0,n0,o0,q0,s0,t0,u0,w0,x0,y0,z0,a1,c1,f1,h1,i1,(),j1,k1,l1,m1,n1,o1,q1,s1,(),t1,u1,w1,x1,y1,z1,a2,c2,f2,h2,i2,j2,k2,l2,m2,(),n2,(),o2,q2,s2,()),())) fun ⟨⟨⟨i22,j22,k22,l22,m22,n22,o22,q22,s22,t22,u22,w22,x22,y22,z22,a23,c23,f23,h23,i23,j23,k23,l23,m23,n23,o23,q23,s23,t23,u23,w23,x23,y23,z23,a24,c24,f24,h24,i24,j24,k24,l24,m24,_,n24,o24,q24,s24,t24,u24,w24,x24,_,y24,z24,a25,c25,f25,h25,i25,j25,k25,l25,m25,n25,o25,q25,s25,_,t25,_,u25,w25,x25,_⟩,_,_,_,_,_,_⟩,_⟩ =>
 bif decide (List.length j22=List.length j22) then
 bif decide (List.length m22=List.length m22) then
 bif decide (List.length n22=List.length n22) then
 bif decide (List.length u22=List.length u22) then
 bif decide (List.length h23=List.length h23) then
 some (((i22,j22,k22,l22,m22,n22,o22,q22,s22,t22,u22,w22,x22,y22,z22,a23,c23,f23,h23,i23,j23,k23,l23,m23,n23,o23,q23,s23,t23,u23,w23,x23,y23,z23,a24,c24,f24,h24,i24,j24,k24,l24,m24,[],n24,o24,q24,s24,t24,u24,w24,x24,[],y24,z24,a25,c25,f25,h25,i25,j25,k25,l25,m25,n25,o25,q25,s25,[],t25,[],u25,w25,x25,()),(),(),(),(),(),()),(0:Int))
 else none
 else none
 else none
 else none
 else none
 else none
 else none
 else none
 else none
 else none
 else
 bif (u2==(203:Int)) then
 bif (l==(5:Int)) then
 bif decide (List.length c=List.length c) then
 bif decide (List.length i=List.length i) then
 bif decide (List.length j=List.length j) then
 bif decide (List.length o=List.length o) then
 bif decide (List.length z=List.length z) then
 Option.bind (p63 fu ((a,c,f,h,i,j,k,l,m,n,o,q,s,t,u,w,x,y,z,a0,c0,f0,h0,i0,j0,k0,l0,m0,n0,o0,q0,s0,t0,u0,w0,x0,y0,z0,a1,c1,f1,h1,i1,(),j1,k1,l1,m1,n1,o1,q1,s1,(),t1,u1,w1,x1,y1,z1,a2,c2,f2,h2,i2,j2,k2,l2,m2,(),n2,(),o2,q2,s2,()),())) fun ⟨⟨⟨y25,z25,a26,c26,f26,h26,i26,j26,k26,l26,_,m26,n26,o26,q26,s26,t26,u26,_,w26,x26,y26,z26,a27,c27,f27,h27,i27,j27,k27,l27,m27,n27,o27,q27,s27,t27,u27,w27,x27,y27,z27,a28,_,c28,f28,h28,i28,j28,k28,l28,m28,_,n28,o28,q28,s28,t28,u28,w28,x28,y28,z28,a29,c29,f29,h29,i29,j29,k29,l29,m29,n29,o29,_⟩,_,_,_,_,_,_⟩,_⟩ =>
 bif decide (List.length z25=List.length z25) then
 bif decide (List.length f26=List.length f26) then
 bif decide (List.length h26=List.length h26) then
 bif decide (List.length j29=List.length j29) then
 bif decide (List.length l29=List.length l29) then
 some (((y25,z25,a26,c26,f26,h26,i26,j26,k26,l26,[],m26,n26,o26,q26,s26,t26,u26,[],w26,x26,y26,z26,a27,c27,f27,h27,i27,j27,k27,l27,m27,n27,o27,q27,s27,t27,u27,w27,x27,y27,z27,a28,[],c28,f28,h28,i28,j28,k28,l28,m28,[],n28,o28,q28,s28,t28,u28,w28,x28,y28,z28,a29,c29,f29,h29,i29,j29,k29,l29,m29,n29,o29,()),(),(),(),(),(),()),(0:Int))
 else none
 else none
 else none
 else none
 else none
 else none
 else none
 else none
 else none
 else none
 else
 bif decide (List.length c=List.length c) then
 bif decide (List.length i=List.length i) then
 bif decide (List.length j=List.length j) then
 bif decide (List.length o=List.length o) then
 bif decide (List.length z=List.length z) then
 Option.bind (p64 fu ((a,c,f,h,i,j,k,l,m,n,o,q,s,t,u,w,x,y,z,a0,c0,f0,h0,i0,j0,k0,l0,m0,n0,o0,q0,s0,t0,u0,w0,x0,y0,z0,a1,c1,f1,h1,i1,(),j1,k1,l1,m1,n1,o1,q1,s1,(),t1,u1,w1,x1,y1,z1,a2,c2,f2,h2,i2,j2,k2,l2,m2,(),n2,(),o2,q2,s2,()),())) fun ⟨⟨⟨q29,s29,t29,u29,w29,x29,y29,z29,a30,c30,f30,h30,i30,j30,k30,l30,m30,n30,o30,q30,s30,t30,u30,w30,x30,y30,z30,a31,c31,f31,h31,i31,j31,k31,l31,m31,n31,o31,q31,s31,t31,u31,w31,_,x31,y31,z31,a32,c32,f32,h32,i32,_,j32,k32,l32,m32,n32,o32,q32,s32,t32,u32,w32,x32,y32,z32,a33,_,c33,_,f33,h33,i33,_⟩,_,_,_,_,_,_⟩,_⟩ =>
 bif decide (List.length s29=List.length s29) then
 bif decide (List.length w29=List.length w29) then
 bif decide (List.length x29=List.length x29) then
 bif decide (List.length f30=List.length f30) then
 bif decide (List.length o30=List.length o30) then
 some (((q29,s29,t29,u29,w29,x29,y29,z29,a30,c30,f30,h30,i30,j30,k30,l30,m30,n30,o30,q30,s30,t30,u30,w30,x30,y30,z30,a31,c31,f31,h31,i31,j31,k31,l31,m31,n31,o31,q31,s31,t31,u31,w31,[],x31,y31,z31,a32,c32,f32,h32,i32,[],j32,k32,l32,m32,n32,o32,q32,s32,t32,u32,w32,x32,y32,z32,a33,[],c33,[],f33,h33,i33,()),(),(),(),(),(),()),(0:Int))
 else none
 else none
 else none
 else none
 else none
 else none
 else none
 else none
 else none
 else none
 else
 bif decide (List.length c=List.length c) then
 bif decide (List.length i=List.length i) then
 bif decide (List.length j=List.length j) then
 bif decide (List.length o=List.length o) then
 bif decide (List.length z=List.length z) then
 Option.bind (p60_1 fu ((a,c,f,h,i,j,k,l,m,n,o,q,s,t,u,w,x,y,z,a0,c0,f0,h0,i0,j0,k0,l0,m0,n0,o0,q0,s0,t0,u0,w0,x0,y0,z0,a1,c1,f1,h1,i1,(),j1,k1,l1,m1,n1,o1,q1,s1,(),t1,u1,w1,x1,y1,z1,a2,c2,f2,h2,i2,j2,k2,l2,m2,(),n2,(),o2,q2,s2,()),(t2,u2,w2,x2,y2,z2,a3,c3,f3,h3,i3,j3,()),())) fun ⟨⟨⟨j33,k33,l33,m33,n33,o33,q33,s33,t33,u33,_,w33,x33,y33,z33,a34,c34,f34,_,h34,i34,j34,k34,l34,m34,n34,o34,q34,s34,t34,u34,w34,x34,y34,z34,a35,c35,f35,h35,i35,j35,k35,l35,_,m35,n35,o35,q35,s35,t35,u35,w35,_,x35,y35,z35,a36,c36,f36,h36,i36,j36,k36,l36,m36,n36,o36,q36,s36,t36,u36,w36,x36,y36,_⟩,_,_,_,_,_,_⟩,_⟩ =>
 bif decide (List.length k33=List.length k33) then
 bif decide (List.length n33=List.length n33) then
 bif decide (List.length o33=List.length o33) then
 bif decide (List.length s36=List.length s36) then
 bif decide (List.length u36=List.length u36) then
 some (((j33,k33,l33,m33,n33,o33,q33,s33,t33,u33,[],w33,x33,y33,z33,a34,c34,f34,[],h34,i34,j34,k34,l34,m34,n34,o34,q34,s34,t34,u34,w34,x34,y34,z34,a35,c35,f35,h35,i35,j35,k35,l35,[],m35,n35,o35,q35,s35,t35,u35,w35,[],x35,y35,z35,a36,c36,f36,h36,i36,j36,k36,l36,m36,n36,o36,q36,s36,t36,u36,w36,x36,y36,()),(),(),(),(),(),()),(0:Int))
 else none
 else none
 else none
 else none
 else none
 else none
 else none
 else none
 else none
 else none
def e34 (fu:Nat):Ent := ⟨34,(.cons Y27 (.cons Y34 .nil)),(.cons Y40 (.cons .dead (.cons .dead (.cons .dead (.cons .dead (.cons .dead .nil)))))),(.hole (.int .i64)),p34 fu⟩
theorem g34 (fu:Nat):(e34 fu).Good Try.prog := good_fx orders Try.func34 fu [(44,(.ent (e58 fu))),(50,(.ent (e59 fu))),(62,(.ent (e60_1 fu))),(64,(.ent (e61 fu))),(69,(.ent (e62 fu))),(71,(.ent (e61 fu))),(76,(.ent (e63 fu))),(78,(.ent (e64 fu))),(81,(.ent (e60_1 fu)))] [(10,⟨[55],(.cons (.hole .bool) .nil),[],.nil,[0,5,6,40],[0,1,2,3,4,5,7,8,9,10,11,76]⟩)] rs34 80 (l := [e58 fu,e59 fu,e60_1 fu,e61 fu,e62 fu,e61 fu,e63 fu,e64 fu,e60_1 fu]) ⟨g58 fu,g59 fu,g60_1 fu,g61 fu,g62 fu,g61 fu,g63 fu,g64 fu,g60_1 fu,trivial⟩
def rs35:List RVx := [(.tmp 4)]
def p35 (fu:Nat):(Z0)×((Z4)×(Unit))→Option (((Z3)×((Unit)×((Unit)×((Unit)×((Unit)×((Unit)×(Unit)))))))×(Int)) := fun ⟨⟨a,c,f,h,i,j,k,l,m,n,o,q,s,t,u,w,x,y,z,a0,c0,f0,h0,i0,j0,k0,l0,m0,n0,o0,q0,s0,t0,u0,w0,x0,y0,z0,a1,c1,f1,h1,i1,_,j1,k1,l1,m1,n1,o1,q1,s1,_,t1,u1,w1,x1,y1,z1,a2,c2,f2,h2,i2,j2,k2,l2,m2,_,n2,_,o2,q2,s2,_⟩,⟨_,_,_,_,_,_,_,_,_,_,_,_,_,_,_,_,_,_,_,_,_,_,_,_,_,_,_,_,_,_,_,_,_⟩,_⟩ =>
bif !k then
 bif decide (List.length c=List.length c) then
 bif decide (List.length i=List.length i) then
 bif decide (List.length j=List.length j) then
 bif decide (List.length o=List.length o) then
 bif decide (List.length z=List.length z) then
 some (((a,c,f,h,i,j,k,l,m,n,o,q,s,t,u,w,x,y,z,a0,c0,f0,h0,i0,j0,k0,l0,m0,n0,o0,q0,s0,t0,u0,w0,x0,y0,z0,a1,c1,f1,h1,i1,[],j1,k1,l1,m1,n1,o1,q1,s1,[],t1,u1,w1,x1,y1,z1,a2,c2,f2,h2,i2,j2,k2,l2,m2,[],n2,[],o2,q2,s2,()),(),(),(),(),(),()),(0:Int))
 else none
 else none
 else none
 else none
 else none
else
 bif s0 then
 bif decide (List.length c=List.length c) then
 bif decide (List.length i=List.length i) then
 bif decide (List.length j=List.length j) then
 bif decide (List.length o=List.length o) then
 bif decide (List.length z=List.length z) then
 Option.bind (p57 fu ((a,c,f,h,i,j,k,l,m,n,o,q,s,t,u,w,x,y,z,a0,c0,f0,h0,i0,j0,k0,l0,m0,n0,o0,q0,s0,t0,u0,w0,x0,y0,z0,a1,c1,f1,h1,i1,(),j1,k1,l1,m1,n1,o1,q1,s1,(),t1,u1,w1,x1,y1,z1,a2,c2,f2,h2,i2,j2,k2,l2,m2,(),n2,(),o2,q2,s2,()),())) fun ⟨⟨⟨t2,u2,w2,x2,y2,z2,a3,c3,f3,h3,i3,j3,k3,l3,m3,n3,o3,q3,s3,t3,u3,w3,x3,y3,z3,a4,c4,f4,h4,i4,j4,k4,l4,m4,n4,o4,q4,s4,t4,u4,w4,x4,y4,z4,a5,c5,f5,h5,i5,j5,k5,l5,m5,n5,o5,q5,s5,t5,u5,w5,x5,y5,z5,a6,c6,f6,h6,i6,j6,k6,l6,m6,n6,o6,_⟩,_,_,_,_,_,_⟩,_⟩ =>
 bif decide (List.length u2=List.length u2) then
 bif decide (List.length y2=List.length y2) then
 bif decide (List.length z2=List.length z2) then
 bif decide (List.length i3=List.length i3) then
 bif decide (List.length s3=List.length s3) then
 bif decide (List.length z4=List.length z4) then
 bif decide (List.length m5=List.length m5) then
 bif decide (List.length j6=List.length j6) then
 bif decide (List.length l6=List.length l6) then
 some (((t2,u2,w2,x2,y2,z2,a3,c3,f3,h3,i3,j3,k3,l3,m3,n3,o3,q3,s3,t3,u3,w3,x3,y3,z3,a4,c4,f4,h4,i4,j4,k4,l4,m4,n4,o4,q4,s4,t4,u4,w4,x4,y4,z4,a5,c5,f5,h5,i5,j5,k5,l5,m5,n5,o5,q5,s5,t5,u5,w5,x5,y5,z5,a6,c6,f6,h6,i6,j6,k6,l6,m6,n6,o6,()),(),(),(),(),(),()),(0:Int))
 else none
 else none
 else none
 else none
 else none
 else none
 else none
 else none
 else none
 else none
 else none
 else none
 else none
 else none
 else
 bif decide ((IntKind.wrap .i64 (q0+(1:Int)))≥(12:Int)) then
 bif decide (List.length c=List.length c) then
 bif decide (List.length i=List.length i) then
 bif decide (List.length j=List.length j) then
 bif decide (List.length o=List.length o) then
 bif decide (List.length z=List.length z) then
 Option.bind (p65 fu ((a,c,f,h,i,j,k,l,m,n,o,q,s,t,u,w,x,y,z,a0,c0,f0,h0,i0,j0,k0,l0,m0,n0,o0,IntKind.wrap .i64 (q0+(1:Int)),s0,t0,u0,w0,x0,y0,z0,a1,c1,f1,h1,i1,(),j1,k1,l1,m1,n1,o1,q1,s1,(),t1,u1,w1,x1,y1,z1,a2,c2,f2,h2,i2,j2,k2,l2,m2,(),n2,(),o2,q2,s2,()),())) fun ⟨⟨⟨q6,s6,t6,u6,w6,x6,y6,z6,a7,c7,f7,h7,i7,j7,k7,l7,m7,n7,o7,q7,s7,t7,u7,w7,x7,y7,z7,a8,c8,f8,h8,i8,j8,k8,l8,m8,n8,o8,q8,s8,t8,u8,w8,_,x8,y8,z8,a9,c9,f9,h9,i9,_,j9,k9,l9,m9,n9,o9,q9,s9,t9,u9,w9,x9,y9,z9,a10,_,c10,_,f10,h10,i10,_⟩,_,_,_,_,_,_⟩,_⟩ =>
 bif decide (List.length s6=List.length s6) then
 bif decide (List.length w6=List.length w6) then
 bif decide (List.length x6=List.length x6) then
 bif decide (List.length f7=List.length f7) then
 bif decide (List.length o7=List.length o7) then
 Option.bind (p66 fu ((q6,s6,t6,u6,w6,x6,y6,z6,a7,c7,f7,h7,i7,j7,k7,l7,m7,n7,o7,q7,s7,t7,u7,w7,x7,y7,z7,a8,c8,f8,h8,i8,j8,k8,l8,m8,n8,o8,q8,s8,t8,u8,w8,(),x8,y8,z8,a9,c9,f9,h9,i9,(),j9,k9,l9,m9,n9,o9,q9,s9,t9,u9,w9,x9,y9,z9,a10,(),c10,(),f10,h10,i10,()),())) fun ⟨⟨⟨j10,k10,l10,m10,n10,o10,q10,s10,t10,u10,w10,x10,y10,z10,a11,c11,f11,h11,i11,j11,k11,l11,m11,n11,o11,q11,s11,t11,u11,w11,x11,y11,z11,a12,c12,f12,h12,i12,j12,k12,l12,m12,n12,_,o12,q12,s12,t12,u12,w12,x12,y12,_,z12,a13,c13,f13,h13,i13,j13,k13,l13,m13,n13,o13,q13,s13,t13,_,u13,_,w13,x13,y13,_⟩,_,_,_,_,_,_⟩,_⟩ =>
 bif (s10==(5:Int)) then
 bif decide (List.length k10=List.length k10) then
 bif decide (List.length n10=List.length n10) then
 bif decide (List.length o10=List.length o10) then
 bif decide (List.length w10=List.length w10) then
 bif decide (List.length i11=List.length i11) then
 Option.bind (p63 fu ((j10,k10,l10,m10,n10,o10,q10,s10,t10,u10,w10,x10,y10,z10,a11,c11,f11,h11,i11,j11,k11,l11,m11,n11,o11,q11,s11,t11,u11,w11,x11,y11,z11,a12,c12,f12,h12,i12,j12,k12,l12,m12,n12,(),o12,q12,s12,t12,u12,w12,x12,y12,(),z12,a13,c13,f13,h13,i13,j13,k13,l13,m13,n13,o13,q13,s13,t13,(),u13,(),w13,x13,y13,()),())) fun ⟨⟨⟨z13,a14,c14,f14,h14,i14,j14,k14,l14,m14,_,n14,o14,q14,s14,t14,u14,w14,_,x14,y14,z14,a15,c15,f15,h15,i15,j15,k15,l15,m15,n15,o15,q15,s15,t15,u15,w15,x15,y15,z15,a16,c16,_,f16,h16,i16,j16,k16,l16,m16,n16,_,o16,q16,s16,t16,u16,w16,x16,y16,z16,a17,c17,f17,h17,i17,j17,k17,l17,m17,n17,o17,q17,_⟩,_,_,_,_,_,_⟩,_⟩ =>
 bif decide (List.length a14=List.length a14) then
 bif decide (List.length h14=List.length h14) then
 bif decide (List.length i14=List.length i14) then
 bif decide (List.length k17=List.length k17) then
 bif decide (List.length m17=List.length m17) then
 some (((z13,a14,c14,f14,h14,i14,j14,k14,l14,m14,[],n14,o14,q14,s14,t14,u14,w14,[],x14,y14,z14,a15,c15,f15,h15,i15,j15,k15,l15,m15,n15,o15,q15,s15,t15,u15,w15,x15,y15,z15,a16,c16,[],f16,h16,i16,j16,k16,l16,m16,n16,[],o16,q16,s16,t16,u16,w16,x16,y16,z16,a17,c17,f17,h17,i17,j17,k17,l17,m17,n17,o17,q17,()),(),(),(),(),(),()),(0:Int))
 else none
 else none
 else none
 else none
 else none
 else none
 else none
 else none
 else none
 else none
 else
 bif decide (List.length k10=List.length k10) then
 bif decide (List.length n10=List.length n10) then
 bif decide (List.length o10=List.length o10) then
 bif decide (List.length w10=List.length w10) then
 bif decide (List.length i11=List.length i11) then
 Option.bind (p57 fu ((j10,k10,l10,m10,n10,o10,q10,s10,t10,u10,w10,x10,y10,z10,a11,c11,f11,h11,i11,j11,k11,l11,m11,n11,o11,q11,s11,t11,u11,w11,x11,y11,z11,a12,c12,f12,h12,i12,j12,k12,l12,m12,n12,(),o12,q12,s12,t12,u12,w12,x12,y12,(),z12,a13,c13,f13,h13,i13,j13,k13,l13,m13,n13,o13,q13,s13,t13,(),u13,(),w13,x13,y13,()),())) fun ⟨⟨⟨s17,t17,u17,w17,x17,y17,z17,a18,c18,f18,h18,i18,j18,k18,l18,m18,n18,o18,q18,s18,t18,u18,w18,x18,y18,z18,a19,c19,f19,h19,i19,j19,k19,l19,m19,n19,o19,q19,s19,t19,u19,w19,x19,y19,z19,a20,c20,f20,h20,i20,j20,k20,l20,m20,n20,o20,q20,s20,t20,u20,w20,x20,y20,z20,a21,c21,f21,h21,i21,j21,k21,l21,m21,n21,_⟩,_,_,_,_,_,_⟩,_⟩ =>
 bif decide (List.length t17=List.length t17) then
 bif decide (List.length x17=List.length x17) then
 bif decide (List.length y17=List.length y17) then
 bif decide (List.length h18=List.length h18) then
 bif decide (List.length q18=List.length q18) then
 bif decide (List.length y19=List.length y19) then
 bif decide (List.length l20=List.length l20) then
 bif decide (List.length i21=List.length i21) then
 bif decide (List.length k21=List.length k21) then
 some (((s17,t17,u17,w17,x17,y17,z17,a18,c18,f18,h18,i18,j18,k18,l18,m18,n18,o18,q18,s18,t18,u18,w18,x18,y18,z18,a19,c19,f19,h19,i19,j19,k19,l19,m19,n19,o19,q19,s19,t19,u19,w19,x19,y19,z19,a20,c20,f20,h20,i20,j20,k20,l20,m20,n20,o20,q20,s20,t20,u20,w20,x20,y20,z20,a21,c21,f21,h21,i21,j21,k21,l21,m21,n21,()),(),(),(),(),(),()),(0:Int))
 else none
 else none
 else none
 else none
 else none
 else none
 else none
 else none
 else none
 else none
 else none
 else none
 else none
 else none
 else none
 else none
 else none
 else none
 else none
 else none
 else none
 else none
 else none
 else none
 else
 bif decide (List.length c=List.length c) then
 bif decide (List.length i=List.length i) then
 bif decide (List.length j=List.length j) then
 bif decide (List.length o=List.length o) then
 bif decide (List.length z=List.length z) then
 some (((a,c,f,h,i,j,k,l,m,n,o,q,s,t,u,w,x,y,z,a0,c0,f0,h0,i0,j0,k0,l0,m0,n0,o0,IntKind.wrap .i64 (q0+(1:Int)),s0,t0,u0,w0,x0,y0,z0,a1,c1,f1,h1,i1,[],j1,k1,l1,m1,n1,o1,q1,s1,[],t1,u1,w1,x1,y1,z1,a2,c2,f2,h2,i2,j2,k2,l2,m2,[],n2,[],o2,q2,s2,()),(),(),(),(),(),()),(0:Int))
 else none
 else none
 else none
 else none
 else none
def e35 (fu:Nat):Ent := ⟨35,(.cons Y27 (.cons Y34 .nil)),(.cons Y33 (.cons .dead (.cons .dead (.cons .dead (.cons .dead (.cons .dead .nil)))))),(.hole (.int .i64)),p35 fu⟩
theorem g35 (fu:Nat):(e35 fu).Good Try.prog := good_fx orders Try.func35 fu [(15,(.ent (e57 fu))),(34,(.ent (e65 fu))),(36,(.ent (e66 fu))),(45,(.ent (e63 fu))),(47,(.ent (e57 fu)))] [] rs35 48 (l := [e57 fu,e65 fu,e66 fu,e63 fu,e57 fu]) ⟨g57 fu,g65 fu,g66 fu,g63 fu,g57 fu,trivial⟩
def rs10:List RVx := [(.cell 4 true 33),(.cell 5 true 41),(.tmp 6)]
def p10 (fu:Nat):(Z6)×((Z4)×(Unit))→Option ((Unit)×((Z6)×((Z5)×((Int)×(Unit))))) := fun ⟨⟨a,c,f,h,i,j,k,l,m,n,o,q,s,t,u,w,x,y,z,a0,c0,f0,h0,i0,j0,k0,l0,m0,n0,o0,q0,s0,t0,_⟩,⟨u0,w0,x0,y0,z0,a1,c1,f1,h1,i1,j1,k1,l1,m1,n1,o1,q1,s1,t1,u1,w1,x1,y1,z1,a2,c2,f2,h2,i2,j2,k2,l2,_⟩,_⟩ =>
Option.bind (p17 fu ((a,c,f,h,i,j,k,l,m,n,o,q,s,t,u,w,x,y,z,a0,c0,f0,h0,i0,j0,k0,l0,m0,n0,o0,q0,s0,t0,()),())) fun ⟨_,⟨m2,n2,o2,q2,s2,t2,u2,w2,x2,y2,z2,a3,c3,f3,h3,i3,j3,k3,l3,m3,n3,o3,q3,s3,t3,u3,w3,x3,y3,z3,a4,c4,f4,_⟩⟩ =>
orK (E := ((Z1)×(Unit))×(Unit))
 (Option.bind (p18 fu (u0,())) fun ⟨_,⟨h4,⟨_,_⟩,⟨i4,⟨_,_⟩,⟨j4,⟨_,_⟩,_⟩⟩⟩⟩ =>
 bif h4 then
 some (.inl (((true,((),()),dflt (.pair .bool (.pair (.pair .unit .unit) (.pair .bool (.pair (.pair .unit .unit) .unit))))),()),()))
 else
 bif i4 then
 some (.inl (((false,dflt (.pair .unit .unit),(true,((),()),dflt (.pair .bool (.pair (.pair .unit .unit) .unit)))),()),()))
 else
 bif j4 then
 some (.inl (((false,dflt (.pair .unit .unit),(false,dflt (.pair .unit .unit),(true,((),()),dflt .unit))),()),()))
 else
 some (.inl (((false,dflt (.pair .unit .unit),(false,dflt (.pair .unit .unit),(false,dflt (.pair .unit .unit),()))),()),())))
 fun ⟨⟨⟨k4,⟨_,_⟩,⟨l4,⟨_,_⟩,⟨m4,⟨_,_⟩,_⟩⟩⟩,_⟩,_⟩ =>
bif k4 then
 bif decide (List.length n2=List.length n2) then
 bif decide (List.length s2=List.length s2) then
 bif decide (List.length t2=List.length t2) then
 bif decide (List.length z2=List.length z2) then
 bif decide (List.length l3=List.length l3) then
 Option.bind (p33 fu ((m2,n2,o2,q2,s2,t2,u2,w2,x2,y2,z2,a3,c3,f3,h3,i3,j3,k3,l3,m3,n3,o3,q3,s3,t3,u3,w3,x3,y3,z3,a4,c4,f4,false,(0:Int),(0:Int),(0:Int),(0:Int),(0:Int),(0:Int),(0:Int),(0:Int),(⟨#[]⟩:ByteArray),(),(0:Int),(0:Int),(⟨#[]⟩:ByteArray),(0:Int),(0:Int),(0:Int),(0:Int),(⟨#[]⟩:ByteArray),(),(0:Int),(0:Int),(⟨#[]⟩:ByteArray),(0:Int),(0:Int),(0:Int),(0:Int),(⟨#[]⟩:ByteArray),false,(0:Int),(0:Int),(0:Int),(0:Int),(0:Int),false,(),(0:Int),(),(0:Int),(0:Int),(0:Int),()),(u0,w0,x0,y0,z0,a1,c1,f1,h1,i1,j1,k1,l1,m1,n1,o1,q1,s1,t1,u1,w1,x1,y1,z1,a2,c2,f2,h2,i2,j2,k2,l2,()),())) fun ⟨⟨⟨n4,o4,q4,s4,t4,u4,w4,x4,y4,z4,a5,c5,f5,h5,i5,j5,k5,l5,m5,n5,o5,q5,s5,t5,u5,w5,x5,y5,z5,a6,c6,f6,h6,i6,j6,k6,l6,m6,n6,o6,q6,s6,t6,u6,w6,x6,y6,z6,a7,c7,f7,h7,i7,j7,k7,l7,m7,n7,o7,q7,s7,t7,u7,w7,x7,y7,z7,a8,c8,f8,h8,i8,j8,k8,_⟩,_,_,_,_,_,_⟩,l8⟩ =>
 bif (l8 != (0:Int)) then
 Option.bind (p17 fu ((a,c,f,h,i,j,k,l,m,n,o,q,s,t,u,w,x,y,z,a0,c0,f0,h0,i0,j0,k0,l0,m0,n0,o0,q0,s0,t0,()),())) fun ⟨_,⟨m8,n8,o8,q8,s8,t8,u8,w8,x8,y8,z8,a9,c9,f9,h9,i9,j9,k9,l9,m9,n9,o9,q9,s9,t9,u9,w9,x9,y9,z9,a10,c10,f10,_⟩⟩ =>
 bif decide (List.length n8=List.length n8) then
 bif decide (List.length s8=List.length s8) then
 bif decide (List.length t8=List.length t8) then
 bif decide (List.length z8=List.length z8) then
 bif decide (List.length l9=List.length l9) then
 some ((),((m8,n8,o8,q8,s8,t8,u8,w8,x8,y8,z8,a9,c9,f9,h9,i9,j9,k9,l9,m9,n9,o9,q9,s9,t9,u9,w9,x9,y9,z9,a10,c10,f10,()),(false,(0:Int),(0:Int),(0:Int),(0:Int),(0:Int),(0:Int),(0:Int),(0:Int),(⟨#[]⟩:ByteArray),[],(0:Int),(0:Int),(⟨#[]⟩:ByteArray),(0:Int),(0:Int),(0:Int),(0:Int),(⟨#[]⟩:ByteArray),[],(0:Int),(0:Int),(⟨#[]⟩:ByteArray),(0:Int),(0:Int),(0:Int),(0:Int),(⟨#[]⟩:ByteArray),false,(0:Int),(0:Int),(0:Int),(0:Int),(0:Int),false,[],(0:Int),[],(0:Int),(0:Int),(0:Int),()),l8,()))
 else none
 else none
 else none
 else none
 else none
 else
 bif decide (List.length o4=List.length o4) then
 bif decide (List.length t4=List.length t4) then
 bif decide (List.length u4=List.length u4) then
 bif decide (List.length a5=List.length a5) then
 bif decide (List.length m5=List.length m5) then
 bif decide (List.length u6=List.length u6) then
 bif decide (List.length i7=List.length i7) then
 bif decide (List.length c8=List.length c8) then
 bif decide (List.length h8=List.length h8) then
 some ((),((n4,o4,q4,s4,t4,u4,w4,x4,y4,z4,a5,c5,f5,h5,i5,j5,k5,l5,m5,n5,o5,q5,s5,t5,u5,w5,x5,y5,z5,a6,c6,f6,h6,()),(i6,j6,k6,l6,m6,n6,o6,q6,s6,t6,u6,w6,x6,y6,z6,a7,c7,f7,h7,i7,j7,k7,l7,m7,n7,o7,q7,s7,t7,u7,w7,x7,y7,z7,a8,c8,f8,h8,i8,j8,k8,()),(0:Int),()))
 else none
 else none
 else none
 else none
 else none
 else none
 else none
 else none
 else none
 else none
 else none
 else none
 else none
 else none
else
 bif l4 then
 bif decide (List.length n2=List.length n2) then
 bif decide (List.length s2=List.length s2) then
 bif decide (List.length t2=List.length t2) then
 bif decide (List.length z2=List.length z2) then
 bif decide (List.length l3=List.length l3) then
 Option.bind (p34 fu ((m2,n2,o2,q2,s2,t2,u2,w2,x2,y2,z2,a3,c3,f3,h3,i3,j3,k3,l3,m3,n3,o3,q3,s3,t3,u3,w3,x3,y3,z3,a4,c4,f4,false,(0:Int),(0:Int),(0:Int),(0:Int),(0:Int),(0:Int),(0:Int),(0:Int),(⟨#[]⟩:ByteArray),(),(0:Int),(0:Int),(⟨#[]⟩:ByteArray),(0:Int),(0:Int),(0:Int),(0:Int),(⟨#[]⟩:ByteArray),(),(0:Int),(0:Int),(⟨#[]⟩:ByteArray),(0:Int),(0:Int),(0:Int),(0:Int),(⟨#[]⟩:ByteArray),false,(0:Int),(0:Int),(0:Int),(0:Int),(0:Int),false,(),(0:Int),(),(0:Int),(0:Int),(0:Int),()),(u0,w0,x0,y0,z0,a1,c1,f1,h1,i1,j1,k1,l1,m1,n1,o1,q1,s1,t1,u1,w1,x1,y1,z1,a2,c2,f2,h2,i2,j2,k2,l2,()),())) fun ⟨⟨⟨h10,i10,j10,k10,l10,m10,n10,o10,q10,s10,t10,u10,w10,x10,y10,z10,a11,c11,f11,h11,i11,j11,k11,l11,m11,n11,o11,q11,s11,t11,u11,w11,x11,y11,z11,a12,c12,f12,h12,i12,j12,k12,l12,m12,n12,o12,q12,s12,t12,u12,w12,x12,y12,z12,a13,c13,f13,h13,i13,j13,k13,l13,m13,n13,o13,q13,s13,t13,u13,w13,x13,y13,z13,a14,_⟩,_,_,_,_,_,_⟩,c14⟩ =>
 bif (c14 != (0:Int)) then
 Option.bind (p17 fu ((a,c,f,h,i,j,k,l,m,n,o,q,s,t,u,w,x,y,z,a0,c0,f0,h0,i0,j0,k0,l0,m0,n0,o0,q0,s0,t0,()),())) fun ⟨_,⟨f14,h14,i14,j14,k14,l14,m14,n14,o14,q14,s14,t14,u14,w14,x14,y14,z14,a15,c15,f15,h15,i15,j15,k15,l15,m15,n15,o15,q15,s15,t15,u15,w15,_⟩⟩ =>
 bif decide (List.length h14=List.length h14) then
 bif decide (List.length k14=List.length k14) then
 bif decide (List.length l14=List.length l14) then
 bif decide (List.length s14=List.length s14) then
 bif decide (List.length c15=List.length c15) then
 some ((),((f14,h14,i14,j14,k14,l14,m14,n14,o14,q14,s14,t14,u14,w14,x14,y14,z14,a15,c15,f15,h15,i15,j15,k15,l15,m15,n15,o15,q15,s15,t15,u15,w15,()),(false,(0:Int),(0:Int),(0:Int),(0:Int),(0:Int),(0:Int),(0:Int),(0:Int),(⟨#[]⟩:ByteArray),[],(0:Int),(0:Int),(⟨#[]⟩:ByteArray),(0:Int),(0:Int),(0:Int),(0:Int),(⟨#[]⟩:ByteArray),[],(0:Int),(0:Int),(⟨#[]⟩:ByteArray),(0:Int),(0:Int),(0:Int),(0:Int),(⟨#[]⟩:ByteArray),false,(0:Int),(0:Int),(0:Int),(0:Int),(0:Int),false,[],(0:Int),[],(0:Int),(0:Int),(0:Int),()),c14,()))
 else none
 else none
 else none
 else none
 else none
 else
 bif decide (List.length i10=List.length i10) then
 bif decide (List.length m10=List.length m10) then
 bif decide (List.length t10=List.length t10) then
 bif decide (List.length f11=List.length f11) then
 bif decide (List.length m12=List.length m12) then
 bif decide (List.length y12=List.length y12) then
 bif decide (List.length u13=List.length u13) then
 bif decide (List.length x13=List.length x13) then
 some ((),((h10,i10,j10,k10,l10,m10,n10,o10,q10,s10,t10,u10,w10,x10,y10,z10,a11,c11,f11,h11,i11,j11,k11,l11,m11,n11,o11,q11,s11,t11,u11,w11,x11,()),(y11,z11,a12,c12,f12,h12,i12,j12,k12,l12,m12,n12,o12,q12,s12,t12,u12,w12,x12,y12,z12,a13,c13,f13,h13,i13,j13,k13,l13,m13,n13,o13,q13,s13,t13,u13,w13,x13,y13,z13,a14,()),(0:Int),()))
 else none
 else none
 else none
 else none
 else none
 else none
 else none
 else none
 else none
 else none
 else none
 else none
 else none
 else
 bif m4 then
 bif decide (List.length n2=List.length n2) then
 bif decide (List.length s2=List.length s2) then
 bif decide (List.length t2=List.length t2) then
 bif decide (List.length z2=List.length z2) then
 bif decide (List.length l3=List.length l3) then
 Option.bind (p35 fu ((m2,n2,o2,q2,s2,t2,u2,w2,x2,y2,z2,a3,c3,f3,h3,i3,j3,k3,l3,m3,n3,o3,q3,s3,t3,u3,w3,x3,y3,z3,a4,c4,f4,false,(0:Int),(0:Int),(0:Int),(0:Int),(0:Int),(0:Int),(0:Int),(0:Int),(⟨#[]⟩:ByteArray),(),(0:Int),(0:Int),(⟨#[]⟩:ByteArray),(0:Int),(0:Int),(0:Int),(0:Int),(⟨#[]⟩:ByteArray),(),(0:Int),(0:Int),(⟨#[]⟩:ByteArray),(0:Int),(0:Int),(0:Int),(0:Int),(⟨#[]⟩:ByteArray),false,(0:Int),(0:Int),(0:Int),(0:Int),(0:Int),false,(),(0:Int),(),(0:Int),(0:Int),(0:Int),()),(u0,w0,x0,y0,z0,a1,c1,f1,h1,i1,j1,k1,l1,m1,n1,o1,q1,s1,t1,u1,w1,x1,y1,z1,a2,c2,f2,h2,i2,j2,k2,l2,()),())) fun ⟨⟨⟨x15,y15,z15,a16,c16,f16,h16,i16,j16,k16,l16,m16,n16,o16,q16,s16,t16,u16,w16,x16,y16,z16,a17,c17,f17,h17,i17,j17,k17,l17,m17,n17,o17,q17,s17,t17,u17,w17,x17,y17,z17,a18,c18,f18,h18,i18,j18,k18,l18,m18,n18,o18,q18,s18,t18,u18,w18,x18,y18,z18,a19,c19,f19,h19,i19,j19,k19,l19,m19,n19,o19,q19,s19,t19,_⟩,_,_,_,_,_,_⟩,u19⟩ =>
 bif (u19 != (0:Int)) then
 Option.bind (p17 fu ((a,c,f,h,i,j,k,l,m,n,o,q,s,t,u,w,x,y,z,a0,c0,f0,h0,i0,j0,k0,l0,m0,n0,o0,q0,s0,t0,()),())) fun ⟨_,⟨w19,x19,y19,z19,a20,c20,f20,h20,i20,j20,k20,l20,m20,n20,o20,q20,s20,t20,u20,w20,x20,y20,z20,a21,c21,f21,h21,i21,j21,k21,l21,m21,n21,_⟩⟩ =>
 bif decide (List.length x19=List.length x19) then
 bif decide (List.length a20=List.length a20) then
 bif decide (List.length c20=List.length c20) then
 bif decide (List.length k20=List.length k20) then
 bif decide (List.length u20=List.length u20) then
 some ((),((w19,x19,y19,z19,a20,c20,f20,h20,i20,j20,k20,l20,m20,n20,o20,q20,s20,t20,u20,w20,x20,y20,z20,a21,c21,f21,h21,i21,j21,k21,l21,m21,n21,()),(false,(0:Int),(0:Int),(0:Int),(0:Int),(0:Int),(0:Int),(0:Int),(0:Int),(⟨#[]⟩:ByteArray),[],(0:Int),(0:Int),(⟨#[]⟩:ByteArray),(0:Int),(0:Int),(0:Int),(0:Int),(⟨#[]⟩:ByteArray),[],(0:Int),(0:Int),(⟨#[]⟩:ByteArray),(0:Int),(0:Int),(0:Int),(0:Int),(⟨#[]⟩:ByteArray),false,(0:Int),(0:Int),(0:Int),(0:Int),(0:Int),false,[],(0:Int),[],(0:Int),(0:Int),(0:Int),()),u19,()))
 else none
 else none
 else none
 else none
 else none
 else
 bif decide (List.length y15=List.length y15) then
 bif decide (List.length c16=List.length c16) then
 bif decide (List.length f16=List.length f16) then
 bif decide (List.length l16=List.length l16) then
 bif decide (List.length w16=List.length w16) then
 bif decide (List.length f18=List.length f18) then
 bif decide (List.length q18=List.length q18) then
 bif decide (List.length m19=List.length m19) then
 bif decide (List.length o19=List.length o19) then
 some ((),((x15,y15,z15,a16,c16,f16,h16,i16,j16,k16,l16,m16,n16,o16,q16,s16,t16,u16,w16,x16,y16,z16,a17,c17,f17,h17,i17,j17,k17,l17,m17,n17,o17,()),(q17,s17,t17,u17,w17,x17,y17,z17,a18,c18,f18,h18,i18,j18,k18,l18,m18,n18,o18,q18,s18,t18,u18,w18,x18,y18,z18,a19,c19,f19,h19,i19,j19,k19,l19,m19,n19,o19,q19,s19,t19,()),(0:Int),()))
 else none
 else none
 else none
 else none
 else none
 else none
 else none
 else none
 else none
 else none
 else none
 else none
 else none
 else none
 else
 bif decide (List.length n2=List.length n2) then
 bif decide (List.length s2=List.length s2) then
 bif decide (List.length t2=List.length t2) then
 bif decide (List.length z2=List.length z2) then
 bif decide (List.length l3=List.length l3) then
 some ((),((m2,n2,o2,q2,s2,t2,u2,w2,x2,y2,z2,a3,c3,f3,h3,i3,j3,k3,l3,m3,n3,o3,q3,s3,t3,u3,w3,x3,y3,z3,a4,c4,f4,()),(false,(0:Int),(0:Int),(0:Int),(0:Int),(0:Int),(0:Int),(0:Int),(0:Int),(⟨#[]⟩:ByteArray),[],(0:Int),(0:Int),(⟨#[]⟩:ByteArray),(0:Int),(0:Int),(0:Int),(0:Int),(⟨#[]⟩:ByteArray),[],(0:Int),(0:Int),(⟨#[]⟩:ByteArray),(0:Int),(0:Int),(0:Int),(0:Int),(⟨#[]⟩:ByteArray),false,(0:Int),(0:Int),(0:Int),(0:Int),(0:Int),false,[],(0:Int),[],(0:Int),(0:Int),(0:Int),()),(1:Int),()))
 else none
 else none
 else none
 else none
 else none
def e10 (fu:Nat):Ent := ⟨10,(.cons Y17 (.cons Y41 .nil)),.nil,(.tup 3 (.cons Y42 (.cons Y43 (.cons (.hole (.int .i64)) .nil)))),p10 fu⟩
theorem g10 (fu:Nat):(e10 fu).Good Try.prog := good_fx orders Try.func10 fu [(6,(.ent (e17 fu))),(12,(.ent (e18 fu))),(27,(.either (.ent (e33 fu)) (.either (.ent (e34 fu)) (.ent (e35 fu))))),(32,(.ent (e17 fu)))] [(2,⟨[8],(.cons (.alt false (.clo 33 0 .nil 0 .nil) (.alt false (.clo 34 0 .nil 0 .nil) (.alt false (.clo 35 0 .nil 0 .nil) (.nilv 2)))) .nil),[],.nil,[2,3,4,5,7],[0,16,32,48,96,97,98,99,100,128]⟩)] rs10 42 (l := [e17 fu,e18 fu,e33 fu,e34 fu,e35 fu,e17 fu]) ⟨g17 fu,g18 fu,g33 fu,g34 fu,g35 fu,g17 fu,trivial⟩
def rs4:List RVx := [(.tmp 0)]
def p4 (fu:Nat):Unit→Option ((Unit)×(Bool)) := fun _ =>
Option.bind (p5 fu ((4:Int),[(1:Int),(2:Int),(3:Int)],(4:Int),())) fun ⟨_,⟨⟨a,c,f,h,i,j,k,l,m,n,o,q,s,t,u,w,x,y,z,a0,c0,f0,h0,i0,j0,k0,l0,m0,n0,o0,q0,s0,t0,_⟩,u0,_⟩⟩ =>
bif decide (List.length c=List.length c) then
 Option.bind (p10 fu ((a,c,f,h,i,j,k,l,m,n,o,q,s,t,u,w,x,y,z,a0,c0,f0,h0,i0,j0,k0,l0,m0,n0,o0,q0,s0,t0,()),((1:Int),(1:Int),(⟨#[116]⟩:ByteArray),(⟨#[107]⟩:ByteArray),[],(0:Int),(0:Int),(⟨#[]⟩:ByteArray),(0:Int),(0:Int),(0:Int),(⟨#[]⟩:ByteArray),[],(0:Int),(0:Int),(⟨#[]⟩:ByteArray),(0:Int),(0:Int),(0:Int),(0:Int),(0:Int),(0:Int),(0:Int),(0:Int),(0:Int),false,[],(0:Int),[],(0:Int),(0:Int),(0:Int),()),())) fun ⟨_,⟨⟨_,_,_,w0,_,_,x0,_,_,_,_,_,_,_,_,_,_,_,_,_,_,_,_,_,_,_,_,_,_,_,_,_,_,_⟩,⟨y0,z0,a1,c1,_,_,_,_,_,_,_,_,_,_,_,_,_,_,_,_,_,_,_,_,_,_,_,f1,_,_,_,_,_,_,_,_,_,_,_,_,_,_⟩,h1,_⟩⟩ =>
 bif (u0==(0:Int)) then
 bif (h1==(0:Int)) then
 bif (w0==(1:Int)) then
 bif x0 then
 bif y0 then
 bif (z0==(1:Int)) then
 bif (c1==(6:Int)) then
 bif ByteArray.toList f1==ByteArray.toList (⟨#[116]⟩:ByteArray) then
 some ((),(a1==(1:Int)))
 else
 some ((),false)
 else
 some ((),false)
 else
 some ((),false)
 else
 some ((),false)
 else
 some ((),false)
 else
 some ((),false)
 else
 some ((),false)
 else
 some ((),false)
else none
def e4 (fu:Nat):Ent := ⟨4,.nil,.nil,(.hole .bool),p4 fu⟩
theorem g4 (fu:Nat):(e4 fu).Good Try.prog := good_fx orders Try.func4 fu [(1,(.ty (.int .i64))),(2,(.ent (e5 fu))),(12,(.ent (e10 fu)))] [] rs4 61 (l := [e5 fu,e10 fu]) ⟨g5 fu,g10 fu,trivial⟩
end Go.Proofs.Ytnhniiannbimgaa
