/-
  What bits.Len64 and bits.Len come to: the number of bits.
-/
import Derived.Test.YtdmecdjfbpblgaaGreatDoorChecked
import Derived.Lib.Strings
import Derived.Lib.Slices
import Derived.Lib.Small
import Derived.Lib.Walk
import Derived.Lib.BitFns
namespace Go.Proofs.YtdmecdjfbpblgaaGreatDoor.V
set_option maxRecDepth 100000
set_option maxHeartbeats 32000000
set_option linter.unusedVariables false
theorem zp6 (x b:Int) (k m:Nat) (hm:2 ^ k=m) (h0:0<=x) (hlo:k=0\/(m:Int)<=x) (h64:x<18446744073709551616) (hb:b=x / (m:Int)) :
 Lib.bitLen x.toNat=k+Lib.bitLen b.toNat:=by
 obtain ⟨n,rfl⟩:=Int.eq_ofNat_of_zero_le h0
 rcases hlo with rfl|h
 · obtain rfl:m=1:=by simpa using hm.symm
   rw [hb];simp
 · have e:b.toNat=n / 2 ^ k:=by rw [hb,hm,<- Int.natCast_ediv n m,Int.toNat_natCast]
   rw [e,Int.toNat_natCast];exact Lib.bitLen_shift k n (by omega) (by omega)
theorem zbf (x b:Int) (k m:Nat) (hm:2 ^ k=m) (hk:k<=56) (h0:0<=x) (hlo:k=0\/(m:Int)<=x) (h64:x<18446744073709551616)
 (hb:b=x / (m:Int)) (hb0:0<=b) (hb8:b<=255) :
 ((k:Int)+((Lib.len8 b+9223372036854775808) % 18446744073709551616 - 9223372036854775808)+9223372036854775808) % 18446744073709551616 - 9223372036854775808=(Lib.bitLen x.toNat:Int):=by
 have s:=zp6 x b k m hm h0 hlo h64 hb;have l:=Lib.bitLen_le8' b hb0 hb8;rw [Lib.len8_of b hb0 hb8,s];omega
theorem zp7 (x:Int) (w:World) (h0:0<=x) (h1:x<=18446744073709551615) :
 Calls Tryz.prog 176 #[.int .u64 x] w fun e w'=>e = .returned (.int .i64 (Lib.bitLen x.toNat))/\w=w':=by
 go_enter Tryz.func176,Tryz.ntmps176;go_wp2
 all_goals go_ret
 all_goals refine ⟨congrArg (fun n=>Ending.returned (Value.int .i64 n)) ?_,rfl⟩
 · exact zbf x _ 56 72057594037927936 (by decide) (by decide) h0 (by omega) (by omega) (by omega) (by omega) (by omega)
 · exact zbf x _ 48 281474976710656 (by decide) (by decide) h0 (by omega) (by omega) (by omega) (by omega) (by omega)
 · exact zbf x _ 40 1099511627776 (by decide) (by decide) h0 (by omega) (by omega) (by omega) (by omega) (by omega)
 · exact zbf x _ 32 4294967296 (by decide) (by decide) h0 (by omega) (by omega) (by omega) (by omega) (by omega)
 · exact zbf x _ 24 16777216 (by decide) (by decide) h0 (by omega) (by omega) (by omega) (by omega) (by omega)
 · exact zbf x _ 16 65536 (by decide) (by decide) h0 (by omega) (by omega) (by omega) (by omega) (by omega)
 · exact zbf x _ 8 256 (by decide) (by decide) h0 (by omega) (by omega) (by omega) (by omega) (by omega)
 · have h:=zbf x (x % 256) 0 1 (by decide) (by decide) h0 (by omega) (by omega) (by omega) (by omega) (by omega);omega
theorem zt0 (x:Int) (w:World) (h0:0<=x) (h1:x<=18446744073709551615) :
 Calls Tryz.prog 167 #[.int .u64 x] w fun e w'=>e = .returned (.int .i64 (Lib.bitLen x.toNat))/\w=w':=by
 go_enter Tryz.func167,Tryz.ntmps167
 go_wp2_with (go_at_call 176;refine (zp7 _ _ (by omega) (by omega)).mono ?_;rintro e w' ⟨rfl,rfl⟩)
 go_ret;exact ⟨rfl,rfl⟩
end Go.Proofs.YtdmecdjfbpblgaaGreatDoor.V
