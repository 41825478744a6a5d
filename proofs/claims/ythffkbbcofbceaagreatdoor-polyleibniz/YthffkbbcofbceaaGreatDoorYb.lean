/- Contracts of math/bits.TrailingZeros32, nat's Bits, Zeros. -/
import Derived.Shelf.Strings.Builder1
import Derived.Shelf.Strings.Builder2
import Derived.Shelf.Small.Bits
import Derived.Shelf.Small.Wraps
import Derived.Shelf.Strings.BuilderF
import Derived.Shelf.Strconv.Itoa0
import Derived.Shelf.Strconv.Itoa1
import Derived.Shelf.LaysM
import Derived.Shelf.Strconv.Itoa2
import Derived.Shelf.Strconv.Itoa3
import Derived.Shelf.Strings.Search1
import Derived.Shelf.Strings.Search2
import Derived.Shelf.Strings.Cut
import Derived.Shelf.Strings.Shaped
import Derived.Shelf.Strconv.AppendUint10
import Derived.Shelf.Strings.Prefix
import Derived.Shelf.Bits.Mul64
import Derived.Shelf.Strings.Repeat
import Derived.Ground.SlgnProg
import Derived.Shelf.SlicesE.Clone
import Derived.Test.YthffkbbcofbceaaGreatDoorProg
import Derived.Test.YthffkbbcofbceaaGreatDoorYa
import Derived.Shelf.Spec.TrailingZeros
import Derived.Test.YthffkbbcofbceaaGreatDoorCards
import Derived.Test.YthffkbbcofbceaaGreatDoorTie
import Derived.ProofKit
import Derived.OpenShut
import Derived.Deep.DeepHandedRow
import Derived.Lib.LaidTab
import Derived.Deep.RegionHeld3
namespace Go.Proofs
open Go.Shelf
def Tryz.lays128_ren:Go.Shelf.Ren:=⟨fun | 128=>161 | n=>n,fun | 51=>202 | 3=>3 | 4=>4 | 46=>171 | 5=>5 | 9=>9 | n=>n,fun | n=>n⟩
theorem Tryz.lays128:Go.Proofs.Lays.n128 Tryz.prog Tryz.lays128_ren:={
  mixed:=by kernel_rfl
  f128:=Tryz.func161.trans (congrArg some (by kernel_rfl))
  t3:=Tryz.underlying3
  a3:=Tryz.isAgg3
  z3:=Tryz.sizeOf3
  v3:=Tryz.zeroValue3
  t4:=Tryz.underlying4
  a4:=Tryz.isAgg4
  z4:=Tryz.sizeOf4
  v4:=Tryz.zeroValue4
  t5:=Tryz.underlying5
  a5:=Tryz.isAgg5
  z5:=Tryz.sizeOf5
  v5:=Tryz.zeroValue5
  t9:=Tryz.underlying9
  a9:=Tryz.isAgg9
  z9:=Tryz.sizeOf9
  v9:=Tryz.zeroValue9
  t46:=Tryz.underlying171
  a46:=Tryz.isAgg171
  z46:=Tryz.sizeOf171
  v46:=Tryz.zeroValue171
  t51:=Tryz.underlying202
  a51:=Tryz.isAgg202
  z51:=Tryz.sizeOf202
  v51:=Tryz.zeroValue202 }
theorem Tryz.bits_Len32 (x:Int) (w:World) (h0:0≤x) (h1:x≤4294967295) :
    Calls Tryz.prog 161 #[.int .u32 x] w fun e w'=>e=.returned (.int .i64 (Lib.bitLen x.toNat))∧w'=w:=Any.bits_Len32 Tryz.lays128 x w h0 h1
def Tryz.lays125_ren:Go.Shelf.Ren:=⟨fun | 125=>119 | 128=>161 | 129=>162 | n=>n,fun | 46=>171 | 3=>3 | 51=>202 | 53=>164 | 4=>4 | 5=>5 | 9=>9 | n=>n,fun | n=>n⟩
theorem Tryz.lays125:Go.Proofs.Lays.n125 Tryz.prog Tryz.lays125_ren:={
  mixed:=by kernel_rfl
  f125:=Tryz.func119.trans (congrArg some (by kernel_rfl))
  f128:=Tryz.func161.trans (congrArg some (by kernel_rfl))
  f129:=Tryz.func162.trans (congrArg some (by kernel_rfl))
  t3:=Tryz.underlying3
  a3:=Tryz.isAgg3
  z3:=Tryz.sizeOf3
  v3:=Tryz.zeroValue3
  t4:=Tryz.underlying4
  a4:=Tryz.isAgg4
  z4:=Tryz.sizeOf4
  v4:=Tryz.zeroValue4
  t5:=Tryz.underlying5
  a5:=Tryz.isAgg5
  z5:=Tryz.sizeOf5
  v5:=Tryz.zeroValue5
  t9:=Tryz.underlying9
  a9:=Tryz.isAgg9
  z9:=Tryz.sizeOf9
  v9:=Tryz.zeroValue9
  t46:=Tryz.underlying171
  a46:=Tryz.isAgg171
  z46:=Tryz.sizeOf171
  v46:=Tryz.zeroValue171
  t51:=Tryz.underlying202
  a51:=Tryz.isAgg202
  z51:=Tryz.sizeOf202
  v51:=Tryz.zeroValue202
  t53:=Tryz.underlying164
  a53:=Tryz.isAgg164
  z53:=Tryz.sizeOf164
  v53:=Tryz.zeroValue164 }
theorem Tryz.bits_Len (x:Int) (w:World) (h0:0≤x) (h1:x≤18446744073709551615) :
    Calls Tryz.prog 119 #[.int .u64 x] w fun e w'=>e=.returned (.int .i64 (Lib.bitLen x.toNat))∧w'=w:=Any.bits_Len Tryz.lays125 x w h0 h1
def Tryz.lays133_ren:Go.Shelf.Ren:=⟨fun | 133=>202 | 128=>161 | n=>n,fun | 51=>202 | 3=>3 | 4=>4 | 46=>171 | 5=>5 | 9=>9 | n=>n,fun | n=>n⟩
theorem Tryz.lays133:Go.Proofs.Lays.n133 Tryz.prog Tryz.lays133_ren:={
  mixed:=by kernel_rfl
  f128:=Tryz.func161.trans (congrArg some (by kernel_rfl))
  f133:=Tryz.func202.trans (congrArg some (by kernel_rfl))
  t3:=Tryz.underlying3
  a3:=Tryz.isAgg3
  z3:=Tryz.sizeOf3
  v3:=Tryz.zeroValue3
  t4:=Tryz.underlying4
  a4:=Tryz.isAgg4
  z4:=Tryz.sizeOf4
  v4:=Tryz.zeroValue4
  t5:=Tryz.underlying5
  a5:=Tryz.isAgg5
  z5:=Tryz.sizeOf5
  v5:=Tryz.zeroValue5
  t9:=Tryz.underlying9
  a9:=Tryz.isAgg9
  z9:=Tryz.sizeOf9
  v9:=Tryz.zeroValue9
  t46:=Tryz.underlying171
  a46:=Tryz.isAgg171
  z46:=Tryz.sizeOf171
  v46:=Tryz.zeroValue171
  t51:=Tryz.underlying202
  a51:=Tryz.isAgg202
  z51:=Tryz.sizeOf202
  v51:=Tryz.zeroValue202 }
theorem Tryz.bits_LeadingZeros32 (x:Int) (w:World) (h0:0≤x) (h1:x≤4294967295) :
    Calls Tryz.prog 202 #[.int .u32 x] w fun e w'=>e=.returned (.int .i64 (32 - (Lib.bitLen x.toNat:Int)))∧w'=w:=Any.bits_LeadingZeros32 Tryz.lays133 x w h0 h1
def Tryz.lays283_ren:Go.Shelf.Ren:=⟨fun | 283=>223 | n=>n,fun | 3=>3 | 9=>9 | 4=>4 | n=>n,fun | n=>n⟩
theorem Tryz.lays283:Go.Proofs.Lays.n283 Tryz.prog Tryz.lays283_ren:={
  mixed:=by kernel_rfl
  f283:=Tryz.func223.trans (congrArg some (by kernel_rfl))
  t3:=Tryz.underlying3
  a3:=Tryz.isAgg3
  z3:=Tryz.sizeOf3
  v3:=Tryz.zeroValue3
  t4:=Tryz.underlying4
  a4:=Tryz.isAgg4
  z4:=Tryz.sizeOf4
  v4:=Tryz.zeroValue4
  t9:=Tryz.underlying9
  a9:=Tryz.isAgg9
  z9:=Tryz.sizeOf9
  v9:=Tryz.zeroValue9 }
open Go.Lib in
theorem Tryz.internal_strconv_small (i:Nat) (h:i < 100) (w:World) :
    Calls Tryz.prog 223 #[.int .i64 i] w fun e w'=>e=.returned (.string ⟨(Lib.decDigits i).toArray⟩)∧w'=w:=Any.internal_strconv_small Tryz.lays283 i h w
def Tryz.laysM284_ren:Go.Shelf.Ren:=⟨fun | 284=>224 | 129=>162 | 317=>234 | 318=>235 | n=>n,fun | 53=>164 | 3=>3 | 212=>279 | 0=>0 | 4=>4 | 46=>171 | 5=>5 | 9=>9 | n=>n,fun | 17=>1 | n=>n⟩
theorem Tryz.laysM284:Go.Proofs.LaysM.n284 Tryz.prog Tryz.laysM284_ren:={
  mixed:=by kernel_rfl
  f129:=Tryz.func162.trans (congrArg some (by kernel_rfl))
  f284:=Tryz.func224.trans (congrArg some (by kernel_rfl))
  f317:=Tryz.func234.trans (congrArg some (by kernel_rfl))
  f318:=Tryz.func235.trans (congrArg some (by kernel_rfl))
  t0:=Tryz.underlying0
  a0:=Tryz.isAgg0
  z0:=Tryz.sizeOf0
  v0:=Tryz.zeroValue0
  t3:=Tryz.underlying3
  a3:=Tryz.isAgg3
  z3:=Tryz.sizeOf3
  v3:=Tryz.zeroValue3
  t4:=Tryz.underlying4
  a4:=Tryz.isAgg4
  z4:=Tryz.sizeOf4
  v4:=Tryz.zeroValue4
  t5:=Tryz.underlying5
  a5:=Tryz.isAgg5
  z5:=Tryz.sizeOf5
  v5:=Tryz.zeroValue5
  t9:=Tryz.underlying9
  a9:=Tryz.isAgg9
  z9:=Tryz.sizeOf9
  v9:=Tryz.zeroValue9
  t46:=Tryz.underlying171
  a46:=Tryz.isAgg171
  z46:=Tryz.sizeOf171
  v46:=Tryz.zeroValue171
  t53:=Tryz.underlying164
  a53:=Tryz.isAgg164
  z53:=Tryz.sizeOf164
  v53:=Tryz.zeroValue164
  t212:=Tryz.underlying279
  a212:=Tryz.isAgg279
  z212:=Tryz.sizeOf279
  v212:=Tryz.zeroValue279
  g17:=by kernel_rfl
  i0:=by kernel_rfl
  i3:=by kernel_rfl
  i4:=by kernel_rfl
  i5:=by kernel_rfl
  i9:=by kernel_rfl
  i46:=by kernel_rfl
  i53:=by kernel_rfl
  i212:=by kernel_rfl
  m17:=by kernel_rfl }
open Go.Lib in
theorem Tryz.internal_strconv_numDigits (u:Nat) (h1:1≤u) (h2:u < 18446744073709551616) (w:World) (htab:Lib.TabIs Tryz.prog w "internal/strconv.uint64pow10" .u64 Lib.pow10Tab) :
    Calls Tryz.prog 224 #[.int .u64 u] w fun e w'=>e=.returned (.int .i64 (Lib.nDigits u))∧w'=w:=Any.internal_strconv_numDigits Tryz.laysM284 u h1 h2 w htab
def Tryz.lays285_ren:Go.Shelf.Ren:=⟨fun | 285=>225 | n=>n,fun | 37=>147 | 53=>164 | 3=>3 | 4=>4 | 51=>202 | 9=>9 | 5=>5 | 0=>0 | n=>n,fun | n=>n⟩
theorem Tryz.lays285:Go.Proofs.Lays.n285 Tryz.prog Tryz.lays285_ren:={
  mixed:=by kernel_rfl
  f285:=Tryz.func225.trans (congrArg some (by kernel_rfl))
  t0:=Tryz.underlying0
  a0:=Tryz.isAgg0
  z0:=Tryz.sizeOf0
  v0:=Tryz.zeroValue0
  t3:=Tryz.underlying3
  a3:=Tryz.isAgg3
  z3:=Tryz.sizeOf3
  v3:=Tryz.zeroValue3
  t4:=Tryz.underlying4
  a4:=Tryz.isAgg4
  z4:=Tryz.sizeOf4
  v4:=Tryz.zeroValue4
  t5:=Tryz.underlying5
  a5:=Tryz.isAgg5
  z5:=Tryz.sizeOf5
  v5:=Tryz.zeroValue5
  t9:=Tryz.underlying9
  a9:=Tryz.isAgg9
  z9:=Tryz.sizeOf9
  v9:=Tryz.zeroValue9
  t37:=Tryz.underlying147
  a37:=Tryz.isAgg147
  z37:=Tryz.sizeOf147
  v37:=Tryz.zeroValue147
  t51:=Tryz.underlying202
  a51:=Tryz.isAgg202
  z51:=Tryz.sizeOf202
  v51:=Tryz.zeroValue202
  t53:=Tryz.underlying164
  a53:=Tryz.isAgg164
  z53:=Tryz.sizeOf164
  v53:=Tryz.zeroValue164 }
open Go.RowKit Go.Sort Go.Lib in
theorem Tryz.internal_strconv_formatBase10 (blk off cap:Nat) (u:Nat) (d:Array UInt8) (w:World) (hH:Holds (fun (b:UInt8)=>Value.int .u8 (b.toNat:Int)) w blk off d) (hu:u < 10 ^ d.size) (hu64:u < 18446744073709551616) (hsz:d.size < 4611686018427387904) :
    Calls Tryz.prog 225 #[.slice (some ⟨blk,off,none⟩) d.size cap,.int .u64 u] w fun e w'=>
      e=.returned (.tuple #[])∧∃ (n v':Nat) (dk:Array UInt8),w'=(putRow (fun (b:UInt8)=>Value.int .u8 (b.toNat:Int)) w blk off dk).drewN n∧FmtInv d.size u 0 v' dk:=Any.internal_strconv_formatBase10 Tryz.lays285 blk off cap u d w hH hu hu64 hsz
def Tryz.laysM171_ren:Go.Shelf.Ren:=⟨fun | 171=>219 | 243=>227 | 246=>238 | 283=>223 | 284=>224 | 285=>225 | 286=>226 | 129=>162 | 317=>234 | 318=>235 | 319=>236 | 320=>237 | 337=>243 | 338=>244 | n=>n,fun | 3=>3 | 9=>9 | 2=>2 | 4=>4 | 171=>265 | 0=>0 | 53=>164 | 37=>147 | 5=>5 | 173=>267 | 212=>279 | 51=>202 | 20=>20 | 213=>280 | 46=>171 | 232=>289 | 233=>290 | n=>n,fun | 17=>1 | 18=>2 | 19=>3 | n=>n⟩
theorem Tryz.laysM171:Go.Proofs.LaysM.n171 Tryz.prog Tryz.laysM171_ren:={
  mixed:=by kernel_rfl
  f129:=Tryz.func162.trans (congrArg some (by kernel_rfl))
  f171:=Tryz.func219.trans (congrArg some (by kernel_rfl))
  f243:=Tryz.func227.trans (congrArg some (by kernel_rfl))
  f246:=Tryz.func238.trans (congrArg some (by kernel_rfl))
  f283:=Tryz.func223.trans (congrArg some (by kernel_rfl))
  f284:=Tryz.func224.trans (congrArg some (by kernel_rfl))
  f285:=Tryz.func225.trans (congrArg some (by kernel_rfl))
  f286:=Tryz.func226.trans (congrArg some (by kernel_rfl))
  f317:=Tryz.func234.trans (congrArg some (by kernel_rfl))
  f318:=Tryz.func235.trans (congrArg some (by kernel_rfl))
  f319:=Tryz.func236.trans (congrArg some (by kernel_rfl))
  f320:=Tryz.func237.trans (congrArg some (by kernel_rfl))
  f337:=Tryz.func243.trans (congrArg some (by kernel_rfl))
  f338:=Tryz.func244.trans (congrArg some (by kernel_rfl))
  t0:=Tryz.underlying0
  a0:=Tryz.isAgg0
  z0:=Tryz.sizeOf0
  v0:=Tryz.zeroValue0
  t2:=Tryz.underlying2
  a2:=Tryz.isAgg2
  z2:=Tryz.sizeOf2
  v2:=Tryz.zeroValue2
  t3:=Tryz.underlying3
  a3:=Tryz.isAgg3
  z3:=Tryz.sizeOf3
  v3:=Tryz.zeroValue3
  t4:=Tryz.underlying4
  a4:=Tryz.isAgg4
  z4:=Tryz.sizeOf4
  v4:=Tryz.zeroValue4
  t5:=Tryz.underlying5
  a5:=Tryz.isAgg5
  z5:=Tryz.sizeOf5
  v5:=Tryz.zeroValue5
  t9:=Tryz.underlying9
  a9:=Tryz.isAgg9
  z9:=Tryz.sizeOf9
  v9:=Tryz.zeroValue9
  t20:=Tryz.underlying20
  a20:=Tryz.isAgg20
  z20:=Tryz.sizeOf20
  v20:=Tryz.zeroValue20
  t37:=Tryz.underlying147
  a37:=Tryz.isAgg147
  z37:=Tryz.sizeOf147
  v37:=Tryz.zeroValue147
  t46:=Tryz.underlying171
  a46:=Tryz.isAgg171
  z46:=Tryz.sizeOf171
  v46:=Tryz.zeroValue171
  t51:=Tryz.underlying202
  a51:=Tryz.isAgg202
  z51:=Tryz.sizeOf202
  v51:=Tryz.zeroValue202
  t53:=Tryz.underlying164
  a53:=Tryz.isAgg164
  z53:=Tryz.sizeOf164
  v53:=Tryz.zeroValue164
  t171:=Tryz.underlying265
  a171:=Tryz.isAgg265
  z171:=Tryz.sizeOf265
  v171:=Tryz.zeroValue265
  t173:=Tryz.underlying267
  a173:=Tryz.isAgg267
  z173:=Tryz.sizeOf267
  v173:=Tryz.zeroValue267
  t212:=Tryz.underlying279
  a212:=Tryz.isAgg279
  z212:=Tryz.sizeOf279
  v212:=Tryz.zeroValue279
  t213:=Tryz.underlying280
  a213:=Tryz.isAgg280
  z213:=Tryz.sizeOf280
  t232:=Tryz.underlying289
  a232:=Tryz.isAgg289
  z232:=Tryz.sizeOf289
  v232:=Tryz.zeroValue289
  t233:=Tryz.underlying290
  a233:=Tryz.isAgg290
  z233:=Tryz.sizeOf290
  v233:=Tryz.zeroValue290
  g17:=by kernel_rfl
  g18:=by kernel_rfl
  g19:=by kernel_rfl
  i0:=by kernel_rfl
  i2:=by kernel_rfl
  i3:=by kernel_rfl
  i4:=by kernel_rfl
  i5:=by kernel_rfl
  i9:=by kernel_rfl
  i20:=by kernel_rfl
  i37:=by kernel_rfl
  i46:=by kernel_rfl
  i51:=by kernel_rfl
  i53:=by kernel_rfl
  i171:=by kernel_rfl
  i173:=by kernel_rfl
  i212:=by kernel_rfl
  i232:=by kernel_rfl
  i233:=by kernel_rfl
  m17:=by kernel_rfl
  m18:=by kernel_rfl
  m19:=by kernel_rfl }
open Go.RowKit Go.Sort Go.Lib in
theorem Tryz.strconv_Itoa (n:Int) (h0:-9223372036854775808≤n) (h1:n≤9223372036854775807) (w:World) (htab:Lib.TabIs Tryz.prog w "internal/strconv.uint64pow10" .u64 Lib.pow10Tab) :
    Calls Tryz.prog 219 #[.int .i64 n] w fun e w'=>e=.returned (.string ⟨(Lib.itoa n).toArray⟩)∧∃ k os,w'=grow (w.drewN k) os:=Any.strconv_Itoa Tryz.laysM171 n h0 h1 w htab
def Tryz.lays219_ren:Go.Shelf.Ren:=⟨fun | 219=>184 | 217=>211 | 225=>212 | 224=>213 | 267=>214 | 266=>221 | 314=>222 | n=>n,fun | 9=>9 | 3=>3 | 4=>4 | 5=>5 | 46=>171 | 146=>263 | 51=>202 | n=>n,fun | 1=>0 | n=>n⟩
theorem Tryz.lays219:Go.Proofs.Lays.n219 Tryz.prog Tryz.lays219_ren:={
  mixed:=by kernel_rfl
  f217:=Tryz.func211.trans (congrArg some (by kernel_rfl))
  f219:=Tryz.func184.trans (congrArg some (by kernel_rfl))
  f224:=Tryz.func213.trans (congrArg some (by kernel_rfl))
  f225:=Tryz.func212.trans (congrArg some (by kernel_rfl))
  f266:=Tryz.func221.trans (congrArg some (by kernel_rfl))
  f267:=Tryz.func214.trans (congrArg some (by kernel_rfl))
  f314:=Tryz.func222.trans (congrArg some (by kernel_rfl))
  t3:=Tryz.underlying3
  a3:=Tryz.isAgg3
  z3:=Tryz.sizeOf3
  v3:=Tryz.zeroValue3
  t4:=Tryz.underlying4
  a4:=Tryz.isAgg4
  z4:=Tryz.sizeOf4
  v4:=Tryz.zeroValue4
  t5:=Tryz.underlying5
  a5:=Tryz.isAgg5
  z5:=Tryz.sizeOf5
  v5:=Tryz.zeroValue5
  t9:=Tryz.underlying9
  a9:=Tryz.isAgg9
  z9:=Tryz.sizeOf9
  v9:=Tryz.zeroValue9
  t46:=Tryz.underlying171
  a46:=Tryz.isAgg171
  z46:=Tryz.sizeOf171
  v46:=Tryz.zeroValue171
  t51:=Tryz.underlying202
  a51:=Tryz.isAgg202
  z51:=Tryz.sizeOf202
  v51:=Tryz.zeroValue202
  t146:=Tryz.underlying263
  a146:=Tryz.isAgg263
  z146:=Tryz.sizeOf263
  v146:=Tryz.zeroValue263
  g1:=by kernel_rfl }
open Go.RowKit Go.Lib in
theorem Tryz.stringslite_Index_one (s:ByteArray) (c:UInt8) (w:World) :
    Calls Tryz.prog 184 #[.string s,.string ⟨#[c]⟩] w fun e w'=>e=.returned (.int .i64 (Lib.indexByte s.data.toList c))∧w'=w:=Any.stringslite_Index_one Tryz.lays219 s c w
def Tryz.laysM288_ren:Go.Shelf.Ren:=⟨fun | 288=>218 | 283=>223 | 284=>224 | 285=>225 | 286=>226 | 129=>162 | 317=>234 | 318=>235 | 319=>236 | 320=>237 | 337=>243 | 338=>244 | n=>n,fun | 37=>147 | 53=>164 | 3=>3 | 4=>4 | 9=>9 | 171=>265 | 0=>0 | 173=>267 | 212=>279 | 51=>202 | 5=>5 | 20=>20 | 213=>280 | 46=>171 | 232=>289 | 233=>290 | n=>n,fun | 17=>1 | 18=>2 | 19=>3 | n=>n⟩
theorem Tryz.laysM288:Go.Proofs.LaysM.n288 Tryz.prog Tryz.laysM288_ren:={
  mixed:=by kernel_rfl
  f129:=Tryz.func162.trans (congrArg some (by kernel_rfl))
  f283:=Tryz.func223.trans (congrArg some (by kernel_rfl))
  f284:=Tryz.func224.trans (congrArg some (by kernel_rfl))
  f285:=Tryz.func225.trans (congrArg some (by kernel_rfl))
  f286:=Tryz.func226.trans (congrArg some (by kernel_rfl))
  f288:=Tryz.func218.trans (congrArg some (by kernel_rfl))
  f317:=Tryz.func234.trans (congrArg some (by kernel_rfl))
  f318:=Tryz.func235.trans (congrArg some (by kernel_rfl))
  f319:=Tryz.func236.trans (congrArg some (by kernel_rfl))
  f320:=Tryz.func237.trans (congrArg some (by kernel_rfl))
  f337:=Tryz.func243.trans (congrArg some (by kernel_rfl))
  f338:=Tryz.func244.trans (congrArg some (by kernel_rfl))
  t0:=Tryz.underlying0
  a0:=Tryz.isAgg0
  z0:=Tryz.sizeOf0
  v0:=Tryz.zeroValue0
  t3:=Tryz.underlying3
  a3:=Tryz.isAgg3
  z3:=Tryz.sizeOf3
  v3:=Tryz.zeroValue3
  t4:=Tryz.underlying4
  a4:=Tryz.isAgg4
  z4:=Tryz.sizeOf4
  v4:=Tryz.zeroValue4
  t5:=Tryz.underlying5
  a5:=Tryz.isAgg5
  z5:=Tryz.sizeOf5
  v5:=Tryz.zeroValue5
  t9:=Tryz.underlying9
  a9:=Tryz.isAgg9
  z9:=Tryz.sizeOf9
  v9:=Tryz.zeroValue9
  t20:=Tryz.underlying20
  a20:=Tryz.isAgg20
  z20:=Tryz.sizeOf20
  v20:=Tryz.zeroValue20
  t37:=Tryz.underlying147
  a37:=Tryz.isAgg147
  z37:=Tryz.sizeOf147
  v37:=Tryz.zeroValue147
  t46:=Tryz.underlying171
  a46:=Tryz.isAgg171
  z46:=Tryz.sizeOf171
  v46:=Tryz.zeroValue171
  t51:=Tryz.underlying202
  a51:=Tryz.isAgg202
  z51:=Tryz.sizeOf202
  v51:=Tryz.zeroValue202
  t53:=Tryz.underlying164
  a53:=Tryz.isAgg164
  z53:=Tryz.sizeOf164
  v53:=Tryz.zeroValue164
  t171:=Tryz.underlying265
  a171:=Tryz.isAgg265
  z171:=Tryz.sizeOf265
  v171:=Tryz.zeroValue265
  t173:=Tryz.underlying267
  a173:=Tryz.isAgg267
  z173:=Tryz.sizeOf267
  v173:=Tryz.zeroValue267
  t212:=Tryz.underlying279
  a212:=Tryz.isAgg279
  z212:=Tryz.sizeOf279
  v212:=Tryz.zeroValue279
  t213:=Tryz.underlying280
  a213:=Tryz.isAgg280
  z213:=Tryz.sizeOf280
  t232:=Tryz.underlying289
  a232:=Tryz.isAgg289
  z232:=Tryz.sizeOf289
  v232:=Tryz.zeroValue289
  t233:=Tryz.underlying290
  a233:=Tryz.isAgg290
  z233:=Tryz.sizeOf290
  v233:=Tryz.zeroValue290
  g17:=by kernel_rfl
  g18:=by kernel_rfl
  g19:=by kernel_rfl
  i0:=by kernel_rfl
  i3:=by kernel_rfl
  i4:=by kernel_rfl
  i5:=by kernel_rfl
  i9:=by kernel_rfl
  i20:=by kernel_rfl
  i37:=by kernel_rfl
  i46:=by kernel_rfl
  i51:=by kernel_rfl
  i53:=by kernel_rfl
  i171:=by kernel_rfl
  i173:=by kernel_rfl
  i212:=by kernel_rfl
  i232:=by kernel_rfl
  i233:=by kernel_rfl
  m17:=by kernel_rfl
  m18:=by kernel_rfl
  m19:=by kernel_rfl }
open Go.RowKit Go.Sort Go.Lib in
theorem Tryz.internal_strconv_AppendUint_10_small (B n u:Nat) (hu:u < 100) (sv:Value) (xs:List Value) (w:World) (hown:w.ownsRow B 5 1 sv n xs) (hBw:B≤w.heap.size) (hlim:n+20≤140737488355328) :
    Calls Tryz.prog 218 #[sv,.int .u64 u,.int .i64 10] w fun e w'=>∃ v',e=.returned v'∧w'.ownsRow B 5 1 v' (n+(Lib.decDigits u).length) (xs++Lib.byteCells (Lib.decDigits u))∧Below B w w'∧Lib.OthersKept 5 none w w':=Any.internal_strconv_AppendUint_10_small Tryz.laysM288 B n u hu sv xs w hown hBw hlim
open Go.RowKit Go.Sort Go.Lib in
theorem Tryz.internal_strconv_AppendUint_10_big (B n u:Nat) (hu:100≤u) (hu64:u < 18446744073709551616) (sv:Value) (xs:List Value) (w:World) (hown:w.ownsRow B 5 1 sv n xs) (hBw:B≤w.heap.size) (hlim:n+20≤140737488355328) (htab:Lib.TabIs Tryz.prog w "internal/strconv.uint64pow10" .u64 Lib.pow10Tab) :
    Calls Tryz.prog 218 #[sv,.int .u64 u,.int .i64 10] w fun e w'=>∃ v',e=.returned v'∧w'.ownsRow B 5 1 v' (n+(Lib.decDigits u).length) (xs++Lib.byteCells (Lib.decDigits u))∧Below B w w'∧Lib.OthersKept 5 none w w':=Any.internal_strconv_AppendUint_10_big Tryz.laysM288 B n u hu hu64 sv xs w hown hBw hlim htab
def Tryz.lays206_ren:Go.Shelf.Ren:=⟨fun | 206=>215 | n=>n,fun | 9=>9 | 4=>4 | 3=>3 | n=>n,fun | n=>n⟩
theorem Tryz.lays206:Go.Proofs.Lays.n206 Tryz.prog Tryz.lays206_ren:={
  mixed:=by kernel_rfl
  f206:=Tryz.func215.trans (congrArg some (by kernel_rfl))
  t3:=Tryz.underlying3
  a3:=Tryz.isAgg3
  z3:=Tryz.sizeOf3
  v3:=Tryz.zeroValue3
  t4:=Tryz.underlying4
  a4:=Tryz.isAgg4
  z4:=Tryz.sizeOf4
  v4:=Tryz.zeroValue4
  t9:=Tryz.underlying9
  a9:=Tryz.isAgg9
  z9:=Tryz.sizeOf9
  v9:=Tryz.zeroValue9 }
open Go.RowKit Go.Lib in
theorem Tryz.stringslite_HasPrefix (s p:ByteArray) (w:World) :
    Calls Tryz.prog 215 #[.string s,.string p] w fun e w'=>e=.returned (.bool (Lib.hasPrefix s.data.toList p.data.toList))∧w'=w:=Any.stringslite_HasPrefix Tryz.lays206 s p w
def Tryz.lays105_ren:Go.Shelf.Ren:=⟨fun | 105=>220 | 212=>228 | 99=>229 | 165=>230 | 166=>231 | 170=>232 | 169=>233 | 263=>239 | 264=>240 | 206=>215 | 240=>241 | 241=>242 | 276=>245 | 277=>246 | n=>n,fun | 9=>9 | 3=>3 | 4=>4 | 20=>20 | 0=>0 | 46=>171 | 109=>269 | 5=>5 | 72=>273 | 76=>277 | 51=>202 | 146=>263 | 53=>164 | 148=>283 | 70=>271 | 37=>147 | 75=>276 | 127=>285 | 164=>286 | 80=>138 | n=>n,fun | n=>n⟩
theorem Tryz.lays105:Go.Proofs.Lays.n105 Tryz.prog Tryz.lays105_ren:={
  mixed:=by kernel_rfl
  f99:=Tryz.func229.trans (congrArg some (by kernel_rfl))
  f105:=Tryz.func220.trans (congrArg some (by kernel_rfl))
  f165:=Tryz.func230.trans (congrArg some (by kernel_rfl))
  f166:=Tryz.func231.trans (congrArg some (by kernel_rfl))
  f169:=Tryz.func233.trans (congrArg some (by kernel_rfl))
  f170:=Tryz.func232.trans (congrArg some (by kernel_rfl))
  f206:=Tryz.func215.trans (congrArg some (by kernel_rfl))
  f212:=Tryz.func228.trans (congrArg some (by kernel_rfl))
  f240:=Tryz.func241.trans (congrArg some (by kernel_rfl))
  f241:=Tryz.func242.trans (congrArg some (by kernel_rfl))
  f263:=Tryz.func239.trans (congrArg some (by kernel_rfl))
  f264:=Tryz.func240.trans (congrArg some (by kernel_rfl))
  f276:=Tryz.func245.trans (congrArg some (by kernel_rfl))
  f277:=Tryz.func246.trans (congrArg some (by kernel_rfl))
  t0:=Tryz.underlying0
  a0:=Tryz.isAgg0
  z0:=Tryz.sizeOf0
  v0:=Tryz.zeroValue0
  t3:=Tryz.underlying3
  a3:=Tryz.isAgg3
  z3:=Tryz.sizeOf3
  v3:=Tryz.zeroValue3
  t4:=Tryz.underlying4
  a4:=Tryz.isAgg4
  z4:=Tryz.sizeOf4
  v4:=Tryz.zeroValue4
  t5:=Tryz.underlying5
  a5:=Tryz.isAgg5
  z5:=Tryz.sizeOf5
  v5:=Tryz.zeroValue5
  t9:=Tryz.underlying9
  a9:=Tryz.isAgg9
  z9:=Tryz.sizeOf9
  v9:=Tryz.zeroValue9
  t20:=Tryz.underlying20
  a20:=Tryz.isAgg20
  z20:=Tryz.sizeOf20
  v20:=Tryz.zeroValue20
  t37:=Tryz.underlying147
  a37:=Tryz.isAgg147
  z37:=Tryz.sizeOf147
  v37:=Tryz.zeroValue147
  t46:=Tryz.underlying171
  a46:=Tryz.isAgg171
  z46:=Tryz.sizeOf171
  v46:=Tryz.zeroValue171
  t51:=Tryz.underlying202
  a51:=Tryz.isAgg202
  z51:=Tryz.sizeOf202
  v51:=Tryz.zeroValue202
  t53:=Tryz.underlying164
  a53:=Tryz.isAgg164
  z53:=Tryz.sizeOf164
  v53:=Tryz.zeroValue164
  t70:=Tryz.underlying271
  a70:=Tryz.isAgg271
  z70:=Tryz.sizeOf271
  v70:=Tryz.zeroValue271
  t72:=Tryz.underlying273
  a72:=Tryz.isAgg273
  z72:=Tryz.sizeOf273
  v72:=Tryz.zeroValue273
  t75:=Tryz.underlying276
  a75:=Tryz.isAgg276
  z75:=Tryz.sizeOf276
  v75:=Tryz.zeroValue276
  t76:=Tryz.underlying277
  a76:=Tryz.isAgg277
  z76:=Tryz.sizeOf277
  v76:=Tryz.zeroValue277
  t109:=Tryz.underlying269
  a109:=Tryz.isAgg269
  z109:=Tryz.sizeOf269
  v109:=Tryz.zeroValue269
  t127:=Tryz.underlying285
  a127:=Tryz.isAgg285
  z127:=Tryz.sizeOf285
  v127:=Tryz.zeroValue285
  t146:=Tryz.underlying263
  a146:=Tryz.isAgg263
  z146:=Tryz.sizeOf263
  v146:=Tryz.zeroValue263
  t148:=Tryz.underlying283
  a148:=Tryz.isAgg283
  z148:=Tryz.sizeOf283
  v148:=Tryz.zeroValue283
  t164:=Tryz.underlying286
  a164:=Tryz.isAgg286
  z164:=Tryz.sizeOf286
  v164:=Tryz.zeroValue286 }
theorem Tryz.Builder_Extra_105:Builder.Extra Tryz.prog Tryz.lays105_ren:={
  sizeBuilder:=by kernel_rfl
  liesBuilder:=by kernel_rfl
  t5:=Tryz.underlying5
  a5:=Tryz.isAgg5
  z5:=Tryz.sizeOf5
  v5:=Tryz.zeroValue5
  infoByte:=by kernel_rfl
  cellsByte:=by kernel_rfl
  sizeByte:=by kernel_rfl
  neB5:=by decide }
open Go.RowKit Go.Lib in
theorem Tryz.strings_Repeat (s:ByteArray) (c:Nat) (w:World) (hc:c≤9223372036854775807) (hlen:s.size * c≤140737488355328) :
    Calls Tryz.prog 220 #[.string s,.int .i64 c] w fun e w'=>e=.returned (.string ⟨(Lib.repeatL s.data.toList c).toArray⟩)∧Below w.heap.size w w':=Any.strings_Repeat Tryz.lays105 Tryz.Builder_Extra_105 s c w hc hlen
end Go.Proofs

namespace Go.Proofs.YthffkbbcofbceaaGreatDoor
open Go.RowKit Cin
structure Tabs (w:World):Prop where
  b32:Lib.TabIs Tryz.prog w "math/bits.deBruijn32tab" .u8 (Lib.deBruijn32tab.map Int.ofNat)
structure TabsP (w:World):Prop extends Tabs w where
  p10:Lib.TabIs Tryz.prog w "internal/strconv.uint64pow10" .u64 Lib.pow10Tab
instance {w:World}:Coe (TabsP w) (Tabs w):=⟨TabsP.toTabs⟩
theorem glob32:Tryz.prog.globalNamed "math/bits.deBruijn32tab"=some 2:=by kernel_rfl
theorem tab_below {P:Program} {w w':World} {n:String} {k:IntKind} {zs:List Int} (h:Lib.TabIs P w n k zs) (hb:Below w.heap.size w w'):Lib.TabIs P w' n k zs:=by
  unfold Lib.TabIs at *
  cases hg:P.globalNamed n with
  | none=>unfold World.var? at h; rw [hg] at h; cases h
  | some g=>
    refine var?_below hb hg ?_ h
    unfold World.var? at h
    rw [hg] at h
    rcases Nat.lt_or_ge g w.heap.size with hl | hl
    · exact hl
    · simp [Array.getElem?_eq_none hl] at h
theorem Tabs.below {w w':World} (h:Tabs w) (hb:Below w.heap.size w w'):Tabs w':=⟨tab_below h.b32 hb⟩
theorem TabsP.below {w w':World} (h:TabsP w) (hb:Below w.heap.size w w'):TabsP w':=⟨h.toTabs.below hb,tab_below h.p10 hb⟩
theorem isBl_aux:∀ (f x:Nat),x < 2 ^ f→IsBl x (Lib.bitLenAux f x)
  | 0,x,h=>by
    have:x=0:=by simpa using h
    subst this; exact IsBl.zero
  | f+1,x,h=>by
    unfold Lib.bitLenAux
    split
    · rename_i h0; subst h0; exact IsBl.zero
    · rename_i h0
      have ih:=isBl_aux f (x / 2) (by rw [Nat.pow_succ] at h; omega)
      have h1:=ih.1
      refine ⟨by rw [Nat.add_comm,Nat.pow_succ]; omega,.inr ?_⟩
      rw [Nat.add_sub_cancel_left]
      rcases ih.2 with h2 | h2
      · rw [h2]; simp; omega
      · rcases Nat.eq_zero_or_pos (Lib.bitLenAux f (x / 2)) with e | e
        · rw [e]; simp; omega
        · obtain ⟨q,hq⟩:∃ q,Lib.bitLenAux f (x / 2)=q+1:=⟨_,(Nat.sub_add_cancel e).symm⟩
          rw [hq] at h2 ⊢
          rw [Nat.add_sub_cancel] at h2
          rw [Nat.pow_succ]; omega
theorem isBl_len (x:Nat) (h:x < 4294967296):IsBl x (Lib.bitLen x):=isBl_aux 64 x (by omega)
theorem bitLen_le (x:Nat) (h:x < 4294967296):Lib.bitLen x≤32:=by
  rcases (isBl_len x h).2 with e | e
  · omega
  · rcases Nat.lt_or_ge 32 (Lib.bitLen x) with hl | hl
    · have:=Nat.pow_le_pow_right (n:=2) (by decide) (show 32≤Lib.bitLen x - 1 by omega)
      omega
    · exact hl
set_option maxHeartbeats 400000 in
theorem bits_any (v:Value) (x L:Nat) (w:World) (h:NatV 202 w v x) (hx:x < pw L) (hL:L≤100000000) :
    Calls Tryz.prog 189 #[v] w fun e w'=>∃ k:Nat,e=.returned (.int .i64 k)∧IsBl x k∧Below w.heap.size w w':=by
  obtain ⟨ad,len,cap,rfl,xs,hs,ho,hnm,rfl⟩:=h.shape
  have hlx:=hs.len
  have hl:len≤100000000:=by have:=norm_len hnm hx; omega
  clear hx h
  rcases Nat.eq_zero_or_pos len with h0 | h0
  · subst h0
    have:xs=[]:=List.length_eq_zero_iff.1 hlx
    subst this
    clear hs hlx hnm ho
    go_enter Tryz.func189,Tryz.ntmps189
    go_wp2
    go_ret
    exact ⟨0,rfl,IsBl.zero,bel_alloc _ _⟩
  · obtain ⟨n,rfl⟩:∃ n,len=n+1:=⟨len - 1,by omega⟩
    obtain ⟨b,off,rfl,hcell,hblt⟩:=hs.cell (i:=n) (by omega)
    have hlim:=lim_lt ho n
    have hne:xs≠[]:=by intro e; subst e; simp at hlx
    have htop:=bl_top (c:=Lib.bitLen (lim xs n)) hne ho (by rw [hlx,Nat.add_sub_cancel]; exact isBl_len _ hlim) (by rcases hnm with e | e; exact absurd e hne; exact e)
    rw [hlx,Nat.add_sub_cancel] at htop
    have HT:=Lib.hid htop
    have hbl:=bitLen_le _ hlim
    have heq:((n:Int)+1 == 0)=false:=by simp; omega
    generalize hbb:Lib.bitLen (lim xs n)=c at *
    have HBB:=Lib.hid hbb
    have HLX:=Lib.hid hlx
    clear htop hbb hs hlx hnm ho hne
    go_enter Tryz.func189,Tryz.ntmps189
    go_wp2_with (go_at_call 161; refine (Tryz.bits_Len32 _ _ (by omega) (by omega)).mono ?_; rintro e w' ⟨rfl,rfl⟩; rw [Int.toNat_natCast,HBB.out])
    go_ret
    exact ⟨32 * n+c,ret_int (by omega),HT.out,bel_alloc _ _⟩
end Go.Proofs.YthffkbbcofbceaaGreatDoor

namespace Go.Proofs.YthffkbbcofbceaaGreatDoor
open Go.ChangeShapes Go.WideShapes Go.ChangeAt Go.RowKit
theorem own:ownKnob Tryz.prog.godebug=none:=by kernel_rfl
theorem laidMet_tail {P:Program} {x:String × DataW Unit} {rest:List (String × DataW Unit)} {W:World} (h:laidMet P (x::rest) W):laidMet P rest W:=by
  obtain ⟨ps,⟨g',t',cs,fuel,p,q,hg',ht',hvar,hd,hq,rfl⟩,hnd,hall⟩:=h
  exact ⟨q,hq,(List.nodup_append.1 hnd).2.1,fun b off hm=>hall b off (List.mem_append_right _ hm)⟩
def laidAll:List (String × DataW Unit):=[("math/bits.deBruijn32tab",Rows.laid_math_bits_deBruijn32tab),("math/bits.deBruijn64tab",Rows.laid_math_bits_deBruijn64tab),("internal/strconv.uint64pow10",Rows.laid_internal_strconv_uint64pow10)]
theorem tabs_of {W:World} (h:laidMetH Tryz.prog laidAll W):TabsP W:=by
  have h0:laidMet Tryz.prog laidAll W:=h
  refine ⟨⟨?_⟩,?_⟩
  · exact Lib.tabIs_of_head (t:=289) (e:=5) (n:=32) glob32 (by kernel_rfl) Tryz.underlying289 Tryz.underlying5 (by kernel_rfl) (by kernel_rfl) h0
  · exact Lib.tabIs_of_head (g:=1) (t:=279) (e:=164) (n:=20) (by kernel_rfl) (by kernel_rfl) Tryz.underlying279 Tryz.underlying164 (by kernel_rfl) (by kernel_rfl) (laidMet_tail (laidMet_tail h0))
def relaid (vs:Array Value):Obj→Obj
  | .cells _ t frozen=>.cells vs t frozen
  | o=>o
noncomputable def laidWorld (os:Os):World:=
  { World.holding Tryz.prog os ⟨#[],#[],[]⟩ with heap:=(((World.holding Tryz.prog os ⟨#[],#[],[]⟩).heap.modify 2 (relaid (Lib.deBruijn32tab.map fun (x:Nat)=>Value.int .u8 (x:Int)).toArray)).modify 3
      (relaid (Lib.deBruijn64tab.map fun (x:Nat)=>Value.int .u8 (x:Int)).toArray)).modify 1 (relaid (Lib.pow10Tab.map fun x=>Value.int .u64 x).toArray) }
end Go.Proofs.YthffkbbcofbceaaGreatDoor

namespace Cin
open Go Go.RowKit
def schedOk (md:Region.Mode) (ops:Array Oper):List (Nat × Bool)→Array Bool→Bool
  | [],listed=>(Region.ready md ops listed).isEmpty
  | (i,true)::r,listed=>Region.free md ops listed i && (Region.ready md ops listed).contains i && schedOk md ops r (listed.setIfInBounds i true)
  | (i,false)::r,listed=>(Region.ready md ops listed == [i]) && schedOk md ops r (listed.setIfInBounds i true)
section
variable {P:Program} {ops:Array Oper} {Q:Exit→Act→World→Prop} {md:Region.Mode} {S:World→Prop}
def wpSched (P:Program) (ops:Array Oper) (Q:Exit→Act→World→Prop) (S:World→Prop):List (Nat × Bool)→Act→World→Prop
  | [],a,w=>Q .normal a w
  | (i,true)::r,a,w=>∃ o v,ops[i]?=some o∧YieldsIf P ops S o v a∧wpSched P ops Q S r (a.put o.dst v) w
  | (i,false)::r,a,w=>wpOp P ops Q i (fun a' w'=>S w'∧wpSched P ops Q S r a' w') a w
theorem wpAnyH_of_sched (hs:Region.noSelect ops=true) (hQ:∀ c a d v w,Q (.panic c) (Act.put a d v) w→Q (.panic c) a w) :
    ∀ (l:List (Nat × Bool)) (fuel:Nat) (listed:Array Bool) (a:Act) (w:World),l.length≤fuel→schedOk md ops l listed=true→S w→wpSched P ops Q S l a w→wpAnyH P md ops Q S fuel listed a w
  | [],fuel,listed,a,w,_,hc,_,h=>wpAnyH_done (by simpa [schedOk] using hc) h fuel
  | (i,true)::r,0,_,_,_,hl,_,_,_=>by simp at hl
  | (i,false)::r,0,_,_,_,hl,_,_,_=>by simp at hl
  | (i,true)::r,fuel+1,listed,a,w,hl,hc,hS,h=>by
    simp only [schedOk,Bool.and_eq_true] at hc
    obtain ⟨⟨hf,hr⟩,hc⟩:=hc
    obtain ⟨o,v,ho,hy,h⟩:=h
    exact wpAnyH_take ho hs hf hr (fun c a w=>hQ c a _ _ w) hy hS (wpAnyH_of_sched hs hQ r fuel _ _ w (by simpa using hl) hc hS h)
  | (i,false)::r,fuel+1,listed,a,w,hl,hc,hS,h=>by
    simp only [schedOk,Bool.and_eq_true,beq_iff_eq] at hc
    obtain ⟨hr,hc⟩:=hc
    refine wpAnyH_all hr (by simp) fun j hj=>?_
    obtain rfl:=List.mem_singleton.1 hj
    exact wpOp_mono (fun a' w' ⟨hS',h'⟩=>⟨hS',wpAnyH_of_sched hs hQ r fuel _ a' w' (by simpa using hl) hc hS' h'⟩) h
theorem wp_region_sched {id:Nat} {a:Act} {w:World} (S:World→Prop) (l:List (Nat × Bool)) (hm:P.follows .mixedOrders=true)
    (hc:(Region.noSelect ops && decide (l.length≤ops.size) && schedOk .any ops l (Array.replicate ops.size false))=true) (hS:S w.drew) (h:S w.drew→wpSched P ops (NoPanic Q) S l a w.drew):(Code.region id ops true).wp P Q a w:=by
  simp only [Bool.and_eq_true,decide_eq_true_eq] at hc
  exact wp_region_noPanic (wp_region_held hm (wpAnyH_of_sched hc.1.1 (fun _ _ _ _ _ h=>h.elim) l _ _ a _ hc.1.2 hc.2 hS (h hS)))
variable {i:Nat} {b:Bool} {r:List (Nat × Bool)} {a:Act} {w:World} {o:Oper} {v:Value}
theorem wpSched_nil (h:Q .normal a w):wpSched P ops (NoPanic Q) S [] a w:=h
def wpAt (P:Program) (ops:Array Oper) (Q:Exit→Act→World→Prop) (S:World→Prop) (o:Oper) (b:Bool) (r:List (Nat × Bool)) (a:Act) (w:World):Prop:=
  ∀ i,ops[i]?=some o→wpSched P ops Q S ((i,b)::r) a w
theorem wpSched_at (ho:ops[i]?=some o) (h:wpAt P ops Q S o b r a w):wpSched P ops Q S ((i,b)::r) a w:=h i ho
theorem wpAt_take (hw:Region.wanted o (yielded ops a.tmps)=true) (hy:∀ w,S w→(execOp a.eval o).run P w=.ok (.value v) w)
    (h:wpSched P ops Q S r (a.put o.dst v) w):wpAt P ops Q S o true r a w:=fun _ ho=>⟨o,v,ho,.inl ⟨hw,hy⟩,h⟩
theorem wpAt_skip (hw:Region.wanted o (yielded ops a.tmps)=false)
    (h:wpSched P ops Q S r (a.put o.dst undef) w):wpAt P ops Q S o true r a w:=fun _ ho=>⟨o,undef,ho,.inr ⟨hw,rfl⟩,h⟩
theorem wpAt_pass (hw:Region.wanted o (yielded ops a.tmps)=false) (hS:S w)
    (h:wpSched P ops Q S r (a.put o.dst undef) w):wpAt P ops Q S o false r a w:=fun i ho=>by
  show wpOp P ops Q i _ a w
  unfold wpOp
  simp only [ho,hw]
  exact ⟨hS,h⟩
theorem wpAt_eff (hw:Region.wanted o (yielded ops a.tmps)=true)
    (h:∀ K:Act→World→Prop,Hid (∀ a' w',S w'→(S w'→wpSched P ops Q S r a' w')→K a' w')→o.wp P a w K Q):wpAt P ops Q S o false r a w:=fun i ho=>by
  show wpOp P ops Q i _ a w
  unfold wpOp
  simp only [ho,hw,if_true]
  exact .inl (h _ (fun a' w' hS hW=>⟨hS,hW hS⟩))
end
end Cin

namespace Cin
open Go Go.RowKit
def noX (X:List Nat) (L:Array Bool):Prop:=∀ k∈X,L.getD k true=false
theorem noX_set {X:List Nat} {L:Array Bool} {i:Nat} (hi:i ∉ X):noX X (L.setIfInBounds i true)↔noX X L:=by
  constructor <;> intro h k hk <;> have hne:i≠k:=fun e=>hi (by rw [e]; exact hk)
  · have:=h k hk; rwa [getD_set_ne true hne] at this
  · rw [getD_set_ne true hne]; exact h k hk
theorem noX_sub {X:List Nat} {L:Array Bool} {i:Nat} (h:noX X (L.setIfInBounds i true)):noX X L:=by
  intro k hk
  have:=h k hk
  by_cases e:i=k
  · subst e
    rcases Nat.lt_or_ge i L.size with h' | h'
    · simp [h'] at this
    · simp at this
  · rwa [getD_set_ne true e] at this
theorem noX_not {X:List Nat} {L:Array Bool} {i:Nat} (h:noX X (L.setIfInBounds i true)):i ∉ X:=by
  intro hi
  have:=h i hi
  rcases Nat.lt_or_ge i L.size with h' | h'
  · simp [h'] at this
  · simp at this
section
variable {P:Program} {ops:Array Oper} {Q:Exit→Act→World→Prop} {md:Region.Mode} {S S0 S1:World→Prop} {X:List Nat}
def wpAnyX (P:Program) (md:Region.Mode) (ops:Array Oper) (Q:Exit→Act→World→Prop) (S0 S1:World→Prop) (X:List Nat):Nat→Array Bool→Act→World→Prop
  | 0,listed,a,w=>Region.ready md ops listed=[]∧Q .normal a w
  | fuel+1,listed,a,w=>
    (Region.ready md ops listed=[]→Q .normal a w) ∧
    ∀ i∈Region.ready md ops listed,wpOp P ops Q i (fun a' w'=>(S0 w'∧(noX X (listed.setIfInBounds i true)→S1 w'))∧wpAnyX P md ops Q S0 S1 X fuel (listed.setIfInBounds i true) a' w') a w
theorem wpAny_of_x:∀ (fuel:Nat) (listed:Array Bool) (a:Act) (w:World),wpAnyX P md ops Q S0 S1 X fuel listed a w→wpAny P md ops Q fuel listed a w
  | 0,_,_,_,h=>h
  | fuel+1,_,_,_,h=>⟨h.1,fun i hi=>wpOp_mono (fun a' w' h'=>wpAny_of_x fuel _ a' w' h'.2) (h.2 i hi)⟩
theorem wpAnyX_first {i:Nat} {oi:Oper} {v:Value} (hi:ops[i]?=some oi) (hsel:∀ (j:Nat) (o:Oper) cs b,ops[j]?=some o→o.op≠.select cs b)
    (hQ:∀ c a w,Q (.panic c) (a.put oi.dst v) w→Q (.panic c) a w) (hX:i ∉ X) (R:Array Bool→Prop)
    (hR:∀ L j,R L→i∈Region.ready md ops L→j∈Region.ready md ops L→j≠i→R (L.setIfInBounds j true)) (hS:∀ L w,R L→S0 w→(noX X L→S1 w)→S w) :
    ∀ (fuel:Nat) (listed:Array Bool) (a:Act) (w:World),
      (∀ j oj,ops[j]?=some oj→j≠i→listed.getD j true=false→(∀ e∈oj.after,Region.binds md e=true→e.on≠i)→oi.apart ops oj=true) →
      i∈Region.ready md ops listed→YieldsIf P ops S oi v a→R listed→(S0 w∧(noX X listed→S1 w)) →
      wpAnyX P md ops Q S0 S1 X fuel (listed.setIfInBounds i true) (a.put oi.dst v) w→wpAnyX P md ops Q S0 S1 X (fuel+1) listed a w:=by
  intro fuel
  induction fuel with
  | zero=>
    intro listed a w _ hr hy hRl hSw H
    refine ⟨fun h=>(by rw [h] at hr; cases hr),fun j hj=>?_⟩
    by_cases hji:j=i
    · subst hji; exact hy.wpOp hi (hS _ w hRl hSw.1 hSw.2) ⟨⟨hSw.1,fun h=>hSw.2 ((noX_set hX).1 h)⟩,H⟩
    · have:=ready_mono hj hji
      rw [H.1] at this
      cases this
  | succ fuel ih=>
    intro listed a w hfree hr hy hRl hSw H
    refine ⟨fun h=>(by rw [h] at hr; cases hr),fun j hj=>?_⟩
    by_cases hji:j=i
    · subst hji; exact hy.wpOp hi (hS _ w hRl hSw.1 hSw.2) ⟨⟨hSw.1,fun h=>hSw.2 ((noX_set hX).1 h)⟩,H⟩
    · have h1:=H.2 j (ready_mono hj hji)
      obtain ⟨hjun,oj,hoj,hall⟩:=mem_ready.1 hj
      have hnot:∀ e∈oj.after,Region.binds md e=true→e.on≠i:=fun e he hb heq=>by
        have h1:=hall e he hb
        have h0:=(mem_ready.1 hr).1
        rw [heq] at h1
        rcases Nat.lt_or_ge i listed.size with h' | h'
        · simp [h'] at h0 h1; rw [h0] at h1; cases h1
        · simp [Array.getElem?_eq_none h'] at h1
      have h2:=wpOp_putIf hoj (hfree j oj hoj hji hjun hnot) (fun cs b=>hsel i oi cs b hi) (fun cs b=>hsel j oj cs b hoj) hQ hy h1
      have hfree':∀ k ok,ops[k]?=some ok→k≠i→(listed.setIfInBounds j true).getD k true=false →
          (∀ e∈ok.after,Region.binds md e=true→e.on≠i)→oi.apart ops ok=true:=fun k ok hk hki hun hno=>by
        refine hfree k ok hk hki ?_ hno
        by_cases hjk:j=k
        · subst hjk; exact hjun
        · rw [getD_set_ne true hjk] at hun; exact hun
      refine wpOp_mono (fun a' w' h3=>?_) h2
      obtain ⟨hy',⟨h30,h31⟩,h32⟩:=h3
      rw [Array.setIfInBounds_comm _ _ (Ne.symm hji)] at h31
      have hn:S0 w'∧(noX X (listed.setIfInBounds j true)→S1 w'):=⟨h30,fun h=>h31 ((noX_set hX).2 h)⟩
      refine ⟨hn,ih (listed.setIfInBounds j true) a' w' hfree' (ready_mono hr (Ne.symm hji)) hy' (hR listed j hRl hr hj hji) hn ?_⟩
      rw [Array.setIfInBounds_comm _ _ hji]
      exact h32
theorem wpAnyX_take {i:Nat} {oi:Oper} {v:Value} {fuel:Nat} {listed:Array Bool} {a:Act} {w:World} (hi:ops[i]?=some oi)
    (hs:Region.noSelect ops=true) (hf:Region.free md ops listed i=true) (hr:i∈Region.ready md ops listed) (hX:i ∉ X)
    (hQ:∀ c a w,Q (.panic c) (a.put oi.dst v) w→Q (.panic c) a w) (hy:YieldsIf P ops S0 oi v a) (hS:S0 w∧(noX X listed→S1 w))
    (h:wpAnyX P md ops Q S0 S1 X fuel (listed.setIfInBounds i true) (a.put oi.dst v) w):wpAnyX P md ops Q S0 S1 X (fuel+1) listed a w:=
  wpAnyX_first (S:=S0) hi (Region.noSelect_spec hs) hQ hX (fun _=>True) (fun _ _ _ _ _ _=>trivial) (fun _ _ _ h _=>h) fuel listed a w (Region.free_spec hi hf) hr hy trivial hS h
def bindsOn (md:Region.Mode) (o:Oper) (p:Nat→Bool):Bool:=o.after.any fun e=>Region.binds md e && p e.on
def depsOf (md:Region.Mode) (ops:Array Oper) (i:Nat):List Nat:=
  (List.range ops.size).foldl (fun T k=>match ops[k]? with | some o=>if bindsOn md o (fun m=>m == i || T.contains m) then k::T else T | none=>T) []
def waits (md:Region.Mode) (ops:Array Oper) (listed:Array Bool) (X:List Nat) (i:Nat):Bool:=
  let T:=depsOf md ops i
  X.all T.contains && T.all (fun k=>!listed.getD k true && (match ops[k]? with | some o=>bindsOn md o (fun m=>m == i || T.contains m) | none=>false))
theorem wpAnyX_wait {i:Nat} {oi:Oper} {v:Value} {fuel:Nat} {listed:Array Bool} {a:Act} {w:World} (hi:ops[i]?=some oi)
    (hs:Region.noSelect ops=true) (hf:Region.free md ops listed i=true) (hr:i∈Region.ready md ops listed) (hX:i ∉ X) (hw:waits md ops listed X i=true)
    (hQ:∀ c a w,Q (.panic c) (a.put oi.dst v) w→Q (.panic c) a w) (hy:YieldsIf P ops (fun w=>S0 w∧S1 w) oi v a) (hS:S0 w∧(noX X listed→S1 w))
    (h:wpAnyX P md ops Q S0 S1 X fuel (listed.setIfInBounds i true) (a.put oi.dst v) w):wpAnyX P md ops Q S0 S1 X (fuel+1) listed a w:=by
  simp only [waits,Bool.and_eq_true,List.all_eq_true] at hw
  generalize depsOf md ops i=T at hw
  refine wpAnyX_first (S:=fun w=>S0 w∧S1 w) hi (Region.noSelect_spec hs) hQ hX (fun L=>∀ k∈T,L.getD k true=false) ?_ ?_ fuel listed a w (Region.free_spec hi hf) hr hy ?_ hS h
  · intro L j hL hri hrj hji k hk
    have hun:∀ m,(m == i || T.contains m)=true→L.getD m false=false:=by
      intro m hm
      have:L.getD m true=false:=by
        rcases Bool.or_eq_true .. ▸ hm with h | h
        · have:m=i:=by simpa using h
          subst this; exact (mem_ready.1 hri).1
        · exact hL m (by simpa using h)
      rcases Nat.lt_or_ge m L.size with h' | h'
      · simp [h'] at this ⊢; exact this
      · simp [Array.getElem?_eq_none h']
    by_cases e:j=k
    · subst e
      obtain ⟨_,oj,hoj,hall⟩:=mem_ready.1 hrj
      have h2:=(hw.2 j hk).2
      simp only [hoj,bindsOn,Array.any_eq_true'] at h2
      obtain ⟨e,he,h3⟩:=h2
      simp only [Bool.and_eq_true] at h3
      have h4:=hall e he h3.1
      rw [hun e.on h3.2] at h4; cases h4
    · rw [getD_set_ne true e]; exact hL k hk
  · intro L w hL h0 h1
    exact ⟨h0,h1 fun k hk=>hL k (by simpa using hw.1 k hk)⟩
  · intro k hk
    have:=(hw.2 k hk).1
    simpa using this
theorem wpAnyX_wait' {i:Nat} {oi:Oper} {v:Value} {fuel:Nat} {listed:Array Bool} {a:Act} {w:World} (hi:ops[i]?=some oi)
    (hs:Region.noSelect ops=true) (hf:Region.free md ops listed i=true) (hr:i∈Region.ready md ops listed) (hX:i ∉ X) (hw:X.isEmpty=true∨waits md ops listed X i=true)
    (hQ:∀ c a w,Q (.panic c) (a.put oi.dst v) w→Q (.panic c) a w) (hy:YieldsIf P ops (fun w=>S0 w∧S1 w) oi v a) (hS:S0 w∧(noX X listed→S1 w))
    (h:wpAnyX P md ops Q S0 S1 X fuel (listed.setIfInBounds i true) (a.put oi.dst v) w):wpAnyX P md ops Q S0 S1 X (fuel+1) listed a w:=by
  rcases hw with hw | hw
  · have hX0:X=[]:=by simpa using hw
    subst hX0
    exact wpAnyX_first (S:=fun w=>S0 w∧S1 w) hi (Region.noSelect_spec hs) hQ hX (fun _=>True) (fun _ _ _ _ _ _=>trivial) (fun _ _ _ h h'=>⟨h,h' (fun k hk=>by cases hk)⟩) fuel listed a w (Region.free_spec hi hf) hr hy trivial hS h
  · exact wpAnyX_wait hi hs hf hr hX hw hQ hy hS h
theorem wpAnyX_all {rs:List Nat} {fuel:Nat} {listed:Array Bool} {a:Act} {w:World} (hr:Region.ready md ops listed=rs) (hne:rs≠[])
    (h:∀ i∈rs,wpOp P ops Q i (fun a' w'=>(S0 w'∧(noX X (listed.setIfInBounds i true)→S1 w'))∧wpAnyX P md ops Q S0 S1 X fuel (listed.setIfInBounds i true) a' w') a w):wpAnyX P md ops Q S0 S1 X (fuel+1) listed a w:=
  ⟨fun h0=>absurd (hr ▸ h0) hne,hr ▸ h⟩
theorem wpAnyX_done {listed:Array Bool} {a:Act} {w:World} (hr:Region.ready md ops listed=[]) (h:Q .normal a w) :
    ∀ fuel,wpAnyX P md ops Q S0 S1 X fuel listed a w
  | 0=>⟨hr,h⟩
  | _+1=>⟨fun _=>h,by rw [hr]; simp⟩
theorem wp_region_x {id:Nat} {a:Act} {w:World} (hm:P.follows .mixedOrders=true)
    (h:wpAnyX P .any ops Q S0 S1 X ops.size (Array.replicate ops.size false) a { w with drawn:=w.drawn+1 }):(Code.region id ops true).wp P Q a w:=
  wp_region_any hm (wpAny_of_x _ _ _ _ h)
end
end Cin
