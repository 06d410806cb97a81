/- The two commits of chapter 11's example: their bytes, their ids (each block's words and states stand here written out; the kernel holds them against the definitions), and that they are closed. No condition. | One struct read whole inside a region that draws its order, whatever its fields. No condition. | One struct read whole inside a region that draws its order, guarded or not, whatever its fields. No condition. | How a reading gives a slice of structs that came in. No condition. | How a reading gives an id, and a slice of ids, that came in. | How a reading gives an operation that came in. -/
import Derived.Test.YtechkdhehipliaaGreatDoorShaK
import Derived.Test.YtechkdhehipliaaGreatDoorCmAJ3
import Derived.Test.YtechkdhehipliaaGreatDoorRowSJ3
import Derived.Test.YtechkdhehipliaaGreatDoorEncMJ7
import Derived.ProofKit
import Derived.OpenShut
import Derived.WideShapes
import Derived.Test.YtechkdhehipliaaGreatDoorCmMJ3
import Derived.Test.YtechkdhehipliaaGreatDoorOpsKJ3
import Derived.Lib.SmallJoins
namespace Go.Proofs.YtechkdhehipliaaGreatDoor.DgJ
set_option maxRecDepth 100000
open Go RotM RotN ShaM ShaD PadM SumM ShaK Byt EncM EncC IdM IdW OpsM OpsW CmM CmW CmY CmA DgM

def o2 : Opn := ⟨0, ⟨#[97]⟩, ⟨#[]⟩, 2⟩
def c2 (I : Idn) : Com := ⟨0, 2, 2, [I], o2⟩
theorem op2 : putL o2 = [0, 1, 97, 4] := by
  unfold putL tailL
  rw [show bytesL o2.key = [97] by kernel_rfl, CmA.text1, show o2.kind.toNat = 0 from rfl, if_pos (show o2.kind = 0 from rfl), show (foldI o2.n).toNat = 4 by kernel_rfl, numL_one (by omega), numL_one (by omega)]
  rfl
theorem put2 (I : Idn) : putK (c2 I) = [0, 2, 2, 1] ++ (I.val ++ [0, 1, 97, 4]) := by
  unfold putK headL opL
  rw [show (c2 I).node = 0 from rfl, if_neg (show ¬ (0 : Int) = -1 by decide), show (c2 I).op = o2 from rfl, op2, show (foldI 0).toNat = 0 by kernel_rfl, show (c2 I).seq.toNat = 2 from rfl, show (c2 I).gen.toNat = 2 from rfl, show (c2 I).ps.length = 1 from rfl, numL_one (by omega), numL_one (by omega), numL_one (by omega), show (c2 I).ps = [I] from rfl, flatL_cons]
  simp [flatL]
def P1 : List Int := [0, 1, 1, 0, 0, 1, 97, 2]
def ws1 : List (BitVec 32) := [0x00010100#32, 0x00016102#32, 0x80000000#32, 0x00000000#32, 0x00000000#32, 0x00000000#32, 0x00000000#32, 0x00000000#32, 0x00000000#32, 0x00000000#32, 0x00000000#32, 0x00000000#32, 0x00000000#32, 0x00000000#32, 0x00000000#32, 0x00000040#32, 0x5c41afe2#32, 0x11298102#32, 0x621a75c3#32, 0xf0a500d1#32, 0x74415bd3#32, 0x204eef06#32, 0x868ec53e#32, 0x06ad7777#32, 0xcb42b129#32, 0x776f3ea1#32, 0xff280d36#32, 0xecdaaa68#32, 0x27515978#32, 0x86d1229a#32, 0x0e583a93#32, 0x254a7b16#32, 0x541146d4#32, 0x9b29b59f#32, 0xd85c5b38#32, 0x02e5c3c2#32, 0x5568a6cd#32, 0x64d48685#32, 0xa688d02f#32, 0x14fe8bb3#32, 0x5c5350db#32, 0x55cd5f91#32, 0x2b487d9e#32, 0xe96dc486#32, 0x2b0d0a71#32, 0xb1b75a64#32, 0xfdf98cb1#32, 0xbb8f8e7f#32, 0xe304e897#32, 0x79c60258#32, 0x9fd5dfdc#32, 0xa920a15c#32, 0x83448b80#32, 0x27157ed9#32, 0xfd03c8f4#32, 0x71c6022f#32, 0xf36b5944#32, 0xdd497c62#32, 0xfdfe354a#32, 0xa3e8a8f1#32, 0x382291ac#32, 0x0f7200ec#32, 0x964622c1#32, 0xf8e6ae9c#32]
def st1 : List H8 := [⟨0x6a09e667#32, 0xbb67ae85#32, 0x3c6ef372#32, 0xa54ff53a#32, 0x510e527f#32, 0x9b05688c#32, 0x1f83d9ab#32, 0x5be0cd19#32⟩, ⟨0xfc09894d#32, 0x6a09e667#32, 0xbb67ae85#32, 0x3c6ef372#32, 0x98c8e3a2#32, 0x510e527f#32, 0x9b05688c#32, 0x1f83d9ab#32⟩, ⟨0x4b5e197e#32, 0xfc09894d#32, 0x6a09e667#32, 0xbb67ae85#32, 0x7a7aa8bc#32, 0x98c8e3a2#32, 0x510e527f#32, 0x9b05688c#32⟩, ⟨0x509001f9#32, 0x4b5e197e#32, 0xfc09894d#32, 0x6a09e667#32, 0x80ae018d#32, 0x7a7aa8bc#32, 0x98c8e3a2#32, 0x510e527f#32⟩, ⟨0x17e2e711#32, 0x509001f9#32, 0x4b5e197e#32, 0xfc09894d#32, 0x0deb623f#32, 0x80ae018d#32, 0x7a7aa8bc#32, 0x98c8e3a2#32⟩, ⟨0xddff81f1#32, 0x17e2e711#32, 0x509001f9#32, 0x4b5e197e#32, 0x8f4ac739#32, 0x0deb623f#32, 0x80ae018d#32, 0x7a7aa8bc#32⟩, ⟨0x63b2a6d5#32, 0xddff81f1#32, 0x17e2e711#32, 0x509001f9#32, 0xd227756b#32, 0x8f4ac739#32, 0x0deb623f#32, 0x80ae018d#32⟩, ⟨0xb10fc1bf#32, 0x63b2a6d5#32, 0xddff81f1#32, 0x17e2e711#32, 0x04d03a39#32, 0xd227756b#32, 0x8f4ac739#32, 0x0deb623f#32⟩, ⟨0xdfb98574#32, 0xb10fc1bf#32, 0x63b2a6d5#32, 0xddff81f1#32, 0x272463bb#32, 0x04d03a39#32, 0xd227756b#32, 0x8f4ac739#32⟩, ⟨0x333826bf#32, 0xdfb98574#32, 0xb10fc1bf#32, 0x63b2a6d5#32, 0x231ed2cc#32, 0x272463bb#32, 0x04d03a39#32, 0xd227756b#32⟩, ⟨0xbfb7ac06#32, 0x333826bf#32, 0xdfb98574#32, 0xb10fc1bf#32, 0x5683607a#32, 0x231ed2cc#32, 0x272463bb#32, 0x04d03a39#32⟩, ⟨0xc4ea94fe#32, 0xbfb7ac06#32, 0x333826bf#32, 0xdfb98574#32, 0xa4d8a645#32, 0x5683607a#32, 0x231ed2cc#32, 0x272463bb#32⟩, ⟨0xaa864bdb#32, 0xc4ea94fe#32, 0xbfb7ac06#32, 0x333826bf#32, 0x15e5b319#32, 0xa4d8a645#32, 0x5683607a#32, 0x231ed2cc#32⟩, ⟨0x2e46eedf#32, 0xaa864bdb#32, 0xc4ea94fe#32, 0xbfb7ac06#32, 0x0584e052#32, 0x15e5b319#32, 0xa4d8a645#32, 0x5683607a#32⟩, ⟨0x52ffc6c4#32, 0x2e46eedf#32, 0xaa864bdb#32, 0xc4ea94fe#32, 0xbd1ceeb2#32, 0x0584e052#32, 0x15e5b319#32, 0xa4d8a645#32⟩, ⟨0xe1bc6d63#32, 0x52ffc6c4#32, 0x2e46eedf#32, 0xaa864bdb#32, 0x9e59bc7e#32, 0xbd1ceeb2#32, 0x0584e052#32, 0x15e5b319#32⟩, ⟨0x9457ab8c#32, 0xe1bc6d63#32, 0x52ffc6c4#32, 0x2e46eedf#32, 0x79196f63#32, 0x9e59bc7e#32, 0xbd1ceeb2#32, 0x0584e052#32⟩, ⟨0xc89c07e6#32, 0x9457ab8c#32, 0xe1bc6d63#32, 0x52ffc6c4#32, 0xfe038cf2#32, 0x79196f63#32, 0x9e59bc7e#32, 0xbd1ceeb2#32⟩, ⟨0x486ab906#32, 0xc89c07e6#32, 0x9457ab8c#32, 0xe1bc6d63#32, 0xddbf71a9#32, 0xfe038cf2#32, 0x79196f63#32, 0x9e59bc7e#32⟩, ⟨0x135a1d6a#32, 0x486ab906#32, 0xc89c07e6#32, 0x9457ab8c#32, 0x3beaeb12#32, 0xddbf71a9#32, 0xfe038cf2#32, 0x79196f63#32⟩, ⟨0x9ba1aaf9#32, 0x135a1d6a#32, 0x486ab906#32, 0xc89c07e6#32, 0xdfab8358#32, 0x3beaeb12#32, 0xddbf71a9#32, 0xfe038cf2#32⟩, ⟨0x6c8c0b3e#32, 0x9ba1aaf9#32, 0x135a1d6a#32, 0x486ab906#32, 0x622e07dd#32, 0xdfab8358#32, 0x3beaeb12#32, 0xddbf71a9#32⟩, ⟨0x4c198eb8#32, 0x6c8c0b3e#32, 0x9ba1aaf9#32, 0x135a1d6a#32, 0x85ff9d27#32, 0x622e07dd#32, 0xdfab8358#32, 0x3beaeb12#32⟩, ⟨0x8c0aa0d8#32, 0x4c198eb8#32, 0x6c8c0b3e#32, 0x9ba1aaf9#32, 0x51dc5138#32, 0x85ff9d27#32, 0x622e07dd#32, 0xdfab8358#32⟩, ⟨0x0504a77f#32, 0x8c0aa0d8#32, 0x4c198eb8#32, 0x6c8c0b3e#32, 0x45581d6d#32, 0x51dc5138#32, 0x85ff9d27#32, 0x622e07dd#32⟩, ⟨0x308fbe3c#32, 0x0504a77f#32, 0x8c0aa0d8#32, 0x4c198eb8#32, 0xa8ee2494#32, 0x45581d6d#32, 0x51dc5138#32, 0x85ff9d27#32⟩, ⟨0x7567280f#32, 0x308fbe3c#32, 0x0504a77f#32, 0x8c0aa0d8#32, 0xfa37751b#32, 0xa8ee2494#32, 0x45581d6d#32, 0x51dc5138#32⟩, ⟨0xbc2cd49f#32, 0x7567280f#32, 0x308fbe3c#32, 0x0504a77f#32, 0x11ad6a49#32, 0xfa37751b#32, 0xa8ee2494#32, 0x45581d6d#32⟩, ⟨0x9299b795#32, 0xbc2cd49f#32, 0x7567280f#32, 0x308fbe3c#32, 0x6ac9f844#32, 0x11ad6a49#32, 0xfa37751b#32, 0xa8ee2494#32⟩, ⟨0x18bbb846#32, 0x9299b795#32, 0xbc2cd49f#32, 0x7567280f#32, 0xd6491281#32, 0x6ac9f844#32, 0x11ad6a49#32, 0xfa37751b#32⟩, ⟨0x5241370c#32, 0x18bbb846#32, 0x9299b795#32, 0xbc2cd49f#32, 0x83ef76d6#32, 0xd6491281#32, 0x6ac9f844#32, 0x11ad6a49#32⟩, ⟨0x4346f3a8#32, 0x5241370c#32, 0x18bbb846#32, 0x9299b795#32, 0x44ab22c0#32, 0x83ef76d6#32, 0xd6491281#32, 0x6ac9f844#32⟩, ⟨0x2c54e42b#32, 0x4346f3a8#32, 0x5241370c#32, 0x18bbb846#32, 0xd64de0e4#32, 0x44ab22c0#32, 0x83ef76d6#32, 0xd6491281#32⟩, ⟨0x3d121544#32, 0x2c54e42b#32, 0x4346f3a8#32, 0x5241370c#32, 0x59abdf46#32, 0xd64de0e4#32, 0x44ab22c0#32, 0x83ef76d6#32⟩, ⟨0xe007d9f8#32, 0x3d121544#32, 0x2c54e42b#32, 0x4346f3a8#32, 0x17c19ea7#32, 0x59abdf46#32, 0xd64de0e4#32, 0x44ab22c0#32⟩, ⟨0xf8ec8324#32, 0xe007d9f8#32, 0x3d121544#32, 0x2c54e42b#32, 0x277b8ba4#32, 0x17c19ea7#32, 0x59abdf46#32, 0xd64de0e4#32⟩, ⟨0x7321699d#32, 0xf8ec8324#32, 0xe007d9f8#32, 0x3d121544#32, 0x125f4816#32, 0x277b8ba4#32, 0x17c19ea7#32, 0x59abdf46#32⟩, ⟨0x16d55628#32, 0x7321699d#32, 0xf8ec8324#32, 0xe007d9f8#32, 0xce3beb10#32, 0x125f4816#32, 0x277b8ba4#32, 0x17c19ea7#32⟩, ⟨0xa7c29ff8#32, 0x16d55628#32, 0x7321699d#32, 0xf8ec8324#32, 0x3337f349#32, 0xce3beb10#32, 0x125f4816#32, 0x277b8ba4#32⟩, ⟨0x3c6208ee#32, 0xa7c29ff8#32, 0x16d55628#32, 0x7321699d#32, 0x2142b0e5#32, 0x3337f349#32, 0xce3beb10#32, 0x125f4816#32⟩, ⟨0x49924466#32, 0x3c6208ee#32, 0xa7c29ff8#32, 0x16d55628#32, 0x45a6b541#32, 0x2142b0e5#32, 0x3337f349#32, 0xce3beb10#32⟩, ⟨0xa4d0f711#32, 0x49924466#32, 0x3c6208ee#32, 0xa7c29ff8#32, 0x959cfb9e#32, 0x45a6b541#32, 0x2142b0e5#32, 0x3337f349#32⟩, ⟨0xde171bf7#32, 0xa4d0f711#32, 0x49924466#32, 0x3c6208ee#32, 0xc6a219b9#32, 0x959cfb9e#32, 0x45a6b541#32, 0x2142b0e5#32⟩, ⟨0x56713945#32, 0xde171bf7#32, 0xa4d0f711#32, 0x49924466#32, 0x51ec017f#32, 0xc6a219b9#32, 0x959cfb9e#32, 0x45a6b541#32⟩, ⟨0x11841d26#32, 0x56713945#32, 0xde171bf7#32, 0xa4d0f711#32, 0x29713db6#32, 0x51ec017f#32, 0xc6a219b9#32, 0x959cfb9e#32⟩, ⟨0x04574dc2#32, 0x11841d26#32, 0x56713945#32, 0xde171bf7#32, 0xd5ee183d#32, 0x29713db6#32, 0x51ec017f#32, 0xc6a219b9#32⟩, ⟨0x1ebbc621#32, 0x04574dc2#32, 0x11841d26#32, 0x56713945#32, 0x364acaf7#32, 0xd5ee183d#32, 0x29713db6#32, 0x51ec017f#32⟩, ⟨0xb71f6821#32, 0x1ebbc621#32, 0x04574dc2#32, 0x11841d26#32, 0x5f3ad418#32, 0x364acaf7#32, 0xd5ee183d#32, 0x29713db6#32⟩, ⟨0x72e1654f#32, 0xb71f6821#32, 0x1ebbc621#32, 0x04574dc2#32, 0x1cdb5225#32, 0x5f3ad418#32, 0x364acaf7#32, 0xd5ee183d#32⟩, ⟨0x783ed71c#32, 0x72e1654f#32, 0xb71f6821#32, 0x1ebbc621#32, 0xd283cd2a#32, 0x1cdb5225#32, 0x5f3ad418#32, 0x364acaf7#32⟩, ⟨0x0be9be89#32, 0x783ed71c#32, 0x72e1654f#32, 0xb71f6821#32, 0x5ab619cc#32, 0xd283cd2a#32, 0x1cdb5225#32, 0x5f3ad418#32⟩, ⟨0x5c43eabf#32, 0x0be9be89#32, 0x783ed71c#32, 0x72e1654f#32, 0x88314713#32, 0x5ab619cc#32, 0xd283cd2a#32, 0x1cdb5225#32⟩, ⟨0xeffe68ac#32, 0x5c43eabf#32, 0x0be9be89#32, 0x783ed71c#32, 0x7d32e99d#32, 0x88314713#32, 0x5ab619cc#32, 0xd283cd2a#32⟩, ⟨0x4fee9b07#32, 0xeffe68ac#32, 0x5c43eabf#32, 0x0be9be89#32, 0xf107310f#32, 0x7d32e99d#32, 0x88314713#32, 0x5ab619cc#32⟩, ⟨0xe916151f#32, 0x4fee9b07#32, 0xeffe68ac#32, 0x5c43eabf#32, 0xf363246f#32, 0xf107310f#32, 0x7d32e99d#32, 0x88314713#32⟩, ⟨0x5c746663#32, 0xe916151f#32, 0x4fee9b07#32, 0xeffe68ac#32, 0xbdcb85c0#32, 0xf363246f#32, 0xf107310f#32, 0x7d32e99d#32⟩, ⟨0x2aa59598#32, 0x5c746663#32, 0xe916151f#32, 0x4fee9b07#32, 0x978f6ff3#32, 0xbdcb85c0#32, 0xf363246f#32, 0xf107310f#32⟩, ⟨0xdefaaea1#32, 0x2aa59598#32, 0x5c746663#32, 0xe916151f#32, 0x9676e3ad#32, 0x978f6ff3#32, 0xbdcb85c0#32, 0xf363246f#32⟩, ⟨0x487bb161#32, 0xdefaaea1#32, 0x2aa59598#32, 0x5c746663#32, 0xea9244d9#32, 0x9676e3ad#32, 0x978f6ff3#32, 0xbdcb85c0#32⟩, ⟨0x1033f6bc#32, 0x487bb161#32, 0xdefaaea1#32, 0x2aa59598#32, 0xe9db7cda#32, 0xea9244d9#32, 0x9676e3ad#32, 0x978f6ff3#32⟩, ⟨0xbaec61e2#32, 0x1033f6bc#32, 0x487bb161#32, 0xdefaaea1#32, 0x0edfb469#32, 0xe9db7cda#32, 0xea9244d9#32, 0x9676e3ad#32⟩, ⟨0xb799b39b#32, 0xbaec61e2#32, 0x1033f6bc#32, 0x487bb161#32, 0x6def2a6c#32, 0x0edfb469#32, 0xe9db7cda#32, 0xea9244d9#32⟩, ⟨0x019311d3#32, 0xb799b39b#32, 0xbaec61e2#32, 0x1033f6bc#32, 0x7f5f1085#32, 0x6def2a6c#32, 0x0edfb469#32, 0xe9db7cda#32⟩, ⟨0x0e1a73da#32, 0x019311d3#32, 0xb799b39b#32, 0xbaec61e2#32, 0x67f9b3d9#32, 0x7f5f1085#32, 0x6def2a6c#32, 0x0edfb469#32⟩, ⟨0x9c36a1de#32, 0x0e1a73da#32, 0x019311d3#32, 0xb799b39b#32, 0xdaee4bc8#32, 0x67f9b3d9#32, 0x7f5f1085#32, 0x6def2a6c#32⟩]
def end1 : H8 := ⟨0x06408845#32, 0xc982225f#32, 0x3e020545#32, 0x5ce9a8d5#32, 0x2bfc9e47#32, 0x02ff1c65#32, 0x9ee2ea30#32, 0xc9cff785#32⟩
theorem block1 : blockS startS (wordsOf (blk (padL P1) 0)) = end1 :=
  block_of_ok (l := ws1) (ls := st1) (by kernel_rfl) (by kernel_rfl) (by kernel_rfl)
theorem sum1 : hsum (padL P1) 1 = end1 := block1
def L1 : List Int := [6, 64, 136, 69, 201, 130, 34, 95, 62, 2, 5, 69, 92, 233, 168, 213, 43, 252, 158, 71, 2, 255, 28, 101, 158, 226, 234, 48, 201, 207, 247, 133]
theorem dig1 : ShaH.sumL P1 = L1 := by
  unfold ShaH.sumL
  rw [show nPad P1.length / 64 = 1 by kernel_rfl, sum1]
  kernel_rfl
def P2 : List Int := [0, 2, 2, 1, 6, 64, 136, 69, 201, 130, 34, 95, 62, 2, 5, 69, 92, 233, 168, 213, 43, 252, 158, 71, 2, 255, 28, 101, 158, 226, 234, 48, 201, 207, 247, 133, 0, 1, 97, 4]
def ws2 : List (BitVec 32) := [0x00020201#32, 0x06408845#32, 0xc982225f#32, 0x3e020545#32, 0x5ce9a8d5#32, 0x2bfc9e47#32, 0x02ff1c65#32, 0x9ee2ea30#32, 0xc9cff785#32, 0x00016104#32, 0x80000000#32, 0x00000000#32, 0x00000000#32, 0x00000000#32, 0x00000000#32, 0x00000140#32, 0xa8d9348d#32, 0xb4fd3ab4#32, 0x936c84bb#32, 0x4335aa65#32, 0xdc91a9da#32, 0x99aebfe8#32, 0xad4dee7f#32, 0xbf366676#32, 0x19e9d18f#32, 0xa4484ba3#32, 0x9625c022#32, 0x091e5e99#32, 0xf1df508e#32, 0x91ebd0ba#32, 0x81f137a0#32, 0xefc231d9#32, 0x3b811cd7#32, 0xee74e2b0#32, 0xf3040d20#32, 0xe6a8940b#32, 0x6382ce5e#32, 0x05c9ea6c#32, 0x3f114d29#32, 0x2c9fa35c#32, 0xd8c6a169#32, 0xe4fb6304#32, 0xa615f029#32, 0x2278e5f8#32, 0xd111a77a#32, 0x5c1e8e14#32, 0xb8490b67#32, 0x4d9b64b4#32, 0x0a2c0758#32, 0xd03951ff#32, 0xc6dd3c6d#32, 0x3dcf1c8b#32, 0x9b55f957#32, 0x32c4c567#32, 0x25725da5#32, 0x91d2a81d#32, 0xdc070180#32, 0xe886aa4a#32, 0x122266e1#32, 0xc4838c2d#32, 0x043d8c86#32, 0xd3d3c353#32, 0x79f3cab7#32, 0x7421a805#32]
def st2 : List H8 := [⟨0x6a09e667#32, 0xbb67ae85#32, 0x3c6ef372#32, 0xa54ff53a#32, 0x510e527f#32, 0x9b05688c#32, 0x1f83d9ab#32, 0x5be0cd19#32⟩, ⟨0xfc0a8a4e#32, 0x6a09e667#32, 0xbb67ae85#32, 0x3c6ef372#32, 0x98c9e4a3#32, 0x510e527f#32, 0x9b05688c#32, 0x1f83d9ab#32⟩, ⟨0xea528590#32, 0xfc0a8a4e#32, 0x6a09e667#32, 0xbb67ae85#32, 0x65595184#32, 0x98c9e4a3#32, 0x510e527f#32, 0x9b05688c#32⟩, ⟨0xfe590cb2#32, 0xea528590#32, 0xfc0a8a4e#32, 0x6a09e667#32, 0x73b08498#32, 0x65595184#32, 0x98c9e4a3#32, 0x510e527f#32⟩, ⟨0x493092f6#32, 0xfe590cb2#32, 0xea528590#32, 0xfc0a8a4e#32, 0xf6ac72ae#32, 0x73b08498#32, 0x65595184#32, 0x98c9e4a3#32⟩, ⟨0x0d3ebd69#32, 0x493092f6#32, 0xfe590cb2#32, 0xea528590#32, 0x57430ee8#32, 0xf6ac72ae#32, 0x73b08498#32, 0x65595184#32⟩, ⟨0xdff31472#32, 0x0d3ebd69#32, 0x493092f6#32, 0xfe590cb2#32, 0x2a1a9a75#32, 0x57430ee8#32, 0xf6ac72ae#32, 0x73b08498#32⟩, ⟨0x9c4428a7#32, 0xdff31472#32, 0x0d3ebd69#32, 0x493092f6#32, 0x752eaeec#32, 0x2a1a9a75#32, 0x57430ee8#32, 0xf6ac72ae#32⟩, ⟨0xae0a6247#32, 0x9c4428a7#32, 0xdff31472#32, 0x0d3ebd69#32, 0xa7354261#32, 0x752eaeec#32, 0x2a1a9a75#32, 0x57430ee8#32⟩, ⟨0xe4cb65cc#32, 0xae0a6247#32, 0x9c4428a7#32, 0xdff31472#32, 0x83910c54#32, 0xa7354261#32, 0x752eaeec#32, 0x2a1a9a75#32⟩, ⟨0x2b044335#32, 0xe4cb65cc#32, 0xae0a6247#32, 0x9c4428a7#32, 0x23ea2a25#32, 0x83910c54#32, 0xa7354261#32, 0x752eaeec#32⟩, ⟨0xb6a343f2#32, 0x2b044335#32, 0xe4cb65cc#32, 0xae0a6247#32, 0x62786d11#32, 0x23ea2a25#32, 0x83910c54#32, 0xa7354261#32⟩, ⟨0x617401a1#32, 0xb6a343f2#32, 0x2b044335#32, 0xe4cb65cc#32, 0x29c870b8#32, 0x62786d11#32, 0x23ea2a25#32, 0x83910c54#32⟩, ⟨0xd4c8eab3#32, 0x617401a1#32, 0xb6a343f2#32, 0x2b044335#32, 0x111f7e81#32, 0x29c870b8#32, 0x62786d11#32, 0x23ea2a25#32⟩, ⟨0xdbf103bb#32, 0xd4c8eab3#32, 0x617401a1#32, 0xb6a343f2#32, 0x8f0eaf85#32, 0x111f7e81#32, 0x29c870b8#32, 0x62786d11#32⟩, ⟨0x83197fd9#32, 0xdbf103bb#32, 0xd4c8eab3#32, 0x617401a1#32, 0x38a0500f#32, 0x8f0eaf85#32, 0x111f7e81#32, 0x29c870b8#32⟩, ⟨0x317fb1b3#32, 0x83197fd9#32, 0xdbf103bb#32, 0xd4c8eab3#32, 0xc3252668#32, 0x38a0500f#32, 0x8f0eaf85#32, 0x111f7e81#32⟩, ⟨0xf9c049c7#32, 0x317fb1b3#32, 0x83197fd9#32, 0xdbf103bb#32, 0x7c0f556b#32, 0xc3252668#32, 0x38a0500f#32, 0x8f0eaf85#32⟩, ⟨0xde667c93#32, 0xf9c049c7#32, 0x317fb1b3#32, 0x83197fd9#32, 0x579542e7#32, 0x7c0f556b#32, 0xc3252668#32, 0x38a0500f#32⟩, ⟨0x3f654804#32, 0xde667c93#32, 0xf9c049c7#32, 0x317fb1b3#32, 0x3e232adc#32, 0x579542e7#32, 0x7c0f556b#32, 0xc3252668#32⟩, ⟨0x959bf3ae#32, 0x3f654804#32, 0xde667c93#32, 0xf9c049c7#32, 0xecdea304#32, 0x3e232adc#32, 0x579542e7#32, 0x7c0f556b#32⟩, ⟨0xd95154b1#32, 0x959bf3ae#32, 0x3f654804#32, 0xde667c93#32, 0xdbcd3b90#32, 0xecdea304#32, 0x3e232adc#32, 0x579542e7#32⟩, ⟨0x3469d950#32, 0xd95154b1#32, 0x959bf3ae#32, 0x3f654804#32, 0xdef6ac7c#32, 0xdbcd3b90#32, 0xecdea304#32, 0x3e232adc#32⟩, ⟨0x40fc8fcd#32, 0x3469d950#32, 0xd95154b1#32, 0x959bf3ae#32, 0x8a097056#32, 0xdef6ac7c#32, 0xdbcd3b90#32, 0xecdea304#32⟩, ⟨0x7ff7fcb7#32, 0x40fc8fcd#32, 0x3469d950#32, 0xd95154b1#32, 0xe8b00180#32, 0x8a097056#32, 0xdef6ac7c#32, 0xdbcd3b90#32⟩, ⟨0xf2addca1#32, 0x7ff7fcb7#32, 0x40fc8fcd#32, 0x3469d950#32, 0x714c7610#32, 0xe8b00180#32, 0x8a097056#32, 0xdef6ac7c#32⟩, ⟨0xdd361171#32, 0xf2addca1#32, 0x7ff7fcb7#32, 0x40fc8fcd#32, 0x6fcba890#32, 0x714c7610#32, 0xe8b00180#32, 0x8a097056#32⟩, ⟨0x8c4fa079#32, 0xdd361171#32, 0xf2addca1#32, 0x7ff7fcb7#32, 0xa90da8fd#32, 0x6fcba890#32, 0x714c7610#32, 0xe8b00180#32⟩, ⟨0xd4c544f5#32, 0x8c4fa079#32, 0xdd361171#32, 0xf2addca1#32, 0x1a2f44e9#32, 0xa90da8fd#32, 0x6fcba890#32, 0x714c7610#32⟩, ⟨0xea9628b5#32, 0xd4c544f5#32, 0x8c4fa079#32, 0xdd361171#32, 0xb970e4a1#32, 0x1a2f44e9#32, 0xa90da8fd#32, 0x6fcba890#32⟩, ⟨0xce9c3f0b#32, 0xea9628b5#32, 0xd4c544f5#32, 0x8c4fa079#32, 0x77632651#32, 0xb970e4a1#32, 0x1a2f44e9#32, 0xa90da8fd#32⟩, ⟨0xf32f71ab#32, 0xce9c3f0b#32, 0xea9628b5#32, 0xd4c544f5#32, 0x35e59156#32, 0x77632651#32, 0xb970e4a1#32, 0x1a2f44e9#32⟩, ⟨0x1356ab8f#32, 0xf32f71ab#32, 0xce9c3f0b#32, 0xea9628b5#32, 0x312acbfc#32, 0x35e59156#32, 0x77632651#32, 0xb970e4a1#32⟩, ⟨0x43536966#32, 0x1356ab8f#32, 0xf32f71ab#32, 0xce9c3f0b#32, 0x98c84a75#32, 0x312acbfc#32, 0x35e59156#32, 0x77632651#32⟩, ⟨0xafb0cc19#32, 0x43536966#32, 0x1356ab8f#32, 0xf32f71ab#32, 0x94b247a6#32, 0x98c84a75#32, 0x312acbfc#32, 0x35e59156#32⟩, ⟨0x2aa67457#32, 0xafb0cc19#32, 0x43536966#32, 0x1356ab8f#32, 0x5271d4b5#32, 0x94b247a6#32, 0x98c84a75#32, 0x312acbfc#32⟩, ⟨0x9c4190a2#32, 0x2aa67457#32, 0xafb0cc19#32, 0x43536966#32, 0x92243b4e#32, 0x5271d4b5#32, 0x94b247a6#32, 0x98c84a75#32⟩, ⟨0x8c763456#32, 0x9c4190a2#32, 0x2aa67457#32, 0xafb0cc19#32, 0xfce2bd54#32, 0x92243b4e#32, 0x5271d4b5#32, 0x94b247a6#32⟩, ⟨0x91295c79#32, 0x8c763456#32, 0x9c4190a2#32, 0x2aa67457#32, 0xdafb3fa7#32, 0xfce2bd54#32, 0x92243b4e#32, 0x5271d4b5#32⟩, ⟨0xc193d54e#32, 0x91295c79#32, 0x8c763456#32, 0x9c4190a2#32, 0x2ce1fd23#32, 0xdafb3fa7#32, 0xfce2bd54#32, 0x92243b4e#32⟩, ⟨0x58bcea2c#32, 0xc193d54e#32, 0x91295c79#32, 0x8c763456#32, 0x1e8363a5#32, 0x2ce1fd23#32, 0xdafb3fa7#32, 0xfce2bd54#32⟩, ⟨0x6d69fe68#32, 0x58bcea2c#32, 0xc193d54e#32, 0x91295c79#32, 0x73410844#32, 0x1e8363a5#32, 0x2ce1fd23#32, 0xdafb3fa7#32⟩, ⟨0xda150022#32, 0x6d69fe68#32, 0x58bcea2c#32, 0xc193d54e#32, 0xd1a3a8cf#32, 0x73410844#32, 0x1e8363a5#32, 0x2ce1fd23#32⟩, ⟨0x277ea74e#32, 0xda150022#32, 0x6d69fe68#32, 0x58bcea2c#32, 0xad4176ac#32, 0xd1a3a8cf#32, 0x73410844#32, 0x1e8363a5#32⟩, ⟨0x5bb710d3#32, 0x277ea74e#32, 0xda150022#32, 0x6d69fe68#32, 0xfbc2a9da#32, 0xad4176ac#32, 0xd1a3a8cf#32, 0x73410844#32⟩, ⟨0x5896ad17#32, 0x5bb710d3#32, 0x277ea74e#32, 0xda150022#32, 0xde95565b#32, 0xfbc2a9da#32, 0xad4176ac#32, 0xd1a3a8cf#32⟩, ⟨0x2ea7e00a#32, 0x5896ad17#32, 0x5bb710d3#32, 0x277ea74e#32, 0xc8db0843#32, 0xde95565b#32, 0xfbc2a9da#32, 0xad4176ac#32⟩, ⟨0x2f38f5b1#32, 0x2ea7e00a#32, 0x5896ad17#32, 0x5bb710d3#32, 0xe7875765#32, 0xc8db0843#32, 0xde95565b#32, 0xfbc2a9da#32⟩, ⟨0x1f2d73c7#32, 0x2f38f5b1#32, 0x2ea7e00a#32, 0x5896ad17#32, 0x469c1f70#32, 0xe7875765#32, 0xc8db0843#32, 0xde95565b#32⟩, ⟨0x4db4fd72#32, 0x1f2d73c7#32, 0x2f38f5b1#32, 0x2ea7e00a#32, 0x8ae0ff20#32, 0x469c1f70#32, 0xe7875765#32, 0xc8db0843#32⟩, ⟨0xef5fc715#32, 0x4db4fd72#32, 0x1f2d73c7#32, 0x2f38f5b1#32, 0x63c0155f#32, 0x8ae0ff20#32, 0x469c1f70#32, 0xe7875765#32⟩, ⟨0x9e95d601#32, 0xef5fc715#32, 0x4db4fd72#32, 0x1f2d73c7#32, 0x422bf7d5#32, 0x63c0155f#32, 0x8ae0ff20#32, 0x469c1f70#32⟩, ⟨0x8ebe748a#32, 0x9e95d601#32, 0xef5fc715#32, 0x4db4fd72#32, 0x5d6489ec#32, 0x422bf7d5#32, 0x63c0155f#32, 0x8ae0ff20#32⟩, ⟨0x8d77fc85#32, 0x8ebe748a#32, 0x9e95d601#32, 0xef5fc715#32, 0x4e63610b#32, 0x5d6489ec#32, 0x422bf7d5#32, 0x63c0155f#32⟩, ⟨0x56e25867#32, 0x8d77fc85#32, 0x8ebe748a#32, 0x9e95d601#32, 0x5f06a850#32, 0x4e63610b#32, 0x5d6489ec#32, 0x422bf7d5#32⟩, ⟨0x089b4ca7#32, 0x56e25867#32, 0x8d77fc85#32, 0x8ebe748a#32, 0x7856e9d1#32, 0x5f06a850#32, 0x4e63610b#32, 0x5d6489ec#32⟩, ⟨0xe1676c94#32, 0x089b4ca7#32, 0x56e25867#32, 0x8d77fc85#32, 0x990678a6#32, 0x7856e9d1#32, 0x5f06a850#32, 0x4e63610b#32⟩, ⟨0x0cbc08ec#32, 0xe1676c94#32, 0x089b4ca7#32, 0x56e25867#32, 0x9804352f#32, 0x990678a6#32, 0x7856e9d1#32, 0x5f06a850#32⟩, ⟨0x8f3f5b2a#32, 0x0cbc08ec#32, 0xe1676c94#32, 0x089b4ca7#32, 0x28f58f04#32, 0x9804352f#32, 0x990678a6#32, 0x7856e9d1#32⟩, ⟨0x485fd6bd#32, 0x8f3f5b2a#32, 0x0cbc08ec#32, 0xe1676c94#32, 0x3bc4d5ac#32, 0x28f58f04#32, 0x9804352f#32, 0x990678a6#32⟩, ⟨0x1eff06cf#32, 0x485fd6bd#32, 0x8f3f5b2a#32, 0x0cbc08ec#32, 0x5b7fd647#32, 0x3bc4d5ac#32, 0x28f58f04#32, 0x9804352f#32⟩, ⟨0xef8eb2a0#32, 0x1eff06cf#32, 0x485fd6bd#32, 0x8f3f5b2a#32, 0xdfef5aad#32, 0x5b7fd647#32, 0x3bc4d5ac#32, 0x28f58f04#32⟩, ⟨0x150096c5#32, 0xef8eb2a0#32, 0x1eff06cf#32, 0x485fd6bd#32, 0xc13207df#32, 0xdfef5aad#32, 0x5b7fd647#32, 0x3bc4d5ac#32⟩, ⟨0x7ee3494c#32, 0x150096c5#32, 0xef8eb2a0#32, 0x1eff06cf#32, 0xb680ef63#32, 0xc13207df#32, 0xdfef5aad#32, 0x5b7fd647#32⟩, ⟨0xdade18fe#32, 0x7ee3494c#32, 0x150096c5#32, 0xef8eb2a0#32, 0xa15c7857#32, 0xb680ef63#32, 0xc13207df#32, 0xdfef5aad#32⟩]
def end2 : H8 := ⟨0x44e7ff65#32, 0x3a4af7d1#32, 0x516f8a37#32, 0x94dea7da#32, 0xf26acad6#32, 0x518657ef#32, 0xe0b5e18a#32, 0x3bd027c6#32⟩
theorem block2 : blockS startS (wordsOf (blk (padL P2) 0)) = end2 :=
  block_of_ok (l := ws2) (ls := st2) (by kernel_rfl) (by kernel_rfl) (by kernel_rfl)
theorem sum2 : hsum (padL P2) 1 = end2 := block2
def L2 : List Int := [68, 231, 255, 101, 58, 74, 247, 209, 81, 111, 138, 55, 148, 222, 167, 218, 242, 106, 202, 214, 81, 134, 87, 239, 224, 181, 225, 138, 59, 208, 39, 198]
theorem dig2 : ShaH.sumL P2 = L2 := by
  unfold ShaH.sumL
  rw [show nPad P2.length / 64 = 1 by kernel_rfl, sum2]
  kernel_rfl
def I1 : Idn := CmS.sumI P1
def I2 : Idn := CmS.sumI P2
theorem id1 : hashK c1 = I1 := by
  unfold hashK I1
  rw [put1]
  rfl
theorem val1 : I1.val = L1 := dig1
theorem putc2 : putK (c2 I1) = P2 := by
  rw [put2, val1]
  rfl
theorem id2 : hashK (c2 I1) = I2 := by
  unfold hashK I2
  rw [putc2]
theorem ne12 : I1 ≠ I2 := by
  intro e
  have h : I1.val = I2.val := by rw [e]
  rw [val1, show I2.val = L2 from dig2] at h
  exact absurd h (by decide)
theorem may2 (I : Idn) : mayK (c2 I) = true := by kernel_rfl
theorem nom2 (I : Idn) : isM (c2 I) = false := by
  unfold isM
  rw [show decide ((c2 I).node = -1) = false by rfl, Bool.and_false]
/-- The chapter's two commits. -/
def two : List Com := [c1, c2 I1]
theorem map_two : two.map hashK = [I1, I2] := by
  unfold two
  rw [List.map_cons, List.map_cons, List.map_nil, id1, id2]
theorem nodup_two : (two.map hashK).Nodup := by
  rw [map_two]
  simp [ne12]
theorem par_two {a b : Idn} : Par hashK two a b ↔ a = I2 ∧ b = I1 := by
  unfold Par two
  constructor
  · rintro ⟨c, hc, rfl, hb⟩
    rcases List.mem_cons.1 hc with rfl | hc
    · simp [c1] at hb
    · rw [List.mem_singleton] at hc
      subst hc
      exact ⟨id2, by simpa [c2] using hb⟩
  · rintro ⟨rfl, rfl⟩
    exact ⟨c2 I1, by simp, id2, by simp [c2]⟩
theorem kn_two {a b : Idn} : Kn hashK two a b ↔ a = I2 ∧ b = I1 := by
  constructor
  · intro h
    induction h with
    | one h => exact par_two.1 h
    | more h _ ih =>
      obtain ⟨rfl, rfl⟩ := par_two.1 h
      exact absurd ih.1 ne12
  · exact fun h => .one (par_two.2 h)
theorem closed_two : Closed hashK two := by
  have mem : ∀ {c : Com}, c ∈ two → c = c1 ∨ c = c2 I1 := fun h => by
    rcases List.mem_cons.1 h with h | h
    · exact .inl h
    · exact .inr (List.mem_singleton.1 h)
  have g1 : gAt hashK two I1 = 1 := by
    rw [← id1, gAt_of nodup_two (by simp [two])]
    rfl
  refine ⟨fun c hc => ?_, fun c hc => ?_, nodup_two, fun c hc a ha => ?_, fun c hc => ?_, fun c hc a ha b hb => ?_, fun c hc d hd hne hn => ?_⟩
  · rcases mem hc with rfl | rfl
    · exact may1
    · exact may2 _
  · rcases mem hc with rfl | rfl
    · exact not1
    · exact nom2 _
  · rcases mem hc with rfl | rfl
    · simp [c1] at ha
    · rw [map_two]
      simp [c2] at ha
      simp [ha]
  · rcases mem hc with rfl | rfl
    · rfl
    · show (2 : Int) = 1 + most ([I1].map (gAt hashK two))
      rw [List.map_cons, List.map_nil, g1]
      rfl
  · rcases mem hc with rfl | rfl
    · simp [c1] at ha
    · simp [c2] at ha
      subst ha
      intro hk
      exact ne12 (kn_two.1 hk).1
  · rcases mem hc with rfl | rfl <;> rcases mem hd with rfl | rfl
    · exact absurd rfl hne
    · refine ⟨by show (1 : Int) ≠ 2; omega, fun h => ?_⟩
      exact absurd h (by show ¬ (2 : Int) < 1; omega)
    · refine ⟨by show (2 : Int) ≠ 1; omega, fun _ => ?_⟩
      rw [id1, id2]
      exact kn_two.2 ⟨rfl, rfl⟩
    · exact absurd rfl hne
end Go.Proofs.YtechkdhehipliaaGreatDoor.DgJ
namespace Go.Proofs.YtechkdhehipliaaGreatDoor.RowG
set_option maxRecDepth 100000
open Go Go.RowKit Byt RowS RowB

variable {α : Type}
theorem range_load (E : Enc α) {w : World} {b off : Nat} {y : α} (h : w.rangeAt b off (E.enc y)) : (Instr.loadAt E.T (.pointer (some ⟨b, off, none⟩))).run Tryz.prog w = .ok (.agg (E.enc y).toArray) w :=
  run_loadAt_mid w b off E.T (E.enc y) _ h E.under E.row (E.size y)
theorem wpQuiet_load_row (E : Enc α) {ops : Array Oper} {C : World → Prop} {Q : Act → Prop} {a : Act} {o : Oper} {rest : List Oper} (hgd : o.guard = none) (x : Operand) (ho : o.op = .load E.T x)
    (b off : Nat) (hx : a.eval x = .pointer (some ⟨b, off, none⟩)) (y : α) (hc : ∀ w, C w → w.rangeAt b off (E.enc y)) (h : wpQuiet Tryz.prog ops C Q rest (a.put o.dst (.agg (E.enc y).toArray))) : wpQuiet Tryz.prog ops C Q (o :: rest) a := by
  refine BigFrame.wpQuiet_want (by simp [Region.wanted, hgd]) (fun K hK => ⟨.agg (E.enc y).toArray, fun w hw => ?_, hK _ h⟩)
  have q := range_load E (hc w hw)
  unfold Oper.quietAt execOp
  simp only [ho, hx, Sem.run_bind, q, Result.andThen_ok, Sem.run_pure]
  exact ⟨rfl, rfl⟩
theorem reads_row (E : Enc α) {l : List Oper} {i : Nat} {o : Oper} {r : List (Nat × Bool)} {a : Act} {w : World} {Q : Exit → Act → World → Prop} (hn : Grow.nth l i = some o) (hgd : o.guard = none) (x : Operand) (ho : o.op = .load E.T x)
    (b off : Nat) (hx : a.eval x = .pointer (some ⟨b, off, none⟩)) (y : α) (hc : w.rangeAt b off (E.enc y)) (h : Grow.Seq Tryz.prog l.toArray Q r (a.put o.dst (.agg (E.enc y).toArray)) w) : Grow.Seq Tryz.prog l.toArray Q ((i, true) :: r) a w :=
  Grow.reads hn (by unfold Grow.plain; rw [ho]) (wpQuiet_load_row E hgd x ho b off hx y (fun _ ⟨p, e⟩ => by rw [e]; exact range_below hc (below_regrown w p.d p.os)) (wpQuiet_nil h))
end Go.Proofs.YtechkdhehipliaaGreatDoor.RowG
namespace Go.Proofs.YtechkdhehipliaaGreatDoor.RowK
set_option maxRecDepth 100000
open Go Go.Sort Go.RowKit Byt RowS RowB RowG

variable {α : Type}
/-- As the walk meets it behind the guard. -/
theorem quiet_row (E : Enc α) {a : Act} {o : Oper} {K : Act → Prop} {w : World} (x : Operand) (ho : o.op = .load E.T x)
    (b off : Nat) (hx : a.eval x = .pointer (some ⟨b, off, none⟩)) (y : α) (hc : w.rangeAt b off (E.enc y)) (hk : K (a.put o.dst (.agg (E.enc y).toArray))) : o.quiet Tryz.prog a (fun w' => ∃ p : Regrown, w' = grow (redrawn w p.d) p.os) K := by
  refine ⟨.agg (E.enc y).toArray, fun u hu => ?_, hk⟩
  obtain ⟨p, rfl⟩ := hu
  have q := range_load E (range_below hc (below_regrown w p.d p.os))
  unfold Oper.quietAt execOp
  simp only [ho, hx, Sem.run_bind, q, Result.andThen_ok, Sem.run_pure]
  exact ⟨rfl, rfl⟩
end Go.Proofs.YtechkdhehipliaaGreatDoor.RowK
namespace Go.Proofs.YtechkdhehipliaaGreatDoor.OpenR
set_option maxRecDepth 100000
open Go Go.ChangeShapes Go.WideShapes Go.ChangeAt Go.RowKit Byt RowS

section
variable {H : Type} {enc : TypeId × Value → H} {W : World} {base : Nat} {α : Type}
theorem list_of {p : Nat → α → Prop} : ∀ n : Nat, (∀ i, i < n → ∃ x, p i x) → ∃ l : List α, l.length = n ∧ ∀ i x, l[i]? = some x → p i x
  | 0, _ => ⟨[], rfl, fun i x hx => by simp at hx⟩
  | n + 1, h => by
    obtain ⟨l, hl, hp⟩ := list_of n (fun i hi => h i (by omega))
    obtain ⟨x, hx⟩ := h n (by omega)
    refine ⟨l ++ [x], by simp [hl], fun i y hy => ?_⟩
    by_cases hin : i < n
    · rw [List.getElem?_append_left (by omega)] at hy
      exact hp i y hy
    · rw [List.getElem?_append_right (by omega), hl] at hy
      have hi : i - n = 0 := by
        have := (List.getElem?_eq_some_iff.1 hy).1
        simpa using this
      rw [hi] at hy
      obtain rfl : x = y := by simpa using hy
      rw [show i = n by omega]
      exact hx
/-- The cell at a place of a list's cells. -/
theorem flat_split (E : Enc α) {l : List α} {i : Nat} {v : Value} (h : (flat E l)[i]? = some v) : ∃ m j x, i = m * E.k + j ∧ l[m]? = some x ∧ (E.enc x)[j]? = some v := by
  have hi := (List.getElem?_eq_some_iff.1 h).1
  rw [flat_length] at hi
  have hp := E.pos
  have hm : i / E.k < l.length := (Nat.div_lt_iff_lt_mul hp).2 hi
  have hx : l[i / E.k]? = some l[i / E.k] := List.getElem?_eq_getElem hm
  have hj : i % E.k < (E.enc l[i / E.k]).length := by rw [E.len]; exact Nat.mod_lt _ hp
  have hv : (E.enc l[i / E.k])[i % E.k]? = some ((E.enc l[i / E.k])[i % E.k]'hj) := List.getElem?_eq_getElem hj
  have e : i = i / E.k * E.k + i % E.k := by rw [Nat.mul_comm]; exact (Nat.div_add_mod i E.k).symm
  have := flat_at E l _ _ _ _ hx hv
  rw [← e, h] at this
  exact ⟨_, _, _, e, hx, by rw [hv]; exact this.symm⟩
set_option maxRecDepth 100000 in
theorem open_rows (E : Enc α) {good : α → Prop} (hC : Tryz.prog.cellsOf E.T = E.k)
    (hread : ∀ (fuel : Nat) (cs : List Value) (y : DataW H × List MemPlace), DataW.trod enc Tryz.prog W 0 (fun _ => true) true fuel E.T cs = some y → ∃ x, cs = E.enc x ∧ good x) {v : Value} {d : DataW H} {p : List MemPlace}
    (hval : Value.okWide Tryz.prog W .any base E.S v) (h : DataW.Trod enc Tryz.prog W 0 (fun _ => true) true E.S v d p) : ∃ A cap l, v = .slice A (List.length l) cap ∧ SlR E W A cap l ∧ ∀ x ∈ l, good x := by
  obtain ⟨a, len, cap, rfl⟩ := okWide_slice E.slice hval
  obtain ⟨fuel, hf⟩ := h
  rcases DataW.trod_slice E.slice hf with ⟨hcs, _⟩ | ⟨x, len', cap', elems, rest, n, _, hcs, _, _, hl, hm, hel, hcell, _, _⟩
  · simp [Value.cells] at hcs
    obtain ⟨rfl, rfl, rfl⟩ := hcs
    exact ⟨none, 0, [], rfl, SlR.nil E W, by simp⟩
  · simp [Value.cells] at hcs
    obtain ⟨rfl, rfl, rfl⟩ := hcs
    rw [hC] at hcell
    have key : ∀ i, i < len → ∃ y : α, good y ∧ ∀ j u, (E.enc y)[j]? = some u → W.cell? (x.add (i * E.k + j)) = some u := by
      intro i hi
      have hi1 := hcell i hi
      rw [List.getElem?_eq_getElem (by omega)] at hi1
      rw [Option.bind_eq_some_iff] at hi1
      obtain ⟨cl, hcl, htr⟩ := hi1
      obtain ⟨y, rfl, hy⟩ := hread _ _ _ htr
      refine ⟨y, hy, fun j u hj => ?_⟩
      obtain ⟨_, _, hg⟩ := World.cells?_some hcl
      have hjl := (List.getElem?_eq_some_iff.1 hj).1
      rw [E.len] at hjl
      have := hg j hjl
      rw [Addr.add_add, hj] at this
      exact this
    obtain ⟨l, hll, hp⟩ := list_of len key
    refine ⟨some x, cap, l, by rw [hll], ⟨by omega, hm, .inr ⟨x, rfl, fun i u hu => ?_⟩⟩, fun y hy => ?_⟩
    · obtain ⟨m, j, y, rfl, hy, hj⟩ := flat_split E hu
      exact (hp m y hy).2 j u hj
    · obtain ⟨i, hi⟩ := List.mem_iff_getElem?.1 hy
      exact (hp i y hi).1
end
end Go.Proofs.YtechkdhehipliaaGreatDoor.OpenR
namespace Go.Proofs.YtechkdhehipliaaGreatDoor.OpenI
set_option maxRecDepth 100000
open Go Go.ChangeShapes Go.WideShapes Go.ChangeAt Go.RowKit IdM Byt IdW

section
variable {H : Type} {enc : TypeId × Value → H} {P : Program} {t e : TypeId} {W : World} {base : Nat}
/-- Thirty-two cells that read as an array of bytes are an id's. -/
theorem cells_id (ht : P.underlying t = some (.array 32 e)) (he : P.underlying e = some (.int .u8)) (hc : P.cellsOf e = 1) (hC : P.cellsOf t = 32) {sp : Nat → Bool} {hd : Bool} {fuel : Nat} {l : List Value} {x : DataW H × List MemPlace}
    (hf : DataW.trod enc P W base sp hd fuel t l = some x) : ∃ y : Idn, l = bv y.1 := by
  obtain ⟨xs, m, _, _, hlen, hn, hel⟩ := DataW.trod_array ht hf
  rw [hC] at hlen
  have key : ∀ i, i < 32 → ∃ n : Int, l[i]? = some (.int .u8 n) ∧ 0 ≤ n ∧ n ≤ 255 := by
    intro i hi
    have hi1 := hel i hi
    rw [List.getElem?_eq_getElem (by omega)] at hi1
    obtain ⟨n, e1, _, hw⟩ := DataW.trod_int he hi1
    have hb := B_of_wf hw
    unfold B at hb
    refine ⟨n, ?_, hb⟩
    rw [hc, Nat.mul_one] at e1
    have e3 := congrArg (fun l => l[0]?) e1
    simpa using e3
  have hl : (List.map (fun i => (l[i]?).elim 0 fun v => match v with | .int _ n => n | _ => 0) (List.range 32)).length = 32 := by simp
  refine ⟨⟨List.map (fun i => (l[i]?).elim 0 fun v => match v with | .int _ n => n | _ => 0) (List.range 32), hl, fun n hn => ?_⟩, ?_⟩
  · simp only [List.mem_map, List.mem_range] at hn
    obtain ⟨i, hi, rfl⟩ := hn
    obtain ⟨n, e, hb⟩ := key i hi
    rw [e]
    exact hb
  · apply List.ext_getElem?
    intro i
    by_cases hi : i < 32
    · obtain ⟨n, e, _⟩ := key i hi
      rw [e, bv_at _ (by simpa using hi)]
      simp [List.getD_eq_getElem?_getD, hi, e]
    · rw [List.getElem?_eq_none (by omega), List.getElem?_eq_none (by rw [bv_length]; simp; omega)]
theorem open_id (ht : P.underlying t = some (.array 32 e)) (he : P.underlying e = some (.int .u8)) (hc : P.cellsOf e = 1) (hC : P.cellsOf t = 32) {v : Value} {d : DataW H} {p : List MemPlace}
    (hval : Value.okWide P W .any base t v) (h : DataW.Trod enc P W 0 (fun _ => true) true t v d p) : ∃ x : Idn, v = .agg (cs x) := by
  simp only [Value.okWide, ht] at hval
  obtain ⟨c, rfl, _⟩ := hval
  obtain ⟨fuel, hf⟩ := h
  obtain ⟨y, hy⟩ := cells_id ht he hc hC hf
  refine ⟨y, ?_⟩
  simp only [Value.cells] at hy
  rw [cs, ← hy]
theorem list_of {p : Nat → Idn → Prop} : ∀ n : Nat, (∀ i, i < n → ∃ x, p i x) → ∃ l : List Idn, l.length = n ∧ ∀ i, i < n → p i (l.getD i nought)
  | 0, _ => ⟨[], rfl, fun i hi => absurd hi (Nat.not_lt_zero i)⟩
  | n + 1, h => by
    obtain ⟨l, hl, hp⟩ := list_of n (fun i hi => h i (by omega))
    obtain ⟨x, hx⟩ := h n (by omega)
    refine ⟨l ++ [x], by simp [hl], fun i hi => ?_⟩
    rw [List.getD_eq_getElem?_getD]
    by_cases hin : i < n
    · rw [List.getElem?_append_left (by omega), ← List.getD_eq_getElem?_getD]
      exact hp i hin
    · have : i = n := by omega
      subst this
      rw [List.getElem?_append_right (by omega), hl, Nat.sub_self]
      exact hx
theorem open_ids {s : TypeId} (hs : P.underlying s = some (.slice t)) (ht : P.underlying t = some (.array 32 e)) (he : P.underlying e = some (.int .u8)) (hc : P.cellsOf e = 1) (hC : P.cellsOf t = 32) {v : Value} {d : DataW H} {p : List MemPlace}
    (hval : Value.okWide P W .any base s v) (h : DataW.Trod enc P W 0 (fun _ => true) true s v d p) : ∃ A cap l, v = .slice A (List.length l) cap ∧ SlI W A cap l := by
  obtain ⟨a, len, cap, rfl⟩ := okWide_slice hs hval
  obtain ⟨fuel, hf⟩ := h
  rcases DataW.trod_slice hs hf with ⟨hcs, _⟩ | ⟨x, len', cap', elems, rest, n, _, hcs, _, _, hl, hm, hel, hcell, _, _⟩
  · simp [Value.cells] at hcs
    obtain ⟨rfl, rfl, rfl⟩ := hcs
    exact ⟨none, 0, [], rfl, SlI.nil W⟩
  · simp [Value.cells] at hcs
    obtain ⟨rfl, rfl, rfl⟩ := hcs
    rw [hC] at hcell
    have key : ∀ i, i < len → ∃ y : Idn, ∀ j, j < 32 → W.cell? (x.add (i * 32 + j)) = some (.int .u8 (y.1.getD j 0)) := by
      intro i hi
      have hi1 := hcell i hi
      rw [List.getElem?_eq_getElem (by omega)] at hi1
      rw [Option.bind_eq_some_iff] at hi1
      obtain ⟨cl, hcl, htr⟩ := hi1
      obtain ⟨y, rfl⟩ := cells_id ht he hc hC htr
      refine ⟨y, fun j hj => ?_⟩
      obtain ⟨_, _, hg⟩ := World.cells?_some hcl
      have := hg j hj
      rw [Addr.add_add, bv_at _ (by rw [Idn_len]; exact hj)] at this
      exact this
    obtain ⟨l, hll, hp⟩ := list_of len key
    refine ⟨some x, cap, l, by rw [hll], by omega, hm, .inr ⟨x, rfl, fun i hi => ?_⟩⟩
    rw [flat_length, hll] at hi
    have f := flat_at l (i / 32) (i % 32) (by rw [hll]; omega) (by omega)
    have q := hp (i / 32) (by omega) (i % 32) (by omega)
    rw [show i / 32 * 32 + i % 32 = i by omega] at f q
    rw [q, f]
end
end Go.Proofs.YtechkdhehipliaaGreatDoor.OpenI
namespace Go.Proofs.YtechkdhehipliaaGreatDoor.OpenO
set_option maxRecDepth 100000
open Go Go.Deep Go.Joins Go.ChangeShapes Go.WideShapes Go.ChangeAt Go.RowKit Byt OpsM OpsW OpsC

theorem i64_of {n : Int} (h : (Lit.int .i64 n).wf = true) : I64 n := by
  unfold I64
  simpa [Lit.wf, IntKind.min, IntKind.max, IntKind.bits, IntKind.signed] using h
theorem open_op {H : Type} {enc : TypeId × Value → H} {P : Program} {t : TypeId} {W : World} {base : Nat} {f0 f1 f2 f3 : Field} (hs : P.underlying t = some (.struct #[f0, f1, f2, f3])) (hone : oneCellFields P #[f0, f1, f2, f3] = true) (hC : P.cellsOf t = 4)
    (h0 : P.underlying f0.type = some (.int .i64)) (h1 : P.underlying f1.type = some .string) (h2 : P.underlying f2.type = some .string) (h3 : P.underlying f3.type = some (.int .i64)) {v : Value} {d : DataW H} {p : List MemPlace}
    (hval : Value.okWide P W .any base t v) (h : DataW.Trod enc P W 0 (fun _ => true) true t v d p) : ∃ o : Opn, v = .agg (opc o) ∧ Fit o := by
  obtain ⟨v0, v1, v2, v3, y0, y1, y2, y3, n, rfl, _, _, e0, e1, e2, e3⟩ := open_agg4 hs hone hC hval h
  obtain ⟨a, q0, _, w0⟩ := DataW.trod_int h0 e0
  obtain ⟨b, q3, _, w3⟩ := DataW.trod_int h3 e3
  obtain ⟨s, q1, _, w1⟩ := DataW.trod_string h1 e1
  obtain ⟨u, q2, _, w2⟩ := DataW.trod_string h2 e2
  simp only [List.cons.injEq, and_true] at q0 q1 q2 q3
  subst q0 q1 q2 q3
  exact ⟨⟨a, s, u, b⟩, rfl, ⟨i64_of w0, i64_of w3, w1, w2⟩⟩
end Go.Proofs.YtechkdhehipliaaGreatDoor.OpenO
