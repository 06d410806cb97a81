/- The commits of chapter 13's example: their bytes, their ids (each block's words and states stand here written out; the kernel holds them against the definitions), that they are closed, and what their state has. No condition. -/
import Derived.Test.YtgmdhaepiclkcaaGreatDoorSmallJ8
import Derived.Test.YtgmdhaepiclkcaaGreatDoorCmAJ3
import Derived.Test.YtgmdhaepiclkcaaGreatDoorFrMJ4
namespace Go.Proofs.YtgmdhaepiclkcaaGreatDoor.EaJ
set_option maxRecDepth 100000
open Go RotM RotN ShaM ShaD PadM SumM ShaK Byt EncM EncC IdM IdW OpsM OpsW CmM CmW CmY CmA DgM FrM FrN EaM EaN
open Classical
def oA : Opn := ⟨2, ⟨#[97]⟩, ⟨#[120]⟩, 0⟩
def oD : Opn := ⟨3, ⟨#[97]⟩, ⟨#[120]⟩, 0⟩
def ka : Com := ⟨0, 1, 1, [], oA⟩
def kb (I : Idn) : Com := ⟨0, 2, 2, [I], oD⟩
def kc (I : Idn) : Com := ⟨1, 1, 2, [I], oA⟩
theorem text2 : textL [120] = [1, 120] := by
 unfold textL
 rw [show [(120 : Int)].length = 1 from rfl, numL_one (by omega)]
 rfl
theorem opA : putL oA = [2, 1, 97, 1, 120] := by
 unfold putL tailL
 rw [show bytesL oA.key = [97] by kernel_rfl, show bytesL oA.elem = [120] by kernel_rfl, CmA.text1, text2, show oA.kind.toNat = 2 from rfl, if_neg (show ¬ oA.kind = 0 by decide), numL_one (by omega)]
 rfl
theorem opD : putL oD = [3, 1, 97, 1, 120] := by
 unfold putL tailL
 rw [show bytesL oD.key = [97] by kernel_rfl, show bytesL oD.elem = [120] by kernel_rfl, CmA.text1, text2, show oD.kind.toNat = 3 from rfl, if_neg (show ¬ oD.kind = 0 by decide), numL_one (by omega)]
 rfl
theorem puta : putK ka = [0, 1, 1, 0, 2, 1, 97, 1, 120] := by
 unfold putK headL opL
 rw [if_neg (show ¬ ka.node = -1 by decide), show ka.op = oA from rfl, opA, show (foldI ka.node).toNat = 0 by kernel_rfl, show ka.seq.toNat = 1 from rfl, show ka.gen.toNat = 1 from rfl, show ka.ps.length = 0 from rfl, numL_one (by omega), numL_one (by omega)]
 rfl
theorem putb (I : Idn) : putK (kb I) = [0, 2, 2, 1] ++ (I.val ++ [3, 1, 97, 1, 120]) := by
 unfold putK headL opL
 rw [show (kb I).node = 0 from rfl, if_neg (show ¬ (0 : Int) = -1 by decide), show (kb I).op = oD from rfl, opD, show (foldI 0).toNat = 0 by kernel_rfl, show (kb I).seq.toNat = 2 from rfl, show (kb I).gen.toNat = 2 from rfl, show (kb I).ps.length = 1 from rfl, numL_one (by omega), numL_one (by omega), numL_one (by omega), show (kb I).ps = [I] from rfl, flatL_cons]
 simp [flatL]
theorem putc (I : Idn) : putK (kc I) = [2, 1, 2, 1] ++ (I.val ++ [2, 1, 97, 1, 120]) := by
 unfold putK headL opL
 rw [show (kc I).node = 1 from rfl, if_neg (show ¬ (1 : Int) = -1 by decide), show (kc I).op = oA from rfl, opA, show (foldI 1).toNat = 2 by kernel_rfl, show (kc I).seq.toNat = 1 from rfl, show (kc I).gen.toNat = 2 from rfl, show (kc I).ps.length = 1 from rfl, numL_one (by omega), numL_one (by omega), show (kc I).ps = [I] from rfl, flatL_cons]
 simp [flatL]
def PA : List Int := [0, 1, 1, 0, 2, 1, 97, 1, 120]
def wsA0 : List (BitVec 32) := [0x00010100#32, 0x02016101#32, 0x78800000#32, 0x00000000#32, 0x00000000#32, 0x00000000#32, 0x00000000#32, 0x00000000#32, 0x00000000#32, 0x00000000#32, 0x00000000#32, 0x00000000#32, 0x00000000#32, 0x00000000#32, 0x00000000#32, 0x00000048#32, 0x5a056f62#32, 0x120f7f21#32, 0x92cbe719#32, 0x50702899#32, 0x8f4b49c5#32, 0x114b9e3c#32, 0xcdf9a4e6#32, 0x16e347cd#32, 0xf8ec404b#32, 0x5de67895#32, 0xf882e114#32, 0x829ac696#32, 0x3de26225#32, 0x09b2dc95#32, 0x244e89ab#32, 0xc2f2bb9e#32, 0xed83829c#32, 0xedd8f55d#32, 0xf915ea9e#32, 0x3b1764a1#32, 0x7ea5edd5#32, 0x51821bc2#32, 0x253f064f#32, 0xebf27b92#32, 0x09cec43b#32, 0x58229f0c#32, 0x7b26aa1d#32, 0xf3012c15#32, 0xabb8d58b#32, 0xd351efc4#32, 0x0bdb5693#32, 0x5bbbf3c8#32, 0xa2770822#32, 0x49029093#32, 0xed913c02#32, 0xdf7670f9#32, 0x1415fffd#32, 0xaf2fd3a8#32, 0x674c3987#32, 0x681894b6#32, 0xa332e1e6#32, 0x3da1a116#32, 0x0607bf77#32, 0x23005f12#32, 0x6b7b3652#32, 0x51c9ddcb#32, 0xd91fb0d8#32, 0x673a2de1#32]
def stA0 : List H8 := [⟨0x6a09e667#32, 0xbb67ae85#32, 0x3c6ef372#32, 0xa54ff53a#32, 0x510e527f#32, 0x9b05688c#32, 0x1f83d9ab#32, 0x5be0cd19#32⟩, ⟨0xfc09894d#32, 0x6a09e667#32, 0xbb67ae85#32, 0x3c6ef372#32, 0x98c8e3a2#32, 0x510e527f#32, 0x9b05688c#32, 0x1f83d9ab#32⟩, ⟨0x4d5e197d#32, 0xfc09894d#32, 0x6a09e667#32, 0xbb67ae85#32, 0x7c7aa8bb#32, 0x98c8e3a2#32, 0x510e527f#32, 0x9b05688c#32⟩, ⟨0xf73f3291#32, 0x4d5e197d#32, 0xfc09894d#32, 0x6a09e667#32, 0x65c53e0f#32, 0x7c7aa8bb#32, 0x98c8e3a2#32, 0x510e527f#32⟩, ⟨0x689b0f9a#32, 0xf73f3291#32, 0x4d5e197d#32, 0xfc09894d#32, 0xbffbaa23#32, 0x65c53e0f#32, 0x7c7aa8bb#32, 0x98c8e3a2#32⟩, ⟨0x6728dacf#32, 0x689b0f9a#32, 0xf73f3291#32, 0x4d5e197d#32, 0x6b4759e7#32, 0xbffbaa23#32, 0x65c53e0f#32, 0x7c7aa8bb#32⟩, ⟨0x1d30bc14#32, 0x6728dacf#32, 0x689b0f9a#32, 0xf73f3291#32, 0x5679888d#32, 0x6b4759e7#32, 0xbffbaa23#32, 0x65c53e0f#32⟩, ⟨0x8e5490a4#32, 0x1d30bc14#32, 0x6728dacf#32, 0x689b0f9a#32, 0xf33e8da3#32, 0x5679888d#32, 0x6b4759e7#32, 0xbffbaa23#32⟩, ⟨0x6eaa8b13#32, 0x8e5490a4#32, 0x1d30bc14#32, 0x6728dacf#32, 0xd3213d75#32, 0xf33e8da3#32, 0x5679888d#32, 0x6b4759e7#32⟩, ⟨0x3b7e1ea1#32, 0x6eaa8b13#32, 0x8e5490a4#32, 0x1d30bc14#32, 0x6b58c732#32, 0xd3213d75#32, 0xf33e8da3#32, 0x5679888d#32⟩, ⟨0x31d1f5c6#32, 0x3b7e1ea1#32, 0x6eaa8b13#32, 0x8e5490a4#32, 0xdcd73e84#32, 0x6b58c732#32, 0xd3213d75#32, 0xf33e8da3#32⟩, ⟨0xace52a01#32, 0x31d1f5c6#32, 0x3b7e1ea1#32, 0x6eaa8b13#32, 0x99ac2fe9#32, 0xdcd73e84#32, 0x6b58c732#32, 0xd3213d75#32⟩, ⟨0x99d6855b#32, 0xace52a01#32, 0x31d1f5c6#32, 0x3b7e1ea1#32, 0x1eefa6d3#32, 0x99ac2fe9#32, 0xdcd73e84#32, 0x6b58c732#32⟩, ⟨0xe9301513#32, 0x99d6855b#32, 0xace52a01#32, 0x31d1f5c6#32, 0xd41c8cec#32, 0x1eefa6d3#32, 0x99ac2fe9#32, 0xdcd73e84#32⟩, ⟨0xd86a287e#32, 0xe9301513#32, 0x99d6855b#32, 0xace52a01#32, 0xcdc115d1#32, 0xd41c8cec#32, 0x1eefa6d3#32, 0x99ac2fe9#32⟩, ⟨0x5ffae96f#32, 0xd86a287e#32, 0xe9301513#32, 0x99d6855b#32, 0xd6205be6#32, 0xcdc115d1#32, 0xd41c8cec#32, 0x1eefa6d3#32⟩, ⟨0xecf406d8#32, 0x5ffae96f#32, 0xd86a287e#32, 0xe9301513#32, 0x362e69c1#32, 0xd6205be6#32, 0xcdc115d1#32, 0xd41c8cec#32⟩, ⟨0xd9448ef3#32, 0xecf406d8#32, 0x5ffae96f#32, 0xd86a287e#32, 0x079975e3#32, 0x362e69c1#32, 0xd6205be6#32, 0xcdc115d1#32⟩, ⟨0x146465af#32, 0xd9448ef3#32, 0xecf406d8#32, 0x5ffae96f#32, 0x7ae5d835#32, 0x079975e3#32, 0x362e69c1#32, 0xd6205be6#32⟩, ⟨0x773d3120#32, 0x146465af#32, 0xd9448ef3#32, 0xecf406d8#32, 0x80dd0d7b#32, 0x7ae5d835#32, 0x079975e3#32, 0x362e69c1#32⟩, ⟨0x97d3194b#32, 0x773d3120#32, 0x146465af#32, 0xd9448ef3#32, 0xcf5a8603#32, 0x80dd0d7b#32, 0x7ae5d835#32, 0x079975e3#32⟩, ⟨0x531550bd#32, 0x97d3194b#32, 0x773d3120#32, 0x146465af#32, 0xb11757f0#32, 0xcf5a8603#32, 0x80dd0d7b#32, 0x7ae5d835#32⟩, ⟨0xeb7bdc05#32, 0x531550bd#32, 0x97d3194b#32, 0x773d3120#32, 0x245df6c2#32, 0xb11757f0#32, 0xcf5a8603#32, 0x80dd0d7b#32⟩, ⟨0xdda263f4#32, 0xeb7bdc05#32, 0x531550bd#32, 0x97d3194b#32, 0x0c0a8195#32, 0x245df6c2#32, 0xb11757f0#32, 0xcf5a8603#32⟩, ⟨0xf29b86a7#32, 0xdda263f4#32, 0xeb7bdc05#32, 0x531550bd#32, 0x0df9a8a5#32, 0x0c0a8195#32, 0x245df6c2#32, 0xb11757f0#32⟩, ⟨0x8dd07cc9#32, 0xf29b86a7#32, 0xdda263f4#32, 0xeb7bdc05#32, 0x3da61c22#32, 0x0df9a8a5#32, 0x0c0a8195#32, 0x245df6c2#32⟩, ⟨0xba3bbb91#32, 0x8dd07cc9#32, 0xf29b86a7#32, 0xdda263f4#32, 0x0359d92b#32, 0x3da61c22#32, 0x0df9a8a5#32, 0x0c0a8195#32⟩, ⟨0xff3b9547#32, 0xba3bbb91#32, 0x8dd07cc9#32, 0xf29b86a7#32, 0xc554c0e9#32, 0x0359d92b#32, 0x3da61c22#32, 0x0df9a8a5#32⟩, ⟨0x150e19d8#32, 0xff3b9547#32, 0xba3bbb91#32, 0x8dd07cc9#32, 0x8cc9df4d#32, 0xc554c0e9#32, 0x0359d92b#32, 0x3da61c22#32⟩, ⟨0x38464b48#32, 0x150e19d8#32, 0xff3b9547#32, 0xba3bbb91#32, 0x12f6dfee#32, 0x8cc9df4d#32, 0xc554c0e9#32, 0x0359d92b#32⟩, ⟨0x71e7224a#32, 0x38464b48#32, 0x150e19d8#32, 0xff3b9547#32, 0xa1975492#32, 0x12f6dfee#32, 0x8cc9df4d#32, 0xc554c0e9#32⟩, ⟨0x54ae2e50#32, 0x71e7224a#32, 0x38464b48#32, 0x150e19d8#32, 0x100049e3#32, 0xa1975492#32, 0x12f6dfee#32, 0x8cc9df4d#32⟩, ⟨0x66da2585#32, 0x54ae2e50#32, 0x71e7224a#32, 0x38464b48#32, 0x2bf1a55e#32, 0x100049e3#32, 0xa1975492#32, 0x12f6dfee#32⟩, ⟨0x65e9a6f0#32, 0x66da2585#32, 0x54ae2e50#32, 0x71e7224a#32, 0x0c3621cd#32, 0x2bf1a55e#32, 0x100049e3#32, 0xa1975492#32⟩, ⟨0xd98a3b90#32, 0x65e9a6f0#32, 0x66da2585#32, 0x54ae2e50#32, 0x5e24afa4#32, 0x0c3621cd#32, 0x2bf1a55e#32, 0x100049e3#32⟩, ⟨0x23b071c2#32, 0xd98a3b90#32, 0x65e9a6f0#32, 0x66da2585#32, 0x508a76af#32, 0x5e24afa4#32, 0x0c3621cd#32, 0x2bf1a55e#32⟩, ⟨0x6ceaeb7f#32, 0x23b071c2#32, 0xd98a3b90#32, 0x65e9a6f0#32, 0xaae2d3b7#32, 0x508a76af#32, 0x5e24afa4#32, 0x0c3621cd#32⟩, ⟨0xb2baaa6b#32, 0x6ceaeb7f#32, 0x23b071c2#32, 0xd98a3b90#32, 0x838db54e#32, 0xaae2d3b7#32, 0x508a76af#32, 0x5e24afa4#32⟩, ⟨0xc5ae06da#32, 0xb2baaa6b#32, 0x6ceaeb7f#32, 0x23b071c2#32, 0x2722c57a#32, 0x838db54e#32, 0xaae2d3b7#32, 0x508a76af#32⟩, ⟨0x7e5922a4#32, 0xc5ae06da#32, 0xb2baaa6b#32, 0x6ceaeb7f#32, 0x7db8221b#32, 0x2722c57a#32, 0x838db54e#32, 0xaae2d3b7#32⟩, ⟨0x27eeb9e1#32, 0x7e5922a4#32, 0xc5ae06da#32, 0xb2baaa6b#32, 0x2fe056dd#32, 0x7db8221b#32, 0x2722c57a#32, 0x838db54e#32⟩, ⟨0x60f3319d#32, 0x27eeb9e1#32, 0x7e5922a4#32, 0xc5ae06da#32, 0x6faaa396#32, 0x2fe056dd#32, 0x7db8221b#32, 0x2722c57a#32⟩, ⟨0xe43f527d#32, 0x60f3319d#32, 0x27eeb9e1#32, 0x7e5922a4#32, 0x2ae06935#32, 0x6faaa396#32, 0x2fe056dd#32, 0x7db8221b#32⟩, ⟨0xe9ad0bb2#32, 0xe43f527d#32, 0x60f3319d#32, 0x27eeb9e1#32, 0xeb5df964#32, 0x2ae06935#32, 0x6faaa396#32, 0x2fe056dd#32⟩, ⟨0x5f8ec659#32, 0xe9ad0bb2#32, 0xe43f527d#32, 0x60f3319d#32, 0x52eba85b#32, 0xeb5df964#32, 0x2ae06935#32, 0x6faaa396#32⟩, ⟨0xb7159432#32, 0x5f8ec659#32, 0xe9ad0bb2#32, 0xe43f527d#32, 0xcc295ab8#32, 0x52eba85b#32, 0xeb5df964#32, 0x2ae06935#32⟩, ⟨0x325b224e#32, 0xb7159432#32, 0x5f8ec659#32, 0xe9ad0bb2#32, 0xbd0cd71d#32, 0xcc295ab8#32, 0x52eba85b#32, 0xeb5df964#32⟩, ⟨0xf6e904cb#32, 0x325b224e#32, 0xb7159432#32, 0x5f8ec659#32, 0xb70827a0#32, 0xbd0cd71d#32, 0xcc295ab8#32, 0x52eba85b#32⟩, ⟨0xe5648b57#32, 0xf6e904cb#32, 0x325b224e#32, 0xb7159432#32, 0x0ea373c5#32, 0xb70827a0#32, 0xbd0cd71d#32, 0xcc295ab8#32⟩, ⟨0xa4a8df61#32, 0xe5648b57#32, 0xf6e904cb#32, 0x325b224e#32, 0x338a1ae0#32, 0x0ea373c5#32, 0xb70827a0#32, 0xbd0cd71d#32⟩, ⟨0xdad157f8#32, 0xa4a8df61#32, 0xe5648b57#32, 0xf6e904cb#32, 0xf6e956f7#32, 0x338a1ae0#32, 0x0ea373c5#32, 0xb70827a0#32⟩, ⟨0x2d0851e8#32, 0xdad157f8#32, 0xa4a8df61#32, 0xe5648b57#32, 0x72e31723#32, 0xf6e956f7#32, 0x338a1ae0#32, 0x0ea373c5#32⟩, ⟨0x00af3651#32, 0x2d0851e8#32, 0xdad157f8#32, 0xa4a8df61#32, 0x94468d34#32, 0x72e31723#32, 0xf6e956f7#32, 0x338a1ae0#32⟩, ⟨0xa2306d09#32, 0x00af3651#32, 0x2d0851e8#32, 0xdad157f8#32, 0xefd56783#32, 0x94468d34#32, 0x72e31723#32, 0xf6e956f7#32⟩, ⟨0x8066fa60#32, 0xa2306d09#32, 0x00af3651#32, 0x2d0851e8#32, 0x799ab0c6#32, 0xefd56783#32, 0x94468d34#32, 0x72e31723#32⟩, ⟨0xd92c4143#32, 0x8066fa60#32, 0xa2306d09#32, 0x00af3651#32, 0x1d19d53c#32, 0x799ab0c6#32, 0xefd56783#32, 0x94468d34#32⟩, ⟨0x08fcde5b#32, 0xd92c4143#32, 0x8066fa60#32, 0xa2306d09#32, 0x3c36d515#32, 0x1d19d53c#32, 0x799ab0c6#32, 0xefd56783#32⟩, ⟨0x9e798fd3#32, 0x08fcde5b#32, 0xd92c4143#32, 0x8066fa60#32, 0xf49f0646#32, 0x3c36d515#32, 0x1d19d53c#32, 0x799ab0c6#32⟩, ⟨0x2143049e#32, 0x9e798fd3#32, 0x08fcde5b#32, 0xd92c4143#32, 0x89ef516a#32, 0xf49f0646#32, 0x3c36d515#32, 0x1d19d53c#32⟩, ⟨0x7695099e#32, 0x2143049e#32, 0x9e798fd3#32, 0x08fcde5b#32, 0xa694084c#32, 0x89ef516a#32, 0xf49f0646#32, 0x3c36d515#32⟩, ⟨0xe9597e1f#32, 0x7695099e#32, 0x2143049e#32, 0x9e798fd3#32, 0x3694bfc7#32, 0xa694084c#32, 0x89ef516a#32, 0xf49f0646#32⟩, ⟨0x1fde6078#32, 0xe9597e1f#32, 0x7695099e#32, 0x2143049e#32, 0xedb578c4#32, 0x3694bfc7#32, 0xa694084c#32, 0x89ef516a#32⟩, ⟨0x75c8c4d6#32, 0x1fde6078#32, 0xe9597e1f#32, 0x7695099e#32, 0x9977dac4#32, 0xedb578c4#32, 0x3694bfc7#32, 0xa694084c#32⟩, ⟨0xf62999c0#32, 0x75c8c4d6#32, 0x1fde6078#32, 0xe9597e1f#32, 0x5613785c#32, 0x9977dac4#32, 0xedb578c4#32, 0x3694bfc7#32⟩, ⟨0x5f19f6b7#32, 0xf62999c0#32, 0x75c8c4d6#32, 0x1fde6078#32, 0x7abfdf22#32, 0x5613785c#32, 0x9977dac4#32, 0xedb578c4#32⟩]
def endA0 : H8 := ⟨0xc923dd1e#32, 0xb1914845#32, 0xb237b848#32, 0xc52e55b2#32, 0xcbce31a1#32, 0xf118e0e8#32, 0xb8fbb46f#32, 0x499645dd#32⟩
theorem blockA0 : blockS startS (wordsOf (blk (padL PA) 0)) = endA0 :=
 block_of_ok (l := wsA0) (ls := stA0) (by kernel_rfl) (by kernel_rfl) (by kernel_rfl)
theorem sumA : hsum (padL PA) 1 = endA0 := by
 exact blockA0
def LA : List Int := [201, 35, 221, 30, 177, 145, 72, 69, 178, 55, 184, 72, 197, 46, 85, 178, 203, 206, 49, 161, 241, 24, 224, 232, 184, 251, 180, 111, 73, 150, 69, 221]
theorem digA : ShaH.sumL PA = LA := by
 unfold ShaH.sumL
 rw [show nPad PA.length / 64 = 1 by kernel_rfl, sumA]
 kernel_rfl
def IA : Idn := CmS.sumI PA
theorem valA : IA.val = LA := digA
def PB : List Int := [0, 2, 2, 1, 201, 35, 221, 30, 177, 145, 72, 69, 178, 55, 184, 72, 197, 46, 85, 178, 203, 206, 49, 161, 241, 24, 224, 232, 184, 251, 180, 111, 73, 150, 69, 221, 3, 1, 97, 1, 120]
def wsB0 : List (BitVec 32) := [0x00020201#32, 0xc923dd1e#32, 0xb1914845#32, 0xb237b848#32, 0xc52e55b2#32, 0xcbce31a1#32, 0xf118e0e8#32, 0xb8fbb46f#32, 0x499645dd#32, 0x03016101#32, 0x78800000#32, 0x00000000#32, 0x00000000#32, 0x00000000#32, 0x00000000#32, 0x00000148#32, 0xd6f4f153#32, 0x1171451a#32, 0x017829d1#32, 0x24a4f665#32, 0xad877cef#32, 0xa9c06336#32, 0x684f94b7#32, 0xf09f4dd7#32, 0xee0543e4#32, 0x63c7ca81#32, 0xa6da61f7#32, 0xc98fe958#32, 0x26acf464#32, 0x7204b2c3#32, 0x65a88ac0#32, 0x3e521e0f#32, 0xf6285e8c#32, 0xad6f48ac#32, 0xe2f720f8#32, 0xae8a8d96#32, 0xf48e276f#32, 0xadafc5d9#32, 0xe090052b#32, 0x8629ce70#32, 0x999c631f#32, 0x8981d666#32, 0x6624190c#32, 0x817dd51b#32, 0x082f34c9#32, 0x517200f9#32, 0x07073078#32, 0x28f0c62b#32, 0x9cb91480#32, 0xb51361f2#32, 0xa95658ac#32, 0xdc4730d2#32, 0x850288da#32, 0x7d94f343#32, 0xa12d69b1#32, 0x3f80e9f6#32, 0x12310ffa#32, 0xaeee39b6#32, 0x3addb251#32, 0x406e9214#32, 0x6de325a7#32, 0xcae907f6#32, 0x9fc97167#32, 0x35e75424#32]
def stB0 : List H8 := [⟨0x6a09e667#32, 0xbb67ae85#32, 0x3c6ef372#32, 0xa54ff53a#32, 0x510e527f#32, 0x9b05688c#32, 0x1f83d9ab#32, 0x5be0cd19#32⟩, ⟨0xfc0a8a4e#32, 0x6a09e667#32, 0xbb67ae85#32, 0x3c6ef372#32, 0x98c9e4a3#32, 0x510e527f#32, 0x9b05688c#32, 0x1f83d9ab#32⟩, ⟨0xad35da69#32, 0xfc0a8a4e#32, 0x6a09e667#32, 0xbb67ae85#32, 0x283ca65d#32, 0x98c9e4a3#32, 0x510e527f#32, 0x9b05688c#32⟩, ⟨0x582d004b#32, 0xad35da69#32, 0xfc0a8a4e#32, 0x6a09e667#32, 0xb8212ae1#32, 0x283ca65d#32, 0x98c9e4a3#32, 0x510e527f#32⟩, ⟨0x3ca5f366#32, 0x582d004b#32, 0xad35da69#32, 0xfc0a8a4e#32, 0x4a31a368#32, 0xb8212ae1#32, 0x283ca65d#32, 0x98c9e4a3#32⟩, ⟨0x54672b30#32, 0x3ca5f366#32, 0x582d004b#32, 0xad35da69#32, 0x9076e20f#32, 0x4a31a368#32, 0xb8212ae1#32, 0x283ca65d#32⟩, ⟨0xe74d3379#32, 0x54672b30#32, 0x3ca5f366#32, 0x582d004b#32, 0x682641dc#32, 0x9076e20f#32, 0x4a31a368#32, 0xb8212ae1#32⟩, ⟨0xe1f5a92e#32, 0xe74d3379#32, 0x54672b30#32, 0x3ca5f366#32, 0xeeebe4df#32, 0x682641dc#32, 0x9076e20f#32, 0x4a31a368#32⟩, ⟨0xc5482039#32, 0xe1f5a92e#32, 0xe74d3379#32, 0x54672b30#32, 0xf4da0a06#32, 0xeeebe4df#32, 0x682641dc#32, 0x9076e20f#32⟩, ⟨0x0a75eb08#32, 0xc5482039#32, 0xe1f5a92e#32, 0xe74d3379#32, 0x29732fa5#32, 0xf4da0a06#32, 0xeeebe4df#32, 0x682641dc#32⟩, ⟨0x8d03aaf7#32, 0x0a75eb08#32, 0xc5482039#32, 0xe1f5a92e#32, 0x256a2c04#32, 0x29732fa5#32, 0xf4da0a06#32, 0xeeebe4df#32⟩, ⟨0xea2fa757#32, 0x8d03aaf7#32, 0x0a75eb08#32, 0xc5482039#32, 0x848c49b8#32, 0x256a2c04#32, 0x29732fa5#32, 0xf4da0a06#32⟩, ⟨0x1359c512#32, 0xea2fa757#32, 0x8d03aaf7#32, 0x0a75eb08#32, 0xcfd052f4#32, 0x848c49b8#32, 0x256a2c04#32, 0x29732fa5#32⟩, ⟨0xfcca060d#32, 0x1359c512#32, 0xea2fa757#32, 0x8d03aaf7#32, 0xb0e1a5f7#32, 0xcfd052f4#32, 0x848c49b8#32, 0x256a2c04#32⟩, ⟨0x9d8d5fb0#32, 0xfcca060d#32, 0x1359c512#32, 0xea2fa757#32, 0xc9003370#32, 0xb0e1a5f7#32, 0xcfd052f4#32, 0x848c49b8#32⟩, ⟨0x61c00c02#32, 0x9d8d5fb0#32, 0xfcca060d#32, 0x1359c512#32, 0xbe8cf259#32, 0xc9003370#32, 0xb0e1a5f7#32, 0xcfd052f4#32⟩, ⟨0x7b9d5eb5#32, 0x61c00c02#32, 0x9d8d5fb0#32, 0xfcca060d#32, 0x98dc1140#32, 0xbe8cf259#32, 0xc9003370#32, 0xb0e1a5f7#32⟩, ⟨0xe23abc5f#32, 0x7b9d5eb5#32, 0x61c00c02#32, 0x9d8d5fb0#32, 0x87410513#32, 0x98dc1140#32, 0xbe8cf259#32, 0xc9003370#32⟩, ⟨0x2404f6b0#32, 0xe23abc5f#32, 0x7b9d5eb5#32, 0x61c00c02#32, 0x6d7978ff#32, 0x87410513#32, 0x98dc1140#32, 0xbe8cf259#32⟩, ⟨0xd5e7cc4d#32, 0x2404f6b0#32, 0xe23abc5f#32, 0x7b9d5eb5#32, 0x262ffc7f#32, 0x6d7978ff#32, 0x87410513#32, 0x98dc1140#32⟩, ⟨0x57c6d064#32, 0xd5e7cc4d#32, 0x2404f6b0#32, 0xe23abc5f#32, 0x6716c742#32, 0x262ffc7f#32, 0x6d7978ff#32, 0x87410513#32⟩, ⟨0xdf2e343a#32, 0x57c6d064#32, 0xd5e7cc4d#32, 0x2404f6b0#32, 0xde0f80c5#32, 0x6716c742#32, 0x262ffc7f#32, 0x6d7978ff#32⟩, ⟨0x568d6de4#32, 0xdf2e343a#32, 0x57c6d064#32, 0xd5e7cc4d#32, 0xf3ddf125#32, 0xde0f80c5#32, 0x6716c742#32, 0x262ffc7f#32⟩, ⟨0xc58e5288#32, 0x568d6de4#32, 0xdf2e343a#32, 0x57c6d064#32, 0xf4b12c29#32, 0xf3ddf125#32, 0xde0f80c5#32, 0x6716c742#32⟩, ⟨0xb7c795b5#32, 0xc58e5288#32, 0x568d6de4#32, 0xdf2e343a#32, 0x9b9055ab#32, 0xf4b12c29#32, 0xf3ddf125#32, 0xde0f80c5#32⟩, ⟨0xde0283eb#32, 0xb7c795b5#32, 0xc58e5288#32, 0x568d6de4#32, 0x0796d4f3#32, 0x9b9055ab#32, 0xf4b12c29#32, 0xf3ddf125#32⟩, ⟨0x46f66207#32, 0xde0283eb#32, 0xb7c795b5#32, 0xc58e5288#32, 0xe32b3cac#32, 0x0796d4f3#32, 0x9b9055ab#32, 0xf4b12c29#32⟩, ⟨0x0985e13f#32, 0x46f66207#32, 0xde0283eb#32, 0xb7c795b5#32, 0xe03dfdf7#32, 0xe32b3cac#32, 0x0796d4f3#32, 0x9b9055ab#32⟩, ⟨0xb64bb29b#32, 0x0985e13f#32, 0x46f66207#32, 0xde0283eb#32, 0x436e9cdb#32, 0xe03dfdf7#32, 0xe32b3cac#32, 0x0796d4f3#32⟩, ⟨0x74ca5e83#32, 0xb64bb29b#32, 0x0985e13f#32, 0x46f66207#32, 0xf47fd02d#32, 0x436e9cdb#32, 0xe03dfdf7#32, 0xe32b3cac#32⟩, ⟨0x2decd38d#32, 0x74ca5e83#32, 0xb64bb29b#32, 0x0985e13f#32, 0x3fc406d8#32, 0xf47fd02d#32, 0x436e9cdb#32, 0xe03dfdf7#32⟩, ⟨0xb4424a54#32, 0x2decd38d#32, 0x74ca5e83#32, 0xb64bb29b#32, 0x24a0e9d6#32, 0x3fc406d8#32, 0xf47fd02d#32, 0x436e9cdb#32⟩, ⟨0x6852aecd#32, 0xb4424a54#32, 0x2decd38d#32, 0x74ca5e83#32, 0x7337a48d#32, 0x24a0e9d6#32, 0x3fc406d8#32, 0xf47fd02d#32⟩, ⟨0x11f88245#32, 0x6852aecd#32, 0xb4424a54#32, 0x2decd38d#32, 0xf3bb3974#32, 0x7337a48d#32, 0x24a0e9d6#32, 0x3fc406d8#32⟩, ⟨0x9800b894#32, 0x11f88245#32, 0x6852aecd#32, 0xb4424a54#32, 0xe13b46ca#32, 0xf3bb3974#32, 0x7337a48d#32, 0x24a0e9d6#32⟩, ⟨0xb0172f17#32, 0x9800b894#32, 0x11f88245#32, 0x6852aecd#32, 0x6bc21266#32, 0xe13b46ca#32, 0xf3bb3974#32, 0x7337a48d#32⟩, ⟨0xf2b56d97#32, 0xb0172f17#32, 0x9800b894#32, 0x11f88245#32, 0x02f35c93#32, 0x6bc21266#32, 0xe13b46ca#32, 0xf3bb3974#32⟩, ⟨0xce9d7fb4#32, 0xf2b56d97#32, 0xb0172f17#32, 0x9800b894#32, 0xeadc435e#32, 0x02f35c93#32, 0x6bc21266#32, 0xe13b46ca#32⟩, ⟨0x36145553#32, 0xce9d7fb4#32, 0xf2b56d97#32, 0xb0172f17#32, 0x1f7fa614#32, 0xeadc435e#32, 0x02f35c93#32, 0x6bc21266#32⟩, ⟨0x32fdbd7e#32, 0x36145553#32, 0xce9d7fb4#32, 0xf2b56d97#32, 0xb63585d0#32, 0x1f7fa614#32, 0xeadc435e#32, 0x02f35c93#32⟩, ⟨0x24f29491#32, 0x32fdbd7e#32, 0x36145553#32, 0xce9d7fb4#32, 0x4f4f8439#32, 0xb63585d0#32, 0x1f7fa614#32, 0xeadc435e#32⟩, ⟨0x62215bef#32, 0x24f29491#32, 0x32fdbd7e#32, 0x36145553#32, 0xd1e2802d#32, 0x4f4f8439#32, 0xb63585d0#32, 0x1f7fa614#32⟩, ⟨0xa1bfa1ee#32, 0x62215bef#32, 0x24f29491#32, 0x32fdbd7e#32, 0x32455ec9#32, 0xd1e2802d#32, 0x4f4f8439#32, 0xb63585d0#32⟩, ⟨0x9580d4bd#32, 0xa1bfa1ee#32, 0x62215bef#32, 0x24f29491#32, 0x4e2da14c#32, 0x32455ec9#32, 0xd1e2802d#32, 0x4f4f8439#32⟩, ⟨0x9fe2c1e4#32, 0x9580d4bd#32, 0xa1bfa1ee#32, 0x62215bef#32, 0x5f551507#32, 0x4e2da14c#32, 0x32455ec9#32, 0xd1e2802d#32⟩, ⟨0x6a44c530#32, 0x9fe2c1e4#32, 0x9580d4bd#32, 0xa1bfa1ee#32, 0x92e78223#32, 0x5f551507#32, 0x4e2da14c#32, 0x32455ec9#32⟩, ⟨0x325dc2dd#32, 0x6a44c530#32, 0x9fe2c1e4#32, 0x9580d4bd#32, 0x1455fc54#32, 0x92e78223#32, 0x5f551507#32, 0x4e2da14c#32⟩, ⟨0xfc70d814#32, 0x325dc2dd#32, 0x6a44c530#32, 0x9fe2c1e4#32, 0x2a37544d#32, 0x1455fc54#32, 0x92e78223#32, 0x5f551507#32⟩, ⟨0x875e55bc#32, 0xfc70d814#32, 0x325dc2dd#32, 0x6a44c530#32, 0x7010d11a#32, 0x2a37544d#32, 0x1455fc54#32, 0x92e78223#32⟩, ⟨0x5c43ce87#32, 0x875e55bc#32, 0xfc70d814#32, 0x325dc2dd#32, 0x1ac6659b#32, 0x7010d11a#32, 0x2a37544d#32, 0x1455fc54#32⟩, ⟨0x5c6f91e5#32, 0x5c43ce87#32, 0x875e55bc#32, 0xfc70d814#32, 0x066a6b60#32, 0x1ac6659b#32, 0x7010d11a#32, 0x2a37544d#32⟩, ⟨0x091c525b#32, 0x5c6f91e5#32, 0x5c43ce87#32, 0x875e55bc#32, 0x42c6c256#32, 0x066a6b60#32, 0x1ac6659b#32, 0x7010d11a#32⟩, ⟨0x8a139271#32, 0x091c525b#32, 0x5c6f91e5#32, 0x5c43ce87#32, 0x934be516#32, 0x42c6c256#32, 0x066a6b60#32, 0x1ac6659b#32⟩, ⟨0x041697d8#32, 0x8a139271#32, 0x091c525b#32, 0x5c6f91e5#32, 0x98f961c6#32, 0x934be516#32, 0x42c6c256#32, 0x066a6b60#32⟩, ⟨0xf0d97d95#32, 0x041697d8#32, 0x8a139271#32, 0x091c525b#32, 0x5f9797cf#32, 0x98f961c6#32, 0x934be516#32, 0x42c6c256#32⟩, ⟨0x5d4bc96c#32, 0xf0d97d95#32, 0x041697d8#32, 0x8a139271#32, 0xf0e4f589#32, 0x5f9797cf#32, 0x98f961c6#32, 0x934be516#32⟩, ⟨0x3f91a7ca#32, 0x5d4bc96c#32, 0xf0d97d95#32, 0x041697d8#32, 0x0233b2ef#32, 0xf0e4f589#32, 0x5f9797cf#32, 0x98f961c6#32⟩, ⟨0xea9554c0#32, 0x3f91a7ca#32, 0x5d4bc96c#32, 0xf0d97d95#32, 0x79a7414b#32, 0x0233b2ef#32, 0xf0e4f589#32, 0x5f9797cf#32⟩, ⟨0x283abe08#32, 0xea9554c0#32, 0x3f91a7ca#32, 0x5d4bc96c#32, 0xcf9173a5#32, 0x79a7414b#32, 0x0233b2ef#32, 0xf0e4f589#32⟩, ⟨0x60b6cbff#32, 0x283abe08#32, 0xea9554c0#32, 0x3f91a7ca#32, 0x82b90fac#32, 0xcf9173a5#32, 0x79a7414b#32, 0x0233b2ef#32⟩, ⟨0xabce19e3#32, 0x60b6cbff#32, 0x283abe08#32, 0xea9554c0#32, 0x25af981a#32, 0x82b90fac#32, 0xcf9173a5#32, 0x79a7414b#32⟩, ⟨0x4568cbac#32, 0xabce19e3#32, 0x60b6cbff#32, 0x283abe08#32, 0xe9b62dda#32, 0x25af981a#32, 0x82b90fac#32, 0xcf9173a5#32⟩, ⟨0xbf6c6a71#32, 0x4568cbac#32, 0xabce19e3#32, 0x60b6cbff#32, 0x96a1b3d2#32, 0xe9b62dda#32, 0x25af981a#32, 0x82b90fac#32⟩, ⟨0x21677d79#32, 0xbf6c6a71#32, 0x4568cbac#32, 0xabce19e3#32, 0x44b2d695#32, 0x96a1b3d2#32, 0xe9b62dda#32, 0x25af981a#32⟩, ⟨0x124fd505#32, 0x21677d79#32, 0xbf6c6a71#32, 0x4568cbac#32, 0x5a4c528f#32, 0x44b2d695#32, 0x96a1b3d2#32, 0xe9b62dda#32⟩]
def endB0 : H8 := ⟨0x7c59bb6c#32, 0xdccf2bfe#32, 0xfbdb5de3#32, 0xeab8c0e6#32, 0xab5aa50e#32, 0xdfb83f21#32, 0xb6258d7d#32, 0x4596faf3#32⟩
theorem blockB0 : blockS startS (wordsOf (blk (padL PB) 0)) = endB0 :=
 block_of_ok (l := wsB0) (ls := stB0) (by kernel_rfl) (by kernel_rfl) (by kernel_rfl)
theorem sumB : hsum (padL PB) 1 = endB0 := by
 exact blockB0
def LB : List Int := [124, 89, 187, 108, 220, 207, 43, 254, 251, 219, 93, 227, 234, 184, 192, 230, 171, 90, 165, 14, 223, 184, 63, 33, 182, 37, 141, 125, 69, 150, 250, 243]
theorem digB : ShaH.sumL PB = LB := by
 unfold ShaH.sumL
 rw [show nPad PB.length / 64 = 1 by kernel_rfl, sumB]
 kernel_rfl
def IB : Idn := CmS.sumI PB
theorem valB : IB.val = LB := digB
def PC : List Int := [2, 1, 2, 1, 201, 35, 221, 30, 177, 145, 72, 69, 178, 55, 184, 72, 197, 46, 85, 178, 203, 206, 49, 161, 241, 24, 224, 232, 184, 251, 180, 111, 73, 150, 69, 221, 2, 1, 97, 1, 120]
def wsC0 : List (BitVec 32) := [0x02010201#32, 0xc923dd1e#32, 0xb1914845#32, 0xb237b848#32, 0xc52e55b2#32, 0xcbce31a1#32, 0xf118e0e8#32, 0xb8fbb46f#32, 0x499645dd#32, 0x02016101#32, 0x78800000#32, 0x00000000#32, 0x00000000#32, 0x00000000#32, 0x00000000#32, 0x00000148#32, 0xd7f3f153#32, 0x1171451a#32, 0xa1786b34#32, 0x24a4f665#32, 0xd48918df#32, 0xa9c06336#32, 0xc5cf849e#32, 0xf19e4dd7#32, 0xe7f9c318#32, 0xa2c84bc4#32, 0x76fb87d8#32, 0x013b900e#32, 0x5ccaee79#32, 0x7fd612fc#32, 0xacd50549#32, 0xf43d7629#32, 0x042d623d#32, 0x05fa6ea4#32, 0xb350c316#32, 0xdf07a5bf#32, 0x2ecaae9d#32, 0x410b1cf2#32, 0xdf488424#32, 0x41b9cc92#32, 0xd0830985#32, 0x95a8afbc#32, 0x33f02599#32, 0xb4d19016#32, 0x2803c089#32, 0x20d4b14c#32, 0x97d42cf2#32, 0xb54ad892#32, 0x00b6b68b#32, 0x7d2a0827#32, 0x82e82d49#32, 0xe0370d36#32, 0x8e6c90f0#32, 0xb343a220#32, 0xce6a04fa#32, 0xbbb93541#32, 0xd0f017e7#32, 0x123689ef#32, 0x7d589d48#32, 0xc07f3d95#32, 0xe8620147#32, 0x65708677#32, 0x1a25d7e1#32, 0x95dc6e41#32]
def stC0 : List H8 := [⟨0x6a09e667#32, 0xbb67ae85#32, 0x3c6ef372#32, 0xa54ff53a#32, 0x510e527f#32, 0x9b05688c#32, 0x1f83d9ab#32, 0x5be0cd19#32⟩, ⟨0xfe098a4e#32, 0x6a09e667#32, 0xbb67ae85#32, 0x3c6ef372#32, 0x9ac8e4a3#32, 0x510e527f#32, 0x9b05688c#32, 0x1f83d9ab#32⟩, ⟨0xaf3cc63a#32, 0xfe098a4e#32, 0x6a09e667#32, 0xbb67ae85#32, 0x25c5623e#32, 0x9ac8e4a3#32, 0x510e527f#32, 0x9b05688c#32⟩, ⟨0x0811387b#32, 0xaf3cc63a#32, 0xfe098a4e#32, 0x6a09e667#32, 0x6c6c7dbe#32, 0x25c5623e#32, 0x9ac8e4a3#32, 0x510e527f#32⟩, ⟨0x0f5b172b#32, 0x0811387b#32, 0xaf3cc63a#32, 0xfe098a4e#32, 0x860d9061#32, 0x6c6c7dbe#32, 0x25c5623e#32, 0x9ac8e4a3#32⟩, ⟨0x71e65f88#32, 0x0f5b172b#32, 0x0811387b#32, 0xaf3cc63a#32, 0x4a04c06c#32, 0x860d9061#32, 0x6c6c7dbe#32, 0x25c5623e#32⟩, ⟨0xb34a21c0#32, 0x71e65f88#32, 0x0f5b172b#32, 0x0811387b#32, 0xdfef8fb8#32, 0x4a04c06c#32, 0x860d9061#32, 0x6c6c7dbe#32⟩, ⟨0x5b0739c7#32, 0xb34a21c0#32, 0x71e65f88#32, 0x0f5b172b#32, 0x257e49ce#32, 0xdfef8fb8#32, 0x4a04c06c#32, 0x860d9061#32⟩, ⟨0x6f6c242d#32, 0x5b0739c7#32, 0xb34a21c0#32, 0x71e65f88#32, 0x0764f674#32, 0x257e49ce#32, 0xdfef8fb8#32, 0x4a04c06c#32⟩, ⟨0x3be7298d#32, 0x6f6c242d#32, 0x5b0739c7#32, 0xb34a21c0#32, 0x685e9f79#32, 0x0764f674#32, 0x257e49ce#32, 0xdfef8fb8#32⟩, ⟨0x393a3b0c#32, 0x3be7298d#32, 0x6f6c242d#32, 0x5b0739c7#32, 0xd2e7118a#32, 0x685e9f79#32, 0x0764f674#32, 0x257e49ce#32⟩, ⟨0xeb416dd8#32, 0x393a3b0c#32, 0x3be7298d#32, 0x6f6c242d#32, 0xcc17069c#32, 0xd2e7118a#32, 0x685e9f79#32, 0x0764f674#32⟩, ⟨0x74ef2b18#32, 0xeb416dd8#32, 0x393a3b0c#32, 0x3be7298d#32, 0x5757c2e9#32, 0xcc17069c#32, 0xd2e7118a#32, 0x685e9f79#32⟩, ⟨0x662a0953#32, 0x74ef2b18#32, 0xeb416dd8#32, 0x393a3b0c#32, 0x2f51fb5c#32, 0x5757c2e9#32, 0xcc17069c#32, 0xd2e7118a#32⟩, ⟨0x7082b609#32, 0x662a0953#32, 0x74ef2b18#32, 0xeb416dd8#32, 0x081cc921#32, 0x2f51fb5c#32, 0x5757c2e9#32, 0xcc17069c#32⟩, ⟨0xd109f0b2#32, 0x7082b609#32, 0x662a0953#32, 0x74ef2b18#32, 0x60ee271c#32, 0x081cc921#32, 0x2f51fb5c#32, 0x5757c2e9#32⟩, ⟨0x934ea987#32, 0xd109f0b2#32, 0x7082b609#32, 0x662a0953#32, 0x821ce565#32, 0x60ee271c#32, 0x081cc921#32, 0x2f51fb5c#32⟩, ⟨0x8c0be518#32, 0x934ea987#32, 0xd109f0b2#32, 0x7082b609#32, 0x8ee20f8f#32, 0x821ce565#32, 0x60ee271c#32, 0x081cc921#32⟩, ⟨0x5f84eb49#32, 0x8c0be518#32, 0x934ea987#32, 0xd109f0b2#32, 0x1aa8c497#32, 0x8ee20f8f#32, 0x821ce565#32, 0x60ee271c#32⟩, ⟨0xf4dde018#32, 0x5f84eb49#32, 0x8c0be518#32, 0x934ea987#32, 0x08d20436#32, 0x1aa8c497#32, 0x8ee20f8f#32, 0x821ce565#32⟩, ⟨0xb84d74db#32, 0xf4dde018#32, 0x5f84eb49#32, 0x8c0be518#32, 0x249d8010#32, 0x08d20436#32, 0x1aa8c497#32, 0x8ee20f8f#32⟩, ⟨0x3247592b#32, 0xb84d74db#32, 0xf4dde018#32, 0x5f84eb49#32, 0x44676c2e#32, 0x249d8010#32, 0x08d20436#32, 0x1aa8c497#32⟩, ⟨0xf3dc0bda#32, 0x3247592b#32, 0xb84d74db#32, 0xf4dde018#32, 0x8a669e4f#32, 0x44676c2e#32, 0x249d8010#32, 0x08d20436#32⟩, ⟨0x594681f1#32, 0xf3dc0bda#32, 0x3247592b#32, 0xb84d74db#32, 0x09c71055#32, 0x8a669e4f#32, 0x44676c2e#32, 0x249d8010#32⟩, ⟨0x4dcc9a7f#32, 0x594681f1#32, 0xf3dc0bda#32, 0x3247592b#32, 0x4ef75632#32, 0x09c71055#32, 0x8a669e4f#32, 0x44676c2e#32⟩, ⟨0x4eed7551#32, 0x4dcc9a7f#32, 0x594681f1#32, 0xf3dc0bda#32, 0xf4878cb5#32, 0x4ef75632#32, 0x09c71055#32, 0x8a669e4f#32⟩, ⟨0xc083999e#32, 0x4eed7551#32, 0x4dcc9a7f#32, 0x594681f1#32, 0x19aea503#32, 0xf4878cb5#32, 0x4ef75632#32, 0x09c71055#32⟩, ⟨0xc272d7ca#32, 0xc083999e#32, 0x4eed7551#32, 0x4dcc9a7f#32, 0x5c3b26e3#32, 0x19aea503#32, 0xf4878cb5#32, 0x4ef75632#32⟩, ⟨0x9d3c8fb6#32, 0xc272d7ca#32, 0xc083999e#32, 0x4eed7551#32, 0x628fc6ee#32, 0x5c3b26e3#32, 0x19aea503#32, 0xf4878cb5#32⟩, ⟨0x7dfa78f1#32, 0x9d3c8fb6#32, 0xc272d7ca#32, 0xc083999e#32, 0xe3f03e27#32, 0x628fc6ee#32, 0x5c3b26e3#32, 0x19aea503#32⟩, ⟨0xdfb59144#32, 0x7dfa78f1#32, 0x9d3c8fb6#32, 0xc272d7ca#32, 0x51a796d8#32, 0xe3f03e27#32, 0x628fc6ee#32, 0x5c3b26e3#32⟩, ⟨0x2655d09b#32, 0xdfb59144#32, 0x7dfa78f1#32, 0x9d3c8fb6#32, 0x9f7d83ee#32, 0x51a796d8#32, 0xe3f03e27#32, 0x628fc6ee#32⟩, ⟨0xf0100f19#32, 0x2655d09b#32, 0xdfb59144#32, 0x7dfa78f1#32, 0xf348a3ed#32, 0x9f7d83ee#32, 0x51a796d8#32, 0xe3f03e27#32⟩, ⟨0x4cf475e6#32, 0xf0100f19#32, 0x2655d09b#32, 0xdfb59144#32, 0x8fe17938#32, 0xf348a3ed#32, 0x9f7d83ee#32, 0x51a796d8#32⟩, ⟨0xa0d9e9b2#32, 0x4cf475e6#32, 0xf0100f19#32, 0x2655d09b#32, 0x2e624172#32, 0x8fe17938#32, 0xf348a3ed#32, 0x9f7d83ee#32⟩, ⟨0xba16b8e9#32, 0xa0d9e9b2#32, 0x4cf475e6#32, 0xf0100f19#32, 0x7d9665b2#32, 0x2e624172#32, 0x8fe17938#32, 0xf348a3ed#32⟩, ⟨0x2477b4a6#32, 0xba16b8e9#32, 0xa0d9e9b2#32, 0x4cf475e6#32, 0x7886f176#32, 0x7d9665b2#32, 0x2e624172#32, 0x8fe17938#32⟩, ⟨0xea48bb29#32, 0x2477b4a6#32, 0xba16b8e9#32, 0xa0d9e9b2#32, 0xa3e72268#32, 0x7886f176#32, 0x7d9665b2#32, 0x2e624172#32⟩, ⟨0xaa01371c#32, 0xea48bb29#32, 0x2477b4a6#32, 0xba16b8e9#32, 0x1f528cff#32, 0xa3e72268#32, 0x7886f176#32, 0x7d9665b2#32⟩, ⟨0x4e3c2aeb#32, 0xaa01371c#32, 0xea48bb29#32, 0x2477b4a6#32, 0xc757bd42#32, 0x1f528cff#32, 0xa3e72268#32, 0x7886f176#32⟩, ⟨0xdbc79fe4#32, 0x4e3c2aeb#32, 0xaa01371c#32, 0xea48bb29#32, 0xa1b842fe#32, 0xc757bd42#32, 0x1f528cff#32, 0xa3e72268#32⟩, ⟨0xd19e34ba#32, 0xdbc79fe4#32, 0x4e3c2aeb#32, 0xaa01371c#32, 0x1a39054d#32, 0xa1b842fe#32, 0xc757bd42#32, 0x1f528cff#32⟩, ⟨0xe8df8a8f#32, 0xd19e34ba#32, 0xdbc79fe4#32, 0x4e3c2aeb#32, 0x4dde9828#32, 0x1a39054d#32, 0xa1b842fe#32, 0xc757bd42#32⟩, ⟨0x5b80c168#32, 0xe8df8a8f#32, 0xd19e34ba#32, 0xdbc79fe4#32, 0xff7ab1a9#32, 0x4dde9828#32, 0x1a39054d#32, 0xa1b842fe#32⟩, ⟨0x9332586e#32, 0x5b80c168#32, 0xe8df8a8f#32, 0xd19e34ba#32, 0x76b42a76#32, 0xff7ab1a9#32, 0x4dde9828#32, 0x1a39054d#32⟩, ⟨0xeab81961#32, 0x9332586e#32, 0x5b80c168#32, 0xe8df8a8f#32, 0x31e9cfe8#32, 0x76b42a76#32, 0xff7ab1a9#32, 0x4dde9828#32⟩, ⟨0x1a9a25b1#32, 0xeab81961#32, 0x9332586e#32, 0x5b80c168#32, 0xd60482a6#32, 0x31e9cfe8#32, 0x76b42a76#32, 0xff7ab1a9#32⟩, ⟨0x2843f439#32, 0x1a9a25b1#32, 0xeab81961#32, 0x9332586e#32, 0xe5520269#32, 0xd60482a6#32, 0x31e9cfe8#32, 0x76b42a76#32⟩, ⟨0x635fdab4#32, 0x2843f439#32, 0x1a9a25b1#32, 0xeab81961#32, 0xe7eea241#32, 0xe5520269#32, 0xd60482a6#32, 0x31e9cfe8#32⟩, ⟨0xd6f3e4ad#32, 0x635fdab4#32, 0x2843f439#32, 0x1a9a25b1#32, 0xe531cb7f#32, 0xe7eea241#32, 0xe5520269#32, 0xd60482a6#32⟩, ⟨0x60eb46a8#32, 0xd6f3e4ad#32, 0x635fdab4#32, 0x2843f439#32, 0x79f07dad#32, 0xe531cb7f#32, 0xe7eea241#32, 0xe5520269#32⟩, ⟨0x5296d9cf#32, 0x60eb46a8#32, 0xd6f3e4ad#32, 0x635fdab4#32, 0x977b8fe9#32, 0x79f07dad#32, 0xe531cb7f#32, 0xe7eea241#32⟩, ⟨0xe99b93ac#32, 0x5296d9cf#32, 0x60eb46a8#32, 0xd6f3e4ad#32, 0xb84f8a24#32, 0x977b8fe9#32, 0x79f07dad#32, 0xe531cb7f#32⟩, ⟨0x9a547d8d#32, 0xe99b93ac#32, 0x5296d9cf#32, 0x60eb46a8#32, 0x475d72fd#32, 0xb84f8a24#32, 0x977b8fe9#32, 0x79f07dad#32⟩, ⟨0xc6300f37#32, 0x9a547d8d#32, 0xe99b93ac#32, 0x5296d9cf#32, 0x717480a9#32, 0x475d72fd#32, 0xb84f8a24#32, 0x977b8fe9#32⟩, ⟨0xa7ac1f0b#32, 0xc6300f37#32, 0x9a547d8d#32, 0xe99b93ac#32, 0xe823ebd8#32, 0x717480a9#32, 0x475d72fd#32, 0xb84f8a24#32⟩, ⟨0x74fa5af6#32, 0xa7ac1f0b#32, 0xc6300f37#32, 0x9a547d8d#32, 0x3697bb57#32, 0xe823ebd8#32, 0x717480a9#32, 0x475d72fd#32⟩, ⟨0xf6c0e93e#32, 0x74fa5af6#32, 0xa7ac1f0b#32, 0xc6300f37#32, 0x06765ed8#32, 0x3697bb57#32, 0xe823ebd8#32, 0x717480a9#32⟩, ⟨0x596a77db#32, 0xf6c0e93e#32, 0x74fa5af6#32, 0xa7ac1f0b#32, 0x30ceb441#32, 0x06765ed8#32, 0x3697bb57#32, 0xe823ebd8#32⟩, ⟨0x12a4dbe7#32, 0x596a77db#32, 0xf6c0e93e#32, 0x74fa5af6#32, 0x84074334#32, 0x30ceb441#32, 0x06765ed8#32, 0x3697bb57#32⟩, ⟨0x19545af6#32, 0x12a4dbe7#32, 0x596a77db#32, 0xf6c0e93e#32, 0xb26f7a58#32, 0x84074334#32, 0x30ceb441#32, 0x06765ed8#32⟩, ⟨0x387462fa#32, 0x19545af6#32, 0x12a4dbe7#32, 0x596a77db#32, 0x1542ebc7#32, 0xb26f7a58#32, 0x84074334#32, 0x30ceb441#32⟩, ⟨0xf154e17d#32, 0x387462fa#32, 0x19545af6#32, 0x12a4dbe7#32, 0xea03ca66#32, 0x1542ebc7#32, 0xb26f7a58#32, 0x84074334#32⟩, ⟨0xa1b9ddca#32, 0xf154e17d#32, 0x387462fa#32, 0x19545af6#32, 0x56cb1176#32, 0xea03ca66#32, 0x1542ebc7#32, 0xb26f7a58#32⟩, ⟨0x369bccb2#32, 0xa1b9ddca#32, 0xf154e17d#32, 0x387462fa#32, 0xfd2ef574#32, 0x56cb1176#32, 0xea03ca66#32, 0x1542ebc7#32⟩]
def endC0 : H8 := ⟨0xa0a5b319#32, 0x5d218c4f#32, 0x2dc3d4ef#32, 0xddc45834#32, 0x4e3d47f3#32, 0xf1d07a02#32, 0x0987a411#32, 0x7123b8e0#32⟩
theorem blockC0 : blockS startS (wordsOf (blk (padL PC) 0)) = endC0 :=
 block_of_ok (l := wsC0) (ls := stC0) (by kernel_rfl) (by kernel_rfl) (by kernel_rfl)
theorem sumC : hsum (padL PC) 1 = endC0 := by
 exact blockC0
def LC : List Int := [160, 165, 179, 25, 93, 33, 140, 79, 45, 195, 212, 239, 221, 196, 88, 52, 78, 61, 71, 243, 241, 208, 122, 2, 9, 135, 164, 17, 113, 35, 184, 224]
theorem digC : ShaH.sumL PC = LC := by
 unfold ShaH.sumL
 rw [show nPad PC.length / 64 = 1 by kernel_rfl, sumC]
 kernel_rfl
def IC : Idn := CmS.sumI PC
theorem valC : IC.val = LC := digC
theorem ida : hashK ka = IA := by
 unfold hashK IA
 rw [puta]
 rfl
theorem idb : hashK (kb IA) = IB := by
 unfold hashK IB
 rw [putb, valA]
 rfl
theorem idc : hashK (kc IA) = IC := by
 unfold hashK IC
 rw [putc, valA]
 rfl
theorem neAB : IA ≠ IB := by
 intro e
 have h : IA.val = IB.val := by rw [e]
 rw [valA, valB] at h
 exact absurd h (by decide)
theorem neAC : IA ≠ IC := by
 intro e
 have h : IA.val = IC.val := by rw [e]
 rw [valA, valC] at h
 exact absurd h (by decide)
theorem neBC : IB ≠ IC := by
 intro e
 have h : IB.val = IC.val := by rw [e]
 rw [valB, valC] at h
 exact absurd h (by decide)
theorem maya : mayK ka = true := by kernel_rfl
theorem nota : isM ka = false := by kernel_rfl
theorem mayb (I : Idn) : mayK (kb I) = true := by
 rw [mayK_iff, lineB_iff]
 refine ⟨⟨by show (1 : Int) ≤ 2; omega, by show (2 : Int) ≤ 1048576; omega, by show 1 ≤ 8; omega, rfl, by show (2 : Int) = 1 ↔ 1 = 0; omega⟩, .inr ⟨?_, ?_⟩⟩
 · kernel_rfl
 · kernel_rfl
theorem mayc (I : Idn) : mayK (kc I) = true := by
 rw [mayK_iff, lineB_iff]
 refine ⟨⟨by show (1 : Int) ≤ 2; omega, by show (2 : Int) ≤ 1048576; omega, by show 1 ≤ 8; omega, rfl, by show (2 : Int) = 1 ↔ 1 = 0; omega⟩, .inr ⟨?_, ?_⟩⟩
 · kernel_rfl
 · kernel_rfl
theorem notb (I : Idn) : isM (kb I) = false := by
 unfold isM
 rw [show decide ((kb I).node = -1) = false by rfl, Bool.and_false]
theorem notc (I : Idn) : isM (kc I) = false := by
 unfold isM
 rw [show decide ((kc I).node = -1) = false by rfl, Bool.and_false]
def trio : List Com := [ka, kb IA, kc IA]
theorem mem_trio {c : Com} (h : c ∈ trio) : c = ka ∨ c = kb IA ∨ c = kc IA := by
 rcases List.mem_cons.1 h with h | h
 · exact .inl h
 · rcases List.mem_cons.1 h with h | h
   · exact .inr (.inl h)
   · exact .inr (.inr (List.mem_singleton.1 h))
theorem in_a : ka ∈ trio := by simp [trio]
theorem in_b : kb IA ∈ trio := by simp [trio]
theorem in_c : kc IA ∈ trio := by simp [trio]
theorem map_trio : trio.map hashK = [IA, IB, IC] := by
 unfold trio
 rw [List.map_cons, List.map_cons, List.map_cons, List.map_nil, ida, idb, idc]
theorem nd_trio : (trio.map hashK).Nodup := by rw [map_trio]; simp [neAB, neAC, neBC]
theorem par_trio {x y : Idn} (h : Par hashK trio x y) : y = IA ∧ (x = IB ∨ x = IC) := by
 obtain ⟨c, hc, e, hy⟩ := h
 rcases mem_trio hc with rfl | rfl | rfl
 · cases hy
 · exact ⟨List.mem_singleton.1 hy, .inl (by rw [← e, idb])⟩
 · exact ⟨List.mem_singleton.1 hy, .inr (by rw [← e, idc])⟩
theorem kn_trio {x y : Idn} (h : Kn hashK trio x y) : y = IA ∧ (x = IB ∨ x = IC) := by
 cases h with
 | one h => exact par_trio h
 | more h k =>
   obtain ⟨rfl, h2⟩ := par_trio h
   cases k with
   | one k => exact absurd (par_trio k).2 (fun q => q.elim neAB neAC)
   | more k _ => exact absurd (par_trio k).2 (fun q => q.elim neAB neAC)
theorem kn_b : Kn hashK trio (hashK (kb IA)) (hashK ka) := .one ⟨kb IA, in_b, rfl, by rw [ida]; exact List.mem_singleton.2 rfl⟩
theorem closed_trio : Closed hashK trio := by
 refine ⟨fun c hc => ?_, fun c hc => ?_, nd_trio, fun c hc a ha => ?_, fun c hc => ?_, fun c hc a ha b hb k => ?_, fun c hc d hd hne hn => ?_⟩
 · rcases mem_trio hc with rfl | rfl | rfl
   · exact maya
   · exact mayb _
   · exact mayc _
 · rcases mem_trio hc with rfl | rfl | rfl
   · exact nota
   · exact notb _
   · exact notc _
 · have : a = IA := by
     rcases mem_trio hc with rfl | rfl | rfl
     · cases ha
     · exact List.mem_singleton.1 ha
     · exact List.mem_singleton.1 ha
   rw [this, map_trio]
   simp
 · have hg : gAt hashK trio IA = 1 := by rw [← ida, gAt_of nd_trio in_a]; rfl
   rcases mem_trio hc with rfl | rfl | rfl
   · rfl
   · show (2 : Int) = 1 + most ([IA].map (gAt hashK trio))
     rw [List.map_cons, List.map_nil, hg]
     rfl
   · show (2 : Int) = 1 + most ([IA].map (gAt hashK trio))
     rw [List.map_cons, List.map_nil, hg]
     rfl
 · have h2 := (kn_trio k).2
   have : a = IA := by
     rcases mem_trio hc with rfl | rfl | rfl
     · cases ha
     · exact List.mem_singleton.1 ha
     · exact List.mem_singleton.1 ha
   rw [this] at h2
   exact h2.elim neAB neAC
 · rcases mem_trio hc with rfl | rfl | rfl <;> rcases mem_trio hd with rfl | rfl | rfl
   · exact absurd rfl hne
   · exact ⟨by show (1 : Int) ≠ 2; omega, fun h => absurd h (by show ¬ (2 : Int) < 1; omega)⟩
   · exact absurd hn (by show ¬ (0 : Int) = 1; omega)
   · exact ⟨by show (2 : Int) ≠ 1; omega, fun _ => kn_b⟩
   · exact absurd rfl hne
   · exact absurd hn (by show ¬ (0 : Int) = 1; omega)
   · exact absurd hn (by show ¬ (1 : Int) = 0; omega)
   · exact absurd hn (by show ¬ (1 : Int) = 0; omega)
   · exact absurd rfl hne
theorem gone_a : Gone hashK trio ka := ⟨kb IA, in_b, rfl, rfl, rfl, kn_b⟩
theorem not_c : ¬ Gone hashK trio (kc IA) := by
 rintro ⟨d, _, _, _, _, h⟩
 have := (kn_trio h).1
 rw [idc] at this
 exact neAC this.symm
theorem one_pair {l : List PairM.Pr} {x : PairM.Pr} (hm : PairM.mayP l = true) (h : ∀ y, y ∈ l ↔ y = x) : l = [x] := by
 refine PairM.det (PairM.ris hm) ?_ fun y => by rw [h, List.mem_singleton]
 unfold PairM.RisP Rise.Rises
 simp
theorem eval_trio : (evalK hashK trio).p = [pairC (kc IA)] := by
 have hl := fine_all closed_trio
 refine one_pair (StM.mayS_iff.1 (eval_may hl)).2.2 fun y => ?_
 rw [eval_p hl]
 constructor
 · rintro ⟨c, hc, h2, hg, rfl⟩
   rcases mem_trio hc with rfl | rfl | rfl
   · exact absurd gone_a hg
   · exact absurd h2 (by show ¬ (3 : Int) = 2; omega)
   · rfl
 · rintro rfl
   exact ⟨_, in_c, rfl, not_c, rfl⟩
theorem anc_trio (x : Idn) : x ∈ anc hashK trio [IA] ↔ x = IA := by
 rw [mem_anc]
 constructor
 · rintro ⟨_, h | ⟨y, hy, h⟩⟩
   · exact List.mem_singleton.1 h
   · exact (kn_trio h).1
 · rintro rfl
   exact ⟨by rw [map_trio]; simp, .inl (by simp)⟩
theorem part_trio : DgM.part hashK trio (· ∈ anc hashK trio [IA]) = [ka] := by
 rw [part_iff (q := fun x => x = IA) anc_trio]
 unfold DgM.part trio
 rw [List.filter_cons_of_pos (by rw [ida]; simp), List.filter_cons_of_neg (by rw [idb]; simpa using neAB.symm), List.filter_cons_of_neg (by rw [idc]; simpa using neAC.symm), List.filter_nil]
theorem at_trio : (atK hashK trio [IA]).p = [pairC ka] := by
 unfold atK
 rw [part_trio]
 have hl : ∀ c ∈ [ka], Fine c := fun c hc => fine_all closed_trio c (by rw [List.mem_singleton.1 hc]; exact in_a)
 refine one_pair (StM.mayS_iff.1 (eval_may hl)).2.2 fun y => ?_
 rw [eval_p hl]
 constructor
 · rintro ⟨c, hc, _, _, rfl⟩
   rw [List.mem_singleton.1 hc]
 · rintro rfl
   refine ⟨ka, by simp, rfl, ?_, rfl⟩
   rintro ⟨d, hd, h3, _⟩
   rw [List.mem_singleton.1 hd] at h3
   exact absurd h3 (by show ¬ (2 : Int) = 3; omega)
end Go.Proofs.YtgmdhaepiclkcaaGreatDoor.EaJ
