/- The commits of chapter 13's example -/
import Derived.Test.YtgmdhaepiclkcaaGreatDoorShaDJ13
import Derived.Test.YtgmdhaepiclkcaaGreatDoorCmAJ5
import Derived.Test.YtgmdhaepiclkcaaGreatDoorDgXJ5
namespace Go.Proofs.YtgmdhaepiclkcaaGreatDoor.EaJ
set_option maxRecDepth 100000
open Go RotM RotN ShaM ShaD PadM SumM ShaK Byt EncM EncC IdM IdW OpsM OpsW CmM CmW CmY CmA DgM FrM FrN EaM EaN
open Classical
def oA:Opn:=⟨2,⟨#[97]⟩,⟨#[120]⟩,0⟩
def oD:Opn:=⟨3,⟨#[97]⟩,⟨#[120]⟩,0⟩
def ka:Com:=⟨0,1,1,[],oA⟩
def kb (I:Idn):Com:=⟨0,2,2,[I],oD⟩
def kc (I:Idn):Com:=⟨1,1,2,[I],oA⟩
theorem text2:zbE [120]=[1,120]:=by
 unfold zbE
 rw[show[(120:Int)].length=1 from rfl,za8 (by omega)]
 rfl
theorem opA:zfd oA=[2,1,97,1,120]:=by
 unfold zfd zd0
 rw[show zan oA.key=[97] by kernel_rfl,show zan oA.elem=[120] by kernel_rfl,CmA.text1,text2,show oA.kind.toNat=2 from rfl,if_neg (show ¬oA.kind=0 by decide),za8 (by omega)]
 rfl
theorem opD:zfd oD=[3,1,97,1,120]:=by
 unfold zfd zd0
 rw[show zan oD.key=[97] by kernel_rfl,show zan oD.elem=[120] by kernel_rfl,CmA.text1,text2,show oD.kind.toNat=3 from rfl,if_neg (show ¬oD.kind=0 by decide),za8 (by omega)]
 rfl
theorem puta:zg4 ka=[0,1,1,0,2,1,97,1,120]:=by
 unfold zg4 zeu opL
 rw[if_neg (show ¬ka.node= -1 by decide),show ka.op=oA from rfl,opA,show(foldI ka.node).toNat=0 by kernel_rfl,show ka.seq.toNat=1 from rfl,show ka.gen.toNat=1 from rfl,show ka.ps.length=0 from rfl,za8 (by omega),za8 (by omega)]
 rfl
theorem putb (I:Idn):zg4 (kb I)=[0,2,2,1]++(I.val++[3,1,97,1,120]):=by
 unfold zg4 zeu opL
 rw[show(kb I).node=0 from rfl,if_neg (show ¬(0:Int)= -1 by decide),show(kb I).op=oD from rfl,opD,show(foldI 0).toNat=0 by kernel_rfl,show(kb I).seq.toNat=2 from rfl,show(kb I).gen.toNat=2 from rfl,show(kb I).ps.length=1 from rfl,za8 (by omega),za8 (by omega),za8 (by omega),show(kb I).ps=[I] from rfl,ze9]
 simp[zcw]
theorem putc (I:Idn):zg4 (kc I)=[2,1,2,1]++(I.val++[2,1,97,1,120]):=by
 unfold zg4 zeu opL
 rw[show(kc I).node=1 from rfl,if_neg (show ¬(1:Int)= -1 by decide),show(kc I).op=oA from rfl,opA,show(foldI 1).toNat=2 by kernel_rfl,show(kc I).seq.toNat=1 from rfl,show(kc I).gen.toNat=2 from rfl,show(kc I).ps.length=1 from rfl,za8 (by omega),za8 (by omega),show(kc I).ps=[I] from rfl,ze9]
 simp[zcw]
def PA:List Int:=[0,1,1,0,2,1,97,1,120]
def wsA0:List (BitVec 32):=[0x00010100#32,0x02016101#32,0zpT#32,0zaS#32,0zaS#32,0zaS#32,0zaS#32,0zaS#32,0zaS#32,0zaS#32,0zaS#32,0zaS#32,0zaS#32,0zaS#32,0zaS#32,0x00000048#32,0x5a056f62#32,0x120f7f21#32,0x92cbe719#32,0x50702899#32,0x8f4b49c5#32,0x114b9e3c#32,0xcdf9a4e6#32,0x16e347cd#32,0xf8ec404b#32,0x5de67895#32,0xf882e114#32,0x829ac696#32,0x3de26225#32,0x09b2dc95#32,0x244e89ab#32,0xc2f2bb9e#32,0xed83829c#32,0xedd8f55d#32,0xf915ea9e#32,0x3b1764a1#32,0x7ea5edd5#32,0x51821bc2#32,0x253f064f#32,0xebf27b92#32,0x09cec43b#32,0x58229f0c#32,0x7b26aa1d#32,0xf3012c15#32,0xabb8d58b#32,0xd351efc4#32,0x0bdb5693#32,0x5bbbf3c8#32,0xa2770822#32,0x49029093#32,0xed913c02#32,0xdf7670f9#32,0x1415fffd#32,0xaf2fd3a8#32,0x674c3987#32,0x681894b6#32,0xa332e1e6#32,0x3da1a116#32,0x0607bf77#32,0x23005f12#32,0x6b7b3652#32,0x51c9ddcb#32,0xd91fb0d8#32,0x673a2de1#32]
def stA0:List H8:=[⟨0zby#32,0zb9#32,0zdG#32,0zjv#32,0zbz#32,0zca#32,0zdH#32,0zll#32⟩,⟨0zhx#32,0zby#32,0zb9#32,0zdG#32,0zjQ#32,0zbz#32,0zca#32,0zdH#32⟩,⟨0zlJ#32,0zhx#32,0zby#32,0zb9#32,0zkp#32,0zjQ#32,0zbz#32,0zca#32⟩,⟨0zhy#32,0zlJ#32,0zhx#32,0zby#32,0zk2#32,0zkp#32,0zjQ#32,0zbz#32⟩,⟨0zkT#32,0zhy#32,0zlJ#32,0zhx#32,0zi2#32,0zk2#32,0zkp#32,0zjQ#32⟩,⟨0zkX#32,0zkT#32,0zhy#32,0zlJ#32,0zkR#32,0zi2#32,0zk2#32,0zkp#32⟩,⟨0zmM#32,0zkX#32,0zkT#32,0zhy#32,0zlu#32,0zkR#32,0zi2#32,0zk2#32⟩,⟨0zj3#32,0zmM#32,0zkX#32,0zkT#32,0zhM#32,0zlu#32,0zkR#32,0zi2#32⟩,⟨0zkL#32,0zj3#32,0zmM#32,0zkX#32,0ziH#32,0zhM#32,0zlu#32,0zkR#32⟩,⟨0zlZ#32,0zkL#32,0zj3#32,0zmM#32,0zkQ#32,0ziH#32,0zhM#32,0zlu#32⟩,⟨0zme#32,0zlZ#32,0zkL#32,0zj3#32,0ziv#32,0zkQ#32,0ziH#32,0zhM#32⟩,⟨0zjo#32,0zme#32,0zlZ#32,0zkL#32,0zjM#32,0ziv#32,0zkQ#32,0ziH#32⟩,⟨0zjL#32,0zjo#32,0zme#32,0zlZ#32,0zmL#32,0zjM#32,0ziv#32,0zkQ#32⟩,⟨0zh8#32,0zjL#32,0zjo#32,0zme#32,0ziG#32,0zmL#32,0zjM#32,0ziv#32⟩,⟨0ziB#32,0zh8#32,0zjL#32,0zjo#32,0ziQ#32,0ziG#32,0zmL#32,0zjM#32⟩,⟨0zlb#32,0ziB#32,0zh8#32,0zjL#32,0ziD#32,0ziQ#32,0ziG#32,0zmL#32⟩,⟨0zhV#32,0zlb#32,0ziB#32,0zh8#32,0zl5#32,0ziD#32,0ziQ#32,0ziG#32⟩,⟨0ziz#32,0zhV#32,0zlb#32,0ziB#32,0zng#32,0zl5#32,0ziD#32,0ziQ#32⟩,⟨0zmW#32,0ziz#32,0zhV#32,0zlb#32,0zkr#32,0zng#32,0zl5#32,0ziD#32⟩,⟨0zkw#32,0zmW#32,0ziz#32,0zhV#32,0zkj#32,0zkr#32,0zng#32,0zl5#32⟩,⟨0zjS#32,0zkw#32,0zmW#32,0ziz#32,0ziO#32,0zkj#32,0zkr#32,0zng#32⟩,⟨0zlx#32,0zjS#32,0zkw#32,0zmW#32,0zjj#32,0ziO#32,0zkj#32,0zkr#32⟩,⟨0zhW#32,0zlx#32,0zjS#32,0zkw#32,0zmE#32,0zjj#32,0ziO#32,0zkj#32⟩,⟨0ziu#32,0zhW#32,0zlx#32,0zjS#32,0zm7#32,0zmE#32,0zjj#32,0ziO#32⟩,⟨0zhO#32,0ziu#32,0zhW#32,0zlx#32,0zm5#32,0zm7#32,0zmE#32,0zjj#32⟩,⟨0zj4#32,0zhO#32,0ziu#32,0zhW#32,0zlV#32,0zm5#32,0zm7#32,0zmE#32⟩,⟨0zi5#32,0zj4#32,0zhO#32,0ziu#32,0znm#32,0zlV#32,0zm5#32,0zm7#32⟩,⟨0zhs#32,0zi5#32,0zj4#32,0zhO#32,0ziY#32,0znm#32,0zlV#32,0zm5#32⟩,⟨0zmV#32,0zhs#32,0zi5#32,0zj4#32,0zj6#32,0ziY#32,0znm#32,0zlV#32⟩,⟨0zl2#32,0zmV#32,0zhs#32,0zi5#32,0zmZ#32,0zj6#32,0ziY#32,0znm#32⟩,⟨0zkE#32,0zl2#32,0zmV#32,0zhs#32,0zjB#32,0zmZ#32,0zj6#32,0ziY#32⟩,⟨0zlv#32,0zkE#32,0zl2#32,0zmV#32,0zm2#32,0zjB#32,0zmZ#32,0zj6#32⟩,⟨0zkZ#32,0zlv#32,0zkE#32,0zl2#32,0zml#32,0zm2#32,0zjB#32,0zmZ#32⟩,⟨0zk1#32,0zkZ#32,0zlv#32,0zkE#32,0zm6#32,0zml#32,0zm2#32,0zjB#32⟩,⟨0ziy#32,0zk1#32,0zkZ#32,0zlv#32,0zlg#32,0zm6#32,0zml#32,0zm2#32⟩,⟨0zmG#32,0ziy#32,0zk1#32,0zkZ#32,0zlB#32,0zlg#32,0zm6#32,0zml#32⟩,⟨0zkN#32,0zmG#32,0ziy#32,0zk1#32,0zjr#32,0zlB#32,0zlg#32,0zm6#32⟩,⟨0zjh#32,0zkN#32,0zmG#32,0ziy#32,0zkg#32,0zjr#32,0zlB#32,0zlg#32⟩,⟨0ziW#32,0zjh#32,0zkN#32,0zmG#32,0zmt#32,0zkg#32,0zjr#32,0zlB#32⟩,⟨0zkl#32,0ziW#32,0zjh#32,0zkN#32,0zkn#32,0zmt#32,0zkg#32,0zjr#32⟩,⟨0zms#32,0zkl#32,0ziW#32,0zjh#32,0zmg#32,0zkn#32,0zmt#32,0zkg#32⟩,⟨0zk7#32,0zms#32,0zkl#32,0ziW#32,0zkJ#32,0zmg#32,0zkn#32,0zmt#32⟩,⟨0zih#32,0zk7#32,0zms#32,0zkl#32,0zmm#32,0zkJ#32,0zmg#32,0zkn#32⟩,⟨0zh5#32,0zih#32,0zk7#32,0zms#32,0zhX#32,0zmm#32,0zkJ#32,0zmg#32⟩,⟨0zld#32,0zh5#32,0zih#32,0zk7#32,0zly#32,0zhX#32,0zmm#32,0zkJ#32⟩,⟨0zjb#32,0zld#32,0zh5#32,0zih#32,0ziR#32,0zly#32,0zhX#32,0zmm#32⟩,⟨0zma#32,0zjb#32,0zld#32,0zh5#32,0zi4#32,0ziR#32,0zly#32,0zhX#32⟩,⟨0zhA#32,0zma#32,0zjb#32,0zld#32,0zjc#32,0zi4#32,0ziR#32,0zly#32⟩,⟨0zid#32,0zhA#32,0zma#32,0zjb#32,0zm4#32,0zjc#32,0zi4#32,0ziR#32⟩,⟨0zjw#32,0zid#32,0zhA#32,0zma#32,0zl7#32,0zm4#32,0zjc#32,0zi4#32⟩,⟨0zix#32,0zjw#32,0zid#32,0zhA#32,0zhz#32,0zl7#32,0zm4#32,0zjc#32⟩,⟨0zmk#32,0zix#32,0zjw#32,0zid#32,0zkD#32,0zhz#32,0zl7#32,0zm4#32⟩,⟨0znp#32,0zmk#32,0zix#32,0zjw#32,0zjV#32,0zkD#32,0zhz#32,0zl7#32⟩,⟨0zjy#32,0znp#32,0zmk#32,0zix#32,0zhS#32,0zjV#32,0zkD#32,0zhz#32⟩,⟨0zkk#32,0zjy#32,0znp#32,0zmk#32,0zku#32,0zhS#32,0zjV#32,0zkD#32⟩,⟨0ziA#32,0zkk#32,0zjy#32,0znp#32,0zmN#32,0zku#32,0zhS#32,0zjV#32⟩,⟨0znc#32,0ziA#32,0zkk#32,0zjy#32,0zlX#32,0zmN#32,0zku#32,0zhS#32⟩,⟨0zjF#32,0znc#32,0ziA#32,0zkk#32,0zhF#32,0zlX#32,0zmN#32,0zku#32⟩,⟨0zmH#32,0zjF#32,0znc#32,0ziA#32,0zka#32,0zhF#32,0zlX#32,0zmN#32⟩,⟨0zky#32,0zmH#32,0zjF#32,0znc#32,0zju#32,0zka#32,0zhF#32,0zlX#32⟩,⟨0zh7#32,0zky#32,0zmH#32,0zjF#32,0zl4#32,0zju#32,0zka#32,0zhF#32⟩,⟨0zmI#32,0zh7#32,0zky#32,0zmH#32,0zhU#32,0zl4#32,0zju#32,0zka#32⟩,⟨0zpU#32,0zmI#32,0zh7#32,0zky#32,0zpR#32,0zhU#32,0zl4#32,0zju#32⟩,⟨0xf62999c0#32,0zpU#32,0zmI#32,0zh7#32,0x5613785c#32,0zpR#32,0zhU#32,0zl4#32⟩,⟨0x5f19f6b7#32,0xf62999c0#32,0zpU#32,0zmI#32,0x7abfdf22#32,0x5613785c#32,0zpR#32,0zhU#32⟩]
def endA0:H8:=⟨0zpL#32,0zpQ#32,0zpP#32,0zpM#32,0zpK#32,0zpI#32,0zpO#32,0zpV#32⟩
theorem blockA0:zdV zcn (wordsOf (blk (zol PA) 0))=endA0:=
 zfu (l:=wsA0) (ls:=stA0) (by kernel_rfl) (by kernel_rfl) (by kernel_rfl)
theorem sumA:hsum (zol PA) 1=endA0:=by
 exact blockA0
def LA:List Int:=[201,35,221,30,177,145,72,69,178,55,184,72,197,46,85,178,203,206,49,161,241,24,224,232,184,251,180,111,73,150,69,221]
theorem digA:ShaH.sumL PA=LA:=by
 unfold ShaH.sumL
 rw[show zgT PA.length / 64=1 by kernel_rfl,sumA]
 kernel_rfl
def IA:Idn:=CmS.sumI PA
theorem valA:IA.val=LA:=digA
def PB:List Int:=[0,2,2,1,201,35,221,30,177,145,72,69,178,55,184,72,197,46,85,178,203,206,49,161,241,24,224,232,184,251,180,111,73,150,69,221,3,1,97,1,120]
def wsB0:List (BitVec 32):=[0x00020201#32,0zpL#32,0zpQ#32,0zpP#32,0zpM#32,0zpK#32,0zpI#32,0zpO#32,0zpV#32,0x03016101#32,0zpT#32,0zaS#32,0zaS#32,0zaS#32,0zaS#32,0x00000148#32,0xd6f4f153#32,0x1171451a#32,0x017829d1#32,0x24a4f665#32,0xad877cef#32,0xa9c06336#32,0x684f94b7#32,0xf09f4dd7#32,0xee0543e4#32,0x63c7ca81#32,0xa6da61f7#32,0xc98fe958#32,0x26acf464#32,0x7204b2c3#32,0x65a88ac0#32,0x3e521e0f#32,0xf6285e8c#32,0xad6f48ac#32,0xe2f720f8#32,0xae8a8d96#32,0xf48e276f#32,0xadafc5d9#32,0xe090052b#32,0x8629ce70#32,0x999c631f#32,0x8981d666#32,0x6624190c#32,0x817dd51b#32,0x082f34c9#32,0x517200f9#32,0x07073078#32,0x28f0c62b#32,0x9cb91480#32,0xb51361f2#32,0xa95658ac#32,0xdc4730d2#32,0x850288da#32,0x7d94f343#32,0xa12d69b1#32,0x3f80e9f6#32,0x12310ffa#32,0xaeee39b6#32,0x3addb251#32,0x406e9214#32,0x6de325a7#32,0xcae907f6#32,0x9fc97167#32,0x35e75424#32]
def stB0:List H8:=[⟨0zby#32,0zb9#32,0zdG#32,0zjv#32,0zbz#32,0zca#32,0zdH#32,0zll#32⟩,⟨0zhw#32,0zby#32,0zb9#32,0zdG#32,0zjP#32,0zbz#32,0zca#32,0zdH#32⟩,⟨0zjn#32,0zhw#32,0zby#32,0zb9#32,0zmq#32,0zjP#32,0zbz#32,0zca#32⟩,⟨0zlq#32,0zjn#32,0zhw#32,0zby#32,0zi9#32,0zmq#32,0zjP#32,0zbz#32⟩,⟨0zlW#32,0zlq#32,0zjn#32,0zhw#32,0zlL#32,0zi9#32,0zmq#32,0zjP#32⟩,⟨0zlw#32,0zlW#32,0zlq#32,0zjn#32,0zj0#32,0zlL#32,0zi9#32,0zmq#32⟩,⟨0zic#32,0zlw#32,0zlW#32,0zlq#32,0zkW#32,0zj0#32,0zlL#32,0zi9#32⟩,⟨0zil#32,0zic#32,0zlw#32,0zlW#32,0zhT#32,0zkW#32,0zj0#32,0zlL#32⟩,⟨0ziZ#32,0zil#32,0zic#32,0zlw#32,0zhD#32,0zhT#32,0zkW#32,0zj0#32⟩,⟨0zm8#32,0ziZ#32,0zil#32,0zic#32,0zmo#32,0zhD#32,0zhT#32,0zkW#32⟩,⟨0zj5#32,0zm8#32,0ziZ#32,0zil#32,0zmz#32,0zmo#32,0zhD#32,0zhT#32⟩,⟨0zh3#32,0zj5#32,0zm8#32,0ziZ#32,0zke#32,0zmz#32,0zmo#32,0zhD#32⟩,⟨0zmY#32,0zh3#32,0zj5#32,0zm8#32,0ziM#32,0zke#32,0zmz#32,0zmo#32⟩,⟨0zhu#32,0zmY#32,0zh3#32,0zj5#32,0zjk#32,0ziM#32,0zke#32,0zmz#32⟩,⟨0zjG#32,0zhu#32,0zmY#32,0zh3#32,0ziT#32,0zjk#32,0ziM#32,0zke#32⟩,⟨0zk6#32,0zjG#32,0zhu#32,0zmY#32,0zi3#32,0ziT#32,0zjk#32,0ziM#32⟩,⟨0zkq#32,0zk6#32,0zjG#32,0zhu#32,0zjO#32,0zi3#32,0ziT#32,0zjk#32⟩,⟨0zik#32,0zkq#32,0zk6#32,0zjG#32,0zkc#32,0zjO#32,0zi3#32,0ziT#32⟩,⟨0zmF#32,0zik#32,0zkq#32,0zk6#32,0zkM#32,0zkc#32,0zjO#32,0zi3#32⟩,⟨0ziF#32,0zmF#32,0zik#32,0zkq#32,0zmv#32,0zkM#32,0zkc#32,0zjO#32⟩,⟨0zlr#32,0ziF#32,0zmF#32,0zik#32,0zkY#32,0zmv#32,0zkM#32,0zkc#32⟩,⟨0zir#32,0zlr#32,0ziF#32,0zmF#32,0zis#32,0zkY#32,0zmv#32,0zkM#32⟩,⟨0zlt#32,0zir#32,0zlr#32,0ziF#32,0zhI#32,0zis#32,0zkY#32,0zmv#32⟩,⟨0ziX#32,0zlt#32,0zir#32,0zlr#32,0zhE#32,0zhI#32,0zis#32,0zkY#32⟩,⟨0zja#32,0ziX#32,0zlt#32,0zir#32,0zjI#32,0zhE#32,0zhI#32,0zis#32⟩,⟨0zit#32,0zja#32,0ziX#32,0zlt#32,0znh#32,0zjI#32,0zhE#32,0zhI#32⟩,⟨0zlO#32,0zit#32,0zja#32,0ziX#32,0zij#32,0znh#32,0zjI#32,0zhE#32⟩,⟨0zna#32,0zlO#32,0zit#32,0zja#32,0zin#32,0zij#32,0znh#32,0zjI#32⟩,⟨0zjd#32,0zna#32,0zlO#32,0zit#32,0zlR#32,0zin#32,0zij#32,0znh#32⟩,⟨0zkB#32,0zjd#32,0zna#32,0zlO#32,0zhH#32,0zlR#32,0zin#32,0zij#32⟩,⟨0zmj#32,0zkB#32,0zjd#32,0zna#32,0zlT#32,0zhH#32,0zlR#32,0zin#32⟩,⟨0zjf#32,0zmj#32,0zkB#32,0zjd#32,0zmB#32,0zlT#32,0zhH#32,0zlR#32⟩,⟨0zkV#32,0zjf#32,0zmj#32,0zkB#32,0zkC#32,0zmB#32,0zlT#32,0zhH#32⟩,⟨0zm1#32,0zkV#32,0zjf#32,0zmj#32,0zhK#32,0zkC#32,0zmB#32,0zlT#32⟩,⟨0zjR#32,0zm1#32,0zkV#32,0zjf#32,0zim#32,0zhK#32,0zkC#32,0zmB#32⟩,⟨0zjl#32,0zjR#32,0zm1#32,0zkV#32,0zkP#32,0zim#32,0zhK#32,0zkC#32⟩,⟨0zhN#32,0zjl#32,0zjR#32,0zm1#32,0znn#32,0zkP#32,0zim#32,0zhK#32⟩,⟨0ziP#32,0zhN#32,0zjl#32,0zjR#32,0zhZ#32,0znn#32,0zkP#32,0zim#32⟩,⟨0zl6#32,0ziP#32,0zhN#32,0zjl#32,0zmJ#32,0zhZ#32,0znn#32,0zkP#32⟩,⟨0zl8#32,0zl6#32,0ziP#32,0zhN#32,0zje#32,0zmJ#32,0zhZ#32,0znn#32⟩,⟨0zmA#32,0zl8#32,0zl6#32,0ziP#32,0zlC#32,0zje#32,0zmJ#32,0zhZ#32⟩,⟨0zk5#32,0zmA#32,0zl8#32,0zl6#32,0ziJ#32,0zlC#32,0zje#32,0zmJ#32⟩,⟨0zjz#32,0zk5#32,0zmA#32,0zl8#32,0zmc#32,0ziJ#32,0zlC#32,0zje#32⟩,⟨0zjU#32,0zjz#32,0zk5#32,0zmA#32,0zlG#32,0zmc#32,0ziJ#32,0zlC#32⟩,⟨0zjD#32,0zjU#32,0zjz#32,0zk5#32,0zlf#32,0zlG#32,0zmc#32,0ziJ#32⟩,⟨0zkS#32,0zjD#32,0zjU#32,0zjz#32,0zjZ#32,0zlf#32,0zlG#32,0zmc#32⟩,⟨0zl9#32,0zkS#32,0zjD#32,0zjU#32,0zmX#32,0zjZ#32,0zlf#32,0zlG#32⟩,⟨0zhv#32,0zl9#32,0zkS#32,0zjD#32,0zmn#32,0zmX#32,0zjZ#32,0zlf#32⟩,⟨0zkb#32,0zhv#32,0zl9#32,0zkS#32,0zkI#32,0zmn#32,0zmX#32,0zjZ#32⟩,⟨0zlj#32,0zkb#32,0zhv#32,0zl9#32,0zmO#32,0zkI#32,0zmn#32,0zmX#32⟩,⟨0zli#32,0zlj#32,0zkb#32,0zhv#32,0znk#32,0zmO#32,0zkI#32,0zmn#32⟩,⟨0znb#32,0zli#32,0zlj#32,0zkb#32,0zlS#32,0znk#32,0zmO#32,0zkI#32⟩,⟨0zj9#32,0znb#32,0zli#32,0zlj#32,0zjX#32,0zlS#32,0znk#32,0zmO#32⟩,⟨0znl#32,0zj9#32,0znb#32,0zli#32,0zjN#32,0zjX#32,0zlS#32,0znk#32⟩,⟨0zhQ#32,0znl#32,0zj9#32,0znb#32,0zlc#32,0zjN#32,0zjX#32,0zlS#32⟩,⟨0zlh#32,0zhQ#32,0znl#32,0zj9#32,0zhP#32,0zlc#32,0zjN#32,0zjX#32⟩,⟨0zlU#32,0zlh#32,0zhQ#32,0znl#32,0zno#32,0zhP#32,0zlc#32,0zjN#32⟩,⟨0zh1#32,0zlU#32,0zlh#32,0zhQ#32,0zkt#32,0zno#32,0zhP#32,0zlc#32⟩,⟨0zmr#32,0zh1#32,0zlU#32,0zlh#32,0ziN#32,0zkt#32,0zno#32,0zhP#32⟩,⟨0zla#32,0zmr#32,0zh1#32,0zlU#32,0zkh#32,0ziN#32,0zkt#32,0zno#32⟩,⟨0zjq#32,0zla#32,0zmr#32,0zh1#32,0zmx#32,0zkh#32,0ziN#32,0zkt#32⟩,⟨0zlP#32,0zjq#32,0zla#32,0zmr#32,0zh4#32,0zmx#32,0zkh#32,0ziN#32⟩,⟨0zpN#32,0zlP#32,0zjq#32,0zla#32,0zpS#32,0zh4#32,0zmx#32,0zkh#32⟩,⟨0x21677d79#32,0zpN#32,0zlP#32,0zjq#32,0x44b2d695#32,0zpS#32,0zh4#32,0zmx#32⟩,⟨0x124fd505#32,0x21677d79#32,0zpN#32,0zlP#32,0x5a4c528f#32,0x44b2d695#32,0zpS#32,0zh4#32⟩]
def endB0:H8:=⟨0x7c59bb6c#32,0xdccf2bfe#32,0xfbdb5de3#32,0xeab8c0e6#32,0xab5aa50e#32,0xdfb83f21#32,0xb6258d7d#32,0x4596faf3#32⟩
theorem blockB0:zdV zcn (wordsOf (blk (zol PB) 0))=endB0:=
 zfu (l:=wsB0) (ls:=stB0) (by kernel_rfl) (by kernel_rfl) (by kernel_rfl)
theorem sumB:hsum (zol PB) 1=endB0:=by
 exact blockB0
def LB:List Int:=[124,89,187,108,220,207,43,254,251,219,93,227,234,184,192,230,171,90,165,14,223,184,63,33,182,37,141,125,69,150,250,243]
theorem digB:ShaH.sumL PB=LB:=by
 unfold ShaH.sumL
 rw[show zgT PB.length / 64=1 by kernel_rfl,sumB]
 kernel_rfl
def IB:Idn:=CmS.sumI PB
theorem valB:IB.val=LB:=digB
def PC:List Int:=[2,1,2,1,201,35,221,30,177,145,72,69,178,55,184,72,197,46,85,178,203,206,49,161,241,24,224,232,184,251,180,111,73,150,69,221,2,1,97,1,120]
def wsC0:List (BitVec 32):=[0x02010201#32,0zpL#32,0zpQ#32,0zpP#32,0zpM#32,0zpK#32,0zpI#32,0zpO#32,0zpV#32,0x02016101#32,0zpT#32,0zaS#32,0zaS#32,0zaS#32,0zaS#32,0x00000148#32,0xd7f3f153#32,0x1171451a#32,0xa1786b34#32,0x24a4f665#32,0xd48918df#32,0xa9c06336#32,0xc5cf849e#32,0xf19e4dd7#32,0xe7f9c318#32,0xa2c84bc4#32,0x76fb87d8#32,0x013b900e#32,0x5ccaee79#32,0x7fd612fc#32,0xacd50549#32,0xf43d7629#32,0x042d623d#32,0x05fa6ea4#32,0xb350c316#32,0xdf07a5bf#32,0x2ecaae9d#32,0x410b1cf2#32,0xdf488424#32,0x41b9cc92#32,0xd0830985#32,0x95a8afbc#32,0x33f02599#32,0xb4d19016#32,0x2803c089#32,0x20d4b14c#32,0x97d42cf2#32,0xb54ad892#32,0x00b6b68b#32,0x7d2a0827#32,0x82e82d49#32,0xe0370d36#32,0x8e6c90f0#32,0xb343a220#32,0xce6a04fa#32,0xbbb93541#32,0xd0f017e7#32,0x123689ef#32,0x7d589d48#32,0xc07f3d95#32,0xe8620147#32,0x65708677#32,0x1a25d7e1#32,0x95dc6e41#32]
def stC0:List H8:=[⟨0zby#32,0zb9#32,0zdG#32,0zjv#32,0zbz#32,0zca#32,0zdH#32,0zll#32⟩,⟨0zht#32,0zby#32,0zb9#32,0zdG#32,0zjJ#32,0zbz#32,0zca#32,0zdH#32⟩,⟨0zjm#32,0zht#32,0zby#32,0zb9#32,0zmw#32,0zjJ#32,0zbz#32,0zca#32⟩,⟨0znf#32,0zjm#32,0zht#32,0zby#32,0zkO#32,0zmw#32,0zjJ#32,0zbz#32⟩,⟨0zm3#32,0znf#32,0zjm#32,0zht#32,0zkd#32,0zkO#32,0zmw#32,0zjJ#32⟩,⟨0zkF#32,0zm3#32,0znf#32,0zjm#32,0zlM#32,0zkd#32,0zkO#32,0zmw#32⟩,⟨0zjg#32,0zkF#32,0zm3#32,0znf#32,0zio#32,0zlM#32,0zkd#32,0zkO#32⟩,⟨0zln#32,0zjg#32,0zkF#32,0zm3#32,0zmy#32,0zio#32,0zlM#32,0zkd#32⟩,⟨0zkK#32,0zln#32,0zjg#32,0zkF#32,0zni#32,0zmy#32,0zio#32,0zlM#32⟩,⟨0zlY#32,0zkK#32,0zln#32,0zjg#32,0zkU#32,0zni#32,0zmy#32,0zio#32⟩,⟨0zl0#32,0zlY#32,0zkK#32,0zln#32,0ziI#32,0zkU#32,0zni#32,0zmy#32⟩,⟨0zhY#32,0zl0#32,0zlY#32,0zkK#32,0ziS#32,0ziI#32,0zkU#32,0zni#32⟩,⟨0zkA#32,0zhY#32,0zl0#32,0zlY#32,0zls#32,0ziS#32,0ziI#32,0zkU#32⟩,⟨0zk0#32,0zkA#32,0zhY#32,0zl0#32,0zmh#32,0zls#32,0ziS#32,0ziI#32⟩,⟨0zkH#32,0zk0#32,0zkA#32,0zhY#32,0zne#32,0zmh#32,0zls#32,0ziS#32⟩,⟨0ziL#32,0zkH#32,0zk0#32,0zkA#32,0zk8#32,0zne#32,0zmh#32,0zls#32⟩,⟨0zjW#32,0ziL#32,0zkH#32,0zk0#32,0zki#32,0zk8#32,0zne#32,0zmh#32⟩,⟨0zj7#32,0zjW#32,0ziL#32,0zkH#32,0zj2#32,0zki#32,0zk8#32,0zne#32⟩,⟨0zle#32,0zj7#32,0zjW#32,0ziL#32,0zmP#32,0zj2#32,0zki#32,0zk8#32⟩,⟨0zhC#32,0zle#32,0zj7#32,0zjW#32,0znd#32,0zmP#32,0zj2#32,0zki#32⟩,⟨0zi8#32,0zhC#32,0zle#32,0zj7#32,0zmC#32,0znd#32,0zmP#32,0zj2#32⟩,⟨0zmb#32,0zi8#32,0zhC#32,0zle#32,0zlQ#32,0zmC#32,0znd#32,0zmP#32⟩,⟨0zhJ#32,0zmb#32,0zi8#32,0zhC#32,0zj8#32,0zlQ#32,0zmC#32,0znd#32⟩,⟨0zlp#32,0zhJ#32,0zmb#32,0zi8#32,0zm9#32,0zj8#32,0zlQ#32,0zmC#32⟩,⟨0zlI#32,0zlp#32,0zhJ#32,0zmb#32,0zlD#32,0zm9#32,0zj8#32,0zlQ#32⟩,⟨0zlE#32,0zlI#32,0zlp#32,0zhJ#32,0zhG#32,0zlD#32,0zm9#32,0zj8#32⟩,⟨0zi1#32,0zlE#32,0zlI#32,0zlp#32,0zmS#32,0zhG#32,0zlD#32,0zm9#32⟩,⟨0zi0#32,0zi1#32,0zlE#32,0zlI#32,0zlk#32,0zmS#32,0zhG#32,0zlD#32⟩,⟨0zjH#32,0zi0#32,0zi1#32,0zlE#32,0zk4#32,0zlk#32,0zmS#32,0zhG#32⟩,⟨0zkm#32,0zjH#32,0zi0#32,0zi1#32,0zii#32,0zk4#32,0zlk#32,0zmS#32⟩,⟨0ziq#32,0zkm#32,0zjH#32,0zi0#32,0zlA#32,0zii#32,0zk4#32,0zlk#32⟩,⟨0zmu#32,0ziq#32,0zkm#32,0zjH#32,0zjE#32,0zlA#32,0zii#32,0zk4#32⟩,⟨0zhR#32,0zmu#32,0ziq#32,0zkm#32,0zhL#32,0zjE#32,0zlA#32,0zii#32⟩,⟨0zlK#32,0zhR#32,0zmu#32,0ziq#32,0zj1#32,0zhL#32,0zjE#32,0zlA#32⟩,⟨0zjC#32,0zlK#32,0zhR#32,0zmu#32,0zmi#32,0zj1#32,0zhL#32,0zjE#32⟩,⟨0zi6#32,0zjC#32,0zlK#32,0zhR#32,0zko#32,0zmi#32,0zj1#32,0zhL#32⟩,⟨0zmD#32,0zi6#32,0zjC#32,0zlK#32,0zkv#32,0zko#32,0zmi#32,0zj1#32⟩,⟨0zh2#32,0zmD#32,0zi6#32,0zjC#32,0zjx#32,0zkv#32,0zko#32,0zmi#32⟩,⟨0zjs#32,0zh2#32,0zmD#32,0zi6#32,0zmK#32,0zjx#32,0zkv#32,0zko#32⟩,⟨0zlF#32,0zjs#32,0zh2#32,0zmD#32,0ziU#32,0zmK#32,0zjx#32,0zkv#32⟩,⟨0ziw#32,0zlF#32,0zjs#32,0zh2#32,0zjA#32,0ziU#32,0zmK#32,0zjx#32⟩,⟨0ziK#32,0ziw#32,0zlF#32,0zjs#32,0zmR#32,0zjA#32,0ziU#32,0zmK#32⟩,⟨0zh9#32,0ziK#32,0ziw#32,0zlF#32,0zlH#32,0zmR#32,0zjA#32,0ziU#32⟩,⟨0zlm#32,0zh9#32,0ziK#32,0ziw#32,0zhr#32,0zlH#32,0zmR#32,0zjA#32⟩,⟨0zjY#32,0zlm#32,0zh9#32,0ziK#32,0zkx#32,0zhr#32,0zlH#32,0zmR#32⟩,⟨0zh0#32,0zjY#32,0zlm#32,0zh9#32,0zmd#32,0zkx#32,0zhr#32,0zlH#32⟩,⟨0zmQ#32,0zh0#32,0zjY#32,0zlm#32,0ziE#32,0zmd#32,0zkx#32,0zhr#32⟩,⟨0zmp#32,0zmQ#32,0zh0#32,0zjY#32,0zie#32,0ziE#32,0zmd#32,0zkx#32⟩,⟨0zk3#32,0zmp#32,0zmQ#32,0zh0#32,0zib#32,0zie#32,0ziE#32,0zmd#32⟩,⟨0ziC#32,0zk3#32,0zmp#32,0zmQ#32,0zif#32,0zib#32,0zie#32,0ziE#32⟩,⟨0zk9#32,0ziC#32,0zk3#32,0zmp#32,0zks#32,0zif#32,0zib#32,0zie#32⟩,⟨0zlz#32,0zk9#32,0ziC#32,0zk3#32,0zjT#32,0zks#32,0zif#32,0zib#32⟩,⟨0zh6#32,0zlz#32,0zk9#32,0ziC#32,0zi7#32,0zjT#32,0zks#32,0zif#32⟩,⟨0zjK#32,0zh6#32,0zlz#32,0zk9#32,0zlN#32,0zi7#32,0zjT#32,0zks#32⟩,⟨0ziV#32,0zjK#32,0zh6#32,0zlz#32,0zkG#32,0zlN#32,0zi7#32,0zjT#32⟩,⟨0zjt#32,0ziV#32,0zjK#32,0zh6#32,0zia#32,0zkG#32,0zlN#32,0zi7#32⟩,⟨0zkz#32,0zjt#32,0ziV#32,0zjK#32,0zl3#32,0zia#32,0zkG#32,0zlN#32⟩,⟨0zhB#32,0zkz#32,0zjt#32,0ziV#32,0znj#32,0zl3#32,0zia#32,0zkG#32⟩,⟨0zlo#32,0zhB#32,0zkz#32,0zjt#32,0zmf#32,0znj#32,0zl3#32,0zia#32⟩,⟨0zm0#32,0zlo#32,0zhB#32,0zkz#32,0zkf#32,0zmf#32,0znj#32,0zl3#32⟩,⟨0zmT#32,0zm0#32,0zlo#32,0zhB#32,0zji#32,0zkf#32,0zmf#32,0znj#32⟩,⟨0zl1#32,0zmT#32,0zm0#32,0zlo#32,0zmU#32,0zji#32,0zkf#32,0zmf#32⟩,⟨0zpH#32,0zl1#32,0zmT#32,0zm0#32,0zpJ#32,0zmU#32,0zji#32,0zkf#32⟩,⟨0xa1b9ddca#32,0zpH#32,0zl1#32,0zmT#32,0x56cb1176#32,0zpJ#32,0zmU#32,0zji#32⟩,⟨0x369bccb2#32,0xa1b9ddca#32,0zpH#32,0zl1#32,0xfd2ef574#32,0x56cb1176#32,0zpJ#32,0zmU#32⟩]
def endC0:H8:=⟨0xa0a5b319#32,0x5d218c4f#32,0x2dc3d4ef#32,0xddc45834#32,0x4e3d47f3#32,0xf1d07a02#32,0x0987a411#32,0x7123b8e0#32⟩
theorem blockC0:zdV zcn (wordsOf (blk (zol PC) 0))=endC0:=
 zfu (l:=wsC0) (ls:=stC0) (by kernel_rfl) (by kernel_rfl) (by kernel_rfl)
theorem sumC:hsum (zol PC) 1=endC0:=by
 exact blockC0
def LC:List Int:=[160,165,179,25,93,33,140,79,45,195,212,239,221,196,88,52,78,61,71,243,241,208,122,2,9,135,164,17,113,35,184,224]
theorem digC:ShaH.sumL PC=LC:=by
 unfold ShaH.sumL
 rw[show zgT PC.length / 64=1 by kernel_rfl,sumC]
 kernel_rfl
def IC:Idn:=CmS.sumI PC
theorem valC:IC.val=LC:=digC
theorem ida:zaj ka=IA:=by
 unfold zaj IA
 rw[puta]
 rfl
theorem idb:zaj (kb IA)=IB:=by
 unfold zaj IB
 rw[putb,valA]
 rfl
theorem idc:zaj (kc IA)=IC:=by
 unfold zaj IC
 rw[putc,valA]
 rfl
theorem neAB:IA≠IB:=by
 intro e
 have h:IA.val=IB.val:=by rw[e]
 rw[valA,valB]at h
 exact absurd h (by decide)
theorem neAC:IA≠IC:=by
 intro e
 have h:IA.val=IC.val:=by rw[e]
 rw[valA,valC]at h
 exact absurd h (by decide)
theorem neBC:IB≠IC:=by
 intro e
 have h:IB.val=IC.val:=by rw[e]
 rw[valB,valC]at h
 exact absurd h (by decide)
theorem maya:zbo ka=true:=by kernel_rfl
theorem nota:isM ka=false:=by kernel_rfl
theorem mayb (I:Idn):zbo (kb I)=true:=by
 rw[za1,za7]
 refine⟨⟨by show(1:Int)≤2;omega,by show(2:Int)≤1048576;omega,by show 1≤8;omega,rfl,by show(2:Int)=1↔1=0;omega⟩,.inr ⟨?_,?_⟩⟩
 ·kernel_rfl
 ·kernel_rfl
theorem mayc (I:Idn):zbo (kc I)=true:=by
 rw[za1,za7]
 refine⟨⟨by show(1:Int)≤2;omega,by show(2:Int)≤1048576;omega,by show 1≤8;omega,rfl,by show(2:Int)=1↔1=0;omega⟩,.inr ⟨?_,?_⟩⟩
 ·kernel_rfl
 ·kernel_rfl
theorem notb (I:Idn):isM (kb I)=false:=by
 unfold isM
 rw[show decide ((kb I).node= -1)=false by rfl,Bool.and_false]
theorem notc (I:Idn):isM (kc I)=false:=by
 unfold isM
 rw[show decide ((kc I).node= -1)=false by rfl,Bool.and_false]
def zf9:List Com:=[ka,kb IA,kc IA]
theorem zcS {c:Com} (h:c ∈ zf9):c=ka∨c=kb IA∨c=kc IA:=by
 rcases List.mem_cons.1 h with h|h
 ·exact .inl h
 ·rcases List.mem_cons.1 h with h|h
  ·exact .inr (.inl h)
  ·exact .inr (.inr (List.mem_singleton.1 h))
theorem in_a:ka ∈ zf9:=by simp[zf9]
theorem in_b:kb IA ∈ zf9:=by simp[zf9]
theorem in_c:kc IA ∈ zf9:=by simp[zf9]
theorem zph:zf9.map zaj=[IA,IB,IC]:=by
 unfold zf9
 rw[List.map_cons,List.map_cons,List.map_cons,List.map_nil,ida,idb,idc]
theorem nd_trio:(zf9.map zaj).Nodup:=by rw[zph];simp[neAB,neAC,neBC]
theorem zg5 {x y:Idn} (h:Par zaj zf9 x y):y=IA∧(x=IB∨x=IC):=by
 obtain⟨c,hc,e,hy⟩:=h
 rcases zcS hc with rfl|rfl|rfl
 ·cases hy
 ·exact⟨List.mem_singleton.1 hy,.inl (by rw[←e,idb])⟩
 ·exact⟨List.mem_singleton.1 hy,.inr (by rw[←e,idc])⟩
theorem kn_trio {x y:Idn} (h:Kn zaj zf9 x y):y=IA∧(x=IB∨x=IC):=by
 cases h with
 |one h=>exact zg5 h
 |more h k=>
  obtain⟨rfl,h2⟩:=zg5 h
  cases k with
  |one k=>exact absurd (zg5 k).2 (fun q=>q.elim neAB neAC)
  |more k _=>exact absurd (zg5 k).2 (fun q=>q.elim neAB neAC)
theorem kn_b:Kn zaj zf9 (zaj (kb IA)) (zaj ka):=.one ⟨kb IA,in_b,rfl,by rw[ida];exact List.mem_singleton.2 rfl⟩
theorem zef:Closed zaj zf9:=by
 refine⟨fun c hc=>?_,fun c hc=>?_,nd_trio,fun c hc a ha=>?_,fun c hc=>?_,fun c hc a ha b hb k=>?_,fun c hc d hd hne hn=>?_⟩
 ·rcases zcS hc with rfl|rfl|rfl
  ·exact maya
  ·exact mayb _
  ·exact mayc _
 ·rcases zcS hc with rfl|rfl|rfl
  ·exact nota
  ·exact notb _
  ·exact notc _
 ·have:a=IA:=by
   rcases zcS hc with rfl|rfl|rfl
   ·cases ha
   ·exact List.mem_singleton.1 ha
   ·exact List.mem_singleton.1 ha
  rw[this,zph]
  simp
 ·have hg:gAt zaj zf9 IA=1:=by rw[←ida,zf0 nd_trio in_a];rfl
  rcases zcS hc with rfl|rfl|rfl
  ·rfl
  ·show(2:Int)=1+most ([IA].map (gAt zaj zf9))
   rw[List.map_cons,List.map_nil,hg]
   rfl
  ·show(2:Int)=1+most ([IA].map (gAt zaj zf9))
   rw[List.map_cons,List.map_nil,hg]
   rfl
 ·have h2:=(kn_trio k).2
  have:a=IA:=by
   rcases zcS hc with rfl|rfl|rfl
   ·cases ha
   ·exact List.mem_singleton.1 ha
   ·exact List.mem_singleton.1 ha
  rw[this]at h2
  exact h2.elim neAB neAC
 ·rcases zcS hc with rfl|rfl|rfl <;> rcases zcS hd with rfl|rfl|rfl
  ·exact absurd rfl hne
  ·exact⟨by show(1:Int)≠2;omega,fun h=>absurd h (by show ¬(2:Int)<1;omega)⟩
  ·exact absurd hn (by show ¬(0:Int)=1;omega)
  ·exact⟨by show(2:Int)≠1;omega,fun _=>kn_b⟩
  ·exact absurd rfl hne
  ·exact absurd hn (by show ¬(0:Int)=1;omega)
  ·exact absurd hn (by show ¬(1:Int)=0;omega)
  ·exact absurd hn (by show ¬(1:Int)=0;omega)
  ·exact absurd rfl hne
theorem gone_a:Gone zaj zf9 ka:=⟨kb IA,in_b,rfl,rfl,rfl,kn_b⟩
theorem not_c:¬Gone zaj zf9 (kc IA):=by
 rintro⟨d,_,_,_,_,h⟩
 have:=(kn_trio h).1
 rw[idc]at this
 exact neAC this.symm
theorem one_pair {l:List PairM.Pr} {x:PairM.Pr} (hm:PairM.zbD l=true) (h:∀y,y ∈ l↔y=x):l=[x]:=by
 refine PairM.det (PairM.ris hm) ?_ fun y=>by rw[h,List.mem_singleton]
 unfold PairM.zpF Rise.Rises
 simp
theorem eval_trio:(zdE zaj zf9).p=[zeE (kc IA)]:=by
 have hl:=zed zef
 refine one_pair (StM.zaM.1 (zhi hl)).2.2 fun y=>?_
 rw[eval_p hl]
 constructor
 ·rintro⟨c,hc,h2,hg,rfl⟩
  rcases zcS hc with rfl|rfl|rfl
  ·exact absurd gone_a hg
  ·exact absurd h2 (by show ¬(3:Int)=2;omega)
  ·rfl
 ·rintro rfl
  exact⟨_,in_c,rfl,not_c,rfl⟩
theorem anc_trio (x:Idn):x ∈ anc zaj zf9 [IA]↔x=IA:=by
 rw[mem_anc]
 constructor
 ·rintro⟨_,h|⟨y,hy,h⟩⟩
  ·exact List.mem_singleton.1 h
  ·exact(kn_trio h).1
 ·rintro rfl
  exact⟨by rw[zph];simp,.inl (by simp)⟩
theorem part_trio:DgM.part zaj zf9 (· ∈ anc zaj zf9 [IA])=[ka]:=by
 rw[part_iff (q:=fun x=>x=IA) anc_trio]
 unfold DgM.part zf9
 rw[List.filter_cons_of_pos (by rw[ida];simp),List.filter_cons_of_neg (by rw[idb];simpa using neAB.symm),List.filter_cons_of_neg (by rw[idc];simpa using neAC.symm),List.filter_nil]
theorem at_trio:(atK zaj zf9 [IA]).p=[zeE ka]:=by
 unfold atK
 rw[part_trio]
 have hl:∀c ∈ [ka],Fine c:=fun c hc=>zed zef c (by rw[List.mem_singleton.1 hc];exact in_a)
 refine one_pair (StM.zaM.1 (zhi hl)).2.2 fun y=>?_
 rw[eval_p hl]
 constructor
 ·rintro⟨c,hc,_,_,rfl⟩
  rw[List.mem_singleton.1 hc]
 ·rintro rfl
  refine⟨ka,by simp,rfl,?_,rfl⟩
  rintro⟨d,hd,h3,_⟩
  rw[List.mem_singleton.1 hd]at h3
  exact absurd h3 (by show ¬(2:Int)=3;omega)
end Go.Proofs.YtgmdhaepiclkcaaGreatDoor.EaJ
