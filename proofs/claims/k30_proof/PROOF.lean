import PyProof.Rows.All
import Wide.All
import OpenK.AllK
import Wide.FinOn
import Lean
import PyProof.EqAt
import PyProof.EqKinds
import PyProof.TupleCall
import PyProof.NeKinds
import PyProof.ZipIter
import PyProof.ListRange
import PyProof.TupleOfSeq
import PyProof.ConsumeWalk
import PyProof.IsRules
import PyProof.SetKind
import PyProof.SetRoads
import PyProof.Rows.SetFrom
import PyProof.Draws
import PyProof.EnumMake
import PyProof.DictCompW
import PyProof.ListMulRoad
import PyProof.Rows.SeqMore2
import PyProof.WalkInts
import PyProof.DictRoadsH
import PyProof.DictItems
import KE.KDictList
import PySem.Challenge.RW_bringhome_k30_counts_shown
section
open PySem
abbrev Ya:=List (List Int)
abbrev Yb:=W.Frag
abbrev Yc:=Value->Shared->Prop
abbrev Yd:=List (Addr × Obj)
abbrev Ye:=List Int
abbrev Yf:=List Value
abbrev Yg:=List Addr
abbrev Yh:=Str->Option Value
abbrev Yi:=List Expr
abbrev Yj:=List Nat
abbrev Yk:=List Str
abbrev Yl:=Shared
abbrev Ym:=Program
abbrev Yn:=Around
abbrev Yo:=World
abbrev Yp:=Array Value
abbrev Yq:=List Int->Prop
abbrev Yr:=Value->Nat
abbrev Ys:=Option Int
abbrev Yt:=Addr
abbrev Yu:=Value
abbrev Yv:=List (Str × Addr)
abbrev Yw:=Array (Int × Value)
abbrev Yx:=Result->Shared->Prop
abbrev Yy:=List Stmt
abbrev Yz:=FuncData
abbrev Y0:=Scope
abbrev Y1:=List Int->List (List Int)
abbrev Y2:=Value->Value->Sem Value
end
namespace PySem.W.Fast
def tw11007436892935691798:=0
def tw2680264447764843664:=0
def tw12098765433861686971:=0
def tw4723038846176721986:=0
def tw15192960162380661284:=0
def tw11198688079948025266:=0
def tw10881781540944913373:=0
def tw6352066429746735702:=0
def tw11025499267746216535:=0
def tw6515214007300144589:=0
def tw7502419439369753264:=0
def tw5030607890158137762:=0
def tw14996592208393721739:=0
def tw14183925537759646115:=0
def tw8535976042897598667:=0
def tw3679641949552495071:=0
def tw11978689901141303293:=0
def tw7245779746149606940:=0
def tw5705650059638524331:=0
def tw8514304359375294412:=0
def tw8714504917020331186:=0
def tw8585636982778926103:=0
def tw17351328341450688152:=0
def tw872173805333222800:=0
def tw13432733274465150405:=0
def tw16193915122750248887:=0
def tw18391728506114088188:=0
def tw10207515186015802547:=0
def tw18295845162092076710:=0
def tw14814708176862435826:=0
def tw296917743867564933:=0
def tw10473857439483659892:=0
def tw13663131649837302091:=0
def tw10703645426804263555:=0
def tw17018300576547375059:=0
def tw16145991109437669731:=0
def tw11598783937238639018:=0
def tw7663776673568766477:=0
def tw7723671100350464528:=0
def tw17503183087623053899:=0
def tw6387219266935649841:=0
def tw14877257885155456803:=0
def tw14262370670243323351:=0
def tw10558254349551460255:=0
def tw7584541140922020068:=0
def tw2097823966505010530:=0
def tw3668917472155212829:=0
def tw12640565273389020384:=0
def tw11447127716015680536:=0
def tw1939141782916020824:=0
def tw2686538982481178540:=0
def tw15846640238236693705:=0
def tw2539704407225151310:=0
def tw2345926064615202243:=0
def tw14973590949470759947:=0
def tw14572271145594927479:=0
def tw7940182753147886050:=0
def tw15765762468286782890:=0
def tw12647781232797445218:=0
def tw4353155653730325704:=0
def tw10546257064798179568:=0
def tw13876058557010883288:=0
def tw12305066611729032186:=0
def tw13531193244808706054:=0
def tw6983165808515767514:=0
def tw13744732462812688417:=0
def tw3930730605218173496:=0
def tw16014024463391686740:=0
def tw5887238762407752177:=0
def tw9962624969161743448:=0
def tw858979915565861187:=0
def tw14650045662501764149:=0
def tw4061706440352639045:=0
def tw4672389568026286477:=0
def tw11667272566596475850:=0
def tw8189326168275542170:=0
def tw2727064176424659504:=0
def tw12783146910797677482:=0
def tw17119662094652867335:=0
def tw4350035170062201354:=0
def tw7502459898648893811:=0
def tw6725832132789530795:=0
def tw1515913120947171642:=0
def tw2729338263586693459:=0
def tw1012113229527620587:=0
def tw17533271573417980509:=0
def tw14952670508176819118:=0
def tw2848389788106326429:=0
def tw1198358981223585154:=0
def tw2400600867460573437:=0
def tw15025963174859993316:=0
def tw7537577277440385010:=0
def tw7517508334860030472:=0
def tw267330248246903502:=0
def tw3474875523640773307:=0
def tw16514318397557499596:=0
def tw16559970557186818863:=0
def tw3840375889289390246:=0
def tw16761818106433759134:=0
def tw6391048657939092915:=0
def tw2057356336288683658:=0
def tw9586545102593446874:=0
def tw3238212136867249591:=0
def tw1518483545968969786:=0
def tw14402253764236795956:=0
def tw5116034850343700435:=0
def tw12584030108239039326:=0
def tw1126147916161857361:=0
def tw3885128569510183477:=0
def tw15627645437851413097:=0
def tw3344613802260464246:=0
def tw6141675935409624582:=0
def tw8098785532304838617:=0
def tw7691331884102468688:=0
def tw3862976571416400356:=0
def tw12576167474671576736:=0
def tw9954166126117521918:=0
def tw9538123585208146394:=0
def tw13575864870465704827:=0
def tw4309169654861906218:=0
def tw3540369229356773523:=0
def tw17334597880515375174:=0
def tw12414164143024184493:=0
def tw16289444583921173705:=0
def tw11951544932274152512:=0
def tw14478983482465691241:=0
def tw627238703015444664:=0
def tw5560589784133415885:=0
def tw4045004560986752430:=0
def tw3696740265057799701:=0
def tw6138839235497970461:=0
def tw5940585846653197177:=0
def tw7694156535182446420:=0
def tw6640206972697599620:=0
def tw5098972530070562652:=0
def tw1856167501620599937:=0
def tw14306633617490920413:=0
def tw6342237601652397680:=0
def tw10396880825552319612:=0
def tw7046411030080141094:=0
def tw13492990122995319910:=0
def tw17026418770822314531:=0
def tw5785502841993301624:=0
def tw13873373528619313684:=0
def tw1032226314432481142:=0
def tw11375212094212696236:=0
def tw13424935165205732973:=0
def tw7920272422510889721:=0
def tw734987512200561676:=0
def tw6936308703521696790:=0
def tw2990777279173625762:=0
def tw12191571912392348994:=0
def tw18083868160830583593:=0
def tw7362721447689244206:=0
def tw7551120791894693788:=0
def tw18267327299560697351:=0
def tw6733993989895756614:=0
def tw17416601576009509271:=0
def tw17438604713950907029:=0
def tw13678720199794881112:=0
def tw15403053339192493222:=0
def tw3193475989840601959:=0
def tw8317523129665682954:=0
def tw14117299107252578699:=0
def tw15934253669237047539:=0
def tw3983012828587819661:=0
def tw18286535428205817334:=0
def tw6731634053569753220:=0
def tw14192723200496832413:=0
def tw14801468573434982057:=0
def tw11166342188822421279:=0
def tw13131733893292989473:=0
def tw13360272983019313737:=0
def tw7699667778270832403:=0
def tw14597689645110484308:=0
def tw18261337590753273562:=0
def tw2385170312978560519:=0
def tw8531623736697098079:=0
def tw15575822327700004483:=0
def tw4012324968301480902:=0
def tw4319336986107631822:=0
def tw4697629786268558590:=0
def tw8500007049419461342:=0
def tw6219372146398522590:=0
def tw6016677832807633905:=0
def tw4006824493736190249:=0
def tw11098772587345914933:=0
def tw4463246626672140904:=0
def tw7227210153051558511:=0
def tw2824640330449784942:=0
def tw10853480428685710459:=0
def tw15454239822943519863:=0
def tw3613901069168967382:=0
def tw7056780943185619001:=0
def tw10309761190451067286:=0
end PySem.W.Fast
section
open PySem PySem.Spec PyProof.Rows
def AA:type_of% @wpAny_bind:=@wpAny_bind
def AN:type_of% @Heap.get?_push_of_some:=@Heap.get?_push_of_some
def AD:type_of% @wpAny_pure:=@wpAny_pure
def AG:type_of% @List.getElem?_eq_some_iff:=@List.getElem?_eq_some_iff
def AV:type_of% @List.getElem?_eq_getElem:=@List.getElem?_eq_getElem
def BM:type_of% @List.getD_eq_getElem?_getD:=@List.getD_eq_getElem?_getD
def AF:type_of% @Nat.le_refl:=@Nat.le_refl
def AJ:type_of% @List.getElem?_append_left:=@List.getElem?_append_left
def AQ:type_of% @List.size_toArray:=@List.size_toArray
def AH:type_of% @List.length_map:=@List.length_map
def Ad:type_of% @Heap.get?_push_size:=@Heap.get?_push_size
def AI:type_of% @Heap.lt_size:=@Heap.lt_size
def AK:type_of% @List.mem_cons:=@List.mem_cons
def Ai:type_of% @List.mem_cons_of_mem:=@List.mem_cons_of_mem
def Ae:type_of% @List.mem_cons_self:=@List.mem_cons_self
def AB:type_of% @if_pos:=@if_pos
def AU:type_of% @List.length_append:=@List.length_append
def Ac:type_of% @List.mem_map:=@List.mem_map
def AE:type_of% @if_neg:=@if_neg
def AX:type_of% @List.map_cons:=@List.map_cons
def Ap:type_of% @List.mem_append_right:=@List.mem_append_right
def AY:type_of% @Nat.ne_of_lt:=@Nat.ne_of_lt
def B3:type_of% @Bool.false_ne_true:=@Bool.false_ne_true
def Bn:type_of% @List.getElem?_map:=@List.getElem?_map
def Ax:type_of% @List.map_map:=@List.map_map
def As:type_of% @Nat.lt_of_lt_of_le:=@Nat.lt_of_lt_of_le
def Ak:type_of% @List.mem_append:=@List.mem_append
def AW:type_of% @Nat.le_trans:=@Nat.le_trans
def Bd:type_of% @List.mem_singleton:=@List.mem_singleton
def Ba:type_of% @wpAny_newObj_type:=@wpAny_newObj_type
def AZ:type_of% @List.getElem?_set_ne:=@List.getElem?_set_ne
def BO:type_of% @List.not_mem_nil:=@List.not_mem_nil
def AS:type_of% @wpAny_mono:=@wpAny_mono
def C1:type_of% @List.length_cons:=@List.length_cons
def Bl:type_of% @List.getElem_mem:=@List.getElem_mem
def Aa:type_of% @decide_eq_false:=@decide_eq_false
def BR:type_of% @Bool.and_eq_true:=@Bool.and_eq_true
def Bi:type_of% @List.all_eq_true:=@List.all_eq_true
def Dq:type_of% @wpAny_callSpecial?_slot:=@wpAny_callSpecial?_slot
def Cg:type_of% @wpAny_call_entry:=@wpAny_call_entry
def Bk:type_of% @List.mem_range:=@List.mem_range
def B2:type_of% @wpAny_field:=@wpAny_field
def Bu:type_of% @Heap.size_push:=@Heap.size_push
def Du:type_of% @Heap.get?_update_other:=@Heap.get?_update_other
def BZ:type_of% @Nat.lt_irrefl:=@Nat.lt_irrefl
def Ct:type_of% @Array.length_toList:=@Array.length_toList
def Au:type_of% @List.append_nil:=@List.append_nil
def EL:type_of% @Array.getElem?_eq_getElem:=@Array.getElem?_eq_getElem
def BD:type_of% @Nat.zero_le:=@Nat.zero_le
def Dc:type_of% @Heap.get?_update_self:=@Heap.get?_update_self
def CY:type_of% @Nat.lt_succ_of_lt:=@Nat.lt_succ_of_lt
def DW:type_of% @wpAny_seqItems:=@wpAny_seqItems
def Bq:type_of% @List.map_append:=@List.map_append
def CF:type_of% @wpAny_holding:=@wpAny_holding
def CK:type_of% @List.getElem?_set_self:=@List.getElem?_set_self
def EY:type_of% @Around.under_plainId:=@Around.under_plainId
def D1:type_of% @of_decide_eq_true:=@of_decide_eq_true
def DK:type_of% @Nat.lt_succ_self:=@Nat.lt_succ_self
def CU:type_of% @wpAny_standAt:=@wpAny_standAt
def CZ:type_of% @PySem.W.mg_none_of:=@PySem.W.mg_none_of
def CB:type_of% @Option.some.inj:=@Option.some.inj
def Dz:type_of% @Bool.false_eq_true:=@Bool.false_eq_true
def DJ:type_of% @PySem.mem_of_lookup:=@PySem.mem_of_lookup
def DR:type_of% @Heap.SameBut.update:=@Heap.SameBut.update
def Cd:type_of% @List.cons.inj:=@List.cons.inj
def DS:type_of% @codeAny_builtin:=@codeAny_builtin
def Bm:type_of% @List.append_assoc:=@List.append_assoc
def BB:type_of% @decide_eq_true:=@decide_eq_true
def Gu:type_of% @List.getElem?_eq_none:=@List.getElem?_eq_none
def E2:type_of% @List.getElem?_append_right:=@List.getElem?_append_right
def DD:type_of% @List.mem_filter:=@List.mem_filter
def EI:type_of% @wpAny_truthy_bool:=@wpAny_truthy_bool
def Bx:type_of% @decide_eq_true_eq:=@decide_eq_true_eq
def DH:type_of% @List.nodup_append:=@List.nodup_append
def Cc:type_of% @List.mem_append_left:=@List.mem_append_left
def El:type_of% @Obj.data_mapFields:=@Obj.data_mapFields
def Fq:type_of% @Calls.spliced_cons:=@Calls.spliced_cons
def BY:type_of% @or_false:=@or_false
def DE:type_of% @Nat.lt_or_ge:=@Nat.lt_or_ge
def Cm:type_of% @wpAny_rule:=@wpAny_rule
def EJ:type_of% @List.length_take:=@List.length_take
def Dd:type_of% @Nat.ne_of_gt:=@Nat.ne_of_gt
def G8:type_of% @List.take_of_length_le:=@List.take_of_length_le
def Em:type_of% @PyProof.Rows.slot_tuple_getitem:=@PyProof.Rows.slot_tuple_getitem
def ED:type_of% @List.getElem?_set:=@List.getElem?_set
def Cq:type_of% @Nat.mul_le_mul:=@Nat.mul_le_mul
def Dy:type_of% @PySem.W.kia_one:=@PySem.W.kia_one
def Gf:type_of% @Array.getElem?_toList:=@Array.getElem?_toList
def Fx:type_of% @wpAny_pyIter_tuple:=@wpAny_pyIter_tuple
def DQ:type_of% @Nat.le_succ:=@Nat.le_succ
def Ep:type_of% @List.find?_cons:=@List.find?_cons
def Bf:type_of% @congrArg:=@congrArg
def Hg:type_of% @wpAny_comprehension_free:=@wpAny_comprehension_free
def Ey:type_of% @List.length_range:=@List.length_range
def EE:type_of% @List.foldl_append:=@List.foldl_append
def En:type_of% @List.getElem_of_mem:=@List.getElem_of_mem
def FY:type_of% @List.lookup_cons:=@List.lookup_cons
def EO:type_of% @List.pairwise_cons:=@List.pairwise_cons
def Bh:type_of% @List.length_set:=@List.length_set
def GA:type_of% @List.length_filter_le:=@List.length_filter_le
def D7:type_of% @List.length_drop:=@List.length_drop
def DZ:type_of% @Bool.eq_iff_iff:=@Bool.eq_iff_iff
def F6:type_of% @List.mem_flatMap:=@List.mem_flatMap
end
set_option Elab.async false
set_option linter.all false
set_option maxRecDepth 100000
set_option genSizeOf false
set_option genInjectivity false
set_option compiler.extract_closed false
noncomputable section
section
open PySem PySem.Spec PyProof.Rows
namespace L2
noncomputable abbrev Key:=Sum Int Str
noncomputable def Hd:Key->Value->Bool
 |.inl k,v=>Value.isInt k v
 |.inr x,v=>Value.isStrOf x v
noncomputable def UE (w:Yo):Key->Int
 |.inl k=>hashInt k
 |.inr x=>hashStr w x
def E5:∀ {k:Key} {v:Yu},Hd k v=true->(∃ i t,k=Sum.inl i/\v=Value.int i t)\/(∃ x t,k=Sum.inr x/\v=Value.str x t)
 |.inl i,v,h=>by
  obtain ⟨t,e⟩:=Value.isInt_shape (k:=i) (v:=v) h;exact .inl ⟨i,t,rfl,e⟩
 |.inr x,v,h=>by
  obtain ⟨t,e⟩:=Value.isStrOf_shape (x:=x) (v:=v) h;exact .inr ⟨x,t,rfl,e⟩
def fZ (i:Int) (t:Tok):Hd (.inl i) (.int i t)=true:=by simp[Hd,Value.isInt]
def Vm (x:Str) (t:Tok):Hd (.inr x) (.str x t)=true:=by simp[Hd,Value.isStrOf]
def iA (a b:Int):decide ((Sum.inl a:Key)=Sum.inl b)=(a==b):=by
 by_cases e:a=b
 .subst e;simp
 .have h:¬ (Sum.inl a:Key)=Sum.inl b:=λq=>e (Sum.inl.inj q);rw[Aa h];exact (beq_eq_false_iff_ne.mpr e).symm
def VB (a b:Str):decide ((Sum.inr a:Key)=Sum.inr b)=decide (a=b):=by
 by_cases e:a=b
 .subst e;simp
 .have h:¬ (Sum.inr a:Key)=Sum.inr b:=λq=>e (Sum.inr.inj q);rw[Aa h,Aa e]
def YF (a:Int) (b:Str):decide ((Sum.inl a:Key)=Sum.inr b)=false:=Aa (λq=>nomatch q)
def mO (a:Str) (b:Int):decide ((Sum.inr a:Key)=Sum.inl b)=false:=Aa (λq=>nomatch q)
noncomputable def CP (prog:Ym) (w:Yo):PySem.KeyKind prog w Key where
 is:=Hd
 hash:=UE w
 inj:=λv a b ha hb=>by
  rcases E5 ha with ⟨i,t,rfl,rfl⟩|⟨x,t,rfl,rfl⟩
  .rcases E5 hb with ⟨j,u,rfl,e⟩|⟨y,u,rfl,e⟩
   .injection e with e1 _;rw[e1]
   .exact nomatch e
  .rcases E5 hb with ⟨j,u,rfl,e⟩|⟨y,u,rfl,e⟩
   .exact nomatch e
   .injection e with e1 _;rw[e1]
 byValue:=λk v h=>by
  rcases E5 h with ⟨i,t,rfl,rfl⟩|⟨x,t,rfl,rfl⟩ <;> rfl
 pyHash:=λhv h=>by
  rcases E5 hv with ⟨i,t,rfl,rfl⟩|⟨x,t,rfl,rfl⟩
  .exact wpAny_pyHash_int h
  .exact wpAny_pyHash_str h
 eqBool:=λhu hv h=>by
  rcases E5 hu with ⟨i,t,rfl,rfl⟩|⟨x,t,rfl,rfl⟩
  .rcases E5 hv with ⟨j,u,rfl,rfl⟩|⟨y,u,rfl,rfl⟩
   .rw[iA]at h;exact wpAny_eqBool_int h
   .rw[YF]at h;exact SeqAt.EqAt.int_str i t y u _ _ _ _ h
  .rcases E5 hv with ⟨j,u,rfl,rfl⟩|⟨y,u,rfl,rfl⟩
   .rw[mO]at h;exact SeqAt.EqAt.str_int x t j u _ _ _ _ h
   .rw[VB]at h;exact wpAny_eqBool_str h
 «strs»:=λk x t v h=>by
  rcases E5 h with ⟨i,u,rfl,e⟩|⟨y,u,rfl,e⟩
  .exact nomatch e
  .injection e with e1 _
   subst e1
   cases v <;> rfl
def bC (prog:Ym) (w:Yo) (i:Int) (t:Tok):(CP prog w).is (.inl i) (.int i t)=true:=fZ i t
def Wi (prog:Ym) (w:Yo) (x:Str) (t:Tok):(CP prog w).is (.inr x) (.str x t)=true:=Vm x t
set_option genInjectivity true in
inductive V where
 |non|bl (b:Bool)|int (i:Int)|str (x:Str)|byt (b:Array UInt8)|flt (b:UInt64)|ref (a:Yt)|ty (n:String)
 deriving DecidableEq
def zr:V->Value->Prop
 |.non,u=>u=Value.none
 |.bl b,u=>u=Value.bool b
 |.int i,u=>∃ t,u=Value.int i t
 |.str x,u=>∃ t,u=Value.str x t
 |.byt b,u=>∃ t,u=Value.bytes b t
 |.flt b,u=>∃ t,u=Value.float b t
 |.ref a,u=>u=Value.ref a
 |.ty n,u=>u=Value.type n
abbrev zg:List V->List Value->Prop:=Paired zr
def zg.length {xs:List V} {us:Yf} (r:zg xs us):xs.length=us.length:=Paired.length r
def zg.get:∀ {xs:List V} {us:Yf} {i:Nat} {x:V},zg xs us->xs[i]?=some x -> ∃ u,us[i]?=some u/\zr x u
 |_,_,_,_,.nil,e=>by simp at e
 |_,_,0,_,.cons r _,e=>by simp at e;subst e;exact ⟨_,rfl,r⟩
 |_,_,i+1,x,.cons _ t,e=>by
  obtain ⟨u,h1,h2⟩:=zg.get (i:=i) (x:=x) t (by simpa using e);exact ⟨u,by simpa using h1,h2⟩
def zg.set {x:V} {u:Yu} (r:zr x u):∀ {xs:List V} {us:Yf} (i:Nat),zg xs us->zg (xs.set i x) (us.set i u)
 |_,_,_,.nil=> .nil
 |_,_,0,.cons _ t=> .cons r t
 |_,_,i+1,.cons q t=> .cons q (zg.set r i t)
def zg.append:∀ {xs ys:List V} {us ws:Yf},zg xs us->zg ys ws->zg (xs++ys) (us++ws)
 |_,_,_,_,.nil,s=>s
 |_,_,_,_,.cons r t,s=> .cons r (zg.append t s)
def zg.take:∀ {xs:List V} {us:Yf} (n:Nat),zg xs us->zg (xs.take n) (us.take n)
 |_,_,0,_=> .nil
 |_,_,_+1,.nil=> .nil
 |_,_,n+1,.cons r t=> .cons r (zg.take n t)
def zg.drop:∀ {xs:List V} {us:Yf} (n:Nat),zg xs us->zg (xs.drop n) (us.drop n)
 |_,_,0,r=>r
 |_,_,_+1,.nil=> .nil
 |_,_,n+1,.cons _ t=>zg.drop n t
def DL:Option V->Option Value->Prop
 |some v,some u=>zr v u
 |none,none=>True
 |_,_=>False
def KV {κ:Type}:List (κ × V)->List (κ × Value)->Prop:=Paired λ(p:κ × V) (q:κ × Value)=>p.1=q.1/\zr p.2 q.2
noncomputable def kV:Key->V
 |.inl i=> .int i
 |.inr x=> .str x
set_option genInjectivity true in
inductive HO where
 |lst (xs:List V)
 |tup (xs:List V)
 |dK (kvs:List (Key × V))|dT (kvs:List (List Key × V))
 |set (S:Int->Bool) (n:Nat)
 |ins (C dx:Yt) (fs:List (Str × V))
 |own (x:Yt)
 |xd (fs:List (Str × V))
 |met (f x:Yt)
 |rng (lo hi:Int)
 |frz (o:Obj) (u:HO)
 |tbl (ps:Yp)
 |ext (φ:Heap->Prop)
noncomputable abbrev Hp:=Addr->Option HO
noncomputable def upd (H:Hp) (a:Yt) (o:HO):Hp:=λb=>if b=a then some o else H b
def CV {H:Hp} {a:Yt} {o:HO}:upd H a o a=some o:=by unfold upd;rw[AB rfl]
def zf {H:Hp} {a b:Yt} {o:HO} (h:b≠a):upd H a o b=H b:=by unfold upd;rw[AE h]
def GX {H:Hp} {a b:Yt} {o u:HO} (h:H a=some o) (h':H b=some u) (d:o≠u):a≠b:=by
 intro e;subst e;rw[h]at h';exact d (CB h')
def DX {H:Hp} {a b:Yt} {o:HO} (h:H a=some o) (h':H b=none):a≠b:=by
 intro e;subst e;rw[h]at h';cases h'
def Dm (h:Heap) (a:Addr) (items:Array Value):Prop:=∃ o,h.get? a=some o/\o.cls=.type "tuple" /\ (∃ n,o.data=.seq items n)/\o.dict=none
def Dm.tup {h:Heap} {a:Yt} {items:Yp} (x:Dm h a items):IsTup h a items:=let ⟨o,e,c,d,_⟩:=x;⟨o,e,c,d⟩
def Dm.lt {h:Heap} {a:Yt} {items:Yp} (x:Dm h a items):a<h.objs.size:=let ⟨_,e,_⟩:=x;AI e
def Dm.new (h:Heap) (items:Array Value):Dm (h.push { cls:=.type "tuple", data:=.seq items }) h.objs.size items:=⟨_,Ad _ rfl,rfl,⟨_,rfl⟩,rfl⟩
section
variable (P:Ym) (w:Yo)
def Ar (H:Hp) (h:Heap) (a:Yt):HO->Prop
 |.lst xs=>xs.length<=sizeLine /\ ∃ (its:List Value) (n:Nat),zg xs its/\h.get? a=some { cls:=.type "list", data:=.seq its.toArray n }
 |.tup xs=>xs.length<=sizeLine /\ ∃ its:List Value,zg xs its/\Dm h a its.toArray
 |.dK kvs=>kvs.length<=sizeLine/\(a==sysModules)=false /\ ∃ vs,KV kvs vs/\h.DictOf (CP P w) a vs
 |.dT kvs=>kvs.length<=sizeLine/\(a==sysModules)=false /\ ∃ xs:List (List Key × Addr × Value),
   Paired (λ(p:List Key × V) (q:List Key × Addr × Value)=>p.1=q.1/\H q.2.1=some (.tup (p.1.map kV))/\zr p.2 q.2.2) kvs xs /\
   ∃ o es ep,h.get? a=some o/\o.ExactDict/\o.data=.dict es ep/\es.toList=xs.map (entryOfKey (tupleKind (CP P w)))/\(xs.map (·.1)).Nodup
 |.set S n=>h.SetOf (intKind P w) a S n
 |.ins C dx fs=>H dx=some (.own a)/\fs.length<=1000/\dx≠a/\h.get? a=some (PySem.W.instObj C dx) /\
   ∃ mA,h.Ns1 dx mA/\(∀ f,DL (fs.lookup f) (mA f))/\PySem.Within mA (fs.map (·.1))
 |.own _=>∃ o,h.get? a=some o
 |.xd fs=>∃ mA,h.Ns1 a mA /\ ∀ f,DL (fs.lookup f) (mA f)
 |.rng lo hi=>∃ t u v,h.get? a=some { cls:=.type "range", data:=.fields #[.int lo t,.int hi u,.int 1 v] }
 |.frz o u=>h.get? a=some o/\Ar H h a u
 |.tbl ps=>h.get? a=some { cls:=.none,data:=.fields ps }
 |.met f x=>h.get? a=some (PySem.W.methodObj (.ref f) (.ref x))
 |.ext φ=>φ h/\(∃ o,h.get? a=some o) /\ ∀ h1 h2:Heap,φ h1->(∀ o,h1.get? a=some o->h2.get? a=some o)->φ h2
def HOk (H:Hp) (h:Heap):Prop:=∀ a o,H a=some o->Ar P w H h a o
end
section
variable {P:Ym} {w:Yo} {H H':Hp} {h h':Heap} {a:Yt} {o:HO}
def Ar.lt (x:Ar P w H h a o):a<h.objs.size:=by
 cases o with
 |lst xs=>obtain ⟨_,_,_,_,e⟩:=x;exact AI e
 |tup xs=>obtain ⟨_,_,_,p⟩:=x;exact p.lt
 |dK kvs=>obtain ⟨_,_,_,_,o,_,_,e,_⟩:=x;exact AI e
 |dT kvs=>obtain ⟨_,_,_,_,o,_,_,e,_⟩:=x;exact AI e
 |set S n=>obtain ⟨o,_,_,_,e,_⟩:=x;exact AI e
 |ins C dx fs=>obtain ⟨_,_,_,e,_⟩:=x;exact AI e
 |own y=>obtain ⟨_,e⟩:=x;exact AI e
 |xd fs=>obtain ⟨_,⟨_,_,_,e,_⟩,_⟩:=x;exact AI e
 |rng lo hi=>obtain ⟨_,_,_,e⟩:=x;exact AI e
 |frz ob u=>obtain ⟨e,_⟩:=x;exact AI e
 |tbl ps=>exact AI (show h.get? a=some _ from x)
 |met f y=>exact AI (show h.get? a=some _ from x)
 |ext φ=>obtain ⟨_,⟨_,e⟩,_⟩:=x;exact AI e
def Paired.mapP {α β:Type} {F G:α->β->Prop}:∀ {l₁:List α} {l₂:List β},Paired F l₁ l₂->(∀ a b,F a b->G a b)->Paired G l₁ l₂
 |_,_,.nil,_=> .nil
 |_,_,.cons r t,f=> .cons (f _ _ r) (Paired.mapP t f)
def Ar.stay (x:Ar P w H h a o) (k:∀ b u,(b=a\/H b=some (.own a))->h.get? b=some u->h'.get? b=some u)
  (ho:∀ b,H b=some (.own a)->H' b=some (.own a)) (ht:∀ b xs,H b=some (.tup xs)->H' b=some (.tup xs)):Ar P w H' h' a o:=by
 induction o with
 |lst xs=>obtain ⟨z,its,n,r,e⟩:=x;exact ⟨z,its,n,r,k _ _ (.inl rfl) e⟩
 |tup xs=>obtain ⟨z,its,r,ob,e,c⟩:=x;exact ⟨z,its,r,ob,k _ _ (.inl rfl) e,c⟩
 |dK kvs=>obtain ⟨z,y,vs,r,ob,es,ep,e,c⟩:=x;exact ⟨z,y,vs,r,ob,es,ep,k _ _ (.inl rfl) e,c⟩
 |dT kvs=>
  obtain ⟨z,y,xs,r,ob,es,ep,e,c⟩:=x;exact ⟨z,y,xs,Paired.mapP r λp q z=>⟨z.1,ht _ _ z.2.1,z.2.2⟩,ob,es,ep,k _ _ (.inl rfl) e,c⟩
 |set S n=>obtain ⟨ob,es,ep,t,e,c⟩:=x;exact ⟨ob,es,ep,t,k _ _ (.inl rfl) e,c⟩
 |ins C dx fs=>
  obtain ⟨d,z,ne,e,mA,⟨od,es,ep,e2,c⟩,r⟩:=x;exact ⟨ho _ d,z,ne,k _ _ (.inl rfl) e,mA,⟨od,es,ep,k _ _ (.inr d) e2,c⟩,r⟩
 |own y=>obtain ⟨ob,e⟩:=x;exact ⟨ob,k _ _ (.inl rfl) e⟩
 |xd fs=>obtain ⟨mA,⟨od,es,ep,e,c⟩,r⟩:=x;exact ⟨mA,⟨od,es,ep,k _ _ (.inl rfl) e,c⟩,r⟩
 |rng lo hi=>obtain ⟨t,u,v,e⟩:=x;exact ⟨t,u,v,k _ _ (.inl rfl) e⟩
 |frz ob u ih=>obtain ⟨e,q⟩:=x;exact ⟨k _ _ (.inl rfl) e,ih q⟩
 |tbl ps=>
  have e:h.get? a=some { cls:=.none,data:=.fields ps }:=x;exact k a _ (.inl rfl) e
 |met f y=>
  have e:h.get? a=some (PySem.W.methodObj (.ref f) (.ref y)):=x;exact k a _ (.inl rfl) e
 |ext φ=>obtain ⟨p,⟨o,e⟩,st⟩:=x;exact ⟨st _ _ p λo q=>k _ _ (.inl rfl) q,⟨o,k _ _ (.inl rfl) e⟩,st⟩
def HOk.lt (x:HOk P w H h) (e:H a=some o):a<h.objs.size:=(x a o e).lt
def HOk.fresh (x:HOk P w H h) (e:h.objs.size<=a):H a=none:=by
 cases q:H a with
 |none=>rfl
 |some u=>exact absurd (As (x.lt q) e) (BZ _)
def HOk.kept (x:HOk P w H h) (k:∀ b u,h.get? b=some u->h'.get? b=some u):HOk P w H h':=λa o e=>
 (x a o e).stay (λb u _ q=>k b u q) (λ_ q=>q) λ_ _ q=>q
def HOk.laid (x:HOk P w H h) (k:∀ b u,h.get? b=some u->h'.get? b=some u) (hp:h.objs.size<=a) (new:Ar P w (upd H a o) h' a o):HOk P w (upd H a o) h':=λb u e=>by
 have hn:=x.fresh hp;by_cases hb:b=a
 .subst hb;rw[CV]at e;cases e;exact new
 .rw[zf hb]at e;exact (x b u e).stay (λc v _ q=>k c v q) (λc q=>by rw[zf (DX q hn)];exact q) λc xs q=>by rw[zf (DX q hn)];exact q
end
def Rd (H:Hp) (a:Yt) (u:HO):Prop:=H a=some u \/ ∃ o,H a=some (.frz o u)
def Rd.ok {P:Ym} {w:Yo} {H:Hp} {h:Heap} {a:Yt} {u:HO} (r:Rd H a u) (x:HOk P w H h):Ar P w H h a u:=by
 rcases r with r|⟨o,r⟩
 .exact x a u r
 .obtain ⟨_,q⟩:=x a _ r;exact q
def Mut:Option HO->Prop
 |some (.lst _)=>True
 |some (.dK _)=>True
 |some (.dT _)=>True
 |some (.set _ _)=>True
 |some (.ins _ _ _)=>True
 |some (.ext _)=>True
 |_=>False
section
variable {P:Ym} {w:Yo} {H:Hp} {h h':Heap} {x e:Yt} {o':HO}
def HOk.write (ok:HOk P w H h) (mu:Mut (H x)) (he:e=x\/H e=some (.own x)) (k:∀ b u,b≠e->h.get? b=some u->h'.get? b=some u) (heo:∃ u,h'.get? e=some u)
  (new:Ar P w (upd H x o') h' x o'):HOk P w (upd H x o') h':=λb u q=>by
 have nown:∀ c y,H c=some (.own y)->c≠x:=λc y r z=>by subst z;rw[r]at mu;exact mu
 have ntup:∀ c xs,H c=some (.tup xs)->c≠x:=λc xs r z=>by subst z;rw[r]at mu;exact mu
 by_cases hb:b=x
 .subst hb;rw[CV]at q;cases q;exact new
 .rw[zf hb]at q;by_cases hbe:b=e
  .have q':H b=some (.own x):=by
    rcases he with z|z
    .exact absurd (hbe.trans z) hb
    .rw[hbe];exact z
   rw[q]at q';cases q';obtain ⟨v,hv⟩:=heo;exact ⟨v,by rw[hbe];exact hv⟩
  .refine (ok b u q).stay (λc v hc r=>k c v ?_ r) (λc r=>by rw[zf (nown c b r)];exact r) λc xs r=>by rw[zf (ntup c xs r)];exact r
   rcases hc with rfl|hc
   .exact hbe
   .rintro rfl;rcases he with z|z
    .exact nown c b hc z
    .rw[hc]at z;cases z;exact hb rfl
end
structure Un (fs ex:Yg) (H H':Hp) (h h':Heap):Prop where
 keep:∀ b o,h.get? b=some o->H b=none->b∉fs->b∉ex->h'.get? b=some o
 slot:∀ b o,h.get? b=some o->H b=none->b∈fs->b∉ex -> ∃ sl,h'.get? b=some { o with slots:=sl }
 free:∀ b o,h.get? b=some o->H b=none->b∉ex->H' b=none
 there:∀ b o,h.get? b=some o->b∉ex -> ∃ o',h'.get? b=some o'
 tups:∀ b xs,H b=some (.tup xs)->H' b=some (.tup xs)
 frzs:∀ b o u,H b=some (.frz o u)->H' b=some (.frz o u)
 tbls:∀ b ps,H b=some (.tbl ps) -> ∃ more,H' b=some (.tbl (ps++more))
section
variable {fs fs' ex ex':Yg} {H H1 H2:Hp} {h h1 h2 h':Heap} {a x e:Yt} {o:HO}
def Un.any (u:Un fs ex H H1 h h1) {b:Yt} {ob:Obj} (q:h.get? b=some ob) (n:H b=none) (hx:b∉ex):∃ sl,h1.get? b=some { ob with slots:=sl }:=by
 by_cases hb:b∈fs
 .exact u.slot b ob q n hb hx
 .exact ⟨ob.slots,u.keep b ob q n hb hx⟩
def Un.kept (k:∀ b u,h.get? b=some u->h'.get? b=some u):Un fs ex H H h h' :=
 ⟨λb ob q _ _ _=>k b ob q,λb ob q _ _ _=>⟨ob.slots,k b ob q⟩,λ_ _ _ n _=>n,λb ob q _=>⟨ob,k b ob q⟩,λ_ _ q=>q,λ_ _ _ q=>q,λ_ ps q=>⟨#[],by rw[q];simp⟩⟩
def Un.refl:Un fs ex H H h h:=Un.kept λ_ _ q=>q
def Un.laid (k:∀ b u,h.get? b=some u->h'.get? b=some u) (hp:h.objs.size<=a) (hn:H a=none):Un fs ex H (upd H a o) h h' where
 keep:=λb u q _ _ _=>k b u q;slot:=λb u q _ _ _=>⟨u.slots,k b u q⟩;free:=λb u q n _=>by rw[zf (AY (As (AI q) hp))];exact n
 there:=λb u q _=>⟨u,k b u q⟩;tups:=λb xs q=>by rw[zf (DX q hn)];exact q
 frzs:=λb u xs q=>by rw[zf (DX q hn)];exact q
 tbls:=λb ps q=>⟨#[],by rw[zf (DX q hn),q];simp⟩
def Un.write (mu:Mut (H x)) (he:e=x\/H e=some (.own x)) (k:∀ b u,b≠e->h.get? b=some u->h'.get? b=some u) (heo:∃ u,h'.get? e=some u):Un fs ex H (upd H x o) h h':=by
 have hx:∀ b,H b=none->b≠x:=λb n z=>by subst z;rw[n]at mu;exact mu
 have hb:∀ b,H b=none->b≠e:=λb n z=>by
  subst z;rcases he with r|r
  .exact hx b n r
  .rw[n]at r;cases r
 have hm:∀ b u,H b=some u -> ¬ Mut (some u)->b≠x:=λb u q nm z=>by subst z;rw[q]at mu;exact nm mu
 refine ⟨λb u q n _ _=>k b u (hb b n) q,λb u q n _ _=>⟨u.slots,k b u (hb b n) q⟩,λb u q n _=>by rw[zf (hx b n)];exact n,λb u q _=>?_,
  λb xs q=>by rw[zf (hm b _ q λz=>z)];exact q,λb u xs q=>by rw[zf (hm b _ q λz=>z)];exact q,λb ps q=>⟨#[],by rw[zf (hm b _ q λz=>z),q];simp⟩⟩
 by_cases hbe:b=e
 .subst hbe;exact heo
 .exact ⟨u,k b u hbe q⟩
end
noncomputable def trk (h:Heap) (H:Hp):List Addr:=(List.range h.objs.size).filter λa=>(H a).isSome
noncomputable def Et (h:Heap) (H:Hp):Heap:=PySem.W.hideAll h (trk h H)
def m8 (h:Heap) (H:Hp):(Et h H).objs.size=h.objs.size:=PySem.W.hideAll_size _ _
def lW {h:Heap} {H:Hp} {b:Yt} {o:Obj} (e:h.get? b=some o) (n:H b=none):(Et h H).get? b=some o :=
 PySem.W.hideAll_get _ e λhm=>by
  have q:(H b).isSome=true:=(DD.mp hm).2;rw[n]at q;simp at q
def Ur {h:Heap} {H:Hp} {b:Yt} {o:Obj} (e:(Et h H).get? b=some o):h.get? b=some o/\H b=none:=by
 have e':h.get? b=some o:=PySem.W.of_hideAll (trk h H) e;refine ⟨e',?_⟩;cases q:H b with
 |none=>rfl
 |some x=>
  have hm:b∈trk h H:=DD.mpr ⟨Bk.mpr (AI e'),by simp[q]⟩;have z:(Et h H).get? b=none:=PySem.W.hideAll_none (trk h H) hm;rw[z]at e;cases e
structure Mod (K:Yb) (mg:Yh) (base:Heap):Prop where
 kin:K.In base
 glob:base.Ns mainGlobals mg
 blt:∃ mb,base.Ns builtinsNs mb /\ ∀ x:Str,x ≠ "__name__" -> mb x=bootBuiltins x
 nolimit:base.NoLimit
structure Cx where
 prog:Program
 w:World
 K:PySem.W.Frag
 mg:Str->Option Value
 base:Heap
 A:Around
 N:List Str
 s₀:Shared
 H₀:Hp
 env:Env
 outer:List Env
 stack:List Env
 ex:List Addr
 fn:Str->Bool
 calm:Bool
 pn:List (Addr × Obj)
 xe:Value->Shared->Prop
noncomputable def frs (l:List Env):List Addr:=l.filterMap (·.frame)
noncomputable abbrev Cx.fs (X:Cx):List Addr:=frs X.outer
def Vis (sc:Y0) (x:Str):Prop:=sc.names.lookup x=some .local\/sc.names.lookup x=some .cell\/sc.names.lookup x=some .free
def Loc (sc:Y0) (x:Str):Prop:=sc.names.lookup x=some .local\/sc.names.lookup x=some .cell
def m9 (env:Env) (h:Heap) (m:Yh) (x:Str) (u:Yu):Prop :=
 (env.kindOf x=some .local/\m x=some u)\/((env.kindOf x=some .cell\/env.kindOf x=some .free) /\ ∃ c,env.cells.lookup x=some c/\h.IsCell c (some u))
structure Cx.Ok (X:Cx):Prop where
 mod:Mod X.K X.mg X.base
 kind:X.env.scope.kind=.function
 glob:X.env.globals=mainGlobals
 blt:X.env.builtins=builtinsNs
 above:X.s₀.heap.objs.size<=X.env.locals
 inj:∀ x y c,X.env.cells.lookup x=some c->X.env.cells.lookup y=some c->x=y
 has:∀ x,(X.env.kindOf x=some .cell\/X.env.kindOf x=some .free) -> ∃ c,X.env.cells.lookup x=some c
 cab:∀ x c,X.fn x=true->X.env.cells.lookup x=some c->X.s₀.heap.objs.size<=c
 hd:X.calm=true->X.A.handled=none
 frames:X.A.frames=some X.stack
 stk:X.stack=X.outer\/(X.stack=X.env::X.outer/\X.env.frame=some X.env.locals)
 exf:∀ b∈X.ex,b≠X.env.locals /\ ∀ x c,X.env.cells.lookup x=some c->c≠b
 bs:∀ b o,X.base.get? b=some o->X.s₀.heap.get? b=some o/\X.H₀ b=none
 bsz:X.base.objs.size<=X.s₀.heap.objs.size
 noex:∀ b o,X.base.get? b=some o->b∉X.ex
 exfs:∀ b∈X.ex,b∉X.fs
 funs:X.s₀.heap.FunFrames X.base X.outer
 frf:∀ b∈X.fs,X.H₀ b=none
structure Inv (X:Cx) (zB:Yd) (Y:List (Option V)) (H:Hp) (s:Yl):Prop where
 ok:X.Ok
 os:s.os=X.s₀.os
 bare:AllBare s.gens
 base:Un X.fs X.ex X.H₀ H X.s₀.heap s.heap
 loc:∃ m,s.heap.Ns X.env.locals m /\ ∀ (i:Nat) (x:Str) (v:V),X.N[i]?=some x->Y[i]?=some (some v)->Vis X.env.scope x -> ∃ u,zr v u/\m9 X.env s.heap m x u
 cell:∀ x c,X.env.cells.lookup x=some c -> ∃ v,s.heap.IsCell c v
 free:H X.env.locals=none
 freeC:∀ x c,X.env.cells.lookup x=some c->H c=none
 pin:∀ p∈X.pn++zB,s.heap.get? p.1=some p.2/\H p.1=none/\p.1≠X.env.locals/\p.1∉X.fs /\ ∀ v,p.2.data≠.cell v
 hok:HOk X.prog X.w H s.heap
 len:Y.length=X.N.length
section
variable {X:Cx} {zB:Yd} {Y:List (Option V)} {H H':Hp} {s:Yl} {h':Heap}
def Cx.Ok.nofr (ok:X.Ok) {b:Yt} {o:Obj} (e:X.base.get? b=some o):b∉X.fs:=λhb=>by
 have:=(ok.funs.mem hb).1;rw[e]at this;cases this
def Inv.bs (I:Inv X zB Y H s):∀ b o,X.base.get? b=some o->s.heap.get? b=some o/\H b=none:=λb o e=>
 ⟨I.base.keep b o (I.ok.bs b o e).1 (I.ok.bs b o e).2 (I.ok.nofr e) (I.ok.noex b o e),I.base.free b o (I.ok.bs b o e).1 (I.ok.bs b o e).2 (I.ok.noex b o e)⟩
def Inv.bk (I:Inv X zB Y H s):∀ b o,X.base.get? b=some o->s.heap.get? b=some o:=λb o e=>(I.bs b o e).1
def Inv.mod (I:Inv X zB Y H s):Mod X.K X.mg X.base:=I.ok.mod
def Inv.kIn (I:Inv X zB Y H s):X.K.In s.heap:=I.ok.mod.kin.keeps I.bk
def Inv.lt (I:Inv X zB Y H s):X.env.locals<s.heap.objs.size:=let ⟨_,hn,_⟩:=I.loc;hn.lt
def Inv.sz (I:Inv X zB Y H s):X.s₀.heap.objs.size<=s.heap.objs.size:=AW I.ok.above (Nat.le_of_lt I.lt)
def Inv.nofs (I:Inv X zB Y H s) {a:Yt} (h:s.heap.objs.size<=a):a∉X.fs:=λhb=>by
 obtain ⟨_,o,ho,_⟩:=I.ok.funs.mem hb;exact absurd (As (AI ho) (AW I.sz h)) (BZ _)
def Inv.cne (I:Inv X zB Y H s):∀ x c,X.env.cells.lookup x=some c->c≠X.env.locals:=λx c e z=>by
 obtain ⟨v,o,ho,hd⟩:=I.cell x c e;obtain ⟨m,⟨o',es,ep,ho',hd',_⟩,_⟩:=I.loc;rw[z,ho']at ho;cases ho;rw[hd']at hd;cases hd
def Inv.funs (I:Inv X zB Y H s):s.heap.FunFrames X.base X.outer:=by
 have all:∀ (l:List Env),(∀ b∈frs l,b∈X.fs)->X.s₀.heap.FunFrames X.base l->s.heap.FunFrames X.base l:=by
  intro l;induction l with
  |nil=>intro _ _;trivial
  |cons env r ih=>
   intro hs hl;obtain ⟨hk,⟨L,o,hf,hn,ho,hd⟩,hr⟩:=hl;have hL:L∈X.fs:=hs L (by unfold frs;rw[List.filterMap_cons,hf];exact Ae);obtain ⟨sl,e⟩:=I.base.slot L o ho (I.ok.frf L hL) hL λz=>I.ok.exfs L z hL;exact ⟨hk,⟨L,_,hf,hn,e,hd⟩,ih (λb hb=>hs b (by unfold frs;rw[List.filterMap_cons,hf];exact Ai _ hb)) hr⟩
 exact all X.outer (λ_ hb=>hb) I.ok.funs
def Inv.stack (I:Inv X zB Y H s):s.heap.FunFrames X.base X.stack:=by
 rcases I.ok.stk with e|⟨e,hf⟩
 .rw[e];exact I.funs
 .rw[e];obtain ⟨m,hn,_⟩:=I.loc;refine .cons (by rw[I.ok.kind];decide) hf hn ?_ I.funs;exact Heap.get?_none_of_le (AW I.ok.bsz I.ok.above)
def Inv.stkSub (I:Inv X zB Y H s):∀ b∈frs X.stack,b∈X.env.locals::X.fs:=λb hb=>by
 rcases I.ok.stk with e|⟨e,hf⟩
 .rw[e]at hb;exact Ai _ hb
 .rw[e]at hb;unfold frs at hb;rw[List.filterMap_cons,hf]at hb;exact hb
def Inv.stkFree (I:Inv X zB Y H s):∀ b∈frs X.stack,H b=none:=λb hb=>by
 rcases AK.mp (I.stkSub b hb)with e|hb
 .rw[e];exact I.free
 .obtain ⟨_,o,ho,_⟩:=I.ok.funs.mem hb;exact I.base.free b o ho (I.ok.frf b hb) λz=>I.ok.exfs b z hb
def Inv.step {g':Array GenState} {t':Nat} {d':Drawn} {ch:Yg} (I:Inv X zB Y H s)
  (hch:∀ b∈ch,(b∈X.ex\/X.s₀.heap.objs.size<=b)/\b≠X.env.locals/\(∀ x c,X.env.cells.lookup x=some c->c≠b) /\ ∀ p∈X.pn++zB,p.1≠b)
  (keep:∀ b o,b≠X.env.locals->b∉X.fs->b∉ch->s.heap.get? b=some o->H b=none->h'.get? b=some o)
  (slot:∀ b o,b≠X.env.locals->b∈X.fs->b∉ch->s.heap.get? b=some o->H b=none -> ∃ sl,h'.get? b=some { o with slots:=sl }) (free:∀ b o,b∉ch->s.heap.get? b=some o->H b=none->H' b=none)
  (there:∀ b o,b∉ch->s.heap.get? b=some o -> ∃ o',h'.get? b=some o')
  (tups:∀ b xs,H b=some (.tup xs)->H' b=some (.tup xs)) (frzs:∀ b o u,H b=some (.frz o u)->H' b=some (.frz o u)) (tbls:∀ b ps,H b=some (.tbl ps) -> ∃ more,H' b=some (.tbl (ps++more)))
  (ns:∀ m,s.heap.Ns X.env.locals m->h'.Ns X.env.locals m) (hok:HOk X.prog X.w H' h') (hg:AllBare g') :
  Inv X zB Y H' { s with heap:=h',gens:=g',drawn:=d',toks:=t' }:=by
 have neL:∀ b o,X.s₀.heap.get? b=some o->b≠X.env.locals:=λb o e=>AY (As (AI e) I.ok.above);have neC:∀ b o,X.s₀.heap.get? b=some o->b∉X.ex->b∉ch:=λb o e hx hb=>by
  rcases (hch b hb).1 with z|z
  .exact hx z
  .exact absurd (As (AI e) z) (BZ _)
 have cellK:∀ x c,X.env.cells.lookup x=some c -> ∀ v,s.heap.IsCell c v->h'.IsCell c v:=λx c e v ⟨o,ho,hd⟩=>by
  have nch:c∉ch:=λz=>(hch c z).2.2.1 x c e rfl;by_cases hc:c∈X.fs
  .obtain ⟨sl,q⟩:=slot c o (I.cne x c e) hc nch ho (I.freeC x c e);exact ⟨_,q,hd⟩
  .exact ⟨o,keep c o (I.cne x c e) hc nch ho (I.freeC x c e),hd⟩
 refine ⟨I.ok,I.os,hg,⟨λb o e n hb hx=>?_,λb o e n hb hx=>?_,λb o e n hx=>?_,λb o e hx=>?_,λb xs e=>tups b xs (I.base.tups b xs e),λb o xs e=>frzs b o xs (I.base.frzs b o xs e),λb ps e=>?_⟩,?_,λx c e=>?_,?_,λx c e=>?_,λp hp=>?_,hok,I.len⟩
 .exact keep b o (neL b o e) hb (neC b o e hx) (I.base.keep b o e n hb hx) (I.base.free b o e n hx)
 .obtain ⟨sl,e1⟩:=I.base.slot b o e n hb hx;obtain ⟨sl',e2⟩:=slot b _ (neL b o e) hb (neC b o e hx) e1 (I.base.free b o e n hx);exact ⟨sl',e2⟩
 .obtain ⟨o',e1⟩:=I.base.there b o e hx;exact free b o' (neC b o e hx) e1 (I.base.free b o e n hx)
 .obtain ⟨o',e1⟩:=I.base.there b o e hx;exact there b o' (neC b o e hx) e1
 .obtain ⟨m1,e1⟩:=I.base.tbls b ps e;obtain ⟨m2,e2⟩:=tbls b _ e1;exact ⟨m1++m2,by rw[e2,Array.append_assoc]⟩
 .obtain ⟨m,hn,hl⟩:=I.loc;refine ⟨m,ns m hn,λi x v e1 e2 e3=>?_⟩;obtain ⟨u,r,l⟩:=hl i x v e1 e2 e3;refine ⟨u,r,?_⟩;rcases l with l|⟨k,c,e,z⟩
  .exact .inl l
  .exact .inr ⟨k,c,e,cellK x c e _ z⟩
 .obtain ⟨v,z⟩:=I.cell x c e;exact ⟨v,cellK x c e v z⟩
 .obtain ⟨m,⟨o,_,_,ho,_⟩,_⟩:=I.loc;exact free _ o (λz=>(hch _ z).2.1 rfl) ho I.free
 .obtain ⟨v,o,ho,hd⟩:=I.cell x c e;exact free c o (λz=>(hch c z).2.2.1 x c e rfl) ho (I.freeC x c e)
 .obtain ⟨e,n,ne,nf,d⟩:=I.pin p hp;have nch:p.1∉ch:=λz=>(hch p.1 z).2.2.2 p hp rfl;exact ⟨keep p.1 p.2 ne nf nch e n,free p.1 p.2 nch e n,ne,nf,d⟩
def Inv.un {t':Nat} (I:Inv X zB Y H s) (u:Un X.fs [] H H' s.heap h') (hok:HOk X.prog X.w H' h'):Inv X zB Y H' { s with heap:=h',toks:=t' }:=by
 obtain ⟨m,⟨o,es,ep,ho,r⟩,_⟩:=id I.loc;obtain ⟨sl,hL⟩:=u.any ho I.free (by simp);exact I.step (g':=s.gens) (d':=s.drawn) (ch:=[]) (λ_ z=>nomatch z) (λb o _ hb _ e n=>u.keep b o e n hb (by simp)) (λb o _ hb _ e n=>u.slot b o e n hb (by simp)) (λb o _ e n=>u.free b o e n (by simp)) (λb o _ e=>u.there b o e (by simp)) u.tups u.frzs u.tbls (λm' hm=>by
  obtain ⟨o',es',ep',ho',r'⟩:=hm;rw[ho]at ho';cases ho';exact ⟨_,es',ep',hL,r'⟩) hok I.bare
def Inv.call {g':Array GenState} {t':Nat} {d':Drawn} {ch:Yg} (I:Inv X zB Y H s) (u:Un (frs X.stack) ch H H' s.heap h') (hok:HOk X.prog X.w H' h') (hg:AllBare g')
  (hch:∀ b∈ch,(b∈X.ex\/X.s₀.heap.objs.size<=b)/\b≠X.env.locals/\(∀ x c,X.env.cells.lookup x=some c->c≠b) /\ ∀ p∈X.pn++zB,p.1≠b) :
  Inv X zB Y H' { s with heap:=h',gens:=g',drawn:=d',toks:=t' }:=by
 obtain ⟨m,⟨o,es,ep,ho,r⟩,_⟩:=id I.loc;obtain ⟨sl,hL⟩:=u.any ho I.free λz=>(hch _ z).2.1 rfl;exact I.step (ch:=ch) hch (λb o hL hb hc e n=>u.keep b o e n (λz=>(AK.mp (I.stkSub b z)).elim hL hb) hc) (λb o _ _ hc e n=>u.any e n hc) (λb o hc e n=>u.free b o e n hc) (λb o hc e=>u.there b o e hc) u.tups u.frzs u.tbls (λm' hm=>by
  obtain ⟨o',es',ep',ho',r'⟩:=hm;rw[ho]at ho';cases ho';exact ⟨_,es',ep',hL,r'⟩) hok hg
def Inv.turned {t':Nat} {it:Yt} (I:Inv X zB Y H s) (k:∀ b o,b≠it->s.heap.get? b=some o->h'.get? b=some o) (hn:H it=none) (hL:it≠X.env.locals)
  (h1:it∈X.ex\/X.s₀.heap.objs.size<=it) (h2:∀ x c,X.env.cells.lookup x=some c->c≠it) (h3:∀ p∈X.pn++zB,p.1≠it):Inv X zB Y H { s with heap:=h',toks:=t' }:=by
 have nit:∀ b u,H b=some u->b≠it:=λb u e z=>by rw[z,hn]at e;cases e
 refine I.step (g':=s.gens) (d':=s.drawn) (ch:=[it]) (λb hb=>?_) (λb o _ _ hc e _=>k b o (λz=>hc (by simp[z])) e) (λb o _ _ hc e _=>⟨o.slots,k b o (λz=>hc (by simp[z])) e⟩) (λ_ _ _ _ n=>n)
  (λb o hc e=>⟨o,k b o (λz=>hc (by simp[z])) e⟩) (λ_ _ e=>e) (λ_ _ _ e=>e) (λb ps e=>⟨#[],by rw[e];simp⟩) (λm hm=>?_) (λb u e=>?_) I.bare
 .have e:b=it:=by simpa using hb
  subst e;exact ⟨h1,hL,h2,h3⟩
 .obtain ⟨o,es,ep,ho,r⟩:=hm;exact ⟨o,es,ep,k _ o (Ne.symm hL) ho,r⟩
 .refine (I.hok b u e).stay (λc v hc q=>k c v ?_ q) (λ_ q=>q) λ_ _ q=>q;rcases hc with z|z
  .rw[z];exact nit b u e
  .exact nit c _ z
def Inv.tok (I:Inv X zB Y H s) (t:Nat):Inv X zB Y H { s with toks:=t }:=I.un (h':=s.heap) (t':=t) Un.refl I.hok
def Inv.kept {t':Nat} (I:Inv X zB Y H s) (k:∀ b u,s.heap.get? b=some u->h'.get? b=some u):Inv X zB Y H { s with heap:=h',toks:=t' }:=I.un (Un.kept k) (I.hok.kept k)
def Inv.laid {a:Yt} {o:HO} {t':Nat} (I:Inv X zB Y H s) (k:∀ b u,s.heap.get? b=some u->h'.get? b=some u) (hp:s.heap.objs.size<=a) (new:Ar X.prog X.w (upd H a o) h' a o) :
  Inv X zB Y (upd H a o) { s with heap:=h',toks:=t' }:=I.un (Un.laid k hp (I.hok.fresh hp)) (I.hok.laid k hp new)
def Inv.write {x e:Yt} {o:HO} {t':Nat} (I:Inv X zB Y H s) (mu:Mut (H x)) (he:e=x\/H e=some (.own x)) (k:∀ b u,b≠e->s.heap.get? b=some u->h'.get? b=some u) (heo:∃ u,h'.get? e=some u)
  (new:Ar X.prog X.w (upd H x o) h' x o):Inv X zB Y (upd H x o) { s with heap:=h',toks:=t' }:=I.un (Un.write mu he k heo) (I.hok.write mu he k heo new)
def Inv.weak {Y':List (Option V)} (I:Inv X zB Y H s) (hl:Y'.length=Y.length) (w:∀ (i:Nat) v,Y'[i]?=some (some v)->Y[i]?=some (some v)):Inv X zB Y' H s :=
 ⟨I.ok,I.os,I.bare,I.base,let ⟨m,hn,hl'⟩:=I.loc;⟨m,hn,λi x v e1 e2 e3=>hl' i x v e1 (w i v e2) e3⟩,I.cell,I.free,I.freeC,I.pin,I.hok,hl.trans I.len⟩
def Inv.pins_of {pins':Yd} (I:Inv X zB Y H s) (h:∀ p∈pins',s.heap.get? p.1=some p.2/\H p.1=none/\p.1≠X.env.locals/\p.1∉X.fs /\ ∀ v,p.2.data≠.cell v):Inv X pins' Y H s :=
 ⟨I.ok,I.os,I.bare,I.base,I.loc,I.cell,I.free,I.freeC,λp hp=>(Ak.mp hp).elim (λz=>I.pin p (Cc _ z)) (h p),I.hok,I.len⟩
def OM {N:Yk} (hN:N.Nodup) {i j:Nat} {x:Str} (a:N[i]?=some x) (b:N[j]?=some x):i=j:=by
 obtain ⟨h1,e1⟩:=AG.mp a;obtain ⟨h2,e2⟩:=AG.mp b;exact (List.getElem_inj hN).mp (e1.trans e2.symm)
def Xv {M:Model} {A:Yn} {E:Yc} {i:Nat} {x:Str} {v:V} {u:Yu} {Q:Unit->Shared->Prop} (I:Inv X zB Y H s) (hN:X.N.Nodup) (hi:X.N[i]?=some x) (hx:Loc X.env.scope x) (r:zr v u)
  (h:∀ s',Inv X zB (Y.set i (some v)) H s'->(∃ a,Heap.SameBut a s.heap s'.heap/\(a=X.env.locals\/X.env.cells.lookup x=some a))->Q () s') (hf:X.fn x=true\/X.env.scope.names.lookup x=some .local:=by first|exact .inl rfl|exact .inr rfl|assumption):wpAny M A (storeName X.env x u) Q E s:=by
 obtain ⟨m,hn,hl⟩:=id I.loc;have hcls:(X.env.scope.kind == .class||(X.env.scope.kind == .module&&X.env.locals != X.env.globals))=false:=by rw[I.ok.kind];rfl
 have hiσ:i<Y.length:=by rw[I.len];exact (AG.mp hi).1
 have cne:=I.cne;have tracked:∀ {a:Yt} {h':Heap},(∃ o,s.heap.get? a=some o/\H a=none)->Heap.SameBut a s.heap h'->HOk X.prog X.w H h':=λ{a h'} ha hs b ob e=>by
  obtain ⟨_,_,hfree⟩:=ha;refine (I.hok b ob e).stay (λc w' hc q=>(hs.2 c ?_).trans q) (λ_ q=>q) λ_ _ q=>q;rintro rfl;rcases hc with rfl|hc
  .rw[hfree]at e;cases e
  .rw[hfree]at hc;cases hc
 rcases hx with hk|hk
 .refine wpAny_storeName_local hk hn (λh' hn' hs=>?_) hcls;obtain ⟨oL,_,_,hoL,_⟩:=id hn;refine h _ ⟨I.ok,I.os,I.bare,⟨λb o e n hb hx=>?_,λb o e n hb hx=>?_,I.base.free,λb o e hx=>?_,I.base.tups,I.base.frzs,I.base.tbls⟩,⟨_,hn',λj y v' e1 e2 e3=>?_⟩,λy c e=>?_,I.free,I.freeC,λp hp=>?_,tracked ⟨oL,hoL,I.free⟩ hs,by simpa using I.len⟩ ⟨_,hs,.inl rfl⟩
  .exact (hs.2 b (AY (As (AI e) I.ok.above))).trans (I.base.keep b o e n hb hx)
  .obtain ⟨sl,e1⟩:=I.base.slot b o e n hb hx;exact ⟨sl,(hs.2 b (AY (As (AI e) I.ok.above))).trans e1⟩
  .obtain ⟨o',e1⟩:=I.base.there b o e hx;exact ⟨o',(hs.2 b (AY (As (AI e) I.ok.above))).trans e1⟩
  .by_cases hj:j=i
   .subst hj;rw[hi]at e1;cases e1;rw[CK hiσ]at e2;cases e2;exact ⟨u,r,.inl ⟨hk,by simp⟩⟩
   .rw[AZ (Ne.symm hj)]at e2;obtain ⟨u',r',q⟩:=hl j y v' e1 e2 e3;refine ⟨u',r',?_⟩;rcases q with ⟨k,e⟩|⟨k,c,e,z⟩
    .refine .inl ⟨k,?_⟩;have:y≠x:=λe=>hj (OM hN e1 (e▸hi));simp[this,e]
    .exact .inr ⟨k,c,e,z.sameBut hs (cne y c e)⟩
  .obtain ⟨w',z⟩:=I.cell y c e;exact ⟨w',z.sameBut hs (cne y c e)⟩
  .obtain ⟨e,n,ne,nf,d⟩:=I.pin p hp;exact ⟨(hs.2 p.1 ne).trans e,n,ne,nf,d⟩
 .have hfn:X.fn x=true:=by
   rcases hf with z|z
   .exact z
   .rw[z]at hk;cases hk
  obtain ⟨c,hc⟩:=I.ok.has x (.inl hk);obtain ⟨w',z⟩:=I.cell x c hc;refine wpAny_storeName_cell I.ok.kind hk hc z (λh' hc' hs=>?_);obtain ⟨oc,hoc,hocd⟩:=id z;refine h { s with heap:=h' } ⟨I.ok,I.os,I.bare,⟨λb o e n hb hx=>?_,λb o e n hb hx=>?_,I.base.free,λb o e hx=>?_,I.base.tups,I.base.frzs,I.base.tbls⟩,⟨m,hn.sameBut hs (Ne.symm (cne x c hc)),λj y v' e1 e2 e3=>?_⟩,λy c' e=>?_,I.free,I.freeC,λp hp=>?_,tracked ⟨oc,hoc,I.freeC x c hc⟩ hs,by simpa using I.len⟩ ⟨c,hs,.inr hc⟩
  .exact (hs.2 b (AY (As (AI e) (I.ok.cab x c hfn hc)))).trans (I.base.keep b o e n hb hx)
  .obtain ⟨sl,e1⟩:=I.base.slot b o e n hb hx;exact ⟨sl,(hs.2 b (AY (As (AI e) (I.ok.cab x c hfn hc)))).trans e1⟩
  .obtain ⟨o',e1⟩:=I.base.there b o e hx;exact ⟨o',(hs.2 b (AY (As (AI e) (I.ok.cab x c hfn hc)))).trans e1⟩
  .by_cases hj:j=i
   .subst hj;rw[hi]at e1;cases e1;rw[CK hiσ]at e2;cases e2;exact ⟨u,r,.inr ⟨.inl hk,c,hc,hc'⟩⟩
   .rw[AZ (Ne.symm hj)]at e2;obtain ⟨u',r',q⟩:=hl j y v' e1 e2 e3;refine ⟨u',r',?_⟩;rcases q with q|⟨k,c',e,z'⟩
    .exact .inl q
    .refine .inr ⟨k,c',e,z'.sameBut hs ?_⟩;rintro rfl;exact hj (OM hN e1 (I.ok.inj _ _ _ e hc▸hi))
  .by_cases hcc:c'=c
   .subst hcc;exact ⟨_,hc'⟩
   .obtain ⟨w2,z2⟩:=I.cell y c' e;exact ⟨w2,z2.sameBut hs hcc⟩
  .obtain ⟨e,n,ne,nf,d⟩:=I.pin p hp;refine ⟨(hs.2 p.1 ?_).trans e,n,ne,nf,d⟩;intro q;rw[q,hoc]at e;have q':oc=p.2:=CB e;exact d w' (by rw[<-q'];exact hocd)
def Q0 {M:Model} {A:Yn} {E:Yc} {i:Nat} {x:Str} {v:V} {u:Yu} {Q:Unit->Shared->Prop} (I:Inv X zB Y H s) (hN:X.N.Nodup) (hi:X.N[i]?=some x) (hx:Loc X.env.scope x) (r:zr v u)
  (h:∀ s',Inv X zB (Y.set i (some v)) H s'->Q () s') (hf:X.fn x=true\/X.env.scope.names.lookup x=some .local:=by first|exact .inl rfl|exact .inr rfl|assumption):wpAny M A (storeName X.env x u) Q E s :=
 Xv I hN hi hx r (λs' I' _=>h s' I') hf
def Inv.call' {s':Yl} {ch:Yg} (I:Inv X zB Y H s) (ho:s'.os=s.os) (u:Un (frs X.stack) ch H H' s.heap s'.heap) (hok:HOk X.prog X.w H' s'.heap) (hg:AllBare s'.gens)
  (hch:∀ b∈ch,(b∈X.ex\/X.s₀.heap.objs.size<=b)/\b≠X.env.locals/\(∀ x c,X.env.cells.lookup x=some c->c≠b) /\ ∀ p∈X.pn++zB,p.1≠b):Inv X zB Y H' s':=by
 obtain ⟨h',g',d',t',o'⟩:=s';have e:o'=s.os:=ho;subst e;exact I.call (g':=g') (t':=t') (d':=d') u hok hg hch
end
noncomputable abbrev XK:=Value->Option Addr->Hp->Prop
noncomputable abbrev St:=List (Option V)
noncomputable abbrev VK:=V->Hp->Prop
noncomputable abbrev TE:=St->Hp->VK->Prop
noncomputable abbrev TT:=St->Hp->(Bool->Hp->Prop)->Prop
noncomputable abbrev TA:=St->Hp->(List V->Hp->Prop)->Prop
structure Ends where
 nx:St->Hp->Prop
 rt:VK
 bk:St->Hp->Prop:=λ_ _=>False
 ct:St->Hp->Prop:=λ_ _=>False
noncomputable abbrev TS:=Ends->St->Hp->Prop
def EP (X:Cx) (zB:Yd) (Y:St) (Q:VK) (u:Yu) (s':Yl):Prop:=∃ v H',Inv X zB Y H' s'/\zr v u/\Q v H'
def TP (X:Cx) (zB:Yd) (Y:St) (Q:Bool->Hp->Prop) (b:Bool) (s':Yl):Prop:=∃ H',Inv X zB Y H' s'/\Q b H'
def AP (X:Cx) (zB:Yd) (Y:St) (Q:List V->Hp->Prop) (us:Yf) (s':Yl):Prop:=∃ vs H',Inv X zB Y H' s'/\zg vs us/\Q vs H'
def SP (X:Cx) (zB:Yd) (D:Ends) (f:Flow) (s':Yl):Prop :=
 match f with
 |.next=>∃ Y' H',Inv X zB Y' H' s'/\D.nx Y' H'
 |.brk=>∃ Y' H',Inv X zB Y' H' s'/\D.bk Y' H'
 |.cont=>∃ Y' H',Inv X zB Y' H' s'/\D.ct Y' H'
 |.ret u=>∃ v Y' H',Inv X zB Y' H' s'/\zr v u/\D.rt v H'
def PE (X:Cx) (e:Expr) (t:TE):Prop :=
 ∀ (zB:Yd) (s:Yl) (Y:St) (H:Hp) (Q:VK),Inv X zB Y H s->t Y H Q->wpAny (model X.prog X.w) X.A (eval e X.env) (EP X zB Y Q) X.xe s
def PT (X:Cx) (e:Expr) (t:TT):Prop :=
 ∀ (zB:Yd) (s:Yl) (Y:St) (H:Hp) (Q:Bool->Hp->Prop),Inv X zB Y H s->t Y H Q->wpAny (model X.prog X.w) X.A (isTrue e X.env (eval e X.env)) (TP X zB Y Q) X.xe s
def PW (X:Cx) (e:Expr) (t:TT):Prop :=
 ∀ (whole:Sem Value) (zB:Yd) (s:Yl) (Y:St) (H:Hp) (Q:Bool->Hp->Prop),Inv X zB Y H s->t Y H Q->wpAny (model X.prog X.w) X.A (isTrue e X.env whole) (TP X zB Y Q) X.xe s
def PW.pt {X:Cx} {e:Expr} {t:TT} (h:PW X e t):PT X e t:=h _
def PA (X:Cx) (es:Yi) (t:TA):Prop :=
 ∀ (pos:Pos) (zB:Yd) (s:Yl) (Y:St) (H:Hp) (Q:List V->Hp->Prop),Inv X zB Y H s->t Y H Q->wpAny (model X.prog X.w) X.A (spliced (backTo pos (starEach es X.env))) (AP X zB Y Q) X.xe s
def PS (X:Cx) (st:Stmt) (t:TS):Prop :=
 ∀ (zB:Yd) (s:Yl) (Y:St) (H:Hp) (D:Ends),Inv X zB Y H s->t D Y H->wpAny (model X.prog X.w) X.A (exec st X.env) (SP X zB D) X.xe s
def PSs (X:Cx) (st:Yy) (t:TS):Prop :=
 ∀ (zB:Yd) (s:Yl) (Y:St) (H:Hp) (D:Ends),Inv X zB Y H s->t D Y H->wpAny (model X.prog X.w) X.A (execs st X.env) (SP X zB D) X.xe s
def thn {α:Type} {t:Sem α} {Q Q':α->Shared->Prop} {M:Model} {A:Yn} {E:Yc} {s:Yl} (h:wpAny M A t Q E s) (hQ:∀ a s,Q a s->Q' a s):wpAny M A t Q' E s:=AS h hQ λ_ _ x=>x
section
variable {X:Cx}
noncomputable def NY (i:Nat):TE:=λY H Q=>∃ v,Y[i]?=some (some v)/\Q v H
noncomputable def tC (v:V):TE:=λ_ H Q=>Q v H
def Tg {i:Nat} {x:Str} {pos:Pos} (hN:X.N[i]?=some x) (hv:Vis X.env.scope x) (hd:(x==("__debug__" : Str))=false:=by decide) (hcd:(x==("__classdict__" : Str))=false:=by decide):PE X (.Name x pos) (NY i):=by
 intro zB s Y H Q I h;obtain ⟨v,e,h⟩:=h;obtain ⟨m,hn,hl⟩:=I.loc;obtain ⟨u,r,l⟩:=hl i x v hN e hv;have fin:EP X zB Y Q u s:=⟨v,H,I,r,h⟩;rcases l with ⟨hk,hm⟩|⟨hk,c,hc,hcell⟩
 .exact wpAny_Name (wpAny_loadName_local I.ok.kind hk hn hm fin) hd
 .rcases hk with hk|hk
  .exact wpAny_Name (wpAny_loadName_cell I.ok.kind hk hc hcell fin) hd
  .exact wpAny_Name (wpAny_loadName_free I.ok.kind hk hc hcell fin hcd) hd
def mT {i j pos}:PE X (.Constant (.int i) j pos) (tC (.int i)):=λ_ _ _ H _ I h=>wpAny_Constant_int ⟨.int i,H,I.tok _,⟨_,rfl⟩,h⟩
def aH {b j pos}:PE X (.Constant (.bool b) j pos) (tC (.bl b)):=λ_ _ _ H _ I h=>Constant_bool ⟨.bl b,H,I,rfl,h⟩
def WE {j pos}:PE X (.Constant .none j pos) (tC .non):=λ_ _ _ H _ I h=>Constant_none ⟨.non,H,I,rfl,h⟩
def WA {x j pos}:PE X (.Constant (.str x) j pos) (tC (.str x)):=λ_ _ _ H _ I h=>Calls.Constant_str ⟨.str x,H,I.tok _,⟨_,rfl⟩,h⟩
def Gl (X:Cx) (x:Str):Prop:=X.env.kindOf x=some .globalImplicit
def UX {E:Yc} {zB:Yd} {s:Yl} {Y:St} {H:Hp} {x:Str} {u:Yu} {pos:Pos} {Q:Yc} (I:Inv X zB Y H s) (hg:Gl X x) (hm:X.mg x=some u) (h:Q u s)
  (hd:(x==("__debug__" : Str))=false:=by decide):wpAny (model X.prog X.w) X.A (eval (.Name x pos) X.env) Q E s :=
 Calls.Name_function_global I.ok.kind hg (Calls.loadGlobal_global (by rw[I.ok.glob];exact I.mod.glob.keeps I.bk) hm h) hd
def Fo {E:Yc} {zB:Yd} {s:Yl} {Y:St} {H:Hp} {x:Str} {u:Yu} {pos:Pos} {Q:Yc} (I:Inv X zB Y H s) (hg:Gl X x) (hm:X.mg x=none) (hv:bootBuiltins x=some u) (h:Q u s)
  (hn:x ≠ "__name__" := by decide) (hd:(x==("__debug__" : Str))=false:=by decide):wpAny (model X.prog X.w) X.A (eval (.Name x pos) X.env) Q E s:=by
 obtain ⟨mb,h1,h2⟩:=I.mod.blt;exact Calls.Name_function_global I.ok.kind hg (Calls.loadGlobal_builtin (by rw[I.ok.glob];exact I.mod.glob.keeps I.bk) hm (by rw[I.ok.blt];exact h1.keeps I.bk) ((h2 x hn).trans hv) h) hd
def Sm {x:Str} {v:V} {u:Value} {pos:Pos} (hg:Gl X x) (hm:X.mg x=none) (hv:bootBuiltins x=some u) (r:zr v u) (hn:x ≠ "__name__" := by decide) (hd:(x==("__debug__" : Str))=false:=by decide):PE X (.Name x pos) (tC v) :=
 λ_ _ _ H _ I h=>Fo I hg hm hv ⟨v,H,I,r,h⟩ hn hd
variable {a b:Expr} {ta tb:TE} {pos:Pos}
def PC (X:Cx) (op:CmpOp) (a b:Expr) (t:TE):Prop :=
 ∀ (zB:Yd) (s:Yl) (Y:St) (H:Hp) (Q:VK),Inv X zB Y H s->t Y H Q ->
  wpAny (model X.prog X.w) X.A (eval a X.env) (λv s₁=>wpAny (model X.prog X.w) X.A (eval b X.env) (λu s₂=>wpAny (model X.prog X.w) X.A (compareOp op v u) (EP X zB Y Q) X.xe s₂) X.xe s₁) X.xe s
noncomputable def tB (t:TE):TT:=λY H Q=>t Y H λx H1=>∃ c,x=.bl c/\Q c H1
def Qf {op:CmpOp} {t:TE} (h:PC X op a b t) (h1:behindInMarks op b=false:=by first|exact nobehind _ (by decide) (by decide)|rfl):PE X (.Compare a [op] [b] pos) t:=λzB s Y H Q I hw=>wpAny_Compare1 (h zB s Y H Q I hw) h1
def PL {op:CmpOp} {t:TE} (h:PC X op a b t) (h1:behindInMarks op b=false:=by first|exact nobehind _ (by decide) (by decide)|rfl):PT X (.Compare a [op] [b] pos) (tB t):=by
 intro zB s Y H Q I hw;refine wpAny_isTrue_Compare1 (thn (h zB s Y H _ I hw) λv s1 h1=>thn h1 λu s2 h2=>thn h2 λc s3 ⟨x,H1,I1,r1,q1⟩=>?_) h1;obtain ⟨d,rfl,q⟩:=q1;cases r1;exact EI ⟨H1,I1,q⟩
def bA {e:Expr} {t:TE} (h:PE X e t) (he:∀ whole,isTrue e X.env whole=(do let v <- whole;standAt e.pos;holding [v] (truthy v)):=by intro _;rfl):PT X e (tB t):=by
 intro zB s Y H Q I hw;refine isTrue_plain (thn (h zB s Y H _ I hw) λv s1 ⟨x,H1,I1,r1,q1⟩=>?_) (he _);obtain ⟨d,rfl,q⟩:=q1;cases r1;exact EI ⟨H1,I1,q⟩
variable {tA tB':TT} {rest:Yi}
noncomputable def XG (t u:TT):TT:=λY H Q=>t Y H λc H1=>if c=true then u Y H1 Q else Q false H1
noncomputable def tOr (t u:TT):TT:=λY H Q=>t Y H λc H1=>if c=true then Q true H1 else u Y H1 Q
noncomputable def mG (t:TT):TT:=λY H Q=>t Y H λc H1=>Q (!c) H1
def lD (ha:PT X a tA):PW X (.BoolOp .And [a] pos) tA:=by
 intro wh zB s Y H Q I h;refine isTrue_and (thn (ha zB s Y H Q I h) λc s1 e=>?_);cases c with
 |true=>exact isTrue_and_nil e
 |false=>exact e
def nK (ha:PT X a tA):PW X (.BoolOp .Or [a] pos) tA:=by
 intro wh zB s Y H Q I h;refine isTrue_or (thn (ha zB s Y H Q I h) λc s1 e=>?_);cases c with
 |false=>exact isTrue_or_nil e
 |true=>exact e
def dS (ha:PT X a tA) (hb:PW X (.BoolOp .And (b::rest) pos) tB'):PW X (.BoolOp .And (a::b::rest) pos) (XG tA tB'):=by
 intro wh zB s Y H Q I h;refine isTrue_and (thn (ha zB s Y H _ I h) λc s1 ⟨H1,I1,q1⟩=>?_);cases c with
 |true=>exact hb wh zB s1 Y H1 Q I1 q1
 |false=>exact ⟨H1,I1,q1⟩
def Tc (ha:PT X a tA) (hb:PW X (.BoolOp .Or (b::rest) pos) tB'):PW X (.BoolOp .Or (a::b::rest) pos) (tOr tA tB'):=by
 intro wh zB s Y H Q I h;refine isTrue_or (thn (ha zB s Y H _ I h) λc s1 ⟨H1,I1,q1⟩=>?_);cases c with
 |true=>exact ⟨H1,I1,q1⟩
 |false=>exact hb wh zB s1 Y H1 Q I1 q1
def T8 (ha:PT X a tA):PT X (.UnaryOp .Not a pos) (mG tA):=by
 intro zB s Y H Q I h;exact isTrue_not (ha zB s Y H (λc H1=>Q (!c) H1) I h)
noncomputable def iZ (ta tb:TE):TE:=λY H Q=>ta Y H λx H1=>∃ c,x=.bl c/\if c=true then tb Y H1 Q else Q (.bl false) H1
noncomputable def a7 (ta:TE):TE:=λY H Q=>ta Y H λx H1=>∃ c,x=.bl c/\Q (.bl (!c)) H1
def eI {op} {t:TE} (h:PE X a t):PE X (.BoolOp op [a] pos) t:=λzB s Y H Q I hw=>BoolOp_one (h zB s Y H Q I hw)
def oI (ha:PE X a ta) (hb:PE X (.BoolOp .And (b::rest) pos) tb):PE X (.BoolOp .And (a::b::rest) pos) (iZ ta tb):=by
 intro zB s Y H Q I h;refine BoolOp_and (thn (ha zB s Y H _ I h) λv s1 ⟨x,H1,I1,r1,q1⟩=>?_);obtain ⟨c,rfl,q1⟩:=q1;cases r1;refine EI ?_;cases c with
 |true=>exact hb zB s1 Y H1 Q I1 q1
 |false=>exact ⟨.bl false,H1,I1,rfl,q1⟩
def T5 (ha:PE X a ta):PE X (.UnaryOp .Not a pos) (a7 ta):=by
 intro zB s Y H Q I h;refine UnaryOp_ (thn (ha zB s Y H _ I h) λv s1 ⟨x,H1,I1,r1,q1⟩=>?_);obtain ⟨c,rfl,q1⟩:=q1;cases r1;exact not_of (EI ⟨.bl (!c),H1,I1,rfl,q1⟩)
noncomputable def tIf (t:TT) (ta tb:TE):TE:=λY H Q=>t Y H λc H1=>if c=true then ta Y H1 Q else tb Y H1 Q
def UO {c:Expr} (hc:PT X c tA) (ha:PE X a ta) (hb:PE X b tb):PE X (.IfExp c a b pos) (tIf tA ta tb):=by
 intro zB s Y H Q I h;refine wpAny_IfExp (thn (hc zB s Y H _ I h) λd s1 ⟨H1,I1,q1⟩=>?_);cases d with
 |true=>exact ha zB s1 Y H1 Q I1 q1
 |false=>exact hb zB s1 Y H1 Q I1 q1
end
def SqL (K:Yb) (H:Hp) (a:Yt) (xs:List V):Prop :=
 Rd H a (.lst xs) \/
  ∃ (o:Obj) (its:Array Value) (n:Nat),K.lookup a=some o/\o.cls=.type "list" /\ o.dict=none/\o.data=.seq its n/\its.size<=sizeLine/\zg xs its.toList
def SqT (K:Yb) (H:Hp) (a:Yt) (xs:List V):Prop :=
 Rd H a (.tup xs) \/
  ∃ (o:Obj) (its:Array Value) (n:Nat),K.lookup a=some o/\o.cls=.type "tuple" /\ o.data=.seq its n/\its.size<=sizeLine/\zg xs its.toList
noncomputable def Y8:Value->Option V
 |.none=>some .non
 |.bool b=>some (.bl b)
 |.int i _=>some (.int i)
 |.str x _=>some (.str x)
 |.bytes b _=>some (.byt b)
 |.float b _=>some (.flt b)
 |.ref a=>some (.ref a)
 |.type n=>some (.ty n)
 |_=>none
def zr.abs {x:V} {u:Yu} (r:zr x u):Y8 u=some x:=by
 cases x with
 |non=>cases r;rfl
 |bl _=>cases r;rfl
 |int _=>obtain ⟨t,rfl⟩:=r;rfl
 |str _=>obtain ⟨t,rfl⟩:=r;rfl
 |byt _=>obtain ⟨t,rfl⟩:=r;rfl
 |flt _=>obtain ⟨t,rfl⟩:=r;rfl
 |ref _=>cases r;rfl
 |ty _=>cases r;rfl
def zr.inj {x y:V} {u:Yu} (r:zr x u) (q:zr y u):x=y:=CB (r.abs.symm.trans q.abs)
def zg.inj:∀ {xs ys:List V} {us:Yf},zg xs us->zg ys us->xs=ys
 |_,_,_,.nil,.nil=>rfl
 |_,_,_,.cons r t,.cons r' t'=>by rw[r.inj r',zg.inj t t']
section
variable {X:Cx} {zB:Yd} {Y:St} {H:Hp} {s:Yl} {a:Yt} {xs ys:List V}
def SqL.of {K:Yb} (h:H a=some (.lst xs)):SqL K H a xs:=.inl (.inl h)
def SqT.of {K:Yb} (h:H a=some (.tup xs)):SqT K H a xs:=.inl (.inl h)
def Inv.list (I:Inv X zB Y H s) (h:SqL X.K H a xs):∃ its:List Value,zg xs its/\PlainL s.heap a its.toArray/\xs.length<=sizeLine:=by
 rcases h with h|⟨o,its,n,hk,hc,hd,hs,hz,r⟩
 .obtain ⟨z,its,n,r,e⟩:=h.ok I.hok;exact ⟨its,r,⟨_,n,e,rfl,rfl,rfl⟩,z⟩
 .refine ⟨its.toList,r,⟨o,n,I.kIn a o hk,hc,hd,by simpa using hs⟩,?_⟩;have e:=r.length;simp only[Ct]at e;omega
def Inv.tuple (I:Inv X zB Y H s) (h:SqT X.K H a xs):∃ its:List Value,zg xs its/\IsTup s.heap a its.toArray/\xs.length<=sizeLine:=by
 rcases h with h|⟨o,its,n,hk,hc,hs,hz,r⟩
 .obtain ⟨z,its,r,p⟩:=h.ok I.hok;exact ⟨its,r,p.tup,z⟩
 .refine ⟨its.toList,r,⟨o,I.kIn a o hk,hc,n,by simpa using hs⟩,?_⟩;have e:=r.length;simp only[Ct]at e;omega
def Inv.list_inj (I:Inv X zB Y H s) (h:SqL X.K H a xs) (h':SqL X.K H a ys):xs=ys:=by
 obtain ⟨its,r,⟨o,n,e,_,_,d⟩,_⟩:=I.list h;obtain ⟨its',r',⟨o',n',e',_,_,d'⟩,_⟩:=I.list h';rw[e]at e';cases e';rw[d]at d';injection d' with d1 _
 have:its=its':=by simpa using Bf Array.toList d1
 subst this;exact r.inj r'
def Inv.tuple_inj (I:Inv X zB Y H s) (h:SqT X.K H a xs) (h':SqT X.K H a ys):xs=ys:=by
 obtain ⟨its,r,⟨o,e,_,n,d⟩,_⟩:=I.tuple h;obtain ⟨its',r',⟨o',e',_,n',d'⟩,_⟩:=I.tuple h';rw[e]at e';cases e';rw[d]at d';injection d' with d1 _
 have:its=its':=by simpa using Bf Array.toList d1
 subst this;exact r.inj r'
end
noncomputable abbrev Cx.wish (X:Cx) (E:Yc):Cx:={ X with xe:=E }
noncomputable abbrev Cx.nox (X:Cx):Cx:=X.wish λ_ _=>False
def Cx.Ok.wish {X:Cx} (ok:X.Ok) (E:Yc):(X.wish E).Ok :=
 ⟨ok.mod,ok.kind,ok.glob,ok.blt,ok.above,ok.inj,ok.has,ok.cab,ok.hd,ok.frames,ok.stk,ok.exf,ok.bs,ok.bsz,ok.noex,ok.exfs,ok.funs,ok.frf⟩
def Cx.Ok.unwish {X:Cx} {E:Yc} (ok:(X.wish E).Ok):X.Ok :=
 ⟨ok.mod,ok.kind,ok.glob,ok.blt,ok.above,ok.inj,ok.has,ok.cab,ok.hd,ok.frames,ok.stk,ok.exf,ok.bs,ok.bsz,ok.noex,ok.exfs,ok.funs,ok.frf⟩
section
variable {X:Cx} {zB:Yd} {Y:St} {H:Hp} {s:Yl} {E:Yc}
def Inv.wish (I:Inv X zB Y H s) (E:Yc):Inv (X.wish E) zB Y H s:=⟨I.ok.wish E,I.os,I.bare,I.base,I.loc,I.cell,I.free,I.freeC,I.pin,I.hok,I.len⟩
def Inv.unwish (I:Inv (X.wish E) zB Y H s):Inv X zB Y H s:=⟨I.ok.unwish,I.os,I.bare,I.base,I.loc,I.cell,I.free,I.freeC,I.pin,I.hok,I.len⟩
def SP.unwish {D:Ends} {f:Flow} {s':Yl} (h:SP (X.wish E) zB D f s'):SP X zB D f s':=by
 cases f with
 |next=>obtain ⟨Y',H',I,q⟩:=h;exact ⟨Y',H',I.unwish,q⟩
 |brk=>obtain ⟨Y',H',I,q⟩:=h;exact ⟨Y',H',I.unwish,q⟩
 |cont=>obtain ⟨Y',H',I,q⟩:=h;exact ⟨Y',H',I.unwish,q⟩
 |ret u=>obtain ⟨v,Y',H',I,r,q⟩:=h;exact ⟨v,Y',H',I.unwish,r,q⟩
def PSs.nox {st:Yy} {t:TS} (h:PSs X.nox st t):PSs X st t:=λzB s Y H D I hw=>
 AS (h zB s Y H D (I.wish _) hw) (λ_ _ q=>q.unwish) λ_ _ z=>False.elim z
end
section
variable {X:Cx} {st:Stmt} {rest:Yy} {t u:TS} {e:Expr} {te:TE} {pos:Pos}
noncomputable def cM:TS:=λD Y H=>D.nx Y H
noncomputable def Vs (t u:TS):TS:=λD Y H=>t { D with nx:=u D } Y H
def Uw:PSs X [] cM:=λ_ _ Y H _ I h=>wpAny_execs_nil ⟨Y,H,I,h⟩
def Sh (h1:PS X st t) (h2:PSs X rest u):PSs X (st::rest) (Vs t u):=by
 intro zB s Y H D I h;refine wpAny_execs_cons (thn (h1 zB s Y H { D with nx:=u D } I h) λf s1 q=>?_);cases f with
 |next=>
  obtain ⟨Y',H',I',q⟩:=q;exact h2 zB s1 Y' H' D I' q
 |ret v=>exact q
 |brk=>exact q
 |cont=>exact q
def oF (h1:PS X st t):PSs X [st] t:=by
 intro zB s Y H D I h;refine wpAny_execs_cons (thn (h1 zB s Y H D I h) λf s1 q=>?_);cases f with
 |next=>exact wpAny_execs_nil q
 |ret v=>exact q
 |brk=>exact q
 |cont=>exact q
def Inv.quiet {zB:Yd} {Y:St} {H:Hp} {s:Yl} (I:Inv X zB Y H s):interactive X.env=false:=by simp[interactive,I.ok.kind]
noncomputable def YA (te:TE):TS:=λD Y H=>te Y H λ_ H1=>D.nx Y H1
def W0 (he:PE X e te) (hs:swapsWith e none pos.line X.env=pure false:=by rfl):PS X (.Expr e pos) (YA te):=by
 intro zB s Y H D I h;exact wpAny_Expr_any (thn (he zB s Y H _ I h) λv s1 ⟨x,H1,I1,r1,q1⟩=>⟨Y,H1,I1,q1⟩) I.quiet hs
noncomputable def Tv (te:TE):TS:=λD Y H=>te Y H D.rt
def oG (he:PE X e te):PS X (.Return (some e) pos) (Tv te):=by
 intro zB s Y H D I h;exact wpAny_Return_some (thn (he zB s Y H _ I h) λv s1 ⟨x,H1,I1,r1,q1⟩=>⟨x,Y,H1,I1,r1,q1⟩)
noncomputable def XS (c:TT) (t u:TS):TS:=λD Y H=>c Y H λb H1=>if b=true then t D Y H1 else u D Y H1
def SK {c:Expr} {a b:Yy} {tc:TT} (hc:PT X c tc) (ha:PSs X a t) (hb:PSs X b u):PS X (.If c a b pos) (XS tc t u):=by
 intro zB s Y H D I h;refine wpAny_If (thn (hc zB s Y H _ I h) λd s1 ⟨H1,I1,q1⟩=>?_);cases d with
 |true=>exact ha zB s1 Y H1 D I1 q1
 |false=>exact hb zB s1 Y H1 D I1 q1
end
noncomputable abbrev TG:=V->St->Hp->(St->Hp->Prop)->Prop
noncomputable abbrev TGs:=List V->St->Hp->(St->Hp->Prop)->Prop
def PG (X:Cx) (target:Expr) (t:TG):Prop :=
 ∀ (zB:Yd) (s:Yl) (Y:St) (H:Hp) (v:V) (u:Yu) (Q:St->Hp->Prop),Inv X zB Y H s->zr v u->t v Y H Q ->
  wpAny (model X.prog X.w) X.A (assign target X.env u) (λ_ s'=>∃ Y' H',Inv X zB Y' H' s'/\Q Y' H') X.xe s
def PGs (X:Cx) (ts:Yi) (t:TGs):Prop :=
 ∀ (zB:Yd) (s:Yl) (Y:St) (H:Hp) (vs:List V) (us:Yf) (Q:St->Hp->Prop),Inv X zB Y H s->zg vs us->t vs Y H Q ->
  wpAny (model X.prog X.w) X.A (assignInOrder ((assignEach ts X.env).map (·.2)) us) (λ_ s'=>∃ Y' H',Inv X zB Y' H' s'/\Q Y' H') X.xe s
noncomputable abbrev LU:=V->V->V->Hp->(Hp->Prop)->Prop
def O7 (X:Cx) (t:LU):Prop :=
 ∀ (zB:Yd) (s:Yl) (Y:St) (H:Hp) (o i v:V) (ov iv u:Yu) (Q:Hp->Prop),Inv X zB Y H s->zr o ov->zr i iv->zr v u->t o i v H Q ->
  wpAny (model X.prog X.w) X.A (setItem ov iv u) (λ_ s'=>∃ H',Inv X zB Y H' s'/\Q H') X.xe s
section
variable {X:Cx} {pos:Pos}
noncomputable def Cu (i:Nat):TG:=λv Y H Q=>Q (Y.set i (some v)) H
def NK {i:Nat} {x:Str} (hN:X.N.Nodup) (hi:X.N[i]?=some x) (hx:Loc X.env.scope x) (hf:X.fn x=true\/X.env.scope.names.lookup x=some .local:=by first|exact .inl rfl|exact .inr rfl|assumption):PG X (.Name x pos) (Cu i):=by
 intro zB s Y H v u Q I r h;exact wpAny_assign_Name (Q0 I hN hi hx r (λs' I'=>⟨_,H,I',h⟩) hf)
noncomputable def LL:TGs:=λvs Y H Q=>vs=[]/\Q Y H
noncomputable def G7 (t:TG) (u:TGs):TGs:=λvs Y H Q=>∃ v r,vs=v::r/\t v Y H λY' H'=>u r Y' H' Q
def fH:PGs X [] LL:=by
 intro zB s Y H vs us Q I r h;obtain ⟨e,h⟩:=h;subst e;cases r;exact assignInOrder_nil ⟨Y,H,I,h⟩
def iF {e:Expr} {es:Yi} {t:TG} {u:TGs} (h1:PG X e t) (h2:PGs X es u)
  (hs:(assignEach (e::es) X.env).map (·.2)=assign e X.env::(assignEach es X.env).map (·.2):=by rfl):PGs X (e::es) (G7 t u):=by
 intro zB s Y H vs us Q I r h;obtain ⟨v,vr,e1,h⟩:=h;subst e1;cases r with
 |cons r rr=>
  rw[hs];refine assignInOrder_cons (thn (h1 zB s Y H _ _ _ I r h) λ_ s1 ⟨σ1,H1,I1,q1⟩=>?_);exact h2 zB s1 σ1 H1 _ _ Q I1 rr q1
noncomputable def MP (K:Yb) (n:Nat) (t:TGs):TG:=λv Y H Q=>∃ a xs,v=.ref a/\SqT K H a xs/\xs.length=n/\t xs Y H Q
def Y4 {es:Yi} {k:Nat} {t:TGs} {n:Nat} (hc:X.calm=true) (h:PGs X es t)
  (hn:(assignEach es X.env).length=n:=by rfl) (hst:(assignEach es X.env).findIdx? (·.1)=none:=by rfl):PG X (.Tuple es k pos) (MP X.K n t):=by
 intro zB s Y H v u Q I r hw;obtain ⟨a,xs,e1,hq,hl,hw⟩:=hw;subst e1;cases r;obtain ⟨its,rv,ht,hz⟩:=I.tuple hq;refine assign_Tuple_tuple (I.ok.hd hc) ht (by simp[hn,<-hl,rv.length]) hst λh' hx=>?_;have I1:Inv X zB Y H { s with heap:=h' }:=I.kept (t':=s.toks) λb o e=>hx b o (AY (AI e)) e;exact h zB _ Y H xs _ Q I1 (by simpa using rv) hw
noncomputable def YR (to ti:TE) (t:LU):TG:=λv Y H Q=>to Y H λo H1=>ti Y H1 λi H2=>t o i v H2 λH3=>Q Y H3
def d6 {o i:Expr} {to ti:TE} {t:LU} (ho:PE X o to) (hi:PE X i ti) (hs:O7 X t)
  (ha:∀ v,assign (.Subscript o i pos) X.env v=(do
   let ov <- holding [v] (eval o X.env);let iv <- holding [v,ov] (eval i X.env);standAt pos;holding [v,ov,iv] (setItem ov iv v);release [v,ov,iv] []):=by intro _;rfl):PG X (.Subscript o i pos) (YR to ti t):=by
 intro zB s Y H v u Q I r h;rw[ha];refine AA (CF (thn (ho zB s Y H _ I h) λov s1 ⟨x,H1,I1,r1,q1⟩=>?_));refine AA (CF (thn (hi zB s1 Y H1 _ I1 q1) λiv s2 ⟨y,H2,I2,r2,q2⟩=>?_));refine AA (CU (AA (CF (thn (hs zB s2 Y H2 x y v ov iv u _ I2 r1 r2 r q2) λ_ s3 ⟨H3,I3,q3⟩=>?_))));exact wpAny_release ⟨Y,H3,I3,q3⟩
noncomputable def Hz (te:TE) (g:TG):TS:=λD Y H=>te Y H λx H1=>g x Y H1 D.nx
def QR {tg e:Expr} {te:TE} {g:TG} (he:PE X e te) (hg:PG X tg g) (hs:swapsWithSole [tg] e pos.line X.env=pure false:=by rfl) (hw:swappedStores [tg] e X.env=pure none:=by rfl)
  (h1:(assignEach [tg] X.env).map (·.2)=[assign tg X.env]:=by rfl):PS X (.Assign [tg] e pos) (Hz te g):=by
 intro zB s Y H D I h;refine wpAny_Assign_stores (thn (he zB s Y H _ I h) λv s1 ⟨x,H1,I1,r1,q1⟩=>?_) hs hw;rw[h1];exact thn (hg zB s1 Y H1 x v _ I1 r1 q1) λ_ s2 q=>q
def Wf {i:Nat} {x:Str} {e:Expr} {te:TE} {pos':Pos} (hN:X.N.Nodup) (hi:X.N[i]?=some x) (hx:Loc X.env.scope x) (he:PE X e te) (hs:swapsWith e (some (.Name x pos')) pos.line X.env=pure false:=by rfl) (hf:X.fn x=true\/X.env.scope.names.lookup x=some .local:=by first|exact .inl rfl|exact .inr rfl|assumption) :
  PS X (.Assign [.Name x pos'] e pos) (Hz te (Cu i)):=by
 intro zB s Y H D I h;refine wpAny_Assign_Name (thn (he zB s Y H _ I h) λv s1 ⟨y,H1,I1,r1,q1⟩=>?_) hs;exact Q0 I1 hN hi hx r1 (λs2 I2=>⟨_,H1,I2,q1⟩) hf
noncomputable def P4 (c:TT) (tb:TS):TS:=λD Y H=>∃ W:Nat->St->Hp->Prop,(∃ m,W m Y H) /\ ∀ m Y H,W m Y H ->
 c Y H λb H1=>if b=true then ∃ N:St->Hp->Prop,(∀ Y' H',N Y' H' -> ∃ m',m'<m/\W m' Y' H')/\tb { D with nx:=N,ct:=N,bk:=D.nx } Y H1 else D.nx Y H1
def nP {c:Expr} {body:Yy} {tc:TT} {tb:TS} (hp:PassesOwn (model X.prog X.w) X.A X.env X.xe) (hc:PT X c tc) (hb:PSs X body tb):PS X (.While c body [] pos) (P4 tc tb):=by
 intro zB s Y H D I h;obtain ⟨W,⟨m0,w0⟩,turn⟩:=h;refine wpAny_While (codeAny_whileLoop (λn s'=>∃ Y' H',Inv X zB Y' H' s'/\W n Y' H') ?_ m0 ⟨Y,H,I,w0⟩);rintro n s1 ⟨σ1,H1,I1,w1⟩;refine wpAny_passesOwn hp (thn (hc zB s1 σ1 H1 _ I1 (turn n σ1 H1 w1)) λb s2 ⟨H2,I2,q2⟩=>?_);cases b with
 |true=>
  obtain ⟨N,hN,q2⟩:=q2;rw[AB rfl];refine wpAny_passesOwn hp (thn (hb zB s2 σ1 H2 _ I2 q2) λf s3 q3=>?_);cases f with
  |next=>
   obtain ⟨σ3,H3,I3,n3⟩:=q3;obtain ⟨m',hm,w3⟩:=hN σ3 H3 n3;exact ⟨m',hm,σ3,H3,I3,w3⟩
  |cont=>
   obtain ⟨σ3,H3,I3,n3⟩:=q3;obtain ⟨m',hm,w3⟩:=hN σ3 H3 n3;exact ⟨m',hm,σ3,H3,I3,w3⟩
  |brk=>exact q3
  |ret v=>exact q3
 |false=>
  rw[AE B3];exact wpAny_execs_nil ⟨σ1,H2,I2,q2⟩
end
structure It where
 go:Nat->Hp->Prop
 yld:Nat->Hp->V->Hp->Prop
 stop:Nat->Hp->Prop
def BX (X:Cx) (zB:Yd) (H:Hp) (b:Yt):Prop :=
 H b=none/\b≠X.env.locals/\b∉X.fs/\(b∈X.ex\/X.s₀.heap.objs.size<=b)/\(∀ x c,X.env.cells.lookup x=some c->c≠b) /\ ∀ p∈X.pn++zB,p.1≠b
def Inv.fpOk {X:Cx} {zB:Yd} {Y:St} {H H':Hp} {s:Yl} {b:Yt} (I:Inv X zB Y H s) (hb:s.heap.objs.size<=b) (hn:H' b=none):BX X zB H' b:=by
 refine ⟨hn,Dd (As I.lt hb),I.nofs hb,.inr (AW I.sz hb),λx c e z=>?_,λp hp z=>?_⟩
 .obtain ⟨v,q⟩:=I.cell x c e;exact absurd (As q.lt (by rw[z];exact hb)) (BZ _)
 .exact absurd (As (AI (I.pin p hp).1) (by rw[z];exact hb)) (BZ _)
structure Turn (P:Ym) (w:Yo) (K:Yb) (tg:Expr) (J:It) (fp:Yg) (it:Yt) (tn:Nat->Heap->Prop):Prop where
 mem:it∈fp
 obj:∀ i h,tn i h -> ∀ b∈fp,∃ o,h.get? b=some o /\ ∀ v,o.data≠.cell v
 keep:∀ i h h',tn i h->(∀ b∈fp,∀ o,h.get? b=some o->h'.get? b=some o)->tn i h'
 item:∀ (X:Cx),X.prog=P->X.w=w->X.K=K->X.calm=true -> ∀ (i:Nat) (zB:Yd) (s:Yl) (Y:St) (H:Hp) (E:Yc),Inv X zB Y H s->(∀ b∈fp,BX X zB H b)->tn i s.heap->J.go i H ->
  wpAny (model P w) X.A (pyNext (.ref it)) (λr s1=>∃ u,r=some u /\
   wpAny (model P w) X.A (letOwnedTupleGo tg (.ref it) u) (λ_ s2=>∃ x H',Inv X zB Y H' s2/\zr x u/\J.yld i H x H'/\tn (i+1) s2.heap /\ ∀ b∈fp,H' b=none) E s1) E s
 done:∀ (X:Cx),X.prog=P->X.w=w->X.K=K->X.calm=true -> ∀ (i:Nat) (zB:Yd) (s:Yl) (Y:St) (H:Hp) (E:Yc),Inv X zB Y H s->(∀ b∈fp,BX X zB H b)->tn i s.heap->J.stop i H ->
  wpAny (model P w) X.A (pyNext (.ref it)) (λr s1=>r=none/\Inv X zB Y H s1) E s
 self:∀ (A:Yn) (i:Nat) (s:Yl) (Q:Yc) (E:Yc),tn i s.heap->Q (.ref it) s->wpAny (model P w) A (pyIter (.ref it)) Q E s
noncomputable abbrev TI:=St->Hp->(It->Hp->Prop)->Prop
def PIE (X:Cx) (zB:Yd) (Y:St) (tg:Expr) (R:It->Hp->Prop) (itv:Yu) (s2:Yl):Prop :=
 ∃ (it:Yt) (fp:Yg) (tn:Nat->Heap->Prop) (J:It) (H':Hp),itv=.ref it/\Inv X zB Y H' s2/\Turn X.prog X.w X.K tg J fp it tn/\tn 0 s2.heap/\(∀ b∈fp,BX X zB H' b)/\R J H'
def PI (X:Cx) (tg iter:Expr) (wi:TI):Prop :=
  ∀ (zB:Yd) (s:Yl) (Y:St) (H:Hp) (R:It->Hp->Prop),Inv X zB Y H s->wi Y H R ->
    wpAny (model X.prog X.w) X.A (eval iter X.env) (λv s1=>wpAny (model X.prog X.w) X.A (pyIter v) (PIE X zB Y tg R) X.xe s1) X.xe s
def Na {M:Model} {A:Yn} {E:Yc} {s:Yl} {tg:Expr} {it:Yt} {u:Yu} {o:Obj} {n:String} {vs:Yp} {Q:Unit->Shared->Prop} (ho:s.heap.get? it=some o) (hc:o.cls=.type n) (hd:o.data=.fields vs)
    (hn:["enumerate", "zip", "dict_itemiterator", "dict_reverseitemiterator", "odict_iterator", "itertools.zip_longest", "itertools.pairwise"].contains n=false) (hQ:Q () s):wpAny M A (letOwnedTupleGo tg (.ref it) u) Q E s:=by
  unfold letOwnedTupleGo
  cases tg <;> first
    |exact AD hQ
    | (cases u <;> first
        |exact AD hQ
        | (refine AA (wpAny_load ho ?_)
           rw[hc,hd];show wpAny M A (if (["enumerate", "zip", "dict_itemiterator", "dict_reverseitemiterator", "odict_iterator", "itertools.zip_longest", "itertools.pairwise"].contains n&&vs[0]?==some (rawInt _))=true then _ else _) Q E s;rw[AE (by intro h;rw[hn,Bool.false_and]at h;cases h)];exact AD hQ))
noncomputable def Itl (K:Yb) (a:Yt):It :=
 ⟨λi H=>∃ xs x,SqL K H a xs/\xs[i]?=some x,λi H x H'=>H'=H /\ ∀ xs,SqL K H a xs->xs[i]?=some x,λi H=>∃ xs,SqL K H a xs/\xs.length<=i⟩
noncomputable def Itt (K:Yb) (a:Yt):It :=
 ⟨λi H=>∃ xs x,SqT K H a xs/\xs[i]?=some x,λi H x H'=>H'=H /\ ∀ xs,SqT K H a xs->xs[i]?=some x,λi H=>∃ xs,SqT K H a xs/\xs.length<=i⟩
noncomputable def Itr (lo:Int) (n:Nat):It:=⟨λi _=>i<n,λi H x H'=>H'=H/\x=.int (lo+i),λi _=>n<=i⟩
def WL {P:Ym} {w:Yo} {K:Yb} {tg:Expr} (a it:Yt):Turn P w K tg (Itl K a) [it] it (λi h=>h.IsListIter it a i) where
 mem:=by simp
 obj:=λi h st b hb=>by
  have e:b=it:=by simpa using hb
  subst e;obtain ⟨o,e,c,d⟩:=st;exact ⟨o,e,λv z=>by rw[d]at z;cases z⟩
 keep:=λi h h' st k=>st.at λo e=>k it (by simp) o e;item:=by
  intro X hP hw hK hc i zB s Y H E I hf st hg;subst hP hw hK;obtain ⟨xs,x,hq,hx⟩:=hg;obtain ⟨its,rv,p,hz⟩:=I.list hq;obtain ⟨u,hu,ru⟩:=rv.get hx;obtain ⟨f0,f1,f2,f3,f4,f5⟩:=hf it (by simp);refine wpAny_pyNext_list_item st p.isList (x:=u) (by simpa using hu) λh' st' sb=>?_;have I1:Inv X zB Y H { s with heap:=h' }:=I.turned (t':=s.toks) (λb o hb e=>(sb.2 b hb).trans e) f0 f1 f3 f4 f5;obtain ⟨o,e,c,d⟩:=id st';exact ⟨u,rfl,Na (s:={ s with heap:=h' }) e c d (by decide) ⟨x,H,I1,ru,⟨rfl,λys hy=>by rw[I.list_inj hy hq];exact hx⟩,st',λb hb=>(hf b hb).1⟩⟩
 done:=by
  intro X hP hw hK hc i zB s Y H E I hf st hg;subst hP hw hK;obtain ⟨xs,hq,hx⟩:=hg;obtain ⟨its,rv,p,hz⟩:=I.list hq;obtain ⟨f0,f1,f2,f3,f4,f5⟩:=hf it (by simp);have hl:=rv.length;exact wpAny_pyNext_list_end (I.ok.hd hc) st p.isList (by simp;omega) λh' eb=>⟨rfl,I.turned (t':=s.toks) (λb o hb e=>eb b o hb e) f0 f1 f3 f4 f5⟩
 self:=λ_ _ _ _ _ st h=>wpAny_pyIter_listiter st h
def XU {P:Ym} {w:Yo} {K:Yb} {tg:Expr} (a it:Yt):Turn P w K tg (Itt K a) [it] it (λi h=>h.IsTupleIter it a i) where
 mem:=by simp
 obj:=λi h st b hb=>by
  have e:b=it:=by simpa using hb
  subst e;obtain ⟨o,e,c,d⟩:=st;exact ⟨o,e,λv z=>by rw[d]at z;cases z⟩
 keep:=λi h h' st k=>st.at λo e=>k it (by simp) o e;item:=by
  intro X hP hw hK hc i zB s Y H E I hf st hg;subst hP hw hK;obtain ⟨xs,x,hq,hx⟩:=hg;obtain ⟨its,rv,p,hz⟩:=I.tuple hq;obtain ⟨u,hu,ru⟩:=rv.get hx;obtain ⟨f0,f1,f2,f3,f4,f5⟩:=hf it (by simp);refine wpAny_pyNext_tuple_item st (show s.heap.IsTuple a its.toArray from p) (x:=u) (by simpa using hu) λh' st' sb=>?_;have I1:Inv X zB Y H { s with heap:=h' }:=I.turned (t':=s.toks) (λb o hb e=>(sb.2 b hb).trans e) f0 f1 f3 f4 f5;obtain ⟨o,e,c,d⟩:=id st';exact ⟨u,rfl,Na (s:={ s with heap:=h' }) e c d (by decide) ⟨x,H,I1,ru,⟨rfl,λys hy=>by rw[I.tuple_inj hy hq];exact hx⟩,st',λb hb=>(hf b hb).1⟩⟩
 done:=by
  intro X hP hw hK hc i zB s Y H E I hf st hg;subst hP hw hK;obtain ⟨xs,hq,hx⟩:=hg;obtain ⟨its,rv,p,hz⟩:=I.tuple hq;obtain ⟨f0,f1,f2,f3,f4,f5⟩:=hf it (by simp);have hl:=rv.length;exact wpAny_pyNext_tuple_end (I.ok.hd hc) st (show s.heap.IsTuple a its.toArray from p) (by simp;omega) λh' eb=>⟨rfl,I.turned (t':=s.toks) (λb o hb e=>eb b o hb e) f0 f1 f3 f4 f5⟩
 self:=λ_ _ _ _ _ st h=>wpAny_pyIter_tupleiter st h
def Us {P:Ym} {w:Yo} {K:Yb} {tg:Expr} (it:Yt) (lo:Int) (n:Nat):Turn P w K tg (Itr lo n) [it] it (λi h=>IsRangeIter h it (lo+(i:Nat)*1) ((n:Int)-(i:Nat)) 1) where
 mem:=by simp
 obj:=λi h st b hb=>by
  have e:b=it:=by simpa using hb
  subst e;exact ⟨_,st,λv z=>by
   have z':Data.fields _=Data.cell v:=z;cases z'⟩
 keep:=λi h h' st k=>k it (by simp) _ st;item:=by
  intro X hP hw hK hc i zB s Y H E I hf st hg;subst hP hw hK;obtain ⟨f0,f1,f2,f3,f4,f5⟩:=hf it (by simp);have W:=Walks.range (prog:=X.prog) (w:=X.w) (I.ok.hd hc) it lo 1 n;refine W.item i s _ _ hg st λv h' tk hv st' kk=>?_;obtain ⟨t,rfl⟩:=hv;have I1:Inv X zB Y H { s with heap:=h',toks:=tk }:=I.turned (λb o hb e=>kk b o (by simpa using hb) e) f0 f1 f3 f4 f5;refine ⟨_,rfl,Na (s:={ s with heap:=h',toks:=tk }) (n := "range_iterator") st' rfl rfl (by decide) ⟨.int (lo+i),H,I1,⟨t,?_⟩,⟨rfl,rfl⟩,st',λb hb=>(hf b hb).1⟩⟩;rw[Int.mul_one]
 done:=by
  intro X hP hw hK hc i zB s Y H E I hf st hg;subst hP hw hK;obtain ⟨f0,f1,f2,f3,f4,f5⟩:=hf it (by simp);exact wpAny_pyNext_range_end (I.ok.hd hc) st (by have:n<=i:=hg;omega) λh' eb=>⟨rfl,I.turned (t':=s.toks) (λb o hb e=>eb b o hb e) f0 f1 f3 f4 f5⟩
 self:=λ_ _ _ _ _ st h=>wpAny_pyIter_rangeiter st h
section
variable {X:Cx} {tg:Expr}
def Sb {zB:Yd} {Y:St} {H:Hp} {s:Yl} {R:It->Hp->Prop} {E:Yc} {lo hi:Int} {t u v:Tok} {tk:Nat} (I:Inv X zB Y H s) (h1 : -(2 ^ 62)<=lo) (h2:lo<2 ^ 62) (h3 : -(2 ^ 62)<=hi) (h4:hi<2 ^ 62)
  (q:R (Itr lo (hi-lo).toNat) H):wpAny (model X.prog X.w) X.A (pyIter (.ref s.heap.objs.size)) (PIE X zB Y tg R) E { s with heap:=s.heap.push { cls:=.type "range", data:=.fields #[.int lo t,.int hi u,.int 1 v] },toks:=tk }:=by
 refine wpAny_pyIter_range (IsRange.new ..) (small_one h1 h2 h3 h4) ?_;have I1:Inv X zB Y H { s with heap:=s.heap.push { cls:=.type "range", data:=.fields #[.int lo t,.int hi u,.int 1 v] },toks:=tk }:=I.kept λb o e=>AN _ e
 refine ⟨(s.heap.push { cls:=.type "range", data:=.fields #[.int lo t,.int hi u,.int 1 v] }).objs.size,[(s.heap.push { cls:=.type "range", data:=.fields #[.int lo t,.int hi u,.int 1 v] }).objs.size],_,_,H,rfl,
  I1.kept (t':=tk) λb o e=>AN _ e,Us _ lo (hi-lo).toNat,?_,λb hb=>?_,q⟩
 .have e1:lo+((0:Nat):Int)*1=lo:=by simp
  have e2:(((hi-lo).toNat:Nat):Int)-((0:Nat):Int)=Builtin.Range.rangeSize lo hi 1:=by rw[rangeSize_one];split <;> omega
  rw[e1,e2];exact Ad _ rfl
 .have e:b=(s.heap.push { cls:=.type "range", data:=.fields #[.int lo t,.int hi u,.int 1 v] }).objs.size:=by simpa using hb
  subst e;exact I1.fpOk (AF _) (I1.hok.fresh (AF _))
noncomputable def Xp (ta:TA):TI:=λY H R=>ta Y H λvs H1=>∃ j:Int,vs=[.int j] /\ -(2 ^ 62)<=j/\j<2 ^ 62/\R (Itr 0 j.toNat) H1
def ZJ {a:Expr} {ta:TA} {p pos:Pos} (hg:Gl X "range") (hm:X.mg "range" = none) (ha:PA X [a] ta) (hs:starEach [a] X.env=[(false,eval a X.env)]:=by rfl):PI X tg (.Call (.Name "range" p) [a] [] pos) (Xp ta):=by
 intro zB s Y H R I h;refine Call_ (Fo I hg hm boot_range (PyProof.Rows.callWith_type1 (thn (ha pos zB s Y H _ I h) λus s1 ⟨vs,H1,I1,r1,q1⟩=>?_) hs rfl));obtain ⟨j,e,q1,q2,q⟩:=q1;subst e;cases r1 with
 |cons r rr=>
  cases rr;obtain ⟨t,rfl⟩:=r;exact call_range_1 (Sb I1 (by omega) (by omega) q1 q2 (by simpa using q))
noncomputable def RU (wi:TI) (g:TG) (tb:TS):TS:=λD Y H=>wi Y H λJ H1=>∃ W:Nat->Nat->St->Hp->Prop,(∃ m,W 0 m Y H1) /\ ∀ i m Y H,W i m Y H ->
 (J.stop i H/\D.nx Y H)\/(J.go i H /\ ∃ N:St->Hp->Prop,(∀ Y' H',N Y' H' -> ∃ m',m'<m/\W (i+1) m' Y' H') /\ ∀ x H',J.yld i H x H'->g x Y H' λσ2 H2=>tb { D with nx:=N,ct:=N,bk:=D.nx } σ2 H2)
noncomputable def EF (fp:Yg) (h:Heap):List (Addr × Obj):=fp.filterMap λb=>(h.get? b).map λo=>(b,o)
def Dl {fp:Yg} {h:Heap} {b:Yt} {o:Obj} (hb:b∈fp) (e:h.get? b=some o):(b,o)∈EF fp h:=List.mem_filterMap.mpr ⟨b,hb,by rw[e];rfl⟩
def O8 {fp:Yg} {h:Heap} {p:Addr × Obj} (hp:p∈EF fp h):p.1∈fp/\h.get? p.1=some p.2:=by
 obtain ⟨b,hb,e⟩:=List.mem_filterMap.mp hp;cases q:h.get? b with
 |none=>rw[q]at e;cases e
 |some o=>
  rw[q]at e;have e':(b,o)=p:=CB e;subst e';exact ⟨hb,q⟩
def Inv.pinned {zB:Yd} {Y:St} {H:Hp} {s:Yl} {fp:Yg} (I:Inv X zB Y H s) (hf:∀ b∈fp,BX X zB H b) (ho:∀ b∈fp,∃ o,s.heap.get? b=some o /\ ∀ v,o.data≠.cell v):Inv X (zB++EF fp s.heap) Y H s :=
 I.pins_of λp hp=>(Ak.mp hp).elim (λz=>I.pin p (Ap _ z)) λz=>by
  obtain ⟨hb,e⟩:=O8 z;obtain ⟨f0,f1,f2,_⟩:=hf p.1 hb;obtain ⟨o,e',d⟩:=ho p.1 hb;rw[e]at e';cases e';exact ⟨e,f0,f1,f2,d⟩
def Inv.unpinned {zB pl:Yd} {Y:St} {H:Hp} {s:Yl} (I:Inv X (zB++pl) Y H s):Inv X zB Y H s:=I.pins_of λp hp=>I.pin p (Ap _ (Cc _ hp))
def lN {iter:Expr} {body:Yy} {wi:TI} {g:TG} {tb:TS} {pos:Pos} (hp:PassesOwn (model X.prog X.w) X.A X.env X.xe) (hc:X.calm=true) (hi:PI X tg iter wi) (hg:PG X tg g) (hb:PSs X body tb)
  (hs:∀ x,foldedSetIterable iter X.env x=pure x:=by intro _;rfl):PS X (.For tg iter body [] pos) (RU wi g tb):=by
 intro zB s Y H D I h;refine wpAny_For (thn (hi zB s Y H _ I h) λv s1 h1=>thn h1 λitv s2 h2=>?_) hs;obtain ⟨it,fp,tn,J,H2,e,I2,T,st2,f2,W,⟨m0,w0⟩,turn⟩:=h2;subst e;have stat:∀ {H':Hp},(∀ b∈fp,H' b=none) -> ∀ b∈fp,BX X zB H' b:=λhn b hb=>⟨hn b hb,(f2 b hb).2⟩;refine codeAny_forLoop_any (λn s'=>∃ i Y' H',Inv X zB Y' H' s'/\tn i s'.heap/\(∀ b∈fp,H' b=none)/\W i n Y' H') ?_ m0 ⟨0,Y,H2,I2,st2,λb hb=>(f2 b hb).1,w0⟩;rintro n s3 ⟨i,σ3,H3,I3,st3,fr3,w3⟩;rcases turn i n σ3 H3 w3 with ⟨stop,qn⟩|⟨go,N,hN,step⟩
 .refine wpAny_passesOwn hp (thn (T.done X rfl rfl rfl hc i zB s3 σ3 H3 X.xe I3 (stat fr3) st3 stop) λr s4 ⟨hr,I4⟩=>?_);subst hr;exact wpAny_execs_nil ⟨σ3,H3,I4,qn⟩
 .refine wpAny_passesOwn hp (thn (T.item X rfl rfl rfl hc i zB s3 σ3 H3 X.xe I3 (stat fr3) st3 go) λr s4 ⟨u,hr,h4⟩=>?_);subst hr;refine wpAny_passesOwn hp (thn h4 λ_ s5 ⟨x,H5,I5,r5,y5,st5,fr5⟩=>?_);have I5':=I5.pinned (stat fr5) (T.obj _ _ st5);refine wpAny_passesOwn hp (thn (hg _ s5 σ3 H5 x u _ I5' r5 (step x H5 y5)) λ_ s6 ⟨σ6,H6,I6,q6⟩=>?_);refine wpAny_passesOwn hp (thn (hb _ s6 σ6 H6 _ I6 q6) λf s7 q7=>?_);have again:∀ {σ7:St} {H7:Hp},Inv X (zB++EF fp s5.heap) σ7 H7 s7->N σ7 H7 -> ∃ m,m<n /\ ∃ i Y' H',Inv X zB Y' H' s7/\tn i s7.heap/\(∀ b∈fp,H' b=none)/\W i m Y' H':=λ{σ7 H7} I7 n7=>by
   obtain ⟨m',hm,w7⟩:=hN σ7 H7 n7;refine ⟨m',hm,i+1,σ7,H7,I7.unpinned,T.keep _ _ _ st5 λb hb o e=>(I7.pin (b,o) (Ap _ (Ap _ (Dl hb e)))).1,λb hb=>?_,w7⟩;obtain ⟨o,e,d⟩:=T.obj _ _ st5 b hb;exact (I7.pin (b,o) (Ap _ (Ap _ (Dl hb e)))).2.1
  cases f with
  |next=>obtain ⟨σ7,H7,I7,n7⟩:=q7;exact again I7 n7
  |cont=>obtain ⟨σ7,H7,I7,n7⟩:=q7;exact again I7 n7
  |brk=>obtain ⟨σ7,H7,I7,q7⟩:=q7;exact ⟨σ7,H7,I7.unpinned,q7⟩
  |ret v=>obtain ⟨x7,σ7,H7,I7,r7,q7⟩:=q7;exact ⟨x7,σ7,H7,I7.unpinned,r7,q7⟩
end
noncomputable abbrev R2:=V->V->Hp->VK->Prop
def OpR (X:Cx) (f:Y2) (r:R2):Prop :=
 ∀ (zB:Yd) (s:Yl) (Y:St) (H:Hp) (x y:V) (v u:Yu) (Q:VK),Inv X zB Y H s->zr x v->zr y u->r x y H Q ->
  wpAny (model X.prog X.w) X.A (f v u) (EP X zB Y Q) X.xe s
def UnR (X:Cx) (f:Value->Sem Value) (r:V->Hp->VK->Prop):Prop :=
 ∀ (zB:Yd) (s:Yl) (Y:St) (H:Hp) (x:V) (v:Yu) (Q:VK),Inv X zB Y H s->zr x v->r x H Q ->
  wpAny (model X.prog X.w) X.A (f v) (EP X zB Y Q) X.xe s
def Br (X:Cx) (f:Yu) (r:List V->Hp->VK->Prop):Prop :=
 ∀ (zB:Yd) (s:Yl) (Y:St) (H:Hp) (xs:List V) (us:Yf) (Q:VK),Inv X zB Y H s->zg xs us->r xs H Q ->
  wpAny (model X.prog X.w) X.A (call f us) (EP X zB Y Q) X.xe s
def b4 (X:Cx) (r:V->Hp->(Bool->Hp->Prop)->Prop):Prop :=
 ∀ (zB:Yd) (s:Yl) (Y:St) (H:Hp) (x:V) (v:Yu) (Q:Bool->Hp->Prop),Inv X zB Y H s->zr x v->r x H Q ->
  wpAny (model X.prog X.w) X.A (truthy v) (TP X zB Y Q) X.xe s
noncomputable def tOp (r:R2) (ta tb:TE):TE:=λY H Q=>ta Y H λx H1=>tb Y H1 λy H2=>r x y H2 Q
noncomputable def tUn (r:V->Hp->VK->Prop) (ta:TE):TE:=λY H Q=>ta Y H λx H1=>r x H1 Q
noncomputable def rI (C:Int->Int->Prop) (g:Int->Int->V):R2:=λx y H Q=>∃ i j,x=.int i/\y=.int j/\C i j/\Q (g i j) H
noncomputable def rI0 (g:Int->Int->V):R2:=λx y H Q=>∃ i j,x=.int i/\y=.int j/\Q (g i j) H
def rU (g:Int->V):V->Hp->VK->Prop:=λx H Q=>∃ i,x=.int i/\Q (g i) H
section
variable {X:Cx} {a b c:Expr} {ta tb tc:TE} {pos:Pos}
def MX (ha:PE X a ta) (hb:PE X b tb) {zB:Yd} {s:Yl} {Y:St} {H:Hp} {R:V->V->Hp->Prop} (I:Inv X zB Y H s)
  (h:ta Y H λx H1=>tb Y H1 λy H2=>R x y H2) {Q:Yc} {f:Y2}
  (hf:∀ v u s2 x y H2,Inv X zB Y H2 s2->zr x v->zr y u->R x y H2->wpAny (model X.prog X.w) X.A (f v u) Q X.xe s2) :
  wpAny (model X.prog X.w) X.A (eval a X.env) (λv s₁=>wpAny (model X.prog X.w) X.A (eval b X.env) (λu s₂=>wpAny (model X.prog X.w) X.A (f v u) Q X.xe s₂) X.xe s₁) X.xe s:=by
 refine thn (ha zB s Y H _ I h) λv s1 ⟨x,H1,I1,r1,q1⟩=>?_;refine thn (hb zB s1 Y H1 _ I1 q1) λu s2 ⟨y,H2,I2,r2,q2⟩=>?_;exact hf v u s2 x y H2 I2 r1 r2 q2
def TF {op:Operator} {r:R2} (ho:OpR X (binaryOp op) r) (ha:PE X a ta) (hb:PE X b tb):PE X (.BinOp a op b pos) (tOp r ta tb):=by
 intro zB s Y H Q I h;exact wpAny_BinOp (MX ha hb I h λv u s2 x y H2 I2 rx ry q=>ho zB s2 Y H2 x y v u Q I2 rx ry q)
def Vn {op:UnaryOp} {r:V->Hp->VK->Prop} (ho:UnR X (unaryOp op) r) (ha:PE X a ta):PE X (.UnaryOp op a pos) (tUn r ta):=by
 intro zB s Y H Q I h;exact UnaryOp_ (thn (ha zB s Y H _ I h) λv s1 ⟨x,H1,I1,r1,q1⟩=>ho zB s1 Y H1 x v Q I1 r1 q1)
def opI {f:Y2} {C:Int->Int->Prop} {g:Int->Int->Int}
  (rule:∀ (i j:Int) (t u:Tok) (s:Yl) (Q:Yc) (E:Yc),C i j->Q (.int (g i j) s.toks) { s with toks:=s.toks+1 }->wpAny (model X.prog X.w) X.A (f (.int i t) (.int j u)) Q E s) :
  OpR X f (rI C λi j=> .int (g i j)):=by
 intro zB s Y H x y v u Q I rx ry h;obtain ⟨i,j,rfl,rfl,hc,q⟩:=h;obtain ⟨t,rfl⟩:=rx;obtain ⟨t',rfl⟩:=ry;exact rule i j t t' s _ _ hc ⟨.int (g i j),H,I.tok _,⟨_,rfl⟩,q⟩
def QM {f:Y2} {g:Int->Int->Int}
  (rule:∀ (i j:Int) (t u:Tok) (s:Yl) (Q:Yc) (E:Yc),Q (.int (g i j) s.toks) { s with toks:=s.toks+1 }->wpAny (model X.prog X.w) X.A (f (.int i t) (.int j u)) Q E s) :
  OpR X f (rI0 λi j=> .int (g i j)):=by
 intro zB s Y H x y v u Q I rx ry h;obtain ⟨i,j,rfl,rfl,q⟩:=h;obtain ⟨t,rfl⟩:=rx;obtain ⟨t',rfl⟩:=ry;exact rule i j t t' s _ _ ⟨.int (g i j),H,I.tok _,⟨_,rfl⟩,q⟩
def JQ {f:Y2} {g:Int->Int->Bool}
  (rule:∀ (i j:Int) (t u:Tok) (s:Yl) (Q:Yc) (E:Yc),Q (.bool (g i j)) s->wpAny (model X.prog X.w) X.A (f (.int i t) (.int j u)) Q E s) :
  OpR X f (rI0 λi j=> .bl (g i j)):=by
 intro zB s Y H x y v u Q I rx ry h;obtain ⟨i,j,rfl,rfl,q⟩:=h;obtain ⟨t,rfl⟩:=rx;obtain ⟨t',rfl⟩:=ry;exact rule i j t t' s _ _ ⟨.bl (g i j),H,I,rfl,q⟩
def Wn (i j:Int):Prop:=0<j/\j<1073741824
def UN (i j:Int):Prop:=0<=j/\j<=1000000/\i.natAbs<2 ^ 64
def Kx (i j:Int):Prop:=(-(2 ^ 64)<i/\i<2 ^ 64)\/(-(2 ^ 64)<j/\j<2 ^ 64)
def Kx.ok {i j:Int} (h:Kx i j):IntMulOk i j:=by
 rcases h with ⟨h1,h2⟩|⟨h1,h2⟩
 .exact .of_left (intBits_le_64 h1 h2)
 .exact .of_right (intBits_le_64 h1 h2)
def eM:OpR X (binaryOp .Add) (rI0 λi j=> .int (i+j)):=QM λ_ _ _ _ _ _ _ q=>add_int q
def Ua:OpR X (binaryOp .Sub) (rI0 λi j=> .int (i-j)):=QM λ_ _ _ _ _ _ _ q=>sub_int q
def YH:OpR X (binaryOp .Mult) (rI Kx λi j=> .int (i*j)):=opI λ_ _ _ _ _ _ _ hc q=>mul_int q hc.ok
def WI:OpR X (binaryOp .FloorDiv) (rI Wn λi j=> .int (i / j)):=opI λi j _ _ _ _ _ hc q=>by
 have h1:(0:Int)<j:=hc.1;have h2:j<1073741824:=hc.2;exact floordiv_int (by omega) (by rw[Int.fdiv_eq_ediv_of_nonneg i (by omega)];exact q) (.inl (PyProof.noPylong_small (by omega)))
def fI:OpR X (binaryOp .Mod) (rI (λ_ j=>0<j) λi j=> .int (i % j)):=opI λi j _ _ _ _ _ hc q=>by
 have h1:(0:Int)<j:=hc;exact mod_int' (by omega) (by rw[Int.fmod_eq_emod_of_nonneg i (by omega)];exact q)
def dE:OpR X (binaryOp .Pow) (rI UN λi j=> .int (i ^ j.toNat)):=opI λ_ _ _ _ _ _ _ hc q=>pow_int_small hc.1 hc.2.1 hc.2.2 q
def unI {f:Value->Sem Value} {g:Int->Int}
  (rule:∀ (i:Int) (t:Tok) (s:Yl) (Q:Yc) (E:Yc),Q (.int (g i) s.toks) { s with toks:=s.toks+1 }->wpAny (model X.prog X.w) X.A (f (.int i t)) Q E s) :
  UnR X f (rU λi=> .int (g i)):=by
 intro zB s Y H x v Q I rx h;obtain ⟨i,rfl,q⟩:=h;obtain ⟨t,rfl⟩:=rx;exact rule i t s _ _ ⟨.int (g i),H,I.tok _,⟨_,rfl⟩,q⟩
def bX:UnR X (unaryOp .USub) (rU λi=> .int (-i)):=unI λ_ _ _ _ _ q=>neg_int q
end
noncomputable def JE:V->V->Bool
 |.non,.non=>true|.non,.int _=>true|.int _,.non=>true|.non,.bl _=>true|.bl _,.non=>true|.non,.str _=>true|.str _,.non=>true
 |.int _,.int _=>true|.bl _,.bl _=>true|.str _,.str _=>true|.byt _,.byt _=>true
 |.int _,.str _=>true|.str _,.int _=>true|.bl _,.str _=>true|.str _,.bl _=>true
 |_,_=>false
noncomputable def rEq:R2:=λx y H Q=>JE x y=true/\Q (.bl (decide (x=y))) H
noncomputable def rNe:R2:=λx y H Q=>JE x y=true/\Q (.bl (!decide (x=y))) H
def Po {i j:Int}:decide (V.int i=V.int j)=(i==j):=by
 rw[DZ];simp
def QU {i j:Bool}:decide (V.bl i=V.bl j)=(i==j):=by
 rw[DZ];simp
def Q4 {i j:Str}:decide (V.str i=V.str j)=(i==j):=by
 rw[DZ];simp
def Rz {i j:Array UInt8}:decide (V.byt i=V.byt j)=(i.toList==j.toList):=by
 rw[DZ];cases i;cases j;simp
section
variable {X:Cx} {a b c:Expr} {ta tb tc:TE} {pos:Pos}
def Aq {zB:Yd} {Y:St} {H:Hp} {s:Yl} {Q:VK} {k k':Bool} (I:Inv X zB Y H s) (q:Q (.bl k) H) (e:k=k'):EP X zB Y Q (.bool k') s:=by
 subst e;exact ⟨.bl k,H,I,rfl,q⟩
def Ri:OpR X (compareOp .Eq) rEq:=by
 intro zB s Y H x y v u Q I rx ry h;obtain ⟨hs,q⟩:=h;cases x with
 |non=>
  cases rx;cases y with
  |non=>cases ry;exact PySem.EqNone.eq_none_none (Aq I q (by simp))
  |bl j=>cases ry;exact PySem.EqNone.eq_none_bool (Aq I q (by simp))
  |int j=>obtain ⟨t',rfl⟩:=ry;exact PySem.EqNone.eq_none_int (Aq I q (by simp))
  |str j=>obtain ⟨t',rfl⟩:=ry;exact PySem.EqNone.eq_none_str (Aq I q (by simp))
  |_=>exact absurd (show false=true from hs) B3
 |bl i=>
  cases rx;cases y with
  |non=>cases ry;exact PySem.EqNone.eq_bool_none (Aq I q (by simp))
  |bl j=>cases ry;exact eq_bool (Aq I q QU)
  |str j=>obtain ⟨t',rfl⟩:=ry;exact PySem.EqMixed.eq_bool_str (Aq I q (by simp))
  |_=>exact absurd (show false=true from hs) B3
 |int i=>
  obtain ⟨t,rfl⟩:=rx;cases y with
  |non=>cases ry;exact PySem.EqNone.eq_int_none (Aq I q (by simp))
  |int j=>obtain ⟨t',rfl⟩:=ry;exact eq_int (Aq I q Po)
  |str j=>obtain ⟨t',rfl⟩:=ry;exact PySem.EqMixed.eq_int_str (Aq I q (by simp))
  |_=>exact absurd (show false=true from hs) B3
 |str i=>
  obtain ⟨t,rfl⟩:=rx;cases y with
  |non=>cases ry;exact PySem.EqNone.eq_str_none (Aq I q (by simp))
  |bl j=>cases ry;exact PySem.EqMixed.eq_str_bool (Aq I q (by simp))
  |int j=>obtain ⟨t',rfl⟩:=ry;exact PySem.EqMixed.eq_str_int (Aq I q (by simp))
  |str j=>obtain ⟨t',rfl⟩:=ry;exact eq_str (Aq I q Q4)
  |_=>exact absurd (show false=true from hs) B3
 |byt i=>
  obtain ⟨t,rfl⟩:=rx;cases y with
  |byt j=>obtain ⟨t',rfl⟩:=ry;exact PySem.W.eq_bytes (Aq I q Rz)
  |_=>exact absurd (show false=true from hs) B3
 |_=>cases y <;> exact absurd (show false=true from hs) B3
def Wo:OpR X (compareOp .NotEq) rNe:=by
 intro zB s Y H x y v u Q I rx ry h;obtain ⟨hs,q⟩:=h;cases x with
 |non=>
  cases rx;cases y with
  |non=>cases ry;exact PySem.EqNone.ne_none_none (Aq I q (by simp))
  |bl j=>cases ry;exact PySem.EqNone.ne_none_bool (Aq I q (by simp))
  |int j=>obtain ⟨t',rfl⟩:=ry;exact PySem.EqNone.ne_none_int (Aq I q (by simp))
  |str j=>obtain ⟨t',rfl⟩:=ry;exact PySem.EqNone.ne_none_str (Aq I q (by simp))
  |_=>exact absurd (show false=true from hs) B3
 |bl i=>
  cases rx;cases y with
  |non=>cases ry;exact PySem.EqNone.ne_bool_none (Aq I q (by simp))
  |bl j=>cases ry;exact ne_bool (Aq I q (Bf not QU))
  |str j=>obtain ⟨t',rfl⟩:=ry;exact PySem.EqMixed.ne_bool_str (Aq I q (by simp))
  |_=>exact absurd (show false=true from hs) B3
 |int i=>
  obtain ⟨t,rfl⟩:=rx;cases y with
  |non=>cases ry;exact PySem.EqNone.ne_int_none (Aq I q (by simp))
  |int j=>obtain ⟨t',rfl⟩:=ry;exact ne_int (Aq I q (Bf not Po))
  |str j=>obtain ⟨t',rfl⟩:=ry;exact PySem.EqMixed.ne_int_str (Aq I q (by simp))
  |_=>exact absurd (show false=true from hs) B3
 |str i=>
  obtain ⟨t,rfl⟩:=rx;cases y with
  |non=>cases ry;exact PySem.EqNone.ne_str_none (Aq I q (by simp))
  |bl j=>cases ry;exact PySem.EqMixed.ne_str_bool (Aq I q (by simp))
  |int j=>obtain ⟨t',rfl⟩:=ry;exact PySem.EqMixed.ne_str_int (Aq I q (by simp))
  |str j=>obtain ⟨t',rfl⟩:=ry;exact ne_str (Aq I q (Bf not Q4))
  |_=>exact absurd (show false=true from hs) B3
 |byt i=>
  obtain ⟨t,rfl⟩:=rx;cases y with
  |byt j=>obtain ⟨t',rfl⟩:=ry;exact PySem.W.ne_bytes (Aq I q (Bf not Rz))
  |_=>exact absurd (show false=true from hs) B3
 |_=>cases y <;> exact absurd (show false=true from hs) B3
def NU:OpR X (compareOp .Lt) (rI0 λi j=> .bl (decide (i<j))):=JQ λ_ _ _ _ _ _ _ q=>lt_int q
def SQ:OpR X (compareOp .LtE) (rI0 λi j=> .bl (decide (i<=j))):=JQ λ_ _ _ _ _ _ _ q=>le_int q
def WT:OpR X (compareOp .Gt) (rI0 λi j=> .bl (decide (j<i))):=JQ λ_ _ _ _ _ _ _ q=>gt_int q
def Wq:OpR X (compareOp .GtE) (rI0 λi j=> .bl (decide (j<=i))):=JQ λ_ _ _ _ _ _ _ q=>ge_int q
def OpR.or {f:Y2} {r r':R2} (h:OpR X f r) (h':OpR X f r'):OpR X f (λx y H Q=>r x y H Q\/r' x y H Q):=by
 intro zB s Y H x y v u Q I rx ry q;rcases q with q|q
 .exact h zB s Y H x y v u Q I rx ry q
 .exact h' zB s Y H x y v u Q I rx ry q
def EG (b:Expr) {op:CmpOp} (h:op≠.In:=by decide) (h2:op≠.NotIn:=by decide):behindInMarks op b=false:=by
 have e1:(op==CmpOp.In)=false:=by cases op <;> first|rfl|exact absurd rfl h
 have e2:(op==CmpOp.NotIn)=false:=by cases op <;> first|rfl|exact absurd rfl h2
 cases b <;> simp[behindInMarks,e1,e2]
def gY {op:CmpOp} {r:R2} (ho:OpR X (compareOp op) r) (ha:PE X a ta) (hb:PE X b tb) (hm:behindInMarks op b=false):PE X (.Compare a [op] [b] pos) (tOp r ta tb):=by
 intro zB s Y H Q I h;exact wpAny_Compare1 (MX ha hb I h λv u s2 x y H2 I2 rx ry q=>ho zB s2 Y H2 x y v u Q I2 rx ry q) hm
noncomputable def JG (t:TE):TT:=λY H Q=>t Y H λx H'=>∃ k,x=.bl k/\Q k H'
def Zm {op:CmpOp} {r:R2} (ho:OpR X (compareOp op) r) (ha:PE X a ta) (hb:PE X b tb) (hm:behindInMarks op b=false):PT X (.Compare a [op] [b] pos) (JG (tOp r ta tb)):=by
 intro zB s Y H Q I h;refine wpAny_isTrue_Compare1 (thn (ha zB s Y H _ I h) λv s1 ⟨x,H1,I1,r1,q1⟩=>thn (hb zB s1 Y H1 _ I1 q1) λu s2 ⟨y,H2,I2,r2,q2⟩=>
  thn (ho zB s2 Y H2 x y v u _ I2 r1 r2 q2) λc s3 ⟨z,H3,I3,r3,k,e,q3⟩=>?_) hm
 subst e;cases r3;exact EI ⟨H3,I3,q3⟩
noncomputable def Pt (r r':R2) (ta tb tc:TE):TE:=λY H Q=>ta Y H λx H1=>tb Y H1 λy H2=>r x y H2 λz H3=>∃ k,z=.bl k /\
 (if k=true then tc Y H3 λw' H4=>r' y w' H4 Q else Q (.bl false) H3)
def Ug {op op':CmpOp} {r r':R2} (ho:OpR X (compareOp op) r) (ho':OpR X (compareOp op') r') (ha:PE X a ta) (hb:PE X b tb) (hc:PE X c tc)
  (hm:lastMarks [op,op'] [b,c]=false:=by with_unfolding_all rfl):PE X (.Compare a [op,op'] [b,c] pos) (Pt r r' ta tb tc):=by
 intro zB s Y H Q I h;refine Compare_chain (thn (ha zB s Y H _ I h) λv s1 ⟨x,H1,I1,r1,q1⟩=>chain_link (thn (hb zB s1 Y H1 _ I1 q1) λu s2 ⟨y,H2,I2,r2,q2⟩=>
  thn (ho zB s2 Y H2 x y v u _ I2 r1 r2 q2) λd s3 ⟨z,H3,I3,r3,k,e,q3⟩=>?_)) hm
 subst e;cases r3;refine EI ?_;cases k with
 |false=>exact ite_ff ⟨.bl false,H3,I3,rfl,q3⟩
 |true=>exact ite_tt (chain_last (thn (hc zB s3 Y H3 _ I3 q3) λw' s4 ⟨z',H4,I4,r4,q4⟩=>ho' zB s4 Y H4 y z' u w' Q I4 r2 r4 q4))
def Rj (K:Yb) (x:V) (H:Hp) (k:Bool):Prop :=
 match x with
 |.non=>k=false
 |.bl b=>k=b
 |.int i=>k=(i != 0)
 |.str y=>y.length<=sizeLine/\k=((y.length:Int) != 0)
 |.byt y=>y.size<=sizeLine/\k=((y.size:Int) != 0)
 |.ref p=>(∃ xs,SqL K H p xs/\k = !xs.isEmpty)\/(∃ xs,SqT K H p xs/\k = !xs.isEmpty) \/ ∃ kvs,H p=some (.dK kvs)/\k = !kvs.isEmpty
 |_=>False
def Xn {κ:Type} {kvs:List (κ × V)} {vs:List (κ × Value)} (r:KV kvs vs):(!vs.isEmpty) = !kvs.isEmpty:=by
 cases r <;> rfl
def PH {xs:List V} {its:Yf} (r:zg xs its):(!its.toArray.isEmpty) = !xs.isEmpty:=by
 cases r <;> simp
def HD:(sizeLine:Nat)<2 ^ 63:=by rw[sizeLine_eq];decide
def Ul:b4 X (λx H Q=>∃ k,Rj X.K x H k/\Q k H):=by
 intro zB s Y H x v Q I rx h;obtain ⟨k,e,q⟩:=h;have hl:=HD;have hs:sizeLine=16777216:=sizeLine_eq;cases x with
 |non=>
  cases rx;have e':k=false:=e;subst e';exact truthy_none ⟨H,I,q⟩
 |bl b=>
  cases rx;have e':k=b:=e;subst e';exact EI ⟨H,I,q⟩
 |int i=>
  obtain ⟨t,rfl⟩:=rx;have e':k=(i != 0):=e;subst e';exact PySem.P.truthy_int ⟨H,I,q⟩
 |str y=>
  obtain ⟨t,rfl⟩:=rx;obtain ⟨hy,e'⟩:y.length<=sizeLine/\k=((y.length:Int) != 0):=e;subst e';exact PySem.P.truthy_str (by omega) ⟨H,I.tok _,q⟩
 |byt y=>
  obtain ⟨t,rfl⟩:=rx;obtain ⟨hy,e'⟩:y.size<=sizeLine/\k=((y.size:Int) != 0):=e;subst e';exact PySem.W.truthy_bytes (by omega) ⟨H,I.tok _,q⟩
 |ref p=>
  cases rx;have e':(∃ xs,SqL X.K H p xs/\k = !xs.isEmpty)\/(∃ xs,SqT X.K H p xs/\k = !xs.isEmpty) \/ ∃ kvs,H p=some (.dK kvs)/\k = !kvs.isEmpty:=e;rcases e' with ⟨xs,hx,e'⟩|⟨xs,hx,e'⟩|⟨kvs,hx,e'⟩
  .subst e';obtain ⟨its,r,pl,hz⟩:=I.list hx;have hlen:=r.length;exact wpAny_truthy_list pl.isList (by simp only[AQ];omega) ⟨H,I.tok _,by rw[PH r];exact q⟩
  .subst e';obtain ⟨its,r,pl,hz⟩:=I.tuple hx;have hlen:=r.length;exact truthy_tuple pl (by simp only[AQ];omega) ⟨H,I.tok _,by rw[PH r];exact q⟩
  .subst e';obtain ⟨hz,hS,vs,r,m⟩:kvs.length<=sizeLine/\(p==sysModules)=false /\ ∃ vs,KV kvs vs/\s.heap.DictOf (CP X.prog X.w) p vs:=I.hok p _ hx;have hlen:kvs.length=vs.length:=Paired.length r;exact wpAny_truthy_dict hS m (by omega) ⟨H,I.tok _,by rw[Xn r];exact q⟩
 |_=>exact (show False from e).elim
def b7 (ha:PE X a ta) (he:∀ whole,isTrue a X.env whole=(do let v <- whole;standAt a.pos;holding [v] (truthy v))) :
  PT X a (λY H Q=>ta Y H λx H'=>∃ k,Rj X.K x H' k/\Q k H'):=by
 intro zB s Y H Q I h;exact isTrue_plain (thn (ha zB s Y H _ I h) λv s1 ⟨x,H1,I1,r1,q1⟩=>Ul zB s1 Y H1 x v Q I1 r1 q1) (he _)
def C7 {x:V} {us:Yf} (r:zg [x] us):∃ u,us=[u]/\zr x u:=by
 cases r with
 |cons r1 r2=>cases r2;exact ⟨_,rfl,r1⟩
def Ow {x y:V} {us:Yf} (r:zg [x,y] us):∃ u w',us=[u,w']/\zr x u/\zr y w':=by
 cases r with
 |cons r1 r2=>
  cases r2 with
  |cons r3 r4=>cases r4;exact ⟨_,_,rfl,r1,r3⟩
def dP:Br X (.builtin "abs") (λxs H Q=>∃ i,xs=[.int i]/\Q (.int (if i<0 then -i else i)) H):=by
 intro zB s Y H xs us Q I r h;obtain ⟨i,rfl,q⟩:=h;obtain ⟨u,rfl,t,rfl⟩:=C7 r;exact call_abs_int λu tk=>⟨.int (if i<0 then -i else i),H,I.tok _,⟨_,rfl⟩,q⟩
def Xd (hc:X.calm=true):Br X (.builtin "max") (λxs H Q=>∃ i j,xs=[.int i,.int j]/\Q (.int (if j>i then j else i)) H):=by
 intro zB s Y H xs us Q I r h;obtain ⟨i,j,rfl,q⟩:=h;obtain ⟨u,w',rfl,⟨t,rfl⟩,⟨t',rfl⟩⟩:=Ow r;refine max_two_ints (I.ok.hd hc) λh' tk k=>⟨_,H,I.kept k,?_,q⟩;by_cases hj:j>i
 .rw[AB hj,AB hj];exact ⟨_,rfl⟩
 .rw[AE hj,AE hj];exact ⟨_,rfl⟩
def iI (hc:X.calm=true):Br X (.builtin "min") (λxs H Q=>∃ i j,xs=[.int i,.int j]/\Q (.int (if j<i then j else i)) H):=by
 intro zB s Y H xs us Q I r h;obtain ⟨i,j,rfl,q⟩:=h;obtain ⟨u,w',rfl,⟨t,rfl⟩,⟨t',rfl⟩⟩:=Ow r;refine min_two_ints (I.ok.hd hc) λh' tk k=>⟨_,H,I.kept k,?_,q⟩;by_cases hj:j<i
 .rw[AB hj,AB hj];exact ⟨_,rfl⟩
 .rw[AE hj,AE hj];exact ⟨_,rfl⟩
def lC:Br X (.type "int") (λxs H Q=>(∃ i,xs=[.int i]/\Q (.int i) H) \/ ∃ k,xs=[.bl k]/\Q (.int (if k then 1 else 0)) H):=by
 intro zB s Y H xs us Q I r h;rcases h with ⟨i,rfl,q⟩|⟨k,rfl,q⟩
 .obtain ⟨u,rfl,t,rfl⟩:=C7 r;exact call_int_int ⟨.int i,H,I,⟨_,rfl⟩,q⟩
 .obtain ⟨u,rfl,r1⟩:=C7 r;cases r1;exact call_int_bool ⟨.int (if k then 1 else 0),H,I.tok _,⟨_,rfl⟩,q⟩
end
structure ObjM (h:Heap) (x dx C:Yt) (mA:Yh):Prop where
 obj:h.get? x=some (PySem.W.instObj C dx)
 ns:h.Ns1 dx mA
 ne:dx≠x
def ZG {h:Heap} {dx:Yt} {mA:Yh} (n:h.Ns1 dx mA):∃ od,h.get? dx=some od /\ ∀ name,PySem.W.lookIn name od=some (mA name):=by
 obtain ⟨o,es,ep,ho,hd,hk,_,hm⟩:=n;refine ⟨o,ho,λname=>?_⟩;have e:=hm name;unfold nsFind findBy at e;rw[<-Array.find?_toList]at e;unfold PySem.W.lookIn;rw[hd];dsimp only;split
 .rename_i y q;rw[q]at e;exact Bf some e
 .rename_i q;rw[q]at e;have a:es.toList.any (·.refKey)=false:=by
   rw[List.any_eq_false];intro y hy;obtain ⟨z,t,hkey⟩:=hk y (Array.mem_toList_iff.mp hy);simp[DictEntry.refKey,hkey]
  have a':¬ es.toList.any (·.refKey)=true:=by rw[a];exact B3
  rw[AE a'];exact Bf some e
def ObjM.look {h:Heap} {x dx C:Yt} {mA:Yh} (I:ObjM h x dx C mA):∃ od,PySem.W.InstAt h x (PySem.W.instObj C dx) C (some od) /\ ∀ name,PySem.W.lookIn name od=some (mA name) :=
 let ⟨od,ho,hl⟩:=ZG I.ns
 ⟨od,⟨I.obj,rfl,rfl,ho⟩,hl⟩
def DL.some_of {v:V} {o:Option Value} (r:DL (some v) o):∃ u,o=some u/\zr v u:=by
 cases o with
 |none=>exact (show False from r).elim
 |some u=>exact ⟨u,rfl,r⟩
section
variable {P:Ym} {w:Yo} {H H':Hp} {h h':Heap} {a C dx:Yt} {fs fs':List (Str × V)}
def T3 (hok:HOk P w H h) (e:H a=some (.ins C dx fs)):∃ mA,ObjM h a dx C mA/\(∀ f,DL (fs.lookup f) (mA f))/\PySem.Within mA (fs.map (·.1))/\fs.length<=1000/\H dx=some (.own a):=by
 obtain ⟨d,z,ne,ob,mA,n,r,q⟩:=(show Ar P w H h a (.ins C dx fs)from hok a _ e);exact ⟨mA,⟨ob,n,ne⟩,r,q,z,d⟩
end
structure Cls (K:Yb) (C:Yt):Prop where
 pg:PySem.W.plainGet K C Str.empty=true
 hd:PySem.W.hasDictIn K C=true
 po:PySem.W.plainOver K C=true
 sa:PySem.W.findIn K (.ref C) "__setattr__" = some (some (.builtin "object.__setattr__"))
def Cls.get {K:Yb} {C:Yt} (c:Cls K C) (f:Str):PySem.W.plainGet K C f=true:=c.pg
section
variable {X:Cx} {zB:Yd} {Y:St} {H:Hp} {s:Yl} {A:Yn} {E:Yc} {Q:Yc} {c:Yu} {b:Bool}
set_option genInjectivity true in
inductive TyOf (K:Yb) (H:Hp):V->Value->Prop where
 |non:TyOf K H .non (.type "NoneType")
 |bl (x:Bool):TyOf K H (.bl x) (.type "bool")
 |int (i:Int):TyOf K H (.int i) (.type "int")
 |str (x:Str):TyOf K H (.str x) (.type "str")
 |flt (x:UInt64):TyOf K H (.flt x) (.type "float")
 |lst {a:Addr} {xs:List V} (e:H a=some (.lst xs)):TyOf K H (.ref a) (.type "list")
 |frz {a:Addr} {o:Obj} {xs:List V} (e:H a=some (.frz o (.lst xs))):TyOf K H (.ref a) (.type "list")
 |tup {a:Addr} {xs:List V} (e:H a=some (.tup xs)):TyOf K H (.ref a) (.type "tuple")
 |dK {a:Addr} {kvs:List (Key × V)} (e:H a=some (.dK kvs)):TyOf K H (.ref a) (.type "dict")
 |dT {a:Addr} {kvs:List (List Key × V)} (e:H a=some (.dT kvs)):TyOf K H (.ref a) (.type "dict")
 |ins {a C dx:Addr} {fs:List (Str × V)} (e:H a=some (.ins C dx fs)) (cl:Cls K C) (ha:PySem.W.findIn K (.ref C) "__class__" = some (some (.builtin "object.__class__")))
   (hn:PySem.W.specialIn K (.builtin "object.__class__") "__get__" = some (some (.builtin "getset_descriptor.__get__"))) (htk:PySem.W.takesIn K (.builtin "object.__class__")=some true)
   (hm:PySem.W.mroIn K C (.type "object")=some true):TyOf K H (.ref a) (.ref C)
def cL {x:V} {u t:Yu} (I:Inv X zB Y H s) (rx:zr x u) (ty:TyOf X.K H x t) (e:PySem.W.kitOne X.K t c=some b) (h:∀ tk,Q (.bool b) { s with toks:=tk }) :
  wpAny (model X.prog X.w) A (call (.builtin "isinstance") [u,c]) Q E s:=by
 cases ty with
 |non=>cases (show u=Value.none from rx);exact Dy PySem.W.kitx_none I.kIn True.intro e (λz=>nomatch z) h
 |bl y=>cases (show u=Value.bool y from rx);exact Dy PySem.W.kitx_bool I.kIn True.intro e (λz=>nomatch z) h
 |int i=>obtain ⟨t,q⟩:=(show ∃ t,u=Value.int i t from rx);cases q;exact Dy PySem.W.kitx_int I.kIn True.intro e (λz=>nomatch z) h
 |str y=>obtain ⟨t,q⟩:=(show ∃ t,u=Value.str y t from rx);cases q;exact Dy PySem.W.kitx_str I.kIn True.intro e (λz=>nomatch z) h
 |flt y=>obtain ⟨t,q⟩:=(show ∃ t,u=Value.float y t from rx);cases q;exact Dy PySem.W.kitx_float I.kIn True.intro e (λz=>nomatch z) h
 | @lst a xs ea=>
  cases (show u=Value.ref a from rx);obtain ⟨_,_,n,_,h1⟩:=(show Ar X.prog X.w H s.heap a (.lst xs)from I.hok a _ ea);exact Dy PySem.W.kitx_list I.kIn ⟨_,h1,rfl⟩ e (λz=>nomatch z) h
 | @frz a ob xs ea=>
  cases (show u=Value.ref a from rx);obtain ⟨_,_,_,n,_,h1⟩:=(show Ar X.prog X.w H s.heap a (.frz ob (.lst xs))from I.hok a _ ea);exact Dy PySem.W.kitx_list I.kIn ⟨_,h1,rfl⟩ e (λz=>nomatch z) h
 | @tup a xs ea=>
  cases (show u=Value.ref a from rx);obtain ⟨_,_,_,p⟩:=(show Ar X.prog X.w H s.heap a (.tup xs)from I.hok a _ ea);obtain ⟨o,h1,h2,_⟩:=p;exact Dy PySem.W.kitx_tuple I.kIn ⟨o,h1,h2⟩ e (λz=>nomatch z) h
 | @dK a kvs ea=>
  cases (show u=Value.ref a from rx);obtain ⟨_,_,vs,_,p⟩:=(show Ar X.prog X.w H s.heap a (.dK kvs)from I.hok a _ ea);obtain ⟨o,es,ep,h1,h2,_⟩:=p;exact Dy PySem.W.kitx_dict I.kIn ⟨o,h1,h2.1⟩ e (λz=>nomatch z) h
 | @dT a kvs ea=>
  cases (show u=Value.ref a from rx);obtain ⟨_,_,xs,_,o,es,ep,h1,h2,_⟩:=(show Ar X.prog X.w H s.heap a (.dT kvs)from I.hok a _ ea);exact Dy PySem.W.kitx_dict I.kIn ⟨o,h1,h2.1⟩ e (λz=>nomatch z) h
 | @ins a C dx fs ea cl ha hn htk hm=>
  cases (show u=Value.ref a from rx);obtain ⟨mA,O,_⟩:=T3 I.hok ea;obtain ⟨od,J,_⟩:=O.look;exact Dy (PySem.W.kitx_own (cl.get _) cl.hd ha hn htk hm) I.kIn J e (λz=>nomatch z) h
end
structure Room (k:Nat) (A:Yn):Prop where
 hd:A.handled=none
 dp:A.depth+3*k+5<recursionLimit
 un:A.units+16*k+200<cLine
def Room.mono {j k:Nat} {A:Yn} (r:Room k A) (h:j<=k):Room j A:=⟨r.hd,by have:=r.dp;omega,by have:=r.un;omega⟩
def Room.deeper {k:Nat} {A:Yn} (r:Room (k+1) A) (env:Env):Room k (A.deeper env) :=
 ⟨r.hd,by have:=r.dp;show A.depth+1+3*k+5<_;omega,by have:=r.un;show A.units+3+16*k+200<_;omega⟩
def Room.depth {k:Nat} {A:Yn} (r:Room k A):A.depth<recursionLimit:=by have:=r.dp;omega
def Room.units {k:Nat} {A:Yn} (r:Room k A):A.units+64<cLine:=by have:=r.un;omega
def Room.units0 {k:Nat} {A:Yn} (r:Room k A):A.units<cLine:=by have:=r.un;omega
noncomputable def mE:TA:=λ_ H Q=>Q [] H
noncomputable def VO (ta:TE) (tr:TA):TA:=λY H Q=>ta Y H λx H1=>tr Y H1 λxs H2=>Q (x::xs) H2
section
variable {X:Cx} {e:Expr} {es:Yi} {te:TE} {t:TA} {pos:Pos}
def Gg:PA X [] mE:=λ_ _ _ _ H Q I h=>Calls.spliced_nil ⟨[],H,I,.nil,h⟩
def FW (ha:PE X e te) (hr:PA X es t) (hs:starEach (e::es) X.env=(false,eval e X.env)::starEach es X.env:=by rfl):PA X (e::es) (VO te t):=by
 intro pos zB s Y H Q I h;rw[hs];refine Fq (thn (ha zB s Y H _ I h) λu s1 ⟨x,H1,I1,r1,q1⟩=>?_);exact thn (hr pos zB s1 Y H1 _ I1 q1) λus s2 ⟨xs,H2,I2,r2,q2⟩=>⟨x::xs,H2,I2,.cons r1 r2,q2⟩
noncomputable def nZ (t:TA):TE:=λY H Q=>t Y H λxs H1=>xs.length<=sizeLine /\ ∀ p,H1 p=none->Q (.ref p) (upd H1 p (.tup xs))
noncomputable def Sy (t:TA):TE:=λY H Q=>t Y H λxs H1=>xs.length<=sizeLine /\ ∀ p,H1 p=none->Q (.ref p) (upd H1 p (.lst xs))
def cD {x1} (h:PA X es t):PE X (.Tuple es x1 pos) (nZ t):=by
 intro zB s Y H Q I hq;refine wpAny_Tuple_spliced (thn (h pos zB s Y H _ I hq) λus s1 ⟨xs,H1,I1,r,z,q⟩=>⟨by rw[<-r.length];exact z,?_⟩);have hf:H1 s1.heap.objs.size=none:=I1.hok.fresh (AF _);refine ⟨.ref s1.heap.objs.size,upd H1 s1.heap.objs.size (.tup xs),I1.laid (t':=s1.toks) (λb u e=>AN _ e) (AF _) ?_,rfl,q _ hf⟩;exact ⟨z,us,r,⟨_,Ad _ rfl,rfl,⟨_,rfl⟩,rfl⟩⟩
def Vq (h:PA X es t):PE X (.List es pos) (Sy t):=by
 intro zB s Y H Q I hq;refine wpAny_List_spliced (thn (h pos zB s Y H _ I hq) λus s1 ⟨xs,H1,I1,r,z,q⟩=>⟨by rw[<-r.length];exact z,?_⟩);have hf:H1 s1.heap.objs.size=none:=I1.hok.fresh (AF _);refine ⟨.ref s1.heap.objs.size,upd H1 s1.heap.objs.size (.lst xs),I1.laid (t':=s1.toks) (λb u e=>AN _ e) (AF _) ?_,rfl,q _ hf⟩;exact ⟨z,us,0,r,Ad _ rfl⟩
end
noncomputable abbrev Sp:=List V->Hp->VK->XK->Prop
noncomputable abbrev CXT:=List Env->Hp->Shared->XK->Value->Shared->Prop
structure Env0 (P:Ym) (w:Yo) (K:Yb) (mg:Yh) (base:Heap) (A:Yn) (outer:List Env) (s:Yl) (H:Hp):Prop where
 frames:A.frames=some outer
 mod:Mod K mg base
 bs:∀ b o,base.get? b=some o->s.heap.get? b=some o/\H b=none
 bsz:base.objs.size<=s.heap.objs.size
 funs:s.heap.FunFrames base outer
 frf:∀ b∈frs outer,H b=none
 hok:HOk P w H s.heap
 bare:AllBare s.gens
def CE (outer:List Env) (P:Ym) (w:Yo) (H:Hp) (s:Yl) (Q:VK) (u:Yu) (s':Yl):Prop :=
 ∃ v H',s'.os=s.os/\AllBare s'.gens/\Un (frs outer) [] H H' s.heap s'.heap/\HOk P w H' s'.heap/\zr v u/\Q v H'
def CR (CX:CXT) (outer:List Env) (P:Ym) (w:Yo) (H:Hp) (s:Yl) (Q:VK) (E:XK) (r:Result) (s':Yl):Prop :=
 match r with
 |.ok (.ret u)=>CE outer P w H s Q u s'
 |.ok _=>False
 |.error e=>CX outer H s E e s'
structure FnOk (P:Ym) (w:Yo) (K:Yb) (mg:Yh) (base:Heap) (CX:CXT) (k:Nat) (f:Yt) (fd:Yz) (ps:Yk) (sp:Sp):Prop where
 len:∀ vs H Q E,sp vs H Q E->vs.length=ps.length
 run:∀ (A:Yn) (outer:List Env) (s:Yl) (H:Hp) (args:Args) (us:Yf) (vs:List V) (Q:VK) (E:XK),Room k A->Env0 P w K mg base A outer s H->BindsTo s fd args (ps.zip us)->zg vs us->sp vs H Q E ->
  codeAny (model P w) A (.call (.ref f) args) (CR CX outer P w H s Q E) s
def FnOk.imp {P:Ym} {w:Yo} {K:Yb} {mg:Yh} {base:Heap} {CX:CXT} {k:Nat} {f:Yt} {fd:Yz} {ps:Yk} {sp sp':Sp} (F:FnOk P w K mg base CX k f fd ps sp)
  (h:∀ vs H Q E,sp' vs H Q E->sp vs H Q E):FnOk P w K mg base CX k f fd ps sp' :=
 ⟨λvs H Q E q=>F.len vs H Q E (h _ _ _ _ q),λA outer s H args us vs Q E hr he hb hv hs=>F.run A outer s H args us vs Q E hr he hb hv (h _ _ _ _ hs)⟩
section
variable {X:Cx} {zB:Yd} {Y:St} {H:Hp} {s s':Yl}
def Inv.env0 (I:Inv X zB Y H s):Env0 X.prog X.w X.K X.mg X.base X.A X.stack s H :=
 ⟨I.ok.frames,I.ok.mod,I.bs,AW I.ok.bsz I.sz,I.stack,I.stkFree,I.hok,I.bare⟩
def Inv.after {Q:VK} {u:Yu} (I:Inv X zB Y H s) (h:CE X.stack X.prog X.w H s Q u s'):EP X zB Y Q u s':=by
 obtain ⟨v,H',os,bare,un,hok,r,q⟩:=h;obtain ⟨hh,g,d,t,os'⟩:=s';obtain rfl:os'=s.os:=os;exact ⟨v,H',I.call (h':=hh) (g':=g) (d':=d) (t':=t) (ch:=[]) un hok bare (λb z=>absurd z (by simp)),r,q⟩
end
noncomputable def XQ (sp:Sp) (dvs:List V) (E:XK) (t:TA):TE:=λY H Q=>t Y H λvs H1=>sp (vs++dvs) H1 Q E
def Gy (K:Yb) (fd:Yz) (ps:Yk) (ds:Yf):Prop :=
 ∀ (s:Yl) (us:Yf),K.In s.heap->(us++ds).length=ps.length->BindsTo s fd ⟨us,[]⟩ (ps.zip (us++ds))
def Gy.all {K:Yb} {fd:Yz} {ps:Yk} (h:∀ us:List Value,us.length=ps.length->bindArgs fd ⟨us,[]⟩=pure (ps.zip us)):Gy K fd ps []:=λs us _ hl=>by
 rw[Au]at hl ⊢;exact .of_eq (h us hl)
def NG (CX:CXT) (X:Cx) (E:XK):Prop:=∀ (zB:Yd) (Y:St) (H:Hp) (s:Yl) (e:Yu) (s':Yl),Inv X zB Y H s->CX X.stack H s E e s'->X.xe e s'
section
variable {X:Cx} {CX:CXT} {k:Nat} {f C:Yt} {fd:Yz} {ps:Yk} {sp:Sp} {dvs:List V} {ds:Yf} {E:XK} {x m:Str} {p pos apos:Pos} {e o:Expr} {es:Yi} {ta:TE} {t:TA}
def aI {zB:Yd} {Y:St} {H:Hp} {s:Yl} {Q:VK} {us:Yf} {vs:List V} (F:FnOk X.prog X.w X.K X.mg X.base CX k f fd ps sp) (hr:Room k X.A) (hb:Gy X.K fd ps ds) (hd:zg dvs ds) (hx:NG CX X E)
  (I:Inv X zB Y H s) (r:zg vs us) (h:sp (vs++dvs) H Q E):wpAny (model X.prog X.w) X.A (call (.ref f) us) (EP X zB Y Q) X.xe s:=by
 have r2:zg (vs++dvs) (us++ds):=r.append hd;have hl:(us++ds).length=ps.length:=by rw[<-r2.length];exact F.len _ _ _ _ h
 refine wpAny_call (codeAny_mono (F.run X.A X.stack s H ⟨us,[]⟩ (us++ds) (vs++dvs) Q E hr I.env0 (hb s us I.kIn hl) r2 h) λr s' hq=>?_);cases r with
 |error e=>exact hx zB Y H s e s' I hq
 |ok fl=>
  cases fl with
  |ret u=>exact I.after hq
  |next=>exact False.elim hq
  |brk=>exact False.elim hq
  |cont=>exact False.elim hq
def V1 (F:FnOk X.prog X.w X.K X.mg X.base CX k f fd ps sp) (hr:Room k X.A) (hg:Gl X x) (hm:X.mg x=some (.ref f)) (hk:PySem.W.keepIn X.K (.ref f)=true) (hb:Gy X.K fd ps ds) (hd:zg dvs ds) (hx:NG CX X E)
  (ha:PA X (e::es) t) (hdb:(x==("__debug__" : Str))=false:=by decide) (he:starEach (e::es) X.env=(false,eval e X.env)::starEach es X.env:=by rfl) (hpl:(backTo pos (starEach es X.env)).any (·.1)=false:=by rfl) :
  PE X (.Call (.Name x p) (e::es) [] pos) (XQ sp dvs E t):=by
 intro zB s Y H Q I h;refine wpAny_Call_Name_kw (UX I hg hm ?_ hdb);refine PySem.W.callWith_K (h₀:=X.base) I.ok.mod.kin hk (thn (ha pos zB s Y H _ I h) λus s1 ⟨vs,H1,I1,r,q⟩=>⟨I1.kIn,?_⟩) he hpl;exact aI F hr hb hd hx I1 r q
end
structure FnScope (N P:Yk) (sc:Y0):Prop where
 kind:sc.kind=.function
 co:sc.isCoroutine=false
 gen:sc.isGenerator=false
 nd:N.Nodup
 pre:N.take P.length=P
 par:∀ x∈P,sc.names.lookup x=some .local\/sc.names.lookup x=some .cell
 nofree:∀ y∈sc.names,y.2≠.free
theorem Q5 {kindOf:Str->Option NameKind} {x:Str}:∀ {binds:List (Str × Value)} {m:Yh},(∀ v,(x,v)∉binds)->bindL kindOf binds m x=m x
 |[],_,_=>rfl
 | (n,v)::r,m,h=>by
  unfold bindL;rw[Q5 λw hw=>h w (Ai _ hw)];split
  .have:x≠n:=by rintro rfl;exact h v Ae
   simp[this]
  .rfl
theorem Ox {kindOf:Str->Option NameKind} {x:Str}:∀ {binds:List (Str × Value)} {m:Yh},(∀ v,(x,v)∉binds)->bindC kindOf binds m x=m x
 |[],_,_=>rfl
 | (n,v)::r,m,h=>by
  unfold bindC;rw[Ox λw hw=>h w (Ai _ hw)];split
  .rfl
  .have:x≠n:=by rintro rfl;exact h v Ae
   simp[this]
theorem Qk {kindOf:Str->Option NameKind} {x:Str} {v:Yu}:∀ {P:Yk} {vs:Yf} {i:Nat} {m:Yh},P.Nodup->P[i]?=some x->vs[i]?=some v->kindOf x=some .local ->
  bindL kindOf (P.zip vs) m x=some v
 |[],_,_,_,_,h,_,_=>by simp at h
 |_::_,[],_,_,_,_,h,_=>by simp at h
 |p::P,w::vs,0,m,nd,h1,h2,hk=>by
  simp at h1 h2;subst h1;subst h2;show bindL kindOf ((p,w)::P.zip vs) m p=_;unfold bindL;rw[Q5 λv hv=>(List.nodup_cons.mp nd).1 (List.of_mem_zip hv).1,AB hk];simp
 |p::P,w::vs,i+1,m,nd,h1,h2,hk=>by
  unfold bindL;exact Qk (i:=i) (List.nodup_cons.mp nd).2 (by simpa using h1) (by simpa using h2) hk
theorem N6 {kindOf:Str->Option NameKind} {x:Str} {v:Yu}:∀ {P:Yk} {vs:Yf} {i:Nat} {m:Yh},P.Nodup->P[i]?=some x->vs[i]?=some v->kindOf x≠some .local ->
  bindC kindOf (P.zip vs) m x=some v
 |[],_,_,_,_,h,_,_=>by simp at h
 |_::_,[],_,_,_,_,h,_=>by simp at h
 |p::P,w::vs,0,m,nd,h1,h2,hk=>by
  simp at h1 h2;subst h1;subst h2;show bindC kindOf ((p,w)::P.zip vs) m p=_;unfold bindC;rw[Ox λv hv=>(List.nodup_cons.mp nd).1 (List.of_mem_zip hv).1,AE hk];simp
 |p::P,w::vs,i+1,m,nd,h1,h2,hk=>by
  unfold bindC;exact N6 (i:=i) (List.nodup_cons.mp nd).2 (by simpa using h1) (by simpa using h2) hk
noncomputable def EC (N:Yk) (vs:List V):St:=vs.map some++List.replicate (N.length-vs.length) none
noncomputable def F8 (CX:CXT) (P:Ym) (w:Yo) (K:Yb) (mg:Yh) (base:Heap) (N:Yk) (qual:Str) (scope:Y0) (f:Yt) (cd:Yu) (A:Yn) (outer:List Env) (s:Yl) (H:Hp) (E:XK):Cx where
 prog:=P
 w:=w
 K:=K
 mg:=mg
 base:=base
 A:=A.deeper (envOfC qual scope s.heap.objs.size f cd)
 N:=N
 s₀:=s
 H₀:=H
 env:=envOfC qual scope s.heap.objs.size f cd
 outer:=outer
 stack:=envOfC qual scope s.heap.objs.size f cd::outer
 ex:=[]
 calm:=true
 fn:=λ_=>true
 pn:=[]
 xe:=λe s'=>wpAny (model P w) (A.deeper (envOfC qual scope s.heap.objs.size f cd)) (leaving (envOfC qual scope s.heap.objs.size f cd) e) (λ_ s''=>CX outer H s E e s'') (λe' s''=>CX outer H s E e' s'') s'
def K3 {sc:Y0} {n:Nat} {x:Str} (h:sc.names.lookup x=some .cell):∃ c,(cellsFrom n sc.names []).lookup x=some c:=by
 have q:=PySem.W.cellsFrom_some sc.names n [] (.inl h);exact Option.isSome_iff_exists.mp q
def c6 {CX:CXT} {P:Ym} {w:Yo} {K:Yb} {mg:Yh} {base:Heap} {N ps:Yk} {qual:Str} {scope:Y0} {f:Yt} {cd:Yu} {A:Yn} {outer:List Env} {s s1:Yl} {H:Hp} {E:XK} {us:Yf} {vs:List V}
  (S:FnScope N ps scope) (hd:A.handled=none) (e0:Env0 P w K mg base A outer s H) (hl:vs.length=ps.length) (r:zg vs us)
  (x:InCallC s s.heap.objs.size (bindL (envOfC qual scope s.heap.objs.size f cd).kindOf (ps.zip us) λ_=>none) (cellsFrom (s.heap.objs.size+1) scope.names []) (bindC (envOfC qual scope s.heap.objs.size f cd).kindOf (ps.zip us) λ_=>none) s1) :
  Inv (F8 CX P w K mg base N qual scope f cd A outer s H E) [] (EC N vs) H s1:=by
 have hpl:ps.length<=N.length:=by have:=Bf List.length S.pre;rw[EJ]at this;omega
 obtain ⟨h1,tk,rfl,hk⟩:=x.done;have noA:∀ b:Addr,b∉(F8 CX P w K mg base N qual scope f cd A outer s H E).ex:=λb z=>absurd (show b∈([]:List Addr)from z) (by simp)
 refine ⟨⟨e0.mod,S.kind,rfl,rfl,AF _,λy z c h1 h2=>?_,λy hy=>?_,λy c _ h=>?_,λ_=>hd,Around.frames_deeper e0.frames,.inr ⟨rfl,rfl⟩,λb z=>absurd z (noA b),e0.bs,e0.bsz,λb _ _=>noA b,λb z=>absurd z (noA b),e0.funs,e0.frf⟩,
  rfl,e0.bare,Un.kept hk,⟨_,x.toInCall.ns,λi y v h1 h2 h3=>?_⟩,λy c h=>⟨_,x.cell y c h⟩,e0.hok.fresh (AF _),λy c h=>?_,λp hp=>absurd (show p∈([]:List (Addr × Obj))from hp) (by simp),e0.hok.kept hk,?_⟩
 .exact name_of_addr x.apart (DJ h1) (DJ h2)
 .have hy:scope.names.lookup y=some .cell\/scope.names.lookup y=some .free:=hy;rcases hy with hy|hy
  .exact K3 hy
  .exact absurd rfl (S.nofree _ (DJ hy))
 .exact Nat.le_of_lt (x.above y c (DJ h))
 .have hi:i<vs.length:=by
   unfold EC at h2;by_cases hi:i<vs.length
   .exact hi
   .rw[E2 (by simpa using hi)]at h2;rw[List.getElem?_replicate]at h2;split at h2 <;> cases h2
  have ha:vs[i]?=some v:=by
   unfold EC at h2;rw[AJ (by simpa using hi),Bn]at h2;cases e:vs[i]? with
   |none=>rw[e]at h2;cases h2
   |some a=>rw[e]at h2;cases h2;rfl
  obtain ⟨u,hu,rv⟩:=r.get ha;have hp:ps[i]?=some y:=by
   rw[<-S.pre,List.getElem?_take_of_lt (by omega)];exact h1
  have ndP:ps.Nodup:=by rw[<-S.pre];exact S.nd.sublist (List.take_sublist _ _)
  refine ⟨u,rv,?_⟩;rcases S.par y (List.mem_of_getElem? hp)with k|k
  .exact .inl ⟨k,Qk ndP hp hu k⟩
  .obtain ⟨c,e⟩:=K3 (n:=s.heap.objs.size+1) k;refine .inr ⟨.inl k,c,e,?_⟩;have q:=x.cell y c e;rw[N6 ndP hp hu (by show scope.names.lookup y≠_;rw[k];decide)]at q;exact q
 .exact e0.hok.fresh (Nat.le_of_lt (x.above y c (DJ h)))
 .unfold EC;show _=N.length;rw[AU,AH,List.length_replicate];omega
def cS {CX:CXT} {P:Ym} {w:Yo} {K:Yb} {mg:Yh} {base:Heap} {k:Nat} {f:Yt} {name qual:Str} {params:Arguments} {body:Yy} {scope:Y0} {dV kV doc pm cdv ct oc:Yu} {an od:Option Addr}
  {osl:Array (Option Value)} {N ps:Yk} {sp:Sp} (lk:K.lookup f=some ⟨oc,od,.func (PySem.W.fnOf name qual params body scope dV kV doc pm an cdv ct),osl⟩) (hcd:PySem.W.codeIn K cdv qual=true) (S:FnScope N ps scope)
  (len:∀ vs H Q E,sp vs H Q E->vs.length=ps.length)
  (hbody:∀ (A:Yn) (outer:List Env) (s:Yl) (H:Hp) (vs:List V) (Q:VK) (E:XK),Room k (A.deeper (envOfC qual scope s.heap.objs.size f cdv))->sp vs H Q E ->
   ∃ t,PSs (F8 CX P w K mg base N qual scope f cdv A outer s H E) body t/\t { nx:=λ_ H'=>Q .non H',rt:=Q } (EC N vs) H) :
  FnOk P w K mg base CX (k+1) f (PySem.W.fnOf name qual params body scope dV kV doc pm an cdv ct) ps sp:=by
 refine ⟨len,λA outer s H args us vs Q E hr e0 hb r hsp=>?_⟩;have hl:=len _ _ _ _ hsp;have KX:K.In s.heap:=e0.mod.kin.keeps λb o e=>(e0.bs b o e).1;have lim:s.heap.NoLimit:=e0.mod.nolimit.keeps λb o e=>(e0.bs b o e).1;have hkind:∀ y∈ps.zip us,scope.names.lookup y.1=some .local\/(scope.names.lookup y.1=some .cell/\((cellsFrom (s.heap.objs.size+1) scope.names []).lookup y.1).isSome=true):=λ⟨n,v⟩ hy=>by
  rcases S.par n (List.of_mem_zip hy).1 with q|q
  .exact .inl q
  .exact .inr ⟨q,PySem.W.cellsFrom_some _ _ _ (.inl q)⟩
 refine codeAny_call_function hr.depth (KX _ _ lk) rfl S.co S.gen rfl (PySem.W.codeRec_of KX hcd) (hb _ _ _ _ ?_);refine wpAny_newFunctionEnv_cells S.kind hkind λenv he s1 x=>?_;subst he;refine ⟨lim.keeps x.toInCall.keep,codeAny_func ?_⟩;obtain ⟨t,ht,hq⟩:=hbody A outer s H vs Q E (hr.deeper _) hsp;have I:Inv (F8 CX P w K mg base N qual scope f cdv A outer s H E) [] (EC N vs) H s1:=c6 S hr.hd e0 hl r x;refine AS (ht [] s1 (EC N vs) H _ I hq) (λfl s' hs=>?_) λe s' hs=>hs;have fin:∀ {Y':St} {H':Hp} {v:V} {u:Yu},Inv (F8 CX P w K mg base N qual scope f cdv A outer s H E) [] Y' H' s'->zr v u->Q v H'->CE outer P w H s Q u s' :=
  λ{Y' H' v u} J rv q=>⟨v,H',J.os,J.bare,J.base,J.hok,rv,q⟩
 cases fl with
 |ret u=>
  obtain ⟨v,Y',H',J,rv,q⟩:=hs;exact fin J rv q
 |next=>
  obtain ⟨Y',H',J,q⟩:=hs;exact fin (v:=V.non) (u:=Value.none) J rfl q
 |brk=>
  obtain ⟨_,_,_,q⟩:=hs;exact False.elim q
 |cont=>
  obtain ⟨_,_,_,q⟩:=hs;exact False.elim q
section
variable {X:Cx} {x:Str} {p pos:Pos} {e:Expr} {es:Yi} {t:TA} {id T:String} {r:List V->Hp->VK->Prop}
noncomputable def tCB (r:List V->Hp->VK->Prop) (t:TA):TE:=λY H Q=>t Y H λvs H1=>r vs H1 Q
def Nu (hc:Br X (.builtin id) r) (hg:Gl X x) (hm:X.mg x=none) (hv:bootBuiltins x=some (.builtin id)) (ha:PA X (e::es) t) (hn:x ≠ "__name__" := by decide) (hdb:(x==("__debug__" : Str))=false:=by decide)
  (he:starEach (e::es) X.env=(false,eval e X.env)::starEach es X.env:=by rfl) (hpl:(backTo pos (starEach es X.env)).any (·.1)=false:=by rfl):PE X (.Call (.Name x p) (e::es) [] pos) (tCB r t):=by
 intro zB s Y H Q I h;refine wpAny_Call_Name_kw (Fo I hg hm hv ?_ hn hdb);exact PyProof.Rows.callWith_builtin1 (thn (ha pos zB s Y H _ I h) λus s1 ⟨vs,H1,I1,r1,q1⟩=>hc zB s1 Y H1 vs us Q I1 r1 q1) he hpl
def Iz (hc:Br X (.type T) r) (hg:Gl X x) (hm:X.mg x=none) (hv:bootBuiltins x=some (.type T)) (ha:PA X (e::es) t) (hn:x ≠ "__name__" := by decide) (hdb:(x==("__debug__" : Str))=false:=by decide)
  (he:starEach (e::es) X.env=(false,eval e X.env)::starEach es X.env:=by rfl) (hpl:(backTo pos (starEach es X.env)).any (·.1)=false:=by rfl):PE X (.Call (.Name x p) (e::es) [] pos) (tCB r t):=by
 intro zB s Y H Q I h;refine wpAny_Call_Name_kw (Fo I hg hm hv ?_ hn hdb);exact PyProof.Rows.callWith_type1 (thn (ha pos zB s Y H _ I h) λus s1 ⟨vs,H1,I1,r1,q1⟩=>hc zB s1 Y H1 vs us Q I1 r1 q1) he hpl
end
end L2
namespace HT
open PySem PyProof.Rows
section
variable {prog:Ym} {w:Yo} {A:Yn} {E:Yc} {s:Yl}
def UL {t b:Yt} {vs ws:Yf} {Q:Yc} (ht:IsTup s.heap t vs.toArray) (hb:IsTup s.heap b ws.toArray) (hv:vs≠[])
  (h1:ws=[]->Q (.ref t) s) (h2:ws≠[]->Q (.ref s.heap.objs.size) { s with heap:=s.heap.push { cls:=.type "tuple", data:=.seq (vs++ws).toArray } })
  (hsz:vs.length+ws.length<=sizeLine):wpAny (model prog w) A (binaryOp .Add (.ref t) (.ref b)) Q E s:=by
 obtain ⟨⟨cls,dd,data,sl⟩,ho,hc,n,hd⟩:=id ht;obtain ⟨⟨cls2,dd2,data2,sl2⟩,ho2,hc2,n2,hd2⟩:=id hb;simp only at hc hd hc2 hd2;subst hc hd hc2 hd2;have e:vs.toArray++ws.toArray=(vs++ws).toArray:=by simp
 by_cases hw:ws=[]
 .exact concat_meets ⟨_,ho,rfl⟩ ⟨_,ho2,rfl⟩ noFill_tuple_add seq_tuple_add PySem.F.slot_tuple_add PySem.F.entry_tuple_add (PySem.F.args_tuple_add_2 _ _)
   (tuple_addW1 t b vs.toArray ws.toArray n n2 dd dd2 sl sl2 (by simpa using hv) (by simp[hw])) ⟨ho,ho2,h1 hw⟩
 .refine concat_meets ⟨_,ho,rfl⟩ ⟨_,ho2,rfl⟩ noFill_tuple_add seq_tuple_add PySem.F.slot_tuple_add PySem.F.entry_tuple_add (PySem.F.args_tuple_add_2 _ _)
   (tuple_addW2 t b vs.toArray ws.toArray n n2 dd dd2 sl sl2 (by simpa using hv) (by simpa using hw) (by rw[AQ,AQ];exact hsz)) ⟨ho,ho2,?_⟩
  rw[e];exact h2 hw
noncomputable def sIx (n d:Nat):Option Int->Nat
 |none=>d
 |some v=>if v<0 then (v+(n:Int)).toNat else min v.toNat n
def Qh (n d k:Nat):sIx n d (some (k:Int))=min k n:=by
 show (if (k:Int)<0 then ((k:Int)+(n:Int)).toNat else min (k:Int).toNat n)=min k n;rw[AE (by omega),Int.toNat_natCast]
def h9 (n d:Nat) (hd:d<=n) (o:Ys):sIx n d o<=n:=by
 cases o with
 |none=>exact hd
 |some v=>
  show (if v<0 then (v+(n:Int)).toNat else min v.toNat n)<=n;by_cases hv:v<0
  .rw[AB hv];omega
  .rw[AE hv];exact Nat.min_le_right _ _
def RS (v:Int) (n d:Nat):(if v<0 then max (v+(n:Int)) 0 else min v (n:Int))=((sIx n d (some v):Nat):Int):=by
 show (if v<0 then max (v+(n:Int)) 0 else min v (n:Int))=(((if v<0 then (v+(n:Int)).toNat else min v.toNat n):Nat):Int);by_cases hv:v<0
 .simp only[AB hv];omega
 .simp only[AE hv];omega
def ZH (lo hi:Ys) (n:Nat):Builtin.Slice.sliceAdjust lo hi 1 (n:Int)=(((sIx n 0 lo:Nat):Int),((sIx n n hi:Nat):Int)):=by
 have h1:¬ ((1:Int)<0):=by omega
 unfold Builtin.Slice.sliceAdjust;simp only[h1,if_false];refine Prod.ext ?_ ?_
 .cases lo with
  |none=>rfl
  |some v=>exact RS v n 0
 .cases hi with
  |none=>rfl
  |some v=>exact RS v n n
def YS (i j:Nat):Builtin.Slice.slicePlaces (i:Int) (j:Int) 1=j-i:=by
 unfold Builtin.Slice.slicePlaces;have h1:(1:Int)>0:=by omega
 simp only[h1,if_true,Int.ediv_one];split <;> omega
def Oi {v:Yu} {o:Ys} {Q:Option Int->Shared->Prop} (p:IsPart v o) (h:Q o s):wpAny (model prog w) A (Builtin.Slice.slicePartIndex v) Q E s:=by
 cases p with
 |none=>exact slicePart_none h
 |int i t=>exact slicePart_int h
def OX {sl:Yt} {vl vu:Yu} {lo hi:Ys} {n:Nat} {Q:Int × Int × Nat->Shared->Prop} (hs:s.heap.IsSliceOf sl vl vu .none) (pl:IsPart vl lo) (pu:IsPart vu hi)
  (h:Q (((sIx n 0 lo:Nat):Int),1,sIx n n hi-sIx n 0 lo) s):wpAny (model prog w) A (Builtin.Slice.sliceApplied (.ref sl) (pure (n:Int))) Q E s:=by
 obtain ⟨os,hos,hcs,hds⟩:=id hs;unfold Builtin.Slice.sliceApplied Builtin.Slice.sliceFields;refine AA (AA (B2 hos hds (x:=vl) rfl (AA (B2 hos hds (x:=vu) rfl (AA (B2 hos hds (x:=.none) rfl (AD ?_)))))));refine AA (slicePart_none ?_);rw[AE (by decide)];refine AA (Oi pl (AA (Oi pu (AA (AD ?_)))));show wpAny _ _ (match Builtin.Slice.sliceAdjust lo hi 1 (n:Int) with|(lo,hi)=>pure (lo,(1:Int),Builtin.Slice.slicePlaces lo hi 1)) _ _ s;rw[ZH lo hi n];show wpAny _ _ (pure (((sIx n 0 lo:Nat):Int),(1:Int),Builtin.Slice.slicePlaces ((sIx n 0 lo:Nat):Int) ((sIx n n hi:Nat):Int) 1)) _ _ s;rw[YS];exact AD h
def ZD (xs:Yp) (i k:Nat):((List.range k).filterMap λ(m:Nat)=>xs[((i:Int)+(m:Int)*1).toNat]?).toArray=((xs.toList.drop i).take k).toArray:=by
 have e:(λ(m:Nat)=>xs[((i:Int)+(m:Int)*1).toNat]?)=λm=>xs[i+m]?:=by
  funext m;have:((i:Int)+(m:Int)*1).toNat=i+m:=by omega
  rw[this]
 rw[e];have:=pick_run xs i k;rw[List.filterMap_map]at this;have e2:((λx=>xs[x]?)∘λx=>i+x)=λm=>xs[i+m]?:=rfl;rw[e2]at this;rw[this]
def V9 {t sl:Yt} {items:Yp} {vl vu:Yu} {lo hi:Ys} {Q:Yc} (ht:IsTup s.heap t items) (hs:s.heap.IsSliceOf sl vl vu .none) (pl:IsPart vl lo) (pu:IsPart vu hi)
  (hw:¬ (sIx items.size 0 lo=0/\sIx items.size items.size hi=items.size))
  (h:Q (.ref s.heap.objs.size) { s with heap:=s.heap.push { cls:=.type "tuple", data:=.seq ((items.toList.drop (sIx items.size 0 lo)).take (sIx items.size items.size hi-sIx items.size 0 lo)).toArray } })
  (hsz:items.size<=sizeLine):wpAny (model prog w) A (getItem (.ref t) (.ref sl)) Q E s:=by
 have htake:sizeOk (.seq ((items.toList.drop (sIx items.size 0 lo)).take (sIx items.size items.size hi-sIx items.size 0 lo)).toArray):=by
  show ((items.toList.drop (sIx items.size 0 lo)).take (sIx items.size items.size hi-sIx items.size 0 lo)).toArray.size<=sizeLine;rw[AQ,EJ,D7,Ct];omega
 have hj:sIx items.size items.size hi<=items.size:=h9 _ _ (AF _) hi;obtain ⟨os,hos,hcs,hds⟩:=id hs;have hTs:s.TypeIs (.ref sl) "slice" := ⟨os,hos,hcs⟩;unfold getItem;try with_reducible refine CF ?_
 first|refine AA (AD ?_)|skip
 refine AA (wpAny_sequenceKey ht.typeIs (by decide) ?_)
 refine AA (Dq (name:=Str.ofString "__getitem__") ht.typeIs Em
  (Cg Em ht.typeIs entry_tuple_getitem ?_ (args_tuple_getitem _ _)))
 show wpAny _ _ (Builtin.Tuple.tupleItemsOf (.ref t) >>= _) _ _ s;refine AA (tupleItemsOf_ ht ?_);refine AA (wpAny_typeOf hTs ?_);rw[AB (by decide)];refine AA (OX hs pl pu ?_);have hno:¬ ((((sIx items.size 0 lo:Nat):Int)==0&&(1:Int)==1&&(sIx items.size items.size hi-sIx items.size 0 lo)==items.size)=true):=by
  intro q;rw[BR,BR]at q;have q1:((sIx items.size 0 lo:Nat):Int)=0:=eq_of_beq q.1.1;have q2:sIx items.size items.size hi-sIx items.size 0 lo=items.size:=eq_of_beq q.2;exact hw ⟨by omega,by omega⟩
 show wpAny _ _ (if (((sIx items.size 0 lo:Nat):Int)==0&&(1:Int)==1&&(sIx items.size items.size hi-sIx items.size 0 lo)==items.size)=true then _ else _) _ _ s;rw[AE hno,ZD]
 first
  |exact AA (m:=Builtin.Tuple.tupleExact _) (Ba (AD ⟨_,rfl,AD h⟩) htake)
  |exact AA (m:=Builtin.Tuple.tupleExact _) (Ba (AA (AD (AD ⟨_,rfl,AD h⟩))) htake)
  |exact AA (AA (m:=Builtin.Tuple.tupleExact _) (Ba (AD (AD ⟨_,rfl,AD h⟩)) htake))
  |exact AA (AA (m:=Builtin.Tuple.tupleExact _) (Ba (AD ⟨_,rfl,AD h⟩) htake))
end
end HT
namespace L2
noncomputable abbrev TO:=St->Hp->(Option Int->Hp->Prop)->Prop
def PO (X:Cx) (e:Option Expr) (t:TO):Prop :=
 ∀ (zB:Yd) (s:Yl) (Y:St) (H:Hp) (Q:Option Int->Hp->Prop),Inv X zB Y H s->t Y H Q ->
  wpAny (model X.prog X.w) X.A (evalPart e X.env) (λu s'=>∃ o H',Inv X zB Y H' s'/\IsPart u o/\Q o H') X.xe s
noncomputable def dW:TO:=λ_ H Q=>Q none H
noncomputable def aW (t:TE):TO:=λY H Q=>t Y H λx H1=>∃ i,x=.int i/\Q (some i) H1
section
variable {X:Cx} {e:Expr} {te:TE} {lo hi:Option Expr} {tl th:TO} {pos p2:Pos}
def Vi:PO X none dW:=by
 intro zB s Y H Q I h;rw[evalPart_none];exact AD ⟨none,H,I,.none,h⟩
def So (h:PE X e te):PO X (some e) (aW te):=by
 intro zB s Y H Q I hw;rw[evalPart_some];refine thn (h zB s Y H _ I hw) λu s1 ⟨x,H1,I1,r1,q1⟩=>?_;obtain ⟨i,rfl,q⟩:=q1;obtain ⟨t,rfl⟩:=r1;exact ⟨some i,H1,I1,.int i t,q⟩
def SlR (X:Cx) (r:V->Option Int->Option Int->Hp->VK->Prop):Prop :=
 ∀ (zB:Yd) (s:Yl) (Y:St) (H:Hp) (x:V) (v vl vu:Yu) (lo hi:Ys) (sl:Yt) (Q:VK),Inv X zB Y H s->zr x v->s.heap.IsSliceOf sl vl vu .none->IsPart vl lo->IsPart vu hi->r x lo hi H Q ->
  ∃ T id,typeLookup (.type T) "__getitem__" = pure (some (.builtin id))/\s.TypeIs v T/\wpAny (model X.prog X.w) X.A (getItem v (.ref sl)) (EP X zB Y Q) X.xe s
def SlR.or {r r':V->Option Int->Option Int->Hp->VK->Prop} (h:SlR X r) (h':SlR X r'):SlR X (λx lo hi H Q=>r x lo hi H Q\/r' x lo hi H Q):=by
 intro zB s Y H x v vl vu lo hi sl Q I rx hs pl pu q;rcases q with q|q
 .exact h zB s Y H x v vl vu lo hi sl Q I rx hs pl pu q
 .exact h' zB s Y H x v vl vu lo hi sl Q I rx hs pl pu q
noncomputable def tSl (r:V->Option Int->Option Int->Hp->VK->Prop) (te:TE) (tl th:TO):TE:=λY H Q=>te Y H λx H1=>tl Y H1 λl H2=>th Y H2 λu H3=>r x l u H3 Q
def j8 {r:V->Option Int->Option Int->Hp->VK->Prop} (hr:SlR X r) (he:PE X e te) (hl:PO X lo tl) (hu:PO X hi th):PE X (.Subscript e (.Slice lo hi none p2) pos) (tSl r te tl th):=by
 intro zB s Y H Q I h;refine Subscript_ (thn (he zB s Y H _ I h) λv s1 ⟨x,H1,I1,r1,q1⟩=>?_);refine wpAny_Slice (thn (hl zB s1 Y H1 _ I1 q1) λvl s2 ⟨l,H2,I2,pl,q2⟩=>thn (hu zB s2 Y H2 _ I2 q2) λvu s3 ⟨u,H3,I3,pu,q3⟩=>?_);rw[evalPart_none];refine AD ?_;have I4:Inv X zB Y H3 { s3 with heap:=s3.heap.push { cls:=.type "slice", data:=.fields #[vl,vu,.none] } }:=I3.kept (t':=s3.toks) λb ob q=>AN _ q;obtain ⟨T,id,hT,ht,hg⟩:=hr zB { s3 with heap:=s3.heap.push { cls:=.type "slice", data:=.fields #[vl,vu,.none] } } Y H3 x v vl vu l u s3.heap.objs.size Q I4 r1 (Heap.IsSliceOf.new ..) pl pu q3;exact tail_any (ops:=[.ref s3.heap.objs.size,v]) ht hT hg (by with_unfolding_all rfl)
noncomputable def Fb (xs:List V) (lo hi:Ys):List V:=(xs.drop (HT.sIx xs.length 0 lo)).take (HT.sIx xs.length xs.length hi-HT.sIx xs.length 0 lo)
def OO (xs:List V) (lo hi:Ys):(Fb xs lo hi).length<=xs.length:=by
 unfold Fb;rw[EJ,D7];omega
def cP (K:Yb):V->Option Int->Option Int->Hp->VK->Prop:=λx lo hi H Q=>∃ a xs,x=.ref a/\SqT K H a xs /\
 ¬ (HT.sIx xs.length 0 lo=0/\HT.sIx xs.length xs.length hi=xs.length) /\ ∀ p,H p=none->Q (.ref p) (upd H p (.tup (Fb xs lo hi)))
def S2:SlR X (cP X.K):=by
 intro zB s Y H x v vl vu lo hi sl Q I rx hs pl pu h;obtain ⟨a,xs,rfl,hx,hw,q⟩:=h;cases rx;obtain ⟨its,r,ht,hz⟩:=I.tuple hx;have hlen:its.toArray.size=xs.length:=by rw[AQ];exact r.length.symm
 refine ⟨"tuple", _,Em.lookup,ht.typeIs,?_⟩;refine HT.V9 ht hs pl pu (by rw[hlen];exact hw) ?_ (by rw[hlen];exact hz);rw[hlen];refine ⟨.ref s.heap.objs.size,_,I.laid (t':=s.toks) (o:=.tup (Fb xs lo hi)) (λb ob q=>AN _ q) (AF _) ?_,rfl,q _ (I.hok.fresh (AF _))⟩;exact ⟨AW (OO xs lo hi) hz,_,(r.drop (HT.sIx xs.length 0 lo)).take (HT.sIx xs.length xs.length hi-HT.sIx xs.length 0 lo),Dm.new _ _⟩
noncomputable def Rc (K:Yb):R2:=λx y H Q=>∃ a b xs ys,x=.ref a/\y=.ref b/\SqT K H a xs/\SqT K H b ys/\xs≠[]/\xs.length+ys.length<=sizeLine /\
 (ys=[]->Q (.ref a) H)/\(ys≠[] -> ∀ p,H p=none->Q (.ref p) (upd H p (.tup (xs++ys))))
def zg.nil_iff {xs:List V} {us:Yf} (r:zg xs us):us=[] ↔ xs=[]:=by
 cases r with
 |nil=>simp
 |cons _ _=>simp
def WU:OpR X (binaryOp .Add) (Rc X.K):=by
 intro zB s Y H x y v u Q I rx ry h;obtain ⟨a,b,xs,ys,rfl,rfl,ha,hb,hx,hz,q1,q2⟩:=h;cases rx;cases ry;obtain ⟨its,r1,p1,_⟩:=I.tuple ha;obtain ⟨its2,r2,p2,_⟩:=I.tuple hb;refine HT.UL p1 p2 (λz=>hx (r1.nil_iff.mp z)) (λz=>⟨.ref a,H,I,rfl,q1 (r2.nil_iff.mp z)⟩) (λz=>?_) (by rw[<-r1.length,<-r2.length];exact hz);refine ⟨.ref s.heap.objs.size,_,I.laid (t':=s.toks) (o:=.tup (xs++ys)) (λb ob q=>AN _ q) (AF _) ?_,rfl,q2 (λw=>z (r2.nil_iff.mpr w)) _ (I.hok.fresh (AF _))⟩;exact ⟨by rw[AU];exact hz,_,r1.append r2,Dm.new _ _⟩
end
noncomputable def ixN (n:Nat) (i:Int):Option Nat:=if 0<=i then (if i<n then some i.toNat else none) else if -(n:Int)<=i then some (i+n).toNat else none
noncomputable def atI {α:Type} (xs:List α) (i:Int):Option α:=(ixN xs.length i).bind λj=>xs[j]?
def Me {n:Nat} {i:Int} {j:Nat} (h:ixN n i=some j):seqIndex? i n=some j/\j<n /\ -(n:Int)<=i/\i<n:=by
 unfold ixN at h;by_cases h0:0<=i
 .rw[AB h0]at h;by_cases h1:i<n
  .rw[AB h1]at h;have e:i.toNat=j:=CB h;exact ⟨by rw[seqIndex_of h0 h1,e],by omega,by omega,h1⟩
  .rw[AE h1]at h;cases h
 .rw[AE h0]at h;by_cases h1 : -(n:Int)<=i
  .rw[AB h1]at h;have e:(i+n).toNat=j:=CB h;exact ⟨by rw[seqIndex_neg (by omega) h1,e],by omega,h1,by omega⟩
  .rw[AE h1]at h;cases h
def LR {α:Type} {xs:List α} {i:Int} {v:α} (h:atI xs i=some v):∃ j,seqIndex? i xs.length=some j/\xs[j]?=some v/\j<xs.length /\ -(xs.length:Int)<=i/\i<xs.length:=by
 unfold atI at h;cases e:ixN xs.length i with
 |none=>rw[e]at h;cases h
 |some j=>
  rw[e]at h;obtain ⟨h1,h2,h3,h4⟩:=Me e;exact ⟨j,h1,h,h2,h3,h4⟩
def P2 {α:Type} {xs:List α} {j:Nat} {v:α} (h:xs[j]?=some v):atI xs (j:Int)=some v:=by
 have hj:j<xs.length:=(AG.mp h).1;have e:ixN xs.length (j:Int)=some j:=by
  unfold ixN;rw[AB (by omega),AB (by omega)];simp
 unfold atI;rw[e];exact h
def Pu (b:Expr):Prop:=∀ o i,subscripted b false o i=operate [o,i] (getItem o i)
def IxR (X:Cx) (r:R2):Prop :=
 ∀ (value slice:Expr) (zB:Yd) (s:Yl) (Y:St) (H:Hp) (x y:V) (v u:Yu) (Q:VK),Inv X zB Y H s->zr x v->zr y u->r x y H Q ->
  subscripted slice false v u=operate [v,u] (getItem v u)->wpAny (model X.prog X.w) X.A (subscriptTail value slice v u) (EP X zB Y Q) X.xe s
def MtR (X:Cx) (id:String) (r:V->List V->Hp->VK->Prop):Prop :=
 ∀ (zB:Yd) (s:Yl) (Y:St) (H:Hp) (x:V) (xs:List V) (v:Yu) (us:Yf) (Q:VK),Inv X zB Y H s->zr x v->zg xs us->r x xs H Q ->
  wpAny (model X.prog X.w) X.A (call (.builtin id) (v::us)) (EP X zB Y Q) X.xe s
section
variable {X:Cx} {a b:Expr} {ta tb:TE} {pos:Pos}
def IxR.or {r r':R2} (h:IxR X r) (h':IxR X r'):IxR X (λx y H Q=>r x y H Q\/r' x y H Q):=by
 intro value slice zB s Y H x y v u Q I rx ry q hs;rcases q with q|q
 .exact h value slice zB s Y H x y v u Q I rx ry q hs
 .exact h' value slice zB s Y H x y v u Q I rx ry q hs
def n9 {r:R2} (hr:IxR X r) (ha:PE X a ta) (hb:PE X b tb) (hs:Pu b):PE X (.Subscript a b pos) (tOp r ta tb):=by
 intro zB s Y H Q I h;exact Subscript_ (MX ha hb I h λv u s2 x y H2 I2 rx ry q=>hr a b zB s2 Y H2 x y v u Q I2 rx ry q (hs _ _))
noncomputable def QF (K:Yb):R2:=λx y H Q=>∃ p xs i v,x=.ref p/\y=.int i/\SqL K H p xs/\atI xs i=some v/\Q v H
noncomputable def Og (K:Yb):R2:=λx y H Q=>∃ p xs i v,x=.ref p/\y=.int i/\SqT K H p xs/\atI xs i=some v/\Q v H
noncomputable def Pq:R2:=λx y H Q=>∃ z i c,x=.str z/\y=.int i/\z.length<=sizeLine/\atI z.cps.toList i=some c/\Q (.str ⟨#[c]⟩) H
def Xe:IxR X (QF X.K):=by
 intro value slice zB s Y H x y v u Q I rx ry h hs;obtain ⟨p,xs,i,z,rfl,rfl,hq,he,q⟩:=h;cases rx;obtain ⟨t,rfl⟩:=ry;obtain ⟨its,r,pl,hz⟩:=I.list hq;obtain ⟨j,h1,h2,h3,h4,h5⟩:=LR he;obtain ⟨w,ew,rw'⟩:=r.get h2;have hl:=r.length;have hn:=HD;have fin:EP X zB Y Q w s:=⟨z,H,I,rw',q⟩;by_cases h0:0<=i
 .have hj:i.toNat=j:=by
   rw[seqIndex_of h0 h5]at h1;exact CB h1
  exact item_listR pl.isList h0 (by omega) (by rw[hj];simpa using ew) fin hs
 .have hj:(i+(its.toArray.size:Int)).toNat=j:=by
   rw[seqIndex_neg (by omega) h4]at h1;rw[AQ,<-hl];exact CB h1
  exact subscriptTail_builtinR (x:=w) pl.isList.typeIs slot_list_getitem.lookup
   (wpAny_getItem_list_neg (Q:=λr s'=>r=w/\EP X zB Y Q r s') pl.isList (by omega) (by rw[AQ] <;> omega) (by omega) (by rw[hj];simpa using ew) ⟨rfl,fin⟩) hs
def aQ:IxR X (Og X.K):=by
 intro value slice zB s Y H x y v u Q I rx ry h hs;obtain ⟨p,xs,i,z,rfl,rfl,hq,he,q⟩:=h;cases rx;obtain ⟨t,rfl⟩:=ry;obtain ⟨its,r,pl,hz⟩:=I.tuple hq;obtain ⟨j,h1,h2,h3,h4,h5⟩:=LR he;obtain ⟨w,ew,rw'⟩:=r.get h2;have hl:=r.length;have hn:=HD;have fin:EP X zB Y Q w s:=⟨z,H,I,rw',q⟩
 exact subscriptTail_builtinR (x:=w) pl.typeIs slot_tuple_getitem.lookup
  (getItem_tuple (j:=j) (Q:=λr s'=>r=w/\EP X zB Y Q r s') pl (by omega) (by omega) (by rw[AQ,<-hl];exact h1) (by simpa using ew) ⟨rfl,fin⟩) hs
def XZ:IxR X Pq:=by
 intro value slice zB s Y H x y v u Q I rx ry h hs;obtain ⟨z,i,c,rfl,rfl,hz,he,q⟩:=h;obtain ⟨t,rfl⟩:=rx;obtain ⟨t',rfl⟩:=ry;obtain ⟨j,h1,h2,h3,h4,h5⟩:=LR he;have hl:z.cps.toList.length=z.length:=by simp[Str.length]
 rw[hl]at h1 h4 h5;have hn:=HD;exact tail_any (typeIs_str s z t) slot_str_getitem.lookup (getItem_str (c:=c) (by
  have e1:decide (i < -(2 ^ 63:Int))=false:=Aa (by omega);have e2:decide (i≥2 ^ 63)=false:=Aa (by omega);rw[e1,e2,Bool.or_false]) (by rw[h1];simpa using h2) ⟨.str ⟨#[c]⟩,H,I.tok _,⟨_,rfl⟩,q⟩) hs
noncomputable def rIx (K:Yb):R2:=λx y H Q=>QF K x y H Q\/Og K x y H Q\/Pq x y H Q
def Zl:IxR X (rIx X.K):=Xe.or (aQ.or XZ)
def aZ (its:List Value) (n j:Nat) (u:Value):Obj.mapSeq (·.setIfInBounds j u) { cls:=.type "list", data:=.seq its.toArray n }={ cls:=.type "list", data:=.seq (its.set j u).toArray n }:=by
 simp[Obj.mapSeq]
def Inv.lst {zB:Yd} {Y:St} {H:Hp} {s:Yl} {p:Yt} {xs:List V} (I:Inv X zB Y H s) (h:H p=some (.lst xs)) :
  ∃ (its:List Value) (n:Nat),zg xs its/\s.heap.get? p=some { cls:=.type "list", data:=.seq its.toArray n }/\xs.length<=sizeLine:=by
 obtain ⟨z,its,n,r,e⟩:=I.hok p _ h;exact ⟨its,n,r,e,z⟩
def Inv.lstUpd {zB:Yd} {Y:St} {H:Hp} {s:Yl} {p:Yt} {xs ys:List V} {its its':Yf} {n n':Nat} {f:Obj->Obj} (I:Inv X zB Y H s) (h:H p=some (.lst xs))
  (ho:s.heap.get? p=some { cls:=.type "list", data:=.seq its.toArray n }) (hf:f { cls:=.type "list", data:=.seq its.toArray n }={ cls:=.type "list", data:=.seq its'.toArray n' }) (r:zg ys its') (hz:ys.length<=sizeLine) (t:Nat) :
  Inv X zB Y (upd H p (.lst ys)) { s with heap:=s.heap.update p f,toks:=t }:=by
 have e:(s.heap.update p f).get? p=some { cls:=.type "list", data:=.seq its'.toArray n' }:=by
  rw[Dc f ho (by rw[hf] <;> rfl),hf]
 refine I.write (x:=p) (e:=p) (by rw[h];trivial) (.inl rfl) (λb u hb q=>(Du _ _ (Ne.symm hb)).trans q) ⟨_,e⟩ ?_;exact ⟨hz,its',n',r,e⟩
def XO:V->V->V->Hp->(Hp->Prop)->Prop:=λo i v H Q=>∃ p xs k j,o=.ref p/\i=.int k/\H p=some (.lst xs)/\ixN xs.length k=some j/\Q (upd H p (.lst (xs.set j v)))
def YI:O7 X XO:=by
 intro zB s Y H o i v ov iv u Q I ro ri rv h;obtain ⟨p,xs,k,j,rfl,rfl,hp,hj,q⟩:=h;cases ro;obtain ⟨t,rfl⟩:=ri;obtain ⟨its,n,r,ho,hz⟩:=I.lst hp;obtain ⟨h1,h2,h3,h4⟩:=Me hj;have hl:=r.length;have hn:=HD;have I':Inv X zB Y (upd H p (.lst (xs.set j v))) { s with heap:=s.heap.update p (Obj.mapSeq (·.setIfInBounds j u)) } :=
  I.lstUpd hp ho (aZ its n j u) (r.set rv j) (by rw[Bh];exact hz) s.toks
 by_cases h0:0<=k
 .have hk:k.toNat=j:=by
   rw[seqIndex_of h0 h4]at h1;exact CB h1
  exact PySem.W.ki_setAt ho h0 (by omega) (by rw[AQ,<-hl];exact h4) (by rw[hk];exact ⟨_,I',q⟩)
 .have hk:(k+(its.toArray.size:Int)).toNat=j:=by
   rw[seqIndex_neg (by omega) h3]at h1;rw[AQ,<-hl];exact CB h1
  exact PySem.W.ki_setBack ho (by omega) (by rw[AQ,<-hl];exact h3) (by omega) (by rw[hk];exact ⟨_,I',q⟩)
def aA (lo hi:Ys) (n:Nat):(sliceBounds lo hi none n).1=((HT.sIx n 0 lo:Nat):Int)/\(sliceBounds lo hi none n).2.1=((HT.sIx n n hi:Nat):Int)/\(sliceBounds lo hi none n).2.2=1:=by
 refine ⟨?_,?_,rfl⟩
 .cases lo with
  |none=>simp[sliceBounds,HT.sIx]
  |some i=>
   simp only[sliceBounds,HT.sIx,Option.getD_none,show (1:Int)>0 by decide,if_true];by_cases h:i<0
   .simp only[h,if_true] <;> omega
   .simp only[h,if_false] <;> omega
 .cases hi with
  |none=>simp[sliceBounds,HT.sIx]
  |some i=>
   simp only[sliceBounds,HT.sIx,Option.getD_none,show (1:Int)>0 by decide,if_true];by_cases h:i<0
   .simp only[h,if_true] <;> omega
   .simp only[h,if_false] <;> omega
def lU (its:Yf) (lo hi:Ys):slicePick its.toArray lo hi none=((its.drop (HT.sIx its.length 0 lo)).take (HT.sIx its.length its.length hi-HT.sIx its.length 0 lo)).toArray:=by
 obtain ⟨h1,h2,h3⟩:=aA lo hi its.toArray.size;unfold slicePick;rw[h1,h2,h3];simp only[sliceRange_one,pick_run,AQ] <;> rfl
def aS (K:Yb):V->Option Int->Option Int->Hp->VK->Prop:=λx lo hi H Q=>∃ a xs,x=.ref a/\SqL K H a xs /\ ∀ p,H p=none->Q (.ref p) (upd H p (.lst (Fb xs lo hi)))
def fY:SlR X (aS X.K):=by
 intro zB s Y H x v vl vu lo hi sl Q I rx hs pl pu h;obtain ⟨a,xs,rfl,hx,q⟩:=h;cases rx;obtain ⟨its,r,ht,hz⟩:=I.list hx;have hlen:=r.length;refine ⟨"list", _,slot_list_getitem.lookup,ht.isList.typeIs,?_⟩;refine wpAny_getItem_list_slice ht.isList hs pl pu .none (by simp) ?_ (by rw[AQ] <;> omega);rw[lU,<-hlen];refine ⟨.ref s.heap.objs.size,_,I.laid (t':=s.toks) (o:=.lst (Fb xs lo hi)) (λb ob q=>AN _ q) (AF _) ?_,rfl,q _ (I.hok.fresh (AF _))⟩;exact ⟨AW (OO xs lo hi) hz,_,0,(r.drop (HT.sIx xs.length 0 lo)).take (HT.sIx xs.length xs.length hi-HT.sIx xs.length 0 lo),Ad _ rfl⟩
def Zf:Br X (.builtin "len") (λxs H Q=>∃ p ys,xs=[.ref p]/\(SqL X.K H p ys\/SqT X.K H p ys)/\Q (.int ys.length) H):=by
 intro zB s Y H xs us Q I r h;obtain ⟨p,ys,rfl,hq,q⟩:=h;obtain ⟨u,rfl,rx⟩:=C7 r;cases rx;have hn:=HD;rcases hq with hq|hq
 .obtain ⟨its,r',pl,hz⟩:=I.list hq;have hlen:=r'.length;exact Calls.call_len_list pl.isList (by simp only[AQ] <;> omega) ⟨.int ys.length,H,I.tok _,⟨s.toks+1,by rw[AQ,hlen]⟩,q⟩
 .obtain ⟨its,r',pl,hz⟩:=I.tuple hq;have hlen:=r'.length;exact len_tuple pl (by simp only[AQ] <;> omega) ⟨.int ys.length,H,I.tok _,⟨s.toks+1,by rw[AQ,hlen]⟩,q⟩
def S8:Br X (.type "list") (λxs H Q=>∃ p ys,xs=[.ref p]/\(SqL X.K H p ys\/SqT X.K H p ys) /\ ∀ l,H l=none->Q (.ref l) (upd H l (.lst ys))):=by
 intro zB s Y H xs us Q I r h;obtain ⟨p,ys,rfl,hq,q⟩:=h;obtain ⟨u,rfl,rx⟩:=C7 r;cases rx
 have fin:∀ (its:Yf),zg ys its->ys.length<=sizeLine -> ∀ (h':Heap) (c':Nat),(∀ b o',s.heap.get? b=some o'->h'.get? b=some o') ->
   h'.get? s.heap.objs.size=some { cls:=.type "list", dict:=none,data:=.seq its.toArray c',slots:=#[] }->EP X zB Y Q (.ref s.heap.objs.size) { s with heap:=h' }:=λits r' hz h' c' kp e=>
  ⟨.ref s.heap.objs.size,_,I.laid (t':=s.toks) kp (AF _) (show Ar X.prog X.w _ h' _ (.lst ys)from ⟨hz,its,c',r',e⟩),rfl,q _ (I.hok.fresh (AF _))⟩
 rcases hq with hq|hq
 .obtain ⟨its,r',pl,hz⟩:=I.list hq;have hlen:=r'.length;obtain ⟨o,ho,hc,n,hd⟩:=pl.isList;exact call_list_seq p (.inl rfl) ho hc hd (λh' c' kp e=>fin its r' hz h' c' kp e) (by simp only[AQ] <;> omega)
 .obtain ⟨its,r',pl,hz⟩:=I.tuple hq;have hlen:=r'.length;obtain ⟨o,ho,hc,n,hd⟩:=pl;exact call_list_seq p (.inr rfl) ho hc hd (λh' c' kp e=>fin its r' hz h' c' kp e) (by simp only[AQ] <;> omega)
def Xk:Br X (.type "tuple") (λxs H Q=>∃ p ys,xs=[.ref p]/\((SqL X.K H p ys /\ ∀ l,H l=none->Q (.ref l) (upd H l (.tup ys)))\/(SqT X.K H p ys/\Q (.ref p) H))):=by
 intro zB s Y H xs us Q I r h;obtain ⟨p,ys,rfl,h⟩:=h;obtain ⟨u,rfl,rx⟩:=C7 r;cases rx;rcases h with ⟨hq,q⟩|⟨hq,q⟩
 .obtain ⟨its,r',pl,hz⟩:=I.list hq;have hlen:=r'.length;refine call_tuple_list pl.isList (λh' kp=>?_) (by simp only[AQ] <;> omega);have I1:Inv X zB Y H { s with heap:=h' }:=I.kept (t':=s.toks) kp;have I2:Inv X zB Y (upd H h'.objs.size (.tup ys)) { s with heap:=h'.push { cls:=.type "tuple", data:=.seq its.toArray } } :=
   I1.laid (t':=s.toks) (λb o e=>AN _ e) (AF _) (show Ar X.prog X.w _ _ _ (.tup ys)from ⟨hz,its,r',Dm.new _ _⟩)
  exact ⟨.ref h'.objs.size,_,I2,rfl,q _ (I1.hok.fresh (AF _))⟩
 .obtain ⟨its,r',pl,hz⟩:=I.tuple hq;exact call_tuple_same pl ⟨.ref p,H,I,rfl,q⟩
def tyV (K:Yb) (T:String) (x:V) (H:Hp):Prop:=match x with
 |.str _=>T = "str"
 |.int _=>T = "int"
 |.ref p=>(T = "list" /\ ∃ xs,SqL K H p xs)\/(T = "tuple" /\ ((∃ o,K.lookup p=some o/\o.cls=.type "tuple" /\ o.dict=none) \/ ∃ xs,H p=some (.tup xs))) \/
   (T = "dict" /\ ((∃ kvs,H p=some (.dK kvs)) \/ ∃ kvs,H p=some (.dT kvs)))\/(T = "set" /\ ∃ S n,H p=some (.set S n))
 |_=>False
def OI {zB:Yd} {Y:St} {H:Hp} {s:Yl} {T:String} {x:V} {v:Yu} (I:Inv X zB Y H s) (r:zr x v) (ty:tyV X.K T x H) :
  s.TypeIs v T /\ ∀ a,v=.ref a -> ∃ ob,s.heap.get? a=some ob/\ob.dict=none:=by
 cases x with
 |str z=>
  obtain ⟨t,rfl⟩:=r;cases (show T = "str" from ty);exact ⟨typeIs_str s z t,λ_ e=>nomatch e⟩
 |int i=>
  obtain ⟨t,rfl⟩:=r;cases (show T = "int" from ty);exact ⟨typeIs_int s i t,λ_ e=>nomatch e⟩
 |ref p=>
  cases r;rcases ty with ⟨rfl,xs,hq⟩|⟨rfl,⟨o,hk,hc,hd⟩|⟨xs,hq⟩⟩|⟨rfl,hk⟩|⟨rfl,S,n,hk⟩
  .obtain ⟨its,_,pl,_⟩:=I.list hq;refine ⟨pl.isList.typeIs,λa e=>?_⟩;cases e;obtain ⟨o,n,e,c,hd,_⟩:=pl;exact ⟨o,e,hd⟩
  .refine ⟨⟨o,I.kIn p o hk,hc⟩,λa e=>?_⟩;cases e;exact ⟨o,I.kIn _ o hk,hd⟩
  .obtain ⟨_,its,_,o,e,c,_,hd⟩:=I.hok p _ hq;refine ⟨⟨o,e,c⟩,λa e2=>?_⟩;cases e2;exact ⟨o,e,hd⟩
  .have z:∃ o,s.heap.get? p=some o/\o.ExactDict:=by
    rcases hk with ⟨kvs,hk⟩|⟨kvs,hk⟩
    .obtain ⟨_,_,_,_,o,_,_,e,ex,_⟩:=I.hok p _ hk;exact ⟨o,e,ex⟩
    .obtain ⟨_,_,_,_,o,_,_,e,ex,_⟩:=I.hok p _ hk;exact ⟨o,e,ex⟩
   obtain ⟨o,e,ex⟩:=z;refine ⟨⟨o,e,ex.1⟩,λa e2=>?_⟩;cases e2;exact ⟨o,e,ex.2.1⟩
  .obtain ⟨o,_,_,_,e,ex,_⟩:=I.hok p _ hk;refine ⟨⟨o,e,ex.1⟩,λa e2=>?_⟩;cases e2;exact ⟨o,e,ex.2.1⟩
 |_=>exact False.elim ty
noncomputable def Zr (K:Yb) (T:String) (r:V->List V->Hp->VK->Prop) (to:TE):TE:=λY H Q=>to Y H λx H1=>tyV K T x H1/\r x [] H1 Q
noncomputable def tBM (K:Yb) (T:String) (r:V->List V->Hp->VK->Prop) (to:TE) (t:TA):TE:=λY H Q=>to Y H λx H1=>tyV K T x H1/\t Y H1 λxs H2=>r x xs H2 Q
variable {o e:Expr} {es:Yi} {to:TE} {t:TA} {name:Str} {apos cpos:Pos} {T id:String} {r:V->List V->Hp->VK->Prop}
def UT (pa:PlainAttrs T) (slot:Slot T name id) (hty:typeOf (.builtin id)=pure (.type "method_descriptor")) (hm:MtR X id r) (ho:PE X o to)
  (hbase:attributeBase o name X.env (eval o X.env)=eval o X.env:=by rfl) (hline:(apos.endLine==cpos.line)=true:=by rfl):PE X (.Call (.Attribute o name apos) [] [] cpos) (Zr X.K T r to):=by
 intro zB s Y H Q I h;refine wpAny_Call_method0_late hbase hline (thn (ho zB s Y H _ I h) λv s1 ⟨x,H1,I1,r1,ty,q1⟩=>?_);obtain ⟨h1,h2⟩:=OI I1 r1 ty;exact ⟨T,id,pa,slot,hty,h1,h2,Calls.callWith_builtin rfl (PySem.evalArgs_none (hm zB s1 Y H1 x [] v [] Q I1 r1 .nil q1))⟩
def J0 (pa:PlainAttrs T) (slot:Slot T name id) (hty:typeOf (.builtin id)=pure (.type "method_descriptor")) (hm:MtR X id r) (ho:PE X o to) (ha:PA X (e::es) t)
  (hbase:attributeBase o name X.env (eval o X.env)=eval o X.env:=by rfl)
  (hfew:((backTo cpos (starEach (e::es) X.env)).all (λx=> !x.1)&&(backToKw cpos (keywordEach [] X.env)).all (λx=>x.1.isSome)
   && decide ((e::es).length+([]:List Keyword).length+(if ([]:List Keyword).isEmpty then 0 else 1)<30))=true:=by rfl)
  (hline:(apos.endLine==cpos.line)=true:=by rfl) (hs:starEach (e::es) X.env=(false,eval e X.env)::starEach es X.env:=by rfl) (hplain:(backTo cpos (starEach es X.env)).any (·.1)=false:=by rfl) :
  PE X (.Call (.Attribute o name apos) (e::es) [] cpos) (tBM X.K T r to t):=by
 intro zB s Y H Q I h;refine wpAny_Call_method_late hbase hfew hline rfl (thn (ho zB s Y H _ I h) λv s1 ⟨x,H1,I1,r1,ty,q1⟩=>?_);obtain ⟨h1,h2⟩:=OI I1 r1 ty;refine ⟨T,id,pa,slot,hty,h1,h2,?_⟩;have hA:=ha cpos zB s1 Y H1 _ I1 q1;rw[hs]at hA ⊢;refine Calls.callWith_builtin (by show (false||(backTo cpos (starEach es X.env)).any (·.1))=false;rw[hplain] <;> rfl) (Calls.evalArgs_plain ?_);exact thn hA λus s2 ⟨vs,H2,I2,r2,q2⟩=>hm zB s2 Y H2 x vs v us Q I2 r1 r2 q2
end
def MtM (X:Cx) (id:String) (r:V->List V->Hp->VK->Prop):Prop :=
 ∀ (zB:Yd) (s:Yl) (Y:St) (H:Hp) (x:V) (xs:List V) (v:Yu) (us:Yf) (Q:VK),Inv X zB Y H s->zr x v->zg xs us->r x xs H Q ->
  wpAny (model X.prog X.w) X.A (call (.builtin id) (v::us)) (EP X zB Y Q) X.xe s
def zg.one:∀ {x:V} {us:Yf},zg [x] us -> ∃ u,us=[u]/\zr x u
 |_,_,.cons r .nil=>⟨_,rfl,r⟩
def zg.two:∀ {x y:V} {us:Yf},zg [x,y] us -> ∃ u v,us=[u,v]/\zr x u/\zr y v
 |_,_,_,.cons r (.cons q .nil)=>⟨_,_,rfl,r,q⟩
def zg.zero:∀ {us:Yf},zg [] us->us=[]
 |_,.nil=>rfl
def zg.dropLast {xs:List V} {us:Yf} (h:zg xs us):zg xs.dropLast us.dropLast:=by
 induction h with
 |nil=>exact .nil
 |cons r t ih=>
  cases t with
  |nil=>exact .nil
  |cons q t'=>exact .cons r ih
def zg.eraseIdx:∀ {xs:List V} {us:Yf} (i:Nat),zg xs us->zg (xs.eraseIdx i) (us.eraseIdx i)
 |_,_,_,.nil=> .nil
 |_,_,0,.cons _ t=>t
 |_,_,i+1,.cons r t=> .cons r (zg.eraseIdx i t)
def zg.reverse {xs:List V} {us:Yf} (h:zg xs us):zg xs.reverse us.reverse:=by
 induction h with
 |nil=>exact .nil
 |cons r t ih=>rw[List.reverse_cons,List.reverse_cons];exact zg.append ih (.cons r .nil)
def LM {α:Type} (l:List α):l.eraseIdx (l.length-1)=l.dropLast:=by
 induction l with
 |nil=>rfl
 |cons a r ih=>
  cases r with
  |nil=>rfl
  |cons b r=>
   have e:(a::b::r).length-1=((b::r).length-1)+1:=by
    have h1:(a::b::r).length=r.length+2:=rfl;have h2:(b::r).length=r.length+1:=rfl;omega
   rw[e,List.eraseIdx_cons_succ,ih];all_goals rfl
theorem SA {α:Type}:∀ (l:List α) (i:Nat),(l.eraseIdx i).length<=l.length
 |[],_=>AF _
 |_::_,0=>DQ _
 |_::r,i+1=>Nat.succ_le_succ (SA r i)
section
variable {X:Cx} {zB:Yd} {Y:St} {H:Hp} {s:Yl} {l b:Yt} {xs ys zs:List V}
def Inv.lset {its its':Yf} {n:Nat} {f:Array Value->Array Value} {t':Nat} (I:Inv X zB Y H s) (hH:H l=some (.lst xs))
  (e:s.heap.get? l=some { cls:=.type "list", data:=.seq its.toArray n }) (hf:f its.toArray=its'.toArray) (hv:zg ys its') (hz:ys.length<=sizeLine) :
  Inv X zB Y (upd H l (.lst ys)) { s with heap:=s.heap.update l (Obj.mapSeq f),toks:=t' }:=by
 have q:=PySem.IsL.update e f;rw[hf]at q;refine I.write (x:=l) (e:=l) (by rw[hH];exact trivial) (.inl rfl) (λb' u hb hu=>(Du s.heap (Obj.mapSeq f) (Ne.symm hb)).trans hu) ⟨_,q⟩ ?_;exact ⟨hz,its',_,hv,q⟩
def Inv.lnew {its:Yf} {t':Nat} (I:Inv X zB Y H s) (hv:zg ys its) (hz:ys.length<=sizeLine) :
  Inv X zB Y (upd H s.heap.objs.size (.lst ys)) { s with heap:=s.heap.push { cls:=.type "list", data:=.seq its.toArray },toks:=t' } :=
 I.laid (λ_ _ q=>AN _ q) (AF _) ⟨hz,its,0,hv,Ad _ rfl⟩
def Inv.fresh (I:Inv X zB Y H s):H s.heap.objs.size=none:=I.hok.fresh (AF _)
def Inv.lstM (I:Inv X zB Y H s) (hH:H l=some (.lst xs)):xs.length<=sizeLine /\ ∃ (its:List Value) (n:Nat),zg xs its/\xs.length=its.length/\s.heap.get? l=some { cls:=.type "list", data:=.seq its.toArray n }:=by
 obtain ⟨z,its,n,r,e⟩:=I.hok l _ hH;exact ⟨z,its,n,r,r.length,e⟩
def ZO {n:Nat} (h:n<=sizeLine):Builtin.List.listTooLong n=false:=by
 unfold Builtin.List.listTooLong;exact Aa (by omega)
end
section
variable {X:Cx}
def PF:V->List V->Hp->VK->Prop:=λx vs H Q=>∃ l xs y,x=.ref l/\vs=[y]/\H l=some (.lst xs)/\xs.length<sizeLine/\Q .non (upd H l (.lst (xs++[y])))
def mV:MtM X "list.append" PF:=by
 intro zB s Y H x vs v us Q I rx rv h;obtain ⟨l,xs,y,rfl,rfl,hH,hz,q⟩:=h;cases rx;obtain ⟨u,rfl,ru⟩:=rv.one;obtain ⟨z,its,n,r,hl,e⟩:=I.lstM hH;refine call_meets F.slot_list_append ⟨_,e,rfl⟩ F.entry_list_append (F.args_list_append_2 _ _) (PySem.list_append l its.toArray n u (by rw[AQ];omega)) ⟨e,?_⟩;refine ⟨.non,_,I.lset (its':=its++[u]) hH e (by simp) (r.append (.cons ru .nil)) ?_,rfl,q⟩;rw[AU,List.length_singleton];omega
def Pl:V->List V->Hp->VK->Prop:=λx vs H Q=>∃ l b xs zs,x=.ref l/\vs=[.ref b]/\H l=some (.lst xs)/\H b=some (.lst zs)/\xs.length+zs.length<=sizeLine/\Q .non (upd H l (.lst (xs++zs)))
def VV:MtM X "list.extend" Pl:=by
 intro zB s Y H x vs v us Q I rx rv h;obtain ⟨l,b,xs,zs,rfl,rfl,hH,hB,hz,q⟩:=h;cases rx;obtain ⟨u,rfl,ru⟩:=rv.one;cases ru;obtain ⟨z,its,n,r,hl,e⟩:=I.lstM hH;obtain ⟨z2,its2,n2,r2,hl2,e2⟩:=I.lstM hB;have hsz:its.toArray.size+its2.toArray.size<=sizeLine:=by rw[AQ,AQ];omega
 have hlong:¬ (!its.toArray.isEmpty&&Builtin.List.listTooLong (its.toArray.size+its2.toArray.size))=true:=by
  rw[ZO hsz,Bool.and_false];exact B3
 refine call_meets F.slot_list_extend ⟨_,e,rfl⟩ F.entry_list_extend (F.args_list_extend_2 _ _)
  (AutoSeq1.list_extend_list_list_0 l its.toArray n b its2.toArray n2 hlong (by rw[AQ];omega) (by omega)) ⟨e,e2,?_⟩
 refine ⟨.non,_,I.lset (its':=its++its2) hH e (by simp) (r.append r2) ?_,rfl,q⟩;rw[AU];omega
def V0:V->List V->Hp->VK->Prop:=λx vs H Q=>∃ l xs y,x=.ref l/\vs=[]/\H l=some (.lst xs)/\xs[xs.length-1]?=some y/\Q y (upd H l (.lst xs.dropLast))
def iU:MtM X "list.pop" V0:=by
 intro zB s Y H x vs v us Q I rx rv h;obtain ⟨l,xs,y,rfl,rfl,hH,hy,q⟩:=h;cases rx;have hus:=rv.zero;subst hus;obtain ⟨z,its,n,r,hl,e⟩:=I.lstM hH;obtain ⟨u,hu,ru⟩:=r.get hy;have hy':its.toArray[its.toArray.size-1]?=some u:=by
  show its.toArray[its.length-1]?=some u;rw[<-Gf,<-hl];exact hu
 refine call_meets F.slot_list_pop ⟨_,e,rfl⟩ F.entry_list_pop (F.args_list_pop_1 _) (MeetsSeq.list_pop_last l its.toArray n u hy' (by rw[AQ];omega)) ⟨e,?_⟩;refine ⟨y,_,I.lset (its':=its.dropLast) hH e ?_ r.dropLast ?_,ru,q⟩
 .rw[AQ,List.eraseIdxIfInBounds_toArray,LM]
 .rw[List.length_dropLast];omega
def Q2:V->List V->Hp->VK->Prop:=λx vs H Q=>∃ l xs i k y,x=.ref l/\vs=[.int i]/\H l=some (.lst xs) /\ -(2 ^ 63)<=i/\i<2 ^ 63/\seqIndex? i xs.length=some k/\xs[k]?=some y/\Q y (upd H l (.lst (xs.eraseIdx k)))
def Vl:MtM X "list.pop" Q2:=by
 intro zB s Y H x vs v us Q I rx rv h;obtain ⟨l,xs,i,k,y,rfl,rfl,hH,h1,h2,hk,hy,q⟩:=h;cases rx;obtain ⟨u,rfl,ru⟩:=rv.one;obtain ⟨t,rfl⟩:=ru;obtain ⟨z,its,n,r,hl,e⟩:=I.lstM hH;obtain ⟨w,hw,rw'⟩:=r.get hy
 refine call_meets F.slot_list_pop ⟨_,e,rfl⟩ F.entry_list_pop (F.args_list_pop_2 _ _)
  (MeetsSeq.list_pop_at l its.toArray n i t k w (fitsIndex_both h1 h2) (by rw[AQ,<-hl];exact hk) (by rw[<-Gf];exact hw) (by rw[AQ];omega)) ⟨e,?_⟩
 refine ⟨y,_,I.lset (its':=its.eraseIdx k) hH e ?_ (r.eraseIdx k) ?_,rw',q⟩
 .rw[List.eraseIdxIfInBounds_toArray]
 .have:=SA xs k;omega
noncomputable def SD:R2:=λx y H Q=>∃ l b xs zs,x=.ref l/\y=.ref b/\H l=some (.lst xs)/\H b=some (.lst zs)/\xs.length+zs.length<=sizeLine /\ ∀ p,H p=none->Q (.ref p) (upd H p (.lst (xs++zs)))
def SY:OpR X (binaryOp .Add) SD:=by
 intro zB s Y H x y v u Q I rx ry h;obtain ⟨l,b,xs,zs,rfl,rfl,hH,hB,hz,q⟩:=h;cases rx;cases ry;obtain ⟨z,its,n,r,hl,e⟩:=I.lstM hH;obtain ⟨z2,its2,n2,r2,hl2,e2⟩:=I.lstM hB;refine PySem.P.add_list e e2 ?_ (by rw[AQ,AQ];omega);have ea:its.toArray++its2.toArray=(its++its2).toArray:=by simp
 rw[ea];exact ⟨.ref _,_,I.lnew (t':=s.toks) (r.append r2) (by rw[AU];omega),rfl,q _ I.fresh⟩
end
end L2
namespace Att
open PySem PySem.W PySem.Calls PyProof.Rows
def fJ {P:Params} {h:Heap}:∀ (ns:Ye) (vs:Yf),WellAll P h vs (ns.map WData.int)->IntsAre vs ns:=by
 intro ns;induction ns with
 |nil=>
  intro vs w;rw[List.map_nil]at w;cases w;exact .nil
 |cons n ns ih=>
  intro vs w;rw[AX]at w;cases w with
  |cons a b=>
   cases a;exact .cons _ _ (ih _ b)
def TJ {l:OpenLaw} {n:Nat} (hn:l.most=some n) {P:Params} {h:Heap} {args:List WData} {vals:Yf}
  (hpre:l.row.toRowW.claim.pre args=true) (hwl:WellAll P h vals args) :
  ∃ a vs ns,vals=[Value.ref a]/\args=[WData.list (ns.map WData.int)]/\h.get? a=some { cls:=.type "list", data:=.seq vs.toArray }/\IntsAre vs ns/\ns.length<=n:=by
 have hsh:WShape.hasAll [] args [.list .int]=true:=(pre_splitW hpre).1;have hc:l.pre.holds [] { args:=args }=true:=(pre_splitW hpre).2;obtain ⟨d,r,rfl,h1,h2⟩:=hasAllW_cons hsh;obtain rfl:=hasAllW_nil h2;obtain ⟨xs,rfl,h3⟩:=hasW_list h1;obtain ⟨ns,rfl⟩:=items_int h3;have hlen:ns.length<=n:=by
  unfold OpenLaw.pre at hc;have h4:(WTm.not (.lt (.lit (.int (n:Int))) (.len (.arg 0)))).holds [] { args:=[.list (ns.map .int)] }=true:=by
   have h4:=(holds_andW hc).1;rw[hn]at h4;exact h4
  have h5:=condW_of h4 (w_not (w_lt w_lit (w_len_list (w_arg rfl))));rw[AH]at h5;refine Nat.le_of_not_lt λq=>?_;have q':(n:Int)<((ns.length:Nat):Int):=by omega
  first
   | (rw[BB q']at h5;exact absurd h5 (by decide))
   | (simp at h5;omega)
 cases hwl with
 |cons w1 w2=>
  cases w2;cases w1 with
  |list ho hall=>exact ⟨_,_,ns,rfl,rfl,ho,fJ ns _ hall,hlen⟩
def cO (l:OpenLaw) (args:List WData):l.row.toRowW.claim.post args (.bool true) args=true :=
 postW_of (r:=l.row.toRowW) (X:=(true==true))
  (show WShape.has [] (.bool true) .bool=true by first|rfl|decide|simp[WShape.has,WShape.arms,WShape.armsAll])
  (show (WTm.eq .res (.lit (.bool true))).value [] { args:=args,res:=some (.bool true),after:=args }=some (.bool (true==true))from w_eq_bool (w_res rfl) w_lit) rfl
def UK {l:OpenLaw} {n:Nat} {q:Ym} {loose:Yk} {XP:(Str->Option Value)->Heap->Prop} {YP:World->Heap->Prop} {d:DefRec}
  (hn:l.most=some n) (hdf:d.params.defaults=[])
  (call:∀ (w:Yo) (s₀ s₁:Yl) (mg mb:Yh) (fa:Yt) (o:Obj) (pm cd doc:Yu) (a:Yt) (vs:Yf) (ns:Ye),
   Ground q loose [] XP w s₀ mg mb s₁.heap->YP w s₁.heap ->
   s₁.heap.get? fa=some o->o.data=.func (docDef d.name d.params d.body d.scope pm cd doc)->s₁.heap.CodeRec cd d.name->mg d.name=some (.ref fa) ->
   s₁.heap.get? a=some { cls:=.type "list", data:=.seq vs.toArray }->IntsAre vs ns->ns.length<=n->s₁.gens = #[] ->
   codeAny (model l.prog w) callerA (.call (.ref fa) ⟨[.ref a],[]⟩) (λr s'=>r=.ok (.ret (.bool true))/\OldK s₁.heap s'.heap/\s'.os=s₁.os/\AllBare s'.gens) s₁) :
  WalkO q loose XP YP l.row.toRowW d [] (λf vs=>PySem.call f vs):=by
 intro w s₀ s₁ mg mb G YY fa o pm cd doc dV kV ho hd hcd hD hmg hg args vals as hpre hlay hrd hwl hlo;obtain rfl:dV=.none:=Dflts.none hD hdf;obtain rfl:kV=.none:=Dflts.noKw hD;obtain ⟨a,vs,ns,rfl,rfl,hobj,hints,hlen⟩:=TJ hn hpre hwl;refine enter_call (codeAny_mono (call w s₀ s₁ mg mb fa o pm cd doc a vs ns G YY ho (fd_plain hd) hcd hmg hobj hints hlen hg) λr s' hq=>?_);obtain ⟨rfl,h2,h3,h4⟩:=hq;exact ⟨.inl ⟨.bool true,.bool true,[],rfl,λ_=>rfl,.bool true,cO l _,λ_=>⟨List.Pairwise.nil,λ_ hm=>(nomatch hm)⟩⟩,h2,h3,h4⟩
end Att
namespace L2
theorem R0:∀ {vs:Yf} {ns:Ye},IntsAre vs ns->zg (ns.map V.int) vs
 |_,_,.nil=> .nil
 |_,_,.cons n t h=> .cons ⟨t,rfl⟩ (R0 h)
def Jx (H:Hp):Prop:=∀ b,H b=none \/ ∃ o xs,H b=some (.frz o (.lst xs))
def VD {P:Ym} {w:Yo} {K:Yb} {mg mb:Yh} {CX:CXT} {k:Nat} {fa a:Yt} {fd:Yz} {x:Str} {sp:Sp} {s₁:Yl} {vs:Yf} {ns:Ye}
  (KX:K.In s₁.heap) (hns:s₁.heap.Ns mainGlobals mg) (hb:s₁.heap.Ns builtinsNs mb) (hbb:∀ x:Str,x ≠ "__name__" -> mb x=bootBuiltins x) (hlim:s₁.heap.NoLimit) (hg:s₁.gens = #[])
  (ha:s₁.heap.get? a=some { cls:=.type "list", data:=.seq vs.toArray }) (hi:IntsAre vs ns) (hl:ns.length<=sizeLine) (hr:Room k callerA)
  (F:∀ base:Heap,K.In base->base.Ns mainGlobals mg->FnOk P w K mg base CX k fa fd [x] sp) (hbind:∀ (s:Yl) (u:Yu),BindsTo s fd ⟨[u],[]⟩ [(x,u)])
  (hsp:∀ H:Hp,Jx H->SqL K H a (ns.map V.int)->sp [.ref a] H (λv _=>v=.bl true) λ_ _ _=>False)
  (hCX:∀ H e s',CX [] H s₁ (λ_ _ _=>False) e s'->False) :
  codeAny (model P w) callerA (.call (.ref fa) ⟨[.ref a],[]⟩) (λr s'=>r=.ok (.ret (.bool true))/\OldK s₁.heap s'.heap/\s'.os=s₁.os/\AllBare s'.gens) s₁:=by
 have rv:=R0 hi;have lenV:=hi.length
 have core:∀ H:Hp,Jx H->SqL K H a (ns.map V.int)->HOk P w H s₁.heap->(∀ b,H b≠none->b=a)->(H a≠none->K.lookup a=none) ->
   codeAny (model P w) callerA (.call (.ref fa) ⟨[.ref a],[]⟩) (λr s'=>r=.ok (.ret (.bool true))/\OldK s₁.heap s'.heap/\s'.os=s₁.os/\AllBare s'.gens) s₁:=by
  intro H hO hS hok hA hK;have base_of:∀ {b:Yt} {o:Obj},s₁.heap.get? b=some o->H b=none->(Et s₁.heap H).get? b=some o:=λe n=>lW e n;have noA:∀ {b:Yt} {o:Obj} {es:Array DictEntry} {ep:Nat},s₁.heap.get? b=some o->o.data=.dict es ep->H b=none:=λ{b o es ep} e d=>by
   cases q:H b with
   |none=>rfl
   |some u=>
    have e':b=a:=hA b (by rw[q];simp);subst e';rw[ha]at e;cases e;have d':Data.seq vs.toArray _=Data.dict es ep:=d;cases d'
  have nsK:∀ {b:Yt} {m:Yh},s₁.heap.Ns b m->(Et s₁.heap H).Ns b m:=λ{b m} ⟨o,es,ep,e,d,r⟩=>⟨o,es,ep,base_of e (noA e d),d,r⟩;have hKb:K.In (Et s₁.heap H):=λb o e=>base_of (KX b o e) (by
   cases q:H b with
   |none=>rfl
   |some u=>
    have e':b=a:=hA b (by rw[q];simp);subst e';rw[hK (by rw[q];simp)]at e;cases e)
  have hM:Mod K mg (Et s₁.heap H):=⟨hKb,nsK hns,⟨mb,nsK hb,hbb⟩,let ⟨mc,h1,h2⟩:=hlim;⟨mc,nsK h1,h2⟩⟩;have e0:Env0 P w K mg (Et s₁.heap H) callerA [] s₁ H:=⟨rfl,hM,λb o e=>Ur e,Nat.le_of_eq (m8 _ _),trivial,λb hb=>absurd (show b∈([]:List Addr)from hb) (by simp),hok,.of_eq hg⟩;refine codeAny_mono ((F _ hKb (nsK hns)).run callerA [] s₁ H ⟨[.ref a],[]⟩ [.ref a] [.ref a] _ _ hr e0 (hbind s₁ (.ref a)) (.cons rfl .nil) (hsp H hO hS)) λr s' h=>?_;cases r with
  |error e=>exact (hCX H e s' h).elim
  |ok fl=>
   cases fl with
   |next=>exact False.elim h
   |brk=>exact False.elim h
   |cont=>exact False.elim h
   |ret u=>
    obtain ⟨v,H',os,bare,un,hok',r',q⟩:=h;have q':v=.bl true:=q;subst q';obtain rfl:u=Value.bool true:=r';refine ⟨rfl,OldK.of_keep λb o e=>?_,os,bare⟩;cases q:H b with
    |none=>exact un.keep b o e q (by intro z;exact absurd (show b∈([]:List Addr)from z) (by simp)) (by simp)
    |some u=>
     rcases hO b with z|⟨ob,xs,z⟩
     .rw[q]at z;cases z
     .have z2:=un.frzs b ob _ z;obtain ⟨e1,_⟩:=hok b _ z;obtain ⟨e2,_⟩:=hok' b _ z2;rw[e]at e1;cases e1;exact e2
 cases hk:K.lookup a with
 |some o=>
  have e:=KX a o hk;rw[ha]at e;cases e;refine core (λ_=>none) (λ_=> .inl rfl) (.inr ⟨_,vs.toArray,_,hk,rfl,rfl,rfl,by rw[AQ,lenV];exact hl,by simpa using rv⟩) (λb u z=>by have z':(none:Option HO)=some u:=z;cases z') (λb z=>absurd rfl z) λz=>absurd rfl z
 |none=>
  refine core (λb=>if b=a then some (.frz { cls:=.type "list", data:=.seq vs.toArray } (.lst (ns.map V.int))) else none) (λb=>?_) (.inl (.inr ⟨{ cls:=.type "list", data:=.seq vs.toArray },AB rfl⟩)) (λb u z=>?_) (λb z=>?_) λ_=>hk
  .by_cases hb:b=a
   .exact .inr ⟨_,_,AB hb⟩
   .exact .inl (AE hb)
  .by_cases hb:b=a
   .have z':=(AB hb).symm.trans z;cases z';subst hb;exact ⟨ha,by rw[AH];exact hl,vs,_,rv,ha⟩
   .have z':=(AE hb).symm.trans z;cases z'
  .by_cases hb:b=a
   .exact hb
   .exact absurd (AE hb) z
def Xw {l:PySem.W.OpenLaw} {n k:Nat} {q:Ym} {loose:Yk} {XP:(Str->Option Value)->Heap->Prop} {YP:World->Heap->Prop} {d:DefRec} {K:Params->PySem.W.Frag} {CX:World->CXT} {sp:World->Sp} {x:Str}
  (hn:l.most=some n) (hn2:n<=sizeLine) (hdf:d.params.defaults=[]) (hr:Room k callerA)
  (hY:∀ (w:Yo) (h:Heap),YP w h->(K w.params).In h)
  (F:∀ (w:Yo) (mg:Yh) (fa:Yt) (h:Heap),(K w.params).In h->h.Ns mainGlobals mg->mg d.name=some (.ref fa) ->
   ∃ fd:FuncData,(∀ (s:Yl) (u:Yu),BindsTo s fd ⟨[u],[]⟩ [(x,u)]) /\
    ∀ base:Heap,(K w.params).In base->base.Ns mainGlobals mg->FnOk l.prog w (K w.params) mg base (CX w) k fa fd [x] (sp w))
  (hsp:∀ (w:Yo) (H:Hp) (a:Yt) (ns:Ye),ns.length<=n->Jx H->SqL (K w.params) H a (ns.map V.int)->sp w [.ref a] H (λv _=>v=.bl true) λ_ _ _=>False)
  (hCX:∀ (w:Yo) (H:Hp) (s:Yl) (e:Yu) (s':Yl),CX w [] H s (λ_ _ _=>False) e s'->False) :
  PySem.W.WalkO q loose XP YP l.row.toRowW d [] (λf vs=>PySem.call f vs):=by
 refine Att.UK hn hdf λw s₀ s₁ mg mb fa o pm cd doc a vs ns G YY ho hd hcd hmg hobj hints hlen hg=>?_;have KX:=hY w _ YY;obtain ⟨fd,hb,hF⟩:=F w mg fa _ KX G.T.g hmg;exact VD KX G.T.g G.T.b G.T.builtins G.T.nolimit hg hobj hints (AW hlen hn2) hr hF hb (λH hO hS=>hsp w H a ns hlen hO hS) λH e s'=>hCX w H s₁ e s'
noncomputable def Hk (s:Stmt):Arguments:=match s with
 |.FunctionDef _ a _ _ _ _ _ _ _ _=>a
 |_=>{ posonlyargs:=[],args:=[],vararg:=none,kwonlyargs:=[],kw_defaults:=[],kwarg:=none,defaults:=[] }
noncomputable def Fi (s:Stmt):List Stmt:=match s with
 |.FunctionDef _ _ b _ _ _ _ _ _ _=>b
 |_=>[]
noncomputable def zT (s:Stmt):Scope:=match s with
 |.FunctionDef _ _ _ _ _ _ sc _ _ _=>sc
 |_=>{ kind:=.function,names:=[],isGenerator:=false,isCoroutine:=false }
noncomputable abbrev CX0:CXT:=λ_ _ _ _ _ _=>False
noncomputable abbrev E0:XK:=λ_ _ _=>False
def ZV {X:Cx}:NG CX0 X E0:=λ_ _ _ _ _ _ _ h=>h.elim
structure Fun (K:Yb) (x qual:Str) (st:Stmt) (f:Yt) (fd:Yz):Prop where
 ex:∃ (oc:Yu) (od:Option Addr) (kV doc pm:Yu) (an:Option Addr) (cdv ct:Yu) (osl:Array (Option Value)),
  fd=PySem.W.fnOf x qual (Hk st) (Fi st) (zT st) .none kV doc pm an cdv ct/\K.lookup f=some ⟨oc,od,.func fd,osl⟩/\PySem.W.codeIn K cdv qual=true
 kp:PySem.W.keepIn K (.ref f)=true
section
variable {P:Ym} {w:Yo} {K:Yb} {mg:Yh} {base:Heap}
def Fun.ok {x qual:Str} {st:Stmt} {f:Yt} {fd:Yz} {N ps:Yk} {k:Nat} {sp:Sp} (F:Fun K x qual st f fd) (S:FnScope N ps (zT st)) (len:∀ vs H Q E,sp vs H Q E->vs.length=ps.length)
  (hbody:∀ (cdv:Yu) (A:Yn) (outer:List Env) (s:Yl) (H:Hp) (vs:List V) (Q:VK) (E:XK),Room k (A.deeper (envOfC qual (zT st) s.heap.objs.size f cdv))->sp vs H Q E ->
   ∃ t,PSs (F8 CX0 P w K mg base N qual (zT st) f cdv A outer s H E).nox (Fi st) t/\t { nx:=λ_ H'=>Q .non H',rt:=Q } (EC N vs) H):FnOk P w K mg base CX0 (k+1) f fd ps sp:=by
 obtain ⟨oc,od,kV,doc,pm,an,cdv,ct,osl,rfl,lk,hcd⟩:=F.ex;refine cS lk hcd S len λA outer s H vs Q E hr hsp=>?_;obtain ⟨t,h,q⟩:=hbody cdv A outer s H vs Q E hr hsp;exact ⟨t,h.nox,q⟩
def Fun.binds {x qual:Str} {st:Stmt} {f:Yt} {fd:Yz} {ps:Yk} (F:Fun K x qual st f fd)
  (h:∀ (kV doc pm:Yu) (an:Option Addr) (cdv ct:Yu) (us:Yf),us.length=ps.length->bindArgs (PySem.W.fnOf x qual (Hk st) (Fi st) (zT st) .none kV doc pm an cdv ct) ⟨us,[]⟩=pure (ps.zip us)):Gy K fd ps []:=by
 obtain ⟨oc,od,kV,doc,pm,an,cdv,ct,osl,rfl,lk,hcd⟩:=F.ex;exact .all (h kV doc pm an cdv ct)
def OF {x qual:Str} {st:Stmt} {f:Yt} {oc:Yu} {od an:Option Addr} {osl:Array (Option Value)} {kV doc pm cdv ct:Yu} (l:K.lookup f=some ⟨oc,od,.func (PySem.W.fnOf x qual (Hk st) (Fi st) (zT st) .none kV doc pm an cdv ct),osl⟩)
  (c:PySem.W.codeIn K cdv qual=true) (k:PySem.W.keepIn K (.ref f)=true):Fun K x qual st f (PySem.W.fnOf x qual (Hk st) (Fi st) (zT st) .none kV doc pm an cdv ct):=⟨⟨oc,od,kV,doc,pm,an,cdv,ct,osl,rfl,l,c⟩,k⟩
end
def ET {A:Yn} {k:Nat} (hr:Room k A):A.units+1<cLine:=Nat.lt_of_le_of_lt (Nat.add_le_add_left (by decide:1<=64) _) hr.units
section
variable {X:Cx}
def pv (i:Nat) {x:Str} {pos:Pos} (hN:X.N[i]?=some x:=by rfl) (hv:Vis X.env.scope x:=by first|exact Or.inl rfl|exact Or.inr (Or.inl rfl)|exact Or.inr (Or.inr rfl)) (hd:(x==("__debug__" : Str))=false:=by decide)
  (hcd:(x==("__classdict__" : Str))=false:=by decide):PE X (.Name x pos) (NY i):=Tg hN hv hd hcd
end
def Dr {A B:Prop} (h:B):if false=true then A else B:=by
 rw[AE B3];exact h
def Dn {A B:Prop} (h:A):if true=true then A else B:=by
 rw[AB rfl];exact h
section
variable [DecidableEq κ]
noncomputable def BV (kvs:List (κ × V)) (k:κ):Option V:=(kvs.find? λkv=>decide (kv.1=k)).map (·.2)
noncomputable def Bj (kvs:List (κ × V)) (k:κ) (v:V):List (κ × V) :=
 if (kvs.any λkv=>decide (kv.1=k))=true then kvs.map (λkv=>if kv.1=k then (kv.1,v) else kv) else kvs++[(k,v)]
def Ja {p:κ × V} {r:List (κ × V)} {k:κ} (e:p.1=k):BV (p::r) k=some p.2:=by simp[BV,Ep,e]
def JP {p:κ × V} {r:List (κ × V)} {k:κ} (e:¬ p.1=k):BV (p::r) k=BV r k:=by simp[BV,Ep,e]
theorem Pc (k:κ):∀ kvs:List (κ × V),(kvs.any λkv=>decide (kv.1=k))=(BV kvs k).isSome
 |[]=>rfl
 |p::r=>by
  rw[List.any_cons];by_cases e:p.1=k
  .simp only[Ja e,BB e,Bool.true_or,Option.isSome_some]
  .rw[JP e,Aa e,Bool.false_or];exact Pc k r
def Hq (kvs:List (κ × V)) (k:κ) (v:V):(Bj kvs k v).length<=kvs.length+1:=by
 unfold Bj;split
 .rw[AH];omega
 .rw[AU,C1,List.length_nil];omega
def DL.isSome_eq (r:DL o u):o.isSome=u.isSome:=by
 cases o with
 |none=>cases u with
  |none=>rfl
  |some _=>exact (show False from r).elim
 |some _=>cases u with
  |none=>exact (show False from r).elim
  |some _=>rfl
def DL.getD (r:DL o u) (rd:zr d d'):zr (o.getD d) (u.getD d'):=by
 cases o with
 |none=>cases u with
  |none=>exact rd
  |some _=>exact (show False from r).elim
 |some _=>cases u with
  |none=>exact (show False from r).elim
  |some _=>exact r
def KV.val {kvs:List (κ × V)} {vs:List (κ × Value)} (r:KV kvs vs) (k:κ):DL (BV kvs k) (valueAt vs k):=by
 unfold KV at r;induction r with
 |nil=>exact True.intro
 | @cons p q ps qs h t ih=>
  obtain ⟨h1,h2⟩:=h;by_cases e:p.1=k
  .have e':q.1=k:=h1.symm.trans e;have b:valueAt (q::qs) k=some q.2:=by simp[valueAt,Ep,e']
   rw[Ja e,b];exact h2
  .have e':¬ q.1=k:=λz=>e (h1.trans z);have b:valueAt (q::qs) k=valueAt qs k:=by simp[valueAt,Ep,e']
   rw[JP e,b];exact ih
def KV.any (r:KV kvs vs) (k:κ):(kvs.any λkv=>decide (kv.1=k))=vs.any λkv=>decide (kv.1=k):=by
 unfold KV at r;induction r with
 |nil=>rfl
 |cons h t ih=>rw[List.any_cons,List.any_cons,ih,h.1]
def KV.repl (r:KV kvs vs) (k:κ) (ry:zr y u) :
  KV (kvs.map λkv=>if kv.1=k then (kv.1,y) else kv) (vs.map λkv=>if kv.1=k then (kv.1,u) else kv):=by
 unfold KV at r ⊢;induction r with
 |nil=>exact .nil
 | @cons p q ps qs h t ih=>
  rw[AX,AX];refine .cons ?_ ih;obtain ⟨h1,h2⟩:=h;by_cases e:p.1=k
  .rw[AB e,AB (h1.symm.trans e)];exact ⟨h1,ry⟩
  .rw[AE e,AE (λz=>e (h1.trans z))];exact ⟨h1,h2⟩
def KV.put (r:KV kvs vs) (k:κ) (ry:zr y u):KV (Bj kvs k y) (stored vs k u):=by
 unfold Bj stored;rw[r.any k];by_cases e:(vs.any λkv=>decide (kv.1=k))=true
 .rw[AB e,AB e];exact r.repl k ry
 .rw[AE e,AE e];exact Paired.snoc r ⟨rfl,ry⟩
def KV.length (r:KV kvs vs):kvs.length=vs.length:=Paired.length r
end
def GJ (r:zr (kV k) u):(CP P w).is k u=true:=by
 cases k with
 |inl i=>obtain ⟨t,e⟩:=(show ∃ t,u=Value.int i t from r);subst e;exact bC P w i t
 |inr x=>obtain ⟨t,e⟩:=(show ∃ t,u=Value.str x t from r);subst e;exact Wi P w x t
theorem OC:∀ {ks:List Key} {us:Yf},zg (ks.map kV) us->ItemsAre (CP P w) ks us
 |[],_,r=>by rw[List.map_nil]at r;cases r;exact .nil
 |k::ks,_,r=>by
  rw[AX]at r;cases r with
  |cons h t=>exact .cons (GJ h) (OC t)
abbrev KT (H:Hp):List (List Key × V)->List (List Key × Addr × Value)->Prop:=Paired λp q=>p.1=q.1/\H q.2.1=some (.tup (p.1.map kV))/\zr p.2 q.2.2
def KT.val {H:Hp} {kvs:List (List Key × V)} {xs:List (List Key × Addr × Value)} (r:KT H kvs xs) (k:List Key):DL (BV kvs k) ((atKey xs k).map (·.2)):=by
 induction r with
 |nil=>exact True.intro
 | @cons p q ps qs h t ih=>
  obtain ⟨h1,_,h2⟩:=h;by_cases e:p.1=k
  .have e':q.1=k:=h1.symm.trans e;have b:atKey (q::qs) k=some q.2:=by simp[atKey,Ep,e']
   rw[Ja e,b];exact h2
  .have e':¬ q.1=k:=λz=>e (h1.trans z);have b:atKey (q::qs) k=atKey qs k:=by simp[atKey,Ep,e']
   rw[JP e,b];exact ih
def KT.repl (r:KT H kvs xs) (k:List Key) (ry:zr y u) :
  KT H (kvs.map λkv=>if kv.1=k then (kv.1,y) else kv) (xs.map (putAt k u)):=by
 induction r with
 |nil=>exact .nil
 | @cons p q ps qs h t ih=>
  rw[AX,AX];refine .cons ?_ ih;obtain ⟨h1,h2,h3⟩:=h;unfold putAt;by_cases e:p.1=k
  .rw[AB e,AB (h1.symm.trans e)];exact ⟨h1,h2,ry⟩
  .rw[AE e,AE (λz=>e (h1.trans z))];exact ⟨h1,h2,h3⟩
def KT.put (r:KT H kvs xs) (k:List Key) (hb:H b=some (.tup (k.map kV))) (ry:zr y u) :
  KT H (Bj kvs k y) (storedH xs k b u):=by
 have e:(kvs.any λkv=>decide (kv.1=k))=(atKey xs k).isSome:=by
  rw[Pc,(r.val k).isSome_eq,Option.isSome_map]
 unfold Bj storedH;rw[e];by_cases q:(atKey xs k).isSome=true
 .rw[AB q,AB q];exact r.repl k ry
 .rw[AE q,AE q];exact Paired.snoc r ⟨rfl,hb,ry⟩
def KT.keeps (r:KT H kvs xs) (ht:∀ b ys,H b=some (.tup ys)->H' b=some (.tup ys)):KT H' kvs xs :=
 Paired.mapP r λ_ _ z=>⟨z.1,ht _ _ z.2.1,z.2.2⟩
def Rk (ok:HOk P w H h) (e:Rd H a u):Ar P w H h a u:=e.ok ok
def Gp (ok:HOk P w H h) (e:Rd H a (.dK kvs)):kvs.length<=sizeLine/\(a==sysModules)=false /\ ∃ vs,KV kvs vs/\h.DictOf (CP P w) a vs :=
 show Ar P w H h a (.dK kvs)from Rk ok e
def R3 (ok:HOk P w H h) (e:H a=some (.dK kvs)):kvs.length<=sizeLine/\(a==sysModules)=false /\ ∃ vs,KV kvs vs/\h.DictOf (CP P w) a vs:=Gp ok (.inl e)
def F7 (ok:HOk P w H h) (e:H a=some (.tup (ks.map kV))):(tupleKind (CP P w)).is h ks a:=by
 obtain ⟨_,its,r,o,h1,h2,⟨n,h3⟩,_⟩:=(show Ar P w H h a (.tup (ks.map kV))from ok a _ e);exact ⟨o,its.toArray,n,h1,h2,h3,by simpa using OC r⟩
def GQ (ok:HOk P w H h) (e:Rd H a (.dT kvs)):kvs.length<=sizeLine/\(a==sysModules)=false /\
  ∃ xs,KT H kvs xs/\h.DictOfH (tupleKind (CP P w)) a xs:=by
 obtain ⟨z,y,xs,r,o,es,ep,h1,h2,h3,h4,h5⟩:=(show Ar P w H h a (.dT kvs)from Rk ok e);refine ⟨z,y,xs,r,o,es,ep,h1,h2,h3,h4,λx hx=>?_,h5⟩;have all:∀ {l:List (List Key × V)} {m:List (List Key × Addr × Value)},KT H l m -> ∀ x∈m,(tupleKind (CP P w)).is h x.1 x.2.1:=by
  intro l m q;induction q with
  |nil=>intro x hx;exact nomatch hx
  | @cons p q ps qs hq t ih=>
   intro x hx;rcases AK.mp hx with e|hx
   .subst e;exact F7 ok (by rw[<-hq.1];exact hq.2.1)
   .exact ih x hx
 exact all r x hx
def K8 (ok:HOk P w H h) (e:H a=some (.dT kvs)):kvs.length<=sizeLine/\(a==sysModules)=false /\
  ∃ xs,KT H kvs xs/\h.DictOfH (tupleKind (CP P w)) a xs:=GQ ok (.inl e)
def CA (H:Hp) (a:Yt) (y:V) (r:Option V):Prop :=
 (∃ kvs k,Rd H a (.dK kvs)/\y=kV k/\r=BV kvs k) \/ ∃ kvs k b,Rd H a (.dT kvs)/\y=.ref b/\H b=some (.tup (k.map kV))/\r=BV kvs k
def Dh (H:Hp) (a:Yt) (y v:V) (H':Hp):Prop :=
 (∃ kvs k,H a=some (.dK kvs)/\y=kV k/\kvs.length<sizeLine/\H'=upd H a (.dK (Bj kvs k v))) \/
 ∃ kvs k b,H a=some (.dT kvs)/\y=.ref b/\H b=some (.tup (k.map kV))/\kvs.length<sizeLine/\H'=upd H a (.dT (Bj kvs k v))
theorem CA.k {H:Hp} {a:Yt} {kvs:List (Key × V)} {k:Key} (e:H a=some (.dK kvs)):CA H a (kV k) (BV kvs k):=.inl ⟨kvs,k,.inl e,rfl,rfl⟩
def CA.t {k:List Key} (e:H a=some (.dT kvs)) (eb:H b=some (.tup (k.map kV))):CA H a (.ref b) (BV kvs k):=.inr ⟨kvs,k,b,.inl e,rfl,eb,rfl⟩
theorem Dh.k {H:Hp} {a:Yt} {kvs:List (Key × V)} {k:Key} {v:V} (e:H a=some (.dK kvs)) (hl:kvs.length<sizeLine):Dh H a (kV k) v (upd H a (.dK (Bj kvs k v))):=.inl ⟨kvs,k,e,rfl,hl,rfl⟩
def Dh.t {kvs:List (List Key × V)} {k:List Key} (e:H a=some (.dT kvs)) (eb:H b=some (.tup (k.map kV))) (hl:kvs.length<sizeLine) :
  Dh H a (.ref b) v (upd H a (.dT (Bj kvs k v))):=.inr ⟨kvs,k,b,e,rfl,eb,hl,rfl⟩
def Inv.big (I:Inv X zB Y H s):sysModules<s.heap.objs.size:=by
 have h:mainGlobals<s.heap.objs.size:=(I.mod.glob.keeps I.bk).lt;exact Nat.lt_trans (by decide) h
def cF (hu:A.units+1<cLine) (I:Inv X zB Y H s) (g:CA H a y (some v)) (ry:zr y u) (h:∀ w' s',Inv X zB Y H s'->zr v w'->Q w' s') :
  wpAny (model X.prog X.w) A (getItem (.ref a) u) Q E s:=by
 rcases g with ⟨kvs,k,e,ey,l⟩|⟨kvs,k,b,e,ey,eb,l⟩
 .subst ey;obtain ⟨z,hd,vs,rel,dd⟩:=Gp I.hok e;obtain ⟨w',hw,rw'⟩:=DL.some_of (v:=v) (o:=valueAt vs k) (by rw[l];exact rel.val k);exact wpAny_getItem_of (GJ ry) dd.mapOf hw (h w' _ (I.tok _) rw')
 .subst ey;cases (show u=Value.ref b from ry);obtain ⟨z,hd,xs,rel,dd⟩:=GQ I.hok e;obtain ⟨w',hw,rw'⟩:=DL.some_of (v:=v) (o:=(atKey xs k).map (·.2)) (by rw[l];exact rel.val k);obtain ⟨p,hp,hp2⟩:=Option.map_eq_some_iff.mp hw;refine wpAny_getItem_heap (tupleKind_room_in1 hu) (F7 I.hok eb) dd hp ?_;rw[hp2];exact h w' _ (I.tok _) rw'
def oE (hu:A.units+1<cLine) (I:Inv X zB Y H s) (g:CA H a y o) (ry:zr y u) (h:∀ s',Inv X zB Y H s'->Q (.bool o.isSome) s') :
  wpAny (model X.prog X.w) A (compareOp .In u (.ref a)) Q E s:=by
 rcases g with ⟨kvs,k,e,ey,l⟩|⟨kvs,k,b,e,ey,eb,l⟩
 .subst ey;obtain ⟨z,hd,vs,rel,dd⟩:=Gp I.hok e;refine wpAny_in_of (GJ ry) hd dd.mapOf ?_;rw[<-(rel.val k).isSome_eq,<-l];exact h _ (I.tok _)
 .subst ey;cases (show u=Value.ref b from ry);obtain ⟨z,hd,xs,rel,dd⟩:=GQ I.hok e;refine wpAny_in_heap (tupleKind_room_in1 hu) (F7 I.hok eb) hd dd ?_;have q:=(rel.val k).isSome_eq;rw[Option.isSome_map]at q;rw[<-q,<-l];exact h _ (I.tok _)
def SV (hu:A.units+1<cLine) (I:Inv X zB Y H s) (g:CA H a y o) (ry:zr y u) (h:∀ s',Inv X zB Y H s'->Q (.bool (!o.isSome)) s') :
  wpAny (model X.prog X.w) A (compareOp .NotIn u (.ref a)) Q E s:=by
 rcases g with ⟨kvs,k,e,ey,l⟩|⟨kvs,k,b,e,ey,eb,l⟩
 .subst ey;obtain ⟨z,hd,vs,rel,dd⟩:=Gp I.hok e;refine wpAny_notIn_of (GJ ry) hd dd.mapOf ?_;rw[<-(rel.val k).isSome_eq,<-l];exact h _ (I.tok _)
 .subst ey;cases (show u=Value.ref b from ry);obtain ⟨z,hd,xs,rel,dd⟩:=GQ I.hok e;refine wpAny_notIn_heap (tupleKind_room_in1 hu) (F7 I.hok eb) hd dd ?_;have q:=(rel.val k).isSome_eq;rw[Option.isSome_map]at q;rw[<-q,<-l];exact h _ (I.tok _)
def JA (I:Inv X zB Y H s) (mu:Mut (H a)) (hs:Heap.SameBut a s.heap h') (he:∃ q,h'.get? a=some q) (new:Ar X.prog X.w (upd H a ob) h' a ob) :
  Inv X zB Y (upd H a ob) { s with heap:=h',toks:=t' } :=
 I.write (x:=a) (e:=a) mu (.inl rfl) (λb q hb z=>(hs.2 b hb).trans z) he new
def Ru (z:kvs.length<=sizeLine) (hd:(a==sysModules)=false) (rel:KV kvs vs) (dd:h'.DictOf (CP P w) a vs) :
  Ar P w H' h' a (.dK kvs):=⟨z,hd,vs,rel,dd⟩
def dB (hu:A.units+1<cLine) (I:Inv X zB Y H s) (g:Dh H a y v H') (ry:zr y u) (rv:zr v r) (h:∀ s',Inv X zB Y H' s'->Q () s') :
  wpAny (model X.prog X.w) A (setItem (.ref a) u r) Q E s:=by
 rcases g with ⟨kvs,k,e,ey,l,eH⟩|⟨kvs,k,b,e,ey,eb,l,eH⟩
 .subst ey eH;obtain ⟨z,hd,vs,rel,dd⟩:=R3 I.hok e;have hz:vs.length<=sizeLine:=by rw[<-rel.length];exact z
  have hl:(Bj kvs k v).length<=sizeLine:=by have:=Hq kvs k v;omega
  refine wpAny_setItem_pairs (hsz:=hz) (GJ ry) dd λh' dd' hs=>h _ ?_;have he:∃ q,h'.get? a=some q:=let ⟨q,_,_,hq,_⟩:=dd';⟨q,hq⟩;exact JA I (by rw[e];exact True.intro) hs he (Ru hl hd (rel.put k rv) dd')
 .subst ey eH;cases (show u=Value.ref b from ry);obtain ⟨z,hd,xs,rel,dd⟩:=K8 I.hok e;have hz:xs.length<=sizeLine:=by rw[<-Paired.length rel];exact z
  have hl:(Bj kvs k v).length<=sizeLine:=by have:=Hq kvs k v;omega
  refine wpAny_setItem_heap (hsz:=hz) (tupleKind_room_in1 hu) (F7 I.hok eb) dd λh' dd' hs=>h _ ?_;obtain ⟨q,es,ep,hq,h2,h3,h4,_,h5⟩:=dd';refine JA I (by rw[e];exact True.intro) hs ⟨q,hq⟩ ⟨hl,hd,_,(rel.put k eb rv).keeps λc ys ec=>?_,q,es,ep,hq,h2,h3,h4,h5⟩;rw[zf (GX ec e (λz=>nomatch z))];exact ec
def Lk (i:Expr):Prop:=∀ ov iv,subscripted i false ov iv=operate [ov,iv] (getItem ov iv)
def W6 {prog:Ym} {w:Yo} {A:Yn} {E:Yc} {s:Yl} {env:Env} {value slice:Expr} {pos:Pos} {T id:String} {Q:Yc}
  (hl:typeLookup (.type T) "__getitem__" = pure (some (.builtin id))) (hs:Lk slice)
  (h:wpAny (model prog w) A (eval value env) (λo s₁=>wpAny (model prog w) A (eval slice env) (λi s₂=>s₂.TypeIs o T/\wpAny (model prog w) A (getItem o i) Q E s₂) E s₁) E s) :
  wpAny (model prog w) A (eval (.Subscript value slice pos) env) Q E s:=by
 refine Subscript_ (AS h (λo s₁ h₁=>AS h₁ (λi s₂ h₂=>?_) λ_ _ x=>x) λ_ _ x=>x);obtain ⟨hT,h₂⟩:=h₂;unfold subscriptTail;refine AA ?_;rw[getitemInPython_of_ne hT.not_modules];refine AA (wpAny_specialOf hT hl ?_);have fin:wpAny (model prog w) A (subscripted slice false o i) (λr s₃=>wpAny (model prog w) A (letTemporaryGo value o r >>= λ_=>pure r) Q E s₃) E s₂:=by
  rw[hs o i];exact wpAny_operating (AS h₂ (λr s₃ h₃=>AA (wpAny_letTemporaryGo (AD h₃))) λ_ _ x=>x)
 first
  |exact AD (AA fin)
  |exact AA (AD (AA fin))
  |exact AA fin
def iP (I:Inv X zB Y H s) (g:CA H a y o):s.TypeIs (.ref a) "dict" := by
 rcases g with ⟨kvs,k,e,_,_⟩|⟨kvs,k,b,e,_,_,_⟩
 .obtain ⟨_,_,vs,_,dd⟩:=Gp I.hok e;exact dd.typeIs
 .obtain ⟨_,_,xs,_,dd⟩:=GQ I.hok e;exact dd.typeIs
noncomputable def Y5 (td ty:TE):TE:=λY H Q=>td Y H λx H1=>ty Y H1 λy H2=>∃ a v,x=.ref a/\CA H2 a y (some v)/\Q v H2
noncomputable def Zs (ty td:TE):TE:=λY H Q=>ty Y H λy H1=>td Y H1 λx H2=>∃ a o,x=.ref a/\CA H2 a y o/\Q (.bl o.isSome) H2
noncomputable def Xo (ty td:TE):TE:=λY H Q=>ty Y H λy H1=>td Y H1 λx H2=>∃ a o,x=.ref a/\CA H2 a y o/\Q (.bl (!o.isSome)) H2
noncomputable def m5 (td ty tv:TE):TS:=λD Y H=>tv Y H λv H1=>td Y H1 λx H2=>ty Y H2 λy H3=>∃ a H4,x=.ref a/\Dh H3 a y v H4/\D.nx Y H4
def i9 (hu:X.A.units+1<cLine) (ho:PE X o td) (hi:PE X i ty) (hs:Lk i):PE X (.Subscript o i pos) (Y5 td ty):=by
 intro zB s Y H Q I h;refine W6 PySem.F.slot_dict_getitem.lookup hs (thn (ho zB s Y H _ I h) λu s1 ⟨x,H1,I1,rx,q1⟩=>thn (hi zB s1 Y H1 _ I1 q1) λiv s2 ⟨y,H2,I2,ry,a,v,ex,g,q2⟩=>?_);subst ex;obtain rfl:u=Value.ref a:=rx;exact ⟨iP I2 g,cF hu I2 g ry λw' s3 I3 rw'=>⟨v,H2,I3,rw',q2⟩⟩
def RI (hu:X.A.units+1<cLine) (hi:PE X i ty) (ho:PE X o td):PC X .In i o (Zs ty td):=by
 intro zB s Y H Q I h;refine thn (hi zB s Y H _ I h) λiv s1 ⟨y,H1,I1,ry,q1⟩=>thn (ho zB s1 Y H1 _ I1 q1) λu s2 ⟨x,H2,I2,rx,a,ov,ex,g,q2⟩=>?_;subst ex;obtain rfl:u=Value.ref a:=rx;exact oE hu I2 g ry λs3 I3=>⟨.bl ov.isSome,H2,I3,rfl,q2⟩
def PR (hu:X.A.units+1<cLine) (hi:PE X i ty) (ho:PE X o td):PC X .NotIn i o (Xo ty td):=by
 intro zB s Y H Q I h;refine thn (hi zB s Y H _ I h) λiv s1 ⟨y,H1,I1,ry,q1⟩=>thn (ho zB s1 Y H1 _ I1 q1) λu s2 ⟨x,H2,I2,rx,a,ov,ex,g,q2⟩=>?_;subst ex;obtain rfl:u=Value.ref a:=rx;exact SV hu I2 g ry λs3 I3=>⟨.bl (!ov.isSome),H2,I3,rfl,q2⟩
def VA (hu:X.A.units+1<cLine) (ho:PE X o td) (hi:PE X i ty) (hv:PE X value tv) (hs:swapsWith value (some (.Subscript o i pos')) pos.line X.env=pure false) :
  PS X (.Assign [.Subscript o i pos'] value pos) (m5 td ty tv):=by
 intro zB s Y H D I h;refine wpAny_Assign_Subscript (thn (hv zB s Y H _ I h) λr s1 ⟨v,H1,I1,rv,q1⟩=>thn (ho zB s1 Y H1 _ I1 q1) λu s2 ⟨x,H2,I2,rx,q2⟩=>thn (hi zB s2 Y H2 _ I2 q2) λiv s3 ⟨y,H3,I3,ry,a,H4,ex,g,q3⟩=>?_) hs;subst ex;obtain rfl:u=Value.ref a:=rx;exact dB hu I3 g ry rv λs4 I4=>⟨Y,H4,I4,q3⟩
def Y3 (h:Heap) (hb:sysModules<h.objs.size):Ar P w H (h.push { cls:=.type "dict", data:=.dict #[] }) h.objs.size (.dK []) :=
 ⟨BD _,beq_eq_false_iff_ne.mpr (Ne.symm (AY hb)),[],.nil,Heap.DictOf.new h⟩
def V8 (h:Heap) (hb:sysModules<h.objs.size):Ar P w H (h.push { cls:=.type "dict", data:=.dict #[] }) h.objs.size (.dT []) :=
 ⟨BD _,beq_eq_false_iff_ne.mpr (Ne.symm (AY hb)),[],.nil,_,#[],0,Ad _ rfl,⟨rfl,rfl,rfl⟩,rfl,rfl,List.nodup_nil⟩
noncomputable def eY:TE:=λ_ H Q=>∀ p,H p=none->Q (.ref p) (upd H p (.dK []))
noncomputable def Sa:TE:=λ_ H Q=>∀ p,H p=none->Q (.ref p) (upd H p (.dT []))
def Zg:PE X (.Dict [] [] pos) eY:=λzB s Y H Q I h=>
 wpAny_Dict_empty ⟨.ref s.heap.objs.size,_,I.laid (a:=s.heap.objs.size) (o:=.dK []) (t':=s.toks) (λ_ _ q=>AN _ q) (AF _) (Y3 s.heap I.big),rfl,h _ (I.hok.fresh (AF _))⟩
def lI:PE X (.Dict [] [] pos) Sa:=λzB s Y H Q I h=>
 wpAny_Dict_empty ⟨.ref s.heap.objs.size,_,I.laid (a:=s.heap.objs.size) (o:=.dT []) (t':=s.toks) (λ_ _ q=>AN _ q) (AF _) (V8 s.heap I.big),rfl,h _ (I.hok.fresh (AF _))⟩
structure M2 (X:Cx) (o:Expr) (m:Str) (apos:Pos) (e f:Expr) (cpos:Pos):Prop where
 base:attributeBase o m X.env (eval o X.env)=eval o X.env
 few:((backTo cpos (starEach [e,f] X.env)).all (λx=> !x.1)&&(backToKw cpos (keywordEach [] X.env)).all (λx=>x.1.isSome)
  && decide (([e,f]:List Expr).length+([]:List Keyword).length+(if ([]:List Keyword).isEmpty then 0 else 1)<30))=true
 line:(apos.endLine==cpos.line)=true
 trees:backTo cpos (starEach [e,f] X.env)=[(false,eval e X.env),(false,eval f X.env)]
def IsD (H:Hp) (a:Yt):Prop:=(∃ kvs,Rd H a (.dK kvs)) \/ ∃ kvs,Rd H a (.dT kvs)
def Pg (I:Inv X zB Y H s) (d:IsD H a) :
  s.TypeIs (.ref a) "dict" /\ (∀ b,Value.ref a=.ref b -> ∃ ob,s.heap.get? b=some ob/\ob.dict=none)/\(a==sysModules)=false:=by
 rcases d with ⟨kvs,e⟩|⟨kvs,e⟩
 .obtain ⟨_,hd,vs,_,dd⟩:=Gp I.hok e;refine ⟨dd.typeIs,λb q=>?_,hd⟩;cases q;obtain ⟨ob,_,_,h1,h2,_⟩:=dd;exact ⟨ob,h1,h2.2.1⟩
 .obtain ⟨_,hd,xs,_,dd⟩:=GQ I.hok e;refine ⟨dd.typeIs,λb q=>?_,hd⟩;cases q;obtain ⟨ob,_,_,h1,h2,_⟩:=dd;exact ⟨ob,h1,h2.2.1⟩
def TC (hu:A.units+1<cLine) (I:Inv X zB Y H s) (g:CA H a y o) (ry:zr y u) (rd:zr d r) (h:∀ w' s',Inv X zB Y H s'->zr (o.getD d) w'->Q w' s') :
  wpAny (model X.prog X.w) A (call (.builtin "dict.get") [.ref a,u,r]) Q E s:=by
 rcases g with ⟨kvs,k,e,ey,l⟩|⟨kvs,k,b,e,ey,eb,l⟩
 .subst ey;obtain ⟨z,hd,vs,rel,dd⟩:=Gp I.hok e;refine call_meetsIn PySem.F.slot_dict_get dd.typeIs PySem.F.entry_dict_get (PySem.F.args_dict_get_3 _ _ _) (meets_dict_get_default (CP X.prog X.w) a (GJ ry) hd r) ⟨_,dd.mapOf,h _ _ (I.tok _) ?_⟩;rw[l];exact (rel.val k).getD rd
 .subst ey;cases (show u=Value.ref b from ry);obtain ⟨z,hd,xs,rel,dd⟩:=GQ I.hok e;refine call_meetsIn PySem.F.slot_dict_get dd.typeIs PySem.F.entry_dict_get (PySem.F.args_dict_get_3 _ _ _) (meetsH_dict_get_default (tupleKind (CP X.prog X.w)) a b hd r) ⟨tupleKind_room_in1 hu,k,xs,F7 I.hok eb,dd,h _ _ (I.tok _) ?_⟩;rw[l];exact (rel.val k).getD rd
noncomputable def RZ (td ty tx:TE):TE:=λY H Q=>td Y H λx H1=>∃ a,x=.ref a/\IsD H1 a/\ty Y H1 λy H2=>tx Y H2 λz H3=>∃ o,CA H3 a y o/\Q (o.getD z) H3
def XX (hu:X.A.units+1<cLine) (ho:PE X o td) (he:PE X e ty) (hf:PE X f tx) (m:M2 X o "get" apos e f cpos):PE X (.Call (.Attribute o "get" apos) [e,f] [] cpos) (RZ td ty tx):=by
 intro zB s Y H Q I h;refine wpAny_Call_method m.base m.few m.line PySem.F.plainAttrs_dict PySem.F.slot_dict_get PySem.F.type_dict_get (thn (ho zB s Y H _ I h) λu s1 ⟨x,H1,I1,rx,a,ex,d,q1⟩=>?_);subst ex;obtain rfl:u=Value.ref a:=rx;obtain ⟨t1,t2,_⟩:=Pg I1 d;refine ⟨t1,t2,?_⟩;rw[m.trees];refine Calls.callWith_builtin rfl (Calls.evalArgs_plain (Fq (thn (he zB s1 Y H1 _ I1 q1) λiv s2 ⟨y,H2,I2,ry,q2⟩=>
  Fq (thn (hf zB s2 Y H2 _ I2 q2) λfv s3 ⟨z,H3,I3,rz,ov,g,q3⟩=>Calls.spliced_nil ?_))))
 exact TC hu I3 g ry rz λw' s4 I4 rw'=>⟨_,H3,I4,rw',q3⟩
theorem Gn:∀ (names:List (Str × NameKind)) (n:Nat) (acc:Yv),cellsFrom n names acc=cellsFrom n names []++acc
 |[],_,_=>rfl
 | (name,kind)::r,n,acc=>by
  unfold cellsFrom;split
  .rw[Gn r (n+1) ((name,n)::acc),Gn r (n+1) [(name,n)],Bm];rfl
  .exact Gn r n acc
theorem Hy {α:Type} (x:Str):∀ (l r:List (Str × α)),(l++r).lookup x=(match l.lookup x with|some c=>some c|none=>r.lookup x)
 |[],r=>rfl
 | (k,v)::l,r=>by
  rw[List.cons_append,FY,FY];cases hb:x==k with
  |true=>rfl
  |false=>exact Hy x l r
theorem LQ:∀ (names:List (Str × NameKind)) (acc:Yv),
  (∀ y∈names,y.2=.free -> ∃ c,env.cells.lookup y.1=some c) ->
  (∀ x c,acc.lookup x=some c->env.cells.lookup x=some c) ->
  ∃ cl:List (Str × Addr),(forIn names acc (λ(p:Str × NameKind) (cs:Yv)=>(do
    if p.2 == .free then
     let a <- cellOf env p.1;pure (ForInStep.yield ((p.1,a)::cs))
    else pure (ForInStep.yield cs):Sem (ForInStep (List (Str × Addr))))))=pure cl /\
   (∀ x c,cl.lookup x=some c->env.cells.lookup x=some c) /\
   (∀ x,(acc.lookup x).isSome=true->(cl.lookup x).isSome=true) /\ ∀ y∈names,y.2=.free->(cl.lookup y.1).isSome=true
 |[],acc,_,ha=>⟨acc,by rw[List.forIn_nil],ha,λ_ h=>h,λ_ h=>nomatch h⟩
 | (n,k)::r,acc,hf,ha=>by
  rw[List.forIn_cons];by_cases hk:k=.free
  .subst hk;obtain ⟨c,hc⟩:=hf (n,.free) Ae rfl;have hco:cellOf env n=pure c:=by unfold cellOf;rw[hc]
   obtain ⟨cl,e,h1,h2,h3⟩:=LQ r ((n,c)::acc) (λy hy=>hf y (Ai _ hy)) (λx d hx=>by
    rw[FY]at hx;cases hb:x==n with
    |true=>rw[hb]at hx;cases hx;rw[beq_iff_eq.mp hb];exact hc
    |false=>rw[hb]at hx;exact ha x d hx)
   refine ⟨cl,?_,h1,λx hx=>h2 x ?_,λy hy hk=>?_⟩
   .rw[<-e];simp only[beq_self_eq_true,if_true,hco];rfl
   .rw[FY];cases hb:x==n with
    |true=>rfl
    |false=>exact hx
   .rcases AK.mp hy with z|z
    .subst z;exact h2 n (by rw[FY];simp)
    .exact h3 y z hk
  .obtain ⟨cl,e,h1,h2,h3⟩:=LQ r acc (λy hy=>hf y (Ai _ hy)) ha;refine ⟨cl,?_,h1,h2,λy hy hk'=>?_⟩
   .rw[<-e];have:(k==NameKind.free)=false:=by simpa using hk
    simp only[this,Dz,if_false];rfl
   .rcases AK.mp hy with z|z
    .subst z;exact absurd hk' hk
    .exact h3 y z hk'
def eF (hf:∀ y∈scope.names,y.2=.free -> ∃ c,env.cells.lookup y.1=some c) :
  ∃ cl,closureFor scope env=pure cl/\(∀ x c,cl.lookup x=some c->env.cells.lookup x=some c) /\ ∀ y∈scope.names,y.2=.free->(cl.lookup y.1).isSome=true:=by
 obtain ⟨cl,e,h1,_,h3⟩:=LQ (env:=env) scope.names [] hf (λx c h=>nomatch h);refine ⟨cl,?_,h1,h3⟩;unfold closureFor;rw[show (pure cl:Sem _)=pure cl >>= pure from rfl,<-e]
def JO
  (hQ:Q (newEnv scope s.heap.objs.size globals (cellsFrom (s.heap.objs.size+1) scope.names cl) qual none .none (some env) builtinsNs)
   { s with heap:=pushCells (s.heap.push { cls:=.type "dict", data:=.dict #[] }) scope.names }) :
  wpAny M A (newFunctionEnv scope globals cl [] qual none .none (some env)) Q E s:=by
 simp only[newFunctionEnv,Option.isSome_some,if_true];refine AA (wpAny_alloc ?_);refine AA (wpAny_layCells _ (λname kind cells=>by cases hkc:kind==NameKind.cell <;> simp[hkc]) _ _ _ _ ?_);rw[show ({ s with heap:=s.heap.push { cls:=.type "dict", data:=.dict #[] } }:Shared).heap.objs.size=s.heap.objs.size+1 from Bu ..];exact AA (AD (AD hQ))
noncomputable def zQ (X:Cx) (zB:Yd) (scope:Y0) (cl:Yv) (s:Yl) (H:Hp) (fp:Yg):Cx where
 prog:=X.prog
 w:=X.w
 K:=X.K
 mg:=X.mg
 base:=X.base
 A:=X.A
 N:=X.N
 s₀:=s
 H₀:=H
 env:={ scope:=relabel scope X.env,locals:=s.heap.objs.size+1,globals:=X.env.globals,cells:=cellsFrom (s.heap.objs.size+1+1) scope.names cl,qual:=X.env.qual,func:=none,code:=X.env.code,frame:=X.env.frame,builtins:=X.env.builtins }
 outer:=X.stack
 stack:=X.stack
 ex:=fp
 fn:=λx=>decide (scope.names.lookup x=some .cell)
 calm:=X.calm
 pn:=X.pn++zB
 xe:=λ_ _=>False
theorem G5 {scope:Y0} {env:Env} (x:Str):∀ {names:List (Str × NameKind)} {k:NameKind},
  (names.map λ(n,k)=>if (k==NameKind.free&&env.scope.kind == .function&&env.kindOf n==some .cell) then (n,NameKind.cell) else (n,k)).lookup x=some k ->
  names.lookup x=some k\/(names.lookup x=some .free/\k=.cell)
 |[],_,h=>by simp at h
 | (n,k')::r,k,h=>by
  rw[AX]at h;by_cases hc:(k'==NameKind.free&&env.scope.kind == .function&&env.kindOf n==some .cell)=true
  .simp only[hc,if_true]at h;rw[FY]at h ⊢;cases hb:x==n with
   |true=>
    rw[hb]at h;simp only[BR,beq_iff_eq]at hc;exact .inr ⟨by rw[hc.1.1],(CB h).symm⟩
   |false=>rw[hb]at h;exact G5 (scope:=scope) x h
  .simp only[hc,Dz,if_false]at h;rw[FY]at h ⊢;cases hb:x==n with
   |true=>rw[hb]at h;exact .inl h
   |false=>rw[hb]at h;exact G5 (scope:=scope) x h
theorem Kd:∀ (names:List (Str × NameKind)) (n:Nat) (acc:Yv) (x:Str) (c:Yt),(x,c)∈cellsFrom n names acc->(x,c)∉acc->(x,NameKind.cell)∈names
 |[],_,_,_,_,h,h'=>absurd h h'
 | (name,kind)::r,n,acc,x,c,h,h'=>by
  unfold cellsFrom at h;split at h
  .rename_i hk;by_cases e:(x,c)=(name,n)
   .cases e;rw[beq_iff_eq]at hk;subst hk;exact Ae
   .exact Ai _ (Kd r _ _ x c h λz=>(AK.mp z).elim e h')
  .exact Ai _ (Kd r _ _ x c h h')
structure CompScope (X:Cx) (scope:Y0):Prop where
 kind:scope.kind=.function
 names:∀ y∈scope.names,y.2=.local->scope.names.lookup y.1=some .local
 cells:∀ y∈scope.names,y.2=.cell->scope.names.lookup y.1=some .cell
 free:∀ y∈scope.names,y.2=.free->X.env.kindOf y.1=some .cell\/X.env.kindOf y.1=some .free
def Jt (S:CompScope X scope) (I:Inv X zB Y H s) (hf:∀ b∈fp,BX X zB H b) (ho:∀ b:Nat,b∈fp->b<s.heap.objs.size)
  (c1:∀ x c,cl.lookup x=some c->X.env.cells.lookup x=some c) (c2:∀ y∈scope.names,y.2=.free->(cl.lookup y.1).isSome=true)
  (hl:σc.length=Y.length) (hσ:∀ (i:Nat) x v,X.N[i]?=some x->σc[i]?=some (some v)->(relabel scope X.env).names.lookup x≠none->scope.names.lookup x=some .free/\Y[i]?=some (some v))
  (lo:Obj) (hlo:∀ v,lo.data≠.cell v) (hfr:lo.isFreed=false)
  (h4:s4={ s with heap:=pushCells ((s.heap.push lo).push { cls:=.type "dict", data:=.dict #[] }) scope.names }) :
  Inv (zQ X zB scope cl s H fp) [(s.heap.objs.size,lo)] σc H s4:=by
 subst h4;have sz1:(s.heap.push lo).objs.size=s.heap.objs.size+1:=Bu ..;have sz2:((s.heap.push lo).push { cls:=.type "dict", data:=.dict #[] }).objs.size=s.heap.objs.size+1+1:=by rw[Bu,sz1]
 have hk:∀ b o,s.heap.get? b=some o->(pushCells ((s.heap.push lo).push { cls:=.type "dict", data:=.dict #[] }) scope.names).get? b=some o:=λb o e=>
  pushCells_keeps _ _ b o (AN _ (AN _ e))
 have ok:=cellsFrom_ok scope.names ((s.heap.push lo).push { cls:=.type "dict", data:=.dict #[] }) (s.heap.objs.size+1+1) [] ⟨λ_ _ hm=>(nomatch hm),List.Pairwise.nil⟩ (by rw[sz2];exact AF _);rw[sz2]at ok;have look:∀ x c,(cellsFrom (s.heap.objs.size+1+1) scope.names cl).lookup x=some c->((cellsFrom (s.heap.objs.size+1+1) scope.names []).lookup x=some c)\/((cellsFrom (s.heap.objs.size+1+1) scope.names []).lookup x=none/\X.env.cells.lookup x=some c):=λx c e=>by
  rw[Gn,Hy]at e;cases q:(cellsFrom (s.heap.objs.size+1+1) scope.names []).lookup x with
  |some d=>rw[q]at e;exact .inl e
  |none=>rw[q]at e;exact .inr ⟨rfl,c1 x c e⟩
 have old:∀ x (c:Nat),X.env.cells.lookup x=some c->c<s.heap.objs.size:=λx c e=>let ⟨_,q⟩:=I.cell x c e;q.lt;have new:∀ x (c:Nat),(cellsFrom (s.heap.objs.size+1+1) scope.names []).lookup x=some c->s.heap.objs.size+1+1<=c:=λx c e=>(ok.empty x c (DJ e)).2;have own:∀ x,scope.names.lookup x=some .cell -> ∃ c,(cellsFrom (s.heap.objs.size+1+1) scope.names []).lookup x=some c:=λx e=>K3 e;have cne:∀ x (c:Nat),(cellsFrom (s.heap.objs.size+1+1) scope.names cl).lookup x=some c->c<s.heap.objs.size\/s.heap.objs.size+1+1<=c:=λx c e=>by
  rcases look x c e with q|⟨_,q⟩
  .exact .inr (new x c q)
  .exact .inl (old x c q)
 refine ⟨⟨I.ok.mod,S.kind,I.ok.glob,I.ok.blt,DQ _,λx y c h1 h2=>?_,λx hx=>?_,λx c hx h=>?_,I.ok.hd,I.ok.frames,.inl rfl,λb hb=>⟨?_,λx c e z=>?_⟩,I.bs,AW I.ok.bsz I.sz,λb o e hb=>?_,λb hb z=>?_,I.stack,I.stkFree⟩,
  rfl,I.bare,Un.kept hk,⟨λ_=>none,?_,λi x v h1 h2 h3=>?_⟩,λx c e=>?_,I.hok.fresh (DQ _),λx c e=>?_,λp hp=>?_,I.hok.kept hk,hl.trans I.len⟩
 .rcases look x c h1 with a|⟨_,a⟩ <;> rcases look y c h2 with b|⟨_,b⟩
  .exact name_of_addr ok.apart (DJ a) (DJ b)
  .exact absurd (Nat.lt_of_le_of_lt (new x c a) (old y c b)) (by omega)
  .exact absurd (Nat.lt_of_le_of_lt (new y c b) (old x c a)) (by omega)
  .exact I.ok.inj x y c a b
 .have hx':(relabel scope X.env).names.lookup x=some .cell\/(relabel scope X.env).names.lookup x=some .free:=hx;have go:scope.names.lookup x=some .cell\/scope.names.lookup x=some .free:=by
   rcases hx' with q|q
   .rcases G5 (scope:=scope) x q with z|z
    .exact .inl z
    .exact .inr z.1
   .rcases G5 (scope:=scope) x q with z|z
    .exact .inr z
    .exact .inr z.1
  show ∃ c,(cellsFrom (s.heap.objs.size+1+1) scope.names cl).lookup x=some c;rw[Gn,Hy];rcases go with q|q
  .obtain ⟨c,e⟩:=own x q;exact ⟨c,by rw[e]⟩
  .cases e:(cellsFrom (s.heap.objs.size+1+1) scope.names []).lookup x with
   |some d=>exact ⟨d,rfl⟩
   |none=>exact Option.isSome_iff_exists.mp (c2 (x,.free) (DJ q) rfl)
 .obtain ⟨d,e⟩:=own x (D1 hx);have h':(cellsFrom (s.heap.objs.size+1+1) scope.names cl).lookup x=some c:=h;rw[Gn,Hy,e]at h';cases h';exact AW (AW (DQ _) (DQ _)) (new x _ e)
 .exact AY (CY (ho b hb))
 .rcases look x c e with q|⟨_,q⟩
  .have a:=new x c q;rw[z]at a;exact absurd (Nat.lt_of_le_of_lt a (ho b hb)) (by omega)
  .exact (hf b hb).2.2.2.2.1 x c q z
 .rcases (hf b hb).2.2.2.1 with z|z
  .exact I.ok.noex b o e z
  .exact absurd (As (AI e) (AW I.ok.bsz z)) (BZ _)
 .rcases AK.mp (I.stkSub b z)with q|q
  .exact (hf b hb).2.1 q
  .exact (hf b hb).2.2.1 q
 .have q:((s.heap.push lo).push { cls:=.type "dict", data:=.dict #[] }).Ns (s.heap.push lo).objs.size (λ_=>none):=Heap.Ns.new ..;rw[sz1]at q;exact q.keeps (pushCells_keeps _ _)
 .have h3':(relabel scope X.env).names.lookup x≠none:=by
   rcases h3 with z|z|z <;> (intro q;have z':(relabel scope X.env).names.lookup x=_:=z;rw[q]at z';cases z')
  obtain ⟨fr,hv⟩:=hσ i x v h1 h2 h3';obtain ⟨m,hn,hlk⟩:=I.loc;have kx:=S.free (x,.free) (DJ fr) rfl;obtain ⟨u,rv,lk⟩:=hlk i x v h1 hv (by rcases kx with z|z;exact .inr (.inl z);exact .inr (.inr z));refine ⟨u,rv,?_⟩;rcases lk with ⟨z,_⟩|⟨_,c,e,ic⟩
  .rcases kx with k|k <;> (rw[k]at z;cases z)
  .have kind:(relabel scope X.env).names.lookup x=some .cell\/(relabel scope X.env).names.lookup x=some .free:=by
    cases q:(relabel scope X.env).names.lookup x with
    |none=>exact absurd q h3'
    |some k=>
     rcases G5 (scope:=scope) x q with z|z
     .rw[fr]at z;cases z;exact .inr rfl
     .rw[z.2];exact .inl rfl
   refine .inr ⟨kind,c,?_,ic.keeps hk⟩;show (cellsFrom (s.heap.objs.size+1+1) scope.names cl).lookup x=some c;rw[Gn,Hy];obtain ⟨d,hd⟩:=Option.isSome_iff_exists.mp (c2 (x,.free) (DJ fr) rfl);have:=c1 x d hd;rw[e]at this;cases this;have nn:(cellsFrom (s.heap.objs.size+1+1) scope.names []).lookup x=none:=by
    cases q:(cellsFrom (s.heap.objs.size+1+1) scope.names []).lookup x with
    |none=>rfl
    |some d'=>
     have z:=S.cells (x,.cell) (Kd scope.names _ [] x d' (DJ q) λz=>nomatch z) rfl;rw[fr]at z;cases z
   rw[nn];exact hd
 .rcases look x c e with q|⟨_,q⟩
  .exact ⟨none,(ok.empty x c (DJ q)).1⟩
  .obtain ⟨v,z⟩:=I.cell x c q;exact ⟨v,z.keeps hk⟩
 .rcases look x c e with q|⟨_,q⟩
  .exact I.hok.fresh (by have:=new x c q;omega)
  .exact I.freeC x c q
 .have hp':p∈X.pn++zB\/p=(s.heap.objs.size,lo):=by
   rcases Ak.mp hp with z|z
   .exact .inl z
   .exact .inr (by simpa using z)
  rcases hp' with z|z
  .obtain ⟨e,n,ne,nf,d⟩:=I.pin p z;have lt:(p.1:Nat)<s.heap.objs.size:=AI e;refine ⟨hk _ _ e,n,?_,λq=>?_,d⟩
   .exact AY (CY lt)
   .rcases AK.mp (I.stkSub _ q)with r|r
    .exact ne r
    .exact nf r
  .subst z;refine ⟨pushCells_keeps _ _ _ _ (AN _ (Ad _ hfr)),I.hok.fresh (AF _),?_,λq=>?_,hlo⟩
   .show s.heap.objs.size≠s.heap.objs.size+1;omega
   .rcases AK.mp (I.stkSub _ q)with r|r
    .exact absurd I.lt (by rw[<-r];exact BZ _)
    .exact I.nofs (AF _) r
noncomputable def clr (own:Yj) (Y:St):St:=own.foldl (λY i=>Y.set i none) Y
theorem GK:∀ (own:Yj) (Y:St),(clr own Y).length=Y.length
 |[],_=>rfl
 |i::r,Y=>by
  show (clr r (Y.set i none)).length=_;rw[GK r,Bh]
theorem FQ:∀ (own:Yj) (Y:St) (j:Nat) (v:V),(clr own Y)[j]?=some (some v)->Y[j]?=some (some v)/\j∉own
 |[],_,_,_,h=>⟨h,λz=>nomatch z⟩
 |i::r,Y,j,v,h=>by
  have h':(clr r (Y.set i none))[j]?=some (some v):=h;obtain ⟨a,b⟩:=FQ r _ j v h';rw[ED]at a;split at a
  .split at a <;> cases a
  .rename_i hne;exact ⟨a,λz=>(AK.mp z).elim (λe=>hne e.symm) b⟩
def Ext (a b:St):Prop:=b.length=a.length /\ ∀ (i:Nat) v,a[i]?=some (some v)->b[i]?=some (some v)
def Ext.refl (a:St):Ext a a:=⟨rfl,λ_ _ h=>h⟩
def Ext.set (e:Ext (clr own Y) a) (h:i∈own):Ext (clr own Y) (a.set i (some v)):=by
 refine ⟨by rw[Bh];exact e.1,λj u q=>?_⟩;rw[ED];split
 .rename_i z;exact absurd (z▸h) (FQ own Y j u q).2
 .exact e.2 j u q
def Ds (X:Cx) (ifs:Yi) (t:TT):Prop :=
 ∀ (zB:Yd) (s:Yl) (Y:St) (H:Hp) (Q:Bool->Hp->Prop),Inv X zB Y H s->t Y H Q ->
  wpAny (model X.prog X.w) X.A (forIn ifs true λc r=>if r=true then do let ok <- isTrue c X.env (eval c X.env);pure (ForInStep.yield ok) else pure (ForInStep.yield r)) (TP X zB Y Q) X.xe s
noncomputable def fX:TT:=λ_ H Q=>Q true H
def Wt:Ds X [] fX:=λ_ _ _ H _ I h=>wpAny_tests_nil ⟨H,I,h⟩
def cH (h:PT X c t):Ds X [c] t:=λzB s Y H Q I hq=>wpAny_tests_one (h zB s Y H Q I hq)
def Sq (I:Nat->Shared->Prop)
  (turn:∀ n s,I n s->wpAny (model prog w) A (pyNext it) (λr s₁=>match r with
   |none=>R (.ok .next) s₁
   |some v=>wpAny (model prog w) A (letOwnedTupleGo target it v) (λ_ s₁'=>wpAny (model prog w) A (assign target env v) (λ_ s₂=>
     wpAny (model prog w) A (forIn ifs true λc r=>if r=true then do let ok <- isTrue c env (eval c env);pure (ForInStep.yield ok) else pure (ForInStep.yield r)) (λok s₃=>
      if ok=true then wpAny (model prog w) A (eval elt env) (λx s₄=>
       wpAny (model prog w) A (call (.builtin "list.append") [acc,x]) (λ_ s₅=>∃ m,m<n/\I m s₅) (λ_ _=>False) s₄) (λ_ _=>False) s₃
      else ∃ m,m<n/\I m s₃) (λ_ _=>False) s₂) (λ_ _=>False) s₁') (λ_ _=>False) s₁) (λ_ _=>False) s)
  (n:Nat) (h:I n s) :
  codeAny (model prog w) A (.compLoop (.ListComp elt [⟨target,iter,ifs,0⟩] scope pos) 0 it acc env) R s:=by
 refine codeAny_loop rfl I (λn s hI=>?_) n h;show wpAny _ A ((compTurn (.ListComp elt [⟨target,iter,ifs,0⟩] scope pos) 0 it acc env).onRaise (λx=>do noteFrame x env;theTreesLotGoes x)) _ _ s;refine wpAny_noted ?_;rw[compTurn_list];refine AA (CU (AA (AS (turn n s hI) (λr s₁ h₁=>?_) λ_ _ h'=>h'.elim)));cases r with
 |none=>exact AD h₁
 |some v=>
  refine AA (AS h₁ (λ_ s₁' h₁'=>?_) λ_ _ h'=>h'.elim);refine AA (AS h₁' (λ_ s₂ h₂=>AA (AS h₂ (λok s₃ h₃=>?_) λ_ _ h'=>h'.elim)) λ_ _ h'=>h'.elim);cases ok with
  |false=>exact AD ⟨rfl,h₃⟩
  |true=>
   exact AA (AA (AS h₃ (λx s₄ h₄=>AA (AS h₄ (λ_ s₅ h₅=>AD (AD ⟨rfl,h₅⟩)) λ_ _ h'=>h'.elim)) λ_ _ h'=>h'.elim))
noncomputable def LZ (own:Yj) (wi:TI) (g:TG) (tc:TT) (te:TE):TE:=λY H Q=>wi Y H λJ H1=>∃ W:Nat->Nat->List V->Hp->Prop,(∃ m,W 0 m [] H1) /\ ∀ i m ys H,W i m ys H ->
 (J.stop i H/\ys.length<=sizeLine /\ ∀ D,H D=none->Q (.ref D) (upd H D (.lst ys))) \/
 (J.go i H /\ ∀ x H',J.yld i H x H'->g x (clr own Y) H' λσ2 H2=>Ext (clr own Y) σ2/\tc σ2 H2 λb H3=>
  if b=true then te σ2 H3 λv H4=>ys.length<sizeLine /\ ∃ m',m'<m/\W (i+1) m' (ys++[v]) H4 else ∃ m',m'<m/\W (i+1) m' ys H3)
noncomputable abbrev zo (its:List Value) (n:Nat):Obj:={ cls:=.type "list", data:=.seq its.toArray n }
def Inv.repin (I:Inv X (pl++[(D,o)]) Y H s) (hpl:∀ p∈X.pn++pl,p.1≠D) (hs:Heap.SameBut D s.heap h') (hD:X.s₀.heap.objs.size<=D) (hc:∀ x c,X.env.cells.lookup x=some c->c≠D)
  (e:h'.get? D=some o') (hn:∀ v,o'.data≠.cell v):Inv X (pl++[(D,o')]) Y H { s with heap:=h' }:=by
 obtain ⟨e0,n0,ne0,nf0,d0⟩:=I.pin (D,o) (by simp);have I1:Inv X pl Y H s:=I.pins_of λp hp=>I.pin p (by simp[hp]);have I2:Inv X pl Y H { s with heap:=h' }:=I1.turned (t':=s.toks) (it:=D) (λb u hb q=>hs.extBut b u hb q) n0 ne0 (.inr hD) hc hpl;exact I2.pins_of λp hp=>by
  rcases Ak.mp hp with z|z
  .exact I2.pin p (Ap _ z)
  .have:p=(D,o'):=by simpa using z
   subst this;exact ⟨e,n0,ne0,nf0,hn⟩
section
variable {pos:Pos}
 {own:Yj} {g:TG} {tc:TT} {te:TE} {E:Yc}
structure CompIn (X:Cx) (scope:Y0) (own:Yj):Prop where
 sc:CompScope X scope
 nm:∀ (i:Nat) x,X.N[i]?=some x->i∈own\/scope.names.lookup x=none\/scope.names.lookup x=some .free
def KD (x:Str) (h:scope.names.lookup x=none):(relabel scope env).names.lookup x=none:=by
 cases q:(relabel scope env).names.lookup x with
 |none=>rfl
 |some k=>
  rcases G5 (scope:=scope) x q with z|z
  .rw[h]at z;cases z
  .rw[h]at z;cases z.1
def Qy (C:CompIn X scope own) (hcalm:X.calm=true) (I:Inv X zB Y H s) (T:Turn X.prog X.w X.K tg J fp it tn) (st:tn 0 s.heap) (hf:∀ b∈fp,BX X zB H b)
  (c1:∀ x c,cl.lookup x=some c->X.env.cells.lookup x=some c) (c2:∀ y∈scope.names,y.2=.free->(cl.lookup y.1).isSome=true)
  (hg:PG (zQ X zB scope cl s H fp) tg g) (hi:Ds (zQ X zB scope cl s H fp) ifs tc) (he:PE (zQ X zB scope cl s H fp) elt te)
  {RR:Value->Addr->Result->Shared->Prop} {QQ:List V->Hp->Prop} {W:Nat->Nat->List V->Hp->Prop} {m0:Nat} (w0:W 0 m0 [] H)
  (turn:∀ i m ys H,W i m ys H->(J.stop i H/\ys.length<=sizeLine/\QQ ys H) \/
   (J.go i H /\ ∀ x H',J.yld i H x H'->g x (clr own Y) H' λσ2 H2=>Ext (clr own Y) σ2/\tc σ2 H2 λb H3=>
    if b=true then te σ2 H3 λv H4=>ys.length<sizeLine /\ ∃ m',m'<m/\W (i+1) m' (ys++[v]) H4 else ∃ m',m'<m/\W (i+1) m' ys H3))
  (fin:∀ σc H' s' its n ys,Inv (zQ X zB scope cl s H fp) [(s.heap.objs.size,zo its n)] σc H' s'->zg ys its->ys.length<=sizeLine->QQ ys H'->RR (.ref s.heap.objs.size) (s.heap.objs.size+1) (.ok .next) s') :
  wpAny (model X.prog X.w) X.A (newList []) (λacc s₃=>wpAny (model X.prog X.w) X.A (newFunctionEnv scope X.env.globals cl [] X.env.qual none .none (some X.env)) (λcenv s₄=>
   codeAny (model X.prog X.w) X.A (.compStart (.ListComp elt [⟨tg,iter,ifs,0⟩] scope pos) 0 (.ref it) acc { cenv with scope:=relabel scope X.env }) (RR acc cenv.locals) s₄) E s₃) E s:=by
 have ob:∀ b:Nat,b∈fp->b<s.heap.objs.size:=λb hb=>let ⟨_,e,_⟩:=T.obj 0 _ st b hb;AI e;refine Ba (JO ?_);have sz1:(s.heap.push (zo [] 0)).objs.size=s.heap.objs.size+1:=Bu ..;have I4:=Jt (X:=X) (zB:=zB) (Y:=Y) (σc:=clr own Y) (H:=H) (s:=s) (scope:=scope) (cl:=cl) (fp:=fp) C.sc I hf ob c1 c2 (GK own Y) (λi x v h1 h2 h3=>by
  obtain ⟨a,b⟩:=FQ own Y i v h2;rcases C.nm i x h1 with z|z|z
  .exact absurd z b
  .exact absurd (KD x z) h3
  .exact ⟨z,a⟩) (zo [] 0) (by intro v z;cases z) rfl rfl
 have st4:tn 0 (pushCells ((s.heap.push (zo [] 0)).push { cls:=.type "dict", data:=.dict #[] }) scope.names):=T.keep 0 _ _ st λb _ o e=>pushCells_keeps _ _ b o (AN _ (AN _ e));unfold newEnv;rw[sz1];have hDfp:s.heap.objs.size∉fp:=λz=>BZ _ (ob _ z);have hcD:∀ x c,(zQ X zB scope cl s H fp).env.cells.lookup x=some c->c≠s.heap.objs.size:=λx c e z=>by
  obtain ⟨v,o,ho,hd⟩:=I4.cell x c e;obtain ⟨q,_⟩:=I4.pin (s.heap.objs.size,zo [] 0) (by simp);rw[z,q]at ho;cases ho;cases hd
 have fpk:∀ {H':Hp} {pl:Yd},(∀ b∈fp,H' b=none)->(∀ p∈pl,p.1=s.heap.objs.size) -> ∀ b∈fp,BX (zQ X zB scope cl s H fp) pl H' b:=λ{H' pl} hn hp b hb=>
  ⟨hn b hb,(I4.ok.exf b hb).1,I4.ok.exfs b hb,.inl hb,(I4.ok.exf b hb).2,λp hq=>by
   rcases Ak.mp hq with z|z
   .exact (hf b hb).2.2.2.2.2 p z
   .intro e;have e2:=hp p z;rw[e]at e2;exact hDfp (e2▸hb)⟩
 have loop:codeAny (model X.prog X.w) X.A (.compLoop (.ListComp elt [⟨tg,iter,ifs,0⟩] scope pos) 0 (.ref it) (.ref s.heap.objs.size) (zQ X zB scope cl s H fp).env) (RR (.ref s.heap.objs.size) (s.heap.objs.size+1))
   { s with heap:=pushCells ((s.heap.push (zo [] 0)).push { cls:=.type "dict", data:=.dict #[] }) scope.names }:=by
  refine Sq (λn s'=>∃ i H' ys its k,Inv (zQ X zB scope cl s H fp) [(s.heap.objs.size,zo its k)] (clr own Y) H' s'/\zg ys its/\tn i s'.heap/\(∀ b∈fp,H' b=none)/\W i n ys H') ?_ m0
   ⟨0,H,[],[],0,I4,.nil,st4,λb hb=>(hf b hb).1,w0⟩
  rintro n s5 ⟨i,H5,ys,its,k,I5,r5,st5,f5,w5⟩;have pinD:∀ p∈[(s.heap.objs.size,zo its k)],p.1=s.heap.objs.size:=λp hp=>by
   have:p=(s.heap.objs.size,zo its k):=by simpa using hp
   rw[this]
  rcases turn i n ys H5 w5 with ⟨stop,hz,qq⟩|⟨go,step⟩
  .refine thn (T.done (zQ X zB scope cl s H fp) rfl rfl rfl hcalm i _ s5 _ H5 _ I5 (fpk f5 pinD) st5 stop) λr s6 ⟨hr,I6⟩=>?_;subst hr;exact fin _ H5 s6 its k ys I6 r5 hz qq
  .refine thn (T.item (zQ X zB scope cl s H fp) rfl rfl rfl hcalm i _ s5 _ H5 _ I5 (fpk f5 pinD) st5 go) λr s6 ⟨u,hr,h6⟩=>?_;subst hr;refine thn h6 λ_ s7 ⟨x,H7,I7,r7,y7,st7,f7⟩=>?_;have I7':=I7.pinned (fpk f7 pinD) (T.obj _ _ st7);refine thn (hg _ s7 _ H7 x u _ I7' r7 (step x H7 y7)) λ_ s8 ⟨σ8,H8,I8,x8,q8⟩=>?_;refine thn (hi _ s8 σ8 H8 _ I8 q8) λok s9 ⟨H9,I9,q9⟩=>?_;have back:∀ {s':Yl} {Hx:Hp},Inv (zQ X zB scope cl s H fp) ([(s.heap.objs.size,zo its k)]++EF fp s7.heap) σ8 Hx s'->tn (i+1) s'.heap /\ ∀ b∈fp,Hx b=none:=λ{s' Hx} Ix=>
    ⟨T.keep _ _ _ st7 λb hb o e=>(Ix.pin (b,o) (Ap _ (Ap _ (Dl hb e)))).1,λb hb=>by
     obtain ⟨o,e,d⟩:=T.obj _ _ st7 b hb;exact (Ix.pin (b,o) (Ap _ (Ap _ (Dl hb e)))).2.1⟩
   cases ok with
   |false=>
    obtain ⟨m',hm,w'⟩:=q9;obtain ⟨b1,b2⟩:=back I9;exact ⟨m',hm,i+1,H9,ys,its,k,(I9.weak (by rw[x8.1]) x8.2).unpinned,r5,b1,b2,w'⟩
   |true=>
    refine thn (he _ s9 σ8 H9 _ I9 q9) λv s10 ⟨y,H10,I10,r10,hlt,m',hm,w'⟩=>?_;obtain ⟨b1,b2⟩:=back I10;have J10:=(I10.weak (by rw[x8.1]) x8.2).unpinned;obtain ⟨e10,n10,ne10,nf10,d10⟩:=J10.pin (s.heap.objs.size,zo its k) (by simp);have hlen:its.toArray.size<=sizeLine:=by
     have:=r5.length;rw[AQ,<-this];exact Nat.le_of_lt hlt
    refine wpAny_list_append_plain (hsz:=hlen) (show s10.heap.PlainList s.heap.objs.size its.toArray from ⟨k,e10⟩) λh' hl' hs'=>?_;obtain ⟨k',e'⟩:=hl';have e'':h'.get? s.heap.objs.size=some (zo (its++[v]) k'):=by rw[e'];simp[zo]
    refine ⟨m',hm,i+1,H10,ys++[y],its++[v],k',?_,r5.append (.cons r10 .nil),T.keep _ _ _ b1 λb hb o e=>hs'.extBut b o (λz=>hDfp (z▸hb)) e,b2,w'⟩;refine Inv.repin (pl:=[]) J10 (λp hp=>?_) hs' (AF _) hcD e'' (by intro v z;cases z);rw[Au]at hp;have hp':p∈X.pn++zB:=hp;exact AY (AI (I.pin p hp').1)
 exact codeAny_compStart_list loop (T.self _ 0 _ _ _ st4 loop)
end
def KY (I:Inv X zB Y H s) (hf:∀ b∈fp,BX X zB H b)
  (Ic:Inv (zQ X zB scope cl s H fp) [(s.heap.objs.size,zo its n)] σc H' s') (rv:zg ys its) (hz:ys.length<=sizeLine) (hs:Heap.SameBut (s.heap.objs.size+1) s'.heap h') :
  Inv X zB Y (upd H' s.heap.objs.size (.lst ys)) { s' with heap:=h' }/\H' s.heap.objs.size=none:=by
 obtain ⟨eD,nD,_⟩:=Ic.pin (s.heap.objs.size,zo its n) (by simp);have nC:H' (s.heap.objs.size+1)=none:=Ic.free;have eD':h'.get? s.heap.objs.size=some (zo its n):=hs.extBut _ _ (AY (DK _)) eD;have lt1:∀ {b:Yt} {o:Obj},s.heap.get? b=some o->b≠s.heap.objs.size+1/\b≠s.heap.objs.size:=λe=>⟨AY (CY (AI e)),AY (AI e)⟩;have tr:∀ b u,H' b=some u->b≠s.heap.objs.size+1/\b≠s.heap.objs.size:=λb u e=>⟨λz=>(by rw[z,nC]at e;cases e),λz=>(by rw[z,nD]at e;cases e)⟩;refine ⟨?_,nD⟩;have B:=Ic.base;have un:Un (frs X.stack) fp H (upd H' s.heap.objs.size (.lst ys)) s.heap h':=by
  refine ⟨λb o e q hb hx=>hs.extBut b o (lt1 e).1 (B.keep b o e q hb hx),λb o e q hb hx=>?_,λb o e q hx=>?_,λb o e hx=>?_,λb xs e=>?_,λb o xs e=>?_,λb ps e=>?_⟩
  .obtain ⟨sl,e1⟩:=B.slot b o e q hb hx;exact ⟨sl,hs.extBut b _ (lt1 e).1 e1⟩
  .rw[zf (lt1 e).2];exact B.free b o e q hx
  .obtain ⟨o',e1⟩:=B.there b o e hx;exact ⟨o',hs.extBut b _ (lt1 e).1 e1⟩
  .have q:=B.tups b xs e;rw[zf (tr b _ q).2];exact q
  .have q:=B.frzs b o xs e;rw[zf (tr b _ q).2];exact q
  .obtain ⟨more,q⟩:=B.tbls b ps e;exact ⟨more,by rw[zf (tr b _ q).2];exact q⟩
 have hok:HOk X.prog X.w (upd H' s.heap.objs.size (.lst ys)) h':=λb u e=>by
  by_cases hb:b=s.heap.objs.size
  .subst hb;rw[CV]at e;cases e;exact ⟨hz,its,n,rv,eD'⟩
  .rw[zf hb]at e;refine (Ic.hok b u e).stay (λc v hc q=>hs.extBut c v ?_ q) (λc q=>by rw[zf (tr c _ q).2];exact q) λc xs q=>by rw[zf (tr c _ q).2];exact q
   rcases hc with z|z
   .rw[z];exact (tr b u e).1
   .exact (tr c _ z).1
 exact I.call' (s':={ s' with heap:=h' }) (ch:=fp) Ic.os un hok Ic.bare λb hb=>⟨(hf b hb).2.2.2.1,(hf b hb).2.1,(hf b hb).2.2.2.2.1,(hf b hb).2.2.2.2.2⟩
structure CompParts (X:Cx) (scope:Y0) (tg:Expr) (ifs:Yi) (elt:Expr) (g:TG) (tc:TT) (te:TE):Prop where
 g:∀ zB cl s H fp,PG (zQ X zB scope cl s H fp) tg g
 c:∀ zB cl s H fp,Ds (zQ X zB scope cl s H fp) ifs tc
 e:∀ zB cl s H fp,PE (zQ X zB scope cl s H fp) elt te
def CompScope.closure (S:CompScope X scope) (I:Inv X zB Y H s) :
  ∃ cl,closureFor scope X.env=pure cl/\(∀ x c,cl.lookup x=some c->X.env.cells.lookup x=some c) /\ ∀ y∈scope.names,y.2=.free->(cl.lookup y.1).isSome=true :=
 eF λy hy hk=>I.ok.has y.1 (S.free y hy hk)
def iN (C:CompIn X scope own) (hcalm:X.calm=true) (hi:PI X tg iter wi) (p:CompParts X scope tg ifs elt g tc te) (hs:∀ x,foldedSetIterable iter X.env x=pure x:=by intro _;rfl) :
  PE X (.ListComp elt [⟨tg,iter,ifs,0⟩] scope pos) (LZ own wi g tc te):=by
 intro zB s Y H Q I h;obtain ⟨cl,hcl,c1,c2⟩:=C.sc.closure I;rw[eval_ListComp];refine Hg (use:=none) rfl hs hcl C.sc.kind C.sc.names (thn (hi zB s Y H _ I h) λv s1 h1=>thn h1 λitv s2 h2=>?_);obtain ⟨it,fp,tn,J,H2,e,I2,T,st2,f2,W,⟨m0,w0⟩,turn⟩:=h2;subst e;refine Qy C hcalm I2 T st2 f2 c1 c2 (p.g _ _ _ _ _) (p.c _ _ _ _ _) (p.e _ _ _ _ _) (RR:=λacc C r s'=>compPost (model X.prog X.w) X.A X.xe none (EP X zB Y Q) acc C r s') (QQ:=λys H=>∀ D,H D=none->Q (.ref D) (upd H D (.lst ys))) w0 turn ?_;intro σc H' s' its n ys Ic rv hz qq;obtain ⟨m,hn,_⟩:=Ic.loc;refine ⟨m,hn,λh' hs'=>?_⟩;obtain ⟨J',nD⟩:=KY I2 f2 Ic rv hz hs';exact ⟨.ref s2.heap.objs.size,_,J',rfl,qq _ nD⟩
def jN (hN:X.N.Nodup) (hi':X.N[i]?=some x) (hx:Loc X.env.scope x) (hfn:X.fn x=true\/X.env.scope.names.lookup x=some .local)
  (C:CompIn X scope own) (hcalm:X.calm=true) (hi:PI X tg iter wi) (p:CompParts X scope tg ifs elt g tc te)
  (hsw:swapsWith (.ListComp elt [⟨tg,iter,ifs,0⟩] scope pos) (some (.Name x pos')) pos''.line X.env=pure true) (hs:∀ x,foldedSetIterable iter X.env x=pure x:=by intro _;rfl) :
  PS X (.Assign [.Name x pos'] (.ListComp elt [⟨tg,iter,ifs,0⟩] scope pos) pos'') (Hz (LZ own wi g tc te) (Cu i)):=by
 intro zB s Y H D I h;obtain ⟨cl,hcl,c1,c2⟩:=C.sc.closure I;rw[exec_Assign_Name_used _ _ _ _ hsw];refine AA (CU (AA ?_))
 refine AA (AS (Hg (use:=some (assign (.Name x pos') X.env)) (Q:=λ_ s'=>SP X zB D .next s') rfl hs hcl C.sc.kind C.sc.names
  (thn (hi zB s Y H _ I h) λv s1 h1=>thn h1 λitv s2 h2=>?_)) (λ_ s' hq=>AD (AD hq)) λ_ _ e=>e)
 obtain ⟨it,fp,tn,J,H2,e,I2,T,st2,f2,W,⟨m0,w0⟩,turn⟩:=h2;subst e
 refine Qy C hcalm I2 T st2 f2 c1 c2 (p.g _ _ _ _ _) (p.c _ _ _ _ _) (p.e _ _ _ _ _) (RR:=λacc C r s'=>compPost (model X.prog X.w) X.A X.xe (some (assign (.Name x pos') X.env)) (λ_ s'=>SP X zB D .next s') acc C r s')
  (QQ:=λys H=>∀ E,H E=none->Cu i (.ref E) Y (upd H E (.lst ys)) D.nx) w0 turn ?_
 intro σc H' s' its n ys Ic rv hz qq;obtain ⟨m,hn,_⟩:=Ic.loc;obtain ⟨J',nD⟩:=KY (h':=s'.heap) I2 f2 Ic rv hz (.refl ..);obtain ⟨oC,es,ep,hoC,hdC,r1,r2⟩:=id hn;have nC:upd H' s2.heap.objs.size (.lst ys) (s2.heap.objs.size+1)=none:=by rw[zf (Dd (DK _))];exact Ic.free
 have K':Inv X (zB++[(s2.heap.objs.size+1,oC)]) Y (upd H' s2.heap.objs.size (.lst ys)) s':=J'.pins_of λq hq=>by
  rcases Ak.mp hq with z|z
  .exact J'.pin q (Ap _ z)
  .have e:q=(s2.heap.objs.size+1,oC):=by simpa using z
   subst e;refine ⟨hoC,nC,Dd (CY I2.lt),I2.nofs (DQ _),λv z=>?_⟩;have z':oC.data=.cell v:=z;rw[hdC]at z';cases z'
 refine thn (NK hN hi' hx hfn _ s' Y _ (.ref s2.heap.objs.size) (.ref s2.heap.objs.size) _ K' rfl (qq _ nD)) λ_ s'' ⟨Y'',H'',I'',q''⟩=>?_;obtain ⟨eC,_⟩:=I''.pin (s2.heap.objs.size+1,oC) (by simp);refine ⟨m,⟨oC,es,ep,eC,hdC,r1,r2⟩,λh' hs'=>⟨Y'',H'',?_,q''⟩⟩;have I3:Inv X zB Y'' H'' s'':=I''.unpinned;obtain ⟨_,nC'',neC,_,_⟩:=I''.pin (s2.heap.objs.size+1,oC) (by simp);refine I3.turned (t':=s''.toks) (it:=s2.heap.objs.size+1) (λb o hb e=>hs'.extBut b o hb e) nC'' neC (.inr (AW I2.sz (DQ _))) (λx c e z=>?_) (λq hq z=>?_)
 .obtain ⟨v,o,ho,hd⟩:=I3.cell x c e;rw[z,eC]at ho;cases ho;rw[hdC]at hd;cases hd
 .obtain ⟨e,_⟩:=I2.pin q hq;exact AY (CY (AI e)) z
noncomputable abbrev Bw (elt t1 i1:Expr) (f1:Yi) (t2 i2:Expr) (f2:Yi) (scope:Y0) (pos:Pos):Expr:=.ListComp elt [⟨t1,i1,f1,0⟩,⟨t2,i2,f2,0⟩] scope pos
def aU (elt t1 i1:Expr) (f1:Yi) (t2 i2:Expr) (f2:Yi) (scope:Y0) (pos:Pos) (it acc:Yu) (env:Env) :
  compTurn (Bw elt t1 i1 f1 t2 i2 f2 scope pos) 0 it acc env=(do
   standAt i1.pos;match <- pyNext it with
   |none=>pure (.done .next)
   |some v=>
    letOwnedTupleGo t1 it v;assign t1 env v;let mut ok:=true
    for c in f1 do
     if ok then ok <- isTrue c env (eval c env)
    if ok then
     let x <- eval i2 env;standAt i2.pos;let x <- foldedSetIterable i2 env x;let _ <- runOwn (.compStart (Bw elt t1 i1 f1 t2 i2 f2 scope pos) 1 (<- holding [x] (pyIter x)) acc env) env
    again (.compLoop (Bw elt t1 i1 f1 t2 i2 f2 scope pos) 0 it acc env)):=by rfl
def W7 (elt t1 i1:Expr) (f1:Yi) (t2 i2:Expr) (f2:Yi) (scope:Y0) (pos:Pos) (it acc:Yu) (env:Env) :
  compTurn (Bw elt t1 i1 f1 t2 i2 f2 scope pos) 1 it acc env=(do
   standAt i2.pos;match <- pyNext it with
   |none=>pure (.done .next)
   |some v=>
    letOwnedTupleGo t2 it v;assign t2 env v;let mut ok:=true
    for c in f2 do
     if ok then ok <- isTrue c env (eval c env)
    if ok then
     (do let _ <- call (.builtin "list.append") [acc,<-eval elt env])
    again (.compLoop (Bw elt t1 i1 f1 t2 i2 f2 scope pos) 1 it acc env)):=by rfl
def VJ (I:Nat->Shared->Prop)
  (turn:∀ n s,I n s->wpAny (model prog w) A (pyNext it) (λr s₁=>match r with
   |none=>R (.ok .next) s₁
   |some v=>wpAny (model prog w) A (letOwnedTupleGo t2 it v) (λ_ s₁'=>wpAny (model prog w) A (assign t2 env v) (λ_ s₂=>
     wpAny (model prog w) A (forIn f2 true λc r=>if r=true then do let ok <- isTrue c env (eval c env);pure (ForInStep.yield ok) else pure (ForInStep.yield r)) (λok s₃=>
      if ok=true then wpAny (model prog w) A (eval elt env) (λx s₄=>
       wpAny (model prog w) A (call (.builtin "list.append") [acc,x]) (λ_ s₅=>∃ m,m<n/\I m s₅) (λ_ _=>False) s₄) (λ_ _=>False) s₃
      else ∃ m,m<n/\I m s₃) (λ_ _=>False) s₂) (λ_ _=>False) s₁') (λ_ _=>False) s₁) (λ_ _=>False) s)
  (n:Nat) (h:I n s) :
  codeAny (model prog w) A (.compLoop (Bw elt t1 i1 f1 t2 i2 f2 scope pos) 1 it acc env) R s:=by
 refine codeAny_loop rfl I (λn s hI=>?_) n h;show wpAny _ A ((compTurn (Bw elt t1 i1 f1 t2 i2 f2 scope pos) 1 it acc env).onRaise (λx=>do noteFrame x env;theTreesLotGoes x)) _ _ s;refine wpAny_noted ?_;rw[W7];refine AA (CU (AA (AS (turn n s hI) (λr s₁ h₁=>?_) λ_ _ h'=>h'.elim)));cases r with
 |none=>exact AD h₁
 |some v=>
  refine AA (AS h₁ (λ_ s₁' h₁'=>?_) λ_ _ h'=>h'.elim);refine AA (AS h₁' (λ_ s₂ h₂=>AA (AS h₂ (λok s₃ h₃=>?_) λ_ _ h'=>h'.elim)) λ_ _ h'=>h'.elim);cases ok with
  |false=>exact AD ⟨rfl,h₃⟩
  |true=>
   exact AA (AA (AS h₃ (λx s₄ h₄=>AA (AS h₄ (λ_ s₅ h₅=>AD (AD ⟨rfl,h₅⟩)) λ_ _ h'=>h'.elim)) λ_ _ h'=>h'.elim))
def dO
  (h0:codeAny (model prog w) A (.compLoop (Bw elt t1 i1 f1 t2 i2 f2 scope pos) 1 it acc env) R s)
  (h:wpAny (model prog w) A (pyIter it) (λit' s'=>codeAny (model prog w) A (.compLoop (Bw elt t1 i1 f1 t2 i2 f2 scope pos) 1 it' acc env) R s')
   (notedBy (model prog w) A env λx s'=>R (.error x) s') s) :
  codeAny (model prog w) A (.compStart (Bw elt t1 i1 f1 t2 i2 f2 scope pos) 1 it acc env) R s:=by
 refine codeAny_of_tree ?_;show wpAny _ _ ((compStart (Bw elt t1 i1 f1 t2 i2 f2 scope pos) 1 it acc env).onRaise (λx=>do noteFrame x env;standAt theWindowsPlace)) _ _ s;refine wpAny_notedAt ?_;unfold compStart;refine AA (wpAny_askSetting (wpAny_ite ?_));split
 .first
   |exact AA (AD (AD (And.intro rfl h0)))
   |exact AD (And.intro rfl h0)
 .first
   |exact AA (Cm (AA (CU (AA (AS h (λit' s' h'=>AD (And.intro rfl h')) λ_ _ x=>x)))))
   | (refine AA (Cm ?_);show wpAny _ _ (standAt i2.pos >>= _) _ _ s;exact AA (CU (AA (AS h (λit' s' h'=>AD (And.intro rfl h')) λ_ _ x=>x))))
def lQ (hs2:∀ x,foldedSetIterable i2 env x=pure x) (I:Nat->Shared->Prop)
  (turn:∀ n s,I n s->wpAny (model prog w) A (pyNext it) (λr s₁=>match r with
   |none=>R (.ok .next) s₁
   |some v=>wpAny (model prog w) A (letOwnedTupleGo t1 it v) (λ_ s₁'=>wpAny (model prog w) A (assign t1 env v) (λ_ s₂=>
     wpAny (model prog w) A (forIn f1 true λc r=>if r=true then do let ok <- isTrue c env (eval c env);pure (ForInStep.yield ok) else pure (ForInStep.yield r)) (λok s₃=>
      if ok=true then wpAny (model prog w) A (eval i2 env) (λx s₄=>wpAny (model prog w) A (pyIter x) (λit2 s₅=>
       codeAny (model prog w) A (.compStart (Bw elt t1 i1 f1 t2 i2 f2 scope pos) 1 it2 acc env) (λr s₆=>r=.ok .next /\ ∃ m,m<n/\I m s₆) s₅) (λ_ _=>False) s₄) (λ_ _=>False) s₃
      else ∃ m,m<n/\I m s₃) (λ_ _=>False) s₂) (λ_ _=>False) s₁') (λ_ _=>False) s₁) (λ_ _=>False) s)
  (n:Nat) (h:I n s) :
  codeAny (model prog w) A (.compLoop (Bw elt t1 i1 f1 t2 i2 f2 scope pos) 0 it acc env) R s:=by
 refine codeAny_loop rfl I (λn s hI=>?_) n h;show wpAny _ A ((compTurn (Bw elt t1 i1 f1 t2 i2 f2 scope pos) 0 it acc env).onRaise (λx=>do noteFrame x env;theTreesLotGoes x)) _ _ s;refine wpAny_noted ?_;rw[aU];refine AA (CU (AA (AS (turn n s hI) (λr s₁ h₁=>?_) λ_ _ h'=>h'.elim)));cases r with
 |none=>exact AD h₁
 |some v=>
  refine AA (AS h₁ (λ_ s₁' h₁'=>?_) λ_ _ h'=>h'.elim);refine AA (AS h₁' (λ_ s₂ h₂=>AA (AS h₂ (λok s₃ h₃=>?_) λ_ _ h'=>h'.elim)) λ_ _ h'=>h'.elim);cases ok with
  |false=>exact AD ⟨rfl,h₃⟩
  |true=>
   refine AA (AS h₃ (λx s₄ h₄=>AA (CU (AA (wpAny_of_eq (hs2 x) (AA (CF (AS h₄ (λit2 s₅ h₅=>?_) λ_ _ h'=>h'.elim))))))) λ_ _ h'=>h'.elim);refine AA (wpAny_runOwn (codeAny_mono h₅ λr s₆ hr=>?_));obtain ⟨rfl,hr⟩:=hr;exact AD ⟨rfl,hr⟩
def tIn (own2:Yj) (wi2:TI) (g2:TG) (tc2:TT) (te:TE) (σ2:St) (H3:Hp) (ys:List V) (QQ:List V->Hp->Prop):Prop :=
 wi2 σ2 H3 λJ2 H4=>∃ W2:Nat->Nat->List V->Hp->Prop,(∃ m,W2 0 m ys H4) /\ ∀ j m zs H,W2 j m zs H ->
  (J2.stop j H/\QQ zs H) \/
  (J2.go j H /\ ∀ x H',J2.yld j H x H'->g2 x (clr own2 σ2) H' λσ3 H5=>Ext (clr own2 σ2) σ3/\tc2 σ3 H5 λb H6=>
   if b=true then te σ3 H6 λv H7=>zs.length<sizeLine /\ ∃ m',m'<m/\W2 (j+1) m' (zs++[v]) H7 else ∃ m',m'<m/\W2 (j+1) m' zs H6)
section
variable {D:Yt}
 {own2:Yj} {wi2:TI} {g2:TG} {tc2:TT} {te:TE} {R:Yx}
def iK (hxe:C.xe=λ_ _=>False) (hcalm:C.calm=true) (hi:PI C t2 i2 wi2) (hg:PG C t2 g2) (hc:Ds C f2 tc2) (he:PE C elt te) (hD:C.s₀.heap.objs.size<=D)
  (hcD:∀ x c,C.env.cells.lookup x=some c->c≠D) (hpl:∀ p∈C.pn++pl,p.1≠D) (I:Inv C (pl++[(D,zo its k)]) Y H s) (rv:zg ys its) (h:tIn own2 wi2 g2 tc2 te Y H ys QQ)
  (fin:∀ s' H' its' k' zs,Inv C (pl++[(D,zo its' k')]) (clr own2 Y) H' s'->zg zs its'->QQ zs H'->R (.ok .next) s') :
  wpAny (model C.prog C.w) C.A (eval i2 C.env) (λx s₄=>wpAny (model C.prog C.w) C.A (pyIter x) (λit2 s₅=>
   codeAny (model C.prog C.w) C.A (.compStart (Bw elt t1 i1 f1 t2 i2 f2 scope pos) 1 it2 (.ref D) C.env) R s₅) (λ_ _=>False) s₄) (λ_ _=>False) s:=by
 have hpi:=hi _ s Y H _ I h;rw[hxe]at hpi;refine thn hpi λv s1 h1=>thn h1 λitv s2 h2=>?_;obtain ⟨it,fp,tn,J,H2,e,I2,T,st2,f2',W,⟨m0,w0⟩,turn⟩:=h2;subst e;have hDfp:D∉fp:=λz=>(f2' D z).2.2.2.2.2 (D,zo its k) (by simp) rfl;have loop:∀ s',(∃ H',Inv C (pl++[(D,zo its k)]) (clr own2 Y) H' s'/\tn 0 s'.heap/\(∀ b∈fp,H' b=none)/\W 0 m0 ys H')->codeAny (model C.prog C.w) C.A (.compLoop (Bw elt t1 i1 f1 t2 i2 f2 scope pos) 1 (.ref it) (.ref D) C.env) R s':=by
  rintro s' ⟨H',I',st',hn',w'⟩;have fpk:∀ {H':Hp} {its:Yf} {k:Nat},(∀ b∈fp,H' b=none) -> ∀ b∈fp,BX C (pl++[(D,zo its k)]) H' b:=λ{H' its k} hn b hb=>by
   obtain ⟨_,a2,a3,a4,a5,a6⟩:=f2' b hb;refine ⟨hn b hb,a2,a3,a4,a5,λp hp=>?_⟩;rcases Ak.mp hp with z|z
   .exact a6 p (Cc _ z)
   .rcases Ak.mp z with z|z
    .exact a6 p (Ap _ (Cc _ z))
    .have:p=(D,zo its k):=by simpa using z
     rw[this];intro q;have q':D=b:=q;exact hDfp (q'▸hb)
  refine VJ (λn s'=>∃ i H' ys its k,Inv C (pl++[(D,zo its k)]) (clr own2 Y) H' s'/\zg ys its/\tn i s'.heap/\(∀ b∈fp,H' b=none)/\W i n ys H') ?_ m0 ⟨0,H',ys,its,k,I',rv,st',hn',w'⟩;rintro n s5 ⟨i,H5,ys,its,k,I5,r5,st5,f5,w5⟩;rcases turn i n ys H5 w5 with ⟨stop,qq⟩|⟨go,step⟩
  .refine thn (T.done C rfl rfl rfl hcalm i _ s5 _ H5 _ I5 (fpk f5) st5 stop) λr s6 ⟨hr,I6⟩=>?_;subst hr;exact fin s6 H5 its k ys I6 r5 qq
  .refine thn (T.item C rfl rfl rfl hcalm i _ s5 _ H5 _ I5 (fpk f5) st5 go) λr s6 ⟨u,hr,h6⟩=>?_;subst hr;refine thn h6 λ_ s7 ⟨x,H7,I7,r7,y7,st7,f7⟩=>?_;have I7':=I7.pinned (fpk f7) (T.obj _ _ st7);have hgg:=hg _ s7 _ H7 x u _ I7' r7 (step x H7 y7);rw[hxe]at hgg;refine thn hgg λ_ s8 ⟨σ8,H8,I8,x8,q8⟩=>?_;have hcc:=hc _ s8 σ8 H8 _ I8 q8;rw[hxe]at hcc;refine thn hcc λok s9 ⟨H9,I9,q9⟩=>?_;have back:∀ {s':Yl} {Hx:Hp},Inv C ((pl++[(D,zo its k)])++EF fp s7.heap) σ8 Hx s'->tn (i+1) s'.heap /\ ∀ b∈fp,Hx b=none:=λ{s' Hx} Ix=>
    ⟨T.keep _ _ _ st7 λb hb o e=>(Ix.pin (b,o) (Ap _ (Ap _ (Dl hb e)))).1,λb hb=>by
     obtain ⟨o,e,d⟩:=T.obj _ _ st7 b hb;exact (Ix.pin (b,o) (Ap _ (Ap _ (Dl hb e)))).2.1⟩
   cases ok with
   |false=>
    obtain ⟨m',hm,w'⟩:=q9;obtain ⟨b1,b2⟩:=back I9;exact ⟨m',hm,i+1,H9,ys,its,k,(I9.weak (by rw[x8.1]) x8.2).unpinned,r5,b1,b2,w'⟩
   |true=>
    have hee:=he _ s9 σ8 H9 _ I9 q9;rw[hxe]at hee;refine thn hee λv s10 ⟨y,H10,I10,r10,hlt,m',hm,w'⟩=>?_;obtain ⟨b1,b2⟩:=back I10;have J10:=(I10.weak (by rw[x8.1]) x8.2).unpinned;obtain ⟨e10,n10,ne10,nf10,d10⟩:=J10.pin (D,zo its k) (by simp);have hlen:its.toArray.size<=sizeLine:=by
     have:=r5.length;rw[AQ,<-this];exact Nat.le_of_lt hlt
    refine wpAny_list_append_plain (hsz:=hlen) (show s10.heap.PlainList D its.toArray from ⟨k,e10⟩) λh' hl' hs'=>?_;obtain ⟨k',e'⟩:=hl';have e'':h'.get? D=some (zo (its++[v]) k'):=by rw[e'];simp[zo]
    refine ⟨m',hm,i+1,H10,ys++[y],its++[v],k',?_,r5.append (.cons r10 .nil),T.keep _ _ _ b1 λb hb o e=>hs'.extBut b o (λz=>hDfp (z▸hb)) e,b2,w'⟩;exact Inv.repin (pl:=pl) J10 hpl hs' hD hcD e'' (by intro v z;cases z)
 have l0:=loop s2 ⟨H2,I2.weak (GK own2 Y) (λi v h=>(FQ own2 Y i v h).1),st2,λb hb=>(f2' b hb).1,w0⟩;exact dO l0 (T.self _ 0 _ _ _ st2 l0)
end
section
variable {pos:Pos}
 {own own2:Yj} {g g2:TG} {tc tc2:TT} {te:TE} {wi wi2:TI} {E:Yc}
theorem Oe:∀ (own:Yj) (Y:St) (j:Nat),j∉own->(clr own Y)[j]?=Y[j]?
 |[],_,_,_=>rfl
 |i::r,Y,j,h=>by
  show (clr r (Y.set i none))[j]?=_;rw[Oe r _ j (λz=>h (Ai _ z)),AZ (λz=>h (by rw[z];exact Ae))]
def mQ (hsub:∀ i∈own2,i∈own) (C:CompIn X scope own) (hcalm:X.calm=true) (I:Inv X zB Y H s) (T:Turn X.prog X.w X.K t1 J fp it tn) (st:tn 0 s.heap) (hf:∀ b∈fp,BX X zB H b)
  (c1:∀ x c,cl.lookup x=some c->X.env.cells.lookup x=some c) (c2:∀ y∈scope.names,y.2=.free->(cl.lookup y.1).isSome=true)
  (hg:PG (zQ X zB scope cl s H fp) t1 g) (hi:Ds (zQ X zB scope cl s H fp) f1 tc)
  (hi2:PI (zQ X zB scope cl s H fp) t2 i2 wi2) (hg2:PG (zQ X zB scope cl s H fp) t2 g2) (hc2:Ds (zQ X zB scope cl s H fp) f2 tc2) (he:PE (zQ X zB scope cl s H fp) elt te)
  (hs2:∀ x,foldedSetIterable i2 (zQ X zB scope cl s H fp).env x=pure x)
  {RR:Value->Addr->Result->Shared->Prop} {QQ:List V->Hp->Prop} {W:Nat->Nat->List V->Hp->Prop} {m0:Nat} (w0:W 0 m0 [] H)
  (turn:∀ i m ys H,W i m ys H->(J.stop i H/\ys.length<=sizeLine/\QQ ys H) \/
   (J.go i H /\ ∀ x H',J.yld i H x H'->g x (clr own Y) H' λσ2 H2=>Ext (clr own Y) σ2/\tc σ2 H2 λb H3=>
    if b=true then tIn own2 wi2 g2 tc2 te σ2 H3 ys λzs H4=>∃ m',m'<m/\W (i+1) m' zs H4 else ∃ m',m'<m/\W (i+1) m' ys H3))
  (fin:∀ σc H' s' its n ys,Inv (zQ X zB scope cl s H fp) [(s.heap.objs.size,zo its n)] σc H' s'->zg ys its->ys.length<=sizeLine->QQ ys H'->RR (.ref s.heap.objs.size) (s.heap.objs.size+1) (.ok .next) s') :
  wpAny (model X.prog X.w) X.A (newList []) (λacc s₃=>wpAny (model X.prog X.w) X.A (newFunctionEnv scope X.env.globals cl [] X.env.qual none .none (some X.env)) (λcenv s₄=>
   codeAny (model X.prog X.w) X.A (.compStart (Bw elt t1 i1 f1 t2 i2 f2 scope pos) 0 (.ref it) acc { cenv with scope:=relabel scope X.env }) (RR acc cenv.locals) s₄) E s₃) E s:=by
 have ob:∀ b:Nat,b∈fp->b<s.heap.objs.size:=λb hb=>let ⟨_,e,_⟩:=T.obj 0 _ st b hb;AI e;refine Ba (JO ?_);have sz1:(s.heap.push (zo [] 0)).objs.size=s.heap.objs.size+1:=Bu ..;have I4:=Jt (X:=X) (zB:=zB) (Y:=Y) (σc:=clr own Y) (H:=H) (s:=s) (scope:=scope) (cl:=cl) (fp:=fp) C.sc I hf ob c1 c2 (GK own Y) (λi x v h1 h2 h3=>by
  obtain ⟨a,b⟩:=FQ own Y i v h2;rcases C.nm i x h1 with z|z|z
  .exact absurd z b
  .exact absurd (KD x z) h3
  .exact ⟨z,a⟩) (zo [] 0) (by intro v z;cases z) rfl rfl
 have st4:tn 0 (pushCells ((s.heap.push (zo [] 0)).push { cls:=.type "dict", data:=.dict #[] }) scope.names):=T.keep 0 _ _ st λb _ o e=>pushCells_keeps _ _ b o (AN _ (AN _ e));unfold newEnv;rw[sz1];have hDfp:s.heap.objs.size∉fp:=λz=>BZ _ (ob _ z);have hcD:∀ x c,(zQ X zB scope cl s H fp).env.cells.lookup x=some c->c≠s.heap.objs.size:=λx c e z=>by
  obtain ⟨v,o,ho,hd⟩:=I4.cell x c e;obtain ⟨q,_⟩:=I4.pin (s.heap.objs.size,zo [] 0) (by simp);rw[z,q]at ho;cases ho;cases hd
 have fpk:∀ {H':Hp} {pl:Yd},(∀ b∈fp,H' b=none)->(∀ p∈pl,p.1=s.heap.objs.size) -> ∀ b∈fp,BX (zQ X zB scope cl s H fp) pl H' b:=λ{H' pl} hn hp b hb=>
  ⟨hn b hb,(I4.ok.exf b hb).1,I4.ok.exfs b hb,.inl hb,(I4.ok.exf b hb).2,λp hq=>by
   rcases Ak.mp hq with z|z
   .exact (hf b hb).2.2.2.2.2 p z
   .intro e;have e2:=hp p z;rw[e]at e2;exact hDfp (e2▸hb)⟩
 have loop:codeAny (model X.prog X.w) X.A (.compLoop (Bw elt t1 i1 f1 t2 i2 f2 scope pos) 0 (.ref it) (.ref s.heap.objs.size) (zQ X zB scope cl s H fp).env) (RR (.ref s.heap.objs.size) (s.heap.objs.size+1))
   { s with heap:=pushCells ((s.heap.push (zo [] 0)).push { cls:=.type "dict", data:=.dict #[] }) scope.names }:=by
  refine lQ hs2 (λn s'=>∃ i H' ys its k,Inv (zQ X zB scope cl s H fp) [(s.heap.objs.size,zo its k)] (clr own Y) H' s'/\zg ys its/\tn i s'.heap/\(∀ b∈fp,H' b=none)/\W i n ys H') ?_ m0
   ⟨0,H,[],[],0,I4,.nil,st4,λb hb=>(hf b hb).1,w0⟩
  rintro n s5 ⟨i,H5,ys,its,k,I5,r5,st5,f5,w5⟩;have pinD:∀ p∈[(s.heap.objs.size,zo its k)],p.1=s.heap.objs.size:=λp hp=>by
   have:p=(s.heap.objs.size,zo its k):=by simpa using hp
   rw[this]
  rcases turn i n ys H5 w5 with ⟨stop,hz,qq⟩|⟨go,step⟩
  .refine thn (T.done (zQ X zB scope cl s H fp) rfl rfl rfl hcalm i _ s5 _ H5 _ I5 (fpk f5 pinD) st5 stop) λr s6 ⟨hr,I6⟩=>?_;subst hr;exact fin _ H5 s6 its k ys I6 r5 hz qq
  .refine thn (T.item (zQ X zB scope cl s H fp) rfl rfl rfl hcalm i _ s5 _ H5 _ I5 (fpk f5 pinD) st5 go) λr s6 ⟨u,hr,h6⟩=>?_;subst hr;refine thn h6 λ_ s7 ⟨x,H7,I7,r7,y7,st7,f7⟩=>?_;have I7':=I7.pinned (fpk f7 pinD) (T.obj _ _ st7);refine thn (hg _ s7 _ H7 x u _ I7' r7 (step x H7 y7)) λ_ s8 ⟨σ8,H8,I8,x8,q8⟩=>?_;refine thn (hi _ s8 σ8 H8 _ I8 q8) λok s9 ⟨H9,I9,q9⟩=>?_;have back:∀ {σx:St} {s':Yl} {Hx:Hp} {its:Yf} {k:Nat},(clr own Y).length=σx.length->(∀ (i:Nat) v,(clr own Y)[i]?=some (some v)->σx[i]?=some (some v))->Inv (zQ X zB scope cl s H fp) (EF fp s7.heap++[(s.heap.objs.size,zo its k)]) σx Hx s'->Inv (zQ X zB scope cl s H fp) [(s.heap.objs.size,zo its k)] (clr own Y) Hx s'/\tn (i+1) s'.heap /\ ∀ b∈fp,Hx b=none:=λ{σx s' Hx its k} hl hk Ix=>
    ⟨(Ix.weak hl hk).pins_of λp hp=>Ix.pin p (Ap _ (Ap _ hp)),
     T.keep _ _ _ st7 λb hb o e=>(Ix.pin (b,o) (Ap _ (Cc _ (Dl hb e)))).1,λb hb=>by
     obtain ⟨o,e,d⟩:=T.obj _ _ st7 b hb;exact (Ix.pin (b,o) (Ap _ (Cc _ (Dl hb e)))).2.1⟩
   have I9':Inv (zQ X zB scope cl s H fp) (EF fp s7.heap++[(s.heap.objs.size,zo its k)]) σ8 H9 s9:=I9.pins_of λp hp=>I9.pin p (Ap _ (by
    rcases Ak.mp hp with z|z
    .exact Ap _ z
    .exact Cc _ z))
   cases ok with
   |false=>
    obtain ⟨m',hm,w'⟩:=q9;obtain ⟨b0,b1,b2⟩:=back (by rw[x8.1]) x8.2 I9';exact ⟨m',hm,i+1,H9,ys,its,k,b0,r5,b1,b2,w'⟩
   |true=>
    refine iK (C:=zQ X zB scope cl s H fp) rfl hcalm hi2 hg2 hc2 he (AF _) hcD (λp hp=>?_) I9' r5 q9 λs' H' its' k' zs I' rv' q'=>?_
    .rcases Ak.mp hp with z|z
     .exact AY (AI (I.pin p z).1)
     .obtain ⟨hb,_⟩:=O8 z;exact AY (ob _ hb)
    .obtain ⟨m',hm,w'⟩:=q';obtain ⟨b0,b1,b2⟩:=back (by rw[GK own2,x8.1]) (λi v hv=>by rw[Oe own2 _ i (λz=>(FQ own Y i v hv).2 (hsub i z))];exact x8.2 i v hv) I';exact ⟨rfl,m',hm,i+1,H',zs,its',k',b0,rv',b1,b2,w'⟩
 exact codeAny_compStart_list loop (T.self _ 0 _ _ _ st4 loop)
noncomputable def N3 (own own2:Yj) (wi:TI) (g:TG) (tc:TT) (wi2:TI) (g2:TG) (tc2:TT) (te:TE):TE:=λY H Q=>wi Y H λJ H1=>∃ W:Nat->Nat->List V->Hp->Prop,(∃ m,W 0 m [] H1) /\ ∀ i m ys H,W i m ys H ->
 (J.stop i H/\ys.length<=sizeLine /\ ∀ D,H D=none->Q (.ref D) (upd H D (.lst ys))) \/
 (J.go i H /\ ∀ x H',J.yld i H x H'->g x (clr own Y) H' λσ2 H2=>Ext (clr own Y) σ2/\tc σ2 H2 λb H3=>
  if b=true then tIn own2 wi2 g2 tc2 te σ2 H3 ys λzs H4=>∃ m',m'<m/\W (i+1) m' zs H4 else ∃ m',m'<m/\W (i+1) m' ys H3)
structure CompParts2 (X:Cx) (scope:Y0) (t1:Expr) (f1:Yi) (t2 i2:Expr) (f2:Yi) (elt:Expr) (g:TG) (tc:TT) (wi2:TI) (g2:TG) (tc2:TT) (te:TE):Prop where
 g:∀ zB cl s H fp,PG (zQ X zB scope cl s H fp) t1 g
 c:∀ zB cl s H fp,Ds (zQ X zB scope cl s H fp) f1 tc
 w2:∀ zB cl s H fp,PI (zQ X zB scope cl s H fp) t2 i2 wi2
 g2:∀ zB cl s H fp,PG (zQ X zB scope cl s H fp) t2 g2
 c2:∀ zB cl s H fp,Ds (zQ X zB scope cl s H fp) f2 tc2
 e:∀ zB cl s H fp,PE (zQ X zB scope cl s H fp) elt te
 s2:∀ zB cl s H fp x,foldedSetIterable i2 (zQ X zB scope cl s H fp).env x=pure x
def ZU (hsub:∀ i∈own2,i∈own) (C:CompIn X scope own) (hcalm:X.calm=true) (hi:PI X t1 i1 wi) (p:CompParts2 X scope t1 f1 t2 i2 f2 elt g tc wi2 g2 tc2 te) (hs:∀ x,foldedSetIterable i1 X.env x=pure x:=by intro _;rfl) :
  PE X (Bw elt t1 i1 f1 t2 i2 f2 scope pos) (N3 own own2 wi g tc wi2 g2 tc2 te):=by
 intro zB s Y H Q I h;obtain ⟨cl,hcl,c1,c2⟩:=C.sc.closure I;rw[eval_ListComp];refine Hg (use:=none) rfl hs hcl C.sc.kind C.sc.names (thn (hi zB s Y H _ I h) λv s1 h1=>thn h1 λitv s2 h2=>?_);obtain ⟨it,fp,tn,J,H2,e,I2,T,st2,f2,W,⟨m0,w0⟩,turn⟩:=h2;subst e;refine mQ hsub C hcalm I2 T st2 f2 c1 c2 (p.g _ _ _ _ _) (p.c _ _ _ _ _) (p.w2 _ _ _ _ _) (p.g2 _ _ _ _ _) (p.c2 _ _ _ _ _) (p.e _ _ _ _ _) (p.s2 _ _ _ _ _) (RR:=λacc C r s'=>compPost (model X.prog X.w) X.A X.xe none (EP X zB Y Q) acc C r s') (QQ:=λys H=>∀ D,H D=none->Q (.ref D) (upd H D (.lst ys))) w0 turn ?_;intro σc H' s' its n ys Ic rv hz qq;obtain ⟨m,hn,_⟩:=Ic.loc;refine ⟨m,hn,λh' hs'=>?_⟩;obtain ⟨J',nD⟩:=KY I2 f2 Ic rv hz hs';exact ⟨.ref s2.heap.objs.size,_,J',rfl,qq _ nD⟩
end
end L2
namespace L3
open L2
noncomputable abbrev Sv:=List (Option V)
set_option genInjectivity true in
inductive D where
 |non|bl (b:Bool)|int (i:Int)|str (x:Str)|tup (xs:List D)|ref (n:Nat)
set_option genInjectivity true in
inductive MO where
 |lst (xs:List D)|fro (xs:List D)|dict (kvs:List (D × D))|dicT (kvs:List (D × D))|set (xs:List D)|froT (kvs:List (D × D))|froK (kvs:List (D × D))
mutual
def Rep (L:Yg) (H:Hp):D->V->Prop
 |.non,v=>v=.non
 |.bl b,v=>v=.bl b
 |.int i,v=>v=.int i
 |.str x,v=>v=.str x
 |.tup ds,v=>∃ a vs,v=.ref a/\H a=some (.tup vs)/\zR L H ds vs
 |.ref n,v=>∃ a,v=.ref a/\L[n]?=some a
def zR (L:Yg) (H:Hp):List D->List V->Prop
 |[],vs=>vs=[]
 |d::ds,vs=>∃ v r,vs=v::r/\Rep L H d v/\zR L H ds r
end
def zR.length:∀ {ds:List D} {vs:List V},zR L H ds vs->vs.length=ds.length
 |[],_,h=>by unfold zR at h;subst h;rfl
 |d::ds,_,h=>by
  unfold zR at h;obtain ⟨v,r,rfl,_,h2⟩:=h;simp[zR.length h2]
def zR.nil:zR L H [] []:=by unfold zR;rfl
def zR.cons (h:Rep L H d v) (t:zR L H ds vs):zR L H (d::ds) (v::vs):=by
 unfold zR;exact ⟨v,vs,rfl,h,t⟩
def zR.get:∀ {ds:List D} {vs:List V} {i:Nat} {d:D},zR L H ds vs->ds[i]?=some d -> ∃ v,vs[i]?=some v/\Rep L H d v
 |[],_,_,_,_,e=>by simp at e
 |d::ds,_,0,d',h,e=>by
  unfold zR at h;obtain ⟨v,r,rfl,h1,h2⟩:=h;simp at e;subst e;exact ⟨v,rfl,h1⟩
 |d::ds,_,i+1,d',h,e=>by
  unfold zR at h;obtain ⟨v,r,rfl,h1,h2⟩:=h;obtain ⟨u,e1,e2⟩:=zR.get (i:=i) h2 (by simpa using e);exact ⟨u,by simpa using e1,e2⟩
def zR.app:∀ {ds es:List D} {vs ws:List V},zR L H ds vs->zR L H es ws->zR L H (ds++es) (vs++ws)
 |[],_,_,_,h,t=>by unfold zR at h;subst h;exact t
 |d::ds,_,_,_,h,t=>by
  unfold zR at h;obtain ⟨v,r,rfl,h1,h2⟩:=h;exact .cons h1 (zR.app h2 t)
def zR.set (h:Rep L H d v):∀ {ds:List D} {vs:List V} (i:Nat),zR L H ds vs->zR L H (ds.set i d) (vs.set i v)
 |[],_,_,t=>by unfold zR at t;subst t;exact .nil
 |_::_,_,0,t=>by
  unfold zR at t;obtain ⟨v',r,rfl,h1,h2⟩:=t;exact .cons h h2
 |_::_,_,i+1,t=>by
  unfold zR at t;obtain ⟨v',r,rfl,h1,h2⟩:=t;exact .cons h1 (zR.set h i h2)
def zR.drop:∀ {ds:List D} {vs:List V} (n:Nat),zR L H ds vs->zR L H (ds.drop n) (vs.drop n)
 |_,_,0,t=>t
 |[],_,n+1,t=>by unfold zR at t;subst t;exact .nil
 |_::_,_,n+1,t=>by
  unfold zR at t;obtain ⟨v',r,rfl,h1,h2⟩:=t;exact zR.drop n h2
def zR.take:∀ {ds:List D} {vs:List V} (n:Nat),zR L H ds vs->zR L H (ds.take n) (vs.take n)
 |_,_,0,t=> .nil
 |[],_,n+1,t=>by unfold zR at t;subst t;exact .nil
 |_::_,_,n+1,t=>by
  unfold zR at t;obtain ⟨v',r,rfl,h1,h2⟩:=t;exact .cons h1 (zR.take n h2)
def zR.eraseIdx:∀ {ds:List D} {vs:List V} (n:Nat),zR L H ds vs->zR L H (ds.eraseIdx n) (vs.eraseIdx n)
 |[],_,n,t=>by unfold zR at t;subst t;exact .nil
 |_::_,_,0,t=>by
  unfold zR at t;obtain ⟨v',r,rfl,h1,h2⟩:=t;exact h2
 |_::_,_,n+1,t=>by
  unfold zR at t;obtain ⟨v',r,rfl,h1,h2⟩:=t;exact .cons h1 (zR.eraseIdx n h2)
structure Stp (L:Yg) (H:Hp) (L':Yg) (H':Hp):Prop where
 pre:∃ N,L'=L++N
 new:∀ a∈L',a∈L\/H a=none
 old:∀ a o,H a=some o->a∉L->H' a=some o
 tup:∀ a xs,H a=some (.tup xs)->H' a=some (.tup xs)
 frz:∀ a o u,H a=some (.frz o u)->H' a=some (.frz o u)
def Stp.refl (L:Yg) (H:Hp):Stp L H L H:=⟨⟨[],by simp⟩,λ_ h=> .inl h,λ_ _ h _=>h,λ_ _ h=>h,λ_ _ _ h=>h⟩
def Stp.trans (a:Stp L H L1 H1) (b:Stp L1 H1 L2 H2):Stp L H L2 H2:=by
 obtain ⟨N,rfl⟩:=a.pre;obtain ⟨N',rfl⟩:=b.pre;have back:∀ c,c∉L->H1 c=none->H c=none:=λc hc h1=>by
  cases q:H c with
  |none=>rfl
  |some o=>rw[a.old c o q hc]at h1;cases h1
 refine ⟨⟨N++N',by simp⟩,λc hc=>?_,λc o e hc=>?_,λc xs e=>b.tup c xs (a.tup c xs e),λc o u e=>b.frz c o u (a.frz c o u e)⟩
 .by_cases hL:c∈L
  .exact .inl hL
  .rcases b.new c hc with z|z
   .exact a.new c z
   .exact .inr (back c hL z)
 .refine b.old c o (a.old c o e hc) λz=>?_;rcases a.new c z with q|q
  .exact hc q
  .rw[q]at e;cases e
def Stp.grow (h:∀ a o,H a=some o->H' a=some o):Stp L H L H':=⟨⟨[],by simp⟩,λ_ h=> .inl h,λa o e _=>h a o e,λa _ e=>h a _ e,λa _ _ e=>h a _ e⟩
theorem Stp.upd (h:H p=none):Stp L H L (upd H p o):=.grow λa u e=>by rw[zf (DX e h)];exact e
def D6 {L N:Yg} {n:Nat} {a:Yt} (h:L[n]?=some a):(L++N)[n]?=some a:=by
 rw[AJ (AG.mp h).1];exact h
mutual
theorem Rep.stp {L L':Yg} {H H':Hp} (s:Stp L H L' H'):∀ {d:D} {v:V},Rep L H d v->Rep L' H' d v
 |.non,_,h=>by unfold Rep at h ⊢;exact h
 |.bl _,_,h=>by unfold Rep at h ⊢;exact h
 |.int _,_,h=>by unfold Rep at h ⊢;exact h
 |.str _,_,h=>by unfold Rep at h ⊢;exact h
 |.tup ds,_,h=>by
  unfold Rep at h ⊢;obtain ⟨a,vs,rfl,e,r⟩:=h;exact ⟨a,vs,rfl,s.tup a vs e,zR.stp s r⟩
 |.ref n,_,h=>by
  unfold Rep at h ⊢;obtain ⟨a,rfl,e⟩:=h;obtain ⟨N,rfl⟩:=s.pre;exact ⟨a,rfl,D6 e⟩
theorem zR.stp (s:Stp L H L' H'):∀ {ds:List D} {vs:List V},zR L H ds vs->zR L' H' ds vs
 |[],_,h=>by unfold zR at h ⊢;exact h
 |d::ds,_,h=>by
  unfold zR at h ⊢;obtain ⟨v,r,rfl,h1,h2⟩:=h;exact ⟨v,r,rfl,Rep.stp s h1,zR.stp s h2⟩
end
noncomputable def C0:D->Option Key
 |.int i=>some (.inl i)
 |.str x=>some (.inr x)
 |_=>none
noncomputable def GH:List D->Option (List Key)
 |[]=>some []
 |d::r=>match C0 d,GH r with
  |some k,some ks=>some (k::ks)
  |_,_=>none
noncomputable def tkD:D->Option (List Key)
 |.tup ds=>GH ds
 |_=>none
def Aj {κ:Type} (kf:D->Option κ) (L:Yg) (H:Hp):List (D × D)->List (κ × V)->Prop
 |[],vs=>vs=[]
 |p::r,vs=>∃ k v r',vs=(k,v)::r'/\kf p.1=some k/\Rep L H p.2 v/\Aj kf L H r r'
def Aj.stp {κ:Type} {kf:D->Option κ} {L L':Yg} {H H':Hp} (s:Stp L H L' H'):∀ {ps:List (D × D)} {vs:List (κ × V)},Aj kf L H ps vs->Aj kf L' H' ps vs
 |[],_,h=>h
 |p::r,_,h=>by
  obtain ⟨k,v,r',rfl,e,h1,h2⟩:=h;exact ⟨k,v,r',rfl,e,h1.stp s,Aj.stp s h2⟩
def Aj.length {κ:Type} {kf:D->Option κ} {L:Yg} {H:Hp}:∀ {ps:List (D × D)} {vs:List (κ × V)},Aj kf L H ps vs->vs.length=ps.length
 |[],_,h=>by unfold Aj at h;subst h;rfl
 |p::r,_,h=>by
  obtain ⟨k,v,r',rfl,e,h1,h2⟩:=h;simp[Aj.length h2]
def D4 (K:Yb) (L:Yg) (H:Hp) (a:Yt):MO->Prop
 |.lst xs=>∃ vs,H a=some (.lst vs)/\zR L H xs vs
 |.fro xs=>∃ o vs,H a=some (.frz o (.lst vs))/\zR L H xs vs
 |.dict ps=>∃ vs,H a=some (.dK vs)/\Aj C0 L H ps vs
 |.dicT ps=>∃ vs,H a=some (.dT vs)/\Aj tkD L H ps vs
 |.set _=>∃ o u,H a=some (.frz o u)
 |.froT ps=>∃ o vs,H a=some (.frz o (.dT vs))/\Aj tkD L H ps vs
 |.froK ps=>∃ o vs,H a=some (.frz o (.dK vs))/\Aj C0 L H ps vs
def D4.there {K:Yb} {L:Yg} {H:Hp} {a:Yt} {m:MO} (h:D4 K L H a m):∃ o,H a=some o:=by
 cases m with
 |lst xs=>obtain ⟨vs,e,_⟩:=h;exact ⟨_,e⟩
 |fro xs=>obtain ⟨o,vs,e,_⟩:=h;exact ⟨_,e⟩
 |dict ps=>obtain ⟨vs,e,_⟩:=h;exact ⟨_,e⟩
 |dicT ps=>obtain ⟨vs,e,_⟩:=h;exact ⟨_,e⟩
 |set _=>obtain ⟨o,u,e⟩:=h;exact ⟨_,e⟩
 |froT ps=>obtain ⟨o,vs,e,_⟩:=h;exact ⟨_,e⟩
 |froK ps=>obtain ⟨o,vs,e,_⟩:=h;exact ⟨_,e⟩
def D4.stp {K:Yb} {L L':Yg} {H H':Hp} {a:Yt} {m:MO} (s:Stp L H L' H') (hk:∀ o,H a=some o->H' a=some o) (h:D4 K L H a m):D4 K L' H' a m:=by
 cases m with
 |lst xs=>obtain ⟨vs,e,r⟩:=h;exact ⟨vs,hk _ e,r.stp s⟩
 |fro xs=>obtain ⟨o,vs,e,r⟩:=h;exact ⟨o,vs,hk _ e,r.stp s⟩
 |dict ps=>obtain ⟨vs,e,r⟩:=h;exact ⟨vs,hk _ e,r.stp s⟩
 |dicT ps=>obtain ⟨vs,e,r⟩:=h;exact ⟨vs,hk _ e,r.stp s⟩
 |set _=>obtain ⟨o,u,e⟩:=h;exact ⟨o,u,hk _ e⟩
 |froT ps=>obtain ⟨o,vs,e,r⟩:=h;exact ⟨o,vs,hk _ e,r.stp s⟩
 |froK ps=>obtain ⟨o,vs,e,r⟩:=h;exact ⟨o,vs,hk _ e,r.stp s⟩
structure Cor (K:Yb) (L:Yg) (M:List MO) (H:Hp):Prop where
 len:L.length=M.length
 nd:L.Nodup
 obj:∀ (n:Nat) a m,L[n]?=some a->M[n]?=some m->D4 K L H a m
def Aw (L:Yg) (H:Hp) (Y:List (Option D)) (τ:Sv):Prop:=τ.length=Y.length /\ ∀ (i:Nat) d,Y[i]?=some (some d) -> ∃ v,τ[i]?=some (some v)/\Rep L H d v
def Aw.stp (s:Stp L H L' H') (h:Aw L H Y τ):Aw L' H' Y τ :=
 ⟨h.1,λi d e=>let ⟨v,e1,r⟩:=h.2 i d e;⟨v,e1,r.stp s⟩⟩
def Cor.tracked {K:Yb} {L:Yg} {M:List MO} {H:Hp} (c:Cor K L M H) {a:Yt} (h:a∈L):∃ o,H a=some o:=by
 obtain ⟨n,hn⟩:=List.getElem?_of_mem h;have hl:n<M.length:=by rw[<-c.len];exact (AG.mp hn).1
 have m:=c.obj n a M[n] hn (AV hl);exact m.there
def Cor.grow {K:Yb} {L:Yg} {M:List MO} {H H':Hp} (c:Cor K L M H) (h:∀ a o,H a=some o->H' a=some o):Cor K L M H':=by
 exact ⟨c.len,c.nd,λn a m e1 e2=>(c.obj n a m e1 e2).stp (.grow h) λo e=>h a o e⟩
theorem Cor.upd {K:Yb} {L:Yg} {M:List MO} {H:Hp} {p:Yt} {o:HO} (c:Cor K L M H) (h:H p=none):Cor K L M (upd H p o):=c.grow λa u e=>by rw[zf (DX e h)];exact e
def Cor.write {K:Yb} {L:Yg} {M:List MO} {H:Hp} {n:Nat} {p:Yt} {xs xs':List D} {vs':List V} (c:Cor K L M H) (h1:L[n]?=some p) (h2:M[n]?=some (.lst xs)) (r:zR L H xs' vs') :
  Cor K L (M.set n (.lst xs')) (L2.upd H p (.lst vs'))/\Stp L H L (L2.upd H p (.lst vs')):=by
 obtain ⟨vs,hp,_⟩:=c.obj n p _ h1 h2;have st:Stp L H L (L2.upd H p (.lst vs')):=by
  refine ⟨⟨[],by simp⟩,λa ha=> .inl ha,λa o e ha=>?_,λa o e=>?_,λa o u e=>?_⟩
  .rw[zf (show a≠p from λz=>ha (by rw[z];exact List.mem_of_getElem? h1))];exact e
  .rw[zf (GX e hp (by intro z;cases z))];exact e
  .rw[zf (GX e hp (by intro z;cases z))];exact e
 refine ⟨⟨by simp[c.len],c.nd,λk a m e1 e2=>?_⟩,st⟩;rw[ED]at e2;split at e2
 .rename_i hk;subst hk;rw[h1]at e1;cases e1;split at e2
  .cases e2;exact ⟨vs',CV,r.stp st⟩
  .cases e2
 .rename_i hk;have hne:a≠p:=λz=>hk (by
   subst z;exact (List.getElem?_inj (AG.mp h1).1 c.nd).mp (h1.trans e1.symm))
  exact (c.obj k a m e1 e2).stp st λo e=>by rw[zf hne];exact e
set_option genInjectivity true in
inductive EV where
 |dat (d:D)|fl (xs:List D)
def ze (H0:Hp) (L:Yg) (H:Hp):EV->V->Prop
 |.dat d,v=>Rep L H d v
 |.fl xs,v=>∃ p vs,v=.ref p/\H0 p=none/\H p=some (.lst vs)/\p∉L/\zR L H xs vs
noncomputable abbrev Sd:=List (Option D)
noncomputable abbrev Mem:=List MO
noncomputable abbrev FE:=Sd->Mem->Option (EV × Mem)
noncomputable abbrev FD:=Sd->Mem->Option (D × Mem)
noncomputable abbrev FT:=Sd->Mem->Option (Bool × Mem)
noncomputable abbrev FA:=Sd->Mem->Option (List D × Mem)
def Stp.out (s:Stp L H L' H') (h:H p=some o) (hp:p∉L):p∉L':=λz=>by
 rcases s.new p z with q|q
 .exact hp q
 .rw[h]at q;cases q
def ze.stp (s:Stp L H L' H') (h:ze H0 L H e v):ze H0 L' H' e v:=by
 cases e with
 |dat d=>exact Rep.stp s h
 |fl xs=>
  obtain ⟨p,vs,rfl,e0,e1,e2,r⟩:=h;exact ⟨p,vs,rfl,e0,s.old p _ e1 e2,s.out e1 e2,r.stp s⟩
def ze.back {H0 H1:Hp} {L0 L1 L:Yg} {H:Hp} (s:Stp L0 H0 L1 H1) {M:List MO} {K:Yb} (c:Cor K L0 M H0) {e:EV} {v:V} (h:ze H1 L H e v) (hL:∀ a∈L1,a∈L):ze H0 L H e v:=by
 cases e with
 |dat d=>exact h
 |fl xs=>
  obtain ⟨p,vs,rfl,e0,e1,e2,r⟩:=h;refine ⟨p,vs,rfl,?_,e1,e2,r⟩;cases q:H0 p with
  |none=>rfl
  |some o=>
   by_cases hp:p∈L0
   .obtain ⟨N,hN⟩:=s.pre;exact absurd (hL p (by rw[hN];exact Cc _ hp)) e2
   .rw[s.old p o q hp]at e0;cases e0
section
variable (K:Yb)
noncomputable def trE (f:FE):TE:=λτ H Q=>∃ L Y M d M',Cor K L M H/\Aw L H Y τ/\f Y M=some (d,M') /\ ∀ L' H' v,Stp L H L' H'->Cor K L' M' H'->ze H L' H' d v->Q v H'
noncomputable def trD (f:FD):TE:=λτ H Q=>∃ L Y M d M',Cor K L M H/\Aw L H Y τ/\f Y M=some (d,M') /\ ∀ L' H' v,Stp L H L' H'->Cor K L' M' H'->Rep L' H' d v->Q v H'
noncomputable def trT (f:FT):TT:=λτ H Q=>∃ L Y M d M',Cor K L M H/\Aw L H Y τ/\f Y M=some (d,M') /\ ∀ L' H',Stp L H L' H'->Cor K L' M' H'->Q d H'
noncomputable def trA (f:FA):TA:=λτ H Q=>∃ L Y M ds M',Cor K L M H/\Aw L H Y τ/\f Y M=some (ds,M') /\ ∀ L' H' vs,Stp L H L' H'->Cor K L' M' H'->zR L' H' ds vs->Q vs H'
end
def PE.imp (h:PE X e t) (hi:∀ τ H Q,t' τ H Q->t τ H Q):PE X e t':=λzB s Y H Q I q=>h zB s Y H Q I (hi _ _ _ q)
def PT.imp (h:PT X e t) (hi:∀ τ H Q,t' τ H Q->t τ H Q):PT X e t':=λzB s Y H Q I q=>h zB s Y H Q I (hi _ _ _ q)
def PS.imp {st:Stmt} {t t':TS} (h:PS X st t) (hi:∀ D τ H,t' D τ H->t D τ H):PS X st t':=λzB s Y H D I q=>h zB s Y H D I (hi _ _ _ q)
def PSs.imp {st:Yy} {t t':TS} (h:PSs X st t) (hi:∀ D τ H,t' D τ H->t D τ H):PSs X st t':=λzB s Y H D I q=>h zB s Y H D I (hi _ _ _ q)
structure QE (X:Cx) (e:Expr) (f:FE):Prop where
 un:PE X e (trE X.K f)
structure QD (X:Cx) (e:Expr) (f:FD):Prop where
 un:PE X e (trD X.K f)
structure QT (X:Cx) (e:Expr) (f:FT):Prop where
 un:PT X e (trT X.K f)
structure QA (X:Cx) (es:Yi) (f:FA):Prop where
 un:PA X es (trA X.K f)
noncomputable def toD (f:FE):FD:=λY M=>match f Y M with
 |some (.dat d,M')=>some (d,M')
 |some (.fl xs,M')=>some (.ref M'.length,M'++[.lst xs])
 |none=>none
mutual
theorem Rep.more (N:Yg):∀ {d:D} {v:V},Rep L H d v->Rep (L++N) H d v
 |.non,_,h=>by unfold Rep at h ⊢;exact h
 |.bl _,_,h=>by unfold Rep at h ⊢;exact h
 |.int _,_,h=>by unfold Rep at h ⊢;exact h
 |.str _,_,h=>by unfold Rep at h ⊢;exact h
 |.tup ds,_,h=>by
  unfold Rep at h ⊢;obtain ⟨a,vs,rfl,e,r⟩:=h;exact ⟨a,vs,rfl,e,zR.more N r⟩
 |.ref n,_,h=>by
  unfold Rep at h ⊢;obtain ⟨a,rfl,e⟩:=h;exact ⟨a,rfl,D6 e⟩
theorem zR.more (N:Yg):∀ {ds:List D} {vs:List V},zR L H ds vs->zR (L++N) H ds vs
 |[],_,h=>by unfold zR at h ⊢;exact h
 |d::ds,_,h=>by
  unfold zR at h ⊢;obtain ⟨v,r,rfl,h1,h2⟩:=h;exact ⟨v,r,rfl,Rep.more N h1,zR.more N h2⟩
end
def Aj.more {κ:Type} {kf:D->Option κ} {L:Yg} {H:Hp} (N:Yg):∀ {ps:List (D × D)} {vs:List (κ × V)},Aj kf L H ps vs->Aj kf (L++N) H ps vs
 |[],_,h=>h
 |p::r,_,h=>by
  obtain ⟨k,v,r',rfl,e,h1,h2⟩:=h;exact ⟨k,v,r',rfl,e,h1.more N,Aj.more N h2⟩
def D4.more {K:Yb} {L:Yg} {H:Hp} {a:Yt} {m:MO} (N:Yg) (h:D4 K L H a m):D4 K (L++N) H a m:=by
 cases m with
 |lst xs=>obtain ⟨vs,e,r⟩:=h;exact ⟨vs,e,r.more N⟩
 |fro xs=>obtain ⟨o,vs,e,r⟩:=h;exact ⟨o,vs,e,r.more N⟩
 |dict ps=>obtain ⟨vs,e,r⟩:=h;exact ⟨vs,e,r.more N⟩
 |dicT ps=>obtain ⟨vs,e,r⟩:=h;exact ⟨vs,e,r.more N⟩
 |set _=>exact h
 |froT ps=>obtain ⟨o,vs,e,r⟩:=h;exact ⟨o,vs,e,r.more N⟩
 |froK ps=>obtain ⟨o,vs,e,r⟩:=h;exact ⟨o,vs,e,r.more N⟩
def QB {K:Yb} {L L':Yg} {M':List MO} {H H':Hp} {p:Yt} {xs:List D} {vs:List V} (s:Stp L H L' H') (c:Cor K L' M' H') (h0:H p=none) (h1:H' p=some (.lst vs)) (h2:p∉L') (r:zR L' H' xs vs) :
  Cor K (L'++[p]) (M'++[.lst xs]) H'/\Stp L H (L'++[p]) H':=by
 refine ⟨⟨by simp[c.len],?_,λn a m e1 e2=>?_⟩,?_⟩
 .rw[DH];exact ⟨c.nd,by simp,λa ha b hb z=>by
   have:b=p:=by simpa using hb
   subst this;subst z;exact h2 ha⟩
 .by_cases hn:n<L'.length
  .rw[AJ hn]at e1;rw[AJ (by rw[<-c.len];exact hn)]at e2;exact (c.obj n a m e1 e2).more [p]
  .have hn':n=L'.length:=by
    have:=(AG.mp e1).1;rw[AU]at this;simp at this;omega
   subst hn';simp at e1;rw[c.len]at e2;simp at e2;subst e1;subst e2;exact ⟨vs,h1,r.more [p]⟩
 .obtain ⟨N,hN⟩:=s.pre;refine ⟨⟨N++[p],by rw[hN];simp⟩,λa ha=>?_,s.old,s.tup,s.frz⟩;rcases Ak.mp ha with z|z
  .exact s.new a z
  .have:a=p:=by simpa using z
   subst this;exact .inr h0
def Rep.last {L:Yg} {M:List MO} {H:Hp} {K:Yb} {p:Yt} (c:Cor K L M H):Rep (L++[p]) H (.ref M.length) (.ref p):=by
 unfold Rep;exact ⟨p,rfl,by rw[<-c.len];simp⟩
def CW {f:FE} (h:QE X e f):QD X e (toD f):=.mk <| PE.imp h.un λτ H Q zz=>by
 obtain ⟨L,Y,M,d,M',c,rs,hf,q⟩:=zz;unfold toD at hf;split at hf
 .rename_i d' M1 e1;cases hf;exact ⟨L,Y,M,_,_,c,rs,e1,λL' H' v s c' r=>q L' H' v s c' r⟩
 .rename_i xs M1 e1;cases hf;refine ⟨L,Y,M,_,_,c,rs,e1,λL' H' v s c' r=>?_⟩;obtain ⟨p,vs,rfl,e0,e2,e3,r⟩:=r;obtain ⟨c2,s2⟩:=QB s c' e0 e2 e3 r;exact q _ H' _ s2 c2 (Rep.last c')
 .cases hf
noncomputable def zC (i:Nat):FE:=λY M=>match Y[i]? with
 |some (some d)=>some (.dat d,M)
 |_=>none
def gR (h:PE X (.Name x pos) (NY i)):QE X (.Name x pos) (zC i):=.mk <| PE.imp h λτ H Q zz=>by
 obtain ⟨L,Y,M,d,M',c,rs,hf,q⟩:=zz;unfold zC at hf;split at hf
 .rename_i d' e1;cases hf;obtain ⟨v,e2,r⟩:=rs.2 i d' e1;exact ⟨v,e2,q L H v (.refl L H) c r⟩
 .cases hf
noncomputable def fC (d:D):FE:=λ_ M=>some (.dat d,M)
def KI (hd:∀ L H,Rep L H d v) (h:PE X e (tC v)):QE X e (fC d):=.mk <| PE.imp h λτ H Q zz=>by
 obtain ⟨L,Y,M,d',M',c,rs,hf,q⟩:=zz;unfold fC at hf;cases hf;exact q L H v (.refl L H) c (hd L H)
def lY {i j pos}:QE X (.Constant (.int i) j pos) (fC (.int i)):=KI (λ_ _=>by unfold Rep;rfl) mT
def W9 {b j pos}:QE X (.Constant (.bool b) j pos) (fC (.bl b)):=KI (λ_ _=>by unfold Rep;rfl) aH
def gF {j pos}:QE X (.Constant .none j pos) (fC .non):=KI (λ_ _=>by unfold Rep;rfl) WE
def dM {x j pos}:QE X (.Constant (.str x) j pos) (fC (.str x)):=KI (λ_ _=>by unfold Rep;rfl) WA
noncomputable def zE:FA:=λ_ M=>some ([],M)
noncomputable def zD (f:FD) (g:FA):FA:=λY M=>match f Y M with
 |some (d,M1)=>match g Y M1 with
  |some (ds,M2)=>some (d::ds,M2)
  |none=>none
 |none=>none
def PA.imp (h:PA X es t) (hi:∀ τ H Q,t' τ H Q->t τ H Q):PA X es t':=λpos zB s Y H Q I q=>h pos zB s Y H Q I (hi _ _ _ q)
def b5:QA X [] zE:=.mk <| PA.imp Gg λτ H Q zz=>by
 obtain ⟨L,Y,M,d,M',c,rs,hf,q⟩:=zz;unfold zE at hf;cases hf;exact q L H [] (.refl L H) c .nil
def a8 (h1:QD X e f) (h2:QA X es g) (hs:starEach (e::es) X.env=(false,eval e X.env)::starEach es X.env:=by rfl):QA X (e::es) (zD f g) :=
 .mk <| PA.imp (FW h1.un h2.un hs) λτ H Q zz=>by
  obtain ⟨L,Y,M,d,M',c,rs,hf,q⟩:=zz;unfold zD at hf;split at hf
  .rename_i d1 M1 e1;split at hf
   .rename_i ds M2 e2;cases hf;refine ⟨L,Y,M,_,_,c,rs,e1,λL1 H1 v s1 c1 r1=>⟨L1,Y,M1,_,_,c1,rs.stp s1,e2,λL2 H2 vs s2 c2 r2=>?_⟩⟩;exact q L2 H2 _ (s1.trans s2) c2 (.cons (r1.stp s2) r2)
   .cases hf
  .cases hf
noncomputable def zj (g:FA):FE:=λY M=>match g Y M with
 |some (ds,M1)=>if ds.length<=sizeLine then some (.dat (.tup ds),M1) else none
 |none=>none
noncomputable def AM (g:FA):FE:=λY M=>match g Y M with
 |some (ds,M1)=>if ds.length<=sizeLine then some (.fl ds,M1) else none
 |none=>none
def Rep.newTup (h:H p=none) (r:zR L H ds vs):Rep L (upd H p (.tup vs)) (.tup ds) (.ref p):=by
 unfold Rep;exact ⟨p,vs,rfl,CV,r.stp (.upd h)⟩
def nB {x1 pos} (h:QA X es g):QE X (.Tuple es x1 pos) (zj g):=.mk <| PE.imp (cD h.un) λτ H Q zz=>by
 obtain ⟨L,Y,M,d,M',c,rs,hf,q⟩:=zz;unfold zj at hf;split at hf
 .rename_i ds M1 e1;split at hf
  .rename_i hz;cases hf;refine ⟨L,Y,M,_,_,c,rs,e1,λL1 H1 vs s1 c1 r1=>⟨by rw[r1.length];exact hz,λp hp=>?_⟩⟩;exact q L1 _ _ (s1.trans (.upd hp)) (c1.upd hp) (Rep.newTup hp r1)
  .cases hf
 .cases hf
def To {L L1:Yg} {H H1:Hp} {K:Yb} {M M1:List MO} (s:Stp L H L1 H1) (c:Cor K L M H) (c1:Cor K L1 M1 H1) {p:Yt} (hp:H1 p=none):H p=none/\p∉L1:=by
 have hp1:p∉L1:=λz=>by obtain ⟨o,e⟩:=c1.tracked z;rw[hp]at e;cases e
 refine ⟨?_,hp1⟩;cases q:H p with
 |none=>rfl
 |some o=>
  have:p∉L:=λz=>hp1 (by obtain ⟨N,hN⟩:=s.pre;rw[hN];exact Cc _ z);rw[s.old p o q this]at hp;cases hp
def ze.newLst {L L1:Yg} {H H1:Hp} {K:Yb} {M M1:List MO} {p:Yt} {ds:List D} {vs:List V} (s:Stp L H L1 H1) (c:Cor K L M H) (c1:Cor K L1 M1 H1) (hp:H1 p=none) (r:zR L1 H1 ds vs) :
  ze H L1 (upd H1 p (.lst vs)) (.fl ds) (.ref p):=by
 obtain ⟨a,b⟩:=To s c c1 hp;exact ⟨p,vs,rfl,a,CV,b,r.stp (.upd hp)⟩
def WQ {pos} (h:QA X es g):QE X (.List es pos) (AM g):=.mk <| PE.imp (Vq h.un) λτ H Q zz=>by
 obtain ⟨L,Y,M,d,M',c,rs,hf,q⟩:=zz;unfold AM at hf;split at hf
 .rename_i ds M1 e1;split at hf
  .rename_i hz;cases hf;refine ⟨L,Y,M,_,_,c,rs,e1,λL1 H1 vs s1 c1 r1=>⟨by rw[r1.length];exact hz,λp hp=>?_⟩⟩;exact q L1 _ _ (s1.trans (.upd hp)) (c1.upd hp) (ze.newLst s1 c c1 hp r1)
  .cases hf
 .cases hf
noncomputable abbrev FAE:=Sd->Mem->Option (List EV × Mem)
def DA (H0:Hp) (L:Yg) (H:Hp):List EV->List V->Prop
 |[],vs=>vs=[]
 |e::es,vs=>∃ v r,vs=v::r/\ze H0 L H e v/\DA H0 L H es r
def Stp.sub (s:Stp L H L' H'):∀ a∈L,a∈L':=λa h=>by
 obtain ⟨N,hN⟩:=s.pre;rw[hN];exact Cc _ h
def DA.back {H0 H1:Hp} {L0 L1 L:Yg} {H:Hp} (s:Stp L0 H0 L1 H1) {M:List MO} {K:Yb} (c:Cor K L0 M H0) (hL:∀ a∈L1,a∈L):∀ {es:List EV} {vs:List V},DA H1 L H es vs->DA H0 L H es vs
 |[],_,h=>h
 |e::es,_,h=>by
  obtain ⟨v,r,rfl,h1,h2⟩:=h;exact ⟨v,r,rfl,h1.back s c hL,DA.back s c hL h2⟩
noncomputable def R7 (K:Yb) (f:FAE):TA:=λτ H Q=>∃ L Y M ds M',Cor K L M H/\Aw L H Y τ/\f Y M=some (ds,M') /\ ∀ L' H' vs,Stp L H L' H'->Cor K L' M' H'->DA H L' H' ds vs->Q vs H'
structure QAE (X:Cx) (es:Yi) (f:FAE):Prop where
 un:PA X es (R7 X.K f)
noncomputable def zd:FAE:=λ_ M=>some ([],M)
noncomputable def zN (f:FE) (g:FAE):FAE:=λY M=>match f Y M with
 |some (d,M1)=>match g Y M1 with
  |some (ds,M2)=>some (d::ds,M2)
  |none=>none
 |none=>none
def ZS:QAE X [] zd:=.mk <| PA.imp Gg λτ H Q zz=>by
 obtain ⟨L,Y,M,d,M',c,rs,hf,q⟩:=zz;unfold zd at hf;cases hf;exact q L H [] (.refl L H) c rfl
def oH (h1:QE X e f) (h2:QAE X es g) (hs:starEach (e::es) X.env=(false,eval e X.env)::starEach es X.env:=by rfl):QAE X (e::es) (zN f g) :=
 .mk <| PA.imp (FW h1.un h2.un hs) λτ H Q zz=>by
  obtain ⟨L,Y,M,d,M',c,rs,hf,q⟩:=zz;unfold zN at hf;split at hf
  .rename_i d1 M1 e1;split at hf
   .rename_i ds M2 e2;cases hf;refine ⟨L,Y,M,_,_,c,rs,e1,λL1 H1 v s1 c1 r1=>⟨L1,Y,M1,_,_,c1,rs.stp s1,e2,λL2 H2 vs s2 c2 r2=>?_⟩⟩;exact q L2 H2 _ (s1.trans s2) c2 ⟨v,vs,rfl,r1.stp s2,r2.back s1 c s2.sub⟩
   .cases hf
  .cases hf
noncomputable abbrev K2:=EV->EV->Mem->Option (EV × Mem)
def BQ (K:Yb) (r:R2) (k:K2):Prop:=∀ {L:Yg} {M M':Mem} {H H0:Hp} {x y d:EV} {v w:V} {Q:VK},Cor K L M H->ze H0 L H x v->ze H0 L H y w->k x y M=some (d,M') ->
 (∀ L' H' u,Stp L H L' H'->Cor K L' M' H'->ze H L' H' d u->Q u H')->r v w H Q
noncomputable def fOp (k:K2) (f g:FE):FE:=λY M=>match f Y M with
 |some (x,M1)=>match g Y M1 with
  |some (y,M2)=>k x y M2
  |none=>none
 |none=>none
def Ej {K:Yb} {r:R2} {k:K2} {f g:FE} (hk:BQ K r k) {τ:Sv} {H:Hp} {Q:VK} (h:trE K (fOp k f g) τ H Q):tOp r (trE K f) (trE K g) τ H Q:=by
 obtain ⟨L,Y,M,d,M',c,rs,hf,q⟩:=h;unfold fOp at hf;split at hf
 .rename_i x M1 e1;split at hf
  .rename_i y M2 e2;refine ⟨L,Y,M,_,_,c,rs,e1,λL1 H1 v s1 c1 r1=>⟨L1,Y,M1,_,_,c1,rs.stp s1,e2,λL2 H2 w s2 c2 r2=>?_⟩⟩;refine hk (H0:=H) c2 (r1.stp s2) (r2.back s1 c s2.sub) hf λL3 H3 u s3 c3 r3=>?_;exact q L3 H3 u ((s1.trans s2).trans s3) c3 (r3.back (s1.trans s2) c s3.sub)
  .cases hf
 .cases hf
def Gr (hk:BQ X.K r k) (ho:OpR X (binaryOp op) r) (h1:QE X a f) (h2:QE X b g):QE X (.BinOp a op b pos) (fOp k f g):=.mk <| PE.imp (TF ho h1.un h2.un) λ_ _ _ h=>Ej hk h
def NW (hk:BQ X.K r k) (ho:OpR X (compareOp op) r) (h1:QE X a f) (h2:QE X b g) (hm:behindInMarks op b=false):QE X (.Compare a [op] [b] pos) (fOp k f g) :=
 .mk <| PE.imp (gY ho h1.un h2.un hm) λ_ _ _ h=>Ej hk h
noncomputable def tst (f:FE):FT:=λY M=>match f Y M with
 |some (.dat (.bl c),M')=>some (c,M')
 |_=>none
def J7 {K:Yb} {f:FE} {τ:Sv} {H:Hp} {Q:Bool->Hp->Prop} (h:trT K (tst f) τ H Q):JG (trE K f) τ H Q:=by
 obtain ⟨L,Y,M,d,M',c,rs,hf,q⟩:=h;unfold tst at hf;split at hf
 .rename_i k M1 e1;cases hf;refine ⟨L,Y,M,_,_,c,rs,e1,λL1 H1 v s1 c1 r1=>?_⟩;have:v=.bl d:=by unfold ze Rep at r1;exact r1
  exact ⟨d,this,q L1 H1 s1 c1⟩
 .cases hf
def MY (h:∀ τ H Q,t τ H Q->t' τ H Q) (q:JG t τ H Q):JG t' τ H Q:=h _ _ _ q
def GG {op:CmpOp} {r:R2} {k:K2} {f g:FE} (hk:BQ X.K r k) (ho:OpR X (compareOp op) r) (h1:QE X a f) (h2:QE X b g) (hm:behindInMarks op b=false):QT X (.Compare a [op] [b] pos) (tst (fOp k f g)) :=
 .mk <| PT.imp (Zm ho h1.un h2.un hm) λ_ _ _ h=>MY (λ_ _ _ z=>Ej hk z) (J7 h)
def Tt (h:QE X e f) (he:∀ whole,isTrue e X.env whole=(do let v <- whole;standAt e.pos;holding [v] (truthy v)):=by intro _;rfl):QT X e (tst f) :=
 .mk <| PT.imp (bA h.un he) λ_ _ _ h=>J7 h
noncomputable def kI (C:Int->Int->Bool) (g:Int->Int->D):K2:=λx y M=>match x,y with
 |.dat (.int i),.dat (.int j)=>if C i j then some (.dat (g i j),M) else none
 |_,_=>none
noncomputable def kI0 (g:Int->Int->D):K2:=kI (λ_ _=>true) g
def IG {K:Yb} {C:Int->Int->Bool} {C':Int->Int->Prop} {g:Int->Int->D} {g':Int->Int->V} (hC:∀ i j,C i j=true->C' i j) (hg:∀ L H i j,Rep L H (g i j) (g' i j)):BQ K (rI C' g') (kI C g):=by
 intro L M M' H H0 x y d v w Q c rx ry hk q;unfold kI at hk;split at hk
 .rename_i i j;split at hk
  .rename_i hc;cases hk;refine ⟨i,j,by unfold ze Rep at rx;exact rx,by unfold ze Rep at ry;exact ry,hC i j hc,q L H _ (.refl L H) c (hg L H i j)⟩
  .cases hk
 .cases hk
def Fn {K:Yb} {g:Int->Int->D} {g':Int->Int->V} (hg:∀ L H i j,Rep L H (g i j) (g' i j)):BQ K (rI0 g') (kI0 g):=by
 intro L M M' H H0 x y d v w Q c rx ry hk q;obtain ⟨i,j,h1,h2,_,h4⟩:=IG (C:=λ_ _=>true) (C':=λ_ _=>True) (λ_ _ _=>trivial) hg c rx ry hk q;exact ⟨i,j,h1,h2,h4⟩
def B4:Rep L H (.int i) (.int i):=by unfold Rep;rfl
def Ca:Rep L H (.bl i) (.bl i):=by unfold Rep;rfl
noncomputable def HN (i j:Int):Bool:=(decide (-(2 ^ 64)<i)&&decide (i<2 ^ 64))||(decide (-(2 ^ 64)<j)&&decide (j<2 ^ 64))
noncomputable abbrev ZI:K2:=kI0 λi j=> .int (i+j)
noncomputable abbrev EU:K2:=kI0 λi j=> .int (i-j)
noncomputable abbrev HZ:K2:=kI HN λi j=> .int (i*j)
noncomputable abbrev DG:K2:=kI (λ_ j=>decide (0<j)) λi j=> .int (i % j)
noncomputable abbrev HH:K2:=kI (λ_ j=>decide (0<j)&&decide (j<1073741824)) λi j=> .int (i / j)
noncomputable abbrev IM:K2:=kI (λi j=>decide (0<=j)&&decide (j<=1000000)&&decide (i.natAbs<2 ^ 64)) λi j=> .int (i ^ j.toNat)
noncomputable abbrev kLt:K2:=kI0 λi j=> .bl (decide (i<j))
noncomputable abbrev kLe:K2:=kI0 λi j=> .bl (decide (i<=j))
noncomputable abbrev kGt:K2:=kI0 λi j=> .bl (decide (j<i))
noncomputable abbrev kGe:K2:=kI0 λi j=> .bl (decide (j<=i))
def VC (h1:QE X a f) (h2:QE X b g):QE X (.BinOp a .Sub b pos) (fOp EU f g):=Gr (Fn λ_ _ _ _=>B4) Ua h1 h2
def UC (h1:QE X a f) (h2:QE X b g):QE X (.BinOp a .Mult b pos) (fOp HZ f g):=Gr (IG (λi j h=>by
 unfold HN at h;simp only[Bool.or_eq_true,BR,Bx]at h;exact h) λ_ _ _ _=>B4) YH h1 h2
def n8 (h1:QE X a f) (h2:QE X b g):QE X (.BinOp a .Mod b pos) (fOp DG f g):=Gr (IG (λi j h=>D1 h) λ_ _ _ _=>B4) fI h1 h2
def WH (h1:QE X a f) (h2:QE X b g):QE X (.BinOp a .FloorDiv b pos) (fOp HH f g):=Gr (IG (λi j h=>by
 simp only[BR,Bx]at h;exact h) λ_ _ _ _=>B4) WI h1 h2
def nO (h1:QE X a f) (h2:QE X b g):QE X (.BinOp a .Pow b pos) (fOp IM f g):=Gr (IG (λi j h=>by
 simp only[BR,Bx]at h;exact ⟨h.1.1,h.1.2,h.2⟩) λ_ _ _ _=>B4) dE h1 h2
def Zz (h1:QE X a f) (h2:QE X b g):QE X (.Compare a [.Lt] [b] pos) (fOp kLt f g):=NW (Fn λ_ _ _ _=>Ca) NU h1 h2 (EG _)
def cG (h1:QE X a f) (h2:QE X b g):QT X (.Compare a [.Lt] [b] pos) (tst (fOp kLt f g)):=GG (Fn λ_ _ _ _=>Ca) NU h1 h2 (EG _)
def Um (h1:QE X a f) (h2:QE X b g):QT X (.Compare a [.Gt] [b] pos) (tst (fOp kGt f g)):=GG (Fn λ_ _ _ _=>Ca) WT h1 h2 (EG _)
def YV (h1:QE X a f) (h2:QE X b g):QT X (.Compare a [.GtE] [b] pos) (tst (fOp kGe f g)):=GG (Fn λ_ _ _ _=>Ca) Wq h1 h2 (EG _)
noncomputable def Bb (M:Mem):EV->Option (List D)
 |.fl xs=>some xs
 |.dat (.ref n)=>match M[n]? with
  |some (.lst xs)=>some xs
  |some (.fro xs)=>some xs
  |_=>none
 |_=>none
noncomputable def CG:EV->Option (List D)
 |.dat (.tup xs)=>some xs
 |_=>none
noncomputable def Al (M:Mem) (x:EV):Option (List D):=match CG x with
 |some xs=>some xs
 |none=>Bb M x
def Co {K:Yb} {L:Yg} {M:Mem} {H H0:Hp} {x:EV} {v:V} {xs:List D} (c:Cor K L M H) (r:ze H0 L H x v) (h:Bb M x=some xs):∃ a vs,v=.ref a/\Rd H a (.lst vs)/\zR L H xs vs:=by
 cases x with
 |fl ys=>
  cases h;obtain ⟨p,vs,rfl,_,e,_,r⟩:=r;exact ⟨p,vs,rfl,.inl e,r⟩
 |dat d=>
  cases d with
  |ref n=>
   unfold ze Rep at r;obtain ⟨a,rfl,e⟩:=r;unfold Bb at h;dsimp only at h;cases q:M[n]? with
   |none=>rw[q]at h;cases h
   |some m=>
    rw[q]at h;have z:=c.obj n a m e q;cases m with
    |lst ys=>cases h;obtain ⟨vs,e1,r1⟩:=z;exact ⟨a,vs,rfl,.inl e1,r1⟩
    |fro ys=>cases h;obtain ⟨o,vs,e1,r1⟩:=z;exact ⟨a,vs,rfl,.inr ⟨o,e1⟩,r1⟩
    |dict _=>cases h
    |dicT _=>cases h
    |set _=>cases h
    |froT _=>cases h
    |froK _=>cases h
  |_=>cases h
def DU {L:Yg} {H H0:Hp} {x:EV} {v:V} {xs:List D} (r:ze H0 L H x v) (h:CG x=some xs):∃ a vs,v=.ref a/\H a=some (.tup vs)/\zR L H xs vs:=by
 cases x with
 |fl ys=>cases h
 |dat d=>
  cases d with
  |tup ys=>cases h;unfold ze Rep at r;exact r
  |_=>cases h
def Ij {K:Yb} {L:Yg} {M:Mem} {H H0:Hp} {x:EV} {v:V} {xs:List D} (c:Cor K L M H) (r:ze H0 L H x v) (h:Al M x=some xs):∃ a vs,v=.ref a/\(SqL K H a vs\/SqT K H a vs)/\zR L H xs vs:=by
 unfold Al at h;cases q:CG x with
 |some ys=>
  rw[q]at h;cases h;obtain ⟨a,vs,e,h1,h2⟩:=DU r q;exact ⟨a,vs,e,.inr (.of h1),h2⟩
 |none=>
  rw[q]at h;obtain ⟨a,vs,e,h1,h2⟩:=Co c r h;exact ⟨a,vs,e,.inl (.inl h1),h2⟩
def iQ {L:Yg} {H:Hp} {xs:List D} {vs:List V} {i:Int} {d:D} (r:zR L H xs vs) (h:atI xs i=some d):∃ v,atI vs i=some v/\Rep L H d v:=by
 unfold atI at h ⊢;rw[r.length];cases q:ixN xs.length i with
 |none=>rw[q]at h;cases h
 |some j=>rw[q]at h;exact r.get h
def mH {L:Yg} {H:Hp} {i:Str}:Rep L H (.str i) (.str i):=by unfold Rep;rfl
noncomputable def kIx:K2:=λx y M=>match y with
 |.dat (.int i)=>match Al M x with
  |some xs=>match atI xs i with
   |some d=>some (.dat d,M)
   |none=>none
  |none=>match x with
   |.dat (.str z)=>if z.length<=sizeLine then match atI z.cps.toList i with
     |some c=>some (.dat (.str ⟨#[c]⟩),M)
     |none=>none
    else none
   |_=>none
 |_=>none
def gX {K:Yb}:BQ K (rIx K) kIx:=by
 intro L M M' H H0 x y d v w Q c rx ry hk q;unfold kIx at hk;split at hk
 .rename_i i;have ew:w=.int i:=by unfold ze Rep at ry;exact ry
  split at hk
  .rename_i xs e1;split at hk
   .rename_i d' e2;cases hk;obtain ⟨a,vs,rfl,hs,r⟩:=Ij c rx e1;obtain ⟨u,e3,r3⟩:=iQ r e2;rcases hs with hs|hs
    .exact .inl ⟨a,vs,i,u,rfl,ew,hs,e3,q L H u (.refl L H) c r3⟩
    .exact .inr (.inl ⟨a,vs,i,u,rfl,ew,hs,e3,q L H u (.refl L H) c r3⟩)
   .cases hk
  .split at hk
   .rename_i z _;split at hk
    .rename_i hz;split at hk
     .rename_i ch e2;cases hk;have ev:v=.str z:=by unfold ze Rep at rx;exact rx
      exact .inr (.inr ⟨z,i,ch,ev,ew,hz,e2,q L H _ (.refl L H) c (mH (L:=L) (H:=H))⟩)
     .cases hk
    .cases hk
   .cases hk
 .cases hk
def Y9 {t sl:Yt} {items:Yp} {vl vu:Yu} {lo hi:Ys} {Q:Yc} (T:IsTup s.heap t items) (S:s.heap.IsSliceOf sl vl vu .none) (pl:IsPart vl lo) (pu:IsPart vu hi)
  (h1:HT.sIx items.size 0 lo=0) (h2:HT.sIx items.size items.size hi=items.size) (h:Q (.ref t) s):wpAny (model prog w) A (getItem (.ref t) (.ref sl)) Q E s:=by
 obtain ⟨o,O,C,G⟩:=id S;have TS:s.TypeIs (.ref sl) "slice" := ⟨o,O,C⟩;unfold getItem;try with_reducible refine CF ?_
 first|refine AA (AD ?_)|skip
 refine AA (wpAny_sequenceKey T.typeIs (by decide) ?_);refine AA (Dq (name:=Str.ofString "__getitem__") T.typeIs Em (Cg Em T.typeIs entry_tuple_getitem ?_ (args_tuple_getitem _ _)));refine AA (m:=Builtin.Tuple.tupleItemsOf (.ref t)) (tupleItemsOf_ T (AA (wpAny_typeOf TS ?_)));rw[AB (by decide)];refine AA (HT.OX S pl pu ?_);rw[h1,h2];show wpAny _ _ (if ((((0:Nat):Int)==0&&(1:Int)==1&&(items.size-0)==items.size))=true then _ else _) _ _ s;rw[AB (by simp)];unfold Builtin.Tuple.tupleIsExact;refine AA (AA (wpAny_typeOf T.typeIs (AD ?_)));rw[AB (by decide)];exact AA (Cm (AD ⟨_,rfl,AD h⟩))
def TK (K:Yb):V->Option Int->Option Int->Hp->VK->Prop:=λx lo hi H Q=>∃ a xs,x=.ref a/\SqT K H a xs/\(HT.sIx xs.length 0 lo=0/\HT.sIx xs.length xs.length hi=xs.length)/\Q (.ref a) H
def Zi {X:Cx}:SlR X (TK X.K):=by
 intro zB s Y H x v vl vu lo hi sl Q I rx hs pl pu h;obtain ⟨a,xs,rfl,hx,hw,q⟩:=h;cases rx;obtain ⟨its,r,ht,hz⟩:=I.tuple hx;have hlen:its.toArray.size=xs.length:=by rw[AQ];exact r.length.symm
 exact ⟨"tuple", _,Em.lookup,ht.typeIs,Y9 ht hs pl pu (by rw[hlen];exact hw.1) (by rw[hlen];exact hw.2) ⟨.ref a,H,I,rfl,q⟩⟩
section
variable {X:Cx}
def XB (h1:QE X a f) (h2:QE X b g) (hs:Pu b:=by intro _ _;rfl):QE X (.Subscript a b pos) (fOp kIx f g):=.mk <| PE.imp (n9 Zl h1.un h2.un hs) λ_ _ _ h=>Ej gX h
noncomputable abbrev FO:=Sd->Mem->Option (Option Int × Mem)
noncomputable def trO (K:Yb) (f:FO):TO:=λτ H Q=>∃ L Y M d M',Cor K L M H/\Aw L H Y τ/\f Y M=some (d,M') /\ ∀ L' H',Stp L H L' H'->Cor K L' M' H'->Q d H'
structure QO (X:Cx) (e:Option Expr) (f:FO):Prop where
 un:PO X e (trO X.K f)
noncomputable def BG:FO:=λ_ M=>some (none,M)
noncomputable def Ay (f:FE):FO:=λY M=>match f Y M with
 |some (.dat (.int i),M')=>some (some i,M')
 |_=>none
def PO.imp {e:Option Expr} {t t':TO} (h:PO X e t) (hi:∀ τ H Q,t' τ H Q->t τ H Q):PO X e t':=λzB s Y H Q I q=>h zB s Y H Q I (hi _ _ _ q)
def Uq:QO X none BG:=.mk <| PO.imp Vi λτ H Q zz=>by
 obtain ⟨L,Y,M,d,M',c,rs,hf,q⟩:=zz;unfold BG at hf;cases hf;exact q L H (.refl L H) c
def S4 (h:QE X e f):QO X (some e) (Ay f):=.mk <| PO.imp (So h.un) λτ H Q zz=>by
 obtain ⟨L,Y,M,d,M',c,rs,hf,q⟩:=zz;unfold Ay at hf;split at hf
 .rename_i i M1 e1;cases hf;refine ⟨L,Y,M,_,_,c,rs,e1,λL1 H1 v s1 c1 r1=>?_⟩;exact ⟨i,by unfold ze Rep at r1;exact r1,q L1 H1 s1 c1⟩
 .cases hf
noncomputable def BE (xs:List D) (lo hi:Ys):List D:=(xs.drop (HT.sIx xs.length 0 lo)).take (HT.sIx xs.length xs.length hi-HT.sIx xs.length 0 lo)
def Qr {L:Yg} {H:Hp} {xs:List D} {vs:List V} {lo hi:Ys} (r:zR L H xs vs):zR L H (BE xs lo hi) (Fb vs lo hi):=by
 unfold BE Fb;rw[r.length];exact (r.drop _).take _
noncomputable def kSl (x:EV) (lo hi:Ys) (M:Mem):Option (EV × Mem):=match CG x with
 |some xs=>some (.dat (.tup (BE xs lo hi)),M)
 |none=>match Bb M x with
  |some xs=>some (.fl (BE xs lo hi),M)
  |none=>none
noncomputable def fSl (f:FE) (fl fh:FO):FE:=λY M=>match f Y M with
 |some (x,M1)=>match fl Y M1 with
  |some (lo,M2)=>match fh Y M2 with
   |some (hi,M3)=>kSl x lo hi M3
   |none=>none
  |none=>none
 |none=>none
def WB {lo hi:Option Expr} {p2:Pos} {fl fh:FO} (h:QE X e f) (hl:QO X lo fl) (hh:QO X hi fh):QE X (.Subscript e (.Slice lo hi none p2) pos) (fSl f fl fh) :=
 .mk <| PE.imp (j8 (SlR.or fY (SlR.or S2 Zi)) h.un hl.un hh.un) λτ H Q zz=>by
  obtain ⟨L,Y,M,d,M',c,rs,hf,q⟩:=zz;unfold fSl at hf;split at hf
  .rename_i x M1 e1;split at hf
   .rename_i l M2 e2;split at hf
    .rename_i u M3 e3;refine ⟨L,Y,M,_,_,c,rs,e1,λL1 H1 v s1 c1 r1=>⟨L1,Y,M1,_,_,c1,rs.stp s1,e2,λL2 H2 s2 c2=>⟨L2,Y,M2,_,_,c2,rs.stp (s1.trans s2),e3,λL3 H3 s3 c3=>?_⟩⟩⟩;have s:=(s1.trans s2).trans s3;have r3:ze H L3 H3 x v:=(r1.stp s2).stp s3;unfold kSl at hf;cases t:CG x with
     |some xs=>
      rw[t]at hf;cases hf;obtain ⟨a,vs,rfl,e4,r4⟩:=DU r3 t;by_cases hw:HT.sIx vs.length 0 l=0/\HT.sIx vs.length vs.length u=vs.length
      .refine .inr (.inr ⟨a,vs,rfl,.of e4,hw,?_⟩);have ec:BE xs l u=xs:=by
        unfold BE;rw[<-r4.length,hw.1,hw.2,r4.length];simp
       rw[ec]at q;refine q L3 H3 _ s c3 ?_;unfold ze Rep;exact ⟨a,vs,rfl,e4,r4⟩
      .refine .inr (.inl ⟨a,vs,rfl,.of e4,hw,λp hp=>?_⟩);exact q L3 _ _ (s.trans (.upd hp)) (c3.upd hp) (Rep.newTup hp (Qr r4))
     |none=>
      rw[t]at hf;dsimp only at hf;split at hf
      .rename_i xs e4;cases hf;obtain ⟨a,vs,rfl,e5,r5⟩:=Co c3 r3 e4;refine .inl ⟨a,vs,rfl,.inl e5,λp hp=>?_⟩;exact q L3 _ _ (s.trans (.upd hp)) (c3.upd hp) (ze.newLst s c c3 hp (Qr r5))
      .cases hf
    .cases hf
   .cases hf
  .cases hf
noncomputable abbrev KB:=List EV->Mem->Option (EV × Mem)
def Cz (K:Yb) (r:List V->Hp->VK->Prop) (k:KB):Prop:=∀ {L:Yg} {M M':Mem} {H H0:Hp} {xs:List EV} {d:EV} {vs:List V} {Q:VK},Cor K L M H->DA H0 L H xs vs->k xs M=some (d,M') ->
 (∀ L' H' u,Stp L H L' H'->Cor K L' M' H'->ze H L' H' d u->Q u H')->r vs H Q
noncomputable def fB (k:KB) (f:FAE):FE:=λY M=>match f Y M with
 |some (xs,M1)=>k xs M1
 |none=>none
def N0 {K:Yb} {r:List V->Hp->VK->Prop} {k:KB} {f:FAE} (hk:Cz K r k) {τ:Sv} {H:Hp} {Q:VK} (h:trE K (fB k f) τ H Q):tCB r (R7 K f) τ H Q:=by
 obtain ⟨L,Y,M,d,M',c,rs,hf,q⟩:=h;unfold fB at hf;split at hf
 .rename_i xs M1 e1;refine ⟨L,Y,M,_,_,c,rs,e1,λL1 H1 vs s1 c1 r1=>?_⟩;refine hk c1 r1 hf λL2 H2 u s2 c2 r2=>?_;exact q L2 H2 u (s1.trans s2) c2 (r2.back s1 c s2.sub)
 .cases hf
def DA.one {H0:Hp} {L:Yg} {H:Hp} {x:EV} {vs:List V} (h:DA H0 L H [x] vs):∃ v,vs=[v]/\ze H0 L H x v:=by
 obtain ⟨v,r,rfl,h1,h2⟩:=h;unfold DA at h2;subst h2;exact ⟨v,rfl,h1⟩
noncomputable def AR:KB:=λxs M=>match xs with
 |[x]=>match Al M x with
  |some ys=>some (.dat (.int ys.length),M)
  |none=>none
 |_=>none
def fR:Cz X.K (λxs H Q=>∃ p ys,xs=[.ref p]/\(SqL X.K H p ys\/SqT X.K H p ys)/\Q (.int ys.length) H) AR:=by
 intro L M M' H H0 xs d vs Q c r hk q;unfold AR at hk;split at hk
 .rename_i x;split at hk
  .rename_i ys e1;cases hk;obtain ⟨v,rfl,r1⟩:=r.one;obtain ⟨a,ws,rfl,hs,r2⟩:=Ij c r1 e1;refine ⟨a,ws,rfl,hs,q L H _ (.refl L H) c ?_⟩;rw[r2.length];exact (B4 (L:=L) (H:=H))
  .cases hk
 .cases hk
def Ew {x:Str} {p:Pos} {id:String} {r:List V->Hp->VK->Prop} {k:KB} {f:FAE} (hk:Cz X.K r k) (hc:Br X (.builtin id) r) (hv:bootBuiltins x=some (.builtin id)) (hg:Gl X x) (hm:X.mg x=none) (ha:QAE X (e::es) f) (hn:x ≠ "__name__" := by decide) (hdb:(x==("__debug__" : Str))=false:=by decide)
  (he:starEach (e::es) X.env=(false,eval e X.env)::starEach es X.env:=by rfl) (hpl:(backTo pos (starEach es X.env)).any (·.1)=false:=by rfl):QE X (.Call (.Name x p) (e::es) [] pos) (fB k f) :=
 .mk <| PE.imp (Nu hc hg hm hv ha.un hn hdb he hpl) λ_ _ _ h=>N0 hk h
def J8 {x:Str} {p:Pos} {T:String} {r:List V->Hp->VK->Prop} {k:KB} {f:FAE} (hk:Cz X.K r k) (hc:Br X (.type T) r) (hv:bootBuiltins x=some (.type T)) (hg:Gl X x) (hm:X.mg x=none) (ha:QAE X (e::es) f) (hn:x ≠ "__name__" := by decide) (hdb:(x==("__debug__" : Str))=false:=by decide)
  (he:starEach (e::es) X.env=(false,eval e X.env)::starEach es X.env:=by rfl) (hpl:(backTo pos (starEach es X.env)).any (·.1)=false:=by rfl):QE X (.Call (.Name x p) (e::es) [] pos) (fB k f) :=
 .mk <| PE.imp (Iz hc hg hm hv ha.un hn hdb he hpl) λ_ _ _ h=>N0 hk h
noncomputable def CL:KB:=λxs M=>match xs with
 |[x]=>match Al M x with
  |some ys=>some (.dat (.tup ys),M)
  |none=>none
 |_=>none
def Y6:Cz X.K (λxs H Q=>∃ p ys,xs=[.ref p]/\((SqL X.K H p ys /\ ∀ l,H l=none->Q (.ref l) (upd H l (.tup ys)))\/(SqT X.K H p ys/\Q (.ref p) H))) CL:=by
 intro L M M' H H0 xs d vs Q c r hk q;unfold CL at hk;split at hk
 .rename_i x;split at hk
  .rename_i ys e1;cases hk;obtain ⟨v,rfl,r1⟩:=r.one;unfold Al at e1;cases t:CG x with
   |some zs=>
    rw[t]at e1;cases e1;obtain ⟨a,ws,rfl,e2,r2⟩:=DU r1 t;refine ⟨a,ws,rfl,.inr ⟨.of e2,q L H _ (.refl L H) c ?_⟩⟩;unfold ze Rep;exact ⟨a,ws,rfl,e2,r2⟩
   |none=>
    rw[t]at e1;obtain ⟨a,ws,rfl,e2,r2⟩:=Co c r1 e1;refine ⟨a,ws,rfl,.inl ⟨.inl e2,λp hp=>?_⟩⟩;exact q L _ _ (.upd hp) (c.upd hp) (Rep.newTup hp r2)
  .cases hk
 .cases hk
end
set_option genInjectivity true in
inductive Out where
 |nx|ret (d:D)|brk|cnt
noncomputable abbrev FS:=Sd->Mem->Option (Out × Sd × Mem)
def U0 (E:Ends) (L:Yg) (H:Hp) (Y:Sd):Out->Prop
 |.nx=>∀ τ,Aw L H Y τ->E.nx τ H
 |.ret d=>∀ v,Rep L H d v->E.rt v H
 |.brk=>∀ τ,Aw L H Y τ->E.bk τ H
 |.cnt=>∀ τ,Aw L H Y τ->E.ct τ H
noncomputable def trS (K:Yb) (f:FS):TS:=λE τ H=>∃ L Y M o Y' M',Cor K L M H/\Aw L H Y τ/\f Y M=some (o,Y',M') /\ ∀ L' H',Stp L H L' H'->Cor K L' M' H'->U0 E L' H' Y' o
structure QS (X:Cx) (st:Stmt) (f:FS):Prop where
 un:PS X st (trS X.K f)
structure QSs (X:Cx) (st:Yy) (f:FS):Prop where
 un:PSs X st (trS X.K f)
def Aw.set (h:Aw L H Y τ) (r:Rep L H d v):Aw L H (Y.set i (some d)) (τ.set i (some v)):=by
 refine ⟨by simp[h.1],λj e q=>?_⟩;rw[ED]at q ⊢;split at q
 .rename_i z;subst z;split at q
  .rename_i hl;cases q;rw[AB rfl,AB (by rw[h.1];exact hl)];exact ⟨v,rfl,r⟩
  .cases q
 .rename_i z;rw[AE z];exact h.2 j e q
def RB {K:Yb} {f:FE} {τ:Sv} {H:Hp} {Q:VK} (h:trD K (toD f) τ H Q):trE K f τ H Q:=by
 obtain ⟨L,Y,M,d,M',c,rs,hf,q⟩:=h;unfold toD at hf;split at hf
 .rename_i d' M1 e1;cases hf;exact ⟨L,Y,M,_,_,c,rs,e1,λL' H' v s c' r=>q L' H' v s c' r⟩
 .rename_i xs M1 e1;cases hf;refine ⟨L,Y,M,_,_,c,rs,e1,λL' H' v s c' r=>?_⟩;obtain ⟨p,vs,rfl,e0,e2,e3,r⟩:=r;obtain ⟨c2,s2⟩:=QB s c' e0 e2 e3 r;exact q _ H' _ s2 c2 (Rep.last c')
 .cases hf
noncomputable def Ah:FS:=λY M=>some (.nx,Y,M)
noncomputable def zX (f g:FS):FS:=λY M=>match f Y M with
 |some (.nx,σ1,M1)=>g σ1 M1
 |r=>r
noncomputable def sIf (c:FT) (f g:FS):FS:=λY M=>match c Y M with
 |some (true,M1)=>f Y M1
 |some (false,M1)=>g Y M1
 |none=>none
noncomputable def AL (f:FE):FS:=λY M=>match toD f Y M with
 |some (d,M1)=>some (.ret d,Y,M1)
 |none=>none
noncomputable def zi (i:Nat) (f:FE):FS:=λY M=>match toD f Y M with
 |some (d,M1)=>some (.nx,Y.set i (some d),M1)
 |none=>none
noncomputable def Az (f:FE):FS:=λY M=>match f Y M with
 |some (_,M1)=>some (.nx,Y,M1)
 |none=>none
section
variable {st:Stmt} {rest:Yy}
def YG:QSs X [] Ah:=.mk <| PSs.imp Uw λE τ H zz=>by
 obtain ⟨L,Y,M,o,Y',M',c,rs,hf,q⟩:=zz;unfold Ah at hf;cases hf;exact q L H (.refl L H) c τ rs
def Wv (h1:QS X st f) (h2:QSs X rest g):QSs X (st::rest) (zX f g):=.mk <| PSs.imp (Sh h1.un h2.un) λE τ H zz=>by
 obtain ⟨L,Y,M,o,Y',M',c,rs,hf,q⟩:=zz;unfold zX at hf;split at hf
 .rename_i σ1 M1 e1;refine ⟨L,Y,M,_,_,_,c,rs,e1,λL1 H1 s1 c1 τ1 r1=>⟨L1,σ1,M1,_,_,_,c1,r1,hf,λL2 H2 s2 c2=>q L2 H2 (s1.trans s2) c2⟩⟩
 .rename_i hne;refine ⟨L,Y,M,_,_,_,c,rs,hf,λL1 H1 s1 c1=>?_⟩;have z:=q L1 H1 s1 c1;cases o with
  |nx=>exact absurd hf (hne Y' M')
  |ret d=>exact z
  |brk=>exact z
  |cnt=>exact z
def cU (h1:QS X st f):QSs X [st] f:=.mk <| PSs.imp (oF h1.un) λ_ _ _ h=>h
def TQ (hc:QT X c fc) (ha:QSs X a f) (hb:QSs X b g):QS X (.If c a b pos) (sIf fc f g):=.mk <| PS.imp (SK hc.un ha.un hb.un) λE τ H zz=>by
 obtain ⟨L,Y,M,o,Y',M',c,rs,hf,q⟩:=zz;unfold sIf at hf;split at hf
 .rename_i M1 e1;refine ⟨L,Y,M,_,_,c,rs,e1,λL1 H1 s1 c1=>?_⟩;exact Dn ⟨L1,Y,M1,_,_,_,c1,rs.stp s1,hf,λL2 H2 s2 c2=>q L2 H2 (s1.trans s2) c2⟩
 .rename_i M1 e1;refine ⟨L,Y,M,_,_,c,rs,e1,λL1 H1 s1 c1=>?_⟩;exact Dr ⟨L1,Y,M1,_,_,_,c1,rs.stp s1,hf,λL2 H2 s2 c2=>q L2 H2 (s1.trans s2) c2⟩
 .cases hf
def Vc (h:QE X e f):QS X (.Return (some e) pos) (AL f):=.mk <| PS.imp (oG (CW h).un) λE τ H zz=>by
 obtain ⟨L,Y,M,o,Y',M',c,rs,hf,q⟩:=zz;unfold AL at hf;split at hf
 .rename_i d M1 e1;cases hf;exact ⟨L,Y,M,_,_,c,rs,e1,λL1 H1 v s1 c1 r1=>q L1 H1 s1 c1 v r1⟩
 .cases hf
def Mb {K:Yb} {i:Nat} {f:FE} {t:TE} (ht:∀ τ H Q,trE K f τ H Q->t τ H Q) {E:Ends} {τ:Sv} {H:Hp} (h:trS K (zi i f) E τ H):Hz t (Cu i) E τ H:=by
 obtain ⟨L,Y,M,o,Y',M',c,rs,hf,q⟩:=h;unfold zi at hf;split at hf
 .rename_i d M1 e1;cases hf;exact ht _ _ _ (RB ⟨L,Y,M,_,_,c,rs,e1,λL1 H1 v s1 c1 r1=>q L1 H1 s1 c1 _ ((rs.stp s1).set r1)⟩)
 .cases hf
def jG {i:Nat} {x:Str} {f:FE} {pos':Pos} (hN:X.N.Nodup) (hi:X.N[i]?=some x) (hx:Loc X.env.scope x) (h:QE X e f) (hs:swapsWith e (some (.Name x pos')) pos.line X.env=pure false:=by rfl)
  (hf:X.fn x=true\/X.env.scope.names.lookup x=some .local:=by first|exact .inl rfl|exact .inr rfl|assumption):QS X (.Assign [.Name x pos'] e pos) (zi i f) :=
 .mk <| PS.imp (Wf hN hi hx h.un hs hf) λ_ _ _ z=>Mb (λ_ _ _ z=>z) z
def Xj (h:QE X e f) (hs:swapsWith e none pos.line X.env=pure false:=by rfl):QS X (.Expr e pos) (Az f):=.mk <| PS.imp (W0 h.un hs) λE τ H zz=>by
 obtain ⟨L,Y,M,o,Y',M',c,rs,hf,q⟩:=zz;unfold Az at hf;split at hf
 .rename_i d M1 e1;cases hf;exact ⟨L,Y,M,_,_,c,rs,e1,λL1 H1 v s1 c1 r1=>q L1 H1 s1 c1 τ (rs.stp s1)⟩
 .cases hf
noncomputable abbrev FG:=D->Sd->Option Sd
def GOk (g:TG) (fg:FG):Prop:=∀ {L:Yg} {H:Hp} {Y Y':Sd} {τ:Sv} {d:D} {v:V} {Q:Sv->Hp->Prop},Aw L H Y τ->Rep L H d v->fg d Y=some Y'->(∀ τ',Aw L H Y' τ'->Q τ' H)->g v τ H Q
noncomputable def gN (i:Nat):FG:=λd Y=>some (Y.set i (some d))
def Wg:GOk (Cu i) (gN i):=by
 intro L H Y Y' τ d v Q rs r hf q;unfold gN at hf;cases hf;exact q _ (rs.set r)
noncomputable abbrev FI:=Sd->Mem->Option (List D × Option (Mem->Prop) × Mem)
def BN (g:Option (Mem->Prop)) (xs:List D) (M:Mem):Prop:=match g with
 |none=>True
 |some p=>p M
def PJ (K:Yb) (J:It) (L:Yg) (H:Hp) (xs:List D) (g:Option (Mem->Prop)):Prop:=∀ L' H' M',Stp L H L' H'->Cor K L' M' H'->BN g xs M' ->
 (∀ (i:Nat) d,xs[i]?=some d->J.go i H' /\ ∀ v H'',J.yld i H' v H''->(∀ a o,H' a=some o->H'' a=some o)/\Rep L' H'' d v)/\J.stop xs.length H'
noncomputable def trI (K:Yb) (f:FI):TI:=λτ H R=>∃ L Y M xs g M',Cor K L M H/\Aw L H Y τ/\f Y M=some (xs,g,M') /\ ∀ L' H' J,Stp L H L' H'->Cor K L' M' H'->PJ K J L' H' xs g->R J H'
structure QI (X:Cx) (tg e:Expr) (f:FI):Prop where
 un:PI X tg e (trI X.K f)
def PI.imp (h:PI X tg e t) (hi:∀ τ H R,t' τ H R->t τ H R):PI X tg e t':=λzB s Y H R I q=>h zB s Y H R I (hi _ _ _ q)
noncomputable def Cy (g:FG) (b:FS) (all:List D) (gd:Option (Mem->Prop)):List D->Sd->Mem->Option (Out × Sd × Mem)
 |[],Y,M=>open Classical in if BN gd all M then some (.nx,Y,M) else none
 |x::r,Y,M=>open Classical in if BN gd all M then match g x Y with
   |some σ1=>match b σ1 M with
    |some (.nx,σ2,M2)=>Cy g b all gd r σ2 M2
    |some (.cnt,σ2,M2)=>Cy g b all gd r σ2 M2
    |some (.brk,σ2,M2)=>some (.nx,σ2,M2)
    |some (.ret d,σ2,M2)=>some (.ret d,σ2,M2)
    |none=>none
   |none=>none
  else none
noncomputable def BU (fi:FI) (g:FG) (b:FS):FS:=λY M=>match fi Y M with
 |some (xs,gd,M1)=>Cy g b xs gd xs Y M1
 |none=>none
def HJ {α:Type} {xs:List α} (h:i<xs.length):xs.drop i=xs[i]::xs.drop (i+1):=List.drop_eq_getElem_cons h
def Stp.yld (s:Stp L H L' H') (h:∀ a o,H' a=some o->H'' a=some o):Stp L H L' H'':=s.trans (.grow h)
def Vx {K:Yb} {fi:FI} {g:TG} {fg:FG} {b:FS} (hg:GOk g fg) {E:Ends} {τ:Sv} {H:Hp} (h:trS K (BU fi fg b) E τ H):RU (trI K fi) g (trS K b) E τ H:=by
 obtain ⟨L,Y,M,o,σf,Mf,c,rs,hf,q⟩:=h;unfold BU at hf;split at hf
 .rename_i xs gd M1 e1;refine ⟨L,Y,M,_,_,_,c,rs,e1,λL1 H1 J s1 c1 it=>?_⟩
  refine ⟨λi m τ' H'=>m=xs.length-i/\i<=xs.length /\ ∃ L' Y' M',Stp L1 H1 L' H'/\Cor K L' M' H'/\Aw L' H' Y' τ'/\Cy fg b xs gd (xs.drop i) Y' M'=some (o,σf,Mf),
   ⟨xs.length,by simp,BD _,L1,Y,M1,.refl _ _,c1,rs.stp s1,by simpa using hf⟩,?_⟩
  rintro i m τ' H' ⟨rfl,hi,L',Y',M',s',c',rs',e'⟩;by_cases hlt:i<xs.length
  .rw[HJ hlt]at e';unfold Cy at e';split at e'
   .rename_i hgd;obtain ⟨step,_⟩:=it L' H' M' s' c' hgd;obtain ⟨go,yl⟩:=step i xs[i] (AV hlt);cases eg:fg xs[i] Y' with
    |none=>rw[eg]at e';cases e'
    |some σ1=>
     rw[eg]at e';dsimp only at e';refine .inr ⟨go,λτ2 H2=>∃ L2 σ2 M2,Stp L1 H1 L2 H2/\Cor K L2 M2 H2/\Aw L2 H2 σ2 τ2/\Cy fg b xs gd (xs.drop (i+1)) σ2 M2=some (o,σf,Mf),λτ2 H2 ⟨L2,σ2,M2,a1,a2,a3,a4⟩=>⟨xs.length-(i+1),by omega,rfl,hlt,L2,σ2,M2,a1,a2,a3,a4⟩,λv H2 hy=>?_⟩;obtain ⟨gr,rv⟩:=yl v H2 hy;refine hg (Aw.stp (.grow gr) rs') rv eg λτ2 r2=>?_;cases eb:b σ1 M' with
     |none=>rw[eb]at e';cases e'
     |some r=>
      obtain ⟨o2,σ2,M2⟩:=r;rw[eb]at e';refine ⟨L',σ1,M',_,_,_,c'.grow gr,r2,eb,λL3 H3 s3 c3=>?_⟩;have s13:Stp L1 H1 L3 H3:=(s'.yld gr).trans s3;cases o2 with
      |nx=>exact λτ3 r3=>⟨L3,σ2,M2,s13,c3,r3,e'⟩
      |cnt=>exact λτ3 r3=>⟨L3,σ2,M2,s13,c3,r3,e'⟩
      |brk=>cases e';exact q L3 H3 (s1.trans s13) c3
      |ret d=>cases e';exact q L3 H3 (s1.trans s13) c3
   .cases e'
  .have hi':i=xs.length:=by omega
   subst hi';rw[List.drop_length]at e';unfold Cy at e';split at e'
   .rename_i hgd;cases e';obtain ⟨_,stop⟩:=it L' H' _ s' c' hgd;exact .inl ⟨stop,q L' H' (s1.trans s') c' τ' rs'⟩
   .cases e'
 .cases hf
def aO (hg:GOk g fg) (hp:PassesOwn (model X.prog X.w) X.A X.env X.xe) (hc:X.calm=true) (hi:QI X tg iter fi) (ht:PG X tg g) (hb:QSs X body b)
  (hs:∀ x,foldedSetIterable iter X.env x=pure x:=by intro _;rfl):QS X (.For tg iter body [] pos) (BU fi fg b):=.mk <| PS.imp (lN hp hc hi.un ht hb.un hs) λ_ _ _ h=>Vx hg h
end
noncomputable def CM (c:FT) (b:FS):Nat->Sd->Mem->Option (Out × Sd × Mem)
 |0,_,_=>none
 |n+1,Y,M=>match c Y M with
  |some (true,M1)=>match b Y M1 with
   |some (.nx,σ2,M2)=>CM c b n σ2 M2
   |some (.cnt,σ2,M2)=>CM c b n σ2 M2
   |some (.brk,σ2,M2)=>some (.nx,σ2,M2)
   |some (.ret d,σ2,M2)=>some (.ret d,σ2,M2)
   |none=>none
  |some (false,M1)=>some (.nx,Y,M1)
  |none=>none
def TY {K:Yb} {fc:FT} {b:FS} {n:Nat} {E:Ends} {τ:Sv} {H:Hp} (h:trS K (CM fc b n) E τ H):P4 (trT K fc) (trS K b) E τ H:=by
 obtain ⟨L,Y,M,o,σf,Mf,c,rs,hf,q⟩:=h;refine ⟨λm τ' H'=>∃ L' Y' M',Stp L H L' H'/\Cor K L' M' H'/\Aw L' H' Y' τ'/\CM fc b m Y' M'=some (o,σf,Mf),⟨n,L,Y,M,.refl _ _,c,rs,hf⟩,?_⟩;rintro m τ' H' ⟨L',Y',M',s',c',rs',e'⟩;cases m with
 |zero=>unfold CM at e';cases e'
 |succ m=>
  unfold CM at e';split at e'
  .rename_i M1 e1;refine ⟨L',Y',M',_,_,c',rs',e1,λL1 H1 s1 c1=>Dn ?_⟩;refine ⟨λτ2 H2=>∃ L2 σ2 M2,Stp L H L2 H2/\Cor K L2 M2 H2/\Aw L2 H2 σ2 τ2/\CM fc b m σ2 M2=some (o,σf,Mf),λτ2 H2 h2=>⟨m,DK m,h2⟩,?_⟩;cases eb:b Y' M1 with
   |none=>rw[eb]at e';cases e'
   |some r=>
    obtain ⟨o2,σ2,M2⟩:=r;rw[eb]at e';refine ⟨L1,Y',M1,_,_,_,c1,rs'.stp s1,eb,λL3 H3 s3 c3=>?_⟩;have s13:Stp L H L3 H3:=(s'.trans s1).trans s3;cases o2 with
    |nx=>exact λτ3 r3=>⟨L3,σ2,M2,s13,c3,r3,e'⟩
    |cnt=>exact λτ3 r3=>⟨L3,σ2,M2,s13,c3,r3,e'⟩
    |brk=>cases e';exact q L3 H3 s13 c3
    |ret d=>cases e';exact q L3 H3 s13 c3
  .rename_i M1 e1;cases e';exact ⟨L',_,M',_,_,c',rs',e1,λL1 H1 s1 c1=>Dr (q L1 H1 (s'.trans s1) c1 τ' (rs'.stp s1))⟩
  .cases e'
def jE (n:Nat) (hp:PassesOwn (model X.prog X.w) X.A X.env X.xe) (hc:QT X c fc) (hb:QSs X body b):QS X (.While c body [] pos) (CM fc b n) :=
 .mk <| PS.imp (nP hp hc.un hb.un) λ_ _ _ h=>TY h
noncomputable def An (own:Yj) (Y:Sd):Sd:=own.foldl (λY i=>Y.set i none) Y
theorem HC:∀ (own:Yj) {Y:Sd} {τ:Sv},Aw L H Y τ->Aw L H (An own Y) (clr own τ)
 |[],_,_,h=>h
 |i::r,Y,τ,h=>by
  refine HC r (Y:=Y.set i none) (τ:=τ.set i none) ⟨by simp[h.1],λj d q=>?_⟩;rw[ED]at q ⊢;split at q
  .split at q <;> cases q
  .rename_i z;rw[AE z];exact h.2 j d q
noncomputable def BP (g:FG) (tc:FT) (te:FE) (Y:Sd) (all:List D) (gd:Option (Mem->Prop)):List D->Mem->Option (List D × Mem)
 |[],M=>open Classical in if BN gd all M then some ([],M) else none
 |x::r,M=>open Classical in if BN gd all M then match g x Y with
   |some σ1=>match tc σ1 M with
    |some (true,M1)=>match toD te σ1 M1 with
     |some (d,M2)=>match BP g tc te Y all gd r M2 with
      |some (ds,M3)=>some (d::ds,M3)
      |none=>none
     |none=>none
    |some (false,M1)=>BP g tc te Y all gd r M1
    |none=>none
   |none=>none
  else none
noncomputable def Af (own:Yj) (fi:FI) (g:FG) (tc:FT) (te:FE):FE:=λY M=>match fi Y M with
 |some (xs,gd,M1)=>if xs.length<=sizeLine then match BP g tc te (An own Y) xs gd xs M1 with
   |some (ys,M2)=>some (.fl ys,M2)
   |none=>none
  else none
 |none=>none
def DF (own:Yj) (g:TG) (fg:FG):Prop:=∀ {L:Yg} {H:Hp} {Y Y':Sd} {τ τ0:Sv} {d:D} {v:V} {Q:Sv->Hp->Prop},Aw L H Y τ->Ext (clr own τ0) τ->Rep L H d v->fg d Y=some Y'->(∀ τ',Aw L H Y' τ'->Ext (clr own τ0) τ'->Q τ' H)->g v τ H Q
def FV (hi:i∈own):DF own (Cu i) (gN i):=by
 intro L H Y Y' τ τ0 d v Q rs ex r hf q;unfold gN at hf;cases hf;exact q _ (rs.set r) (ex.set hi)
def P5 {K:Yb} {own:Yj} {fi:FI} {g:TG} {fg:FG} {tc:FT} {te:FE} (hg:DF own g fg) {τ:Sv} {H:Hp} {Q:VK} (h:trE K (Af own fi fg tc te) τ H Q):LZ own (trI K fi) g (trT K tc) (trD K (toD te)) τ H Q:=by
 obtain ⟨L,Y,M,d,Mf,c,rs,hf,q⟩:=h;unfold Af at hf;split at hf
 .rename_i xs gd M1 e1;split at hf
  .rename_i hz;split at hf
   .rename_i zs M2 e2;cases hf;refine ⟨L,Y,M,_,_,_,c,rs,e1,λL1 H1 J s1 c1 it=>?_⟩
    refine ⟨λi m ys H'=>m=xs.length-i/\i<=xs.length /\ ∃ L' M' as bs,Stp L1 H1 L' H'/\Cor K L' M' H'/\zR L' H' as ys/\as.length<=i/\BP fg tc te (An own Y) xs gd (xs.drop i) M'=some (bs,Mf)/\as++bs=zs,
     ⟨xs.length,by simp,BD _,L1,M1,[],zs,.refl _ _,c1,.nil,AF _,by simpa using e2,rfl⟩,?_⟩
    rintro i m ys H' ⟨rfl,hi,L',M',as,bs,s',c',r',hl,e',hab⟩;have hys:ys.length<=i:=by rw[r'.length];exact hl
    by_cases hlt:i<xs.length
    .rw[HJ hlt]at e';unfold BP at e';split at e'
     .rename_i hgd;obtain ⟨step,_⟩:=it L' H' M' s' c' hgd;obtain ⟨go,yl⟩:=step i xs[i] (AV hlt);split at e'
      .rename_i σ1 eg;refine .inr ⟨go,λv H2 hy=>?_⟩;obtain ⟨gr,rv⟩:=yl v H2 hy;have s2:Stp L1 H1 L' H2:=s'.yld gr;refine hg (HC own ((rs.stp s1).stp s2)) (.refl _) rv eg λτ2 r2 x2=>⟨x2,?_⟩;split at e'
       .rename_i M3 e3;split at e'
        .rename_i d M4 e4;split at e'
         .rename_i ds M5 e5;cases e';refine ⟨L',σ1,M',_,_,c'.grow gr,r2,e3,λL3 H3 s3 c3=>Dn ?_⟩;refine ⟨L3,σ1,M3,_,_,c3,r2.stp s3,e4,λL4 H4 w s4 c4 r4=>?_⟩;have st:Stp L' H' L4 H4:=((Stp.grow gr).trans s3).trans s4;refine ⟨Nat.lt_of_le_of_lt hys (As hlt hz),xs.length-(i+1),by omega,rfl,hlt,L4,M4,as++[d],ds,s'.trans st,c4,(r'.stp st).app (.cons r4 .nil),by simp;omega,e5,by rw[<-hab];simp⟩
         .cases e'
        .cases e'
       .rename_i M3 e3;refine ⟨L',σ1,M',_,_,c'.grow gr,r2,e3,λL3 H3 s3 c3=>Dr ?_⟩;have st:Stp L' H' L3 H3:=(Stp.grow gr).trans s3;exact ⟨xs.length-(i+1),by omega,rfl,hlt,L3,M3,as,bs,s'.trans st,c3,r'.stp st,by omega,e',hab⟩
       .cases e'
      .cases e'
     .cases e'
    .have hi':i=xs.length:=by omega
     subst hi';rw[List.drop_length]at e';unfold BP at e';split at e'
     .rename_i hgd;cases e';obtain ⟨_,stop⟩:=it L' H' _ s' c' hgd;refine .inl ⟨stop,AW hys hz,λp hp=>?_⟩;rw[Au]at hab;subst hab;exact q L' _ _ ((s1.trans s').trans (.upd hp)) (c'.upd hp) (ze.newLst (s1.trans s') c c' hp r')
     .cases e'
   .cases hf
  .cases hf
 .cases hf
structure QIfs (X:Cx) (ifs:Yi) (f:FT):Prop where
 un:Ds X ifs (trT X.K f)
noncomputable def zu:FT:=λ_ M=>some (true,M)
def fQ:QIfs X [] zu:=.mk λzB s Y H Q I h=>by
 obtain ⟨L,Y',M,d,M',c,rs,hf,q⟩:=h;unfold zu at hf;cases hf;exact Wt zB s Y H Q I (q L H (.refl L H) c)
def Sf (h:QT X c f):QIfs X [c] f:=.mk (cH h.un)
structure QParts (X:Cx) (scope:Y0) (tg:Expr) (ifs:Yi) (elt:Expr) (g:TG) (tc:FT) (te:FE):Prop where
 g:∀ zB cl s H fp,PG (zQ X zB scope cl s H fp) tg g
 c:∀ zB cl s H fp,QIfs (zQ X zB scope cl s H fp) ifs tc
 e:∀ zB cl s H fp,QE (zQ X zB scope cl s H fp) elt te
def QParts.parts {g:TG} {tc:FT} {te:FE} (p:QParts X scope tg ifs elt g tc te):CompParts X scope tg ifs elt g (trT X.K tc) (trD X.K (toD te)) :=
 ⟨p.g,λzB cl s H fp=>(p.c zB cl s H fp).un,λzB cl s H fp=>(CW (p.e zB cl s H fp)).un⟩
def Lz (hg:DF own g fg) (C:CompIn X scope own) (hcalm:X.calm=true) (hi:QI X tg iter fi) (p:QParts X scope tg ifs elt g tc te) (hs:∀ x,foldedSetIterable iter X.env x=pure x:=by intro _;rfl) :
  QE X (.ListComp elt [⟨tg,iter,ifs,0⟩] scope pos) (Af own fi fg tc te):=.mk <| PE.imp (iN C hcalm hi.un p.parts hs) λ_ _ _ h=>P5 hg h
def bG (hN:X.N.Nodup) (hi':X.N[i]?=some x) (hx:Loc X.env.scope x) (hfn:X.fn x=true\/X.env.scope.names.lookup x=some .local)
  (hsw:swapsWith (.ListComp elt [⟨tg,iter,ifs,0⟩] scope pos) (some (.Name x pos')) pos''.line X.env=pure true)
  (hg:DF own g fg) (C:CompIn X scope own) (hcalm:X.calm=true) (hi:QI X tg iter fi) (p:QParts X scope tg ifs elt g tc te) (hs:∀ x,foldedSetIterable iter X.env x=pure x:=by intro _;rfl) :
  QS X (.Assign [.Name x pos'] (.ListComp elt [⟨tg,iter,ifs,0⟩] scope pos) pos'') (zi i (Af own fi fg tc te)) :=
 .mk <| PS.imp (jN hN hi' hx hfn C hcalm hi.un p.parts hsw hs) λ_ _ _ z=>Mb (λ_ _ _ z=>P5 hg z) z
noncomputable abbrev FF:=List D->Mem->Option (D × Mem)
noncomputable def spF (K:Yb) (n:Nat) (g:FF):Sp:=λvs H Q _=>∃ L ds M d M',Cor K L M H/\zR L H ds vs/\ds.length=n/\g ds M=some (d,M') /\ ∀ L' H' v,Stp L H L' H'->Cor K L' M' H'->Rep L' H' d v->Q v H'
noncomputable def zO (g:FF) (fa:FA):FE:=λY M=>match fa Y M with
 |some (ds,M1)=>match g ds M1 with
  |some (d,M2)=>some (.dat d,M2)
  |none=>none
 |none=>none
def XH (F:FnOk X.prog X.w X.K X.mg X.base CX0 k f fd ps (spF X.K (e::es).length g)) (hr:Room k X.A) (hg:Gl X x) (hm:X.mg x=some (.ref f)) (hk:PySem.W.keepIn X.K (.ref f)=true) (hb:Gy X.K fd ps [])
  (ha:QA X (e::es) fa) (hl:∀ Y M ds M1,fa Y M=some (ds,M1)->ds.length=(e::es).length) (hdb:(x==("__debug__" : Str))=false:=by decide) (he:starEach (e::es) X.env=(false,eval e X.env)::starEach es X.env:=by rfl) (hpl:(backTo pos (starEach es X.env)).any (·.1)=false:=by rfl) :
  QE X (.Call (.Name x p) (e::es) [] pos) (zO g fa) :=
 .mk <| PE.imp (V1 F hr hg hm hk hb .nil ZV ha.un hdb he hpl) λτ H Q zz=>by
  obtain ⟨L,Y,M,d,M',c,rs,hf,q⟩:=zz;unfold zO at hf;split at hf
  .rename_i ds M1 e1;split at hf
   .rename_i d' M2 e2;cases hf;refine ⟨L,Y,M,_,_,c,rs,e1,λL1 H1 vs s1 c1 r1=>?_⟩;dsimp only;rw[Au];exact ⟨L1,ds,M1,d',_,c1,r1,hl _ _ _ _ e1,e2,λL2 H2 v s2 c2 r2=>q L2 H2 v (s1.trans s2) c2 r2⟩
   .cases hf
  .cases hf
def JW (fa:FA) (n:Nat):Prop:=∀ Y M ds M1,fa Y M=some (ds,M1)->ds.length=n
def VT:JW zE 0:=λY M ds M1 h=>by unfold zE at h;cases h;rfl
def T7 {f:FD} {g:FA} {n:Nat} (h:JW g n):JW (zD f g) (n+1):=λY M ds M1 q=>by
 unfold zD at q;split at q
 .split at q
  .rename_i e2;cases q;simp[h _ _ _ _ e2]
  .cases q
 .cases q
noncomputable def Ab (n:Nat) (b:FS):FF:=λds M=>match b (ds.map some++List.replicate (n-ds.length) none) M with
 |some (.ret d,_,M')=>some (d,M')
 |some (.nx,_,M')=>some (.non,M')
 |_=>none
def Ql:∀ {ds:List D} {vs:List V},zR L H ds vs->Aw L H (ds.map some++List.replicate (N.length-ds.length) none) (L2.EC N vs):=λ{ds vs} r=>by
 unfold L2.EC;have hl:=r.length;refine ⟨by simp[hl],λi d q=>?_⟩;by_cases hi:i<ds.length
 .rw[AJ (by simpa using hi),Bn]at q;rw[AJ (by simpa [hl] using hi),Bn];cases e1:ds[i]? with
  |none=>rw[e1]at q;cases q
  |some d'=>
   rw[e1]at q;cases q;obtain ⟨v,e2,r2⟩:=r.get e1;exact ⟨v,by rw[e2];rfl,r2⟩
 .rw[E2 (by simpa using hi),List.getElem?_replicate]at q;split at q <;> cases q
def zq {P:Ym} {w:Yo} {K:Yb} {mg:Yh} {base:Heap} {qual:Str} {st:Stmt} {N:Yk} {b:FS} {n:Nat} (F:Fun K x qual st f fd) (S:FnScope N ps (zT st)) (hn:ps.length=n)
  (hb:∀ (cdv:Yu) (A:Yn) (outer:List Env) (s:Yl) (H:Hp) (E:XK),Room k (A.deeper (envOfC qual (zT st) s.heap.objs.size f cdv))->QSs (F8 CX0 P w K mg base N qual (zT st) f cdv A outer s H E).nox (Fi st) b) :
  FnOk P w K mg base CX0 (k+1) f fd ps (spF K n (Ab N.length b)):=by
 refine F.ok S (λvs H Q E h=>?_) (λcdv A outer s H vs Q E hr h=>⟨_,(hb cdv A outer s H E hr).un,?_⟩)
 .obtain ⟨L,ds,M,d,M',c,r,hl,_⟩:=h;rw[r.length,hl,hn]
 .obtain ⟨L,ds,M,d,M',c,r,hl,hf,q⟩:=h;unfold Ab at hf;split at hf
  .rename_i d' Y' M1 e1;cases hf;exact ⟨L,_,M,_,_,_,c,Ql r,e1,λL1 H1 s1 c1 v r1=>q L1 H1 v s1 c1 r1⟩
  .rename_i Y' M1 e1;cases hf;exact ⟨L,_,M,_,_,_,c,Ql r,e1,λL1 H1 s1 c1 τ' r1=>q L1 H1 .non s1 c1 (by unfold Rep;rfl)⟩
  .cases hf
mutual
noncomputable def D.und (n:Nat):D->Bool
 |.tup ds=>D.unds n ds
 |.ref k=>decide (k<n)
 |_=>true
noncomputable def D.unds (n:Nat):List D->Bool
 |[]=>true
 |d::ds=>D.und n d&&D.unds n ds
end
mutual
theorem Rep.less:∀ {d:D} {v:V},D.und L.length d=true->Rep (L++N) H d v->Rep L H d v
 |.non,_,_,h=>by unfold Rep at h ⊢;exact h
 |.bl _,_,_,h=>by unfold Rep at h ⊢;exact h
 |.int _,_,_,h=>by unfold Rep at h ⊢;exact h
 |.str _,_,_,h=>by unfold Rep at h ⊢;exact h
 |.tup ds,_,hb,h=>by
  unfold D.und at hb;unfold Rep at h ⊢;obtain ⟨a,vs,rfl,e,r⟩:=h;exact ⟨a,vs,rfl,e,zR.less hb r⟩
 |.ref n,_,hb,h=>by
  unfold D.und at hb;unfold Rep at h ⊢;obtain ⟨a,rfl,e⟩:=h;exact ⟨a,rfl,by rwa [AJ (D1 hb)]at e⟩
theorem zR.less:∀ {ds:List D} {vs:List V},D.unds L.length ds=true->zR (L++N) H ds vs->zR L H ds vs
 |[],_,_,h=>by unfold zR at h ⊢;exact h
 |d::ds,_,hb,h=>by
  unfold D.unds at hb;rw[BR]at hb;unfold zR at h ⊢;obtain ⟨v,r,rfl,h1,h2⟩:=h;exact ⟨v,r,rfl,Rep.less hb.1 h1,zR.less hb.2 h2⟩
end
def Aj.less {κ:Type} {kf:D->Option κ} {L N:Yg} {H:Hp}:∀ {ps:List (D × D)} {vs:List (κ × V)},(ps.all λp=>D.und L.length p.1&&D.und L.length p.2)=true->Aj kf (L++N) H ps vs->Aj kf L H ps vs
 |[],_,_,h=>h
 |p::r,_,hb,h=>by
  rw[List.all_cons,BR,BR]at hb;obtain ⟨k,v,r',rfl,e,h1,h2⟩:=h;exact ⟨k,v,r',rfl,e,Rep.less hb.1.2 h1,Aj.less hb.2 h2⟩
noncomputable def MO.und (n:Nat):MO->Bool
 |.lst xs=>D.unds n xs
 |.fro xs=>D.unds n xs
 |.dict kvs=>kvs.all λp=>D.und n p.1&&D.und n p.2
 |.dicT kvs=>kvs.all λp=>D.und n p.1&&D.und n p.2
 |.set xs=>D.unds n xs
 |.froT kvs=>kvs.all λp=>D.und n p.1&&D.und n p.2
 |.froK kvs=>kvs.all λp=>D.und n p.1&&D.und n p.2
noncomputable def Fw (g:FF):FF:=λds M=>match g ds M with
 |some (d,M')=>if D.und M.length d&&(M'.take M.length).all (MO.und M.length)&&decide (M.length<=M'.length) then some (d,M'.take M.length) else none
 |none=>none
def LA {P:Ym} {w:Yo} {K:Yb} {mg:Yh} {base:Heap} {n:Nat} {g:FF} (h:FnOk P w K mg base CX0 k f fd ps (spF K n g)):FnOk P w K mg base CX0 k f fd ps (spF K n (Fw g)) :=
 h.imp λvs H Q E ⟨L,ds,M,d,M',c,r,hl,hf,q⟩=>by
  unfold Fw at hf;split at hf
  .rename_i d' M1 e1;split at hf
   .rename_i hb;cases hf;simp only[BR,Bx,Bi]at hb;obtain ⟨⟨hb1,hb2⟩,hb3⟩:=hb;refine ⟨L,ds,M,_,_,c,r,hl,e1,λL1 H1 v s1 c1 r1=>?_⟩;obtain ⟨N,rfl⟩:=s1.pre;rw[<-c.len]at hb1 hb2 hb3;refine q L H1 v ⟨⟨[],by simp⟩,λa ha=> .inl ha,s1.old,s1.tup,s1.frz⟩ ⟨?_,?_,λi a m e2 e3=>?_⟩ (Rep.less hb1 r1)
    .rw[EJ,<-c.len];omega
    .exact (DH.mp c1.nd).1
    .rw[<-c.len]at e3;have hi:i<L.length:=(AG.mp e2).1;have hm:m∈M1.take L.length:=List.mem_of_getElem? e3;rw[List.getElem?_take_of_lt hi]at e3;have z:=c1.obj i a m (D6 e2) e3;have bl:=hb2 m hm;cases m with
     |lst xs=>obtain ⟨ws,e4,r4⟩:=z;exact ⟨ws,e4,zR.less bl r4⟩
     |fro xs=>obtain ⟨o,ws,e4,r4⟩:=z;exact ⟨o,ws,e4,zR.less bl r4⟩
     |dict ps=>obtain ⟨vs,e,r⟩:=z;exact ⟨vs,e,Aj.less bl r⟩
     |dicT ps=>obtain ⟨vs,e,r⟩:=z;exact ⟨vs,e,Aj.less bl r⟩
     |set _=>exact z
     |froT ps=>obtain ⟨o,vs,e,r⟩:=z;exact ⟨o,vs,e,Aj.less bl r⟩
     |froK ps=>obtain ⟨o,vs,e,r⟩:=z;exact ⟨o,vs,e,Aj.less bl r⟩
   .cases hf
  .cases hf
noncomputable def Dp (g:FF):FF:=λds M=>if D.unds 0 ds then match g ds [] with
  |some (d,_)=>if D.und 0 d then some (d,M) else none
  |none=>none
 else none
def FC {P:Ym} {w:Yo} {K:Yb} {mg:Yh} {base:Heap} {n:Nat} {g:FF} (h:FnOk P w K mg base CX0 k f fd ps (spF K n g)):FnOk P w K mg base CX0 k f fd ps (spF K n (Dp g)) :=
 h.imp λvs H Q E ⟨L,ds,M,d,M',c,r,hl,hf,q⟩=>by
  unfold Dp at hf;split at hf
  .rename_i hb0;split at hf
   .rename_i d' M1 e1;split at hf
    .rename_i hb;cases hf;refine ⟨[],ds,[],_,_,⟨rfl,.nil,λi a m e=>by simp at e⟩,zR.less (L:=[]) (N:=L) hb0 (by simpa using r),hl,e1,λL1 H1 v s1 c1 r1=>?_⟩;have gr:∀ a o,H a=some o->H1 a=some o:=λa o e=>s1.old a o e (by simp);exact q L H1 v (.grow gr) (c.grow gr) ((Rep.less (L:=[]) (N:=L1) hb (by simpa using r1)).more L |> λz=>by simpa using z)
    .cases hf
   .cases hf
  .cases hf
def TM (hl:PE X l tl):PI X tg l (λY H R=>tl Y H λx H1=>∃ a,x=.ref a/\((∃ xs,SqL X.K H1 a xs)/\R (Itl X.K a) H1\/(∃ xs,SqT X.K H1 a xs)/\R (Itt X.K a) H1)):=by
 intro zB s Y H R I h;refine thn (hl zB s Y H _ I h) λv s1 ⟨y,H1,I1,r1,a,hy,h1⟩=>?_;subst hy;cases r1;have fpk:∀ b∈[s1.heap.objs.size],BX X zB H1 b:=λb hb=>by
  have e:b=s1.heap.objs.size:=by simpa using hb
  subst e;exact I1.fpOk (AF _) (I1.hok.fresh (AF _))
 rcases h1 with ⟨⟨xs,hq⟩,q⟩|⟨⟨xs,hq⟩,q⟩
 .obtain ⟨its,rv,pl,hz⟩:=I1.list hq;exact wpAny_pyIter_list pl.isList ⟨s1.heap.objs.size,[s1.heap.objs.size],_,_,H1,rfl,I1.kept (t':=s1.toks) λb o e=>AN _ e,WL a _,⟨_,Ad _ rfl,rfl,rfl⟩,fpk,q⟩
 .obtain ⟨its,rv,pl,hz⟩:=I1.tuple hq;exact Fx (show s1.heap.IsTuple a its.toArray from pl) ⟨s1.heap.objs.size,[s1.heap.objs.size],_,_,H1,rfl,I1.kept (t':=s1.toks) λb o e=>AN _ e,XU a _,⟨_,Ad _ rfl,rfl,rfl⟩,fpk,q⟩
noncomputable def B9 (x:EV) (xs:List D):Option (Mem->Prop):=match x with
 |.dat (.ref n)=>some λM=>M[n]?=some (.lst xs)\/M[n]?=some (.fro xs)
 |_=>none
noncomputable def AO (f:FE):FI:=λY M=>match f Y M with
 |some (x,M1)=>match Al M1 x with
  |some xs=>some (xs,B9 x xs,M1)
  |none=>none
 |none=>none
noncomputable def A0 (f:FA):FI:=λY M=>match f Y M with
 |some ([.int j],M1)=>if -(2 ^ 62)<=j/\j<2 ^ 62 then some ((List.range j.toNat).map λ(k:Nat)=>D.int k,none,M1) else none
 |some ([.int i,.int j],M1)=>if -(2 ^ 62)<=i/\i<2 ^ 62 /\ -(2 ^ 62)<=j/\j<2 ^ 62 then some ((List.range (j-i).toNat).map λ(k:Nat)=>D.int (i+k),none,M1) else none
 |_=>none
def Wa (h:QE X e g):QI X tg e (AO g):=.mk <| PI.imp (TM h.un) λτ H R zz=>by
 obtain ⟨L,Y,M,xs,gd,M',c,rs,hf,q⟩:=zz;unfold AO at hf;split at hf
 .rename_i y M1 e1;split at hf
  .rename_i zs e2;cases hf;refine ⟨L,Y,M,_,_,c,rs,e1,λL1 H1 v s1 c1 r1=>?_⟩;unfold Al at e2;cases t:CG y with
   |some ws=>
    rw[t]at e2;cases e2;obtain ⟨a,vs,rfl,e3,r3⟩:=DU r1 t;refine ⟨a,rfl,.inr ⟨⟨vs,.of e3⟩,q L1 H1 _ s1 c1 λL2 H2 M2 s2 c2 _=>?_⟩⟩;have e4:=s2.tup a vs e3;have r4:=r3.stp s2;refine ⟨λi d hd=>?_,⟨vs,.of e4,by rw[r4.length];exact AF _⟩⟩;obtain ⟨u,hu,ru⟩:=r4.get hd;refine ⟨⟨vs,u,.of e4,hu⟩,λv H3 ⟨hH,hv⟩=>?_⟩;subst hH;have:=hv vs (.of e4);rw[hu]at this;cases this;exact ⟨λ_ _ z=>z,ru⟩
   |none=>
    rw[t]at e2;obtain ⟨a,vs,rfl,e3,r3⟩:=Co c1 r1 e2;refine ⟨a,rfl,.inl ⟨⟨vs,.inl e3⟩,q L1 H1 _ s1 c1 λL2 H2 M2 s2 c2 hgd=>?_⟩⟩;have key:∃ vs',SqL X.K H2 a vs'/\zR L2 H2 xs vs':=by
     cases y with
     |fl ys=>
      cases e2;obtain ⟨p',vs',hp',_,e5,e6,r6⟩:=r1;cases hp';exact ⟨vs',.of (s2.old _ _ e5 e6),r6.stp s2⟩
     |dat d=>
      cases d with
      |ref n=>
       unfold ze Rep at r1;obtain ⟨a',ha',e5⟩:=r1;cases ha';have e6:L2[n]?=some a:=by obtain ⟨N,hN⟩:=s2.pre;rw[hN];exact D6 e5
       rcases hgd with z|z
       .obtain ⟨vs',e7,r7⟩:=c2.obj n a _ e6 z;exact ⟨vs',.of e7,r7⟩
       .obtain ⟨o,vs',e7,r7⟩:=c2.obj n a _ e6 z;exact ⟨vs',.inl (.inr ⟨o,e7⟩),r7⟩
      |_=>cases e2
    obtain ⟨vs',hq,r7⟩:=key;refine ⟨λi d hd=>?_,⟨vs',hq,by rw[r7.length];exact AF _⟩⟩;obtain ⟨u,hu,ru⟩:=r7.get hd;refine ⟨⟨vs',u,hq,hu⟩,λv H3 ⟨hH,hv⟩=>?_⟩;subst hH;have:=hv vs' hq;rw[hu]at this;cases this;exact ⟨λ_ _ z=>z,ru⟩
  .cases hf
 .cases hf
def RD (h:zR L H [.int j] vs):vs=[.int j]:=by
 unfold zR at h;obtain ⟨v,r,rfl,h1,h2⟩:=h;unfold zR at h2;unfold Rep at h1;subst h1 h2;rfl
def gM {K:Yb} {L:Yg} {H:Hp} {lo:Int} {n:Nat}:PJ K (Itr lo n) L H ((List.range n).map λ(k:Nat)=>D.int (lo+k)) none:=by
 intro L' H' M' s c _;refine ⟨λi d hd=>?_,by simp[Itr]⟩;rw[Bn]at hd;cases q:(List.range n)[i]? with
 |none=>rw[q]at hd;cases hd
 |some k=>
  rw[q]at hd;cases hd;have hi:i<n:=by have:=(AG.mp q).1;simpa using this
  rw[List.getElem?_range hi]at q;cases q;refine ⟨hi,λv H'' ⟨hH,hv⟩=>?_⟩;subst hH hv;exact ⟨λ_ _ z=>z,B4⟩
def U4 {tg a:Expr} {g:FA} (hg:Gl X "range") (hm:X.mg "range" = none) (ha:QA X [a] g) (hl:JW g 1) (hs:starEach [a] X.env=[(false,eval a X.env)]:=by rfl):QI X tg (.Call (.Name "range" p) [a] [] pos) (A0 g) :=
 .mk <| PI.imp (ZJ hg hm ha.un hs) λτ H R zz=>by
  obtain ⟨L,Y,M,xs,gd,M',c,rs,hf,q⟩:=zz;unfold A0 at hf;split at hf
  .rename_i j M1 e1;split at hf
   .rename_i hb;cases hf;refine ⟨L,Y,M,_,_,c,rs,e1,λL1 H1 vs s1 c1 r1=>⟨j,RD r1,hb.1,hb.2,q L1 H1 _ s1 c1 ?_⟩⟩;have z:=gM (K:=X.K) (L:=L1) (H:=H1) (lo:=0) (n:=j.toNat);simpa using z
   .cases hf
  .rename_i e1;have:=hl _ _ _ _ e1;simp at this
  .cases hf
section
variable {es rest:Yi}
noncomputable def Ck (f g:FT):FT:=λY M=>match f Y M with
 |some (true,M1)=>g Y M1
 |r=>r
noncomputable def CN (f g:FT):FT:=λY M=>match f Y M with
 |some (false,M1)=>g Y M1
 |r=>r
noncomputable def Cw (f:FT):FT:=λY M=>match f Y M with
 |some (k,M1)=>some (!k,M1)
 |none=>none
structure QW (X:Cx) (e:Expr) (f:FT):Prop where
 un:PW X e (trT X.K f)
def PW.imp (h:PW X e t) (hi:∀ τ H Q,t' τ H Q->t τ H Q):PW X e t':=λwh zB s Y H Q I q=>h wh zB s Y H Q I (hi _ _ _ q)
def Tr (h:QT X a f):QW X (.BoolOp .And [a] pos) f:=.mk (lD h.un)
def lH (h:QT X a f):QW X (.BoolOp .Or [a] pos) f:=.mk (nK h.un)
def aD (h1:QT X a f) (h2:QW X (.BoolOp .And (b::rest) pos) g):QW X (.BoolOp .And (a::b::rest) pos) (Ck f g):=.mk <| PW.imp (dS h1.un h2.un) λτ H Q zz=>by
 obtain ⟨L,Y,M,d,M',c,rs,hf,q⟩:=zz;unfold Ck at hf;split at hf
 .rename_i M1 e1;exact ⟨L,Y,M,_,_,c,rs,e1,λL1 H1 s1 c1=>Dn ⟨L1,Y,M1,_,_,c1,rs.stp s1,hf,λL2 H2 s2 c2=>q L2 H2 (s1.trans s2) c2⟩⟩
 .rename_i hne;cases d with
  |true=>exact absurd hf (hne M')
  |false=>exact ⟨L,Y,M,_,_,c,rs,hf,λL1 H1 s1 c1=>Dr (q L1 H1 s1 c1)⟩
def QV (h1:QT X a f) (h2:QW X (.BoolOp .Or (b::rest) pos) g):QW X (.BoolOp .Or (a::b::rest) pos) (CN f g):=.mk <| PW.imp (Tc h1.un h2.un) λτ H Q zz=>by
 obtain ⟨L,Y,M,d,M',c,rs,hf,q⟩:=zz;unfold CN at hf;split at hf
 .rename_i M1 e1;exact ⟨L,Y,M,_,_,c,rs,e1,λL1 H1 s1 c1=>Dr ⟨L1,Y,M1,_,_,c1,rs.stp s1,hf,λL2 H2 s2 c2=>q L2 H2 (s1.trans s2) c2⟩⟩
 .rename_i hne;cases d with
  |false=>exact absurd hf (hne M')
  |true=>exact ⟨L,Y,M,_,_,c,rs,hf,λL1 H1 s1 c1=>Dn (q L1 H1 s1 c1)⟩
def N1 (h:QW X e f):QT X e f:=.mk (PW.pt h.un)
def TX (h:QT X a f):QT X (.UnaryOp .Not a pos) (Cw f):=.mk <| PT.imp (T8 h.un) λτ H Q zz=>by
 obtain ⟨L,Y,M,d,M',c,rs,hf,q⟩:=zz;unfold Cw at hf;split at hf
 .rename_i k M1 e1;cases hf;exact ⟨L,Y,M,_,_,c,rs,e1,λL1 H1 s1 c1=>q L1 H1 s1 c1⟩
 .cases hf
noncomputable def C5 (f g:FE):FE:=λY M=>match f Y M with
 |some (.dat (.bl true),M1)=>g Y M1
 |some (.dat (.bl false),M1)=>some (.dat (.bl false),M1)
 |_=>none
noncomputable def E3 (f:FE):FE:=λY M=>match f Y M with
 |some (.dat (.bl k),M1)=>some (.dat (.bl (!k)),M1)
 |_=>none
def E9 (h:ze H0 L H (.dat (.bl k)) v):v=.bl k:=by unfold ze Rep at h;exact h
def mM {op} (h:QE X a f):QE X (.BoolOp op [a] pos) f:=.mk (eI h.un)
def jS (h1:QE X a f) (h2:QE X (.BoolOp .And (b::rest) pos) g):QE X (.BoolOp .And (a::b::rest) pos) (C5 f g):=.mk <| PE.imp (oI h1.un h2.un) λτ H Q zz=>by
 obtain ⟨L,Y,M,d,M',c,rs,hf,q⟩:=zz;unfold C5 at hf;split at hf
 .rename_i M1 e1;exact ⟨L,Y,M,_,_,c,rs,e1,λL1 H1 v s1 c1 r1=>⟨true,E9 r1,Dn ⟨L1,Y,M1,_,_,c1,rs.stp s1,hf,λL2 H2 w s2 c2 r2=>q L2 H2 w (s1.trans s2) c2 (r2.back s1 c s2.sub)⟩⟩⟩
 .rename_i M1 e1;cases hf;exact ⟨L,Y,M,_,_,c,rs,e1,λL1 H1 v s1 c1 r1=>⟨false,E9 r1,Dr (q L1 H1 _ s1 c1 (by have:=E9 r1;subst this;exact r1))⟩⟩
 .cases hf
def eZ (h:QE X a f):QE X (.UnaryOp .Not a pos) (E3 f):=.mk <| PE.imp (T5 h.un) λτ H Q zz=>by
 obtain ⟨L,Y,M,d,M',c,rs,hf,q⟩:=zz;unfold E3 at hf;split at hf
 .rename_i k M1 e1;cases hf;exact ⟨L,Y,M,_,_,c,rs,e1,λL1 H1 v s1 c1 r1=>⟨k,E9 r1,q L1 H1 _ s1 c1 (by unfold ze Rep;rfl)⟩⟩
 .cases hf
noncomputable def vIf (t:FT) (f g:FE):FE:=λY M=>match t Y M with
 |some (true,M1)=>f Y M1
 |some (false,M1)=>g Y M1
 |none=>none
def eW (hc:QT X c t) (h1:QE X a f) (h2:QE X b g):QE X (.IfExp c a b pos) (vIf t f g):=.mk <| PE.imp (UO hc.un h1.un h2.un) λτ H Q zz=>by
 obtain ⟨L,Y,M,d,M',c,rs,hf,q⟩:=zz;unfold vIf at hf;split at hf
 .rename_i M1 e1;exact ⟨L,Y,M,_,_,c,rs,e1,λL1 H1 s1 c1=>Dn ⟨L1,Y,M1,_,_,c1,rs.stp s1,hf,λL2 H2 w s2 c2 r2=>q L2 H2 w (s1.trans s2) c2 (r2.back s1 c s2.sub)⟩⟩
 .rename_i M1 e1;exact ⟨L,Y,M,_,_,c,rs,e1,λL1 H1 s1 c1=>Dr ⟨L1,Y,M1,_,_,c1,rs.stp s1,hf,λL2 H2 w s2 c2 r2=>q L2 H2 w (s1.trans s2) c2 (r2.back s1 c s2.sub)⟩⟩
 .cases hf
noncomputable abbrev KM:=EV->List D->Mem->Option (D × Mem)
noncomputable def fM (k:KM) (f:FE) (g:FA):FE:=λY M=>match f Y M with
 |some (x,M1)=>match Bb M1 x with
  |some _=>match g Y M1 with
   |some (ds,M2)=>match k x ds M2 with
    |some (d,M3)=>some (.dat d,M3)
    |none=>none
   |none=>none
  |none=>none
 |none=>none
def Hv (K:Yb) (r:V->List V->Hp->VK->Prop) (k:KM):Prop:=∀ {L:Yg} {M M':Mem} {H H0:Hp} {x:EV} {ds:List D} {d:D} {v:V} {vs:List V} {Q:VK},Cor K L M H->ze H0 L H x v->zR L H ds vs->k x ds M=some (d,M') ->
 (∀ L' H' u,Stp L H L' H'->Cor K L' M' H'->Rep L' H' d u->Q u H')->r v vs H Q
def J4 {K:PySem.W.Frag} {r:V->List V->Hp->VK->Prop} {k:KM} {f:FE} {g:FA} (hk:Hv K r k) {τ:Sv} {H:Hp} {Q:VK} (h:trE K (fM k f g) τ H Q):tBM K "list" r (trE K f) (trA K g) τ H Q:=by
 obtain ⟨L,Y,M,d,M',c,rs,hf,q⟩:=h;unfold fM at hf;split at hf
 .rename_i x M1 e1;split at hf
  .rename_i xs e2;split at hf
   .rename_i ds M2 e3;split at hf
    .rename_i d' M3 e4;cases hf;refine ⟨L,Y,M,_,_,c,rs,e1,λL1 H1 v s1 c1 r1=>?_⟩;obtain ⟨a,vs,rfl,e5,r5⟩:=Co c1 r1 e2;refine ⟨.inl ⟨rfl,vs,.inl e5⟩,L1,Y,M1,_,_,c1,rs.stp s1,e3,λL2 H2 ws s2 c2 r2=>?_⟩;exact hk c2 (r1.stp s2) r2 e4 λL3 H3 u s3 c3 r3=>q L3 H3 u ((s1.trans s2).trans s3) c3 r3
    .cases hf
   .cases hf
  .cases hf
 .cases hf
noncomputable def z0:KM:=λx ds M=>match x,ds with
 |.dat (.ref n),[d]=>match M[n]? with
  |some (.lst xs)=>if xs.length<sizeLine then some (.non,M.set n (.lst (xs++[d]))) else none
  |_=>none
 |_,_=>none
def zR.one (h:zR L H [d] vs):∃ v,vs=[v]/\Rep L H d v:=by
 unfold zR at h;obtain ⟨v,r,rfl,h1,h2⟩:=h;unfold zR at h2;subst h2;exact ⟨v,rfl,h1⟩
def jL {K:Yb}:Hv K PF z0:=by
 intro L M M' H H0 x ds d v vs Q c rx rd hk q;unfold z0 at hk;split at hk
 .rename_i n d';split at hk
  .rename_i xs e1;split at hk
   .rename_i hz;cases hk;unfold ze Rep at rx;obtain ⟨a,rfl,e2⟩:=rx;obtain ⟨ws,e3,r3⟩:=c.obj n a _ e2 e1;obtain ⟨w,rfl,r4⟩:=rd.one;obtain ⟨c5,s5⟩:=c.write e2 e1 (r3.app (.cons r4 .nil));exact ⟨a,ws,w,rfl,rfl,e3,by rw[r3.length];exact hz,q L _ _ s5 c5 (by unfold Rep;rfl)⟩
   .cases hk
  .cases hk
 .cases hk
def jB (h:QE X a f) (hg:QA X [e] g) (hbase:attributeBase a "append" X.env (eval a X.env)=eval a X.env:=by rfl)
  (hfew:((backTo cpos (starEach [e] X.env)).all (λx=> !x.1)&&(backToKw cpos (keywordEach [] X.env)).all (λx=>x.1.isSome)&&decide ([e].length+([]:List Keyword).length+(if ([]:List Keyword).isEmpty then 0 else 1)<30))=true:=by rfl)
  (hline:(apos.endLine==cpos.line)=true:=by rfl) (hs:starEach [e] X.env=(false,eval e X.env)::starEach [] X.env:=by rfl) (hplain:(backTo cpos (starEach [] X.env)).any (·.1)=false:=by rfl) :
  QE X (.Call (.Attribute a "append" apos) [e] [] cpos) (fM z0 f g) :=
 .mk <| PE.imp (J0 PySem.F.plainAttrs_list PySem.F.slot_list_append PySem.F.type_list_append mV h.un hg.un hbase hfew hline hs hplain) λ_ _ _ z=>J4 jL z
noncomputable def Fv:KM:=λx ds M=>match x,ds with
 |.dat (.ref n),[.int i]=>match M[n]? with
  |some (.lst xs)=>match ixN xs.length i with
   |some k=>match xs[k]? with
    |some d=>if -(2 ^ 63)<=i/\i<2 ^ 63 then some (d,M.set n (.lst (xs.eraseIdx k))) else none
    |none=>none
   |none=>none
  |_=>none
 |_,_=>none
def UP {K:Yb}:Hv K Q2 Fv:=by
 intro L M M' H H0 x ds d v vs Q c rx rd hk q;unfold Fv at hk;split at hk
 .rename_i n i;split at hk
  .rename_i xs e1;split at hk
   .rename_i k e2;split at hk
    .rename_i d' e3;split at hk
     .rename_i hb;cases hk;unfold ze Rep at rx;obtain ⟨a,rfl,e4⟩:=rx;obtain ⟨ws,e5,r5⟩:=c.obj n a _ e4 e1;obtain ⟨u,e6,r6⟩:=r5.get e3;obtain ⟨c5,s5⟩:=c.write e4 e1 (r5.eraseIdx k);exact ⟨a,ws,i,k,u,rfl,RD rd,e5,hb.1,hb.2,by rw[r5.length];exact (Me e2).1,e6,q L _ _ s5 c5 (r6.stp s5)⟩
     .cases hk
    .cases hk
   .cases hk
  .cases hk
 .cases hk
def fT (h:QE X a f) (hg:QA X [e] g) (hbase:attributeBase a "pop" X.env (eval a X.env)=eval a X.env:=by rfl)
  (hfew:((backTo cpos (starEach [e] X.env)).all (λx=> !x.1)&&(backToKw cpos (keywordEach [] X.env)).all (λx=>x.1.isSome)&&decide ([e].length+([]:List Keyword).length+(if ([]:List Keyword).isEmpty then 0 else 1)<30))=true:=by rfl)
  (hline:(apos.endLine==cpos.line)=true:=by rfl) (hs:starEach [e] X.env=(false,eval e X.env)::starEach [] X.env:=by rfl) (hplain:(backTo cpos (starEach [] X.env)).any (·.1)=false:=by rfl) :
  QE X (.Call (.Attribute a "pop" apos) [e] [] cpos) (fM Fv f g) :=
 .mk <| PE.imp (J0 PySem.F.plainAttrs_list PySem.F.slot_list_pop PySem.F.type_list_pop Vl h.un hg.un hbase hfew hline hs hplain) λ_ _ _ z=>J4 UP z
noncomputable def IV (x:EV) (i:D) (d:D) (M:Mem):Option Mem:=match x,i with
 |.dat (.ref n),.int i=>match M[n]? with
  |some (.lst xs)=>match ixN xs.length i with
   |some j=>some (M.set n (.lst (xs.set j d)))
   |none=>none
  |_=>none
 |_,_=>none
noncomputable def GS (fv fo fi:FE):FS:=λY M=>match toD fv Y M with
 |some (d,M1)=>match fo Y M1 with
  |some (x,M2)=>match toD fi Y M2 with
   |some (i,M3)=>match IV x i d M3 with
    |some M4=>some (.nx,Y,M4)
    |none=>none
   |none=>none
  |none=>none
 |none=>none
def Zt (hv:QE X v fv) (ho:QE X o fo) (hi:QE X i fi)
  (ha:∀ v,assign (.Subscript o i p) X.env v=(do
   let ov <- holding [v] (eval o X.env);let iv <- holding [v,ov] (eval i X.env);standAt p;holding [v,ov,iv] (setItem ov iv v);release [v,ov,iv] []):=by intro _;rfl)
  (hs:swapsWithSole [.Subscript o i p] v pos.line X.env=pure false:=by rfl) (hw:swappedStores [.Subscript o i p] v X.env=pure none:=by rfl) (h1:(assignEach [.Subscript o i p] X.env).map (·.2)=[assign (.Subscript o i p) X.env]:=by rfl) :
  QS X (.Assign [.Subscript o i p] v pos) (GS fv fo fi):=.mk <| PS.imp (QR (CW hv).un (d6 ho.un (CW hi).un YI ha) hs hw h1) λE τ H zz=>by
 obtain ⟨L,Y,M,out,Y',M',c,rs,hf,q⟩:=zz;unfold GS at hf;split at hf
 .rename_i d M1 e1;split at hf
  .rename_i x M2 e2;split at hf
   .rename_i j M3 e3;split at hf
    .rename_i M4 e4;cases hf;refine ⟨L,Y,M,_,_,c,rs,e1,λL1 H1 u s1 c1 r1=>⟨L1,Y,M1,_,_,c1,rs.stp s1,e2,λL2 H2 w s2 c2 r2=>⟨L2,Y,M2,_,_,c2,rs.stp (s1.trans s2),e3,λL3 H3 z s3 c3 r3=>?_⟩⟩⟩;have st:=(s1.trans s2).trans s3;unfold IV at e4;split at e4
     .rename_i n k;split at e4
      .rename_i xs e5;split at e4
       .rename_i m e6;cases e4;have r2':=r2.stp s3;unfold ze Rep at r2';obtain ⟨a,rfl,e7⟩:=r2';obtain ⟨ws,e8,r8⟩:=c3.obj n a _ e7 e5;obtain ⟨c9,s9⟩:=c3.write e7 e5 (zR.set ((r1.stp s2).stp s3) m r8);exact ⟨a,ws,k,m,rfl,by unfold Rep at r3;exact r3,e8,by rw[r8.length];exact e6,q L3 _ (st.trans s9) c9 τ ((rs.stp st).stp s9)⟩
       .cases e4
      .cases e4
     .cases e4
    .cases hf
   .cases hf
  .cases hf
 .cases hf
end
noncomputable def E8:D->Option V
 |.non=>some .non
 |.bl k=>some (.bl k)
 |.int i=>some (.int i)
 |.str x=>some (.str x)
 |_=>none
def Jk (h:Rep L H d v) (e:E8 d=some u):v=u:=by
 cases d with
 |non=>cases e;unfold Rep at h;exact h
 |bl _=>cases e;unfold Rep at h;exact h
 |int _=>cases e;unfold Rep at h;exact h
 |str _=>cases e;unfold Rep at h;exact h
 |tup _=>cases e
 |ref _=>cases e
noncomputable def Gd (neg:Bool):K2:=λx y M=>match x,y with
 |.dat d,.dat d'=>match E8 d,E8 d' with
  |some u,some w=>if JE u w then some (.dat (.bl (if neg then !decide (u=w) else decide (u=w))),M) else none
  |_,_=>none
 |_,_=>none
def OJ (h:Gd neg x y M=some (r,M')):∃ d d' u w,x=.dat d/\y=.dat d'/\E8 d=some u/\E8 d'=some w/\JE u w=true/\r=.dat (.bl (if neg then !decide (u=w) else decide (u=w)))/\M'=M:=by
 unfold Gd at h;split at h
 .rename_i d d';split at h
  .rename_i u w e1 e2;split at h
   .rename_i hs;cases h;exact ⟨d,d',u,w,rfl,rfl,e1,e2,hs,rfl,rfl⟩
   .cases h
  .cases h
 .cases h
def RM {K:Yb}:BQ K rEq (Gd false):=by
 intro L M M' H H0 x y d v w Q c rx ry hk q;obtain ⟨d1,d2,u,z,rfl,rfl,e1,e2,hs,rfl,rfl⟩:=OJ hk;have a1:=Jk rx e1;have a2:=Jk ry e2;subst a1 a2;exact ⟨hs,q L H _ (.refl L H) c (Ca (L:=L) (H:=H))⟩
def mJ {K:Yb}:BQ K rNe (Gd true):=by
 intro L M M' H H0 x y d v w Q c rx ry hk q;obtain ⟨d1,d2,u,z,rfl,rfl,e1,e2,hs,rfl,rfl⟩:=OJ hk;have a1:=Jk rx e1;have a2:=Jk ry e2;subst a1 a2;exact ⟨hs,q L H _ (.refl L H) c (Ca (L:=L) (H:=H))⟩
noncomputable def MJ (neg:Bool) (K:Yb):R2:=λx y H Q=>∃ p q xs,x=.ref p/\y=.ref q/\SqL K H p xs/\SqL K H q []/\Q (.bl (if neg then !xs.isEmpty else xs.isEmpty)) H
def MD (r:zg [] its):its=[]:=by cases r;rfl
def PX (hu:X.A.units<cLine):OpR X (compareOp .Eq) (MJ false X.K):=by
 intro zB s Y H x y v u Q I rx ry h;obtain ⟨p,q,xs,rfl,rfl,h1,h2,hq⟩:=h;cases rx;cases ry;obtain ⟨its,rv,pl,_⟩:=I.list h1;obtain ⟨its2,rv2,pl2,_⟩:=I.list h2;cases MD rv2;cases rv with
 |nil=>exact SeqAt.eq_listAt (e:=λ_=>true) pl.isList pl2.isList rfl hu (λj h1=>by simp at h1) ⟨.bl true,H,I,rfl,hq⟩
 |cons _ _=>exact SeqAt.eq_list_lengthsAt pl.isList pl2.isList (by simp) hu ⟨.bl false,H,I,rfl,hq⟩
def k7 (hu:X.A.units<cLine):OpR X (compareOp .NotEq) (MJ true X.K):=by
 intro zB s Y H x y v u Q I rx ry h;obtain ⟨p,q,xs,rfl,rfl,h1,h2,hq⟩:=h;cases rx;cases ry;obtain ⟨its,rv,pl,_⟩:=I.list h1;obtain ⟨its2,rv2,pl2,_⟩:=I.list h2;cases MD rv2;cases rv with
 |nil=>exact SeqAt.RcNeAt.lists (e:=λ_=>true) pl.isList pl2.isList rfl hu (λj h1=>by simp at h1) _ _ _ _ ⟨.bl false,H,I,rfl,hq⟩
 |cons _ _=>exact SeqAt.RcNeAt.lists_lengths pl.isList pl2.isList (by simp) hu _ _ _ _ ⟨.bl true,H,I,rfl,hq⟩
noncomputable def Im (neg:Bool):K2:=λx y M=>match Bb M x,Bb M y with
 |some xs,some []=>some (.dat (.bl (if neg then !xs.isEmpty else xs.isEmpty)),M)
 |_,_=>none
def NQ {K:Yb} {neg:Bool}:BQ K (MJ neg K) (Im neg):=by
 intro L M M' H H0 x y d v w Q c rx ry hk q;unfold Im at hk;split at hk
 .rename_i xs e1 e2;cases hk;obtain ⟨p1,vs,rfl,h1,r1⟩:=Co c rx e1;obtain ⟨p2,ws,rfl,h2,r2⟩:=Co c ry e2;unfold zR at r2;subst r2;refine ⟨p1,p2,vs,rfl,rfl,.inl h1,.inl h2,q L H _ (.refl L H) c ?_⟩;have:vs.isEmpty=xs.isEmpty:=by
   have:=r1.length;cases vs <;> cases xs <;> simp_all
  rw[this];exact (Ca (L:=L) (H:=H))
 .cases hk
noncomputable def kOr (k1 k2:K2):K2:=λx y M=>match k1 x y M with
 |some r=>some r
 |none=>k2 x y M
def JF {K:Yb} {r1 r2:R2} {k1 k2:K2} (h1:BQ K r1 k1) (h2:BQ K r2 k2):BQ K (λx y H Q=>r1 x y H Q\/r2 x y H Q) (kOr k1 k2):=by
 intro L M M' H H0 x y d v w Q c rx ry hk q;unfold kOr at hk;split at hk
 .rename_i r e1;cases hk;exact .inl (h1 c rx ry e1 q)
 .exact .inr (h2 c rx ry hk q)
noncomputable abbrev kEq:K2:=kOr (Gd false) (Im false)
noncomputable abbrev kNe:K2:=kOr (Gd true) (Im true)
def gG (hu:X.A.units<cLine) (h1:QE X a f) (h2:QE X b g):QE X (.Compare a [.Eq] [b] pos) (fOp kEq f g):=NW (JF RM NQ) (Ri.or (PX hu)) h1 h2 (EG _)
def mP (hu:X.A.units<cLine) (h1:QE X a f) (h2:QE X b g):QT X (.Compare a [.Eq] [b] pos) (tst (fOp kEq f g)):=GG (JF RM NQ) (Ri.or (PX hu)) h1 h2 (EG _)
def b9 (hu:X.A.units<cLine) (h1:QE X a f) (h2:QE X b g):QT X (.Compare a [.NotEq] [b] pos) (tst (fOp kNe f g)):=GG (JF mJ NQ) (Wo.or (k7 hu)) h1 h2 (EG _)
noncomputable def HY:KB:=λxs M=>match xs with
 |[.dat (.int i)]=>some (.dat (.int (if i<0 then -i else i)),M)
 |_=>none
def V7 {K:Yb}:Cz K (λxs H Q=>∃ i,xs=[.int i]/\Q (.int (if i<0 then -i else i)) H) HY:=by
 intro L M M' H H0 xs d vs Q c r hk q;unfold HY at hk;split at hk
 .rename_i i;cases hk;obtain ⟨v,rfl,r1⟩:=r.one;have:v=.int i:=by unfold ze Rep at r1;exact r1
  subst this;exact ⟨i,rfl,q L H _ (.refl L H) c (B4 (L:=L) (H:=H))⟩
 .cases hk
noncomputable def Ge:KB:=λxs M=>match xs with
 |[.dat (.int i)]=>some (.dat (.int i),M)
 |[.dat (.bl k)]=>some (.dat (.int (if k then 1 else 0)),M)
 |_=>none
def Zh {K:Yb}:Cz K (λxs H Q=>(∃ i,xs=[.int i]/\Q (.int i) H) \/ ∃ k,xs=[.bl k]/\Q (.int (if k then 1 else 0)) H) Ge:=by
 intro L M M' H H0 xs d vs Q c r hk q;unfold Ge at hk;split at hk
 .rename_i i;cases hk;obtain ⟨v,rfl,r1⟩:=r.one;have:v=.int i:=by unfold ze Rep at r1;exact r1
  subst this;exact .inl ⟨i,rfl,q L H _ (.refl L H) c (B4 (L:=L) (H:=H))⟩
 .rename_i k;cases hk;obtain ⟨v,rfl,r1⟩:=r.one;have:=E9 r1;subst this;exact .inr ⟨k,rfl,q L H _ (.refl L H) c (B4 (L:=L) (H:=H))⟩
 .cases hk
def iL {prog:Ym} {w:Yo} {A:Yn} {E:Yc} {s:Yl} {t b:Yt} {ws:Yf} {Q:Yc} (ht:IsTup s.heap t #[]) (hb:IsTup s.heap b ws.toArray) (h1:Q (.ref b) s) :
  wpAny (model prog w) A (binaryOp .Add (.ref t) (.ref b)) Q E s:=by
 obtain ⟨⟨cls,dd,data,sl⟩,ho,hc,n,hd⟩:=id ht;obtain ⟨⟨cls2,dd2,data2,sl2⟩,ho2,hc2,n2,hd2⟩:=id hb;simp only at hc hd hc2 hd2;subst hc hd hc2 hd2
 exact concat_meets ⟨_,ho,rfl⟩ ⟨_,ho2,rfl⟩ noFill_tuple_add seq_tuple_add PySem.F.slot_tuple_add PySem.F.entry_tuple_add (PySem.F.args_tuple_add_2 _ _)
   (tuple_addW0 t b #[] ws.toArray n n2 dd dd2 sl sl2 (by simp)) ⟨ho,ho2,h1⟩
noncomputable def P7 (K:Yb):R2:=λx y H Q=>∃ a b ys,x=.ref a/\y=.ref b/\SqT K H a []/\SqT K H b ys/\Q (.ref b) H
def Xa:OpR X (binaryOp .Add) (P7 X.K):=by
 intro zB s Y H x y v u Q I rx ry h;obtain ⟨a,b,ys,rfl,rfl,ha,hb,q⟩:=h;cases rx;cases ry;obtain ⟨its,r1,p1,_⟩:=I.tuple ha;obtain ⟨its2,r2,p2,_⟩:=I.tuple hb;cases MD r1;exact iL p1 p2 ⟨.ref b,H,I,rfl,q⟩
noncomputable def IS:K2:=λx y M=>match CG x,CG y with
 |some xs,some ys=>if xs.length+ys.length<=sizeLine then some (.dat (.tup (xs++ys)),M) else none
 |_,_=>none
def aX {K:Yb}:BQ K (λx y H Q=>Rc K x y H Q\/P7 K x y H Q) IS:=by
 intro L M M' H H0 x y d v w Q c rx ry hk q;unfold IS at hk;split at hk
 .rename_i xs ys e1 e2;split at hk
  .rename_i hz;cases hk;obtain ⟨p1,vs,rfl,h1,r1⟩:=DU rx e1;obtain ⟨p2,ws,rfl,h2,r2⟩:=DU ry e2;cases xs with
   |nil=>
    refine .inr ⟨p1,p2,ws,rfl,rfl,.of (by unfold zR at r1;subst r1;exact h1),.of h2,q L H _ (.refl L H) c ?_⟩;unfold ze Rep;exact ⟨p2,ws,rfl,h2,r2⟩
   |cons x0 xr=>
    have hv:vs≠[]:=λz=>by have:=r1.length;rw[z]at this;simp at this
    refine .inl ⟨p1,p2,vs,ws,rfl,rfl,.of h1,.of h2,hv,by rw[r1.length,r2.length];exact hz,λz=>?_,λz pp hp=>?_⟩
    .have:ys=[]:=by
      have:=r2.length;rw[z]at this;cases ys with
      |nil=>rfl
      |cons _ _=>simp at this
     subst this;refine q L H _ (.refl L H) c ?_;unfold ze Rep;rw[Au];exact ⟨p1,vs,rfl,h1,r1⟩
    .exact q L _ _ (.upd hp) (c.upd hp) (Rep.newTup hp (r1.app r2))
  .cases hk
 .cases hk
noncomputable abbrev zy:K2:=kOr ZI IS
def Te (h1:QE X a f) (h2:QE X b g):QE X (.BinOp a .Add b pos) (fOp zy f g):=Gr (JF (Fn λ_ _ _ _=>B4) aX) (eM.or (WU.or Xa)) h1 h2
structure Kinds (K:Yb):Prop where
 k:∀ t T,t∈["NoneType", "bool", "int", "str", "list", "tuple", "dict"]->T∈["int", "bool", "str", "tuple"]->PySem.W.kitOne K (.type t) (.type T)=some (decide (t=T)||(decide (t = "bool")&&decide (T = "int")))
noncomputable def Fy (M:Mem):EV->Option String
 |.dat .non=>some "NoneType"
 |.dat (.bl _)=>some "bool"
 |.dat (.int _)=>some "int"
 |.dat (.str _)=>some "str"
 |.dat (.tup _)=>some "tuple"
 |.fl _=>some "list"
 |.dat (.ref n)=>match M[n]? with
  |some (.lst _)=>some "list"
  |some (.fro _)=>some "list"
  |some (.dict _)=>some "dict"
  |some (.dicT _)=>some "dict"
  |_=>none
def T9 {K:PySem.W.Frag} {L:List Addr} {M:Mem} {H H0:Hp} {x:EV} {v:V} {t:String} (c:Cor K L M H) (r:ze H0 L H x v) (h:Fy M x=some t):TyOf K H v (.type t)/\t∈["NoneType", "bool", "int", "str", "list", "tuple", "dict"]:=by
 unfold Fy at h;split at h
 .cases h;unfold ze Rep at r;subst r;exact ⟨.non,by simp⟩
 .cases h;unfold ze Rep at r;subst r;exact ⟨.bl _,by simp⟩
 .cases h;unfold ze Rep at r;subst r;exact ⟨.int _,by simp⟩
 .cases h;unfold ze Rep at r;subst r;exact ⟨.str _,by simp⟩
 .cases h;unfold ze Rep at r;obtain ⟨a,vs,rfl,e,_⟩:=r;exact ⟨.tup e,by simp⟩
 .cases h;obtain ⟨p,vs,rfl,_,e,_⟩:=r;exact ⟨.lst e,by simp⟩
 .unfold ze Rep at r;obtain ⟨a,rfl,e⟩:=r;split at h
  .rename_i e1;cases h;obtain ⟨vs,q,_⟩:=c.obj _ a _ e e1;exact ⟨.lst q,by simp⟩
  .rename_i e1;cases h;obtain ⟨o,vs,q,_⟩:=c.obj _ a _ e e1;exact ⟨.frz q,by simp⟩
  .rename_i e1;cases h;obtain ⟨vs,q,_⟩:=c.obj _ a _ e e1;exact ⟨.dK q,by simp⟩
  .rename_i e1;cases h;obtain ⟨vs,q,_⟩:=c.obj _ a _ e e1;exact ⟨.dT q,by simp⟩
  .cases h
noncomputable def isT (t T:String):Bool:=decide (t=T)||(decide (t = "bool")&&decide (T = "int"))
noncomputable def Cj (T:String) (f:FE):FE:=λY M=>match f Y M with
 |some (x,M1)=>match Fy M1 x with
  |some t=>some (.dat (.bl (isT t T)),M1)
  |none=>none
 |none=>none
def OW (K:Yb) (T:String):List V->Hp->VK->Prop:=λxs H Q=>∃ x t b,xs=[x,.ty T]/\TyOf K H x t/\PySem.W.kitOne K t (.type T)=some b/\Q (.bl b) H
def dR:Br X (.builtin "isinstance") (OW X.K T):=by
 intro zB s Y H xs us Q I r h;obtain ⟨x,t,b,rfl,ty,e,q⟩:=h;cases r with
 |cons r1 r2=>
  cases r2 with
  |cons r3 r4=>
   cases r4;cases r3;exact cL I r1 ty e λtk=>⟨.bl b,H,I.tok _,rfl,q⟩
def Kc (hK:Kinds X.K) (hT:T∈["int", "bool", "str", "tuple"]) (hg:Gl X "isinstance") (hm:X.mg "isinstance" = none) (hg2:Gl X y) (hm2:X.mg y=none) (hv2:bootBuiltins y=some (.type T)) (hn2:y ≠ "__name__") (hd2:(y==("__debug__" : Str))=false) (h:QE X e f)
  (he:starEach (e::[.Name y p2]) X.env=(false,eval e X.env)::starEach [.Name y p2] X.env:=by rfl) (he2:starEach [.Name y p2] X.env=(false,eval (.Name y p2) X.env)::starEach [] X.env:=by rfl) (hpl:(backTo pos (starEach [.Name y p2] X.env)).any (·.1)=false:=by rfl) :
  QE X (.Call (.Name "isinstance" p1) [e,.Name y p2] [] pos) (Cj T f) :=
 .mk <| PE.imp (Nu (r:=OW X.K T) dR hg hm (by rfl) (FW h.un (FW (Sm (v:=.ty T) hg2 hm2 hv2 rfl hn2 hd2) Gg he2) he) (by decide) (by decide) he hpl) λτ H Q zz=>by
  obtain ⟨L,Y,M,d,M',c,rs,hf,q⟩:=zz;unfold Cj at hf;split at hf
  .rename_i x M1 e1;split at hf
   .rename_i t e2;cases hf;refine ⟨L,Y,M,_,_,c,rs,e1,λL1 H1 v s1 c1 r1=>?_⟩;obtain ⟨ty,ht⟩:=T9 c1 r1 e2;exact ⟨v,_,_,rfl,ty,hK.k t T ht hT,q L1 H1 _ s1 c1 (Ca (L:=L1) (H:=H1))⟩
   .cases hf
  .cases hf
def zR.two (h:zR L H [d,d'] vs):∃ v v',vs=[v,v']/\Rep L H d v/\Rep L H d' v':=by
 unfold zR at h;obtain ⟨v,r,rfl,h1,h2⟩:=h;obtain ⟨v',rfl,h3⟩:=h2.one;exact ⟨v,v',rfl,h1,h3⟩
def Zx (hg:Gl X "len") (hm:X.mg "len" = none) (ha:QAE X [e] fa) (he:starEach [e] X.env=(false,eval e X.env)::starEach [] X.env:=by rfl) (hpl:(backTo pos (starEach [] X.env)).any (·.1)=false:=by rfl):QE X (.Call (.Name "len" p) [e] [] pos) (fB AR fa) :=
 Ew fR Zf PySem.boot_len hg hm ha (by decide) (by decide) he hpl
def Xy (hg:Gl X "tuple") (hm:X.mg "tuple" = none) (ha:QAE X [e] fa) (he:starEach [e] X.env=(false,eval e X.env)::starEach [] X.env:=by rfl) (hpl:(backTo pos (starEach [] X.env)).any (·.1)=false:=by rfl):QE X (.Call (.Name "tuple" p) [e] [] pos) (fB CL fa) :=
 J8 Y6 Xk (by rfl) hg hm ha (by decide) (by decide) he hpl
def m7 (hg:Gl X "abs") (hm:X.mg "abs" = none) (ha:QAE X [e] fa) (he:starEach [e] X.env=(false,eval e X.env)::starEach [] X.env:=by rfl) (hpl:(backTo pos (starEach [] X.env)).any (·.1)=false:=by rfl):QE X (.Call (.Name "abs" p) [e] [] pos) (fB HY fa) :=
 Ew V7 dP (by rfl) hg hm ha (by decide) (by decide) he hpl
def Uk (hg:Gl X "int") (hm:X.mg "int" = none) (ha:QAE X [e] fa) (he:starEach [e] X.env=(false,eval e X.env)::starEach [] X.env:=by rfl) (hpl:(backTo pos (starEach [] X.env)).any (·.1)=false:=by rfl):QE X (.Call (.Name "int" p) [e] [] pos) (fB Ge fa) :=
 J8 Zh lC (by rfl) hg hm ha (by decide) (by decide) he hpl
noncomputable def JH (sc scope:Y0):Bool:=scope.names.all λy=>
 (y.2 != .local||scope.names.lookup y.1==some .local)&&(y.2 != .cell||scope.names.lookup y.1==some .cell)&&(y.2 != .free||(sc.names.lookup y.1==some .cell||sc.names.lookup y.1==some .free))
noncomputable def Jg (N:Yk) (scope:Y0) (own:Yj):Bool:=(List.range N.length).all λi=>match N[i]? with
 |some x=>decide (i∈own)||(scope.names.lookup x==none)||(scope.names.lookup x==some .free)
 |none=>true
def Nt (hk:scope.kind=.function) (hs:X.env.scope=sc) (hN:X.N=N) (h1:JH sc scope=true) (h2:Jg N scope own=true):CompIn X scope own:=by
 unfold JH at h1;rw[Bi]at h1;refine ⟨⟨hk,λy hy e=>?_,λy hy e=>?_,λy hy e=>?_⟩,λi x e=>?_⟩
 .have:=h1 y hy;simp[e]at this;exact this
 .have:=h1 y hy;simp[e]at this;exact this
 .have:=h1 y hy;simp[e]at this;show X.env.scope.names.lookup y.1=_\/X.env.scope.names.lookup y.1=_;rw[hs];exact this
 .unfold Jg at h2;rw[Bi]at h2;rw[hN]at e;have hi:i<N.length:=(AG.mp e).1;have:=h2 i (by simpa using hi);rw[e]at this;simp only[Bool.or_eq_true,Bx,beq_iff_eq,or_assoc]at this;exact this
noncomputable def JZ (K:Yb):Bool:=K.all λp=>match p.2.cls with
 |.type n=>n != "list"
 |_=>true
theorem Qc:∀ {K:Yb},K.lookup a=some o->(a,o)∈K
 |[],h=>by cases h
 | (b,u)::r,h=>by
  have h':List.lookup a ((b,u)::r)=some o:=h;rw[FY]at h';cases q:a==b with
  |true=>rw[q]at h';cases h';rw[beq_iff_eq.mp q];exact Ae
  |false=>rw[q]at h';exact Ai _ (Qc h')
def YX {K:PySem.W.Frag} (h:JZ K=true) {o:Obj} (e:K.lookup a=some o) (hc:o.cls=.type "list"):False:=by
 unfold JZ at h;rw[Bi]at h;have:=h (a,o) (Qc e);simp[hc]at this
theorem Rp:∀ (ns:Ye),zR L H (ns.map D.int) (ns.map V.int)
 |[]=> .nil
 |n::r=> .cons (by unfold Rep;rfl) (Rp r)
def dG {K:Yb} {m:FF} {H:Hp} {a:Yt} {ns:Ye} {E:XK} (hL:JZ K=true) (hO:Jx H) (hS:SqL K H a (ns.map V.int)) (h:∃ M',m [.ref 0] [.fro (ns.map D.int)]=some (.bl true,M')) :
  spF K 1 m [.ref a] H (λv _=>v=.bl true) E:=by
 obtain ⟨M',e⟩:=h;have hf:∃ o,H a=some (.frz o (.lst (ns.map V.int))):=by
  rcases hS with (h1|h1)|⟨o,its,n,h1,h2,_⟩
  .rcases hO a with z|⟨o,xs,z⟩
   .rw[h1]at z;cases z
   .rw[h1]at z;cases z
  .exact h1
  .exact (YX hL h1 h2).elim
 obtain ⟨o,hf⟩:=hf;refine ⟨[a],[.ref 0],[.fro (ns.map D.int)],_,_,⟨rfl,by simp,λn b m e1 e2=>?_⟩,.cons ?_ .nil,rfl,e,λL' H' v s c r=>?_⟩
 .cases n with
  |zero=>simp at e1 e2;subst e1;subst e2;exact ⟨o,_,hf,Rp ns⟩
  |succ n=>simp at e1
 .unfold Rep;exact ⟨a,rfl,rfl⟩
 .unfold Rep at r;exact r
def Ok {α:Type} (x:Option (α × Mem)) (P:α->Mem->Prop):Prop:=∃ a M,x=some (a,M)/\P a M
def OkS (x:Option (Out × Sd × Mem)) (P:Out->Sd->Mem->Prop):Prop:=∃ o Y M,x=some (o,Y,M)/\P o Y M
def Ok.mono {α:Type} {x:Option (α × Mem)} {P Q:α->Mem->Prop} (h:Ok x P) (hq:∀ a M,P a M->Q a M):Ok x Q:=let ⟨a,M,e,p⟩:=h;⟨a,M,e,hq a M p⟩
def OkS.mono {x:Option (Out × Sd × Mem)} {P Q:Out->Sd->Mem->Prop} (h:OkS x P) (hq:∀ o Y M,P o Y M->Q o Y M):OkS x Q:=let ⟨a,Y,M,e,p⟩:=h;⟨a,Y,M,e,hq a Y M p⟩
def BI {α:Type} {a:α} {M:Mem} {P:α->Mem->Prop}:Ok (some (a,M)) P ↔ P a M:=⟨λ⟨_,_,e,p⟩=>by cases e;exact p,λp=>⟨a,M,rfl,p⟩⟩
def IT {α:Type} {P:α->Mem->Prop}:Ok (none:Option (α × Mem)) P ↔ False:=⟨(λ⟨_,_,e,_⟩=>(nomatch e)),λh=>h.elim⟩
def TH {o:Out} {Y:Sd} {M:Mem} {P:Out->Sd->Mem->Prop}:OkS (some (o,Y,M)) P ↔ P o Y M:=⟨λ⟨_,_,_,e,p⟩=>by cases e;exact p,λp=>⟨o,Y,M,rfl,p⟩⟩
def BC {i:Nat}:Ok (zC i Y M) P ↔ ∃ d,Y[i]?=some (some d)/\P (.dat d) M:=by
 unfold zC;constructor
 .rintro ⟨a,M1,e,p⟩;split at e
  .rename_i d e1;cases e;exact ⟨d,e1,p⟩
  .cases e
 .rintro ⟨d,e1,p⟩;rw[e1];exact ⟨_,_,rfl,p⟩
def BW {d:D}:Ok (fC d Y M) P ↔ P (.dat d) M:=BI
def Av {k:K2}:Ok (fOp k f g Y M) P ↔ Ok (f Y M) λx M1=>Ok (g Y M1) λy M2=>Ok (k x y M2) P:=by
 unfold fOp;constructor
 .rintro ⟨a,M1,e,p⟩;split at e
  .rename_i x M2 e1;split at e
   .rename_i y M3 e2;exact ⟨x,M2,e1,y,M3,e2,a,M1,e,p⟩
   .cases e
  .cases e
 .rintro ⟨x,M2,e1,y,M3,e2,a,M1,e,p⟩;rw[e1];dsimp only;rw[e2];exact ⟨a,M1,e,p⟩
def D2 (P:D->Mem->Prop):EV->Mem->Prop
 |.dat d,M=>P d M
 |.fl xs,M=>P (.ref M.length) (M++[.lst xs])
def Bo {P:D->Mem->Prop}:Ok (toD f Y M) P ↔ Ok (f Y M) (D2 P):=by
 unfold toD;constructor
 .rintro ⟨a,M1,e,p⟩;split at e
  .rename_i d M2 e1;cases e;exact ⟨_,_,e1,p⟩
  .rename_i xs M2 e1;cases e;exact ⟨_,_,e1,p⟩
  .cases e
 .rintro ⟨x,M2,e1,p⟩;rw[e1];cases x with
  |dat d=>exact ⟨d,M2,rfl,p⟩
  |fl xs=>exact ⟨_,_,rfl,p⟩
def zM {P:D->Mem->Prop} {d:D} {M:Mem}:D2 P (.dat d) M ↔ P d M:=Iff.rfl
def Iq {P:D->Mem->Prop} {xs:List D} {M:Mem}:D2 P (.fl xs) M ↔ P (.ref M.length) (M++[.lst xs]):=Iff.rfl
def Ee:Ok (zE Y M) P ↔ P [] M:=BI
def C8 {f:FD} {g:FA}:Ok (zD f g Y M) P ↔ Ok (f Y M) λd M1=>Ok (g Y M1) λds M2=>P (d::ds) M2:=by
 unfold zD;constructor
 .rintro ⟨a,M1,e,p⟩;split at e
  .rename_i x M2 e1;split at e
   .rename_i y M3 e2;cases e;exact ⟨x,M2,e1,y,_,e2,p⟩
   .cases e
  .cases e
 .rintro ⟨x,M2,e1,y,M3,e2,p⟩;rw[e1];dsimp only;rw[e2];exact ⟨_,_,rfl,p⟩
def G1:Ok (zd Y M) P ↔ P [] M:=BI
def Hm {f:FE} {g:FAE}:Ok (zN f g Y M) P ↔ Ok (f Y M) λd M1=>Ok (g Y M1) λds M2=>P (d::ds) M2:=by
 unfold zN;constructor
 .rintro ⟨a,M1,e,p⟩;split at e
  .rename_i x M2 e1;split at e
   .rename_i y M3 e2;cases e;exact ⟨x,M2,e1,y,_,e2,p⟩
   .cases e
  .cases e
 .rintro ⟨x,M2,e1,y,M3,e2,p⟩;rw[e1];dsimp only;rw[e2];exact ⟨_,_,rfl,p⟩
def Jo {a:FA}:Ok (AM a Y M) P ↔ Ok (a Y M) λds M1=>ds.length<=sizeLine/\P (.fl ds) M1:=by
 unfold AM;constructor
 .rintro ⟨x,M1,e,p⟩;split at e
  .rename_i ds M2 e1;split at e
   .rename_i hz;cases e;exact ⟨ds,_,e1,hz,p⟩
   .cases e
  .cases e
 .rintro ⟨ds,M1,e1,hz,p⟩;rw[e1];dsimp only;rw[AB hz];exact ⟨_,_,rfl,p⟩
def HI {k:KB} {a:FAE}:Ok (fB k a Y M) P ↔ Ok (a Y M) λxs M1=>Ok (k xs M1) P:=by
 unfold fB;constructor
 .rintro ⟨x,M1,e,p⟩;split at e
  .rename_i ds M2 e1;exact ⟨ds,_,e1,x,M1,e,p⟩
  .cases e
 .rintro ⟨ds,M1,e1,p⟩;rw[e1];exact p
def EK {m:FF} {a:FA}:Ok (zO m a Y M) P ↔ Ok (a Y M) λds M1=>Ok (m ds M1) λd M2=>P (.dat d) M2:=by
 unfold zO;constructor
 .rintro ⟨x,M1,e,p⟩;split at e
  .rename_i ds M2 e1;split at e
   .rename_i d M3 e2;cases e;exact ⟨ds,_,e1,d,_,e2,p⟩
   .cases e
  .cases e
 .rintro ⟨ds,M1,e1,d,M2,e2,p⟩;rw[e1];dsimp only;rw[e2];exact ⟨_,_,rfl,p⟩
def EN {k:KM} {a:FA}:Ok (fM k f a Y M) P ↔ Ok (f Y M) λx M1=>(∃ xs,Bb M1 x=some xs)/\Ok (a Y M1) λds M2=>Ok (k x ds M2) λd M3=>P (.dat d) M3:=by
 unfold fM;constructor
 .rintro ⟨x,M1,e,p⟩;split at e
  .rename_i y M2 e1;split at e
   .rename_i xs e2;split at e
    .rename_i ds M3 e3;split at e
     .rename_i d M4 e4;cases e;exact ⟨y,_,e1,⟨xs,e2⟩,ds,_,e3,d,_,e4,p⟩
     .cases e
    .cases e
   .cases e
  .cases e
 .rintro ⟨y,M1,e1,⟨xs,e2⟩,ds,M2,e3,d,M3,e4,p⟩;rw[e1];dsimp only;rw[e2];dsimp only;rw[e3];dsimp only;rw[e4];exact ⟨_,_,rfl,p⟩
def Mg:Ok (BG Y M) P ↔ P none M:=BI
def PB (P:Option Int->Mem->Prop):EV->Mem->Prop
 |.dat (.int i),M=>P (some i) M
 |_,_=>False
def Ky {i:Int} {M:Mem}:PB P (.dat (.int i)) M ↔ P (some i) M:=Iff.rfl
def LY:Ok (Ay f Y M) P ↔ Ok (f Y M) (PB P):=by
 unfold Ay;constructor
 .rintro ⟨x,M1,e,p⟩;split at e
  .rename_i i M2 e1;cases e;exact ⟨_,_,e1,p⟩
  .cases e
 .rintro ⟨x,M1,e1,p⟩;rw[e1];cases x with
  |fl xs=>exact p.elim
  |dat d=>
   cases d with
   |int i=>exact ⟨_,_,rfl,p⟩
   |_=>exact p.elim
def NC {l h:FO}:Ok (fSl f l h Y M) P ↔ Ok (f Y M) λx M1=>Ok (l Y M1) λlo M2=>Ok (h Y M2) λhi M3=>Ok (kSl x lo hi M3) P:=by
 unfold fSl;constructor
 .rintro ⟨x,M1,e,p⟩;split at e
  .rename_i y M2 e1;split at e
   .rename_i lo M3 e2;split at e
    .rename_i hi M4 e3;exact ⟨y,_,e1,lo,_,e2,hi,_,e3,x,M1,e,p⟩
    .cases e
   .cases e
  .cases e
 .rintro ⟨y,M1,e1,lo,M2,e2,hi,M3,e3,p⟩;rw[e1];dsimp only;rw[e2];dsimp only;rw[e3];exact p
def blP (P:Bool->Mem->Prop):EV->Mem->Prop
 |.dat (.bl k),M=>P k M
 |_,_=>False
def Ei {P:Bool->Mem->Prop} {k:Bool} {M:Mem}:blP P (.dat (.bl k)) M ↔ P k M:=Iff.rfl
def JL {P:Bool->Mem->Prop}:Ok (tst f Y M) P ↔ Ok (f Y M) (blP P):=by
 unfold tst;constructor
 .rintro ⟨x,M1,e,p⟩;split at e
  .rename_i i M2 e1;cases e;exact ⟨_,_,e1,p⟩
  .cases e
 .rintro ⟨x,M1,e1,p⟩;rw[e1];cases x with
  |fl xs=>exact p.elim
  |dat d=>
   cases d with
   |bl i=>exact ⟨_,_,rfl,p⟩
   |_=>exact p.elim
def P8:Ok (zu Y M) P ↔ P true M:=BI
def iG:Ok (Ck s t Y M) P ↔ Ok (s Y M) λk M1=>if k then Ok (t Y M1) P else P false M1:=by
 unfold Ck;constructor
 .rintro ⟨x,M1,e,p⟩;split at e
  .rename_i M2 e1;exact ⟨true,M2,e1,by dsimp only;rw[AB rfl];exact ⟨x,M1,e,p⟩⟩
  .rename_i hn;cases x with
   |true=>exact absurd e (hn M1)
   |false=>exact ⟨false,M1,e,by simpa using p⟩
 .rintro ⟨x,M1,e1,p⟩;rw[e1];cases x with
  |true=>simpa using p
  |false=>exact ⟨false,M1,rfl,by simpa using p⟩
def WZ {t:FT}:Ok (vIf t f g Y M) P ↔ Ok (t Y M) λk M1=>if k then Ok (f Y M1) P else Ok (g Y M1) P:=by
 unfold vIf;constructor
 .rintro ⟨x,M1,e,p⟩;split at e
  .rename_i M2 e1;exact ⟨_,_,e1,by dsimp only;rw[AB rfl];exact ⟨x,M1,e,p⟩⟩
  .rename_i M2 e1;exact ⟨_,_,e1,by simpa using ⟨x,M1,e,p⟩⟩
  .cases e
 .rintro ⟨x,M1,e1,p⟩;rw[e1];cases x with
  |true=>simpa using p
  |false=>simpa using p
def nxP (k:Sd->Mem->Prop) (P:Out->Sd->Mem->Prop):Out->Sd->Mem->Prop
 |.nx,Y,M=>k Y M
 |o,Y,M=>P o Y M
def zU {k:Sd->Mem->Prop}:nxP k P .nx Y M ↔ k Y M:=Iff.rfl
def F9 {k:Sd->Mem->Prop} {d:D}:nxP k P (.ret d) Y M ↔ P (.ret d) Y M:=Iff.rfl
def Cr:OkS (Ah Y M) P ↔ P .nx Y M:=TH
def zK:OkS (zX f g Y M) P ↔ OkS (f Y M) (nxP (λσ1 M1=>OkS (g σ1 M1) P) P):=by
 unfold zX;constructor
 .rintro ⟨o,σ1,M1,e,p⟩;split at e
  .rename_i σ2 M2 e1;exact ⟨_,_,_,e1,o,σ1,M1,e,p⟩
  .rename_i hn;refine ⟨o,σ1,M1,e,?_⟩;cases o with
   |nx=>exact absurd e (hn σ1 M1)
   |_=>exact p
 .rintro ⟨o,σ1,M1,e1,p⟩;rw[e1];cases o with
  |nx=>exact p
  |_=>exact ⟨_,_,_,rfl,p⟩
def CO {c:FT}:OkS (sIf c f g Y M) P ↔ Ok (c Y M) λk M1=>if k then OkS (f Y M1) P else OkS (g Y M1) P:=by
 unfold sIf;constructor
 .rintro ⟨o,σ1,M1,e,p⟩;split at e
  .rename_i M2 e1;exact ⟨_,_,e1,by dsimp only;rw[AB rfl];exact ⟨o,σ1,M1,e,p⟩⟩
  .rename_i M2 e1;exact ⟨_,_,e1,by simpa using ⟨o,σ1,M1,e,p⟩⟩
  .cases e
 .rintro ⟨x,M1,e1,p⟩;rw[e1];cases x with
  |true=>simpa using p
  |false=>simpa using p
def CS {h:FE}:OkS (AL h Y M) P ↔ Ok (h Y M) (D2 λd M1=>P (.ret d) Y M1):=by
 rw[<-Bo];unfold AL;constructor
 .rintro ⟨o,σ1,M1,e,p⟩;split at e
  .rename_i d M2 e1;cases e;exact ⟨_,_,e1,p⟩
  .cases e
 .rintro ⟨x,M1,e1,p⟩;rw[e1];exact ⟨_,_,_,rfl,p⟩
def za {i:Nat} {h:FE}:OkS (zi i h Y M) P ↔ Ok (h Y M) (D2 λd M1=>P .nx (Y.set i (some d)) M1):=by
 rw[<-Bo];unfold zi;constructor
 .rintro ⟨o,σ1,M1,e,p⟩;split at e
  .rename_i d M2 e1;cases e;exact ⟨_,_,e1,p⟩
  .cases e
 .rintro ⟨x,M1,e1,p⟩;rw[e1];exact ⟨_,_,_,rfl,p⟩
def ER {h:FE}:OkS (Az h Y M) P ↔ Ok (h Y M) λ_ M1=>P .nx Y M1:=by
 unfold Az;constructor
 .rintro ⟨o,σ1,M1,e,p⟩;split at e
  .rename_i d M2 e1;cases e;exact ⟨_,_,e1,p⟩
  .cases e
 .rintro ⟨x,M1,e1,p⟩;rw[e1];exact ⟨_,_,_,rfl,p⟩
def Ku {v o i:FE}:OkS (GS v o i Y M) P ↔ Ok (v Y M) (D2 λd M1=>Ok (o Y M1) λx M2=>Ok (i Y M2) (D2 λj M3=>∃ M4,IV x j d M3=some M4/\P .nx Y M4)):=by
 rw[<-Bo];unfold GS;constructor
 .rintro ⟨o,σ1,M1,e,p⟩;split at e
  .rename_i d M2 e1;split at e
   .rename_i x M3 e2;split at e
    .rename_i j M4 e3;split at e
     .rename_i M5 e4;cases e;refine ⟨_,_,e1,_,_,e2,?_⟩;dsimp only;rw[<-Bo];exact ⟨_,_,e3,_,e4,p⟩
     .cases e
    .cases e
   .cases e
  .cases e
 .rintro ⟨d,M1,e1,x,M2,e2,p⟩;rw[<-Bo]at p;obtain ⟨j,M3,e3,M4,e4,p⟩:=p;rw[e1];dsimp only;rw[e2];dsimp only;rw[e3];dsimp only;rw[e4];exact ⟨_,_,_,rfl,p⟩
def zw {n:Nat} {ds:List D} {Q:D->Mem->Prop}:Ok (Ab n f ds M) Q ↔ OkS (f (ds.map some++List.replicate (n-ds.length) none) M) λo _ M1=>match o with|.ret d=>Q d M1|.nx=>Q .non M1|_=>False:=by
 unfold Ab;constructor
 .rintro ⟨o,M1,e,p⟩;split at e
  .rename_i d σ1 M2 e1;cases e;exact ⟨_,_,_,e1,p⟩
  .rename_i σ1 M2 e1;cases e;exact ⟨_,_,_,e1,p⟩
  .cases e
 .rintro ⟨o,σ1,M1,e1,p⟩;rw[e1];cases o with
  |ret d=>exact ⟨_,_,rfl,p⟩
  |nx=>exact ⟨_,_,rfl,p⟩
  |brk=>exact p.elim
  |cnt=>exact p.elim
theorem GF {c:FT} {b:FS} (I:Nat->Sd->Mem->Prop) (hs:∀ m Y M,I m Y M->Ok (c Y M) λk M1=>if k then OkS (b Y M1) λo σ2 M2=>match o with|.nx=>∃ m',m'<m/\I m' σ2 M2|.cnt=>∃ m',m'<m/\I m' σ2 M2|.brk=>P .nx σ2 M2|.ret d=>P (.ret d) σ2 M2 else P .nx Y M1) :
  ∀ (n m:Nat) (Y:Sd) (M:Mem),m<n->I m Y M->OkS (CM c b n Y M) P
 |0,m,Y,M,h,_=>absurd h (Nat.not_lt_zero _)
 |n+1,m,Y,M,h,hi=>by
  obtain ⟨k,M1,e,q⟩:=hs m Y M hi;unfold CM;rw[e];cases k with
  |false=>exact ⟨_,_,_,rfl,by simpa using q⟩
  |true=>
   rw[AB rfl]at q;obtain ⟨o,σ2,M2,e2,q⟩:=q;dsimp only;rw[e2];cases o with
   |nx=>obtain ⟨m',hm,q⟩:=q;exact GF I hs n m' σ2 M2 (by omega) q
   |cnt=>obtain ⟨m',hm,q⟩:=q;exact GF I hs n m' σ2 M2 (by omega) q
   |brk=>exact ⟨_,_,_,rfl,q⟩
   |ret d=>exact ⟨_,_,_,rfl,q⟩
theorem Dk {g:FG} {b:FS} {all:List D} {gd:Option (Mem->Prop)} (I:List D->Sd->Mem->Prop)
  (hs:∀ x r Y M,I (x::r) Y M->BN gd all M /\ ∃ σ1,g x Y=some σ1/\OkS (b σ1 M) λo σ2 M2=>match o with|.nx=>I r σ2 M2|.cnt=>I r σ2 M2|.brk=>P .nx σ2 M2|.ret d=>P (.ret d) σ2 M2)
  (he:∀ Y M,I [] Y M->BN gd all M/\P .nx Y M):∀ (xs:List D) (Y:Sd) (M:Mem),I xs Y M->OkS (Cy g b all gd xs Y M) P
 |[],Y,M,hi=>by
  unfold Cy;obtain ⟨h1,h2⟩:=he Y M hi;rw[AB h1];exact ⟨_,_,_,rfl,h2⟩
 |x::r,Y,M,hi=>by
  unfold Cy;obtain ⟨h1,σ1,e1,o,σ2,M2,e2,q⟩:=hs x r Y M hi;rw[AB h1,e1];dsimp only;rw[e2];cases o with
  |nx=>exact Dk I hs he r σ2 M2 q
  |cnt=>exact Dk I hs he r σ2 M2 q
  |brk=>exact ⟨_,_,_,rfl,q⟩
  |ret d=>exact ⟨_,_,_,rfl,q⟩
def DB {i:FI} {g:FG} {b:FS}:OkS (BU i g b Y M) P ↔ ∃ xs gd M1,i Y M=some (xs,gd,M1)/\OkS (Cy g b xs gd xs Y M1) P:=by
 unfold BU;constructor
 .rintro ⟨o,σ1,M1,e,p⟩;split at e
  .rename_i xs gd M2 e1;exact ⟨_,_,_,e1,_,_,_,e,p⟩
  .cases e
 .rintro ⟨xs,gd,M1,e1,p⟩;rw[e1];exact p
theorem Io {g:FG} {tc:FT} {te:FE} {all:List D} {gd:Option (Mem->Prop)} (I:List D->List D->Mem->Prop)
  (hs:∀ x r acc M,I (x::r) acc M->BN gd all M /\ ∃ σ1,g x Y=some σ1/\Ok (tc σ1 M) λk M1=>if k then Ok (te σ1 M1) (D2 λd M2=>I r (acc++[d]) M2) else I r acc M1)
  {Q:List D->Mem->Prop} (he:∀ acc M,I [] acc M->BN gd all M/\Q acc M):∀ (xs acc:List D) (M:Mem),I xs acc M->Ok (BP g tc te Y all gd xs M) λys M1=>Q (acc++ys) M1
 |[],acc,M,hi=>by
  unfold BP;obtain ⟨h1,h2⟩:=he acc M hi;rw[AB h1];exact ⟨_,_,rfl,by simpa using h2⟩
 |x::r,acc,M,hi=>by
  unfold BP;obtain ⟨h1,σ1,e1,k,M1,e2,q⟩:=hs x r acc M hi;rw[AB h1,e1];dsimp only;rw[e2];cases k with
  |false=>exact Io I hs he r acc M1 (by simpa using q)
  |true=>
   rw[AB rfl,<-Bo]at q;obtain ⟨d,M2,e3,q⟩:=q;dsimp only;rw[e3];obtain ⟨ys,M3,e4,p⟩:=Io I hs he r (acc++[d]) M2 q;dsimp only;rw[e4];exact ⟨_,_,rfl,by simpa using p⟩
def HS {own:Yj} {i:FI} {g:FG} {tc:FT} {te:FE} {Q:EV->Mem->Prop}:Ok (Af own i g tc te Y M) Q ↔ ∃ xs gd M1,i Y M=some (xs,gd,M1)/\xs.length<=sizeLine/\Ok (BP g tc te (An own Y) xs gd xs M1) λys M2=>Q (.fl ys) M2:=by
 unfold Af;constructor
 .rintro ⟨o,M1,e,p⟩;split at e
  .rename_i xs gd M2 e1;split at e
   .rename_i hz;split at e
    .rename_i ys M3 e2;cases e;exact ⟨_,_,_,e1,hz,_,_,e2,p⟩
    .cases e
   .cases e
  .cases e
 .rintro ⟨xs,gd,M1,e1,hz,ys,M2,e2,p⟩;rw[e1];dsimp only;rw[AB hz,e2];exact ⟨_,_,rfl,p⟩
def GZ {h:FE} {x:EV} {M1:Mem} {xs:List D} (e:h Y M=some (x,M1)) (e2:Al M1 x=some xs):AO h Y M=some (xs,B9 x xs,M1):=by
 unfold AO;rw[e];dsimp only;rw[e2]
def Pr {a:FA} {M1:Mem} {j:Int} (e:a Y M=some ([.int j],M1)) (h1:0<=j) (h2:j<2 ^ 62):A0 a Y M=some ((List.range j.toNat).map λ(k:Nat)=>D.int k,none,M1):=by
 unfold A0;rw[e];dsimp only;rw[AB ⟨by omega,h2⟩]
def HE:Ok (zy (.dat (.int i)) (.dat (.int j)) M) P ↔ P (.dat (.int (i+j))) M:=BI
def MW:Ok (HZ (.dat (.int i)) (.dat (.int j)) M) P ↔ HN i j=true/\P (.dat (.int (i*j))) M:=by
 unfold HZ kI;dsimp only;split
 .rename_i h;rw[BI];simp[h]
 .rename_i h;rw[IT];simp[h]
def Fm:Ok (DG (.dat (.int i)) (.dat (.int j)) M) P ↔ 0<j/\P (.dat (.int (i % j))) M:=by
 unfold DG kI;dsimp only;split
 .rename_i h;rw[BI];simp at h;simp[h]
 .rename_i h;rw[IT];simp at h;simp;intro h';omega
def Lw:Ok (HH (.dat (.int i)) (.dat (.int j)) M) P ↔ (0<j/\j<1073741824)/\P (.dat (.int (i / j))) M:=by
 unfold HH kI;dsimp only;split
 .rename_i h;rw[BI];simp at h;simp[h]
 .rename_i h;rw[IT];simp at h;simp;intro h' h2;have:=h h';omega
def OV:Ok (IM (.dat (.int i)) (.dat (.int j)) M) P ↔ (0<=j/\j<=1000000/\i.natAbs<2 ^ 64)/\P (.dat (.int (i ^ j.toNat))) M:=by
 unfold IM kI;dsimp only;split
 .rename_i h;rw[BI];simp only[BR,Bx]at h;simp[h]
 .rename_i h;rw[IT];simp only[BR,Bx,not_and]at h;simp only[false_iff,not_and];intro ⟨a,b,c⟩;exact absurd c (h ⟨a,b⟩)
def Jq:Ok (kLt (.dat (.int i)) (.dat (.int j)) M) P ↔ P (.dat (.bl (decide (i<j)))) M:=BI
def Qb:Ok (kLe (.dat (.int i)) (.dat (.int j)) M) P ↔ P (.dat (.bl (decide (i<=j)))) M:=BI
def eP:Ok (kGt (.dat (.int i)) (.dat (.int j)) M) P ↔ P (.dat (.bl (decide (j<i)))) M:=BI
def VP:Ok (kGe (.dat (.int i)) (.dat (.int j)) M) P ↔ P (.dat (.bl (decide (j<=i)))) M:=BI
def HL:Ok (kEq (.dat (.int i)) (.dat (.int j)) M) P ↔ P (.dat (.bl (decide (i=j)))) M:=by
 have:kEq (.dat (.int i)) (.dat (.int j)) M=some (.dat (.bl (decide (V.int i=V.int j))),M):=rfl;rw[this,BI];simp
def Je:Ok (kNe (.dat (.int i)) (.dat (.int j)) M) P ↔ P (.dat (.bl (decide (i≠j)))) M:=by
 have:kNe (.dat (.int i)) (.dat (.int j)) M=some (.dat (.bl (!decide (V.int i=V.int j))),M):=rfl;rw[this,BI];simp
def Kk {xs ys:List D}:Ok (zy (.dat (.tup xs)) (.dat (.tup ys)) M) P ↔ xs.length+ys.length<=sizeLine/\P (.dat (.tup (xs++ys))) M:=by
 have:zy (.dat (.tup xs)) (.dat (.tup ys)) M=IS (.dat (.tup xs)) (.dat (.tup ys)) M:=rfl;rw[this];unfold IS;dsimp only[CG];split
 .rename_i h;rw[BI];simp[h]
 .rename_i h;rw[IT];simp[h]
def Oz {x:EV} {xs:List D} (h:Bb M x=some xs) (hx:∀ d,x=.dat d->E8 d=none):Ok (kNe x (.fl []) M) P ↔ P (.dat (.bl (!xs.isEmpty))) M:=by
 have e1:Gd true x (.fl []) M=none:=by cases x <;> rfl
 have e2:kNe x (.fl []) M=some (.dat (.bl (!xs.isEmpty)),M):=by
  unfold kNe kOr;rw[e1];unfold Im;rw[h];rfl
 rw[e2,BI]
def Ie {x:EV} {xs:List D} {d:D} (h:Al M x=some xs) (hd:atI xs i=some d) (p:P (.dat d) M):Ok (kIx x (.dat (.int i)) M) P:=by
 have:kIx x (.dat (.int i)) M=some (.dat d,M):=by unfold kIx;dsimp only;rw[h];dsimp only;rw[hd]
 rw[this,BI];exact p
def Ld {xs:List D} {k:Nat} {d:D} (h:xs[k]?=some d):atI xs (k:Int)=some d:=P2 h
def My {xs:List D} {i:Int} {d:D} (h0:0<=i) (h:xs[i.toNat]?=some d):atI xs i=some d:=by
 have:i=((i.toNat:Nat):Int):=by omega
 rw[this];exact P2 h
def OK {x:EV} {xs:List D} (h:Al M x=some xs):Ok (AR [x] M) P ↔ P (.dat (.int xs.length)) M:=by
 have:AR [x] M=some (.dat (.int xs.length),M):=by unfold AR;dsimp only;rw[h]
 rw[this,BI]
def JX {x:EV} {xs:List D} (h:Al M x=some xs):Ok (CL [x] M) P ↔ P (.dat (.tup xs)) M:=by
 have:CL [x] M=some (.dat (.tup xs),M):=by unfold CL;dsimp only;rw[h]
 rw[this,BI]
def P9:Ok (HY [.dat (.int i)] M) P ↔ P (.dat (.int (if i<0 then -i else i))) M:=BI
def JS {x:EV} {xs:List D} {lo hi:Ys} (h:Bb M x=some xs) (ht:CG x=none):Ok (kSl x lo hi M) P ↔ P (.fl (BE xs lo hi)) M:=by
 have:kSl x lo hi M=some (.fl (BE xs lo hi),M):=by unfold kSl;rw[ht];dsimp only;rw[h]
 rw[this,BI]
def BK {xs:List D}:Al M (.dat (.tup xs))=some xs:=rfl
def D3 {xs:List D}:Al M (.fl xs)=some xs:=rfl
def Q3 {xs:List D}:Bb M (.fl xs)=some xs:=rfl
def Cv {n:Nat} {xs:List D} (h:M[n]?=some (.lst xs)):Bb M (.dat (.ref n))=some xs:=by unfold Bb;dsimp only;rw[h]
def Nq {n:Nat} {xs:List D} (h:M[n]?=some (.fro xs)):Bb M (.dat (.ref n))=some xs:=by unfold Bb;dsimp only;rw[h]
def zv {n:Nat} {xs:List D} (h:M[n]?=some (.lst xs)):Al M (.dat (.ref n))=some xs:=Cv h
def bU {n:Nat} {xs:List D} (h:M[n]?=some (.fro xs)):Al M (.dat (.ref n))=some xs:=Nq h
def Gh {n:Nat} {xs:List D} {d:D} {Q:D->Mem->Prop} (h:M[n]?=some (.lst xs)) (hz:xs.length<sizeLine):Ok (z0 (.dat (.ref n)) [d] M) Q ↔ Q .non (M.set n (.lst (xs++[d]))):=by
 have:z0 (.dat (.ref n)) [d] M=some (.non,M.set n (.lst (xs++[d]))):=by unfold z0;dsimp only;rw[h];dsimp only;rw[AB hz]
 rw[this,BI]
def Uo {n:Nat} {x:D} {xs:List D} {Q:D->Mem->Prop} (h:M[n]?=some (.lst (x::xs))):Ok (Fv (.dat (.ref n)) [.int 0] M) Q ↔ Q x (M.set n (.lst xs)):=by
 have:Fv (.dat (.ref n)) [.int 0] M=some (x,M.set n (.lst xs)):=by
  unfold Fv;dsimp only;rw[h];dsimp only;have e:ixN (x::xs).length 0=some 0:=by unfold ixN;rw[AB (by omega),AB (by simp)];rfl
  rw[e];dsimp only[List.getElem?_cons_zero];rw[AB (by decide)];rfl
 rw[this,BI]
def LO {n k:Nat} {xs:List D} {d:D} (h:M[n]?=some (.lst xs)) (hk:k<xs.length):IV (.dat (.ref n)) (.int k) d M=some (M.set n (.lst (xs.set k d))):=by
 unfold IV;dsimp only;rw[h];dsimp only;have e:ixN xs.length (k:Int)=some k:=by unfold ixN;rw[AB (by omega),AB (by omega)];simp
 rw[e]
def R9 {m:FF} {ds:List D} {M:Mem} {Q:D->Mem->Prop} (h:Ok (m ds M) λd M1=>(D.und M.length d=true/\M.length<=M1.length /\ ∀ (j:Nat) u,j<M.length->M1[j]?=some u->MO.und M.length u=true)/\Q d (M1.take M.length)):Ok (Fw m ds M) Q:=by
 obtain ⟨d,M1,e,⟨h1,h2,h3⟩,q⟩:=h;unfold Fw;rw[e];dsimp only;rw[AB]
 .exact ⟨_,_,rfl,q⟩
 .simp only[BR,Bx,Bi];refine ⟨⟨h1,λu hu=>?_⟩,h2⟩;obtain ⟨j,hj⟩:=List.getElem?_of_mem hu;have hlt:j<M.length:=by
   have:=(AG.mp hj).1;rw[EJ]at this;omega
  rw[List.getElem?_take_of_lt hlt]at hj;exact h3 j u hlt hj
def FN {m:FF} {ds:List D} {M:Mem} {Q:D->Mem->Prop} (h0:D.unds 0 ds=true) (h:Ok (m ds []) λd _=>D.und 0 d=true/\Q d M):Ok (Dp m ds M) Q:=by
 obtain ⟨d,M1,e,h1,q⟩:=h;unfold Dp;rw[AB h0,e];dsimp only;rw[AB h1];exact ⟨_,_,rfl,q⟩
def TIt.but (x:h.IsTupleIter a t i) (hs:Heap.ExtBut b h h') (n:a≠b):h'.IsTupleIter a t i:=x.extBut hs n
def Tup.but (x:h.IsTuple a its) (hs:Heap.ExtBut b h h') (n:a≠b):h'.IsTuple a its:=x.extBut hs n
def KH (I:s.heap.IsTupleIter it t i) (T:s.heap.IsTuple t its) (hx:its[i]?=some x)
  (q:∀ h',h'.IsTupleIter it t (i+1)->Heap.SameBut it s.heap h'->Q x { s with heap:=h' }):wpAny (model prog w) A (Builtin.SmallTypes.nextOf (.ref it)) Q E s:=by
 obtain ⟨o,O,C,FD⟩:=id I;obtain ⟨u,U,_,m,G⟩:=T;unfold Builtin.SmallTypes.nextOf;refine AA (Dq (name:=Str.ofString "__next__") I.typeIs PySem.F.slot_tuple_iterator_next (Cg PySem.F.slot_tuple_iterator_next I.typeIs PySem.F.entry_tuple_iterator_next ?_ (PySem.F.args_tuple_iterator_next_1 _)));refine AA (m:=field (.ref it) 0) (B2 O FD (x:=.ref t) rfl ?_);rw[AE (show ¬ ((Value.ref t==Value.none)=true) by exact B3)];refine AA (m:=field (.ref it) 1) (B2 O FD (x:=.int i 0) rfl ?_);refine AA (m:=seqItems? (.ref t)) (DW U G ?_);simp only[hx,Int.toNat_natCast];refine AA (wpAny_setField O FD (by simp) (AD ⟨x,rfl,AD (q _ ⟨_,Dc _ O (Obj.isFreed_of_fields (El FD _)),(Obj.cls_mapFields ..).trans C,?_⟩ (DR ..))⟩));rw[El FD];simp[rawInt]
def KL (hh:A.handled=none) (I:s.heap.IsTupleIter it t i) (T:s.heap.IsTuple t its) (hx:its[i]?=none)
  (q:∀ h' e,Heap.ExtBut it s.heap h'->(∃ o,h'.get? e=some o/\o.cls=.type "StopIteration")->E (.ref e) { s with heap:=h' }):wpAny (model prog w) A (Builtin.SmallTypes.nextOf (.ref it)) Q E s:=by
 obtain ⟨o,O,C,FD⟩:=id I;obtain ⟨u,U,_,m,G⟩:=T;unfold Builtin.SmallTypes.nextOf;refine AA (Dq (name:=Str.ofString "__next__") I.typeIs PySem.F.slot_tuple_iterator_next (Cg PySem.F.slot_tuple_iterator_next I.typeIs PySem.F.entry_tuple_iterator_next ?_ (PySem.F.args_tuple_iterator_next_1 _)));refine AA (m:=field (.ref it) 0) (B2 O FD (x:=.ref t) rfl ?_);rw[AE (show ¬ ((Value.ref t==Value.none)=true) by exact B3)];refine AA (m:=field (.ref it) 1) (B2 O FD (x:=.int i 0) rfl ?_);refine AA (m:=seqItems? (.ref t)) (DW U G ?_);simp only[hx,Int.toNat_natCast];refine AA (Cm (AA (wpAny_setField O FD (by simp) ?_)));refine AA (m:=newExc (.type "StopIteration") []) ?_;simp only[newTuple,newExc];refine AA (Ba (AA (m:=firstArgMember _ _) (wpAny_of_eq (a:=Value.none) (by first|rfl|(simp only[firstArgMember];rfl)) (Ba ?_ (by size_fits)))) (by size_fits));simp only[raiseNew];refine AA (wpAny_handled ?_);first|rw[hh]|rw[show A.in1.handled=none from hh]
 exact AA (AD (wpAny_throw (q _ _ (((DR ..).extBut.push _).push _) ⟨_,Ad _ rfl,rfl⟩)))
structure ZipT (h:Heap) (z TI TO i1 i2 t1 t2:Yt) (f:Yu) (k1 k2:Nat):Prop where
 z:IsZip h z TI TO f
 ti:IsPair h TI (.ref i1) (.ref i2)
 to:∃ a b,IsPair h TO a b
 a:h.IsTupleIter i1 t1 k1
 b:h.IsTupleIter i2 t2 k2
def cY {z TI TO i1 i2 t1 t2:Yt} {k:Nat} {xs ys:Yp} {x y:Yu} {Q:Option Value->Shared->Prop} (D:ZipApart z TI TO i1 i2 t1 t2) (Z:ZipT s.heap z TI TO i1 i2 t1 t2 .none k k)
  (T1:s.heap.IsTuple t1 xs) (T2:s.heap.IsTuple t2 ys) (hx:xs[k]?=some x) (hy:ys[k]?=some y)
  (q:∀ h',ZipT h' z TI TO i1 i2 t1 t2 (rawInt s.heap.objs.size) (k+1) (k+1)->IsPair h' s.heap.objs.size x y ->
   (∀ c o,c∉[z,TO,i1,i2]->s.heap.get? c=some o->h'.get? c=some o)->Q (some (.ref s.heap.objs.size)) { s with heap:=h' }):wpAny (model prog w) A (pyNext (.ref z)) Q E s:=by
 obtain ⟨Z0,P0,⟨a,b,O0⟩,I1,I2⟩:=Z;have ty:s.TypeIs (.ref z) "zip" := ⟨_,Z0,rfl⟩;unfold pyNext;refine AA (wpAny_attempt (Dq (name:=Str.ofString "__next__") ty PySem.F.slot_zip_next (Cg PySem.F.slot_zip_next ty PySem.F.entry_zip_next ?_ (PySem.F.args_zip_next_1 _))));refine AA (m:=field (.ref z) 2) (B2 Z0 rfl (x:=.bool false) rfl ?_);refine AA (m:=field (.ref z) 3) (B2 Z0 rfl (x:=.ref TI) rfl ?_);refine AA (DW P0 rfl ?_);refine AA (m:=Builtin.SmallTypes.ownedTupleIsFree (.ref z)) ?_;unfold Builtin.SmallTypes.ownedTupleIsFree;refine AA (B2 Z0 rfl (x:=.none) rfl (AD ?_));simp only[if_true];refine AA (Cm (AA (B2 Z0 rfl (x:=.ref TO) rfl (AA (wpAny_setField_rec Z0 (by simp) λh1 Z1 e1=>?_)))));replace Z1:IsZip h1 z TI TO .ellipsis:=Z1;refine AA ?_;simp only[List.forIn_cons,List.forIn_nil,List.zipIdx_cons,List.zipIdx_nil];refine AA (AA (wpAny_onRaise (AA (m:=Builtin.SmallTypes.nextOf (.ref i1)) (KH (TIt.but I1 e1.extBut D.i1z) (Tup.but T1 e1.extBut D.l1z) hx λh2 J1 e2=>AD ?_))));have O2:IsPair h2 TO a b:=e2.extBut _ _ D.TOi1 (e1.extBut _ _ D.TOz O0);refine AA (DW O2 rfl (AA (wpAny_updateSeq_pair O2 λh3 O3 e3=>AA (wpAny_letGo (AD ?_)))));replace O3:IsPair h3 TO x b:=O3
 refine AA (AA (wpAny_onRaise (AA (m:=Builtin.SmallTypes.nextOf (.ref i2)) (KH (TIt.but (TIt.but (TIt.but I2 e1.extBut D.i2z) e2.extBut D.i12.symm) e3.extBut D.TOi2.symm)
  (Tup.but (Tup.but (Tup.but T2 e1.extBut D.l2z) e2.extBut D.l2i1) e3.extBut D.l2TO) hy λh4 J2 e4=>AD ?_))))
 have O4:IsPair h4 TO x b:=e4.extBut _ _ D.TOi2 O3;refine AA (DW O4 rfl (AA (wpAny_updateSeq_pair O4 λh5 O5 e5=>AA (wpAny_letGo (AD (AD ?_))))));replace O5:IsPair h5 TO x y:=O5;refine AA (DW O5 rfl (AA (wpAny_newTuple ?_)));have sz:h5.objs.size=s.heap.objs.size:=by rw[e5.1,e4.1,e3.1,e2.1,e1.1]
 have Z5:IsZip h5 z TI TO .ellipsis:=e5.extBut _ _ D.TOz.symm (e4.extBut _ _ D.i2z.symm (e3.extBut _ _ D.TOz.symm (e2.extBut _ _ D.i1z.symm Z1)));have kp:∀ c o,c∉[z,TO,i1,i2]->s.heap.get? c=some o->h5.get? c=some o:=λc o n e=>by
  simp only[AK,BO,BY,not_or]at n;obtain ⟨n1,n2,n3,n4⟩:=n;exact e5.extBut _ _ n2 (e4.extBut _ _ n4 (e3.extBut _ _ n2 (e2.extBut _ _ n3 (e1.extBut _ _ n1 e))))
 have A5:h5.IsTupleIter i1 t1 (k+1):=TIt.but (TIt.but (TIt.but J1 e3.extBut D.TOi1.symm) e4.extBut D.i12) e5.extBut D.TOi1.symm;have B5:h5.IsTupleIter i2 t2 (k+1):=TIt.but J2 e5.extBut D.TOi2.symm;have zl:z<h5.objs.size:=AI Z5;refine AA (m:=Builtin.SmallTypes.ownedTupleHandOut (.ref z) (.ref h5.objs.size)) ?_;unfold Builtin.SmallTypes.ownedTupleHandOut;have Z6:IsZip (h5.push { cls:=.type "tuple", data:=.seq #[x,y] }) z TI TO .ellipsis:=AN _ Z5;refine AA (wpAny_setField_rec Z6 (by simp) λh7 Z7 e7=>?_);replace Z7:IsZip h7 z TI TO (rawInt h5.objs.size):=Z7;refine wpAny_setField_rec Z7 (by simp) λh8 Z8 e8=>?_;replace Z8:IsZip h8 z TI TO (rawInt h5.objs.size):=Z8;have up:∀ c o,c≠z->h5.get? c=some o->h8.get? c=some o:=λc o n e=>e8.extBut _ _ n (e7.extBut _ _ n (AN _ e));have N8:IsPair h8 h5.objs.size x y:=e8.extBut _ _ (Dd zl) (e7.extBut _ _ (Dd zl) (Ad _ rfl));rw[sz]at Z8 N8;refine AD ⟨_,rfl,?_⟩;rw[sz];refine AD (q h8 ⟨Z8,up _ _ D.TIz (kp _ _ (by simp[D.TIz,D.TITO,D.TIi1,D.TIi2]) P0),⟨_,_,up _ _ D.TOz O5⟩,?_,?_⟩ N8 λc o n e=>up c o (λm=>n (by simp[m])) (kp c o n e))
 .obtain ⟨o,e,r⟩:=A5;exact ⟨o,up _ _ D.i1z e,r⟩
 .obtain ⟨o,e,r⟩:=B5;exact ⟨o,up _ _ D.i2z e,r⟩
def j9 {z TI TO i1 i2 t1 t2:Yt} {k:Nat} {xs ys:Yp} {Q:Option Value->Shared->Prop} (hh:A.handled=none) (D:ZipApart z TI TO i1 i2 t1 t2) (Z:ZipT s.heap z TI TO i1 i2 t1 t2 .none k k)
  (T1:s.heap.IsTuple t1 xs) (T2:s.heap.IsTuple t2 ys) (he:xs[k]?=none\/ys[k]?=none)
  (q:∀ h',(∀ c o,c∉[z,TO,i1,i2]->s.heap.get? c=some o->h'.get? c=some o)->Q none { s with heap:=h' }):wpAny (model prog w) A (pyNext (.ref z)) Q E s:=by
 obtain ⟨Z0,P0,⟨a,b,O0⟩,I1,I2⟩:=Z;have ty:s.TypeIs (.ref z) "zip" := ⟨_,Z0,rfl⟩
 have stop:∀ (e:Addr) (h':Heap),(∀ c o,c∉[z,TO,i1,i2]->s.heap.get? c=some o->h'.get? c=some o)->(∃ o,h'.get? e=some o/\o.cls=.type "StopIteration") ->
   wpAny (model prog w) A (do if (<- isInstance (.ref e) (.type "StopIteration")) then pure none else throw (.ref e):Sem (Option Value)) Q E { s with heap:=h' }:=λe h' k1 ⟨o,e1,e2⟩=>
  AA (wpAny_isInstance (T := "StopIteration") (b:=true) ⟨o,e1,e2⟩ isSubtype_stop (AD (q h' k1)))
 unfold pyNext;refine AA (wpAny_attempt (Dq (name:=Str.ofString "__next__") ty PySem.F.slot_zip_next (Cg PySem.F.slot_zip_next ty PySem.F.entry_zip_next ?_ (PySem.F.args_zip_next_1 _))));refine AA (m:=field (.ref z) 2) (B2 Z0 rfl (x:=.bool false) rfl ?_);refine AA (m:=field (.ref z) 3) (B2 Z0 rfl (x:=.ref TI) rfl ?_);refine AA (DW P0 rfl ?_);refine AA (m:=Builtin.SmallTypes.ownedTupleIsFree (.ref z)) ?_;unfold Builtin.SmallTypes.ownedTupleIsFree;refine AA (B2 Z0 rfl (x:=.none) rfl (AD ?_));simp only[if_true];refine AA (Cm (AA (B2 Z0 rfl (x:=.ref TO) rfl (AA (wpAny_setField_rec Z0 (by simp) λh1 Z1 e1=>?_)))));replace Z1:IsZip h1 z TI TO .ellipsis:=Z1;refine AA ?_;simp only[List.forIn_cons,List.forIn_nil,List.zipIdx_cons,List.zipIdx_nil];cases hx:xs[k]? with
 |none=>
  refine AA (AA (wpAny_onRaise (AA (m:=Builtin.SmallTypes.nextOf (.ref i1)) (KL hh (TIt.but I1 e1.extBut D.i1z) (Tup.but T1 e1.extBut D.l1z) hx λh2 e e2 he=>?_))));obtain ⟨oe,o1,o2⟩:=he;have Z2:IsZip h2 z TI TO .ellipsis:=e2 _ _ D.i1z.symm Z1;have ne:e≠z:=λm=>by subst m;rw[Z2]at o1;cases o1;simp at o2
  refine wpAny_setField_rec Z2 (by simp) λh3 _ e3=>stop e h3 (λc o n x=>?_) ⟨oe,e3.extBut _ _ ne o1,o2⟩;simp only[AK,BO,BY,not_or]at n;exact e3.extBut _ _ n.1 (e2 _ _ n.2.2.1 (e1.extBut _ _ n.1 x))
 |some x=>
  have hy:ys[k]?=none:=by
   rcases he with m|m
   .rw[hx]at m;cases m
   .exact m
  refine AA (AA (wpAny_onRaise (AA (m:=Builtin.SmallTypes.nextOf (.ref i1)) (KH (TIt.but I1 e1.extBut D.i1z) (Tup.but T1 e1.extBut D.l1z) hx λh2 J1 e2=>AD ?_))));have O2:IsPair h2 TO a b:=e2.extBut _ _ D.TOi1 (e1.extBut _ _ D.TOz O0);refine AA (DW O2 rfl (AA (wpAny_updateSeq_pair O2 λh3 O3 e3=>AA (wpAny_letGo (AD ?_)))))
  refine AA (AA (wpAny_onRaise (AA (m:=Builtin.SmallTypes.nextOf (.ref i2)) (KL hh (TIt.but (TIt.but (TIt.but I2 e1.extBut D.i2z) e2.extBut D.i12.symm) e3.extBut D.TOi2.symm)
   (Tup.but (Tup.but (Tup.but T2 e1.extBut D.l2z) e2.extBut D.l2i1) e3.extBut D.l2TO) hy λh4 e e4 he=>?_))))
  obtain ⟨oe,o1,o2⟩:=he;have Z4:IsZip h4 z TI TO .ellipsis:=e4 _ _ D.i2z.symm (e3.extBut _ _ D.TOz.symm (e2.extBut _ _ D.i1z.symm Z1));have ne:e≠z:=λm=>by subst m;rw[Z4]at o1;cases o1;simp at o2
  refine wpAny_setField_rec Z4 (by simp) λh5 _ e5=>stop e h5 (λc o n x=>?_) ⟨oe,e5.extBut _ _ ne o1,o2⟩;simp only[AK,BO,BY,not_or]at n;exact e5.extBut _ _ n.1 (e4 _ _ n.2.2.2 (e3.extBut _ _ n.2.1 (e2.extBut _ _ n.2.2.1 (e1.extBut _ _ n.1 x))))
noncomputable abbrev Iv (h:Heap) (a:Addr):Heap:=h.push { cls:=.type "tuple_iterator", data:=.fields #[.ref a,.int 0 0] }
noncomputable abbrev JT (h:Heap) (a b:Yt):Heap:=Iv (Iv h a) b
noncomputable abbrev Jf (h:Heap) (a b:Addr):Heap:=(JT h a b).push { cls:=.type "tuple", data:=.seq #[.ref h.objs.size,.ref (Iv h a).objs.size] }
noncomputable abbrev Ji (h:Heap) (a b:Addr):Heap:=(Jf h a b).push { cls:=.type "tuple", data:=.seq #[.none,.none] }
noncomputable abbrev HX (h:Heap) (a b:Addr):Heap:=(Ji h a b).push { cls:=.type "zip", data:=.fields #[.none,.bool false,.bool false,.ref (JT h a b).objs.size,.ref (Jf h a b).objs.size] }
def cX (a b:Addr) (xs ys:Array Value):Meets (Builtin.«zip.__new__» ⟨[.type "zip", .ref a,.ref b],[]⟩) (λ_ R s=>s.heap.IsTuple a xs/\s.heap.IsTuple b ys/\R (.ok (.ret (.ref (Ji s.heap a b).objs.size))) { s with heap:=HX s.heap a b }) :=
 .of_wp λprog w A R s h=>by
  obtain ⟨hp,g,d,tk,os⟩:=s;obtain ⟨Ta,Tb,h⟩:=h;have sz:=sub_zip;have U1:Heap.IsTuple (Shared.heap ⟨hp,g,d,tk,os⟩) a xs:=Ta;have U2:Heap.IsTuple (Shared.heap ⟨hp.push { cls:=.type "tuple_iterator", data:=.fields #[.ref a,.int 0 0] },g,d,tk,os⟩) b ys:=Heap.IsTuple.push Tb _;wp_walk using Fx U1,Fx U2;exact ⟨_,rfl,h⟩
def X0 (Ta:s.heap.IsTuple a xs) (Tb:s.heap.IsTuple b ys)
  (h:∀ h',ZipT h' (s.heap.objs.size+4) (s.heap.objs.size+2) (s.heap.objs.size+3) s.heap.objs.size (s.heap.objs.size+1) a b .none 0 0->(∀ c o,s.heap.get? c=some o->h'.get? c=some o)->Q (.ref (s.heap.objs.size+4)) { s with heap:=h' }) :
  wpAny (model prog w) A (call (.type "zip") [.ref a,.ref b]) Q E s:=by
 refine callType_new PySem.F.called_zip (by decide) (PySem.F.typeCall_zip_2 _ _) (PySem.F.newCall_zip_2 _ _) (λobj=>PySem.F.args_object_init_3 obj _ _) PySem.F.entry_zip_new (cX a b xs ys) ⟨Ta,Tb,?_⟩;have q1:(Iv s.heap a).objs.size=s.heap.objs.size+1:=Bu ..;have q2:(JT s.heap a b).objs.size=s.heap.objs.size+2:=by rw[Bu,q1]
 have q3:(Jf s.heap a b).objs.size=s.heap.objs.size+3:=by rw[Bu,q2]
 have q4:(Ji s.heap a b).objs.size=s.heap.objs.size+4:=by rw[Bu,q3]
 have u:∀ {h:Heap} {c:Yt} {o p:Obj},h.get? c=some o->(h.push p).get? c=some o:=λe=>AN _ e;have p5:(HX s.heap a b).get? (Ji s.heap a b).objs.size=some _:=Ad _ rfl;have p4:(HX s.heap a b).get? (Jf s.heap a b).objs.size=some _:=u (Ad _ rfl);have p3:(HX s.heap a b).get? (JT s.heap a b).objs.size=some _:=u (u (Ad _ rfl));have p2:(HX s.heap a b).get? (Iv s.heap a).objs.size=some _:=u (u (u (Ad _ rfl)));have p1:(HX s.heap a b).get? s.heap.objs.size=some _:=u (u (u (u (Ad _ rfl))));rw[q2,q3,q4]at p5;rw[q1,q2]at p3;rw[q3]at p4;rw[q1]at p2;rw[q4];exact ⟨⟨_,p5,rfl⟩,h _ ⟨p5,p3,⟨_,_,p4⟩,⟨_,p1,rfl,rfl⟩,⟨_,p2,rfl,rfl⟩⟩ λc o x=>u (u (u (u (u x))))⟩
def RV {X:Cx} {zB:Yd} {Y:L2.St} {H:Hp} {s:Yl} {h':Heap} {t':Nat} {ch:Yg} {T:Yt} {o:HO} (I:Inv X zB Y H s) (hf:∀ b∈ch,BX X zB H b)
  (k:∀ b u,b∉ch->s.heap.get? b=some u->h'.get? b=some u) (hT:s.heap.objs.size<=T) (new:Ar X.prog X.w (upd H T o) h' T o):Inv X zB Y (upd H T o) { s with heap:=h',toks:=t' }:=by
 have hn:H T=none:=I.hok.fresh hT;have nch:∀ b u,H b=some u->b∉ch:=λb u e z=>by rw[(hf b z).1]at e;cases e
 have un:∀ b u,H b=some u->upd H T o b=some u:=λb u e=>by rw[zf (DX e hn)];exact e
 refine I.step (g':=s.gens) (d':=s.drawn) (ch:=ch) (λb hb=>⟨(hf b hb).2.2.2.1,(hf b hb).2.1,(hf b hb).2.2.2.2.1,(hf b hb).2.2.2.2.2⟩) (λb u _ _ hc e _=>k b u hc e) (λb u _ _ hc e _=>⟨u.slots,k b u hc e⟩)
  (λb u _ e n=>by rw[zf (λz=>by rw[z]at e;exact absurd (AI e) (Nat.not_lt.mpr hT))];exact n) (λb u hc e=>⟨u,k b u hc e⟩) (λb xs e=>un b _ e) (λb p u e=>un b _ e) (λb ps e=>⟨#[],by rw[un b _ e];simp⟩) (λm hm=>?_) (λb u e=>?_) I.bare
 .obtain ⟨p,es,ep,ho,r⟩:=hm;exact ⟨p,es,ep,k _ p (λz=>(hf _ z).2.1 rfl) ho,r⟩
 .by_cases hb:b=T
  .subst hb;rw[CV]at e;cases e;exact new
  .rw[zf hb]at e;refine (I.hok b u e).stay (λc v hc q=>k c v ?_ q) (λc q=>un c _ q) λc xs q=>un c _ q;rcases hc with z|z
   .rw[z];exact nch b u e
   .exact nch c _ z
def Rb {X:Cx} {zB:Yd} {Y:L2.St} {H:Hp} {s:Yl} {h':Heap} {t':Nat} {ch:Yg} (I:Inv X zB Y H s) (hf:∀ b∈ch,BX X zB H b)
  (k:∀ b u,b∉ch->s.heap.get? b=some u->h'.get? b=some u):Inv X zB Y H { s with heap:=h',toks:=t' }:=by
 have nch:∀ b u,H b=some u->b∉ch:=λb u e z=>by rw[(hf b z).1]at e;cases e
 refine I.step (g':=s.gens) (d':=s.drawn) (ch:=ch) (λb hb=>⟨(hf b hb).2.2.2.1,(hf b hb).2.1,(hf b hb).2.2.2.2.1,(hf b hb).2.2.2.2.2⟩) (λb u _ _ hc e _=>k b u hc e) (λb u _ _ hc e _=>⟨u.slots,k b u hc e⟩)
  (λb u _ e n=>n) (λb u hc e=>⟨u,k b u hc e⟩) (λb xs e=>e) (λb p u e=>e) (λb ps e=>⟨#[],by rw[e];simp⟩) (λm hm=>?_) (λb u e=>?_) I.bare
 .obtain ⟨p,es,ep,ho,r⟩:=hm;exact ⟨p,es,ep,k _ p (λz=>(hf _ z).2.1 rfl) ho,r⟩
 .refine (I.hok b u e).stay (λc v hc q=>k c v ?_ q) (λc q=>q) λc xs q=>q;rcases hc with z|z
  .rw[z];exact nch b u e
  .exact nch c _ z
noncomputable def Itz (K:Yb) (a b:Yt):It :=
 ⟨λi H=>∃ xs ys x y,SqT K H a xs/\SqT K H b ys/\xs[i]?=some x/\ys[i]?=some y,
  λi H v H'=>∃ T x y,v=.ref T/\H T=none/\H'=upd H T (.tup [x,y])/\(∀ xs,SqT K H a xs->xs[i]?=some x) /\ ∀ ys,SqT K H b ys->ys[i]?=some y,
  λi H=>∃ xs ys,SqT K H a xs/\SqT K H b ys/\(xs.length<=i\/ys.length<=i)⟩
def mK {P:Ym} {w:Yo} {K:Yb} {es:Yi} {ek:Nat} {ep:Pos} {z TI TO i1 i2 a b:Yt} (D:ZipApart z TI TO i1 i2 a b) :
  Turn P w K (.Tuple es ek ep) (Itz K a b) [z,TI,TO,i1,i2] z (λi h=>ZipT h z TI TO i1 i2 a b .none i i) where
 mem:=by simp
 obj:=λi h Z c hc=>by
  obtain ⟨Z0,P0,⟨x,y,O0⟩,⟨o1,e1,_,d1⟩,⟨o2,e2,_,d2⟩⟩:=Z;simp only[AK,BO,BY]at hc;rcases hc with rfl|rfl|rfl|rfl|rfl
  .exact ⟨_,Z0,λv m=>by cases m⟩
  .exact ⟨_,P0,λv m=>by cases m⟩
  .exact ⟨_,O0,λv m=>by cases m⟩
  .exact ⟨_,e1,λv m=>by rw[d1]at m;cases m⟩
  .exact ⟨_,e2,λv m=>by rw[d2]at m;cases m⟩
 keep:=λi h h' Z k=>by
  obtain ⟨Z0,P0,⟨x,y,O0⟩,⟨o1,e1,r1⟩,⟨o2,e2,r2⟩⟩:=Z;exact ⟨k z (by simp) _ Z0,k TI (by simp) _ P0,⟨x,y,k TO (by simp) _ O0⟩,⟨o1,k i1 (by simp) _ e1,r1⟩,⟨o2,k i2 (by simp) _ e2,r2⟩⟩
 item:=by
  intro X hP hw hK hc i zB s Y H E I hf Z hg;subst hP hw hK;obtain ⟨xs,ys,x,y,sa,sb,hx,hy⟩:=hg;obtain ⟨its,rv,p1,z1⟩:=I.tuple sa;obtain ⟨its2,rv2,p2,z2⟩:=I.tuple sb;obtain ⟨u,hu,ru⟩:=rv.get hx;obtain ⟨u2,hu2,ru2⟩:=rv2.get hy;refine cY D Z (show s.heap.IsTuple a its.toArray from p1) (show s.heap.IsTuple b its2.toArray from p2) (x:=u) (y:=u2) (by simpa using hu) (by simpa using hu2) λh' Z' N' kp=>⟨_,rfl,?_⟩;refine wpAny_letOwnedTupleGo_zip Z'.z λh2 Z2 e2=>?_;have hch:∀ c∈[z,TO,i1,i2],BX X zB H c:=λc hm=>hf c (by
   simp only[AK,BO,BY]at hm ⊢;rcases hm with q|q|q|q <;> simp[q])
  have kk:∀ c o,c∉[z,TO,i1,i2]->s.heap.get? c=some o->h2.get? c=some o:=λc o n e=>e2.extBut _ _ (λm=>n (by simp[m])) (kp c o n e);have zlt:z<s.heap.objs.size:=AI Z.z;have NT:IsPair h2 s.heap.objs.size u u2:=e2.extBut _ _ (Dd zlt) N';have hfr:H s.heap.objs.size=none:=I.hok.fresh (AF _);refine ⟨.ref s.heap.objs.size,upd H s.heap.objs.size (.tup [x,y]),RV (s:=s) (h':=h2) (t':=s.toks) I hch kk (AF _) ?_,rfl,⟨_,x,y,rfl,hfr,rfl,λws hw=>?_,λws hw=>?_⟩,?_,λc hm=>?_⟩
  .exact ⟨by show 2<=sizeLine;decide,[u,u2],.cons ru (.cons ru2 .nil),⟨_,NT,rfl,⟨_,rfl⟩,rfl⟩⟩
  .rw[I.tuple_inj hw sa];exact hx
  .rw[I.tuple_inj hw sb];exact hy
  .obtain ⟨_,P1,⟨q1,q2,O1⟩,⟨o1,f1,r1⟩,⟨o2,f2,r2⟩⟩:=Z';exact ⟨Z2,e2.extBut _ _ D.TIz P1,⟨q1,q2,e2.extBut _ _ D.TOz O1⟩,⟨o1,e2.extBut _ _ D.i1z f1,r1⟩,⟨o2,e2.extBut _ _ D.i2z f2,r2⟩⟩
  .have lt:c<s.heap.objs.size:=by
    obtain ⟨Z0,P0,⟨q1,q2,O0⟩,⟨o1,f1,_⟩,⟨o2,f2,_⟩⟩:=Z;simp only[AK,BO,BY]at hm;rcases hm with rfl|rfl|rfl|rfl|rfl
    .exact AI Z0
    .exact AI P0
    .exact AI O0
    .exact AI f1
    .exact AI f2
   rw[zf (AY lt)];exact (hf c hm).1
 done:=by
  intro X hP hw hK hc i zB s Y H E I hf Z hg;subst hP hw hK;obtain ⟨xs,ys,sa,sb,hz⟩:=hg;obtain ⟨its,rv,p1,z1⟩:=I.tuple sa;obtain ⟨its2,rv2,p2,z2⟩:=I.tuple sb;have l1:=rv.length;have l2:=rv2.length;refine j9 (I.ok.hd hc) D Z (show s.heap.IsTuple a its.toArray from p1) (show s.heap.IsTuple b its2.toArray from p2) ?_ λh' kp=>⟨rfl,Rb (s:=s) (h':=h') (t':=s.toks) I (λc hm=>hf c (by
   simp only[AK,BO,BY]at hm ⊢;rcases hm with q|q|q|q <;> simp[q])) kp⟩
  rcases hz with q|q
  .exact .inl (by simp;omega)
  .exact .inr (by simp;omega)
 self:=λ_ _ _ _ _ Z h=>wpAny_pyIter_zip Z.z h
def YQ {ta:TA} (hg:Gl X "zip") (hm:X.mg "zip" = none) (ha:PA X [a,b] ta) (hs:starEach [a,b] X.env=[(false,eval a X.env),(false,eval b X.env)]:=by rfl) (hs2:starEach [b] X.env=[(false,eval b X.env)]:=by rfl) :
  PI X (.Tuple es ek ep) (.Call (.Name "zip" p) [a,b] [] pos) (λY H R=>ta Y H λvs H1=>∃ l1 l2 xs ys,vs=[.ref l1,.ref l2]/\SqT X.K H1 l1 xs/\SqT X.K H1 l2 ys/\R (Itz X.K l1 l2) H1):=by
 intro zB s Y H R I h;refine Call_ (Fo I hg hm (by rfl) (PyProof.Rows.callWith_type1 (thn (ha pos zB s Y H _ I h) λus s1 ⟨vs,H1,I1,r1,q1⟩=>?_) (by rw[hs,hs2]) (by rw[hs2];rfl)));obtain ⟨l1,l2,xs,ys,rfl,s1',s2',q⟩:=q1;cases r1 with
 |cons r rr=>
  cases rr with
  |cons r' rr=>
   cases rr;cases r;cases r';obtain ⟨its,rv,p1,_⟩:=I1.tuple s1';obtain ⟨its2,rv2,p2,_⟩:=I1.tuple s2';have d1:l1<s1.heap.objs.size:=by obtain ⟨_,e,_⟩:=p1;exact AI e
   have d2:l2<s1.heap.objs.size:=by obtain ⟨_,e,_⟩:=p2;exact AI e
   refine X0 (show s1.heap.IsTuple l1 its.toArray from p1) (show s1.heap.IsTuple l2 its2.toArray from p2) λh' Z kp=>wpAny_pyIter_zip Z.z ?_;refine ⟨s1.heap.objs.size+4,[s1.heap.objs.size+4,s1.heap.objs.size+2,s1.heap.objs.size+3,s1.heap.objs.size,s1.heap.objs.size+1],_,_,H1,rfl,I1.kept (t':=s1.toks) kp,mK (zipApart_new d1 d2),Z,λc hc=>?_,q⟩;have ge:s1.heap.objs.size<=c:=by
    simp only[AK,BO,BY]at hc;rcases hc with rfl|rfl|rfl|rfl|rfl
    .exact Nat.le_add_right _ 4
    .exact Nat.le_add_right _ 2
    .exact Nat.le_add_right _ 3
    .exact AF _
    .exact Nat.le_add_right _ 1
   exact I1.fpOk ge (I1.hok.fresh ge)
noncomputable def IP (g:FA):FI:=λY M=>match g Y M with
 |some ([.tup xs,.tup ys],M1)=>some ((xs.zip ys).map λq=>D.tup [q.1,q.2],none,M1)
 |_=>none
def U8 (hg:Gl X "zip") (hm:X.mg "zip" = none) (ha:QA X [a,b] g) (hs:starEach [a,b] X.env=[(false,eval a X.env),(false,eval b X.env)]:=by rfl) (hs2:starEach [b] X.env=[(false,eval b X.env)]:=by rfl) :
  QI X (.Tuple es ek ep) (.Call (.Name "zip" p) [a,b] [] pos) (IP g):=.mk <| PI.imp (YQ hg hm ha.un hs hs2) λτ H R zz=>by
 obtain ⟨L,Y,M,xs,gd,M',c,rs,hf,q⟩:=zz;unfold IP at hf;split at hf
 .rename_i ds es' M1 e1;cases hf;refine ⟨L,Y,M,_,_,c,rs,e1,λL1 H1 vs s1 c1 r1=>?_⟩;obtain ⟨v,v',rfl,r2,r3⟩:=r1.two;unfold Rep at r2 r3;obtain ⟨l1,ws1,rfl,h1,q1⟩:=r2;obtain ⟨l2,ws2,rfl,h2,q2⟩:=r3;refine ⟨l1,l2,ws1,ws2,rfl,.of h1,.of h2,q L1 H1 _ s1 c1 λL2 H2 M2 s2 c2 _=>?_⟩;have k1:=s2.tup l1 ws1 h1;have k2:=s2.tup l2 ws2 h2;have p1:=q1.stp s2;have p2:=q2.stp s2;refine ⟨λi d hd=>?_,⟨ws1,ws2,.of k1,.of k2,?_⟩⟩
  .rw[Bn]at hd;cases e2:(ds.zip es')[i]? with
   |none=>rw[e2]at hd;cases hd
   |some pr=>
    rw[e2]at hd;cases hd;obtain ⟨f1,f2⟩:=List.getElem?_zip_eq_some.mp e2;obtain ⟨u,hu,ru⟩:=p1.get f1;obtain ⟨u2,hu2,ru2⟩:=p2.get f2;refine ⟨⟨ws1,ws2,u,u2,.of k1,.of k2,hu,hu2⟩,λv H3 hy=>?_⟩;obtain ⟨T,x,y,rfl,hT,rfl,hxx,hyy⟩:=hy;have ex:=hxx ws1 (.of k1);have ey:=hyy ws2 (.of k2);rw[hu]at ex;cases ex;rw[hu2]at ey;cases ey;exact ⟨λa o e=>by rw[zf (DX e hT)];exact e,Rep.newTup hT (.cons ru (.cons ru2 .nil))⟩
  .rw[AH,List.length_zip,p1.length,p2.length];omega
 .cases hf
noncomputable def Ik (i j:Nat):FG:=λd Y=>match d with
 |.tup [x,y]=>some ((Y.set i (some x)).set j (some y))
 |_=>none
noncomputable abbrev gP2 (K:Yb) (i j:Nat):TG:=MP K 2 (G7 (Cu i) (G7 (Cu j) LL))
def iX {K:Yb} {own:Yj} {i j:Nat} (hi:i∈own) (hj:j∈own):DF own (gP2 K i j) (Ik i j):=by
 intro L H Y Y' τ τ0 d v Q rs ex r hf q;unfold Ik at hf;split at hf
 .rename_i x y;cases hf;unfold Rep at r;obtain ⟨a,vs,rfl,e,r⟩:=r;obtain ⟨v1,v2,rfl,r1,r2⟩:=r.two;exact ⟨a,_,rfl,.of e,rfl,v1,[v2],rfl,v2,[],rfl,rfl,q _ ((rs.set r1).set r2) ((ex.set hi).set hj)⟩
 .cases hf
section
variable {X:Cx}
theorem MS:∀ {bs:List Bool} {its:Yf},zg (bs.map V.bl) its -> ∀ (i:Nat) v,its[i]?=some v -> ∃ k,bs[i]?=some k/\v=.bool k
 |[],_,.nil,_,_,h=>by simp at h
 |k::bs,_,.cons r t,0,v,h=>by
  simp at h;subst h;exact ⟨k,rfl,r⟩
 |k::bs,_,.cons r t,i+1,v,h=>by
  obtain ⟨k',e1,e2⟩:=MS t i v (by simpa using h);exact ⟨k',by simpa using e1,e2⟩
def iJ (bs:List Bool):((List.range bs.length).all λi=>(bs[i]?).getD true)=bs.all id:=by
 rw[DZ,Bi,Bi];constructor
 .intro q k hk;obtain ⟨i,hi,rfl⟩:=En hk;have:=q i (Bk.mpr hi);rw[AV hi]at this;exact this
 .intro q i hi;rw[AV (Bk.mp hi)];exact q _ (Bl _)
def Xs (bs:List Bool):((List.range bs.length).any λi=>(bs[i]?).getD false)=bs.any id:=by
 rw[DZ,List.any_eq_true,List.any_eq_true];constructor
 .rintro ⟨i,hi,q⟩;rw[AV (Bk.mp hi)]at q;exact ⟨_,Bl _,q⟩
 .rintro ⟨k,hk,q⟩;obtain ⟨i,hi,rfl⟩:=En hk;exact ⟨i,Bk.mpr hi,by rw[AV hi];exact q⟩
def Nb (K:Yb) (F:List Bool->Bool):List V->Hp->VK->Prop:=λxs H Q=>∃ q bs,xs=[.ref q]/\SqL K H q (bs.map V.bl)/\Q (.bl (F bs)) H
def Wj (hc:X.calm=true):Br X (.builtin "all") (Nb X.K λbs=>bs.all id):=by
 intro zB s Y H xs us Q I r h;obtain ⟨l,bs,rfl,hq,q⟩:=h;obtain ⟨u,rfl,rx⟩:=C7 r;cases rx;obtain ⟨its,rv,pl,_⟩:=I.list hq;have hlt:l<s.heap.objs.size:=by obtain ⟨_,z,_⟩:=pl.isList;exact AI z
 refine call_all_walk (wpAny_pyIter_list pl.isList ⟨s.heap.objs.size,[s.heap.objs.size,l],[s.heap.objs.size],its.toArray.size,_,_,λi=>(bs[i]?).getD true,rfl,Walks.list (A:=X.A.in1) (I.ok.hd hc) _ l (AY hlt) its.toArray,
  ⟨⟨_,Ad _ rfl,rfl,rfl⟩,pl.isList.push _⟩,λi v s' Q' E' hP hQ=>?_,λh' tk hk=>?_⟩)
 .obtain ⟨k,z,rfl⟩:=MS rv i v (by simpa using hP);dsimp only at hQ;rw[z]at hQ;exact EI hQ
 .have hl:=rv.length;rw[AH]at hl;rw[AQ,<-hl,iJ];exact ⟨.bl _,H,I.kept (t':=tk) λb o z=>hk b o (λm=>by rw[Bd.mp m]at z;exact BZ _ (AI z)) (AN _ z),rfl,q⟩
def mL (hc:X.calm=true):Br X (.builtin "any") (Nb X.K λbs=>bs.any id):=by
 intro zB s Y H xs us Q I r h;obtain ⟨l,bs,rfl,hq,q⟩:=h;obtain ⟨u,rfl,rx⟩:=C7 r;cases rx;obtain ⟨its,rv,pl,_⟩:=I.list hq;have hlt:l<s.heap.objs.size:=by obtain ⟨_,z,_⟩:=pl.isList;exact AI z
 refine call_any_walk (wpAny_pyIter_list pl.isList ⟨s.heap.objs.size,[s.heap.objs.size,l],[s.heap.objs.size],its.toArray.size,_,_,λi=>(bs[i]?).getD false,rfl,Walks.list (A:=X.A.in1) (I.ok.hd hc) _ l (AY hlt) its.toArray,
  ⟨⟨_,Ad _ rfl,rfl,rfl⟩,pl.isList.push _⟩,λi v s' Q' E' hP hQ=>?_,λh' tk hk=>?_⟩)
 .obtain ⟨k,z,rfl⟩:=MS rv i v (by simpa using hP);dsimp only at hQ;rw[z]at hQ;exact EI hQ
 .have hl:=rv.length;rw[AH]at hl;rw[AQ,<-hl,Xs];exact ⟨.bl _,H,I.kept (t':=tk) λb o z=>hk b o (λm=>by rw[Bd.mp m]at z;exact BZ _ (AI z)) (AN _ z),rfl,q⟩
noncomputable def Fj:List D->Option (List Bool)
 |[]=>some []
 |.bl k::r=>match Fj r with
  |some bs=>some (k::bs)
  |none=>none
 |_=>none
theorem Pk:∀ {ds:List D} {bs:List Bool} {vs:List V},Fj ds=some bs->zR L H ds vs->vs=bs.map V.bl
 |[],bs,vs,e,r=>by cases e;unfold zR at r;exact r
 |d::ds,bs,vs,e,r=>by
  unfold zR at r;obtain ⟨v,r',rfl,r1,r2⟩:=r;cases d with
  |bl k=>
   unfold Fj at e;cases q:Fj ds with
   |none=>rw[q]at e;cases e
   |some bs'=>
    rw[q]at e;cases e;unfold Rep at r1;rw[r1,Pk q r2];rfl
  |_=>cases e
noncomputable def GU (F:List Bool->Bool):KB:=λxs M=>match xs with
 |[x]=>match Bb M x with
  |some ds=>match Fj ds with
   |some bs=>some (.dat (.bl (F bs)),M)
   |none=>none
  |none=>none
 |_=>none
def OD {K:Yb} {F:List Bool->Bool}:Cz K (Nb K F) (GU F):=by
 intro L M M' H H0 xs d vs Q c r hk q;unfold GU at hk;split at hk
 .rename_i x;split at hk
  .rename_i ds e1;split at hk
   .rename_i bs e2;cases hk;obtain ⟨v,rfl,r1⟩:=r.one;obtain ⟨l,ws,rfl,h1,r2⟩:=Co c r1 e1;have:=Pk e2 r2;subst this;exact ⟨l,bs,rfl,.inl h1,q L H _ (.refl L H) c (Ca (L:=L) (H:=H))⟩
   .cases hk
  .cases hk
 .cases hk
noncomputable abbrev GO:KB:=GU λbs=>bs.all id
noncomputable abbrev Mm:KB:=GU λbs=>bs.any id
def bM (hc:X.calm=true) (hg:Gl X "all") (hm:X.mg "all" = none) (ha:QAE X [e] fa) (he:starEach [e] X.env=(false,eval e X.env)::starEach [] X.env:=by rfl) (hpl:(backTo pos (starEach [] X.env)).any (·.1)=false:=by rfl):QE X (.Call (.Name "all" p) [e] [] pos) (fB GO fa) :=
 Ew OD (Wj hc) (by rfl) hg hm ha (by decide) (by decide) he hpl
def Wr (hc:X.calm=true) (hg:Gl X "any") (hm:X.mg "any" = none) (ha:QAE X [e] fa) (he:starEach [e] X.env=(false,eval e X.env)::starEach [] X.env:=by rfl) (hpl:(backTo pos (starEach [] X.env)).any (·.1)=false:=by rfl):QE X (.Call (.Name "any" p) [e] [] pos) (fB Mm fa) :=
 Ew OD (mL hc) (by rfl) hg hm ha (by decide) (by decide) he hpl
def Pz (h:Bb M x=some ds) (hb:Fj ds=some bs):Ok (GU F [x] M) P ↔ P (.dat (.bl (F bs))) M:=by
 have:GU F [x] M=some (.dat (.bl (F bs)),M):=by unfold GU;dsimp only;rw[h];dsimp only;rw[hb]
 rw[this,BI]
theorem MQ:∀ bs:List Bool,Fj (bs.map D.bl)=some bs
 |[]=>rfl
 |k::bs=>by rw[AX];unfold Fj;rw[MQ bs]
noncomputable def I0:V->Bool
 |.non=>true
 |.bl _=>true
 |_=>false
def mW:OpR X (compareOp .Is) (λx y H Q=>I0 y=true/\Q (.bl (decide (x=y))) H):=by
 intro zB s Y H x y v u Q I rx ry h;obtain ⟨hp,q⟩:=h;cases y with
 |non=>
  cases ry;refine wpAny_is_plain (by cases x <;> first|(cases rx;rfl)|(obtain ⟨t,rfl⟩:=rx;rfl)) (Aq I q ?_);cases x <;> first|(cases rx;rfl)|(obtain ⟨t,rfl⟩:=rx;rfl)
 |bl k=>
  cases ry;refine wpAny_is_plain (by cases x <;> first|(cases rx;rfl)|(obtain ⟨t,rfl⟩:=rx;rfl)) (Aq I q ?_);cases x with
  |bl k'=>cases rx;cases k <;> cases k' <;> rfl
  |_=>first|(cases rx;rfl)|(obtain ⟨t,rfl⟩:=rx;rfl)
 |_=>cases hp
def gK:OpR X (compareOp .IsNot) (λx y H Q=>I0 y=true/\Q (.bl (!decide (x=y))) H):=by
 intro zB s Y H x y v u Q I rx ry h;obtain ⟨hp,q⟩:=h;cases y with
 |non=>
  cases ry;refine wpAny_isNot_plain (by cases x <;> first|(cases rx;rfl)|(obtain ⟨t,rfl⟩:=rx;rfl)) (Aq I q ?_);cases x <;> first|(cases rx;rfl)|(obtain ⟨t,rfl⟩:=rx;rfl)
 |bl k=>
  cases ry;refine wpAny_isNot_plain (by cases x <;> first|(cases rx;rfl)|(obtain ⟨t,rfl⟩:=rx;rfl)) (Aq I q ?_);cases x with
  |bl k'=>cases rx;cases k <;> cases k' <;> rfl
  |_=>first|(cases rx;rfl)|(obtain ⟨t,rfl⟩:=rx;rfl)
 |_=>cases hp
noncomputable def isD:EV->D->Option Bool
 |x,.non=>match x with
  |.dat .non=>some true
  |_=>some false
 |x,.bl k=>match x with
  |.dat (.bl k')=>some (decide (k'=k))
  |_=>some false
 |_,_=>none
noncomputable def kIs (neg:Bool):K2:=λx y M=>match y with
 |.dat d=>match isD x d with
  |some k=>some (.dat (.bl (if neg then !k else k)),M)
  |none=>none
 |_=>none
def R8 (rx:ze H0 L H x v) (ry:Rep L H d w) (e:isD x d=some k):I0 w=true/\decide (v=w)=k:=by
 cases d with
 |non=>
  unfold Rep at ry;subst ry;refine ⟨rfl,?_⟩;cases x with
  |fl xs=>obtain ⟨q,vs,rfl,_⟩:=rx;cases e;rfl
  |dat d'=>
   cases d' with
   |non=>unfold ze Rep at rx;subst rx;cases e;rfl
   |bl _=>unfold ze Rep at rx;subst rx;cases e;rfl
   |int _=>unfold ze Rep at rx;subst rx;cases e;rfl
   |str _=>unfold ze Rep at rx;subst rx;cases e;rfl
   |tup _=>unfold ze Rep at rx;obtain ⟨q,vs,rfl,_⟩:=rx;cases e;rfl
   |ref _=>unfold ze Rep at rx;obtain ⟨q,rfl,_⟩:=rx;cases e;rfl
 |bl k'=>
  unfold Rep at ry;subst ry;refine ⟨rfl,?_⟩;cases x with
  |fl xs=>obtain ⟨q,vs,rfl,_⟩:=rx;cases e;rfl
  |dat d'=>
   cases d' with
   |non=>unfold ze Rep at rx;subst rx;cases e;rfl
   |bl j=>unfold ze Rep at rx;subst rx;cases e;cases j <;> cases k' <;> rfl
   |int _=>unfold ze Rep at rx;subst rx;cases e;rfl
   |str _=>unfold ze Rep at rx;subst rx;cases e;rfl
   |tup _=>unfold ze Rep at rx;obtain ⟨q,vs,rfl,_⟩:=rx;cases e;rfl
   |ref _=>unfold ze Rep at rx;obtain ⟨q,rfl,_⟩:=rx;cases e;rfl
 |_=>cases e
def OB (h:kIs neg x y M=some (r,M')):∃ d k,y=.dat d/\isD x d=some k/\r=.dat (.bl (if neg then !k else k))/\M'=M:=by
 unfold kIs at h;split at h
 .rename_i d;split at h
  .rename_i k e1;cases h;exact ⟨d,k,rfl,e1,rfl,rfl⟩
  .cases h
 .cases h
def Tz {K:Yb}:BQ K (λx y H Q=>I0 y=true/\Q (.bl (decide (x=y))) H) (kIs false):=by
 intro L M M' H H0 x y d v w Q cc rx ry hk q;obtain ⟨d',k,rfl,e,rfl,rfl⟩:=OB hk;obtain ⟨h1,h2⟩:=R8 rx ry e;refine ⟨h1,?_⟩;rw[h2];exact q L H _ (.refl L H) cc (Ca (L:=L) (H:=H))
def nJ {K:Yb}:BQ K (λx y H Q=>I0 y=true/\Q (.bl (!decide (x=y))) H) (kIs true):=by
 intro L M M' H H0 x y d v w Q cc rx ry hk q;obtain ⟨d',k,rfl,e,rfl,rfl⟩:=OB hk;obtain ⟨h1,h2⟩:=R8 rx ry e;refine ⟨h1,?_⟩;rw[h2];exact q L H _ (.refl L H) cc (Ca (L:=L) (H:=H))
def aK (h1:QE X a f) (h2:QE X b g):QE X (.Compare a [.Is] [b] pos) (fOp (kIs false) f g):=NW Tz mW h1 h2 (EG _)
def mX (h1:QE X a f) (h2:QE X b g):QT X (.Compare a [.IsNot] [b] pos) (tst (fOp (kIs true) f g)):=GG nJ gK h1 h2 (EG _)
noncomputable def Ft (k k':K2) (f g h:FE):FE:=λY M=>match f Y M with
 |some (x,M1)=>match g Y M1 with
  |some (y,M2)=>match k x y M2 with
   |some (.dat (.bl true),M3)=>match h Y M3 with
    |some (w,M4)=>k' y w M4
    |none=>none
   |some (.dat (.bl false),M3)=>some (.dat (.bl false),M3)
   |_=>none
  |none=>none
 |none=>none
def VR {K:Yb} {r r':R2} {k k':K2} (hk:BQ K r k) (hk':BQ K r' k') {τ:Sv} {H:Hp} {Q:VK} (z:trE K (Ft k k' f g h) τ H Q):Pt r r' (trE K f) (trE K g) (trE K h) τ H Q:=by
 obtain ⟨L,Y,M,d,M',cc,rs,hf,q⟩:=z;unfold Ft at hf;split at hf
 .rename_i x M1 e1;split at hf
  .rename_i y M2 e2;refine ⟨L,Y,M,_,_,cc,rs,e1,λL1 H1 v s1 c1 r1=>⟨L1,Y,M1,_,_,c1,rs.stp s1,e2,λL2 H2 w s2 c2 r2=>?_⟩⟩;split at hf
   .rename_i M3 e3;split at hf
    .rename_i u M4 e4;refine hk (H0:=H) c2 (r1.stp s2) (r2.back s1 cc s2.sub) e3 λL3 H3 t s3 c3 r3=>⟨true,E9 r3,Dn ?_⟩;refine ⟨L3,Y,M3,_,_,c3,rs.stp ((s1.trans s2).trans s3),e4,λL4 H4 w4 s4 c4 r4=>?_⟩;have s13:=(s1.trans s2).trans s3;refine hk' (H0:=H) c4 (((r2.back s1 cc s2.sub).stp s3).stp s4) (r4.back s13 cc s4.sub) hf λL5 H5 u5 s5 c5 r5=>?_;exact q L5 H5 u5 ((s13.trans s4).trans s5) c5 (r5.back (s13.trans s4) cc s5.sub)
    .cases hf
   .rename_i M3 e3;cases hf;refine hk (H0:=H) c2 (r1.stp s2) (r2.back s1 cc s2.sub) e3 λL3 H3 t s3 c3 r3=>⟨false,E9 r3,Dr ?_⟩;exact q L3 H3 _ ((s1.trans s2).trans s3) c3 (by have:=E9 r3;subst this;exact r3)
   .cases hf
  .cases hf
 .cases hf
def Sw (hk:BQ X.K r k) (hk':BQ X.K r' k') (ho:OpR X (compareOp op) r) (ho':OpR X (compareOp op') r') (h1:QE X a f) (h2:QE X b g) (h3:QE X c h)
  (hm:lastMarks [op,op'] [b,c]=false:=by with_unfolding_all rfl):QE X (.Compare a [op,op'] [b,c] pos) (Ft k k' f g h):=.mk <| PE.imp (Ug ho ho' h1.un h2.un h3.un hm) λ_ _ _ z=>VR hk hk' z
def Rh:Ok (Ft k k' f g h Y M) P ↔ Ok (f Y M) λx M1=>Ok (g Y M1) λy M2=>Ok (k x y M2) (blP λt M3=>if t then Ok (h Y M3) λw M4=>Ok (k' y w M4) P else P (.dat (.bl false)) M3):=by
 unfold Ft;constructor
 .rintro ⟨x,M1,z,q⟩;split at z
  .rename_i y M2 e1;split at z
   .rename_i y' M3 e2;split at z
    .rename_i M4 e3;split at z
     .rename_i w M5 e4;exact ⟨_,_,e1,_,_,e2,_,_,e3,by rw[Ei,AB rfl];exact ⟨_,_,e4,_,_,z,q⟩⟩
     .cases z
    .rename_i M4 e3;cases z;exact ⟨_,_,e1,_,_,e2,_,_,e3,by rw[Ei];simpa using q⟩
    .cases z
   .cases z
  .cases z
 .rintro ⟨x,M1,e1,y,M2,e2,t,M3,e3,q⟩;rw[e1];dsimp only;rw[e2];dsimp only;rw[e3];cases t with
  |fl _=>exact q.elim
  |dat d=>
   cases d with
   |bl t=>
    rw[Ei]at q;cases t with
    |true=>
     rw[AB rfl]at q;obtain ⟨w,M4,e4,q⟩:=q;dsimp only;rw[e4];exact q
    |false=>exact ⟨_,_,rfl,by simpa using q⟩
   |_=>exact q.elim
noncomputable def DC (f:FE):FE:=λY M=>match f Y M with
 |some (.dat (.int i),M1)=>some (.dat (.int (-i)),M1)
 |_=>none
def UR (h1:QE X a f):QE X (.UnaryOp .USub a pos) (DC f):=.mk <| PE.imp (Vn bX h1.un) λτ H Q zz=>by
 obtain ⟨L,Y,M,d,M',cc,rs,hf,q⟩:=zz;unfold DC at hf;split at hf
 .rename_i i M1 e1;cases hf;refine ⟨L,Y,M,_,_,cc,rs,e1,λL1 H1 v s1 c1 r1=>?_⟩;exact ⟨i,by unfold ze Rep at r1;exact r1,q L1 H1 _ s1 c1 (B4 (L:=L1) (H:=H1))⟩
 .cases hf
noncomputable def DI:KB:=λxs M=>match xs with
 |[x]=>match Al M x with
  |some ys=>some (.fl ys,M)
  |none=>none
 |_=>none
def VN:Cz X.K (λxs H Q=>∃ q ys,xs=[.ref q]/\(SqL X.K H q ys\/SqT X.K H q ys) /\ ∀ l,H l=none->Q (.ref l) (upd H l (.lst ys))) DI:=by
 intro L M M' H H0 xs d vs Q cc r hk q;unfold DI at hk;split at hk
 .rename_i x;split at hk
  .rename_i ys e1;cases hk;obtain ⟨v,rfl,r1⟩:=r.one;obtain ⟨l,ws,rfl,hs,r2⟩:=Ij cc r1 e1;refine ⟨l,ws,rfl,hs,λk hk=>?_⟩;exact q L _ _ (.upd hk) (cc.upd hk) (ze.newLst (.refl L H) cc cc hk r2)
  .cases hk
 .cases hk
def Ss (hg:Gl X "list") (hm:X.mg "list" = none) (ha:QAE X [e] fa) (he:starEach [e] X.env=(false,eval e X.env)::starEach [] X.env:=by rfl) (hpl:(backTo pos (starEach [] X.env)).any (·.1)=false:=by rfl):QE X (.Call (.Name "list" p) [e] [] pos) (fB DI fa) :=
 J8 VN S8 (by rfl) hg hm ha (by decide) (by decide) he hpl
end
open AutoSeq1 (wpAny_loadPart')
def mZ {r:Yt} {lo hi:Int} {t u v:Tok} {n:Nat} {Q:List Value->Shared->Prop} (hh:A.handled=none) (R:IsRange s.heap r lo hi 1 t u v) (sm:Builtin.Range.small lo hi 1=true) (hn:Builtin.Range.rangeSize lo hi 1=n) (hz:n<=2 ^ 24)
  (q:∀ h' tk (acc:Yp),(∀ b o,s.heap.get? b=some o->h'.get? b=some o)->ItemsOf (λi v=>∃ t,v=.int (lo+i*1) t) acc n->Q acc.toList { s with heap:=h',toks:=tk }):wpAny (model prog w) A (collect (.ref r)) Q E s:=by
 unfold collect;refine AA (wpAny_runValue (DS PySem.F.entry_proto_collect ?_));rw[EY PySem.F.plain_proto_collect _];refine AA (m:=newList []) (Ba (AD ⟨plainId_quiet PySem.F.plain_list_iadd _,DS PySem.F.entry_list_iadd ?_⟩));rw[EY PySem.F.plain_list_iadd _];have S0:(s.heap.push { cls:=.type "list", data:=.seq ([]:List Value).toArray }).get? s.heap.objs.size=some { cls:=.type "list", data:=.seq #[] 0 }:=Ad _ rfl
 have fin:∀ (h':Heap) (tk:Nat) (acc:Array Value) (k:Nat),(∀ b o,b≠s.heap.objs.size->(s.heap.push { cls:=.type "list", data:=.seq ([]:List Value).toArray }).get? b=some o->h'.get? b=some o) ->
   h'.get? s.heap.objs.size=some { cls:=.type "list", dict:=none,data:=.seq acc k,slots:=#[] }->ItemsOf (λi v=>∃ t,v=.int (lo+i*1) t) acc n ->
   wpAny (model prog w) A (match Value.ref s.heap.objs.size with
    |Value.ref a=>do
     match (<- load a).data with
      |Data.seq xs _=>pure xs.toList
      |_=>unsupported "internal:collect"
    |_=>unsupported "internal:collect") Q E { s with heap:=h',toks:=tk }:=λh' tk acc k kp e it=>by
  refine AA (m:=load s.heap.objs.size) (wpAny_load e (AD (q h' tk acc (λb o m=>kp b o (AY (AI m)) (AN _ m)) it)))
 refine AS (wpAny_extend_range (A:=A) (s:={ s with heap:=s.heap.push { cls:=.type "list", data:=.seq ([]:List Value).toArray } })
  (R:=λr s'=>r=.ok (.ret (.ref s.heap.objs.size)) /\ ∃ h' tk acc k,s'={ s with heap:=h',toks:=tk }/\(∀ b o,b≠s.heap.objs.size->(s.heap.push { cls:=.type "list", data:=.seq ([]:List Value).toArray }).get? b=some o->h'.get? b=some o) /\
   h'.get? s.heap.objs.size=some { cls:=.type "list", dict:=none,data:=.seq acc k,slots:=#[] }/\ItemsOf (λi v=>∃ t,v=.int (lo+i*1) t) acc n)
  hh (AN _ R) sm hn hz s.heap.objs.size (.ref s.heap.objs.size) 0 S0 λh' tk acc k kp e it=>⟨rfl,h',tk,acc,k,rfl,kp,e,it⟩) (λf s' z=>?_) (λe s' z=>?_)
 .cases f with
  |done f=>
   obtain ⟨e,h',tk,acc,k,rfl,z1,z2,z3⟩:=z;cases e;exact fin h' tk acc k z1 z2 z3
  |again c'=>exact ⟨z.1,codeAny_mono z.2 λr s'' z=>by obtain ⟨rfl,h',tk,acc,k,rfl,z1,z2,z3⟩:=z;exact fin h' tk acc k z1 z2 z3⟩
 .exact absurd z.1 (by simp)
def dI (r:Yt) (lo hi:Int) (t u v:Tok) (n:Nat) (sm:Builtin.Range.small lo hi 1=true) (hn:Builtin.Range.rangeSize lo hi 1=n) (hz:n<=2 ^ 24) :
  Meets (Builtin.«tuple.__new__» ⟨[.type "tuple", .ref r],[]⟩) (λA R s=>A.handled=none/\IsRange s.heap r lo hi 1 t u v /\
   ∀ (h':Heap) (tk:Nat) (acc:Array Value),(∀ b o,s.heap.get? b=some o->h'.get? b=some o)->ItemsOf (λi v=>∃ t,v=.int (lo+i*1) t) acc n->R (.ok (.ret (.ref h'.objs.size))) { s with heap:=h'.push { cls:=.type "tuple", data:=.seq acc },toks:=tk }) :=
 .of_wp λprog w A R s h=>by
  obtain ⟨hp,g,d,tk,os⟩:=s;obtain ⟨hh,Ra,h⟩:=h;have h1:=sub_tuple_self;have h2:=init_tuple_lookup;have h3:=madeHere_tuple;have T:Shared.TypeIs ⟨hp,g,d,tk,os⟩ (.ref r) "range" := ⟨_,Ra,rfl⟩;wp_walk using wpAny_loadPart' Ra,wpAny_typeOf T,mZ (show A.in1.handled=none from hh) Ra sm hn hz;intro h' tk' acc kp it;refine AA (m:=Builtin.Tuple.tupleExact acc.toList.toArray) ?_;unfold Builtin.Tuple.tupleExact;have sz:acc.toList.toArray.size<=sizeLine:=by rw[AQ,Ct,it.1,sizeLine_eq];omega
  refine Ba (AD ⟨_,rfl,?_⟩) sz;have e:acc.toList.toArray=acc:=by simp
  rw[e];exact h h' tk' acc kp it
def OH:Br X (.type "range") (λxs H Q=>∃ j,xs=[.int j] /\ ∀ l,H l=none->Q (.ref l) (upd H l (.rng 0 j))):=by
 intro zB s Y H xs us Q I r h;obtain ⟨j,rfl,q⟩:=h;obtain ⟨u,rfl,rx⟩:=C7 r;obtain ⟨t,rfl⟩:=rx;refine call_range_1 ⟨.ref s.heap.objs.size,_,I.laid (λb o z=>AN _ z) (AF _) ?_,rfl,q _ (I.hok.fresh (AF _))⟩;exact ⟨_,_,_,Ad _ rfl⟩
noncomputable def upV (n:Nat):List V:=(List.range n).map λ(k:Nat)=>V.int k
def Qu (h:ItemsOf (λi v=>∃ t,v=.int ((0:Int)+i*1) t) acc n):zg (upV n) acc.toList:=by
 obtain ⟨hz,hi⟩:=h;have:∀ (xs:Yf) (k:Nat),(∀ j v,xs[j]?=some v -> ∃ t,v=Value.int ((k+j:Nat):Int) t)->zg ((List.range' k xs.length).map λ(k:Nat)=>V.int k) xs:=by
  intro xs;induction xs with
  |nil=>intro k _;exact .nil
  |cons x xs ih=>
   intro k hk;rw[C1,List.range'_succ,AX];refine .cons ?_ (ih (k+1) λj v e=>?_)
   .obtain ⟨t,e⟩:=hk 0 x rfl;exact ⟨t,by simpa using e⟩
   .obtain ⟨t,e'⟩:=hk (j+1) v (by simpa using e);exact ⟨t,by rw[e'];congr 2;omega⟩
 have q:=this acc.toList 0 (λj v e=>by
  obtain ⟨t,e'⟩:=hi j v (by simpa using e);exact ⟨t,by rw[e'];congr 1;omega⟩)
 unfold upV;rw[List.range_eq_range'];rw[Ct,hz]at q;exact q
def RF (h0:0<=j) (h1:j<=16777216):Builtin.Range.small 0 j 1=true/\Builtin.Range.rangeSize 0 j 1=(j.toNat:Int):=by
 refine ⟨small_one (by omega) (by omega) (by omega) (by omega),?_⟩;rw[rangeSize_one];split <;> omega
def Qm (mk:List V->HO):List V->Hp->VK->Prop:=λxs H Q=>∃ r j,xs=[.ref r]/\H r=some (.rng 0 j)/\0<=j/\j<=16777216 /\ ∀ l,H l=none->Q (.ref l) (upd H l (mk (upV j.toNat)))
def SF (n:Nat):(upV n).length=n:=by unfold upV;simp
def UA (hc:X.calm=true):Br X (.type "tuple") (Qm HO.tup):=by
 intro zB s Y H xs us Q I r h;obtain ⟨l,j,rfl,hr,h0,h1,q⟩:=h;obtain ⟨u,rfl,rx⟩:=C7 r;cases rx;obtain ⟨t,u,v,er⟩:=(show Ar X.prog X.w H s.heap l (.rng 0 j)from I.hok l _ hr);obtain ⟨sm,sz⟩:=RF h0 h1
 refine callType_new PySem.F.called_tuple (by decide) (PySem.F.typeCall_tuple_1 _) (PySem.F.newCall_tuple_1 _) (λobj=>PySem.F.args_object_init_2 obj _) PySem.F.entry_tuple_new (dI l 0 j t u v j.toNat sm sz (by omega))
  ⟨I.ok.hd hc,er,λh' tk acc kp it=>⟨⟨_,Ad _ rfl,rfl⟩,?_⟩⟩
 have I1:Inv X zB Y H { s with heap:=h',toks:=tk }:=I.kept kp;refine ⟨.ref h'.objs.size,_,I1.laid (t':=tk) (λb o z=>AN _ z) (AF _) ?_,rfl,q _ (I1.hok.fresh (AF _))⟩;exact ⟨by rw[SF,sizeLine_eq];omega,acc.toList,Qu it,by simpa using Dm.new h' acc⟩
def ZC (hc:X.calm=true):Br X (.type "list") (Qm HO.lst):=by
 intro zB s Y H xs us Q I r h;obtain ⟨l,j,rfl,hr,h0,h1,q⟩:=h;obtain ⟨u,rfl,rx⟩:=C7 r;cases rx;obtain ⟨t,u,v,er⟩:=(show Ar X.prog X.w H s.heap l (.rng 0 j)from I.hok l _ hr);obtain ⟨sm,sz⟩:=RF h0 h1;refine call_list_range (I.ok.hd hc) er sm sz (by omega) λh' tk acc k kp z it=>?_;refine ⟨.ref s.heap.objs.size,_,I.laid (t':=tk) kp (AF _) (show Ar X.prog X.w _ h' _ (.lst (upV j.toNat))from ⟨by rw[SF,sizeLine_eq];omega,acc.toList,k,Qu it,by simpa using z⟩),rfl,q _ (I.hok.fresh (AF _))⟩
noncomputable def upD (n:Nat):List D:=(List.range n).map λ(k:Nat)=>D.int k
def Om (n:Nat):zR L H (upD n) (upV n):=by
 have:∀ xs:List Nat,zR L H (xs.map λ(k:Nat)=>D.int k) (xs.map λ(k:Nat)=>V.int k):=by
  intro xs;induction xs with
  |nil=>exact .nil
  |cons x xs ih=>exact .cons B4 ih
 exact this _
noncomputable def Eb (f:FE):FE:=λY M=>match f Y M with
 |some (.dat (.int j),M1)=>if 0<=j/\j<=16777216 then some (.dat (.tup (upD j.toNat)),M1) else none
 |_=>none
noncomputable def F5 (f:FE):FE:=λY M=>match f Y M with
 |some (.dat (.int j),M1)=>if 0<=j/\j<=16777216 then some (.fl (upD j.toNat),M1) else none
 |_=>none
def j5 (hc:X.calm=true) (hg:Gl X "tuple") (hm:X.mg "tuple" = none) (hg2:Gl X "range") (hm2:X.mg "range" = none) (ha:QE X a f)
  (he:starEach [Expr.Call (.Name "range" p2) [a] [] pos2] X.env=(false,eval (Expr.Call (.Name "range" p2) [a] [] pos2) X.env)::starEach [] X.env:=by rfl) (hpl:(backTo pos (starEach [] X.env)).any (·.1)=false:=by rfl)
  (he2:starEach [a] X.env=(false,eval a X.env)::starEach [] X.env:=by rfl) (hpl2:(backTo pos2 (starEach [] X.env)).any (·.1)=false:=by rfl) :
  QE X (.Call (.Name "tuple" p) [.Call (.Name "range" p2) [a] [] pos2] [] pos) (Eb f) :=
 .mk <| PE.imp (Iz (UA hc) hg hm (by rfl) (FW (Iz OH hg2 hm2 boot_range (FW ha.un Gg he2) (by decide) (by decide) he2 hpl2) Gg he) (by decide) (by decide) he hpl) λτ H Q zz=>by
  obtain ⟨L,Y,M,d,M',c,rs,hf,q⟩:=zz;unfold Eb at hf;split at hf
  .rename_i j M1 e1;split at hf
   .rename_i hb;cases hf;refine ⟨L,Y,M,_,_,c,rs,e1,λL1 H1 v s1 c1 r1=>⟨j,by unfold ze Rep at r1;rw[r1],λl hl=>⟨l,j,rfl,CV,hb.1,hb.2,λk hk=>?_⟩⟩⟩;exact q L1 _ _ ((s1.trans (.upd hl)).trans (.upd hk)) ((c1.upd hl).upd hk) (Rep.newTup hk (Om _))
   .cases hf
  .cases hf
def lF (hc:X.calm=true) (hg:Gl X "list") (hm:X.mg "list" = none) (hg2:Gl X "range") (hm2:X.mg "range" = none) (ha:QE X a f)
  (he:starEach [Expr.Call (.Name "range" p2) [a] [] pos2] X.env=(false,eval (Expr.Call (.Name "range" p2) [a] [] pos2) X.env)::starEach [] X.env:=by rfl) (hpl:(backTo pos (starEach [] X.env)).any (·.1)=false:=by rfl)
  (he2:starEach [a] X.env=(false,eval a X.env)::starEach [] X.env:=by rfl) (hpl2:(backTo pos2 (starEach [] X.env)).any (·.1)=false:=by rfl) :
  QE X (.Call (.Name "list" p) [.Call (.Name "range" p2) [a] [] pos2] [] pos) (F5 f) :=
 .mk <| PE.imp (Iz (ZC hc) hg hm (by rfl) (FW (Iz OH hg2 hm2 boot_range (FW ha.un Gg he2) (by decide) (by decide) he2 hpl2) Gg he) (by decide) (by decide) he hpl) λτ H Q zz=>by
  obtain ⟨L,Y,M,d,M',c,rs,hf,q⟩:=zz;unfold F5 at hf;split at hf
  .rename_i j M1 e1;split at hf
   .rename_i hb;cases hf;refine ⟨L,Y,M,_,_,c,rs,e1,λL1 H1 v s1 c1 r1=>⟨j,by unfold ze Rep at r1;rw[r1],λl hl=>⟨l,j,rfl,CV,hb.1,hb.2,λk hk=>?_⟩⟩⟩;have s2:Stp L H L1 (upd H1 l (.rng 0 j)):=s1.trans (.upd hl);exact q L1 _ _ (s2.trans (.upd hk)) ((c1.upd hl).upd hk) (ze.newLst s2 c (c1.upd hl) hk (Om _))
   .cases hf
  .cases hf
def dQ (e:f Y M=some (.dat (.int j),M)) (h0:0<=j) (h1:j<=16777216) (q:P (.dat (.tup (upD j.toNat))) M):Ok (Eb f Y M) P:=by
 refine ⟨_,_,?_,q⟩;unfold Eb;rw[e];dsimp only;rw[AB ⟨h0,h1⟩]
def Xf (e:f Y M=some (.dat (.int j),M)) (h0:0<=j) (h1:j<=16777216) (q:P (.fl (upD j.toNat)) M):Ok (F5 f Y M) P:=by
 refine ⟨_,_,?_,q⟩;unfold F5;rw[e];dsimp only;rw[AB ⟨h0,h1⟩]
noncomputable def IY:Expr->Bool
 |.Starred .. =>false
 |_=>true
def zb (h:IY e=true):starEach (e::es) env=(false,eval e env)::starEach es env:=by
 cases e <;> first|rfl|cases h
def Kw (h:IY e=true):starEach [e] env=[(false,eval e env)]:=zb h
def YZ (h:IY e=true) (h':IY e'=true):starEach [e,e'] env=[(false,eval e env),(false,eval e' env)]:=by rw[zb h,Kw h']
theorem GW:∀ {es:Yi},es.all IY=true->(backTo pos (starEach es env)).any (·.1)=false
 |[],_=>rfl
 |e::es,h=>by
  rw[List.all_cons,BR]at h;rw[zb h.1];have:=GW (pos:=pos) (env:=env) h.2;simpa [backTo] using this
def Cor.pushO {K:Yb} {L:Yg} {M:List MO} {H:Hp} {p:Yt} {o:HO} {m:MO} (c:Cor K L M H) (h:H p=none) (new:D4 K (L++[p]) (L2.upd H p o) p m) :
  Cor K (L++[p]) (M++[m]) (L2.upd H p o)/\Stp L H (L++[p]) (L2.upd H p o):=by
 have hp:p∉L:=λz=>by obtain ⟨o,e⟩:=c.tracked z;rw[h]at e;cases e
 have st:Stp L H (L++[p]) (L2.upd H p o):=by
  refine ⟨⟨[p],rfl⟩,λa ha=>?_,λa o e _=>?_,λa o e=>?_,λa o u e=>?_⟩
  .rcases Ak.mp ha with z|z
   .exact .inl z
   .have:a=p:=by simpa using z
    subst this;exact .inr h
  all_goals (rw[zf (DX e h)];exact e)
 refine ⟨⟨by simp[c.len],?_,λn a m e1 e2=>?_⟩,st⟩
 .rw[DH];exact ⟨c.nd,by simp,λa ha b hb z=>by
   have:b=p:=by simpa using hb
   subst this;subst z;exact hp ha⟩
 .by_cases hn:n<L.length
  .rw[AJ hn]at e1;rw[AJ (by rw[<-c.len];exact hn)]at e2;exact (c.obj n a m e1 e2).stp st λo e=>by rw[zf (DX e h)];exact e
  .have hn':n=L.length:=by
    have:=(AG.mp e1).1;rw[AU]at this;simp at this;omega
   subst hn';simp at e1;rw[c.len]at e2;simp at e2;subst e1;subst e2;exact new
def Cor.put {K:Yb} {L:Yg} {M:List MO} {H:Hp} {n:Nat} {p:Yt} {o o':HO} {m:MO} (c:Cor K L M H) (h1:L[n]?=some p) (ho:H p=some o) (ht:∀ xs,o≠.tup xs) (hf:∀ a u,o≠.frz a u)
  (new:Stp L H L (L2.upd H p o')->D4 K L (L2.upd H p o') p m):Cor K L (M.set n m) (L2.upd H p o')/\Stp L H L (L2.upd H p o'):=by
 have st:Stp L H L (L2.upd H p o'):=by
  refine ⟨⟨[],by simp⟩,λa ha=> .inl ha,λa o e ha=>?_,λa xs e=>?_,λa b u e=>?_⟩
  .rw[zf (show a≠p from λz=>ha (by rw[z];exact List.mem_of_getElem? h1))];exact e
  .rw[zf (GX e ho (λz=>ht xs z.symm))];exact e
  .rw[zf (GX e ho (λz=>hf b u z.symm))];exact e
 refine ⟨⟨by simp[c.len],c.nd,λk a m' e1 e2=>?_⟩,st⟩;rw[ED]at e2;split at e2
 .rename_i hk;subst hk;rw[h1]at e1;cases e1;split at e2
  .cases e2;exact new st
  .cases e2
 .rename_i hk;have hne:a≠p:=λz=>hk (by
   subst z;exact (List.getElem?_inj (AG.mp h1).1 c.nd).mp (h1.trans e1.symm))
  exact (c.obj k a m' e1 e2).stp st λo e=>by rw[zf hne];exact e
noncomputable def JU:FE:=λ_ M=>some (.dat (.ref M.length),M++[.dict []])
noncomputable def IL:FE:=λ_ M=>some (.dat (.ref M.length),M++[.dicT []])
def bN:QE X (.Dict [] [] pos) JU:=.mk <| PE.imp Zg λτ H Q ⟨L,Y,M,d,M',c,rs,hf,q⟩ p hp=>by
 unfold JU at hf;cases hf;obtain ⟨c2,s2⟩:=c.pushO (m:=.dict []) hp ⟨[],CV,rfl⟩;refine q _ _ _ s2 c2 ?_;unfold ze Rep;exact ⟨p,rfl,by rw[<-c.len];simp⟩
def mN:QE X (.Dict [] [] pos) IL:=.mk <| PE.imp lI λτ H Q ⟨L,Y,M,d,M',c,rs,hf,q⟩ p hp=>by
 unfold IL at hf;cases hf;obtain ⟨c2,s2⟩:=c.pushO (m:=.dicT []) hp ⟨[],CV,rfl⟩;refine q _ _ _ s2 c2 ?_;unfold ze Rep;exact ⟨p,rfl,by rw[<-c.len];simp⟩
def JY (h:Rep L H d v) (e:C0 d=some k):v=kV k:=by
 cases d with
 |int i=>cases e;unfold Rep at h;exact h
 |str x=>cases e;unfold Rep at h;exact h
 |_=>cases e
noncomputable def D5 (M:Mem):EV->Option (List D)
 |.fl xs=>some xs
 |.dat (.ref n)=>match M[n]? with
  |some (.lst xs)=>some xs
  |_=>none
 |_=>none
def Qw {K:Yb} {L:Yg} {M:Mem} {H H0:Hp} {x:EV} {v:V} {xs:List D} (c:Cor K L M H) (r:ze H0 L H x v) (h:D5 M x=some xs):∃ a vs,v=.ref a/\H a=some (.lst vs)/\zR L H xs vs:=by
 cases x with
 |fl ys=>
  cases h;obtain ⟨p,vs,rfl,_,e,_,r⟩:=r;exact ⟨p,vs,rfl,e,r⟩
 |dat d=>
  cases d with
  |ref n=>
   unfold ze Rep at r;obtain ⟨a,rfl,e⟩:=r;unfold D5 at h;dsimp only at h;split at h
   .rename_i ys q;cases h;obtain ⟨vs,e1,r1⟩:=c.obj n a _ e q;exact ⟨a,vs,rfl,e1,r1⟩
   .cases h
  |_=>cases h
noncomputable def Cn:K2:=λx y M=>match D5 M x,D5 M y with
 |some xs,some ys=>if xs.length+ys.length<=sizeLine then some (.fl (xs++ys),M) else none
 |_,_=>none
def VH {K:Yb}:BQ K SD Cn:=by
 intro L M M' H H0 x y d v w Q c rx ry hk q;unfold Cn at hk;split at hk
 .rename_i xs ys e1 e2;split at hk
  .rename_i hz;cases hk;obtain ⟨l,vs,rfl,h1,r1⟩:=Qw c rx e1;obtain ⟨l2,ws,rfl,h2,r2⟩:=Qw c ry e2;refine ⟨l,l2,vs,ws,rfl,rfl,h1,h2,by rw[r1.length,r2.length];exact hz,λp hp=>?_⟩;exact q L _ _ (.upd hp) (c.upd hp) (ze.newLst (.refl L H) c c hp (r1.app r2))
  .cases hk
 .cases hk
def Vg (h1:QE X a f) (h2:QE X b g):QE X (.BinOp a .Add b pos) (fOp Cn f g):=Gr VH SY h1 h2
def YM (h1:D5 M x=some xs) (h2:D5 M y=some ys) (hz:xs.length+ys.length<=100000) (q:P (.fl (xs++ys)) M):Ok (Cn x y M) P:=by
 refine ⟨_,_,?_,q⟩;unfold Cn;rw[h1,h2];dsimp only;rw[AB (AW hz (by decide))]
theorem Ph:∀ {xs ys:List D} {vs ws:List V},zR L H xs vs->zR L H ys ws->zR L H (xs++ys) (vs++ws)
 |[],ys,vs,ws,r,s=>by unfold zR at r;subst r;exact s
 |x::xs,ys,vs,ws,r,s=>by
  unfold zR at r;obtain ⟨v,r',rfl,r1,r2⟩:=r;exact .cons r1 (Ph r2 s)
theorem Qp:∀ {xs:List D} {vs:List V},zR L H xs vs->zR L H xs.reverse vs.reverse
 |[],vs,r=>by unfold zR at r;subst r;exact .nil
 |x::xs,vs,r=>by
  unfold zR at r;obtain ⟨v,r',rfl,r1,r2⟩:=r;rw[List.reverse_cons,List.reverse_cons];exact Ph (Qp r2) (.cons r1 .nil)
noncomputable def Bs:List D->Option (List Int)
 |[]=>some []
 |.int i::r=>match Bs r with
  |some bs=>some (i::bs)
  |none=>none
 |_=>none
theorem IX:∀ {ds:List D} {bs:Ye} {vs:List V},Bs ds=some bs->zR L H ds vs->vs=bs.map V.int
 |[],bs,vs,e,r=>by cases e;unfold zR at r;exact r
 |d::ds,bs,vs,e,r=>by
  unfold zR at r;obtain ⟨v,r',rfl,r1,r2⟩:=r;cases d with
  |int k=>
   unfold Bs at e;cases q:Bs ds with
   |none=>rw[q]at e;cases e
   |some bs'=>
    rw[q]at e;cases e;unfold Rep at r1;rw[r1,IX q r2];rfl
  |_=>cases e
theorem Ig:∀ xs:List Int,Bs (xs.map D.int)=some xs
 |[]=>rfl
 |x::r=>by rw[AX];unfold Bs;rw[Ig r]
end L3
namespace L2
def mB (I:Nat->Shared->Prop)
  (turn:∀ n s,I n s->wpAny (model prog w) A (pyNext it) (λr s₁=>match r with
   |none=>R (.ok .next) s₁
   |some v=>wpAny (model prog w) A (letOwnedTupleGo target it v) (λ_ s₁'=>wpAny (model prog w) A (assign target env v) (λ_ s₂=>
     wpAny (model prog w) A (forIn ifs true λc r=>if r=true then do let ok <- isTrue c env (eval c env);pure (ForInStep.yield ok) else pure (ForInStep.yield r)) (λok s₃=>
      if ok=true then wpAny (model prog w) A (eval kx env) (λkv s₄=>wpAny (model prog w) A (eval vx env) (λvv s₅=>
       wpAny (model prog w) A (dictSet D kv vv) (λ_ s₆=>∃ m,m<n/\I m s₆) (λ_ _=>False) s₅) (λ_ _=>False) s₄) (λ_ _=>False) s₃
      else ∃ m,m<n/\I m s₃) (λ_ _=>False) s₂) (λ_ _=>False) s₁') (λ_ _=>False) s₁) (λ_ _=>False) s)
  (n:Nat) (h:I n s) :
  codeAny (model prog w) A (.compLoop (.DictComp kx vx [⟨target,iter,ifs,0⟩] scope pos) 0 it (.ref D) env) R s:=by
 refine codeAny_loop rfl I (λn s hI=>?_) n h;show wpAny _ A ((compTurn (.DictComp kx vx [⟨target,iter,ifs,0⟩] scope pos) 0 it (.ref D) env).onRaise (λx=>do noteFrame x env;theTreesLotGoes x)) _ _ s;refine wpAny_noted ?_;rw[compTurn_dict];refine AA (CU (AA (AS (turn n s hI) (λr s₁ h₁=>?_) λ_ _ h'=>h'.elim)));cases r with
 |none=>exact AD h₁
 |some v=>
  refine AA (AS h₁ (λ_ s₁' h₁'=>?_) λ_ _ h'=>h'.elim);refine AA (AS h₁' (λ_ s₂ h₂=>AA (AS h₂ (λok s₃ h₃=>?_) λ_ _ h'=>h'.elim)) λ_ _ h'=>h'.elim);cases ok with
  |false=>exact AD ⟨rfl,h₃⟩
  |true=>
   exact AA (AA (AS h₃ (λkv s₄ h₄=>AA (CF (AS h₄ (λvv s₅ h₅=>AA (CU (CF (AS h₅ (λ_ s₆ h₆=>AD ⟨rfl,h₆⟩) λ_ _ h'=>h'.elim)))) λ_ _ h'=>h'.elim))) λ_ _ h'=>h'.elim))
def Su (elt target iter:Expr) (ifs:Yi) (scope:Y0) (pos:Pos) (it acc:Yu) (env:Env) :
  compTurn (.SetComp elt [⟨target,iter,ifs,0⟩] scope pos) 0 it acc env=(do
   standAt iter.pos;match <- pyNext it with
   |none=>pure (.done .next)
   |some v=>
    letOwnedTupleGo target it v;assign target env v;let mut ok:=true
    for c in ifs do
     if ok then ok <- isTrue c env (eval c env)
    if ok then (do let v <- eval elt env;standAt elt.pos;let _ <- call (.builtin "set.add") [acc,v])
    again (.compLoop (.SetComp elt [⟨target,iter,ifs,0⟩] scope pos) 0 it acc env)):=by rfl
def fP (I:Nat->Shared->Prop)
  (turn:∀ n s,I n s->wpAny (model prog w) A (pyNext it) (λr s₁=>match r with
   |none=>R (.ok .next) s₁
   |some v=>wpAny (model prog w) A (letOwnedTupleGo target it v) (λ_ s₁'=>wpAny (model prog w) A (assign target env v) (λ_ s₂=>
     wpAny (model prog w) A (forIn ifs true λc r=>if r=true then do let ok <- isTrue c env (eval c env);pure (ForInStep.yield ok) else pure (ForInStep.yield r)) (λok s₃=>
      if ok=true then wpAny (model prog w) A (eval elt env) (λx s₄=>
       wpAny (model prog w) A (call (.builtin "set.add") [acc,x]) (λ_ s₅=>∃ m,m<n/\I m s₅) (λ_ _=>False) s₄) (λ_ _=>False) s₃
      else ∃ m,m<n/\I m s₃) (λ_ _=>False) s₂) (λ_ _=>False) s₁') (λ_ _=>False) s₁) (λ_ _=>False) s)
  (n:Nat) (h:I n s) :
  codeAny (model prog w) A (.compLoop (.SetComp elt [⟨target,iter,ifs,0⟩] scope pos) 0 it acc env) R s:=by
 refine codeAny_loop rfl I (λn s hI=>?_) n h;show wpAny _ A ((compTurn (.SetComp elt [⟨target,iter,ifs,0⟩] scope pos) 0 it acc env).onRaise (λx=>do noteFrame x env;theTreesLotGoes x)) _ _ s;refine wpAny_noted ?_;rw[Su];refine AA (CU (AA (AS (turn n s hI) (λr s₁ h₁=>?_) λ_ _ h'=>h'.elim)));cases r with
 |none=>exact AD h₁
 |some v=>
  refine AA (AS h₁ (λ_ s₁' h₁'=>?_) λ_ _ h'=>h'.elim);refine AA (AS h₁' (λ_ s₂ h₂=>AA (AS h₂ (λok s₃ h₃=>?_) λ_ _ h'=>h'.elim)) λ_ _ h'=>h'.elim);cases ok with
  |false=>exact AD ⟨rfl,h₃⟩
  |true=>
   exact AA (AA (AS h₃ (λx s₄ h₄=>AA (CU (AA (AS h₄ (λ_ s₅ h₅=>AD (AD ⟨rfl,h₅⟩)) λ_ _ h'=>h'.elim)))) λ_ _ h'=>h'.elim))
end L2
end
namespace ST
open PySem
abbrev Up (xs:Array Nat):Prop:=xs.toList.Pairwise (· < ·)
def Up.get (h:Up xs) (hik:i<k) (hk:k<xs.size):xs[i]'(by omega)<xs[k]:=by
 have:=List.pairwise_iff_getElem.mp h i k (by simpa using (show i<xs.size by omega)) (by simpa using hk) hik;simpa using this
theorem KZ (h:Up xs) (j:Nat):∀ (fuel lo hi:Nat),lo<=hi->hi<=xs.size->hi-lo<=fuel->(∀ i (hi':i<xs.size),i<lo->xs[i]<j)->(∀ i (hi':i<xs.size),hi<=i->j<=xs[i]) ->
  (SetTable.below.go xs j fuel lo hi<=xs.size)/\(∀ i (hi':i<xs.size),i<SetTable.below.go xs j fuel lo hi->xs[i]<j)/\(∀ i (hi':i<xs.size),SetTable.below.go xs j fuel lo hi<=i->j<=xs[i])
 |0,lo,hi,h1,h2,h3,a,b=>by
  have:lo=hi:=by omega
  subst this;unfold SetTable.below.go;exact ⟨h2,a,b⟩
 |fuel+1,lo,hi,h1,h2,h3,a,b=>by
  unfold SetTable.below.go;by_cases hl:lo<hi
  .rw[AB hl];dsimp only;have hm:(lo+hi) / 2<xs.size:=by omega
   have eg:xs.getD ((lo+hi) / 2) j=xs[(lo+hi) / 2]:=by simp[Array.getD,hm]
   rw[eg];by_cases hc:xs[(lo+hi) / 2]<j
   .rw[AB hc];refine KZ h j fuel _ _ (by omega) h2 (by omega) (λi hi' hlt=>?_) b;rcases DE i ((lo+hi) / 2)with z|z
    .exact Nat.lt_trans (h.get z hm) hc
    .have:i=(lo+hi) / 2:=by omega
     subst this;exact hc
   .rw[AE hc];refine KZ h j fuel _ _ (by omega) (by omega) (by omega) a (λi hi' hge=>?_);rcases DE ((lo+hi) / 2) i with z|z
    .have:=h.get z hi';omega
    .have:i=(lo+hi) / 2:=by omega
     subst this;omega
  .rw[AE hl];have:lo=hi:=by omega
   subst this;exact ⟨h2,a,b⟩
def KC (h:Up xs) (j:Nat):SetTable.below xs j<=xs.size/\(∀ i (hi':i<xs.size),i<SetTable.below xs j->xs[i]<j)/\(∀ i (hi':i<xs.size),SetTable.below xs j<=i->j<=xs[i]):=by
 unfold SetTable.below;exact KZ h j xs.size 0 xs.size (BD _) (AF _) (by omega) (λi _ z=>by omega) (λi hi' z=>by omega)
def m3 (h:Up xs):SetTable.below xs 0=0:=by
 obtain ⟨a,b,c⟩:=KC h 0;rcases Nat.eq_zero_or_pos (SetTable.below xs 0)with z|z
 .exact z
 .have:=b 0 (by omega) z;omega
def aC (h:Up xs) (hk:k<xs.size):SetTable.below xs (xs[k]+1)=k+1:=by
 obtain ⟨a,b,c⟩:=KC h (xs[k]+1);rcases Nat.lt_trichotomy (SetTable.below xs (xs[k]+1)) (k+1)with z|z|z
 .have:=c k hk (by omega);omega
 .exact z
 .have h1:k+1<xs.size:=by omega
  have:=b (k+1) h1 z;have:=h.get (show k<k+1 by omega) h1;omega
def YJ {α:Type} (xs:Array α) (p:Nat) (x:α):(SetTable.insertAt xs p x).toList=xs.toList.take p++x::xs.toList.drop p:=by
  unfold SetTable.insertAt;simp;have:xs.toList.length<=xs.size:=by simp
  rw[G8 (by simp)]
def Vj (h : Up xs) (hj : j ∉ xs.toList) : Up (SetTable.insertAt xs (SetTable.below xs j) j) := by
  obtain ⟨a, b, c⟩ := KC h j;unfold Up;rw [YJ];rw [List.pairwise_append];have hT : ∀ x ∈ xs.toList.take (SetTable.below xs j), x < j := fun x hx => by
    obtain ⟨i,hi,e⟩:=En hx;rw[List.getElem_take]at e;rw[EJ]at hi
    have h1 : i < xs.size := by have : xs.toList.length = xs.size := by simp
                                omega
    have:=b i h1 (by omega);rw[<-e];simpa using this
  have hD : ∀ x ∈ xs.toList.drop (SetTable.below xs j), j < x := fun x hx => by
    obtain ⟨i,hi,e⟩:=En hx;rw[List.getElem_drop]at e;rw[D7]at hi
    have h1 : SetTable.below xs j + i < xs.size := by have : xs.toList.length = xs.size := by simp
                                                      omega
    have h2:=c _ h1 (by omega);have h3:x≠j:=λz=>hj (z▸List.mem_of_mem_drop hx);have e':xs[SetTable.below xs j+i]=x:=by simpa using e
    omega
  refine ⟨h.sublist (List.take_sublist _ _),EO.mpr ⟨hD,h.sublist (List.drop_sublist _ _)⟩,λx hx y hy=>?_⟩;rcases AK.mp hy with z|z
  .rw[z];exact hT x hx
  .exact Nat.lt_trans (hT x hx) (hD y z)
def Rt (j:Nat):SetTable.has #[] j=false:=by
 unfold SetTable.has;simp
def SN {t:SetTable} (h:Up t.place) (he:t.slot j=.empty):j∉t.place.toList:=λhm=>by
 obtain ⟨a,b,c⟩:=KC h j;obtain ⟨k,hk,e⟩:=En hm;have hk':k<t.place.size:=by simpa using hk
 have e':t.place[k]=j:=by simpa using e
 have eb:SetTable.below t.place j=k:=by
  rcases Nat.lt_trichotomy (SetTable.below t.place j) k with z|z|z
  .have h1:SetTable.below t.place j<t.place.size:=by omega
   have:=c _ h1 (AF _);have:=h.get z hk';omega
  .exact z
  .have:=b k hk' z;omega
 unfold SetTable.slot at he;rw[eb,AB (by simp[hk',e'])]at he;cases he
theorem Oh (hd:t.dummies = #[]):∀ (fuel:Nat) (p:SetTable.Probe) {j:Nat} {d:Option Nat},p.dummy=none->SetTable.probe.go t hashAt h fuel p=some (.empty j d)->d=none/\t.slot j=.empty
 |0,_,_,_,_,e=>by unfold SetTable.probe.go at e;cases e
 |fuel+1,p,j,d,hp,e=>by
  unfold SetTable.probe.go at e;split at e
  .rename_i hs;cases e;exact ⟨hp,hs⟩
  .rename_i hs;unfold SetTable.slot at hs;dsimp only at hs;rw[hd,Rt]at hs;split at hs <;> first|cases hs|simp at hs
  .split at e
   .cases e
   .refine Oh hd fuel _ ?_ e;unfold SetTable.advance;split <;> simp[hp]
def aG {t:SetTable} (hu:Up t.place) (hd:t.dummies = #[]) (e:t.freeSlot h=some (j,b)):b=false/\j∉t.place.toList:=by
 unfold SetTable.freeSlot at e;split at e
 .rename_i j' d hp;unfold SetTable.probe at hp;obtain ⟨h1,h2⟩:=Oh hd _ _ (by rfl) hp;subst h1;simp at e;obtain ⟨rfl,rfl⟩:=e;exact ⟨rfl,SN hu h2⟩
 .cases e
structure TabOk (w:Yo) (t:SetTable):Prop where
 led:t.led = !w.params.followText "set-order"
 up:Up t.place
 nod:t.dummies = #[]
def gD (n:Nat):Up (Array.range n):=by
 unfold Up;rw[Array.toList_range];exact List.pairwise_lt_range
def TabOk.standIn (h:TabOk w t) (n:Nat):TabOk w (t.standIn n):=⟨h.led,gD n,rfl⟩
def TabOk.orStandIn (h:TabOk w t) (n:Nat):TabOk w (t.orStandIn n):=by
 unfold SetTable.orStandIn;split
 .exact h
 .exact h.standIn n
def TabOk.put (h:TabOk w t) (hj:j∉t.place.toList):TabOk w (t.put j).1:=by
 unfold SetTable.put;refine ⟨h.led,Vj h.up hj,?_⟩;rw[h.nod,Rt];rfl
theorem TabOk.layNew (h:TabOk w t) (es:Yw) (hh:Int) (x:Yu):TabOk w (layNew t es hh x).2.1:=by
 unfold PySem.layNew;split
 .rename_i j b e;exact (h.put (aG h.up h.nod e).2).orStandIn _
 .exact h.standIn _
def TabOk.relaid (h:TabOk w t) (e:t.relaid hs wanted=some (t',order)):TabOk w t':=by
 unfold SetTable.relaid SetTable.laid at e;cases q:SetTable.layClean (SetTable.sizeAbove wanted-1) hs with
 |none=>rw[q]at e;cases e
 |some owner=>
  rw[q]at e;simp only[Option.bind_eq_bind,Option.bind_some,Option.pure_def,Option.some.injEq,Prod.mk.injEq]at e;obtain ⟨rfl,_⟩:=e;refine ⟨h.led,?_,rfl⟩;unfold Up;rw[List.pairwise_map,List.pairwise_filterMap];refine List.pairwise_lt_range.imp λ{a b} hab x hx y hy=>?_;cases o1:owner.getD a none with
  |none=>rw[o1]at hx;cases hx
  |some u=>
   cases o2:owner.getD b none with
   |none=>rw[o2]at hy;cases hy
   |some v=>
    rw[o1]at hx;rw[o2]at hy;cases hx;cases hy;exact hab
theorem TabOk.relayAll (h:TabOk w t) (es:Yw) (wanted:Nat):TabOk w (relayAll t es wanted).2.1:=by
 unfold PySem.relayAll;split
 .rename_i t' order e;dsimp only;split
  .exact h.relaid e
  .exact h.standIn _
 .exact h.standIn _
theorem TabOk.plain (h:TabOk w t) (b:Bool):TabOk w { t with plain:=b }:=⟨h.led,h.up,h.nod⟩
def TabOk.fresh:TabOk w (SetTable.fresh 0 0 (!w.params.followText "set-order")):=⟨rfl,List.Pairwise.nil,rfl⟩
open Sem (wp)
set_option genInjectivity true in
inductive F2 {α β:Type} (R:α->β->Prop):List α->List β->Prop
 |nil:F2 R [] []
 |cons {x y xs ys}:R x y->F2 R xs ys->F2 R (x::xs) (y::ys)
section
variable [DecidableEq K]
def Lx (knd:KeyKind prog w K) (e:Int × Value) (k:K):Prop:=(knd.is k e.2=true/\e.1=knd.hash k)/\e.2.scannable=true
structure SetK (knd:KeyKind prog w K) (o:Obj) (es:Yw) (ep:Nat) (t:SetTable) (ks:List K):Prop where
 ex:o.ExactSet
 data:o.data=.set es ep t
 tab:TabOk w t
 fits:t.fits es.size=true
 bound:es.size<scanBound
 ent:∃ ks',ks'.Perm ks/\F2 (Lx knd) es.toList ks'
noncomputable def ins (ks:List K) (k:K):List K:=if k∈ks then ks else ks++[k]
variable {knd:KeyKind prog w K}
theorem MZ {α β:Type} {R:α->β->Prop}:∀ {xs:List α} {ys:List β},F2 R xs ys->xs.length=ys.length
 |_,_,.nil=>rfl
 |_,_,.cons _ h=>by simp[MZ h]
theorem Ml {α β:Type} {R:α->β->Prop}:∀ {xs:List α} {ys:List β},F2 R xs ys -> ∀ x∈xs,∃ y∈ys,R x y
 |_,_,.nil,x,hx=>by cases hx
 |_,_,.cons h r,x,hx=>by
  rcases AK.mp hx with z|z
  .subst z;exact ⟨_,Ae,h⟩
  .obtain ⟨y,hy,q⟩:=Ml r x z;exact ⟨y,Ai _ hy,q⟩
theorem QN {α β:Type} {R:α->β->Prop}:∀ {xs:List α} {ys:List β},F2 R xs ys -> ∀ y∈ys,∃ x∈xs,R x y
 |_,_,.nil,x,hx=>by cases hx
 |_,_,.cons h r,x,hx=>by
  rcases AK.mp hx with z|z
  .subst z;exact ⟨_,Ae,h⟩
  .obtain ⟨y,hy,q⟩:=QN r x z;exact ⟨y,Ai _ hy,q⟩
theorem Q8 {α β:Type} {R:α->β->Prop}:∀ {xs:List α} {ys:List β} {us:List α} {vs:List β},F2 R xs ys->F2 R us vs->F2 R (xs++us) (ys++vs)
 |_,_,_,_,.nil,h=>h
 |_,_,_,_,.cons h r,q=> .cons h (Q8 r q)
def N2 {α β:Type} {R:α->β->Prop} {xs xs':List α} (p:xs'.Perm xs):∀ {ys:List β},F2 R xs ys -> ∃ ys',ys'.Perm ys/\F2 R xs' ys':=by
 have p':=p.symm;clear p;induction p' with
 |nil=>intro ys h;exact ⟨ys,.refl _,h⟩
 |cons x _ ih=>
  intro ys h;cases h with
  |cons h r=>
   obtain ⟨ys',q1,q2⟩:=ih r;exact ⟨_,q1.cons _,.cons h q2⟩
 |swap x y l=>
  intro ys h;cases h with
  |cons h r=>
   cases r with
   |cons h2 r=>
    exact ⟨_,List.Perm.swap _ _ _,.cons h2 (.cons h r)⟩
 |trans _ _ ih1 ih2=>
  intro ys h;obtain ⟨ys',q1,q2⟩:=ih1 h;obtain ⟨ys'',r1,r2⟩:=ih2 q2;exact ⟨ys'',r1.trans q1,r2⟩
def SetK.size (h:SetK knd o es ep t ks):es.size=ks.length:=by
 obtain ⟨ks',p,f⟩:=h.ent;rw[<-p.length_eq,<-MZ f,Ct]
def SetK.elems (h:SetK knd o es ep t ks):ElemsOf knd es.toList:=λe he=>by
 obtain ⟨ks',p,f⟩:=h.ent;obtain ⟨k,_,q⟩:=Ml f e he;exact ⟨⟨k,q.1⟩,q.2⟩
def SetK.mem (h:SetK knd o es ep t ks) (k:K):k∈ks ↔ ∃ e∈es.toList,knd.is k e.2=true:=by
 obtain ⟨ks',p,f⟩:=h.ent;rw[<-p.mem_iff];constructor
 .intro hk;obtain ⟨e,he,q⟩:=QN f k hk;exact ⟨e,he,q.1.1⟩
 .rintro ⟨e,he,q⟩;obtain ⟨k',hk',q'⟩:=Ml f e he;rw[knd.inj e.2 k k' q q'.1.1];exact hk'
variable {s:Yl}
def SetK.typeIs (h:SetK knd o es ep t ks) (ho:s.heap.get? a=some o):s.TypeIs (.ref a) "set" := ⟨o,ho,h.ex.1⟩
def Ny {h:Heap} (ho:h.get? a=some o) (hd:o.data=.set es ep t) :
  (h.update a (Obj.putSet es' t')).get? a=some { o with data:=.set es' (ep+1) t' }:=by
 have:=Dc (Obj.putSet es' t') ho (by rw[putSet_of es' t' hd];rfl);rw[putSet_of es' t' hd]at this;exact this
def Ry {Q:Bool->Shared->Prop} (hkey:knd.is k x=true) (hsc:x.scannable=true) (ho:s.heap.get? a=some o) (hS:SetK knd o es ep t ks) (hroom:ks.length+1<scanBound)
  (h:∀ h' o' es' ep' t' b,Heap.SameBut a s.heap h'->h'.get? a=some o'->SetK knd o' es' ep' t' (ins ks k)->Q b { s with heap:=h' }) :
  wpAny (model prog w) A (setAddHashed a x (knd.hash k)) Q E s:=by
 have hd:=hS.data;have hf:=hS.fits;have hel:=hS.elems;have hb:=hS.bound;have hb1:es.size+1<scanBound:=by rw[hS.size];exact hroom
 unfold setAddHashed setAddHashedIn;refine CF (AA (wpAny_setState_of ho hd hf ?_));dsimp only;rw[byScan_of hsc hb hel];simp only[↓reduceIte];unfold setAddByScan;refine AA ?_;refine AA (Cm ?_);refine AA (wpAny_setScan_of hkey ho hd hf hel ?_);cases hr:List.findIdx? (λe=>knd.is k e.2) es.toList with
 |some j=>
  obtain ⟨hj,hpj,_⟩:=List.findIdx?_eq_some_iff_getElem.mp hr;have hSk:k∈ks:=(hS.mem k).mpr ⟨es.toList[j],Bl hj,hpj⟩;refine AD (AD ?_);have e:s={ s with heap:=s.heap }:=by cases s;rfl
  rw[e];refine h s.heap o es ep t _ (Heap.SameBut.refl a s.heap) ho ?_;unfold ins;rw[AB hSk];exact hS
 |none=>
  have hSk:k∉ks:=λhk=>by
   obtain ⟨e,he,hp⟩:=(hS.mem k).mp hk;have:=List.findIdx?_eq_none_iff.mp hr e he;rw[hp]at this;exact Bool.noConfusion this
  have hgw:∀ (b:Bool) {s₁:Shared} {Q':Unit->Shared->Prop},Q' () s₁->wpAny (model prog w) A (match b with|true=>rule "set.scan.the-table-gave-way" |false=>pure ()) Q' E s₁ :=
   λb s₁ Q' hq=>by cases b <;> first|exact AD hq|exact Cm hq
  have hperm:=layNew_perm t es (knd.hash k) x;have hfits:=layNew_fits t es (knd.hash k) x;have htab:=hS.tab.layNew es (knd.hash k) x;generalize hL:layNew t es (knd.hash k) x=L at hperm hfits htab ⊢;obtain ⟨es1,t1,wasDummy,gave⟩:=L;rw[Array.toList_push]at hperm;have hb1':es1.size<scanBound:=by rw[<-Ct,hperm.length_eq,AU,Ct];simpa using hb1
  obtain ⟨ks',p,f⟩:=hS.ent;have f1:F2 (Lx knd) (es.toList++[(knd.hash k,x)]) (ks'++[k]):=Q8 f (.cons ⟨⟨hkey,rfl⟩,hsc⟩ .nil);obtain ⟨ks1,p1,f2⟩:=N2 hperm f1;have pI:ks1.Perm (ins ks k):=by
   unfold ins;rw[AE hSk];exact p1.trans (p.append_right _)
  refine AA (hgw _ ?_)
  have tail:∀ t2:SetTable,TabOk w t2->t2.fits es1.size=true->wpAny (model prog w) A (do
    storeSet a es1 t2
    if (!wasDummy&&t2.tooFull)=true then do
      (match (relayAll t2 es1 (SetTable.grown es1.size)).2.2 with|true=>rule "set.scan.the-table-gave-way" |false=>pure ())
      storeSet a (relayAll t2 es1 (SetTable.grown es1.size)).1 (relayAll t2 es1 (SetTable.grown es1.size)).2.1;pure (some true)
     else pure (some true)) (λr s'=>wpAny (model prog w) A (match r with|some added=>pure added|none=>setAddHashedIn a x (knd.hash k) 99999) Q E s') E s:=by
   intro t2 T2 F2;refine AA (wpAny_storeSet_of ho hd ?_ (fits_of_scanBound hb1'));have g1:=Ny (es':=es1) (t':=t2) ho hd;have sb1:=DR s.heap a (Obj.putSet es1 t2);have S1:SetK knd { o with data:=.set es1 (ep+1) t2 } es1 (ep+1) t2 (ins ks k):=⟨hS.ex,rfl,T2,F2,hb1',ks1,pI,f2⟩;split
   .have hp:=relayAll_perm t2 es1 (SetTable.grown es1.size);have hfr:=relayAll_fits t2 es1 (SetTable.grown es1.size);have htr:=T2.relayAll es1 (SetTable.grown es1.size);generalize hRl:relayAll t2 es1 (SetTable.grown es1.size)=Rl at hp hfr htr ⊢;obtain ⟨es2,t3,gave2⟩:=Rl;have hsz:es2.size=es1.size:=by rw[<-Ct,hp.length_eq,Ct]
    have hb2:es2.size<scanBound:=by rw[hsz];exact hb1'
    obtain ⟨ks2,p2,f3⟩:=N2 hp f2;refine AA (hgw _ ?_);refine AA (wpAny_storeSet_of g1 rfl ?_ (fits_of_scanBound hb2));have g2:=Ny (es':=es2) (t':=t3) g1 rfl;exact AD (AD (h _ _ _ _ _ _ (sb1.trans (DR _ a _)) g2 ⟨hS.ex,rfl,htr,hfr,hb2,ks2,p2.trans pI,f3⟩))
   .exact AD (AD (h _ _ _ _ _ _ sb1 g1 S1))
  split
  .refine AA ?_;rw[hashByValue_scannable 8 hsc];refine AD ?_;refine tail _ ?_ ?_
   .split
    .exact htab
    .exact htab.plain _
   .split
    .exact hfits
    .exact SetTable.fits_plain_off hfits
  .refine AA (AD ?_);simp only[↓reduceIte];exact tail _ htab hfits
def Tx (hkey:knd.is k x=true) (hsc:x.scannable=true) (ho:s.heap.get? a=some o) (hS:SetK knd o es ep t ks) (hroom:ks.length+1<scanBound)
  (h:∀ h' o' es' ep' t',Heap.SameBut a s.heap h'->h'.get? a=some o'->SetK knd o' es' ep' t' (ins ks k)->Q .none { s with heap:=h',toks:=s.toks+1 }) :
  wpAny (model prog w) A (call (.builtin "set.add") [.ref a,x]) Q E s:=by
 refine Cg F.slot_set_add (hS.typeIs ho) F.entry_set_add ?_ (F.args_set_add_2 _ _);unfold Builtin.«set.add» Builtin.Frozenset.oneOther;simp only[List.isEmpty_nil,bind_assoc];unfold Builtin.Frozenset.addrOf setAdd;refine AA (AD ?_);try dsimp only
 refine AA (AD ?_);try dsimp only
 refine AA ?_;refine CF ?_;refine AA (knd.pyHash hkey ?_);refine Ry (s:={ s with toks:=s.toks+1 }) hkey hsc ho hS hroom λh' o' es' ep' t' b hsb ho' hS'=>?_;exact AD ⟨_,rfl,h h' o' es' ep' t' hsb ho' hS'⟩
noncomputable def zk (w:World):Obj:={ cls:=.type "set", dict:=none,data:=.set #[] 0 (.fresh 0 0 (!w.params.followText "set-order")) }
def SetK.fresh:SetK knd (zk w) #[] 0 (.fresh 0 0 (!w.params.followText "set-order")) []:=⟨⟨rfl,rfl,rfl⟩,rfl,.fresh,by rfl,by decide,[],.refl _,.nil⟩
def d7 (h:Q (.ref s.heap.objs.size) { s with heap:=s.heap.push (zk w) }) :
  wpAny (model prog w) A (newSet (.type "set")) Q E s:=by
 unfold newSet setsByText;refine AA (AA (wpAny_askSetting (AD ?_)));simp only[newObj];exact AA (wpAny_alloc (AD h))
end
open PySem.Spec PyProof.Rows
open Sem (wp)
def RL:Manifest.owners.lookup (String.ofList ['r','o','t','a','r','e','t','i','_','t','e','s'].reverse)=some Manifest.sig_set_iterator:=by kernel_rfl
def EX:Slot "set_iterator" "__next__" "set_iterator.__next__" := .of (owner := "set_iterator") (n := "__next__") (by rw[typeLookup_type,builtinLookup_eq_fast];kernel_rfl) (by decide+kernel) (by decide+kernel) (by decide+kernel) (by first|exact .inl (by decide+kernel)|exact .inr (by decide+kernel)) (by rw[isSubtype_type];kernel_rfl)
def OZ:Slot "set_iterator" "__iter__" "set_iterator.__iter__" := .of (owner := "set_iterator") (n := "__iter__") (by rw[typeLookup_type,builtinLookup_eq_fast];kernel_rfl) (by decide+kernel) (by decide+kernel) (by decide+kernel) (by first|exact .inl (by decide+kernel)|exact .inr (by decide+kernel)) (by rw[isSubtype_type];kernel_rfl)
def KP (a:Value):argsOk "set_iterator.__next__" ⟨[a],[]⟩:=by
 unfold argsOk;rw[signature?_of (id := "set_iterator.__next__") (n:=['_','_','t','x','e','n','_','_']) (o:=['r','o','t','a','r','e','t','i','_','t','e','s']) (by kernel_rfl) RL];kernel_rfl
def m6 (a:Value):argsOk "set_iterator.__iter__" ⟨[a],[]⟩:=by
 unfold argsOk;rw[signature?_of (id := "set_iterator.__iter__") (n:=['_','_','r','e','t','i','_','_']) (o:=['r','o','t','a','r','e','t','i','_','t','e','s']) (by kernel_rfl) RL];kernel_rfl
def JR:entryFor table "set_iterator.__next__" = some Builtin.«set_iterator.__next__»:=entryFor_of_tree (by kernel_rfl)
def fW:entryFor table "set_iterator.__iter__" = some Builtin.«dict_keyiterator.__iter__» :=
 entryFor_alias (id' := "dict_keyiterator.__iter__") (by kernel_rfl) (by first|rfl|decide+kernel|(unfold String.splitOn;simp +decide [String.splitOnAux])) (by decide+kernel) (by kernel_rfl)
def lL:entryFor table "set.__iter__" = some Builtin.«frozenset.__iter__» :=
 entryFor_alias (id' := "frozenset.__iter__") (by kernel_rfl) rfl (by decide+kernel) (by kernel_rfl)
noncomputable def Bv (f:Value) (i:Nat) (a:Addr) (n ep:Nat):Obj:={ cls:=.type "set_iterator", data:=.fields #[f,rawInt i,.ref a,rawInt n,rawInt ep] }
theorem Nh {α:Type}:∀ {l:List α} {i:Nat} (h:i<l.length),(l[i]::l.eraseIdx i).Perm l
 |[],i,h=>by simp at h
 |x::l,0,h=>by simp
 |x::l,i+1,h=>by
  have:=Nh (l:=l) (i:=i) (by simpa using h);rw[List.getElem_cons_succ,List.eraseIdx_cons_succ];exact (List.Perm.swap _ _ _).trans (this.cons x)
def PN {α:Type} {l:List α} (h:i<l.length) (e:n+1=l.length):n=(l.eraseIdx i).length:=by
 rw[List.length_eraseIdx,AB h];omega
theorem RJ {α:Type} (next:Nat->Nat):∀ (fuel k:Nat) (left:List α) (out:Array α),fuel=left.length->(pickOrder.go next fuel k left out).toList.Perm (out.toList++left)
 |0,k,left,out,h=>by
  have:left=[]:=List.length_eq_zero_iff.mp h.symm;subst this;unfold pickOrder.go;simp
 |fuel+1,k,left,out,h=>by
  unfold pickOrder.go;have hl:0<left.length:=by omega
  have hm:next k % left.length<left.length:=Nat.mod_lt _ hl
  rw[AV hm];refine (RJ next fuel (k+1) _ _ (PN hm h)).trans ?_;rw[Array.toList_push,Bm];exact (Nh hm).append_left _
def Pd {α:Type} (next:Nat->Nat) (xs:Array α):(pickOrder next xs).toList.Perm xs.toList:=by
 unfold pickOrder;simpa using RJ next xs.size 0 xs.toList #[] (by simp)
section
variable {s:Yl}
def Ub (h0:n≠0) (h:∀ r d,r<n->Q r { s with drawn:=d }):wpAny (model prog w) A (choose src n) Q E s :=
 λΓ p hΓ=>⟨h0,h _ _ (Nat.mod_lt _ (by omega))⟩
theorem Oj {α:Type}:∀ (n:Nat) (xs:List α) {s:Yl} {Q:List α->Shared->Prop},n=xs.length->(∀ ys d,ys.Perm xs->Q ys { s with drawn:=d })->wpAny (model prog w) A (drawOrder n xs) Q E s
 |0,xs,s,Q,h,q=>by
  have:xs=[]:=List.length_eq_zero_iff.mp h.symm;subst this;have e:s={ s with drawn:=s.drawn }:=by cases s;rfl
  rw[e];exact AD (q [] s.drawn (.refl _))
 |n+1,[],s,Q,h,q=>by cases h
 |n+1,x::xs,s,Q,h,q=>by
  unfold drawOrder;refine AA (Ub (by simp) λr d hr=>?_);rw[AV hr];refine AA (Oj n _ (PN hr h) λys d' hp=>AD ?_);exact q _ d' ((hp.cons _).trans (Nh hr))
variable {K:Type} [DecidableEq K] {ks:List K}
def Gb (h:s.heap.get? I=some (Bv f i a n ep)):s.TypeIs (.ref I) "set_iterator" := ⟨_,h,rfl⟩
def N4 (hI:s.heap.get? I=some (Bv f i a n ep)) (h:Q (.ref I) s):wpAny (model prog w) A (pyIter (.ref I)) Q E s:=by
 refine wpAny_pyIter_slot (Gb hI) OZ (Cg OZ (Gb hI) fW ?_ (m6 _));exact AD ⟨_,rfl, "set_iterator", _,Gb hI,EX.lookup,h⟩
structure Nexts (prog:Ym) (w:Yo) (o:Obj) (a:Yt) (ep:Nat) (n:Nat) (at_:Nat->Nat) (ord:Yf):Prop where
 len:ord.length=n
 nx:∀ (A:Yn) (E:Yc) (i:Nat) (s:Yl) (Q:Option (Value × Nat)->Shared->Prop),i<=n->s.heap.get? a=some o->Q ((ord[i]?).map λx=>(x,at_ (i+1))) s->wpAny (model prog w) A (setNext a (at_ i) i ep) Q E s
def lP (N:Nexts prog w o a ep ks.length at_ ord) (hS:SetK knd o es ep t ks) (hI:s.heap.get? I=some (Bv (rawInt (at_ i)) i a ks.length ep)) (ho:s.heap.get? a=some o)
  (hx:ord[i]?=some x) (hQ:∀ h',h'.get? I=some (Bv (rawInt (at_ (i+1))) (i+1) a ks.length ep)->Heap.SameBut I s.heap h'->Q (some x) { s with heap:=h' }):wpAny (model prog w) A (pyNext (.ref I)) Q E s:=by
 have hT:=Gb hI;have hi:i<ks.length:=by have:=(AG.mp hx).1;rw[N.len]at this;exact this
 unfold pyNext;refine AA (wpAny_attempt (Dq (name:=Str.ofString "__next__") hT EX (Cg EX hT JR ?_ (KP _))));unfold Builtin.«set_iterator.__next__» slotArgs;simp only[List.isEmpty_nil,Bool.not_true,Dz,↓reduceIte,List.length_nil,bne_self_eq_false,pure_bind,bind_assoc];refine AA (wpAny_fieldsOf hI rfl ?_);dsimp only[rawInt];refine AA (wpAny_setEntries_of ho hS.data hS.fits ?_);rw[AE (by rw[hS.size];simp)];refine AA (N.nx _ _ i s _ (by omega) ho ?_);rw[hx];dsimp only[Option.map];refine AA (wpAny_setField hI rfl (by simp) ?_);have e1:=Dc (Obj.mapFields λvs=>vs.set! 0 (rawInt (at_ (i+1)))) hI (Obj.isFreed_of_fields (El rfl _));refine AA (wpAny_setField e1 (El rfl _) (by simp) ?_);have e2:=Dc (Obj.mapFields λvs=>vs.set! 1 (rawInt ((i:Int)+1))) e1 (Obj.isFreed_of_fields (El (El rfl _) _));refine AD ⟨x,rfl,AD (hQ _ ?_ ((DR ..).trans (DR ..)))⟩;refine e2.trans ?_;simp[Obj.mapFields,Bv,rawInt]
end
open Sem (wp)
section
variable {K:Type} [DecidableEq K] {knd:KeyKind prog w K}
def Xg (hh:A.handled=none) (N:Nexts prog w o a ep ks.length at_ ord) (hS:SetK knd o es ep t ks) (hI:s.heap.get? I=some (Bv (rawInt (at_ ks.length)) ks.length a ks.length ep)) (ho:s.heap.get? a=some o)
  (hQ:∀ h',Heap.ExtBut I s.heap h'->Q none { s with heap:=h' }):wpAny (model prog w) A (pyNext (.ref I)) Q E s:=by
 have hT:=Gb hI;unfold pyNext;refine AA (wpAny_attempt (Dq (name:=Str.ofString "__next__") hT EX (Cg EX hT JR ?_ (KP _))));unfold Builtin.«set_iterator.__next__» slotArgs;simp only[List.isEmpty_nil,Bool.not_true,Dz,↓reduceIte,List.length_nil,bne_self_eq_false,pure_bind,bind_assoc];refine AA (wpAny_fieldsOf hI rfl ?_);dsimp only[rawInt];refine AA (wpAny_setEntries_of ho hS.data hS.fits ?_);rw[AE (by rw[hS.size];simp)];refine AA (N.nx _ _ ks.length s _ (AF _) ho ?_);rw[Gu (by rw[N.len];exact AF _)];dsimp only[Option.map];refine AA (wpAny_setField hI rfl (by simp) ?_);simp only[newExc,newTuple,bind_assoc,pure_bind];refine AA (Ba (AA (m:=firstArgMember _ _) (wpAny_of_eq (a:=Value.none) (by first|rfl|(simp only[firstArgMember];rfl)) (AA (Ba ?_ (by size_fits))))) (by size_fits));simp only[raiseNew];refine AA (wpAny_handled ?_);rw[show A.in1.handled=none from hh];refine AA (AD (wpAny_throw ?_));refine AA (wpAny_isInstance (T := "StopIteration") (b:=true) ⟨_,Ad _ rfl,rfl⟩ isSubtype_stop (AD ?_));exact hQ _ (((DR ..).extBut.push _).push _)
def gI (hh:A.handled=none) (hne:a≠I) (N:Nexts prog w o a ep ks.length at_ ord) (hS:SetK knd o es ep t ks) :
  Walks prog w A I [I,a] [I] ks.length (λi v=>ord[i]?=some v) (λi h=>h.get? I=some (Bv (rawInt (at_ i)) i a ks.length ep)/\h.get? a=some o) where
 sub:=λb hb=>by simp at hb;simp[hb]
 frame:=λ_ _ _ st hk=>⟨hk I (by simp) _ st.1,hk a (by simp) _ st.2⟩;item:=λi s Q E hi st hQ=>by
  have hx:ord[i]?=some (ord[i]'(by rw[N.len];exact hi)):=AV _;refine lP N hS st.1 st.2 hx λh' hI' hs'=>?_;exact hQ _ h' s.toks hx ⟨hI',hs'.extBut a o hne st.2⟩ λb u hb ee=>hs'.extBut b u (λh=>hb (by simp[h])) ee
 done:=λs Q E st hQ=>Xg hh N hS st.1 st.2 λh' he'=>hQ h' s.toks λb u hb ee=>he' b u (λh=>hb (by simp[h])) ee;self:=λ_ _ _ _ st hQ=>N4 st.1 hQ
def bZ {pl:Yj} (hS:SetK knd o es ep t ks) (hl:pl.length=ks.length) (hI:s.heap.get? I=some (Bv (.ref T) i a ks.length ep)) (ho:s.heap.get? a=some o)
  (hT:IsTup s.heap T (pl.map λ(k:Nat)=>rawInt k).toArray)
  (hx:(pl[i]?).bind (λk=>(es[k]?).map (·.2))=some x) (hQ:∀ h',h'.get? I=some (Bv (.ref T) (i+1) a ks.length ep)->Heap.SameBut I s.heap h'->Q (some x) { s with heap:=h' }):wpAny (model prog w) A (pyNext (.ref I)) Q E s:=by
 have hTy:=Gb hI;obtain ⟨oT,hoT,hcT,nT,hdT⟩:=id hT;cases hp:pl[i]? with
 |none=>rw[hp]at hx;cases hx
 |some k=>
  rw[hp]at hx;cases he:es[k]? with
  |none=>simp only[Option.bind_some]at hx;rw[he]at hx;cases hx
  |some e=>
   simp only[Option.bind_some]at hx;rw[he]at hx;cases hx;unfold pyNext;refine AA (wpAny_attempt (Dq (name:=Str.ofString "__next__") hTy EX (Cg EX hTy JR ?_ (KP _))));unfold Builtin.«set_iterator.__next__» slotArgs;simp only[List.isEmpty_nil,Bool.not_true,Dz,↓reduceIte,List.length_nil,bne_self_eq_false,pure_bind,bind_assoc];refine AA (wpAny_fieldsOf hI rfl ?_);dsimp only[rawInt];refine AA (wpAny_setEntries_of ho hS.data hS.fits ?_);rw[AE (by rw[hS.size];simp)];refine AA (DW hoT hdT ?_);dsimp only;have e5:(List.map (λ(k:Nat)=>rawInt k) pl).toArray[(i:Int).toNat]?=some (rawInt k):=by simp[hp]
   rw[e5];dsimp only[rawInt];unfold setNextDrawn;simp only[bind_assoc];refine AA (wpAny_setState_of ho hS.data hS.fits ?_);rw[AE (by simp)];have e6:es[(k:Int).toNat]?=some e:=by simpa using he
   rw[e6];obtain ⟨e1,e2⟩:=e;simp only[pure_bind];refine AA (wpAny_setField hI rfl (by simp) ?_);refine AD ⟨e2,rfl,AD (hQ _ ?_ (DR ..))⟩;refine (Dc _ hI (Obj.isFreed_of_fields (El rfl _))).trans ?_;simp[Obj.mapFields,Bv,rawInt]
def eQ {pl:Yj} (hh:A.handled=none) (hS:SetK knd o es ep t ks) (hl:pl.length=ks.length) (hI:s.heap.get? I=some (Bv (.ref T) ks.length a ks.length ep)) (ho:s.heap.get? a=some o)
  (hT:IsTup s.heap T (pl.map λ(k:Nat)=>rawInt k).toArray) (hQ:∀ h',Heap.ExtBut I s.heap h'->Q none { s with heap:=h' }):wpAny (model prog w) A (pyNext (.ref I)) Q E s:=by
 have hTy:=Gb hI;obtain ⟨oT,hoT,hcT,nT,hdT⟩:=id hT;unfold pyNext;refine AA (wpAny_attempt (Dq (name:=Str.ofString "__next__") hTy EX (Cg EX hTy JR ?_ (KP _))));unfold Builtin.«set_iterator.__next__» slotArgs;simp only[List.isEmpty_nil,Bool.not_true,Dz,↓reduceIte,List.length_nil,bne_self_eq_false,pure_bind,bind_assoc];refine AA (wpAny_fieldsOf hI rfl ?_);dsimp only[rawInt];refine AA (wpAny_setEntries_of ho hS.data hS.fits ?_);rw[AE (by rw[hS.size];simp)];refine AA (DW hoT hdT ?_);dsimp only;have e5:(List.map (λ(k:Nat)=>rawInt k) pl).toArray[(ks.length:Int).toNat]?=none:=by simp[hl]
 rw[e5];dsimp only[rawInt];refine AA (wpAny_setField hI rfl (by simp) ?_);have e1:=Dc (Obj.mapFields λvs=>vs.set! 0 (rawInt 0)) hI (Obj.isFreed_of_fields (El rfl _));refine AA (wpAny_setField e1 (El rfl _) (by simp) ?_);simp only[newExc,newTuple,bind_assoc,pure_bind];refine AA (Ba (AA (m:=firstArgMember _ _) (wpAny_of_eq (a:=Value.none) (by first|rfl|(simp only[firstArgMember];rfl)) (AA (Ba ?_ (by size_fits))))) (by size_fits));simp only[raiseNew];refine AA (wpAny_handled ?_);rw[show A.in1.handled=none from hh];refine AA (AD (wpAny_throw ?_));refine AA (wpAny_isInstance (T := "StopIteration") (b:=true) ⟨_,Ad _ rfl,rfl⟩ isSubtype_stop (AD ?_));exact hQ _ ((((DR ..).trans (DR ..)).extBut.push _).push _)
def mF {pl:Yj} (hh:A.handled=none) (hne:a≠I) (hneT:T≠I) (hS:SetK knd o es ep t ks) (hl:pl.length=ks.length) (hb:∀ k∈pl,k<es.size) :
  Walks prog w A I [I,a,T] [I] ks.length (λi v=>(pl[i]?).bind (λk=>(es[k]?).map (·.2))=some v) (λi h=>h.get? I=some (Bv (.ref T) i a ks.length ep)/\h.get? a=some o/\IsTup h T (pl.map λ(k:Nat)=>rawInt k).toArray) where
 sub:=λb hb=>by simp at hb;simp[hb]
 frame:=λ_ _ _ st hk=>⟨hk I (by simp) _ st.1,hk a (by simp) _ st.2.1,let ⟨oT,ho,r⟩:=st.2.2;⟨oT,hk T (by simp) oT ho,r⟩⟩;item:=λi s Q E hi st hQ=>by
  have hi':i<pl.length:=by rw[hl];exact hi
  have hk:pl[i]<es.size:=hb _ (Bl hi');have hx:(pl[i]?).bind (λk=>(es[k]?).map (·.2))=some (es[pl[i]].2):=by
   rw[AV hi'];simp[hk]
  refine bZ hS hl st.1 st.2.1 st.2.2 hx λh' hI' hs'=>?_;exact hQ _ h' s.toks hx ⟨hI',hs'.extBut a o hne st.2.1,st.2.2.extBut hs'.extBut hneT⟩ λb u hb ee=>hs'.extBut b u (λh=>hb (by simp[h])) ee
 done:=λs Q E st hQ=>eQ hh hS hl st.1 st.2.1 st.2.2 λh' he'=>hQ h' s.toks λb u hb ee=>he' b u (λh=>hb (by simp[h])) ee;self:=λ_ _ _ _ st hQ=>N4 st.1 hQ
end
open Sem (wp)
def Zv {prog:Ym} {w:Yo} {A:Yn} {I:Yt} {fp wr:Yg} {n:Nat} {P P':Nat->Value->Prop} {St:Nat->Heap->Prop} (W:Walks prog w A I fp wr n P St) (h:∀ i v,P i v->P' i v):Walks prog w A I fp wr n P' St where
 sub:=W.sub;frame:=W.frame;item:=λi s Q E hi st hQ=>W.item i s Q E hi st λv h' tk hP=>hQ v h' tk (h i v hP);done:=W.done;self:=W.self
section
variable {K:Type} [DecidableEq K] {knd:KeyKind prog w K}
def JM (h:Q (w.params.followText "set-order") s):wpAny (model prog w) A setsByText Q E s:=by
 unfold setsByText;exact AA (wpAny_askSetting (AD h))
def lS (hS:SetK knd o es ep t ks) (hT:w.params.followText "set-order" = true):Nexts prog w o a ep ks.length (λ_=>0) ((pickOrder (w.params.setOrder a ep) es).toList.map (·.2)) where
 len:=by rw[AH,(Pd _ es).length_eq,Ct,hS.size]
 nx:=λA E i s Q hi ho hQ=>by
  unfold setNext;refine AA (wpAny_setState_of ho hS.data hS.fits ?_);refine AA (JM ?_);rw[hT,AB rfl,AE (by simp)];refine AA ?_;unfold setWalk;refine AA (wpAny_setState_of ho hS.data hS.fits ?_);refine AA (JM ?_);rw[hT,AB rfl];refine AA (wpAny_askSetting (AD ?_));refine AD ?_;have e:(Option.map (λ(e:Int × Value)=>(e.2,0)) (pickOrder (w.params.setOrder a ep) es)[i]?)=Option.map (λx=>(x,0)) ((pickOrder (w.params.setOrder a ep) es).toList.map (·.2))[i]?:=by
   rw[Bn,Gf];cases (pickOrder (w.params.setOrder a ep) es)[i]? <;> rfl
  show Q (Option.map (λ(e:Int × Value)=>(e.2,0)) (pickOrder (w.params.setOrder a ep) es)[i]?) s;rw[e];exact hQ
noncomputable def LF (t:SetTable):Nat->Nat
 |0=>0
 |i+1=>t.place.getD i 0+1
def lM (h:Up t.place) (hi:i<=t.place.size):SetTable.below t.place (LF t i)=i:=by
 cases i with
 |zero=>exact m3 h
 |succ i=>
  show SetTable.below t.place (t.place.getD i 0+1)=i+1;have hl:i<t.place.size:=by omega
  have e:t.place.getD i 0=t.place[i]:=by simp[Array.getD,hl]
  rw[e];exact aC h hl
def Xz (hS:SetK knd o es ep t ks):t.place.size=es.size:=by
 have:=hS.fits;simp only[SetTable.fits,BR,beq_iff_eq]at this;exact this.1
def bQ (hS:SetK knd o es ep t ks) (hT:w.params.followText "set-order" = false) (hd:(!t.plain&&decide (es.size>1))=false):Nexts prog w o a ep ks.length (LF t) (es.toList.map (·.2)) where
 len:=by rw[AH,Ct,hS.size]
 nx:=λA E i s Q hi ho hQ=>by
  have hz:=Xz hS;unfold setNext;refine AA (wpAny_setState_of ho hS.data hS.fits ?_);refine AA (JM ?_);rw[hT,AE (by decide)];show wpAny _ _ (if (!t.plain&&decide (es.size>1))=true then _ else _) _ _ _;rw[AE (by rw[hd];decide)];have hl:t.led=true:=by rw[hS.tab.led,hT];rfl
  refine AA ?_;show wpAny _ _ (if (!t.led && !es.isEmpty)=true then unsupported "set:maker-not-led" else pure ()) _ _ _;rw[AE (by rw[hl];simp)];refine AD ?_;rw[lM hS.tab.up (by rw[hz,hS.size];exact hi)];refine AD ?_;rw[Bn,Gf]at hQ;by_cases q:i<es.size
  .have q2:i<t.place.size:=by rw[hz];exact q
   rw[EL q,EL q2];rw[EL q]at hQ;have e:LF t (i+1)=t.place[i]+1:=by
    show t.place.getD i 0+1=_;simp[Array.getD,q2]
   simp only[Option.map]at hQ;rw[e]at hQ;exact hQ
  .have:i=es.size:=by rw[hS.size]at q ⊢;omega
   rw[Array.getElem?_eq_none (by omega)]at hQ ⊢;exact hQ
def Ue (ho:s.heap.get? a=some o) (hS:SetK knd o es ep t ks)
  (h:∀ (h':Heap) (d:Drawn) (I:Yt) (fp:Yg) (ord:Yf) (St:Nat->Heap->Prop),(∀ b u,s.heap.get? b=some u->h'.get? b=some u)->s.heap.objs.size<=I->(∀ b∈fp,b<h'.objs.size/\(b=a\/s.heap.objs.size<=b)) ->
   (∀ A:Around,A.handled=none->Walks prog w A I fp [I] ks.length (λi v=>ord[i]?=some v) St)->St 0 h'->ord.Perm (es.toList.map (·.2))->Q (.ref I) { s with heap:=h',drawn:=d }) :
  wpAny (model prog w) A (pyIter (.ref a)) Q E s:=by
 have hT:=hS.typeIs ho;have hal:a<s.heap.objs.size:=AI ho;refine wpAny_pyIter_slot hT F.slot_set_iter (Cg F.slot_set_iter hT lL ?_ (F.args_set_iter_1 _));unfold Builtin.«frozenset.__iter__» Builtin.Frozenset.slot0 slotArgs Builtin.Frozenset.addrOf Builtin.Frozenset.sizeOf;simp only[List.isEmpty_nil,Bool.not_true,Dz,↓reduceIte,List.length_nil,bne_self_eq_false,pure_bind,bind_assoc];refine AA (wpAny_setEntries_of ho hS.data hS.fits ?_);unfold setDrawn;simp only[bind_assoc];refine AA (wpAny_setState_of ho hS.data hS.fits ?_);refine AA (JM ?_);simp only[pure_bind];have hsz:=hS.size;have plain:∀ (at_:Nat->Nat) (ord:Yf),at_ 0=0->Nexts prog w o a ep ks.length at_ ord->ord.Perm (es.toList.map (·.2))->Q (.ref s.heap.objs.size) { s with heap:=s.heap.push (Bv (rawInt 0) 0 a ks.length ep) }:=by
  intro at_ ord h0 N hp;have e:s.heap.push (Bv (rawInt 0) 0 a ks.length ep)=s.heap.push (Bv (rawInt 0) 0 a ks.length ep):=rfl
  have:=h (s.heap.push (Bv (rawInt 0) 0 a ks.length ep)) s.drawn s.heap.objs.size [s.heap.objs.size,a] ord (λi h=>h.get? s.heap.objs.size=some (Bv (rawInt (at_ i)) i a ks.length ep)/\h.get? a=some o)
   (λb u e=>AN _ e) (AF _) (λb hb=>by
    rw[Bu];rcases AK.mp hb with z|z
    .rw[z];exact ⟨DK _,.inr (AF _)⟩
    .rw[Bd.mp z];exact ⟨CY hal,.inl rfl⟩)
   (λA hh=>gI hh (AY hal) N hS) ⟨by rw[h0];exact Ad _ rfl,AN _ ho⟩ hp
  exact this
 have mk:∀ (s1:Yl) (f:Yu) (hv:s1.heap.get? a=some o) {Q':Fin->Shared->Prop},Q' (.done (.ret (.ref s1.heap.objs.size))) { s1 with heap:=s1.heap.push (Bv f 0 a ks.length ep) }->wpAny (model prog w) A.in1 (do
   let e <- setEpoch a;let r <- newFields "set_iterator" [f,rawInt 0,Value.ref a,rawInt es.size,rawInt e];ret r) Q' E s1:=by
  intro s1 f hv Q' hq;refine AA (wpAny_setEpoch_of hv hS.data hS.fits ?_);unfold newFields;refine AA (Ba (AD ?_));rw[hsz];exact hq
 have ty:∀ (s1:Shared) (f:Value),(∃ T' r,Shared.TypeIs { s1 with heap:=s1.heap.push (Bv f 0 a ks.length ep) } (.ref s1.heap.objs.size) T'/\typeLookup (Value.type T') (Str.ofString "__next__")=pure (some r)/\True):=λs1 f=>⟨"set_iterator", _,⟨_,Ad _ rfl,rfl⟩,EX.lookup,trivial⟩;show wpAny _ _ (if (!w.params.followText "set-order" && (!t.plain&&decide (es.size>1)))=true then _ else _) _ _ _;by_cases hc:(!w.params.followText "set-order" && (!t.plain&&decide (es.size>1)))=true
 .rw[AB hc];refine AA (Oj _ _ (by simp) λpl d hp=>?_);refine AA ?_;unfold newTuple;have hpl:pl.length=ks.length:=by rw[hp.length_eq,Ey,hsz]
  refine Ba ?_ (by
   show (List.map (λ(i:Nat)=>rawInt i) pl).toArray.size<=sizeLine;rw[AQ,AH,hpl,<-hsz];exact fits_of_scanBound hS.bound)
  generalize hH:s.heap.push { cls:=.type "tuple", data:=.seq (List.map (λ(i:Nat)=>rawInt i) pl).toArray }=H;have kH:∀ b u,s.heap.get? b=some u->H.get? b=some u:=λb u e=>by rw[<-hH];exact AN _ e
  have hT1:IsTup H s.heap.objs.size (pl.map λ(k:Nat)=>rawInt k).toArray:=⟨_,by rw[<-hH];exact Ad _ rfl,rfl,0,rfl⟩;have szH:H.objs.size=s.heap.objs.size+1:=by rw[<-hH];exact Bu ..
  have szlt:s.heap.objs.size<H.objs.size:=by rw[szH];exact DK _
  have alt:a<H.objs.size:=Nat.lt_trans hal szlt;refine mk { s with heap:=H,drawn:=d } (.ref s.heap.objs.size) (kH _ _ ho) ?_;obtain ⟨T',r,e1,e2,_⟩:=ty { s with heap:=H,drawn:=d } (.ref s.heap.objs.size);refine ⟨_,rfl,T',r,e1,e2,?_⟩;have kH2:∀ b u,s.heap.get? b=some u->(H.push (Bv (.ref s.heap.objs.size) 0 a ks.length ep)).get? b=some u:=λb u e=>AN _ (kH b u e);refine h _ d H.objs.size [H.objs.size,a,s.heap.objs.size] (pl.map λk=>((es[k]?).map (·.2)).getD .none) (λi h=>h.get? H.objs.size=some (Bv (.ref s.heap.objs.size) i a ks.length ep)/\h.get? a=some o/\IsTup h s.heap.objs.size (pl.map λ(k:Nat)=>rawInt k).toArray) kH2 (by rw[szH];exact DQ _) (λb hb=>?_) (λA hh=>?_) ⟨Ad _ rfl,kH2 a o ho,?_⟩ ?_
  .rw[Bu];simp only[AK,BO,BY]at hb;rcases hb with z|z|z
   .rw[z];exact ⟨DK _,.inr (Nat.le_of_lt szlt)⟩
   .rw[z];exact ⟨CY alt,.inl rfl⟩
   .rw[z];exact ⟨CY szlt,.inr (AF _)⟩
  .have hb:∀ k∈pl,k<es.size:=λk hk=>by have:=hp.mem_iff.mp hk;simpa using this
   refine Zv (mF hh (a:=a) (I:=H.objs.size) (T:=s.heap.objs.size) (AY alt) (AY szlt) hS hpl hb) λi v hv=>?_;rw[Bn];cases q:pl[i]? with
   |none=>rw[q]at hv;cases hv
   |some k=>
    rw[q]at hv;simp only[Option.bind_some]at hv;rw[Option.map_some,hv];rfl
  .exact hT1.push _
  .have e:es.toList.map (·.2)=(List.range es.size).map λk=>((es[k]?).map (·.2)).getD .none:=by
    apply List.ext_getElem?;intro i;rw[Bn,Bn,Gf];by_cases q:i<es.size
    .rw[List.getElem?_range q,EL q];simp[q]
    .rw[Array.getElem?_eq_none (by omega),Gu (by simp;omega)];rfl
   rw[e];exact hp.map _
 .rw[AE hc];refine mk s (rawInt 0) ho ?_;obtain ⟨T',r,e1,e2,_⟩:=ty s (rawInt 0);refine ⟨_,rfl,T',r,e1,e2,?_⟩;cases hX:w.params.followText "set-order" with
  |true=>exact plain _ _ rfl (lS hS hX) ((Pd _ es).map _)
  |false=>
   rw[hX]at hc;exact plain _ _ rfl (bQ hS hX (by simpa using hc)) (.refl _)
end
open Sem (wp)
section
variable {K:Type} [DecidableEq K] {knd:KeyKind prog w K}
def YE:isSubtype (.type "set") (.type "set")=pure true:=sub_set_self
def lB (hT:s.TypeIs (.ref a) "set") (h:Q false s):wpAny (model prog w) A (Builtin.List.listLengthHint (.ref a)) Q E s:=by
 unfold Builtin.List.listLengthHint;refine AA (wpAny_specialOf hT F.slot_set_len.lookup ?_);have hsp:splitId "set.__len__" = some ("set", "__len__"):=by decide+kernel
 dsimp only;rw[hsp];refine AA (wpAny_isInstance hT YE ?_);rw[AE (by decide),AB (by decide+kernel)];refine AA (wpAny_typeOf hT ?_);exact AD h
def Wx (hh:A.handled=none) (ho:s.heap.get? a=some o) (hS:SetK knd o es ep t ks)
  (hQ:∀ (s':Yl) (acc:Yf),(∀ b u,s.heap.get? b=some u->s'.heap.get? b=some u)->s'.os=s.os->s'.gens=s.gens->acc.Perm (es.toList.map (·.2))->Q acc s'):wpAny (model prog w) A (collect (.ref a)) Q E s:=by
 have hal:a<s.heap.objs.size:=AI ho;have hn:ks.length<=sizeLine:=by rw[<-hS.size];exact fits_of_scanBound hS.bound
 unfold collect;refine AA (wpAny_runValue (DS F.entry_proto_collect ?_));rw[EY F.plain_proto_collect _];refine AA (Ba (AD ⟨plainId_quiet F.plain_list_iadd _,DS F.entry_list_iadd ?_⟩));rw[EY F.plain_list_iadd _];generalize hH:s.heap.push { cls:=.type "list", data:=.seq ([]:List Value).toArray }=H;have kH:∀ b u,s.heap.get? b=some u->H.get? b=some u:=λb u e=>by rw[<-hH];exact AN _ e
 have szH:H.objs.size=s.heap.objs.size+1:=by rw[<-hH];exact Bu ..
 have hL1:H.get? s.heap.objs.size=some { cls:=.type "list", data:=.seq ([]:List Value).toArray }:=by rw[<-hH];exact Ad _ rfl
 have ho1:=kH a o ho;show wpAny _ A.in1 (Builtin.List.listExtendWith (.ref s.heap.objs.size) (.ref a) (.ref s.heap.objs.size)) _ _ { s with heap:=H };unfold Builtin.List.listExtendWith;have hT1:Shared.TypeIs { s with heap:=H } (.ref a) "set" := ⟨o,ho1,hS.ex.1⟩;refine AA (wpAny_typeOf hT1 ?_);have hneL:s.heap.objs.size≠a:=Dd hal;have h1:Builtin.List.listSameRef (.ref s.heap.objs.size) (.ref a)=false:=by simp[Builtin.List.listSameRef,hneL]
 have h2:(Value.type "set" == Value.type "list")=false:=by decide
 have h3:(Value.type "set" == Value.type "tuple")=false:=by decide
 simp only[h1,h2,h3,Bool.or_false,Dz,if_false];refine AA (Ue (s:={ s with heap:=H }) ho1 hS λh2 d I fp ord St k2 hI2 hfp W st0 hp=>?_);have ho2:=k2 a o ho1;refine AA (CF (lB (s:={ s with heap:=h2,drawn:=d }) ⟨o,ho2,hS.ex.1⟩ ?_));rw[AB (by decide+kernel)];refine AA (Cm (AA ?_));have hL2:=k2 _ _ hL1;refine AA (wpAny_updateSeq (s:={ s with heap:=h2,drawn:=d }) hL2 rfl ?_);have hS2:=Dc (Obj.mapSeq (·.push Value.none)) hL2 rfl;refine wpAny_updateSeq hS2 rfl ?_;have hS3:=Dc (Obj.mapSeq (·.pop)) hS2 rfl;generalize hH3:(h2.update s.heap.objs.size (Obj.mapSeq (·.push Value.none))).update s.heap.objs.size (Obj.mapSeq (·.pop))=H3 at hS3;have oth:∀ b u,b≠s.heap.objs.size->h2.get? b=some u->H3.get? b=some u:=λb u hb e=>by
  rw[<-hH3];exact (Du _ _ (Ne.symm hb)).trans ((Du _ _ (Ne.symm hb)).trans e)
 have hSf:s.heap.objs.size∉fp:=λhm=>by
  rcases (hfp _ hm).2 with z|z
  .exact hneL z
  .have z':H.objs.size<=s.heap.objs.size:=z;rw[szH]at z';exact absurd z' (Nat.not_succ_le_self _)
 have WS:=(W A.in1.in1 hh).toS;have st3:St 0 H3:=(W A.in1.in1 hh).frame 0 _ _ st0 λb hb u e=>oth b u (λz=>hSf (z▸hb)) e;have hI3:I≠s.heap.objs.size:=λz=>by
  have z':H.objs.size<=I:=hI2;rw[szH,z]at z';exact absurd z' (Nat.not_succ_le_self _)
 refine AD ⟨plainId_quiet F.plain_extend_loop _,codeAny_extend_loopS (A:=A) (WalksS.of_in1 WS) hn _ hSf _ ks.length 0 { s with heap:=H3,drawn:=d } _ _ rfl (BD _) st3 hS3 (ItemsOf.nil _) λs' acc' c' hm hS' hacc=>?_⟩;refine AA (wpAny_load hS' (AD (hQ s' _ (λb u e=>hm.heap b u (λq=>?_) (oth b u (λz=>BZ _ (z▸AI e)) (k2 b u (kH b u e)))) hm.os hm.gens ?_)))
 .rcases AK.mp q with z|z
  .exact BZ _ (z▸AI e)
  .have z':H.objs.size<=I:=hI2;rw[<-Bd.mp z,szH]at z';exact BZ _ (Nat.lt_trans (As (DK _) z') (AI e))
 .have e:acc'.toList=ord:=by
   have hl:ord.length=ks.length:=by rw[hp.length_eq,AH,Ct,hS.size]
   apply List.ext_getElem?;intro i;rw[Gf];by_cases q:i<ks.length
   .have q':i<acc'.size:=by rw[hacc.1];exact q
    rw[EL q'];exact (hacc.2 i _ (EL q')).symm
   .rw[Array.getElem?_eq_none (by rw[hacc.1];omega),Gu (by omega)]
  rw[e];exact hp
end
end ST
section
open PySem PySem.Spec PyProof.Rows
namespace L2
open ST
def Tj {elt target iter ifs rest scope pos it acc env}
  (h0:codeAny (model prog w) A (.compLoop (.SetComp elt (⟨target,iter,ifs,0⟩::rest) scope pos) 0 it acc env) R s)
  (h:wpAny (model prog w) A (pyIter it) (λit' s'=>codeAny (model prog w) A (.compLoop (.SetComp elt (⟨target,iter,ifs,0⟩::rest) scope pos) 0 it' acc env) R s')
   (notedBy (model prog w) A env λx s'=>R (.error x) s') s) :
  codeAny (model prog w) A (.compStart (.SetComp elt (⟨target,iter,ifs,0⟩::rest) scope pos) 0 it acc env) R s:=by
 refine codeAny_of_tree ?_;show wpAny _ _ ((compStart (.SetComp elt (⟨target,iter,ifs,0⟩::rest) scope pos) 0 it acc env).onRaise (λx=>do noteFrame x env;standAt theWindowsPlace)) _ _ s;refine wpAny_notedAt ?_;unfold compStart;refine AA (wpAny_askSetting (wpAny_ite ?_));split
 .first
   |exact AA (AD (AD (And.intro rfl h0)))
   |exact AD (And.intro rfl h0)
 .first
   |exact AA (Cm (AA (CU (AA (AS h (λit' s' h'=>AD (And.intro rfl h')) λ_ _ x=>x)))))
   | (refine AA (Cm ?_);show wpAny _ _ (standAt iter.pos >>= _) _ _ s;exact AA (CU (AA (AS h (λit' s' h'=>AD (And.intro rfl h')) λ_ _ x=>x))))
section
variable {pos:Pos}
 {own:Yj} {g:TG} {tc:TT} {te:TE} {E:Yc}
def Vh (h:SetK (intKind prog w) o es ep t ks):∀ v,o.data≠.cell v:=λv z=>by rw[h.data]at z;cases z
def lX (C:CompIn X scope own) (hcalm:X.calm=true) (I:Inv X zB Y H s) (T:Turn X.prog X.w X.K tg J fp it tn) (st:tn 0 s.heap) (hf:∀ b∈fp,BX X zB H b)
  (c1:∀ x c,cl.lookup x=some c->X.env.cells.lookup x=some c) (c2:∀ y∈scope.names,y.2=.free->(cl.lookup y.1).isSome=true)
  (hg:PG (zQ X zB scope cl s H fp) tg g) (hi:Ds (zQ X zB scope cl s H fp) ifs tc) (he:PE (zQ X zB scope cl s H fp) elt te)
  {RR:Value->Addr->Result->Shared->Prop} {QQ:List Int->Hp->Prop} {W:Nat->Nat->List Int->Hp->Prop} {m0:Nat} (w0:W 0 m0 [] H)
  (turn:∀ i m ys H,W i m ys H->(J.stop i H/\QQ ys H) \/
   (J.go i H /\ ∀ x H',J.yld i H x H'->g x (clr own Y) H' λσ2 H2=>Ext (clr own Y) σ2/\tc σ2 H2 λb H3=>
    if b=true then te σ2 H3 λv H4=>∃ k,v=.int k/\ys.length+1<scanBound /\ ∃ m',m'<m/\W (i+1) m' (ins ys k) H4 else ∃ m',m'<m/\W (i+1) m' ys H3))
  (fin:∀ σc H' s' o es ep t ys,Inv (zQ X zB scope cl s H fp) [(s.heap.objs.size,o)] σc H' s'->SetK (intKind X.prog X.w) o es ep t ys->QQ ys H'->RR (.ref s.heap.objs.size) (s.heap.objs.size+1) (.ok .next) s') :
  wpAny (model X.prog X.w) X.A (newSet (.type "set")) (λacc s₃=>wpAny (model X.prog X.w) X.A (newFunctionEnv scope X.env.globals cl [] X.env.qual none .none (some X.env)) (λcenv s₄=>
   codeAny (model X.prog X.w) X.A (.compStart (.SetComp elt [⟨tg,iter,ifs,0⟩] scope pos) 0 (.ref it) acc { cenv with scope:=relabel scope X.env }) (RR acc cenv.locals) s₄) E s₃) E s:=by
 have ob:∀ b:Nat,b∈fp->b<s.heap.objs.size:=λb hb=>let ⟨_,e,_⟩:=T.obj 0 _ st b hb;AI e;refine d7 (JO ?_);have sz1:(s.heap.push (zk X.w)).objs.size=s.heap.objs.size+1:=Bu ..;have I4:=Jt (X:=X) (zB:=zB) (Y:=Y) (σc:=clr own Y) (H:=H) (s:=s) (scope:=scope) (cl:=cl) (fp:=fp) C.sc I hf ob c1 c2 (GK own Y) (λi x v h1 h2 h3=>by
  obtain ⟨a,b⟩:=FQ own Y i v h2;rcases C.nm i x h1 with z|z|z
  .exact absurd z b
  .exact absurd (KD x z) h3
  .exact ⟨z,a⟩) (zk X.w) (by intro v z;cases z) rfl rfl
 have st4:tn 0 (pushCells ((s.heap.push (zk X.w)).push { cls:=.type "dict", data:=.dict #[] }) scope.names):=T.keep 0 _ _ st λb _ o e=>pushCells_keeps _ _ b o (AN _ (AN _ e));unfold newEnv;rw[sz1];have hDfp:s.heap.objs.size∉fp:=λz=>BZ _ (ob _ z);have hcD:∀ x c,(zQ X zB scope cl s H fp).env.cells.lookup x=some c->c≠s.heap.objs.size:=λx c e z=>by
  obtain ⟨v,o,ho,hd⟩:=I4.cell x c e;obtain ⟨q,_⟩:=I4.pin (s.heap.objs.size,zk X.w) (by simp);rw[z,q]at ho;cases ho;cases hd
 have fpk:∀ {H':Hp} {pl:Yd},(∀ b∈fp,H' b=none)->(∀ p∈pl,p.1=s.heap.objs.size) -> ∀ b∈fp,BX (zQ X zB scope cl s H fp) pl H' b:=λ{H' pl} hn hp b hb=>
  ⟨hn b hb,(I4.ok.exf b hb).1,I4.ok.exfs b hb,.inl hb,(I4.ok.exf b hb).2,λp hq=>by
   rcases Ak.mp hq with z|z
   .exact (hf b hb).2.2.2.2.2 p z
   .intro e;have e2:=hp p z;rw[e]at e2;exact hDfp (e2▸hb)⟩
 have loop:codeAny (model X.prog X.w) X.A (.compLoop (.SetComp elt [⟨tg,iter,ifs,0⟩] scope pos) 0 (.ref it) (.ref s.heap.objs.size) (zQ X zB scope cl s H fp).env) (RR (.ref s.heap.objs.size) (s.heap.objs.size+1))
   { s with heap:=pushCells ((s.heap.push (zk X.w)).push { cls:=.type "dict", data:=.dict #[] }) scope.names }:=by
  refine fP (λn s'=>∃ i H' ys o es ep t,Inv (zQ X zB scope cl s H fp) [(s.heap.objs.size,o)] (clr own Y) H' s'/\SetK (intKind X.prog X.w) o es ep t ys/\tn i s'.heap/\(∀ b∈fp,H' b=none)/\W i n ys H') ?_ m0
   ⟨0,H,[],zk X.w,_,_,_,I4,.fresh,st4,λb hb=>(hf b hb).1,w0⟩
  rintro n s5 ⟨i,H5,ys,o,es,ep,t,I5,r5,st5,f5,w5⟩;have pinD:∀ p∈[(s.heap.objs.size,o)],p.1=s.heap.objs.size:=λp hp=>by
   have:p=(s.heap.objs.size,o):=by simpa using hp
   rw[this]
  rcases turn i n ys H5 w5 with ⟨stop,qq⟩|⟨go,step⟩
  .refine thn (T.done (zQ X zB scope cl s H fp) rfl rfl rfl hcalm i _ s5 _ H5 _ I5 (fpk f5 pinD) st5 stop) λr s6 ⟨hr,I6⟩=>?_;subst hr;exact fin _ H5 s6 o es ep t ys I6 r5 qq
  .refine thn (T.item (zQ X zB scope cl s H fp) rfl rfl rfl hcalm i _ s5 _ H5 _ I5 (fpk f5 pinD) st5 go) λr s6 ⟨u,hr,h6⟩=>?_;subst hr;refine thn h6 λ_ s7 ⟨x,H7,I7,r7,y7,st7,f7⟩=>?_;have I7':=I7.pinned (fpk f7 pinD) (T.obj _ _ st7);refine thn (hg _ s7 _ H7 x u _ I7' r7 (step x H7 y7)) λ_ s8 ⟨σ8,H8,I8,x8,q8⟩=>?_;refine thn (hi _ s8 σ8 H8 _ I8 q8) λok s9 ⟨H9,I9,q9⟩=>?_;have back:∀ {s':Yl} {Hx:Hp},Inv (zQ X zB scope cl s H fp) ([(s.heap.objs.size,o)]++EF fp s7.heap) σ8 Hx s'->tn (i+1) s'.heap /\ ∀ b∈fp,Hx b=none:=λ{s' Hx} Ix=>
    ⟨T.keep _ _ _ st7 λb hb o e=>(Ix.pin (b,o) (Ap _ (Ap _ (Dl hb e)))).1,λb hb=>by
     obtain ⟨o,e,d⟩:=T.obj _ _ st7 b hb;exact (Ix.pin (b,o) (Ap _ (Ap _ (Dl hb e)))).2.1⟩
   cases ok with
   |false=>
    obtain ⟨m',hm,w'⟩:=q9;obtain ⟨b1,b2⟩:=back I9;exact ⟨m',hm,i+1,H9,ys,o,es,ep,t,(I9.weak (by rw[x8.1]) x8.2).unpinned,r5,b1,b2,w'⟩
   |true=>
    refine thn (he _ s9 σ8 H9 _ I9 q9) λv s10 ⟨y,H10,I10,r10,k,hk,hlt,m',hm,w'⟩=>?_;subst hk;obtain ⟨b1,b2⟩:=back I10;have J10:=(I10.weak (by rw[x8.1]) x8.2).unpinned;obtain ⟨e10,n10,ne10,nf10,d10⟩:=J10.pin (s.heap.objs.size,o) (by simp);obtain ⟨tk,hv⟩:∃ tk,v=.int k tk:=r10;subst hv;refine Tx (knd:=intKind X.prog X.w) (intKind_is _ _ _ _) rfl e10 r5 hlt λh' o' es' ep' t' hs' e' S'=>?_;refine ⟨m',hm,i+1,H10,ins ys k,o',es',ep',t',?_,S',T.keep _ _ _ b1 λb hb o e=>hs'.extBut b o (λz=>hDfp (z▸hb)) e,b2,w'⟩;refine (Inv.repin (pl:=[]) J10 (λp hp=>?_) hs' (AF _) hcD e' (Vh S')).tok _;rw[Au]at hp;have hp':p∈X.pn++zB:=hp;exact AY (AI (I.pin p hp').1)
 exact Tj loop (T.self _ 0 _ _ _ st4 loop)
def lZ (I:Inv X zB Y H s) (hf:∀ b∈fp,BX X zB H b)
  (Ic:Inv (zQ X zB scope cl s H fp) [(s.heap.objs.size,oD)] σc H' s') (hs:Heap.SameBut (s.heap.objs.size+1) s'.heap h') :
  Inv X zB Y H' { s' with heap:=h' }/\h'.get? s.heap.objs.size=some oD:=by
 obtain ⟨eD,nD,_⟩:=Ic.pin (s.heap.objs.size,oD) (by simp);have nC:H' (s.heap.objs.size+1)=none:=Ic.free;have eD':h'.get? s.heap.objs.size=some oD:=hs.extBut _ _ (AY (DK _)) eD;have lt1:∀ {b:Yt} {o:Obj},s.heap.get? b=some o->b≠s.heap.objs.size+1:=λe=>AY (CY (AI e));have tr:∀ b u,H' b=some u->b≠s.heap.objs.size+1:=λb u e z=>by rw[z,nC]at e;cases e
 refine ⟨?_,eD'⟩;have B:=Ic.base;have un:Un (frs X.stack) fp H H' s.heap h':=by
  refine ⟨λb o e q hb hx=>hs.extBut b o (lt1 e) (B.keep b o e q hb hx),λb o e q hb hx=>?_,λb o e q hx=>B.free b o e q hx,λb o e hx=>?_,λb xs e=>B.tups b xs e,λb o xs e=>B.frzs b o xs e,λb ps e=>B.tbls b ps e⟩
  .obtain ⟨sl,e1⟩:=B.slot b o e q hb hx;exact ⟨sl,hs.extBut b _ (lt1 e) e1⟩
  .obtain ⟨o',e1⟩:=B.there b o e hx;exact ⟨o',hs.extBut b _ (lt1 e) e1⟩
 have hok:HOk X.prog X.w H' h':=λb u e=>by
  refine (Ic.hok b u e).stay (λc v hc q=>hs.extBut c v ?_ q) (λc q=>q) λc xs q=>q;rcases hc with z|z
  .rw[z];exact tr b u e
  .exact tr c _ z
 exact I.call' (s':={ s' with heap:=h' }) (ch:=fp) Ic.os un hok Ic.bare λb hb=>⟨(hf b hb).2.2.2.1,(hf b hb).2.1,(hf b hb).2.2.2.2.1,(hf b hb).2.2.2.2.2⟩
end
noncomputable abbrev TZ:=St->Hp->(List Int->Hp->Prop)->Prop
def PZ (X:Cx) (e:Expr) (t:TZ):Prop:=∀ (zB:Yd) (s:Yl) (Y:St) (H:Hp) (Q:List Int->Hp->Prop),Inv X zB Y H s->t Y H Q ->
 wpAny (model X.prog X.w) X.A (eval e X.env) (λv s'=>∃ a o es ep tb ks H',v=.ref a/\s'.heap.get? a=some o/\SetK (intKind X.prog X.w) o es ep tb ks/\Inv X zB Y H' s'/\Q ks H') X.xe s
noncomputable def OP (own:Yj) (wi:TI) (g:TG) (tc:TT) (te:TE):TZ:=λY H Q=>wi Y H λJ H1=>∃ W:Nat->Nat->List Int->Hp->Prop,(∃ m,W 0 m [] H1) /\ ∀ i m ys H,W i m ys H ->
 (J.stop i H/\Q ys H) \/
 (J.go i H /\ ∀ x H',J.yld i H x H'->g x (clr own Y) H' λσ2 H2=>Ext (clr own Y) σ2/\tc σ2 H2 λb H3=>
  if b=true then te σ2 H3 λv H4=>∃ k,v=.int k/\ys.length+1<scanBound /\ ∃ m',m'<m/\W (i+1) m' (ins ys k) H4 else ∃ m',m'<m/\W (i+1) m' ys H3)
def US (C:CompIn X scope own) (hcalm:X.calm=true) (hi:PI X tg iter wi) (p:CompParts X scope tg ifs elt g tc te) (hs:∀ x,foldedSetIterable iter X.env x=pure x:=by intro _;rfl) :
  PZ X (.SetComp elt [⟨tg,iter,ifs,0⟩] scope pos) (OP own wi g tc te):=by
 intro zB s Y H Q I h;obtain ⟨cl,hcl,c1,c2⟩:=C.sc.closure I;rw[arm_eval_SetComp];refine Hg (use:=none) rfl hs hcl C.sc.kind C.sc.names (thn (hi zB s Y H _ I h) λv s1 h1=>thn h1 λitv s2 h2=>?_);obtain ⟨it,fp,tn,J,H2,e,I2,T,st2,f2,W,⟨m0,w0⟩,turn⟩:=h2;subst e;refine lX C hcalm I2 T st2 f2 c1 c2 (p.g _ _ _ _ _) (p.c _ _ _ _ _) (p.e _ _ _ _ _) (RR:=λacc C r s'=>compPost (model X.prog X.w) X.A X.xe none (λv s'=>∃ a o es ep tb ks H',v=.ref a/\s'.heap.get? a=some o/\SetK (intKind X.prog X.w) o es ep tb ks/\Inv X zB Y H' s'/\Q ks H') acc C r s') (QQ:=Q) w0 turn ?_;intro σc H' s' o es ep t ys Ic rv qq;obtain ⟨m,hn,_⟩:=Ic.loc;refine ⟨m,hn,λh' hs'=>?_⟩;obtain ⟨J',eD⟩:=lZ I2 f2 Ic hs';exact ⟨_,o,es,ep,t,ys,H',rfl,eD,rv,J',qq⟩
end L2
namespace ST
open PySem.Sem (wp)
section
variable {prog:Ym} {w:Yo} {A:Yn} {E:Yc} {s:Yl}
variable {K:Type} [DecidableEq K] {knd:KeyKind prog w K}
noncomputable def zp (ks:List K):List K:=ks.foldl ins []
def NJ (ks:List K) (k:K):zp (ks++[k])=ins (zp ks) k:=by unfold zp;rw[EE];rfl
def Tp (ks:List K) (k:K):(ins ks k).length<=ks.length+1:=by unfold ins;split <;> simp
def XT (ks:List K) (k:K):ks.length<=(ins ks k).length:=by unfold ins;split <;> simp
def XJ (val:Nat->K) (h:i<=n):(zp ((List.range i).map val)).length<=(zp ((List.range n).map val)).length:=by
  induction n with
  | zero => have : i = 0 := by omega
            subst this;exact AF _
  |succ n ih=>
    by_cases q:i=n+1
    .subst q;exact AF _
    . rw[List.range_succ,Bq,show List.map val [n]=[val n]from rfl,NJ]
      exact AW (ih (by omega)) (XT _ _)
def IE (ks:List K):(zp ks).length<=ks.length:=by
 have:∀ (l acc:List K),(l.foldl ins acc).length<=acc.length+l.length:=by
  intro l;induction l with
  |nil=>intro acc;simp
  |cons x r ih=>intro acc;have:=ih (ins acc x);have:=Tp acc x;simp only[List.foldl_cons,C1];omega
 simpa [zp] using this ks []
def TU (ks:List K) (k x:K):x∈ins ks k ↔ x∈ks\/x=k:=by
 unfold ins;split
 .rename_i h;constructor
  .exact .inl
  .rintro (z|z)
   .exact z
   .rw[z];exact h
 .simp
def Nr (ks:List K) (x:K):x∈zp ks ↔ x∈ks:=by
  have:∀ (l acc:List K),x∈l.foldl ins acc ↔ x∈acc\/x∈l:=by
    intro l;induction l with
    |nil=>intro acc;simp
    |cons y r ih=>intro acc;rw[List.foldl_cons,ih,TU,AK];simp[or_assoc]
  simpa [zp] using this ks []
def oA (h : ks.Nodup) (k : K) : (ins ks k).Nodup := by
  unfold ins;split
  .exact h
  · rename_i q
    rw[DH]
    exact ⟨h, by simp, fun a ha b hb z => by have : b = k := by simpa using hb
                                             subst this;subst z;exact q ha⟩
def Pe (ks:List K):(zp ks).Nodup:=by
 have:∀ (l acc:List K),acc.Nodup->(l.foldl ins acc).Nodup:=by
  intro l;induction l with
  |nil=>intro acc h;exact h
  |cons y r ih=>intro acc h;exact ih _ (oA h y)
 exact this ks [] (by simp)
def Sg (a:Yu) (h:Q₁ (.ref s.heap.objs.size) { s with heap:=s.heap.push (zk w) }) :
  codeAny (model prog w) A (.call (.builtin "set.__new__") ⟨[.type "set", a],[]⟩) (wants Q₁ E) s:=by
 refine codeAny_of_tree ?_;show wpAny _ A.in1 (do checkBuiltinCall "set.__new__" ⟨[.type "set", a],[]⟩;again (.builtin "set.__new__" ⟨[.type "set", a],[]⟩)) _ _ s;refine AA (wpAny_of_eq (F.newCall_set_1 a) (AD ⟨plainId_quiet F.plain_set_new _,DS F.entry_set_new ?_⟩));rw[EY F.plain_set_new _];unfold Builtin.«set.__new__» Builtin.Frozenset.newClass;have hsub:=sub_set_self;obtain ⟨hp,g,d,tk,os⟩:=s;wp_walk;refine wpAny_askSetting (AD ?_);simp only[newObj];refine AA (wpAny_alloc (AD ?_));exact AD h
variable {R:Yx} {I:Yt} {fp wr:Yg} {G:Array GenState->Array GenState->Prop} {n:Nat} {P:Nat->Value->Prop} {St:Nat->Shared->Prop}
def eN (W:WalksS prog w A.in1 I fp wr G n P St) (S:Yt) (hSf:S∉fp) (val:Nat->K) (hval:∀ i v,P i v->knd.is (val i) v=true/\v.scannable=true) (hb:(zp ((List.range n).map val)).length+1<scanBound) :
  ∀ (k i:Nat) (s:Yl) (o:Obj) (es:Yw) (ep:Nat) (t:SetTable),n-i=k->i<=n->St i s->s.heap.get? S=some o->SetK knd o es ep t (zp ((List.range i).map val)) ->
   (∀ s' o' es' ep' t',Moved (S::wr) G s s'->s'.heap.get? S=some o'->SetK knd o' es' ep' t' (zp ((List.range n).map val))->R (.ok (.ret .none)) s') ->
   codeAny (model prog w) A (.builtin "set.update.loop" ⟨[.ref S,.ref I],[]⟩) R s:=by
 have hSw:S∉wr:=λh=>hSf (W.sub _ h);have hsub:∀ b∈wr,b∈S::wr:=λb hb=>Ai _ hb;intro k;induction k with
 |zero=>
  intro i s o es ep t hk hi hst ho hS hR;have hin:i=n:=by omega
  subst hin;refine DS F.entry_set_update_loop ?_;rw[EY F.plain_set_update_loop _];refine AA (W.done s _ _ hst λs' hm=>?_);exact AD (hR s' o es ep t (hm.mono hsub) (hm.heap S _ hSw ho) hS)
 |succ k ih=>
  intro i s o es ep t hk hi hst ho hS hR;have hlt:i<n:=by omega
  refine DS F.entry_set_update_loop ?_;rw[EY F.plain_set_update_loop _];refine AA (W.item i s _ _ hlt hst λv s' hP hst' hm=>?_);obtain ⟨hv1,hv2⟩:=hval i v hP;have ho':=hm.heap S _ hSw ho;refine AA (CF ?_);unfold setAdd;refine CF ?_;refine AA (knd.pyHash (k:=val i) hv1 ?_);have hroom:(zp ((List.range i).map val)).length+1<scanBound:=by have:=XJ val (Nat.le_of_lt hlt);omega
  refine Ry (s:={ s' with toks:=s'.toks+1 }) hv1 hv2 ho' hS hroom λh' o2 es2 ep2 t2 b hsb ho2 hS2=>?_;have hS3:SetK knd o2 es2 ep2 t2 (zp ((List.range (i+1)).map val)):=by
   rw[List.range_succ,Bq];rw[show List.map val [i]=[val i]from rfl,NJ];exact hS2
  refine AD ⟨plainId_quiet F.plain_set_update_loop _,ih (i+1) _ o2 es2 ep2 t2 (by omega) hlt (W.frame _ s' _ _ hst' (DQ _) λb hb o e=>?_) ho2 hS3 λs'' o' es' ep' t' hm'' ho'' hS''=>?_⟩
  .rw[hsb.2 b (λh:b=S=>hSf (by rw[<-h];exact hb))];exact e
  .refine hR s'' o' es' ep' t' (Moved.trans W.gtrans ((hm.mono hsub).then_heap (DQ _) λb o hb e=>?_) hm'') ho'' hS'';rw[hsb.2 b (λh:b=S=>hb (by rw[h];exact Ae))];exact e
end
section
variable {prog:Ym} {w:Yo} {A:Yn} {E:Yc} {s:Yl}
variable {K:Type} [DecidableEq K] {knd:KeyKind prog w K}
def cV:isSubtype (.type "tuple") (.type "set")=pure false:=by rw[isSubtype_type];kernel_rfl
def cZ:isSubtype (.type "tuple") (.type "frozenset")=pure false:=by rw[isSubtype_type];kernel_rfl
def Pn {K:Type} (ks:List K) (d:K):(List.range ks.length).map (λi=>ks.getD i d)=ks:=by
 apply List.ext_getElem?;intro i;rw[Bn];by_cases q:i<ks.length
 .rw[List.getElem?_range q,AV q];simp[q]
 .rw[Gu (l:=List.range ks.length) (by simpa using q),Gu (l:=ks) (Nat.le_of_not_lt q)];rfl
set_option maxHeartbeats 3200000 in
def iW [Inhabited K] (hty:ty = "list" \/ ty = "tuple")
  (hh:A.handled=none) (hl:∃ ol,s.heap.get? l=some ol/\ol.cls=.type ty /\ ∃ nl,ol.data=.seq items nl) (hi:F2 (λv k=>knd.is k v=true/\v.scannable=true) items.toList ks) (hb:(zp ks).length+1<scanBound)
  (h:∀ (h':Heap) (tk:Nat) (o:Obj) (es:Yw) (ep:Nat) (t:SetTable),h'.get? s.heap.objs.size=some o->SetK knd o es ep t (zp ks) ->
   (∀ b o,b<s.heap.objs.size->s.heap.get? b=some o->h'.get? b=some o)->Q (.ref s.heap.objs.size) { s with heap:=h',toks:=tk }) :
  wpAny (model prog w) A (call (.type "set") [.ref l]) Q E s:=by
 obtain ⟨c,tl,hmro⟩:=F.called_set.mro;have hmade:=F.called_set.made;have hsub:=F.called_set.sub;have hlen:items.size=ks.length:=by rw[<-Ct];exact MZ hi
 refine wpAny_call (codeAny_of_tree ?_);refine AD ⟨Code.quiet_builtin _ (by decide+kernel),DS F.entry_type_call ?_⟩;rw[Around.under_plain (weight_type_call_type "set" [.ref l] []) rfl];have h1:=F.called_set.notType;have h2:=F.called_set.canCreate;have hct:=F.typeCall_set_1 (.ref l);repeat (any_goals (first|assumption|wp_step))
 refine codeAny_mono (Sg (.ref l) (E:=E) (Q₁:=λobj s₁=>obj=.ref s.heap.objs.size/\s₁={ s with heap:=s.heap.push (zk w) }) ⟨rfl,rfl⟩) λr s₁ hr=>?_;cases r with
 |error e=>exact hr
 |ok fl=>
  cases fl with
  |ret obj=>
   obtain ⟨rfl,rfl⟩:=hr;have hS:(s.heap.push (zk w)).get? s.heap.objs.size=some (zk w):=Ad _ rfl;have hT:Shared.TypeIs { s with heap:=s.heap.push (zk w) } (.ref s.heap.objs.size) "set" := ⟨_,hS,rfl⟩;have hli:=F.called_set.init.lookup;have hbi:=F.called_set.init.bind (.ref s.heap.objs.size);repeat (any_goals (first|assumption|wp_step))
   refine codeAny_mono (codeAny_call_builtin (R:=wants (λr s₂=>r=.none /\ ∃ h' tk o es ep t,s₂={ s with heap:=h',toks:=tk }/\h'.get? s.heap.objs.size=some o/\SetK knd o es ep t (zp ks) /\
     (∀ b o,b<s.heap.objs.size->s.heap.get? b=some o->h'.get? b=some o)) E) F.called_set.init.plain F.entry_set_init (check_set_init_1 hT ?_)) λr₂ s₂ hr₂=>?_
   .obtain ⟨ol,hol,hcl,nl,hdl⟩:=hl;obtain ⟨ocls,odict,odata,oslots⟩:=ol;simp only at hcl hdl;subst hcl;subst hdl;have hlS:l<s.heap.objs.size:=AI hol;have hol':(s.heap.push (zk w)).get? l=some { cls:=.type ty,dict:=odict,data:=.seq items nl,slots:=oslots }:=AN _ hol;have hh3:A.in1.in1.in1.handled=none:=by simp[hh]
    have hneI:l≠(s.heap.push (zk w)).objs.size:=by
     rw[Bu];exact AY (CY hlS)
    have hSf:s.heap.objs.size∉[(s.heap.push (zk w)).objs.size,l]:=by
     rw[Bu];simp only[AK,Bd,BO,BY,not_or];exact ⟨AY (DK _),Dd hlS⟩
    have hval:∀ (d:K) (i:Nat) (v:Yu),items[i]?=some v->knd.is (ks.getD i d) v=true/\v.scannable=true:=λd i v hv=>by
     have e:items.toList[i]?=some v:=by rw[Gf];exact hv
     have:∀ {xs:Yf} {ys:List K},F2 (λv k=>knd.is k v=true/\v.scannable=true) xs ys -> ∀ (i:Nat),xs[i]?=some v->knd.is (ys.getD i d) v=true/\v.scannable=true:=by
      intro xs ys f;induction f with
      |nil=>intro i e;simp at e
      |cons q _ ih=>
       intro i e;cases i with
       |zero=>simp at e;subst e;exact q
       |succ i=>exact ih i (by simpa using e)
     exact this hi i e
    have fin:∀ (I:Yt) (hI:I=(s.heap.push (zk w)).objs.size) (P':Fin->Shared->Prop) (s':Yl) (o':Obj) (es':Yw) (ep':Nat) (t':SetTable) (itO:Obj),
      Moved (s.heap.objs.size::[I]) (λa b=>b=a) { s with heap:=(s.heap.push (zk w)).push itO } s'->s'.heap.get? s.heap.objs.size=some o'->SetK knd o' es' ep' t' (zp ks) ->
      (∃ h' tk o es ep t,s'={ s with heap:=h',toks:=tk }/\h'.get? s.heap.objs.size=some o/\SetK knd o es ep t (zp ks)/\(∀ b o,b<s.heap.objs.size->s.heap.get? b=some o->h'.get? b=some o)):=by
     intro I hI P' s' o' es' ep' t' itO hm ho' hS';obtain ⟨h',g',d',tk',os'⟩:=s';have eg:g'=s.gens:=hm.gens;have ed:d'=s.drawn:=hm.drawn;have eo:os'=s.os:=hm.os;subst eg;subst ed;subst eo;refine ⟨h',tk',o',es',ep',t',rfl,ho',hS',λb o hb e=>?_⟩;have hb1:b≠s.heap.objs.size:=AY hb;have hb2:b≠I:=by rw[hI,Bu];exact AY (CY hb)
     exact hm.heap b o (by simp only[AK,Bd,BO,BY,not_or];exact ⟨hb1,hb2⟩) (AN _ (AN _ e))
    have go:∀ (d:K) (St:Nat->Heap->Prop) (itO:Obj) (W:Walks prog w A.in1.in1.in1 (s.heap.push (zk w)).objs.size [(s.heap.push (zk w)).objs.size,l] [(s.heap.push (zk w)).objs.size] items.size (λi v=>items[i]?=some v) St),St 0 ((s.heap.push (zk w)).push itO) ->
      ∀ {R':Yx},(∀ s',(∃ h' tk o es ep t,s'={ s with heap:=h',toks:=tk }/\h'.get? s.heap.objs.size=some o/\SetK knd o es ep t (zp ks)/\(∀ b o,b<s.heap.objs.size->s.heap.get? b=some o->h'.get? b=some o))->R' (.ok (.ret .none)) s') ->
      codeAny (model prog w) A.in1.in1 (.builtin "set.update.loop" ⟨[.ref s.heap.objs.size,.ref (s.heap.push (zk w)).objs.size],[]⟩) R' { s with heap:=(s.heap.push (zk w)).push itO }:=by
     intro d St itO W st R' hR;refine eN (knd:=knd) W.toS s.heap.objs.size hSf (λi=>ks.getD i d) (hval d) (by rw[hlen,Pn];exact hb) (items.size-0) 0 _ (zk w) _ _ _ (by omega) (BD _) st (AN _ hS) .fresh λs' o' es' ep' t' hm ho' hS'=>?_;refine hR s' (fin _ rfl (λ_ _=>True) s' o' es' ep' t' itO hm ho' ?_);rw[hlen,Pn]at hS';exact hS'
    rcases hty with rfl|rfl
    .have hsls:=F.sub_list_set;have hslf:=F.sub_list_frozenset;have hne:(Value.type "list" == Value.type "dict")=false:=by decide
     have hl1:(s.heap.push (zk w)).IsList l items:=⟨_,hol',rfl,nl,rfl⟩;unfold Builtin.«set.__init__» noKeywords Builtin.Frozenset.updateFrom;generalize hPI:pyIter=PI;wp_walk;subst hPI;refine wpAny_pyIter_list hl1 ?_;refine AA (wpAny_runValue ?_);refine go default _ _ (Walks.list hh3 _ l hneI items) ⟨⟨_,Ad _ rfl,rfl,rfl⟩,(hl1.push _)⟩ λs' q=>?_;refine AD ?_;exact AD ⟨rfl,q⟩
    .have hsls:=cV;have hslf:=cZ;have hne:(Value.type "tuple" == Value.type "dict")=false:=by decide
     have hl1:(s.heap.push (zk w)).IsTuple l items:=⟨_,hol',rfl,nl,rfl⟩;unfold Builtin.«set.__init__» noKeywords Builtin.Frozenset.updateFrom;generalize hPI:pyIter=PI;wp_walk;subst hPI;refine Fx hl1 ?_;refine AA (wpAny_runValue ?_);refine go default _ _ (Walks.tuple hh3 _ l hneI items) ⟨⟨_,Ad _ rfl,rfl,rfl⟩,(hl1.push _)⟩ λs' q=>?_;refine AD ?_;exact AD ⟨rfl,q⟩
   .cases r₂ with
    |error e=>exact hr₂
    |ok fl₂=>
     cases fl₂ with
     |ret r=>
      obtain ⟨rfl,h',tk,o,es,ep,t,rfl,ho',hS',hk'⟩:=hr₂;repeat (any_goals (first|assumption|wp_step))
      exact h _ _ _ _ _ _ ho' hS' hk'
     |_=>exact hr₂.elim
  |_=>exact hr.elim
end
noncomputable def CD (ks:Ye):List Int:=ks.mergeSort λa b=>decide (a<=b)
def Gw (ks:Ye):(CD ks).Perm ks:=List.mergeSort_perm _ _
def Kq (ks:Ye):(CD ks).Pairwise (· <= ·):=by
 have:=List.pairwise_mergeSort (le:=λ(a b:Int)=>decide (a<=b)) (λa b c h1 h2=>by simp at h1 h2 ⊢;omega) (λa b=>by simp;omega) ks;exact this.imp λh=>by simpa using h
theorem Pb:∀ {xs ys:Ye},xs.Perm ys->xs.Pairwise (· <= ·)->ys.Pairwise (· <= ·)->xs=ys
 |[],ys,p,_,_=>by have:=p.length_eq;simp at this;rw[List.length_eq_zero_iff.mp this.symm]
 |x::xs,[],p,_,_=>by have:=p.length_eq;simp at this
 |x::xs,y::ys,p,h1,h2=>by
  have hx:=EO.mp h1;have hy:=EO.mp h2;have e:x=y:=by
   have a:x∈y::ys:=p.mem_iff.mp Ae;have b:y∈x::xs:=p.mem_iff.mpr Ae;rcases AK.mp a with z|z
   .exact z
   .rcases AK.mp b with q|q
    .exact q.symm
    .exact Int.le_antisymm (hx.1 y q) (hy.1 x z)
  subst e;rw[Pb (p.cons_inv) hx.2 hy.2]
def R4 (p:xs.Perm ys) (h:xs.Pairwise (· <= ·)):xs=CD ys:=Pb (p.trans (Gw ys).symm) h (Kq ys)
def Rw
  (hc:wpAny (model prog w) A.in1 (collect v) (λvs s1=>∃ ns,IntsAre vs ns/\vs.length<64 /\ ∀ (h':Heap) (out:List Value) (n:Nat),(∀ b u,s1.heap.get? b=some u->h'.get? b=some u)->h'.get? s1.heap.objs.size=some (seqObj "list" out.toArray n)->IntsAre out (CD ns)->Q (.ref s1.heap.objs.size) { s1 with heap:=h' }) E s) :
  wpAny (model prog w) A (call (.builtin "sorted") [v]) Q E s:=by
 refine Calls.call_function_entry kind_sorted plain_sorted entry_sorted (args_sorted1 _) ?_;unfold Builtin.«sorted»;refine AA (m:=checkCount "sorted" 1 1 _) (AD ?_);refine AA (AS hc (λvs s1 h1=>?_) λ_ _ h'=>h');obtain ⟨ns,hI,h64,h⟩:=h1;refine AA (wpAny_newList ?_ (by rw[sizeLine_eq];omega));have hoL:(s1.heap.push (seqObj "list" vs.toArray 0)).get? s1.heap.objs.size=some (seqObj "list" vs.toArray 0):=Ad _ rfl;refine AA (CF (Cg slot_list_sort ⟨_,hoL,rfl⟩ entry_list_sort (list_sort_tree (s:={ s1 with heap:=s1.heap.push (seqObj "list" vs.toArray 0) }) hoL hI h64 λout ns' a1 a2 a3=>⟨_,rfl,?_⟩) (args_list_sort _)));refine AD ⟨_,rfl,?_⟩;have g1:=get?_update_seq hoL (λ_=> #[]);have g2:(((s1.heap.push (seqObj "list" vs.toArray 0)).update s1.heap.objs.size (Obj.mapSeq λ_=> #[])).push (seqObj "tuple" vs.toArray 0)).get? s1.heap.objs.size=_:=AN _ g1;have g3:=AN (seqObj "list" #[] 0) g2;have g4:=get?_update_seq g3 (λ_=>out);have eS:=R4 a2 a3;subst eS;refine h _ out.toList _ (λb u e=>?_) (by rw[Array.toArray_toList];exact g4) a1;have hb:s1.heap.objs.size≠b:=λz=>BZ _ (z▸AI e);exact (Du _ _ hb).trans (AN _ (AN _ ((Du _ _ hb).trans (AN _ e))))
def XF (h:F2 (Lx (intKind prog w)) es ks):IntsAre (es.map (·.2)) ks:=by
 induction h with
 |nil=>exact .nil
 |cons h _ ih=>
  obtain ⟨⟨h1,_⟩,_⟩:=h;obtain ⟨t,e⟩:=Value.isInt_shape h1;rw[AX,e];exact .cons _ _ ih
def ZP (p:us.Perm vs):∀ {ks:Ye},IntsAre vs ks -> ∃ ks',ks'.Perm ks/\IntsAre us ks':=by
 have p':=p.symm;clear p;induction p' with
 |nil=>intro ks h;exact ⟨ks,.refl _,h⟩
 |cons x _ ih=>
  intro ks h;cases h with
  |cons n t r=>
   obtain ⟨ys',q1,q2⟩:=ih r;exact ⟨_,q1.cons _,.cons _ _ q2⟩
 |swap x y l=>
  intro ks h;cases h with
  |cons n t r=>
   cases r with
   |cons n2 t2 r=>exact ⟨_,List.Perm.swap _ _ _,.cons _ _ (.cons _ _ r)⟩
 |trans _ _ ih1 ih2=>
  intro ks h;obtain ⟨ys',q1,q2⟩:=ih1 h;obtain ⟨ys'',r1,r2⟩:=ih2 q2;exact ⟨ys'',r1.trans q1,r2⟩
def Ux (p:xs.Perm ys):CD xs=CD ys:=R4 ((Gw xs).trans p) (Kq xs)
def SX (hh:A.handled=none) (ho:s.heap.get? a=some o) (hS:SetK (intKind prog w) o es ep t ks) (h64:ks.length<64)
  (h:∀ (s1:Shared) (h':Heap) (out:List Value) (n:Nat),(∀ b u,s.heap.get? b=some u->s1.heap.get? b=some u)->s1.os=s.os->s1.gens=s.gens->(∀ b u,s1.heap.get? b=some u->h'.get? b=some u)->h'.get? s1.heap.objs.size=some (seqObj "list" out.toArray n)->IntsAre out (CD ks)->Q (.ref s1.heap.objs.size) { s1 with heap:=h' }) :
  wpAny (model prog w) A (call (.builtin "sorted") [.ref a]) Q E s:=by
 refine Rw (Wx (A:=A.in1) hh ho hS λs' acc k1 k2 k3 hp=>?_);obtain ⟨ks',p,f⟩:=hS.ent;obtain ⟨ks2,p2,f2⟩:=ZP hp (XF f);refine ⟨ks2,f2,?_,λh' out n e1 e2 e3=>?_⟩
 .rw[hp.length_eq,AH,Ct,hS.size];exact h64
 .rw[Ux (p2.trans p)]at e3;exact h s' h' out n k1 k2 k3 e1 e2 e3
def dH (hty:ty = "list" \/ ty = "tuple") (hl:∃ ol,s.heap.get? l=some ol/\ol.cls=.type ty /\ ∃ nl,ol.data=.seq vs.toArray nl)
  (h:Q vs { s with heap:=(s.heap.push (seqObj "list" #[] 0)).update s.heap.objs.size (Obj.mapSeq (· ++ vs.toArray)) }) (hsz:vs.length<=sizeLine) :
  wpAny (model prog w) A (collect (.ref l)) Q E s:=by
 obtain ⟨o,ho,hc,n,hd⟩:=id hl;unfold collect;refine AA (wpAny_runValue (DS entry_proto_collect' ?_));refine AA (wpAny_newList (AD ⟨Code.quiet_builtin _ (by decide+kernel),DS entry_list_iadd' ?_⟩));show wpAny _ _ (Builtin.List.listExtendWith (.ref s.heap.objs.size) (.ref l) (.ref s.heap.objs.size)) _ _ { s with heap:=s.heap.push (seqObj "list" #[] 0) };unfold Builtin.List.listExtendWith;have ho':(s.heap.push (seqObj "list" #[] 0)).get? l=some o:=AN _ ho;refine AA (wpAny_typeOf (T:=ty) ⟨o,ho',hc⟩ ?_);have ht:(Value.type ty==Value.type "list" || Value.type ty==Value.type "tuple")=true:=by rcases hty with rfl|rfl <;> decide
 rw[AB (by rw[Bool.or_assoc,ht];simp)];refine AA (listItems_at ho' hd ?_);refine AA (listItems_at (xs:=#[]) (n:=0) (Ad _ rfl) rfl ?_);rw[AE (by simp)];refine AA (listUpdate_at (xs:=#[]) (n:=0) (Ad _ rfl) rfl ?_ (BD _) (by show (#[]++vs.toArray).size<=sizeLine+1;simp only[Array.size_append,AQ,List.length_nil];omega));refine AD ?_
 show wpAny (model prog w) A (do
   let o <- load s.heap.objs.size;match o.data with
   |.seq xs _=>pure xs.toList
   |_=>unsupported "internal:collect") Q E { s with heap:=(s.heap.push (seqObj "list" #[] 0)).update s.heap.objs.size (Obj.mapSeq (· ++ vs.toArray)) }
 refine AA (wpAny_load (get?_update_seq (Ad _ rfl) _) ?_);show wpAny _ _ (pure ((#[]:Array Value)++vs.toArray).toList) Q E _;rw[show ((#[]:Array Value)++vs.toArray).toList=vs by simp];exact AD h
def YW (hty:ty = "list" \/ ty = "tuple") (hl:∃ ol,s.heap.get? l=some ol/\ol.cls=.type ty /\ ∃ nl,ol.data=.seq vs.toArray nl) (hI:IntsAre vs ns) (h64:vs.length<64)
  (h:∀ (h1 h':Heap) (out:List Value) (n:Nat),(∀ b u,s.heap.get? b=some u->h1.get? b=some u)->(∀ b u,h1.get? b=some u->h'.get? b=some u)->h'.get? h1.objs.size=some (seqObj "list" out.toArray n)->IntsAre out (CD ns)->Q (.ref h1.objs.size) { s with heap:=h' }) :
  wpAny (model prog w) A (call (.builtin "sorted") [.ref l]) Q E s:=by
 refine Rw (dH hty hl ⟨ns,hI,h64,λh' out n e1 e2 e3=>h _ h' out n (λb u e=>?_) e1 e2 e3⟩ (by rw[sizeLine_eq];omega));have hb:s.heap.objs.size≠b:=λz=>BZ _ (z▸AI e);exact (Du _ _ hb).trans (AN _ e)
end ST
namespace L2
open ST
def Inv.kept' (I:Inv X zB Y H s) (k:∀ b u,s.heap.get? b=some u->s1.heap.get? b=some u) (ho:s1.os=s.os) (hg:s1.gens=s.gens):Inv X zB Y H s1 :=
 I.call' (ch:=[]) ho (Un.kept k) (I.hok.kept k) (by rw[hg];exact I.bare) λb hb=>nomatch hb
theorem Kj:∀ {ns:Ye} {us:Yf},IntsAre us ns->zg (ns.map V.int) us
 |_,_,.nil=> .nil
 |_,_,.cons n t h=> .cons ⟨t,rfl⟩ (Kj h)
theorem LD:∀ {ns:Ye} {us:Yf},zg (ns.map V.int) us->IntsAre us ns
 |[],_,.nil=> .nil
 |n::ns,_,.cons r h=>by obtain ⟨t,rfl⟩:=r;exact .cons n t (LD h)
def Lf (ks:Ye):(CD ks).length=ks.length:=(Gw ks).length_eq
def Zb (hc:X.calm=true) (hg:Gl X "sorted") (hm:X.mg "sorted" = none) (ha:PZ X e t) (hs:starEach [e] X.env=(false,eval e X.env)::starEach [] X.env:=by rfl) (hpl:(backTo pos (starEach [] X.env)).any (·.1)=false:=by rfl) :
  PE X (.Call (.Name "sorted" p) [e] [] pos) (λY H Q=>t Y H λks H1=>ks.length<64 /\ ∀ q,H1 q=none->Q (.ref q) (upd H1 q (.lst ((CD ks).map V.int)))):=by
 intro zB s Y H Q I h;refine wpAny_Call_Name_kw (Fo I hg hm (by rfl) ?_ (by decide) (by decide));refine callWith_builtin1 ?_ hs hpl;rw[hs];refine Fq (thn (ha zB s Y H _ I h) λu s1 ⟨a,o,es,ep,tb,ks,H1,hv,ho,hS,I1,h64,q⟩=>Calls.spliced_nil ?_);subst hv;refine SX (I1.ok.hd hc) ho hS h64 λs2 h' out n k1 k2 k3 k4 e4 i4=>?_;have I2:Inv X zB Y H1 s2:=I1.kept' k1 k2 k3;have hf:H1 s2.heap.objs.size=none:=I2.hok.fresh (AF _);refine ⟨.ref s2.heap.objs.size,upd H1 s2.heap.objs.size (.lst ((CD ks).map V.int)),I2.laid (t':=s2.toks) k4 (AF _) ⟨by rw[AH,Lf,sizeLine_eq];omega,out,n,Kj i4,e4⟩,rfl,q _ hf⟩
def bS:Br X (.builtin "sorted") (λxs H Q=>∃ a ns,xs=[.ref a]/\(SqL X.K H a (ns.map V.int)\/SqT X.K H a (ns.map V.int))/\ns.length<64 /\ ∀ q,H q=none->Q (.ref q) (upd H q (.lst ((CD ns).map V.int)))):=by
 intro zB s Y H xs us Q I r h;obtain ⟨a,ns,rfl,hq,h64,q⟩:=h;obtain ⟨u,rfl,rfl⟩:∃ u,us=[u]/\u=.ref a:=by
  cases r with
  |cons r1 r2=>cases r2;exact ⟨_,rfl,r1⟩
 have key:∃ (ty:String) (its:List Value),(ty = "list" \/ ty = "tuple")/\(∃ ol,s.heap.get? a=some ol/\ol.cls=.type ty /\ ∃ nl,ol.data=.seq its.toArray nl)/\zg (ns.map V.int) its:=by
  rcases hq with hq|hq
  .obtain ⟨its,rv,⟨ol,nl,e1,e2,_,e3⟩,_⟩:=I.list hq;exact ⟨"list", its,.inl rfl,⟨ol,e1,e2,nl,e3⟩,rv⟩
  .obtain ⟨its,rv,⟨ol,e1,e2,nl,e3⟩,_⟩:=I.tuple hq;exact ⟨"tuple", its,.inr rfl,⟨ol,e1,e2,nl,e3⟩,rv⟩
 obtain ⟨ty,its,hty,hl,rv⟩:=key;refine YW hty hl (LD rv) (by rw[<-rv.length,AH];exact h64) λh1 h' out n k1 k4 e4 i4=>?_;have I2:Inv X zB Y H { s with heap:=h1 }:=I.kept (t':=s.toks) k1;have hf:H h1.objs.size=none:=I2.hok.fresh (AF _);exact ⟨.ref h1.objs.size,upd H h1.objs.size (.lst ((CD ns).map V.int)),I2.laid (t':=s.toks) k4 (AF _) ⟨by rw[AH,Lf,sizeLine_eq];omega,out,n,Kj i4,e4⟩,rfl,q _ hf⟩
def WK (hc:X.calm=true) (hg:Gl X "set") (hm:X.mg "set" = none) (ha:PE X e te) (hs:starEach [e] X.env=(false,eval e X.env)::starEach [] X.env:=by rfl) (hpl:(backTo pos (starEach [] X.env)).any (·.1)=false:=by rfl) :
  PZ X (.Call (.Name "set" p) [e] [] pos) (λY H Q=>te Y H λx H1=>∃ a ns,x=.ref a/\(SqL X.K H1 a (ns.map V.int)\/SqT X.K H1 a (ns.map V.int))/\(zp ns).length+1<scanBound/\Q (zp ns) H1):=by
 intro zB s Y H Q I h;refine wpAny_Call_Name_kw (Fo I hg hm (by rfl) ?_ (by decide) (by decide));refine callWith_type1 ?_ hs hpl;rw[hs];refine Fq (thn (ha zB s Y H _ I h) λu s1 ⟨x,H1,I1,r1,a,ns,hx,hq,hb,q⟩=>Calls.spliced_nil ?_);subst hx;cases r1;have key:∃ (ty:String) (its:List Value),(ty = "list" \/ ty = "tuple")/\(∃ ol,s1.heap.get? a=some ol/\ol.cls=.type ty /\ ∃ nl,ol.data=.seq its.toArray nl)/\zg (ns.map V.int) its:=by
  rcases hq with hq|hq
  .obtain ⟨its,rv,⟨ol,nl,e1,e2,_,e3⟩,_⟩:=I1.list hq;exact ⟨"list", its,.inl rfl,⟨ol,e1,e2,nl,e3⟩,rv⟩
  .obtain ⟨its,rv,⟨ol,e1,e2,nl,e3⟩,_⟩:=I1.tuple hq;exact ⟨"tuple", its,.inr rfl,⟨ol,e1,e2,nl,e3⟩,rv⟩
 obtain ⟨ty,its,hty,hl,rv⟩:=key;have hi:F2 (λv k=>(intKind X.prog X.w).is k v=true/\v.scannable=true) its.toArray.toList ns:=by
  rw[List.toList_toArray];have:=LD rv;clear rv hq q hb hl;induction this with
  |nil=>exact .nil
  |cons n t _ ih=>exact .cons ⟨intKind_is _ _ _ _,rfl⟩ ih
 refine iW (knd:=intKind X.prog X.w) hty (I1.ok.hd hc) hl hi hb λh' tk o es ep t ho hS k=>?_;have I2:Inv X zB Y H1 { s1 with heap:=h',toks:=tk }:=I1.kept (t':=tk) λb u e=>k b u (AI e) e;exact ⟨_,o,es,ep,t,_,H1,rfl,ho,hS,I2,q⟩
end L2
namespace L3
open L2 ST
noncomputable abbrev FZ:=Sd->Mem->Option (List Int × Mem)
noncomputable def trZ (K:Yb) (f:FZ):TZ:=λτ H Q=>∃ L Y M ks M',Cor K L M H/\Aw L H Y τ/\f Y M=some (ks,M') /\ ∀ L' H',Stp L H L' H'->Cor K L' M' H'->Q ks H'
structure QZ (X:Cx) (e:Expr) (f:FZ):Prop where
 un:PZ X e (trZ X.K f)
def PZ.imp (h:PZ X e t) (hi:∀ τ H Q,t' τ H Q->t τ H Q):PZ X e t':=λzB s Y H Q I q=>h zB s Y H Q I (hi _ _ _ q)
noncomputable def HA (own:Yj) (fi:FI) (g:FG) (tc:FT) (te:FE):FZ:=λY M=>match Af own fi g tc te Y M with
 |some (.fl ys,M2)=>match Bs ys with
  |some ks=>if ks.length+1<scanBound then some (zp ks,M2) else none
  |none=>none
 |_=>none
theorem PQ:∀ {as bs:List D} {zs:Ye},Bs (as++bs)=some zs -> ∃ xs ys,Bs as=some xs/\Bs bs=some ys/\zs=xs++ys
 |[],bs,zs,h=>⟨[],zs,rfl,h,rfl⟩
 |a::as,bs,zs,h=>by
  cases a with
  |int i=>
   rw[List.cons_append]at h;unfold Bs at h;split at h
   .rename_i us e;cases h;obtain ⟨xs,ys,e1,e2,e3⟩:=PQ e;refine ⟨i::xs,ys,?_,e2,by rw[e3];rfl⟩;unfold Bs;rw[e1]
   .cases h
  |_=>cases h
def cB (h:Bs as=some xs):Bs (as++[.int i])=some (xs++[i]):=by
 induction as generalizing xs with
 |nil=>cases h;rfl
 |cons a as ih=>
  cases a with
  |int j=>
   unfold Bs at h;split at h
   .rename_i us e;cases h;rw[List.cons_append];unfold Bs;rw[ih e];rfl
   .cases h
  |_=>cases h
def lE {K:Yb} {own:Yj} {fi:FI} {g:TG} {fg:FG} {tc:FT} {te:FE} (hg:DF own g fg) {τ:Sv} {H:Hp} {Q:List Int->Hp->Prop} (h:trZ K (HA own fi fg tc te) τ H Q):OP own (trI K fi) g (trT K tc) (trD K (toD te)) τ H Q:=by
 obtain ⟨L,Y,M,d,Mf,c,rs,hf,q⟩:=h;unfold HA Af at hf;cases e1:fi Y M with
 |none=>rw[e1]at hf;cases hf
 |some r=>
  obtain ⟨xs,gd,M1⟩:=r;rw[e1]at hf;dsimp only at hf;by_cases hz:xs.length<=sizeLine
  .rw[AB hz]at hf;cases e2:BP fg tc te (An own Y) xs gd xs M1 with
   |none=>rw[e2]at hf;cases hf
   |some r=>
    obtain ⟨zs,M2⟩:=r;rw[e2]at hf;dsimp only at hf;split at hf
    .rename_i kz ez;split at hf
     .rename_i hb;cases hf;refine ⟨L,Y,M,_,_,_,c,rs,e1,λL1 H1 J s1 c1 it=>?_⟩
      refine ⟨λi m ys H'=>m=xs.length-i/\i<=xs.length /\ ∃ L' M' as bs ka,Stp L1 H1 L' H'/\Cor K L' M' H'/\Bs as=some ka/\ys=zp ka/\BP fg tc te (An own Y) xs gd (xs.drop i) M'=some (bs,Mf)/\as++bs=zs,
       ⟨xs.length,by simp,BD _,L1,M1,[],zs,[],.refl _ _,c1,rfl,rfl,by simpa using e2,rfl⟩,?_⟩
      rintro i m ys H' ⟨rfl,hi,L',M',as,bs,ka,s',c',r',hl,e',hab⟩;by_cases hlt:i<xs.length
      .rw[HJ hlt]at e';unfold BP at e';split at e'
       .rename_i hgd;obtain ⟨step,_⟩:=it L' H' M' s' c' hgd;obtain ⟨go,yl⟩:=step i xs[i] (AV hlt);split at e'
        .rename_i σ1 eg;refine .inr ⟨go,λv H2 hy=>?_⟩;obtain ⟨gr,rv⟩:=yl v H2 hy;have s2:Stp L1 H1 L' H2:=s'.yld gr;refine hg (HC own ((rs.stp s1).stp s2)) (.refl _) rv eg λτ2 r2 x2=>⟨x2,?_⟩;split at e'
         .rename_i M3 e3;split at e'
          .rename_i d M4 e4;split at e'
           .rename_i ds M5 e5;cases e';refine ⟨L',σ1,M',_,_,c'.grow gr,r2,e3,λL3 H3 s3 c3=>Dn ?_⟩;refine ⟨L3,σ1,M3,_,_,c3,r2.stp s3,e4,λL4 H4 w s4 c4 r4=>?_⟩;have st:Stp L' H' L4 H4:=((Stp.grow gr).trans s3).trans s4;have ez':=ez;rw[<-hab]at ez';obtain ⟨x1,y1,g1,g2,g3⟩:=PQ ez';obtain ⟨k,hk⟩:∃ k,d=.int k:=by
             cases d with
             |int k=>exact ⟨k,rfl⟩
             |_=>cases g2
            subst hk;have ew:w=.int k:=by unfold Rep at r4;exact r4
            have hka:ka.length<=kz.length:=by
             rw[r']at g1;cases g1;rw[g3,AU];omega
            refine ⟨k,ew,?_,xs.length-(i+1),by omega,rfl,hlt,L4,M4,as++[.int k],ds,ka++[k],s'.trans st,c4,cB r',by rw[hl,NJ],e5,by rw[<-hab];simp⟩;rw[hl];have:=IE ka;omega
           .cases e'
          .cases e'
         .rename_i M3 e3;refine ⟨L',σ1,M',_,_,c'.grow gr,r2,e3,λL3 H3 s3 c3=>Dr ?_⟩;have st:Stp L' H' L3 H3:=(Stp.grow gr).trans s3;exact ⟨xs.length-(i+1),by omega,rfl,hlt,L3,M3,as,bs,ka,s'.trans st,c3,r',hl,e',hab⟩
         .cases e'
        .cases e'
       .cases e'
      .have hi':i=xs.length:=by omega
       subst hi';rw[List.drop_length]at e';unfold BP at e';split at e'
       .rename_i hgd;cases e';obtain ⟨_,stop⟩:=it L' H' _ s' c' hgd;rw[Au]at hab;subst hab;rw[r']at ez;cases ez;refine .inl ⟨stop,?_⟩;rw[hl];exact q L' H' (s1.trans s') c'
       .cases e'
     .cases hf
    .cases hf
  .rw[AE hz]at hf;cases hf
section
variable {X:Cx}
def gQ (hg:DF own g fg) (C:CompIn X scope own) (hcalm:X.calm=true) (hi:QI X tg iter fi) (p:QParts X scope tg ifs elt g tc te) (hs:∀ x,foldedSetIterable iter X.env x=pure x:=by intro _;rfl) :
  QZ X (.SetComp elt [⟨tg,iter,ifs,0⟩] scope pos) (HA own fi fg tc te) :=
 .mk <| PZ.imp (US C hcalm hi.un p.parts hs) λ_ _ _ h=>lE hg h
noncomputable def FP (f:FE):FZ:=λY M=>match f Y M with
 |some (x,M1)=>match Al M1 x with
  |some ds=>match Bs ds with
   |some ks=>if (zp ks).length+1<scanBound then some (zp ks,M1) else none
   |none=>none
  |none=>none
 |none=>none
def Zu (hc:X.calm=true) (hg:Gl X "set") (hm:X.mg "set" = none) (h:QE X e f) (hs:starEach [e] X.env=(false,eval e X.env)::starEach [] X.env:=by rfl) (hpl:(backTo pos (starEach [] X.env)).any (·.1)=false:=by rfl) :
  QZ X (.Call (.Name "set" p) [e] [] pos) (FP f):=.mk <| PZ.imp (WK hc hg hm h.un hs hpl) λτ H Q zz=>by
 obtain ⟨L,Y,M,d,M',c,rs,hf,q⟩:=zz;unfold FP at hf;split at hf
 .rename_i x M1 e1;split at hf
  .rename_i ds e2;split at hf
   .rename_i ks e3;split at hf
    .rename_i hb;cases hf;refine ⟨L,Y,M,_,_,c,rs,e1,λL1 H1 v s1 c1 r1=>?_⟩;obtain ⟨a,vs,rfl,hsq,r⟩:=Ij c1 r1 e2;have:=IX e3 r;subst this;exact ⟨a,ks,rfl,hsq,hb,q L1 H1 s1 c1⟩
    .cases hf
   .cases hf
  .cases hf
 .cases hf
noncomputable def Fz (f:FZ):FE:=λY M=>match f Y M with
 |some (ks,M1)=>if ks.length<64 then some (.fl ((CD ks).map D.int),M1) else none
 |none=>none
theorem LK:∀ (ns:Ye),zR L H (ns.map D.int) (ns.map V.int)
 |[]=> .nil
 |n::ns=> .cons B4 (LK ns)
def Sj (hc:X.calm=true) (hg:Gl X "sorted") (hm:X.mg "sorted" = none) (h:QZ X e fz) (hs:starEach [e] X.env=(false,eval e X.env)::starEach [] X.env:=by rfl) (hpl:(backTo pos (starEach [] X.env)).any (·.1)=false:=by rfl) :
  QE X (.Call (.Name "sorted" p) [e] [] pos) (Fz fz):=.mk <| PE.imp (Zb hc hg hm h.un hs hpl) λτ H Q zz=>by
 obtain ⟨L,Y,M,d,M',c,rs,hf,q⟩:=zz;unfold Fz at hf;split at hf
 .rename_i ks M1 e1;split at hf
  .rename_i hb;cases hf;refine ⟨L,Y,M,_,_,c,rs,e1,λL1 H1 s1 c1=>⟨hb,λp hp=>?_⟩⟩;exact q L1 _ _ (s1.trans (.upd hp)) (c1.upd hp) (ze.newLst s1 c c1 hp (LK _))
  .cases hf
 .cases hf
noncomputable def GY:KB:=λxs M=>match xs with
 |[x]=>match Al M x with
  |some ds=>match Bs ds with
   |some ks=>if ks.length<64 then some (.fl ((CD ks).map D.int),M) else none
   |none=>none
  |none=>none
 |_=>none
def ze.newLst' {L:Yg} {H:Hp} {K:Yb} {M:List MO} {p:Yt} {ds:List D} {vs:List V} (c:Cor K L M H) (hp:H p=none) (r:zR L H ds vs):ze H L (upd H p (.lst vs)) (.fl ds) (.ref p):=ze.newLst (.refl L H) c c hp r
def b6:Cz X.K (λxs H Q=>∃ a ns,xs=[.ref a]/\(SqL X.K H a (ns.map V.int)\/SqT X.K H a (ns.map V.int))/\ns.length<64 /\ ∀ q,H q=none->Q (.ref q) (upd H q (.lst ((CD ns).map V.int)))) GY:=by
 intro L M M' H H0 xs d vs Q c r hk q;unfold GY at hk;split at hk
 .rename_i x;split at hk
  .rename_i ys e1;split at hk
   .rename_i ks e2;split at hk
    .rename_i hb;cases hk;obtain ⟨v,rfl,r1⟩:=r.one;obtain ⟨a,ws,rfl,hs,r2⟩:=Ij c r1 e1;have:=IX e2 r2;subst this;exact ⟨a,ks,rfl,hs,hb,λp hp=>q L _ _ (.upd hp) (c.upd hp) (ze.newLst' c hp (LK _))⟩
    .cases hk
   .cases hk
  .cases hk
 .cases hk
def Uu (hg:Gl X "sorted") (hm:X.mg "sorted" = none) (ha:QAE X [e] fa) (he:starEach [e] X.env=(false,eval e X.env)::starEach [] X.env:=by rfl) (hpl:(backTo pos (starEach [] X.env)).any (·.1)=false:=by rfl):QE X (.Call (.Name "sorted" p) [e] [] pos) (fB GY fa) :=
 Ew b6 bS (by rfl) hg hm ha (by decide) (by decide) he hpl
end
open AutoSeq1 (wpAny_loadPart')
def cN (hh:A.handled=none) (it l:Yt) (hne:l≠it) (items:Yp) :
  Draws prog w A it [it,l] items.size (λi v=>items[i]?=some v) (λi h=>h.IsTupleIter it l i/\h.IsTuple l items) where
 live:=λ_ _ st=>let ⟨o,ho,_⟩:=st.1;⟨o,ho⟩;frame:=λ_ _ _ st hk=>⟨let ⟨o,ho,r⟩:=st.1;⟨o,hk it (by simp) o ho,r⟩,let ⟨o,ho,r⟩:=st.2;⟨o,hk l (by simp) o ho,r⟩⟩;item:=λi s Q E hi st hQ=>by
  refine KH st.1 st.2 (x:=items[i]) (by simp[hi]) λh' hit' hs'=>?_;exact hQ _ h' s.toks (by simp[hi]) ⟨hit',Tup.but st.2 hs'.extBut hne⟩ hs'
 done:=λs Q E st hE=>KL hh st.1 st.2 (by simp) hE
def bH (l:Yt) (items:Yp) (n:Nat) (dct:Option Addr) (sl:Array (Option Value)) :
  Meets (Builtin.«enumerate.__new__» ⟨[.type "enumerate", .ref l],[]⟩) (λ_ R s=>s.heap.get? l=some { cls:=.type "tuple", dict:=dct,data:=.seq items n,slots:=sl } /\
   R (.ok (.ret (.ref (s.heap.push { cls:=.type "tuple_iterator", data:=.fields #[.ref l,.int 0 0] }).objs.size)))
    { s with heap:=(s.heap.push { cls:=.type "tuple_iterator", data:=.fields #[.ref l,.int 0 0] }).push { cls:=.type "enumerate", data:=.fields #[.none,.bool false,.ref s.heap.objs.size,rawInt 0,.none,.none] } }) :=
 .of_wp λprog w A R s h=>by
  obtain ⟨hp,g,d,tk,os⟩:=s;obtain ⟨hl,h⟩:=h;have hsub:=sub_enumerate;have hL:Heap.IsTuple (Shared.heap ⟨hp,g,d,tk,os⟩) l items:=⟨_,hl,rfl,n,rfl⟩;wp_walk using wpAny_loadPart' hl;refine wpAny_stack_any λst=>AD ?_;split
  .rename_i c _ _ _ _ _;cases (c==Value.type "enumerate")
   .wp_walk using wpAny_loadPart' hl,Fx hL;exact ⟨_,rfl,h⟩
   .wp_walk using wpAny_loadPart' hl,Fx hL;exact ⟨_,rfl,h⟩
  .wp_walk using wpAny_loadPart' hl,Fx hL;exact ⟨_,rfl,h⟩
def mS (hL:s.heap.IsTuple l items)
  (h:∀ h',IsEnum h' (s.heap.objs.size+1) s.heap.objs.size 0 .none->h'.IsTupleIter s.heap.objs.size l 0->(∀ c o,s.heap.get? c=some o->h'.get? c=some o)->Q (.ref (s.heap.objs.size+1)) { s with heap:=h' }) :
  wpAny (model prog w) A (call (.type "enumerate") [.ref l]) Q E s:=by
 obtain ⟨o,ho,hc,n,hd⟩:=hL;obtain ⟨ocls,odict,odata,oslots⟩:=o;simp only at hc hd;subst hc;subst hd;refine callType_new PySem.F.called_enumerate (by decide) (PySem.F.typeCall_enumerate_1 _) (PySem.F.newCall_enumerate_1 _) (λobj=>PySem.F.args_object_init_2 obj _) PySem.F.entry_enumerate_new (bH l items n odict oslots) ⟨ho,?_⟩;have q1:(s.heap.push { cls:=.type "tuple_iterator", data:=.fields #[.ref l,.int 0 0] }).objs.size=s.heap.objs.size+1:=Bu ..;have p2:((s.heap.push { cls:=.type "tuple_iterator", data:=.fields #[.ref l,.int 0 0] }).push { cls:=.type "enumerate", data:=.fields #[.none,.bool false,.ref s.heap.objs.size,rawInt 0,.none,.none] }).get? (s.heap.push { cls:=.type "tuple_iterator", data:=.fields #[.ref l,.int 0 0] }).objs.size=some _:=Ad _ rfl;rw[q1]at p2;rw[q1];exact ⟨⟨_,p2,rfl⟩,h _ p2 ⟨_,AN _ (Ad _ rfl),rfl,rfl⟩ λc o x=>AN _ (AN _ x)⟩
def SE (he:IsEnum s.heap e it i old)
  (hn:∀ (Q':Value->Shared->Prop) (E':Value->Shared->Prop),(∀ h' x,Heap.ExtBut it s.heap h'->(∃ o,h'.get? x=some o/\o.cls=.type "StopIteration")->E' (.ref x) { s with heap:=h' })->wpAny (model prog w) A.in1 (Builtin.SmallTypes.nextOf (.ref it)) Q' E' s)
  (hQ:∀ h',Heap.ExtBut it s.heap h'->Q none { s with heap:=h' }):wpAny (model prog w) A (pyNext (.ref e)) Q E s:=by
 have hT:s.TypeIs (.ref e) "enumerate" := ⟨_,he,rfl⟩;unfold pyNext
 refine AA (wpAny_attempt (Dq (name:=Str.ofString "__next__") hT PySem.F.slot_enumerate_next
  (Cg PySem.F.slot_enumerate_next hT PySem.F.entry_enumerate_next ?_ (PySem.F.args_enumerate_next_1 _))))
 show wpAny _ _ (field (.ref e) 2 >>= _) _ _ _;refine AA (B2 he rfl (x:=.ref it) rfl ?_);refine AA (hn _ _ λh' x he' hx'=>?_);obtain ⟨o,ho,hc⟩:=hx';refine AA (wpAny_isInstance (T := "StopIteration") (b:=true) ⟨o,ho,hc⟩ isSubtype_stop ?_);exact AD (hQ _ he')
noncomputable def FR (K:Yb) (isT:Bool) (a:Yt):It :=
 ⟨λi H=>∃ xs x,(if isT then SqT K H a xs else SqL K H a xs)/\xs[i]?=some x,
  λi H v H'=>∃ T x,v=.ref T/\H T=none/\H'=upd H T (.tup [.int i,x]) /\ ∀ xs,(if isT then SqT K H a xs else SqL K H a xs)->xs[i]?=some x,
  λi H=>∃ xs,(if isT then SqT K H a xs else SqL K H a xs)/\xs.length<=i⟩
def JK (isT:Bool) (it a:Yt) (i:Nat) (h:Heap):Prop:=if isT then h.IsTupleIter it a i else h.IsListIter it a i
def aV {P:Ym} {w:Yo} {K:Yb} {es:Yi} {ek:Nat} {ep:Pos} {isT:Bool} {e it a:Yt} (hei:e≠it) (hae:a≠e) (hai:a≠it) :
  Turn P w K (.Tuple es ek ep) (FR K isT a) [e,it] e (λi h=>(∃ old,IsEnum h e it i old)/\JK isT it a i h) where
 mem:=by simp
 obj:=λi h ⟨⟨old,he⟩,st⟩ c hc=>by
  simp only[AK,BO,BY]at hc;rcases hc with rfl|rfl
  .exact ⟨_,he,λv m=>by cases m⟩
  .cases isT with
   |true=>obtain ⟨o1,e1,_,d1⟩:=(show h.IsTupleIter c a i from st);exact ⟨_,e1,λv m=>by rw[d1]at m;cases m⟩
   |false=>obtain ⟨o1,e1,_,d1⟩:=(show h.IsListIter c a i from st);exact ⟨_,e1,λv m=>by rw[d1]at m;cases m⟩
 keep:=λi h h' ⟨⟨old,he⟩,st⟩ k=>by
  refine ⟨⟨old,k e (by simp) _ he⟩,?_⟩;cases isT with
  |true=>obtain ⟨o1,e1,r⟩:=(show h.IsTupleIter it a i from st);exact ⟨o1,k it (by simp) _ e1,r⟩
  |false=>obtain ⟨o1,e1,r⟩:=(show h.IsListIter it a i from st);exact ⟨o1,k it (by simp) _ e1,r⟩
 item:=by
  intro X hP hw hK hc i zB s Y H E I hf Z hg;subst hP hw hK;obtain ⟨⟨old,he⟩,st⟩:=Z;obtain ⟨xs,x,sa,hx⟩:=hg;have hch:∀ c∈[e,it],BX X zB H c:=hf;have elt:e<s.heap.objs.size:=AI he
  have fin:∀ (its:List Value) (u:Value) (h':Heap) (tk:Nat),zg xs its->its[i]?=some u->IsEnumOut h' e it ((i:Int)+1) u s.heap.objs.size->JK isT it a (i+1) h'->h'.get? s.heap.objs.size=some { cls:=.type "tuple", data:=.seq #[.int i tk,u] } ->
    (∀ b o,b≠e->b≠it->s.heap.get? b=some o->h'.get? b=some o)->it<s.heap.objs.size ->
    ∃ u',some (Value.ref s.heap.objs.size)=some u'/\wpAny (model X.prog X.w) X.A (letOwnedTupleGo (.Tuple es ek ep) (.ref e) u') (λ_ s2=>∃ x H',Inv X zB Y H' s2/\zr x u'/\(FR X.K isT a).yld i H x H'/\((∃ old,IsEnum s2.heap e it ((i+1:Nat):Int) old)/\JK isT it a (i+1) s2.heap) /\ ∀ b∈[e,it],H' b=none) E { s with heap:=h',toks:=tk+1 }:=by
   intro its u h' tk rv hu ho st' hT hk ilt;refine ⟨_,rfl,wpAny_letOwnedTupleGo_enum ho λh2 he2 e2=>?_⟩;have kk:∀ c o,c∉[e,it]->s.heap.get? c=some o->h2.get? c=some o:=λc o n q=>by
    simp only[AK,BO,BY,not_or]at n;exact e2.extBut _ _ n.1 (hk c o n.1 n.2 q)
   have NT:=e2.extBut _ _ (Dd elt) hT;have hfr:H s.heap.objs.size=none:=I.hok.fresh (AF _);obtain ⟨u2,hu2,ru⟩:=rv.get hx;rw[hu]at hu2;cases hu2;refine ⟨.ref s.heap.objs.size,upd H s.heap.objs.size (.tup [.int i,x]),RV (s:=s) (h':=h2) (t':=tk+1) I hch kk (AF _) ?_,rfl,⟨_,x,rfl,hfr,rfl,λws hw=>?_⟩,⟨⟨u,by simpa using he2⟩,?_⟩,λc hm=>?_⟩
   .exact ⟨by show 2<=sizeLine;decide,[.int i tk,u],.cons ⟨tk,rfl⟩ (.cons ru .nil),⟨_,NT,rfl,⟨_,rfl⟩,rfl⟩⟩
   .cases isT with
    |true=>rw[I.tuple_inj hw sa];exact hx
    |false=>rw[I.list_inj hw sa];exact hx
   .cases isT with
    |true=>obtain ⟨o1,e1,r⟩:=(show h'.IsTupleIter it a (i+1)from st');exact ⟨o1,e2.extBut _ _ hei.symm e1,r⟩
    |false=>obtain ⟨o1,e1,r⟩:=(show h'.IsListIter it a (i+1)from st');exact ⟨o1,e2.extBut _ _ hei.symm e1,r⟩
   .have lt:c<s.heap.objs.size:=by
     simp only[AK,BO,BY]at hm;rcases hm with rfl|rfl
     .exact elt
     .exact ilt
    rw[zf (AY lt)];exact (hf c hm).1
  have hef:e∉[it,a]:=by simp only[AK,BO,BY,not_or];exact ⟨hei,hae.symm⟩
  cases isT with
  |true=>
   obtain ⟨its,rv,p1,z1⟩:=I.tuple sa;have st':s.heap.IsTupleIter it a i:=st;obtain ⟨o1,e1,_⟩:=id st';refine wpAny_pyNext_enum_itemD (cN (prog:=X.prog) (w:=X.w) (A:=X.A.in1) (I.ok.hd hc) it a hai its.toArray) he ⟨st',show s.heap.IsTuple a its.toArray from p1⟩ (by have:=rv.length;have:=(AG.mp hx).1;rw[AQ];omega) hei hef λu h' tk hu ho hs hT _ hk=>?_;exact fin its u h' tk rv (by simpa using hu) ho hs.1 hT hk (AI e1)
  |false=>
   obtain ⟨its,rv,p1,z1⟩:=I.list sa;have st':s.heap.IsListIter it a i:=st;obtain ⟨o1,e1,_⟩:=id st';refine wpAny_pyNext_enum_itemD (Draws.list (prog:=X.prog) (w:=X.w) (A:=X.A.in1) (I.ok.hd hc) it a hai its.toArray) he ⟨st',p1.isList⟩ (by have:=rv.length;have:=(AG.mp hx).1;rw[AQ];omega) hei hef λu h' tk hu ho hs hT _ hk=>?_;exact fin its u h' tk rv (by simpa using hu) ho hs.1 hT hk (AI e1)
 done:=by
  intro X hP hw hK hc i zB s Y H E I hf Z hg;subst hP hw hK;obtain ⟨⟨old,he⟩,st⟩:=Z;obtain ⟨xs,sa,hz⟩:=hg;have out:∀ h',Heap.ExtBut it s.heap h'->(none:Option Value)=none/\Inv X zB Y H { s with heap:=h' }:=λh' x=>⟨rfl,Rb (s:=s) (h':=h') (t':=s.toks) I hf λc o n q=>x c o (λm=>n (by simp[m])) q⟩;cases isT with
  |true=>
   obtain ⟨its,rv,p1,z1⟩:=I.tuple sa;refine SE he (λQ' E' hq=>KL (I.ok.hd hc) (show s.heap.IsTupleIter it a i from st) (show s.heap.IsTuple a its.toArray from p1) (by have:=rv.length;simp;omega) hq) out
  |false=>
   obtain ⟨its,rv,p1,z1⟩:=I.list sa;refine SE he (λQ' E' hq=>wpAny_nextOf_list_end (I.ok.hd hc) (show s.heap.IsListIter it a i from st) p1.isList (by have:=rv.length;simp;omega) hq) out
 self:=λ_ _ _ _ _ Z h=>let ⟨⟨_,he⟩,_⟩:=Z;wpAny_pyIter_enum he h
def U6 {te:TE} (hg:Gl X "enumerate") (hm:X.mg "enumerate" = none) (ha:PE X a te) (hs:starEach [a] X.env=(false,eval a X.env)::starEach [] X.env:=by rfl) (hpl:(backTo pos (starEach [] X.env)).any (·.1)=false:=by rfl) :
  PI X (.Tuple es ek ep) (.Call (.Name "enumerate" p) [a] [] pos) (λY H R=>te Y H λx H1=>∃ l,x=.ref l/\((∃ xs,SqT X.K H1 l xs)/\R (FR X.K true l) H1\/(∃ xs,SqL X.K H1 l xs)/\R (FR X.K false l) H1)):=by
 intro zB s Y H R I h;refine wpAny_Call_Name_kw (Fo I hg hm (by rfl) ?_ (by decide) (by decide));refine callWith_type1 ?_ hs hpl;rw[hs];refine Fq (thn (ha zB s Y H _ I h) λu s1 ⟨x,H1,I1,r1,l,hx,q⟩=>Calls.spliced_nil ?_);subst hx;cases r1
 have out:∀ (isT:Bool) (h':Heap),l<s1.heap.objs.size->IsEnum h' (s1.heap.objs.size+1) s1.heap.objs.size 0 .none->JK isT s1.heap.objs.size l 0 h'->(∀ c o,s1.heap.get? c=some o->h'.get? c=some o)->R (FR X.K isT l) H1 ->
   wpAny (model X.prog X.w) X.A (pyIter (.ref (s1.heap.objs.size+1))) (PIE X zB Y (.Tuple es ek ep) R) X.xe { s1 with heap:=h' }:=by
  intro isT h' hl he st kp q;refine wpAny_pyIter_enum (s:={ s1 with heap:=h' }) he ?_;refine ⟨s1.heap.objs.size+1,[s1.heap.objs.size+1,s1.heap.objs.size],_,_,H1,rfl,I1.kept (t':=s1.toks) kp,aV (isT:=isT) (Dd (DK _)) (AY (CY hl)) (AY hl),⟨⟨_,he⟩,st⟩,λc hc=>?_,q⟩;have ge:s1.heap.objs.size<=c:=by
   simp only[AK,BO,BY]at hc;rcases hc with rfl|rfl
   .exact DQ _
   .exact AF _
  exact I1.fpOk ge (I1.hok.fresh ge)
 rcases q with ⟨⟨xs,hq⟩,q⟩|⟨⟨xs,hq⟩,q⟩
 .obtain ⟨its,rv,p1,_⟩:=I1.tuple hq;have hl:l<s1.heap.objs.size:=by obtain ⟨_,e,_⟩:=p1;exact AI e
  exact mS (show s1.heap.IsTuple l its.toArray from p1) λh' he st kp=>out true h' hl he st kp q
 .obtain ⟨its,rv,p1,_⟩:=I1.list hq;have hl:l<s1.heap.objs.size:=by obtain ⟨_,_,e,_⟩:=p1;exact AI e
  exact call_enumerate_list p1.isList λh' he st _ kp=>out false h' hl he st kp q
noncomputable def F4 (xs:List D):List D:=((List.range xs.length).zip xs).map λq=>D.tup [.int (q.1:Nat),q.2]
def fL {xs:List D} {i:Nat} {d:D} (h:(F4 xs)[i]?=some d):∃ x,xs[i]?=some x/\d=.tup [.int (i:Nat),x]:=by
 unfold F4 at h;rw[Bn]at h;cases e:((List.range xs.length).zip xs)[i]? with
 |none=>rw[e]at h;cases h
 |some pr=>
  rw[e]at h;cases h;obtain ⟨f1,f2⟩:=List.getElem?_zip_eq_some.mp e;have hi:i<xs.length:=(AG.mp f2).1;rw[List.getElem?_range hi]at f1;cases f1;exact ⟨pr.2,f2,rfl⟩
def Zw (xs:List D):(F4 xs).length=xs.length:=by unfold F4;simp
noncomputable def IU (f:FE):FI:=λY M=>match f Y M with
 |some (x,M1)=>match Al M1 x with
  |some xs=>some (F4 xs,B9 x xs,M1)
  |none=>none
 |none=>none
def ZX {g:FE} (hg:Gl X "enumerate") (hm:X.mg "enumerate" = none) (h:QE X a g) (hs:starEach [a] X.env=(false,eval a X.env)::starEach [] X.env:=by rfl) (hpl:(backTo pos (starEach [] X.env)).any (·.1)=false:=by rfl) :
  QI X (.Tuple es ek ep) (.Call (.Name "enumerate" p) [a] [] pos) (IU g):=.mk <| PI.imp (U6 hg hm h.un hs hpl) λτ H R zz=>by
 obtain ⟨L,Y,M,xs,gd,M',c,rs,hf,q⟩:=zz;unfold IU at hf;split at hf
 .rename_i y M1 e1;split at hf
  .rename_i zs e2;cases hf;refine ⟨L,Y,M,_,_,c,rs,e1,λL1 H1 v s1 c1 r1=>?_⟩
   have step:∀ (isT:Bool) (l:Yt) (L2:Yg) (H2:Hp) (vs:List V),(if isT then SqT X.K H2 l vs else SqL X.K H2 l vs)->zR L2 H2 zs vs ->
     (∀ (i:Nat) d,(F4 zs)[i]?=some d->(FR X.K isT l).go i H2 /\ ∀ v H'',(FR X.K isT l).yld i H2 v H''->(∀ a o,H2 a=some o->H'' a=some o)/\Rep L2 H'' d v)/\(FR X.K isT l).stop (F4 zs).length H2:=by
    intro isT l L2 H2 vs hq r;refine ⟨λi d hd=>?_,⟨vs,hq,by rw[Zw,r.length];exact AF _⟩⟩;obtain ⟨x,hx,rfl⟩:=fL hd;obtain ⟨u,hu,ru⟩:=r.get hx;refine ⟨⟨vs,u,hq,hu⟩,λv H3 hy=>?_⟩;obtain ⟨T,x',rfl,hT,rfl,hxx⟩:=hy;have ex:=hxx vs hq;rw[hu]at ex;cases ex;exact ⟨λa o e=>by rw[zf (DX e hT)];exact e,Rep.newTup hT (.cons B4 (.cons ru .nil))⟩
   unfold Al at e2;cases t:CG y with
   |some ws=>
    rw[t]at e2;cases e2;obtain ⟨a,vs,rfl,e3,r3⟩:=DU r1 t;refine ⟨a,rfl,.inl ⟨⟨vs,.of e3⟩,q L1 H1 _ s1 c1 λL2 H2 M2 s2 c2 _=>?_⟩⟩;exact step true a L2 H2 vs (.of (s2.tup a vs e3)) (r3.stp s2)
   |none=>
    rw[t]at e2;obtain ⟨a,vs,rfl,e3,r3⟩:=Co c1 r1 e2;refine ⟨a,rfl,.inr ⟨⟨vs,.inl e3⟩,q L1 H1 _ s1 c1 λL2 H2 M2 s2 c2 hgd=>?_⟩⟩;have key:∃ vs',SqL X.K H2 a vs'/\zR L2 H2 zs vs':=by
     cases y with
     |fl ys=>
      cases e2;obtain ⟨p',vs',hp',_,e5,e6,r6⟩:=r1;cases hp';exact ⟨vs',.of (s2.old _ _ e5 e6),r6.stp s2⟩
     |dat d=>
      cases d with
      |ref n=>
       unfold ze Rep at r1;obtain ⟨a',ha',e5⟩:=r1;cases ha';have e6:L2[n]?=some a:=by obtain ⟨N,hN⟩:=s2.pre;rw[hN];exact D6 e5
       rcases hgd with z|z
       .obtain ⟨vs',e7,r7⟩:=c2.obj n a _ e6 z;exact ⟨vs',.of e7,r7⟩
       .obtain ⟨o,vs',e7,r7⟩:=c2.obj n a _ e6 z;exact ⟨vs',.inl (.inr ⟨o,e7⟩),r7⟩
      |_=>cases e2
    obtain ⟨vs',hq,r7⟩:=key;exact step false a L2 H2 vs' hq r7
  .cases hf
 .cases hf
section
variable [DecidableEq κ]
noncomputable def DM (kf:D->Option κ) (kvs:List (D × D)) (k:κ):Option D:=(kvs.find? λp=>decide (kf p.1=some k)).map (·.2)
noncomputable def EZ (kf:D->Option κ) (kvs:List (D × D)) (k:κ) (kd v:D):List (D × D) :=
 if (kvs.any λp=>decide (kf p.1=some k))=true then kvs.map λp=>if kf p.1=some k then (p.1,v) else p else kvs++[(kd,v)]
theorem GI (k:κ):∀ {kvs:List (D × D)} {vs:List (κ × V)},Aj kf L H kvs vs->(DM kf kvs k=none/\BV vs k=none) \/ ∃ d v,DM kf kvs k=some d/\BV vs k=some v/\Rep L H d v
 |[],vs,h=>by unfold Aj at h;subst h;exact .inl ⟨rfl,rfl⟩
 |p::r,vs,h=>by
  obtain ⟨k',v,r',rfl,e,h1,h2⟩:=h;by_cases q:k'=k
  .subst q;exact .inr ⟨p.2,v,by unfold DM;rw[Ep,e];simp,by rw[Ja rfl],h1⟩
  .have e1:DM kf (p::r) k=DM kf r k:=by unfold DM;rw[Ep,e];simp[q]
   rw[e1,JP q];exact GI k h2
theorem R1 (k:κ):∀ {kvs:List (D × D)} {vs:List (κ × V)},Aj kf L H kvs vs->(kvs.any λp=>decide (kf p.1=some k))=(vs.any λkv=>decide (kv.1=k))
 |[],vs,h=>by unfold Aj at h;subst h;rfl
 |p::r,vs,h=>by
  obtain ⟨k',v,r',rfl,e,h1,h2⟩:=h;rw[List.any_cons,List.any_cons,R1 k h2,e];simp
theorem LH (k:κ) (hd:Rep L H d u):∀ {kvs:List (D × D)} {vs:List (κ × V)},Aj kf L H kvs vs->Aj kf L H (kvs.map λp=>if kf p.1=some k then (p.1,d) else p) (vs.map λkv=>if kv.1=k then (kv.1,u) else kv)
 |[],vs,h=>by unfold Aj at h;subst h;rfl
 |p::r,vs,h=>by
  obtain ⟨k',v,r',rfl,e,h1,h2⟩:=h;rw[AX,AX];by_cases q:k'=k
  .subst q;rw[AB e,AB rfl];exact ⟨k',u,_,rfl,e,hd,LH k' hd h2⟩
  .rw[AE (by rw[e];simpa using q),AE q];exact ⟨k',v,_,rfl,e,h1,LH k hd h2⟩
theorem Ot (hk:kf kd=some k) (hd:Rep L H d u):∀ {kvs:List (D × D)} {vs:List (κ × V)},Aj kf L H kvs vs->Aj kf L H (kvs++[(kd,d)]) (vs++[(k,u)])
 |[],vs,h=>by unfold Aj at h;subst h;exact ⟨k,u,[],rfl,hk,hd,rfl⟩
 |p::r,vs,h=>by
  obtain ⟨k',v,r',rfl,e,h1,h2⟩:=h;exact ⟨k',v,_,rfl,e,h1,Ot hk hd h2⟩
def NI {kf:D->Option κ} {L:Yg} {H:Hp} {k:κ} {kd d:D} {u:V} (hk:kf kd=some k) (hd:Rep L H d u) {kvs:List (D × D)} {vs:List (κ × V)} (h:Aj kf L H kvs vs):Aj kf L H (EZ kf kvs k kd d) (Bj vs k u):=by
 unfold EZ Bj;rw[R1 k h];split
 .exact LH k hd h
 .exact Ot hk hd h
end
theorem PV:∀ {ds:List D} {vs:List V} {ks:List Key},zR L H ds vs->GH ds=some ks->vs=ks.map kV
 |[],vs,ks,h,e=>by cases e;unfold zR at h;exact h
 |d::ds,vs,ks,h,e=>by
  unfold zR at h;obtain ⟨v,r,rfl,h1,h2⟩:=h;unfold GH at e;cases e1:C0 d with
  |none=>rw[e1]at e;cases e
  |some k=>
   cases e2:GH ds with
   |none=>rw[e1,e2]at e;cases e
   |some ks'=>
    rw[e1,e2]at e;cases e;rw[JY h1 e1,PV h2 e2];rfl
def Jy (h:Rep L H d v) (e:tkD d=some ks):∃ b,v=.ref b/\H b=some (.tup (ks.map kV)):=by
 cases d with
 |tup ds=>
  unfold Rep at h;obtain ⟨a,vs,rfl,e1,r⟩:=h;exact ⟨a,rfl,by rw[e1,PV r e]⟩
 |_=>cases e
noncomputable def Ff (M:Mem) (x:EV) (k:D):Option (Option D):=match x with
 |.dat (.ref n)=>match M[n]? with
  |some (.dict kvs)=>match C0 k with
   |some kk=>some (DM C0 kvs kk)
   |none=>none
  |some (.dicT kvs)=>match tkD k with
   |some kk=>some (DM tkD kvs kk)
   |none=>none
  |some (.froK kvs)=>match C0 k with
   |some kk=>some (DM C0 kvs kk)
   |none=>none
  |some (.froT kvs)=>match tkD k with
   |some kk=>some (DM tkD kvs kk)
   |none=>none
  |_=>none
 |_=>none
def PK (L:Yg) (H:Hp):Option D->Option V->Prop
 |none,o=>o=none
 |some d,o=>∃ v,o=some v/\Rep L H d v
def Jp {K:Yb} {L:Yg} {M:Mem} {H H0:Hp} {x:EV} {v w:V} {k:D} {o:Option D} (c:Cor K L M H) (rx:ze H0 L H x v) (rk:Rep L H k w) (e:Ff M x k=some o):∃ a ov,v=.ref a/\CA H a w ov/\PK L H o ov:=by
 cases x with
 |fl xs=>cases e
 |dat d=>
  cases d with
  |ref n=>
   unfold ze Rep at rx;obtain ⟨a,rfl,ea⟩:=rx;unfold Ff at e;dsimp only at e;cases q:M[n]? with
   |none=>rw[q]at e;cases e
   |some m=>
    rw[q]at e;have z:=c.obj n a m ea q;cases m with
    |dict kvs=>
     cases e2:C0 k with
     |none=>rw[e2]at e;cases e
     |some kk=>
      rw[e2]at e;cases e;obtain ⟨vs,e3,r⟩:=z;refine ⟨a,BV vs kk,rfl,?_,?_⟩
      .rw[JY rk e2];exact CA.k e3
      .rcases GI kk r with ⟨h1,h2⟩|⟨d,v,h1,h2,h3⟩
       .rw[h1,h2];rfl
       .rw[h1,h2];exact ⟨v,rfl,h3⟩
    |dicT kvs=>
     cases e2:tkD k with
     |none=>rw[e2]at e;cases e
     |some kk=>
      rw[e2]at e;cases e;obtain ⟨vs,e3,r⟩:=z;obtain ⟨b,rfl,eb⟩:=Jy rk e2;refine ⟨a,BV vs kk,rfl,CA.t e3 eb,?_⟩;rcases GI kk r with ⟨h1,h2⟩|⟨d,v,h1,h2,h3⟩
      .rw[h1,h2];rfl
      .rw[h1,h2];exact ⟨v,rfl,h3⟩
    |froK kvs=>
     cases e2:C0 k with
     |none=>rw[e2]at e;cases e
     |some kk=>
      rw[e2]at e;cases e;obtain ⟨ob,vs,e3,r⟩:=z;refine ⟨a,BV vs kk,rfl,.inl ⟨vs,kk,.inr ⟨ob,e3⟩,JY rk e2,rfl⟩,?_⟩;rcases GI kk r with ⟨h1,h2⟩|⟨d,v,h1,h2,h3⟩
      .rw[h1,h2];rfl
      .rw[h1,h2];exact ⟨v,rfl,h3⟩
    |froT kvs=>
     cases e2:tkD k with
     |none=>rw[e2]at e;cases e
     |some kk=>
      rw[e2]at e;cases e;obtain ⟨ob,vs,e3,r⟩:=z;obtain ⟨b,rfl,eb⟩:=Jy rk e2;refine ⟨a,BV vs kk,rfl,.inr ⟨vs,kk,b,.inr ⟨ob,e3⟩,rfl,eb,rfl⟩,?_⟩;rcases GI kk r with ⟨h1,h2⟩|⟨d,v,h1,h2,h3⟩
      .rw[h1,h2];rfl
      .rw[h1,h2];exact ⟨v,rfl,h3⟩
    |_=>cases e
  |_=>cases e
noncomputable def FL (M:Mem) (n:Nat) (k v:D):Option Mem:=match M[n]? with
 |some (.dict kvs)=>match C0 k with
  |some kk=>if kvs.length<sizeLine then some (M.set n (.dict (EZ C0 kvs kk k v))) else none
  |none=>none
 |some (.dicT kvs)=>match tkD k with
  |some kk=>if kvs.length<sizeLine then some (M.set n (.dicT (EZ tkD kvs kk k v))) else none
  |none=>none
 |_=>none
def P6 {K:Yb} {L:Yg} {M M':Mem} {H:Hp} {n:Nat} {a:Yt} {k v:D} {w u:V} (c:Cor K L M H) (ea:L[n]?=some a) (rk:Rep L H k w) (rv:Rep L H v u) (e:FL M n k v=some M'):∃ H',Dh H a w u H'/\Cor K L M' H'/\Stp L H L H':=by
 unfold FL at e;cases q:M[n]? with
 |none=>rw[q]at e;cases e
 |some m=>
  rw[q]at e;have z:=c.obj n a m ea q;cases m with
  |dict kvs=>
   cases e2:C0 k with
   |none=>rw[e2]at e;cases e
   |some kk=>
    rw[e2]at e;dsimp only at e;split at e
    .rename_i hl;cases e;obtain ⟨vs,e3,r⟩:=z;obtain ⟨c3,s3⟩:=c.put (m:=.dict (EZ C0 kvs kk k v)) (o':=.dK (Bj vs kk u)) ea e3 (λ_ z=>by cases z) (λ_ _ z=>by cases z) λs3=>⟨_,CV,(NI e2 rv r).stp s3⟩;refine ⟨_,?_,c3,s3⟩;rw[JY rk e2];exact Dh.k e3 (by rw[r.length];exact hl)
    .cases e
  |dicT kvs=>
   cases e2:tkD k with
   |none=>rw[e2]at e;cases e
   |some kk=>
    rw[e2]at e;dsimp only at e;split at e
    .rename_i hl;cases e;obtain ⟨vs,e3,r⟩:=z;obtain ⟨b,rfl,eb⟩:=Jy rk e2;obtain ⟨c3,s3⟩:=c.put (m:=.dicT (EZ tkD kvs kk k v)) (o':=.dT (Bj vs kk u)) ea e3 (λ_ z=>by cases z) (λ_ _ z=>by cases z) λs3=>⟨_,CV,(NI e2 rv r).stp s3⟩;exact ⟨_,Dh.t e3 eb (by rw[r.length];exact hl),c3,s3⟩
    .cases e
  |_=>cases e
noncomputable def BH:K2:=λx y M=>match y with
 |.dat k=>match Ff M x k with
  |some (some d)=>some (.dat d,M)
  |_=>none
 |_=>none
def Zq {K:Yb}:BQ K (λx y H Q=>∃ a v,x=.ref a/\CA H a y (some v)/\Q v H) BH:=by
 intro L M M' H H0 x y d v w Q c rx ry hk q;unfold BH at hk;split at hk
 .rename_i k;split at hk
  .rename_i d' e1;cases hk;obtain ⟨a,ov,rfl,h1,h2⟩:=Jp c rx ry e1;obtain ⟨u,rfl,r⟩:=h2;exact ⟨a,u,rfl,h1,q L H u (.refl L H) c r⟩
  .cases hk
 .cases hk
def a9 (hu:X.A.units+1<cLine) (h1:QE X o f) (h2:QE X i g) (hs:Lk i:=by intro _ _;rfl):QE X (.Subscript o i pos) (fOp BH f g):=.mk <| PE.imp (i9 hu h1.un h2.un hs) λ_ _ _ h=>Ej Zq h
noncomputable def Ag (neg:Bool):K2:=λx y M=>match x with
  |.dat k=>match Ff M y k with
    |some o=>some (.dat (.bl (if neg then !o.isSome else o.isSome)),M)
    |none=>none
  |_=>none
def Rf {o:Option D} {ov:Option V} (h:PK L H o ov):ov.isSome=o.isSome:=by
  cases o with
  | none => have h' : ov = none := h
            rw[h'];rfl
  |some d=>obtain ⟨v,rfl,_⟩:=h;rfl
def Rm {K:Yb}:BQ K (λy x H Q=>∃ a o,x=.ref a/\CA H a y o/\Q (.bl o.isSome) H) (Ag false):=by
 intro L M M' H H0 x y d v w Q c rx ry hk q;unfold Ag at hk;split at hk
 .rename_i k;split at hk
  .rename_i o e1;cases hk;obtain ⟨a,ov,rfl,h1,h2⟩:=Jp c ry rx e1;refine ⟨a,ov,rfl,h1,?_⟩;rw[Rf h2];exact q L H _ (.refl L H) c (Ca (L:=L) (H:=H))
  .cases hk
 .cases hk
def SG {K:Yb}:BQ K (λy x H Q=>∃ a o,x=.ref a/\CA H a y o/\Q (.bl (!o.isSome)) H) (Ag true):=by
 intro L M M' H H0 x y d v w Q c rx ry hk q;unfold Ag at hk;split at hk
 .rename_i k;split at hk
  .rename_i o e1;cases hk;obtain ⟨a,ov,rfl,h1,h2⟩:=Jp c ry rx e1;refine ⟨a,ov,rfl,h1,?_⟩;rw[Rf h2];exact q L H _ (.refl L H) c (Ca (L:=L) (H:=H))
  .cases hk
 .cases hk
def eR (hu:X.A.units+1<cLine) (h1:QE X a f) (h2:QE X b g) (hm:behindInMarks .In b=false:=by rfl):QE X (.Compare a [.In] [b] pos) (fOp (Ag false) f g):=.mk <| PE.imp (Qf (RI hu h1.un h2.un) hm) λ_ _ _ h=>Ej Rm h
def jU (hu:X.A.units+1<cLine) (h1:QE X a f) (h2:QE X b g) (hm:behindInMarks .NotIn b=false:=by rfl):QE X (.Compare a [.NotIn] [b] pos) (fOp (Ag true) f g):=.mk <| PE.imp (Qf (PR hu h1.un h2.un) hm) λ_ _ _ h=>Ej SG h
def Zy (hu:X.A.units+1<cLine) (h1:QE X a f) (h2:QE X b g) (hm:behindInMarks .In b=false:=by rfl):QT X (.Compare a [.In] [b] pos) (tst (fOp (Ag false) f g)):=.mk <| PT.imp (PL (RI hu h1.un h2.un) hm) λ_ _ _ h=>MY (λ_ _ _ z=>Ej Rm z) (J7 h)
def aN (hu:X.A.units+1<cLine) (h1:QE X a f) (h2:QE X b g) (hm:behindInMarks .NotIn b=false:=by rfl):QT X (.Compare a [.NotIn] [b] pos) (tst (fOp (Ag true) f g)):=.mk <| PT.imp (PL (PR hu h1.un h2.un) hm) λ_ _ _ h=>MY (λ_ _ _ z=>Ej SG z) (J7 h)
noncomputable def CC (fv fo fi:FE):FS:=λY M=>match toD fv Y M with
 |some (v,M1)=>match toD fo Y M1 with
  |some (.ref n,M2)=>match toD fi Y M2 with
   |some (k,M3)=>match FL M3 n k v with
    |some M4=>some (.nx,Y,M4)
    |none=>none
   |none=>none
  |_=>none
 |none=>none
def aT (hu:X.A.units+1<cLine) (hv:QE X value f) (ho:QE X o g) (hi:QE X i h) (hs:swapsWith value (some (.Subscript o i pos')) pos.line X.env=pure false:=by rfl):QS X (.Assign [.Subscript o i pos'] value pos) (CC f g h) :=
 .mk <| PS.imp (VA hu (CW ho).un (CW hi).un (CW hv).un hs) λE τ H zz=>by
  obtain ⟨L,Y,M,out,Y',M',c,rs,hf,q⟩:=zz;unfold CC at hf;split at hf
  .rename_i v M1 e1;split at hf
   .rename_i n M2 e2;split at hf
    .rename_i k M3 e3;split at hf
     .rename_i M4 e4;cases hf;refine ⟨L,Y,M,_,_,c,rs,e1,λL1 H1 u s1 c1 r1=>⟨L1,Y,M1,_,_,c1,rs.stp s1,e2,λL2 H2 y s2 c2 r2=>⟨L2,Y,M2,_,_,c2,(rs.stp s1).stp s2,e3,λL3 H3 z s3 c3 r3=>?_⟩⟩⟩;unfold Rep at r2;obtain ⟨a,rfl,ea⟩:=r2;have ea3:L3[n]?=some a:=by obtain ⟨N,hN⟩:=s3.pre;rw[hN];exact D6 ea
      obtain ⟨H4,h1,h2,h3⟩:=P6 c3 ea3 r3 ((r1.stp s2).stp s3) e4;exact ⟨a,H4,rfl,h1,q L3 H4 (((s1.trans s2).trans s3).trans h3) h2 τ ((((rs.stp s1).stp s2).stp s3).stp h3)⟩
     .cases hf
    .cases hf
   .cases hf
  .cases hf
noncomputable def CH (fo fi fx:FE):FE:=λY M=>match toD fo Y M with
 |some (.ref n,M1)=>match M1[n]? with
  |some (.dict _)|some (.dicT _)=>match toD fi Y M1 with
   |some (k,M2)=>match toD fx Y M2 with
    |some (x,M3)=>match Ff M3 (.dat (.ref n)) k with
     |some o=>some (.dat (o.getD x),M3)
     |none=>none
    |none=>none
   |none=>none
  |_=>none
 |_=>none
def jD (hu:X.A.units+1<cLine) (ho:QE X o f) (hi:QE X i g) (hx:QE X e h) (m:M2 X o "get" apos i e cpos):QE X (.Call (.Attribute o "get" apos) [i,e] [] cpos) (CH f g h) :=
 .mk <| PE.imp (XX hu (CW ho).un (CW hi).un (CW hx).un m) λτ H Q zz=>by
  obtain ⟨L,Y,M,d,M',c,rs,hf,q⟩:=zz
  have key:∀ n M1,toD f Y M=some (.ref n,M1)->(∃ kvs,M1[n]?=some (.dict kvs)\/M1[n]?=some (.dicT kvs))->(match toD g Y M1 with
   |some (k,M2)=>match toD h Y M2 with
    |some (x,M3)=>match Ff M3 (.dat (.ref n)) k with
     |some o=>some (EV.dat (o.getD x),M3)
     |none=>none
    |none=>none
   |none=>none)=some (d,M')->RZ (trD X.K (toD f)) (trD X.K (toD g)) (trD X.K (toD h)) τ H Q:=by
   intro n M1 e1 hd hf;split at hf
   .rename_i k M2 e2;split at hf
    .rename_i x M3 e3;split at hf
     .rename_i ov e4;cases hf;refine ⟨L,Y,M,_,_,c,rs,e1,λL1 H1 u s1 c1 r1=>?_⟩;unfold Rep at r1;obtain ⟨a,rfl,ea⟩:=r1;refine ⟨a,rfl,?_,L1,Y,M1,_,_,c1,rs.stp s1,e2,λL2 H2 y s2 c2 r2=>⟨L2,Y,M2,_,_,c2,(rs.stp s1).stp s2,e3,λL3 H3 z s3 c3 r3=>?_⟩⟩
      .obtain ⟨kvs,hk|hk⟩:=hd
       .obtain ⟨vs,e5,_⟩:=c1.obj n a _ ea hk;exact .inl ⟨vs,.inl e5⟩
       .obtain ⟨vs,e5,_⟩:=c1.obj n a _ ea hk;exact .inr ⟨vs,.inl e5⟩
      .have ra:ze H L3 H3 (.dat (.ref n)) (.ref a):=by
        unfold ze Rep;exact ⟨a,rfl,by obtain ⟨N,hN⟩:=(s2.trans s3).pre;rw[hN];exact D6 ea⟩
       obtain ⟨a',o',e6,h1,h2⟩:=Jp c3 ra (r2.stp s3) e4;cases e6;refine ⟨o',h1,?_⟩;cases ov with
       |none=>
        have h':o'=none:=h2;subst h';exact q L3 H3 _ ((s1.trans s2).trans s3) c3 r3
       |some dd=>
        obtain ⟨v,rfl,rv⟩:=h2;exact q L3 H3 _ ((s1.trans s2).trans s3) c3 rv
     .cases hf
    .cases hf
   .cases hf
  unfold CH at hf;split at hf
  .rename_i n M1 e1;split at hf
   .rename_i kvs e5;exact key n M1 e1 ⟨kvs,.inl e5⟩ hf
   .rename_i kvs e5;exact key n M1 e1 ⟨kvs,.inr e5⟩ hf
   .cases hf
  .cases hf
end L3
namespace L2
def Sn {kx vx target iter ifs rest scope pos it acc env}
  (h0:codeAny (model prog w) A (.compLoop (.DictComp kx vx (⟨target,iter,ifs,0⟩::rest) scope pos) 0 it acc env) R s)
  (h:wpAny (model prog w) A (pyIter it) (λit' s'=>codeAny (model prog w) A (.compLoop (.DictComp kx vx (⟨target,iter,ifs,0⟩::rest) scope pos) 0 it' acc env) R s')
   (notedBy (model prog w) A env λx s'=>R (.error x) s') s) :
  codeAny (model prog w) A (.compStart (.DictComp kx vx (⟨target,iter,ifs,0⟩::rest) scope pos) 0 it acc env) R s:=by
 refine codeAny_of_tree ?_;show wpAny _ _ ((compStart (.DictComp kx vx (⟨target,iter,ifs,0⟩::rest) scope pos) 0 it acc env).onRaise (λx=>do noteFrame x env;standAt theWindowsPlace)) _ _ s;refine wpAny_notedAt ?_;unfold compStart;refine AA (wpAny_askSetting (wpAny_ite ?_));split
 .first
   |exact AA (AD (AD (And.intro rfl h0)))
   |exact AD (And.intro rfl h0)
 .first
   |exact AA (Cm (AA (CU (AA (AS h (λit' s' h'=>AD (And.intro rfl h')) λ_ _ x=>x)))))
   | (refine AA (Cm ?_);show wpAny _ _ (standAt iter.pos >>= _) _ _ s;exact AA (CU (AA (AS h (λit' s' h'=>AD (And.intro rfl h')) λ_ _ x=>x))))
def Inv.trackAt (I:Inv X zB Y H s) (ho:s.heap.get? D=some o) (hn:H D=none) (h0:X.s₀.heap.objs.size<=D) (hL:D≠X.env.locals) (hc:∀ x c,X.env.cells.lookup x=some c->c≠D) (hp:∀ p∈X.pn++zB,p.1≠D)
  (new:Ar X.prog X.w (upd H D u) s.heap D u):Inv X zB Y (upd H D u) s:=by
 have un:∀ b v,H b=some v->upd H D u b=some v:=λb v e=>by rw[zf (DX e hn)];exact e
 have e0:s={ s with heap:=s.heap,gens:=s.gens,drawn:=s.drawn,toks:=s.toks }:=by cases s;rfl
 rw[e0];refine I.step (g':=s.gens) (d':=s.drawn) (ch:=[D]) (λb hb=>?_) (λb v _ _ _ e _=>e) (λb v _ _ _ e _=>⟨v.slots,e⟩) (λb v hb e n=>?_) (λb v _ e=>⟨v,e⟩) (λb xs e=>un b _ e) (λb p v e=>un b _ e) (λb ps e=>⟨#[],by rw[un b _ e];simp⟩) (λm hm=>hm) (λb v e=>?_) I.bare
 .have:b=D:=by simpa using hb
  subst this;exact ⟨.inr h0,hL,hc,hp⟩
 .rw[zf (λz=>hb (by simp[z]))];exact n
 .by_cases hb:b=D
  .subst hb;rw[CV]at e;cases e;exact new
  .rw[zf hb]at e;exact (I.hok b v e).stay (λc v hc q=>q) (λc q=>un c _ q) λc xs q=>un c _ q
def WV (hu:A.units+1<cLine) (I:Inv X zB Y H s) (g:Dh H a y v H') (ry:zr y u) (rv:zr v r) (h:∀ s',Inv X zB Y H' s'->Heap.SameBut a s.heap s'.heap->Q () s') :
  wpAny (model X.prog X.w) A (dictSet a u r) Q E s:=by
 rcases g with ⟨kvs,k,e,ey,l,eH⟩|⟨kvs,k,b,e,ey,eb,l,eH⟩
 .subst ey eH;obtain ⟨z,hd,vs,rel,dd⟩:=R3 I.hok e;have hz:vs.length<=sizeLine:=by rw[<-rel.length];exact z
  have hl:(Bj kvs k v).length<=sizeLine:=by have:=Hq kvs k v;omega
  refine wpAny_dictSet_pairs (hsz:=hz) (GJ ry) dd λh' dd' hs=>h _ ?_ hs;have he:∃ q,h'.get? a=some q:=let ⟨q,_,_,hq,_⟩:=dd';⟨q,hq⟩;exact JA I (by rw[e];exact True.intro) hs he (Ru hl hd (rel.put k rv) dd')
 .subst ey eH;cases (show u=Value.ref b from ry);obtain ⟨z,hd,xs,rel,dd⟩:=K8 I.hok e;have hz:xs.length<=sizeLine:=by rw[<-Paired.length rel];exact z
  have hl:(Bj kvs k v).length<=sizeLine:=by have:=Hq kvs k v;omega
  refine wpAny_dictSet_heap (hsz:=hz) (show (tupleKind (CP X.prog X.w)).room A from Nat.lt_of_succ_lt hu) (F7 I.hok eb) dd λh' dd' hs=>h _ ?_ hs;obtain ⟨q,es,ep,hq,h2,h3,h4,_,h5⟩:=dd';refine JA I (by rw[e];exact True.intro) hs ⟨q,hq⟩ ⟨hl,hd,_,(rel.put k eb rv).keeps λc ys ec=>?_,q,es,ep,hq,h2,h3,h4,h5⟩;rw[zf (GX ec e (λz=>nomatch z))];exact ec
noncomputable def GV (isT:Bool):HO:=if isT then .dT [] else .dK []
noncomputable abbrev Es:Obj:={ cls:=.type "dict", data:=.dict #[] }
section
variable {pos:Pos}
 {own:Yj} {g:TG} {tc:TT} {tk tv:TE} {E:Yc} {isT:Bool}
def Ro (hu:X.A.units+1<cLine) (C:CompIn X scope own) (hcalm:X.calm=true) (I:Inv X zB Y H s) (T:Turn X.prog X.w X.K tg J fp it tn) (st:tn 0 s.heap) (hf:∀ b∈fp,BX X zB H b)
  (c1:∀ x c,cl.lookup x=some c->X.env.cells.lookup x=some c) (c2:∀ y∈scope.names,y.2=.free->(cl.lookup y.1).isSome=true)
  (hg:PG (zQ X zB scope cl s H fp) tg g) (hi:Ds (zQ X zB scope cl s H fp) ifs tc) (hk:PE (zQ X zB scope cl s H fp) kx tk) (hv:PE (zQ X zB scope cl s H fp) vx tv)
  {RR:Value->Addr->Result->Shared->Prop} {QQ:Hp->Prop} {W:Nat->Nat->Hp->Prop} {m0:Nat} (w0:W 0 m0 (upd H s.heap.objs.size (GV isT)))
  (turn:∀ i m H,W i m H->(J.stop i H/\QQ H) \/
   (J.go i H /\ ∀ x H',J.yld i H x H'->g x (clr own Y) H' λσ2 H2=>Ext (clr own Y) σ2/\tc σ2 H2 λb H3=>
    if b=true then tk σ2 H3 λk H4=>tv σ2 H4 λv H5=>∃ H6 m',Dh H5 s.heap.objs.size k v H6/\m'<m/\W (i+1) m' H6 else ∃ m',m'<m/\W (i+1) m' H3))
  (fin:∀ σc H' s',Inv (zQ X zB scope cl s H fp) [] σc H' s'->QQ H'->RR (.ref s.heap.objs.size) (s.heap.objs.size+1) (.ok .next) s') :
  wpAny (model X.prog X.w) X.A newDict (λacc s₃=>wpAny (model X.prog X.w) X.A (newFunctionEnv scope X.env.globals cl [] X.env.qual none .none (some X.env)) (λcenv s₄=>
   codeAny (model X.prog X.w) X.A (.compStart (.DictComp kx vx [⟨tg,iter,ifs,0⟩] scope pos) 0 (.ref it) acc { cenv with scope:=relabel scope X.env }) (RR acc cenv.locals) s₄) E s₃) E s:=by
 have ob:∀ b:Nat,b∈fp->b<s.heap.objs.size:=λb hb=>let ⟨_,e,_⟩:=T.obj 0 _ st b hb;AI e;refine Ba (JO ?_);have sz1:(s.heap.push Es).objs.size=s.heap.objs.size+1:=Bu ..;have I4:=Jt (X:=X) (zB:=zB) (Y:=Y) (σc:=clr own Y) (H:=H) (s:=s) (scope:=scope) (cl:=cl) (fp:=fp) C.sc I hf ob c1 c2 (GK own Y) (λi x v h1 h2 h3=>by
  obtain ⟨a,b⟩:=FQ own Y i v h2;rcases C.nm i x h1 with z|z|z
  .exact absurd z b
  .exact absurd (KD x z) h3
  .exact ⟨z,a⟩) Es (by intro v z;cases z) rfl rfl
 have st4:tn 0 (pushCells ((s.heap.push Es).push { cls:=.type "dict", data:=.dict #[] }) scope.names):=T.keep 0 _ _ st λb _ o e=>pushCells_keeps _ _ b o (AN _ (AN _ e));unfold newEnv;rw[sz1];have hDfp:s.heap.objs.size∉fp:=λz=>BZ _ (ob _ z);obtain ⟨pD,nD,neD,nfD,dD⟩:=I4.pin (s.heap.objs.size,Es) (by simp);have hcD:∀ x c,(zQ X zB scope cl s H fp).env.cells.lookup x=some c->c≠s.heap.objs.size:=λx c e z=>by
  obtain ⟨v,o,ho,hd⟩:=I4.cell x c e;rw[z,pD]at ho;cases ho;cases hd
 have hpn:∀ p∈(zQ X zB scope cl s H fp).pn++[],p.1≠s.heap.objs.size:=λp hp=>by
  rw[Au]at hp;have hp':p∈X.pn++zB:=hp;exact AY (AI (I.pin p hp').1)
 have big:sysModules<s.heap.objs.size:=I.big;have hsm:(s.heap.objs.size==sysModules)=false:=by rw[beq_eq_false_iff_ne];exact Dd big
 have I5:Inv (zQ X zB scope cl s H fp) [] (clr own Y) (upd H s.heap.objs.size (GV isT)) { s with heap:=pushCells ((s.heap.push Es).push { cls:=.type "dict", data:=.dict #[] }) scope.names }:=by
  have I4':Inv (zQ X zB scope cl s H fp) [] (clr own Y) H { s with heap:=pushCells ((s.heap.push Es).push { cls:=.type "dict", data:=.dict #[] }) scope.names }:=I4.pins_of λp hp=>nomatch hp;refine I4'.trackAt pD nD (AF _) neD hcD hpn ?_;cases isT with
  |false=>exact ⟨BD _,hsm,[],.nil,Es,#[],0,pD,⟨rfl,rfl,rfl⟩,rfl,λ_ he=>by simp at he,.nil,List.nodup_nil⟩
  |true=>exact ⟨BD _,hsm,[],.nil,Es,#[],0,pD,⟨rfl,rfl,rfl⟩,rfl,rfl,List.nodup_nil⟩
 have fpk:∀ {H':Hp},(∀ b∈fp,H' b=none) -> ∀ b∈fp,BX (zQ X zB scope cl s H fp) [] H' b:=λ{H'} hn b hb=>
  ⟨hn b hb,(I4.ok.exf b hb).1,I4.ok.exfs b hb,.inl hb,(I4.ok.exf b hb).2,λp hq=>by
   rw[Au]at hq;exact (hf b hb).2.2.2.2.2 p hq⟩
 have loop:codeAny (model X.prog X.w) X.A (.compLoop (.DictComp kx vx [⟨tg,iter,ifs,0⟩] scope pos) 0 (.ref it) (.ref s.heap.objs.size) (zQ X zB scope cl s H fp).env) (RR (.ref s.heap.objs.size) (s.heap.objs.size+1))
   { s with heap:=pushCells ((s.heap.push Es).push { cls:=.type "dict", data:=.dict #[] }) scope.names }:=by
  refine mB (λn s'=>∃ i H',Inv (zQ X zB scope cl s H fp) [] (clr own Y) H' s'/\tn i s'.heap/\(∀ b∈fp,H' b=none)/\W i n H') ?_ m0
   ⟨0,_,I5,st4,λb hb=>by rw[zf (show b≠s.heap.objs.size from λz=>hDfp (by rw[<-z];exact hb))];exact (hf b hb).1,w0⟩
  rintro n s5 ⟨i,H5,J5,st5,f5,w5⟩;rcases turn i n H5 w5 with ⟨stop,qq⟩|⟨go,step⟩
  .refine thn (T.done (zQ X zB scope cl s H fp) rfl rfl rfl hcalm i _ s5 _ H5 _ J5 (fpk f5) st5 stop) λr s6 ⟨hr,I6⟩=>?_;subst hr;exact fin _ H5 s6 I6 qq
  .refine thn (T.item (zQ X zB scope cl s H fp) rfl rfl rfl hcalm i _ s5 _ H5 _ J5 (fpk f5) st5 go) λr s6 ⟨u,hr,h6⟩=>?_;subst hr;refine thn h6 λ_ s7 ⟨x,H7,I7,r7,y7,st7,f7⟩=>?_;have I7':=I7.pinned (fpk f7) (T.obj _ _ st7);refine thn (hg _ s7 _ H7 x u _ I7' r7 (step x H7 y7)) λ_ s8 ⟨σ8,H8,I8,x8,q8⟩=>?_;refine thn (hi _ s8 σ8 H8 _ I8 q8) λok s9 ⟨H9,I9,q9⟩=>?_;have back:∀ {s':Yl} {Hx:Hp},Inv (zQ X zB scope cl s H fp) ([]++EF fp s7.heap) σ8 Hx s'->tn (i+1) s'.heap /\ ∀ b∈fp,Hx b=none:=λ{s' Hx} Ix=>
    ⟨T.keep _ _ _ st7 λb hb o e=>(Ix.pin (b,o) (Ap _ (Ap _ (Dl hb e)))).1,λb hb=>by
     obtain ⟨o,e,d⟩:=T.obj _ _ st7 b hb;exact (Ix.pin (b,o) (Ap _ (Ap _ (Dl hb e)))).2.1⟩
   cases ok with
   |false=>
    obtain ⟨m',hm,w'⟩:=q9;obtain ⟨b1,b2⟩:=back I9;exact ⟨m',hm,i+1,H9,(I9.weak (by rw[x8.1]) x8.2).unpinned,b1,b2,w'⟩
   |true=>
    refine thn (hk _ s9 σ8 H9 _ I9 q9) λkv s10 ⟨y,H10,I10,r10,q10⟩=>?_;refine thn (hv _ s10 σ8 H10 _ I10 q10) λvv s11 ⟨z,H11,I11,r11,H12,m',hp,hm,w'⟩=>?_;refine WV (X:=zQ X zB scope cl s H fp) hu I11 hp r10 r11 λs12 I12 hs=>?_;obtain ⟨b1,b2⟩:=back I12;exact ⟨m',hm,i+1,H12,(I12.weak (by rw[x8.1]) x8.2).unpinned,b1,b2,w'⟩
 exact Sn loop (T.self _ 0 _ _ _ st4 loop)
def Oa (I:Inv X zB Y H s) (hf:∀ b∈fp,BX X zB H b)
  (Ic:Inv (zQ X zB scope cl s H fp) [] σc H' s') (hs:Heap.SameBut (s.heap.objs.size+1) s'.heap h'):Inv X zB Y H' { s' with heap:=h' }:=by
 have nC:H' (s.heap.objs.size+1)=none:=Ic.free;have lt1:∀ {b:Yt} {o:Obj},s.heap.get? b=some o->b≠s.heap.objs.size+1:=λe=>AY (CY (AI e));have tr:∀ b u,H' b=some u->b≠s.heap.objs.size+1:=λb u e z=>by rw[z,nC]at e;cases e
 have B:=Ic.base;have un:Un (frs X.stack) fp H H' s.heap h':=by
  refine ⟨λb o e q hb hx=>hs.extBut b o (lt1 e) (B.keep b o e q hb hx),λb o e q hb hx=>?_,λb o e q hx=>B.free b o e q hx,λb o e hx=>?_,λb xs e=>B.tups b xs e,λb o xs e=>B.frzs b o xs e,λb ps e=>B.tbls b ps e⟩
  .obtain ⟨sl,e1⟩:=B.slot b o e q hb hx;exact ⟨sl,hs.extBut b _ (lt1 e) e1⟩
  .obtain ⟨o',e1⟩:=B.there b o e hx;exact ⟨o',hs.extBut b _ (lt1 e) e1⟩
 have hok:HOk X.prog X.w H' h':=λb u e=>by
  refine (Ic.hok b u e).stay (λc v hc q=>hs.extBut c v ?_ q) (λc q=>q) λc xs q=>q;rcases hc with z|z
  .rw[z];exact tr b u e
  .exact tr c _ z
 exact I.call' (s':={ s' with heap:=h' }) (ch:=fp) Ic.os un hok Ic.bare λb hb=>⟨(hf b hb).2.2.2.1,(hf b hb).2.1,(hf b hb).2.2.2.2.1,(hf b hb).2.2.2.2.2⟩
end
noncomputable def Lq (isT:Bool) (own:Yj) (wi:TI) (g:TG) (tc:TT) (tk tv:TE):TE:=λY H Q=>wi Y H λJ H1=>∀ D,H1 D=none -> ∃ W:Nat->Nat->Hp->Prop,(∃ m,W 0 m (upd H1 D (GV isT))) /\ ∀ i m H,W i m H ->
 (J.stop i H/\Q (.ref D) H) \/
 (J.go i H /\ ∀ x H',J.yld i H x H'->g x (clr own Y) H' λσ2 H2=>Ext (clr own Y) σ2/\tc σ2 H2 λb H3=>
  if b=true then tk σ2 H3 λk H4=>tv σ2 H4 λv H5=>∃ H6 m',Dh H5 D k v H6/\m'<m/\W (i+1) m' H6 else ∃ m',m'<m/\W (i+1) m' H3)
def T4 (hu:X.A.units+1<cLine) (C:CompIn X scope own) (hcalm:X.calm=true) (hi:PI X tg iter wi) (p:CompParts X scope tg ifs kx g tc tk) (p2:∀ zB cl s H fp,PE (zQ X zB scope cl s H fp) vx tv) (hs:∀ x,foldedSetIterable iter X.env x=pure x:=by intro _;rfl) :
  PE X (.DictComp kx vx [⟨tg,iter,ifs,0⟩] scope pos) (Lq isT own wi g tc tk tv):=by
 intro zB s Y H Q I h;obtain ⟨cl,hcl,c1,c2⟩:=C.sc.closure I;rw[arm_eval_DictComp];refine Hg (use:=none) rfl hs hcl C.sc.kind C.sc.names (thn (hi zB s Y H _ I h) λv s1 h1=>thn h1 λitv s2 h2=>?_);obtain ⟨it,fp,tn,J,H2,e,I2,T,st2,f2,hD⟩:=h2;subst e;obtain ⟨W,⟨m0,w0⟩,turn⟩:=hD s2.heap.objs.size (I2.hok.fresh (AF _));refine Ro hu C hcalm I2 T st2 f2 c1 c2 (p.g _ _ _ _ _) (p.c _ _ _ _ _) (p.e _ _ _ _ _) (p2 _ _ _ _ _) (RR:=λacc C r s'=>compPost (model X.prog X.w) X.A X.xe none (EP X zB Y Q) acc C r s') (QQ:=λH=>Q (.ref s2.heap.objs.size) H) w0 turn ?_;intro σc H' s' Ic qq;obtain ⟨m,hn,_⟩:=Ic.loc;refine ⟨m,hn,λh' hs'=>?_⟩;exact ⟨.ref s2.heap.objs.size,_,Oa I2 f2 Ic hs',rfl,qq⟩
end L2
namespace L3
open L2
noncomputable def Jl (isT:Bool):MO:=if isT then .dicT [] else .dict []
noncomputable def Cs (g:FG) (tc:FT) (tk tv:FE) (Y:Sd) (n:Nat) (all:List D) (gd:Option (Mem->Prop)):List D->Mem->Option Mem
 |[],M=>open Classical in if BN gd all M then some M else none
 |x::r,M=>open Classical in if BN gd all M then match g x Y with
   |some σ1=>match tc σ1 M with
    |some (true,M1)=>match toD tk σ1 M1 with
     |some (k,M2)=>match toD tv σ1 M2 with
      |some (v,M3)=>match FL M3 n k v with
       |some M4=>Cs g tc tk tv Y n all gd r M4
       |none=>none
      |none=>none
     |none=>none
    |some (false,M1)=>Cs g tc tk tv Y n all gd r M1
    |none=>none
   |none=>none
  else none
noncomputable def EM (isT:Bool) (own:Yj) (fi:FI) (g:FG) (tc:FT) (tk tv:FE):FE:=λY M=>match fi Y M with
 |some (xs,gd,M1)=>match Cs g tc tk tv (An own Y) M1.length xs gd xs (M1++[Jl isT]) with
  |some M2=>some (.dat (.ref M1.length),M2)
  |none=>none
 |none=>none
def RX {K:Yb} {isT:Bool} {own:Yj} {fi:FI} {g:TG} {fg:FG} {tc:FT} {tk tv:FE} (hg:DF own g fg) {τ:Sv} {H:Hp} {Q:VK} (h:trE K (EM isT own fi fg tc tk tv) τ H Q):Lq isT own (trI K fi) g (trT K tc) (trD K (toD tk)) (trD K (toD tv)) τ H Q:=by
 obtain ⟨L,Y,M,d,Mf,c,rs,hf,q⟩:=h;unfold EM at hf;split at hf
 .rename_i xs gd M1 e1;split at hf
  .rename_i M2 e2;cases hf;refine ⟨L,Y,M,_,_,_,c,rs,e1,λL1 H1 J s1 c1 it p hp=>?_⟩;obtain ⟨c0,s0⟩:Cor K (L1++[p]) (M1++[Jl isT]) (upd H1 p (GV isT))/\Stp L1 H1 (L1++[p]) (upd H1 p (GV isT)):=by
    cases isT with
    |true=>exact c1.pushO (m:=.dicT []) hp ⟨[],CV,rfl⟩
    |false=>exact c1.pushO (m:=.dict []) hp ⟨[],CV,rfl⟩
   have lp0:(L1++[p])[M1.length]?=some p:=by rw[<-c1.len];simp
   refine ⟨λi m H'=>m=xs.length-i/\i<=xs.length /\ ∃ L' M',Stp (L1++[p]) (upd H1 p (GV isT)) L' H'/\Cor K L' M' H'/\Cs fg tc tk tv (An own Y) M1.length xs gd (xs.drop i) M'=some Mf,
    ⟨xs.length,by simp,BD _,_,_,.refl _ _,c0,by simpa using e2⟩,?_⟩
   rintro i m H' ⟨rfl,hi,L',M',s',c',e'⟩;have lp:L'[M1.length]?=some p:=by obtain ⟨N,hN⟩:=s'.pre;rw[hN];exact D6 lp0
   by_cases hlt:i<xs.length
   .rw[HJ hlt]at e';unfold Cs at e';split at e'
    .rename_i hgd;obtain ⟨step,_⟩:=it L' H' M' (s0.trans s') c' hgd;obtain ⟨go,yl⟩:=step i xs[i] (AV hlt);split at e'
     .rename_i σ1 eg;refine .inr ⟨go,λv H2 hy=>?_⟩;obtain ⟨gr,rv⟩:=yl v H2 hy;have s2:Stp (L1++[p]) (upd H1 p (GV isT)) L' H2:=s'.yld gr;refine hg (HC own (((rs.stp s1).stp s0).stp s2)) (.refl _) rv eg λτ2 r2 x2=>⟨x2,?_⟩;split at e'
      .rename_i M3 e3;split at e'
       .rename_i kd M4 e4;split at e'
        .rename_i vd M5 e5;split at e'
         .rename_i M6 e6;refine ⟨L',σ1,M',_,_,c'.grow gr,r2,e3,λL3 H3 s3 c3=>Dn ?_⟩;refine ⟨L3,σ1,M3,_,_,c3,r2.stp s3,e4,λL4 H4 w s4 c4 r4=>?_⟩;refine ⟨L4,σ1,M4,_,_,c4,(r2.stp s3).stp s4,e5,λL5 H5 u s5 c5 r5=>?_⟩;have st:Stp L' H' L5 H5:=(((Stp.grow gr).trans s3).trans s4).trans s5;have lp5:L5[M1.length]?=some p:=by obtain ⟨N,hN⟩:=st.pre;rw[hN];exact D6 lp
          obtain ⟨H6,h1,h2,h3⟩:=P6 c5 lp5 (r4.stp s5) r5 e6;exact ⟨H6,xs.length-(i+1),h1,by omega,rfl,hlt,L5,M6,(s'.trans st).trans h3,h2,e'⟩
         .cases e'
        .cases e'
       .cases e'
      .rename_i M3 e3;refine ⟨L',σ1,M',_,_,c'.grow gr,r2,e3,λL3 H3 s3 c3=>Dr ?_⟩;have st:Stp L' H' L3 H3:=(Stp.grow gr).trans s3;exact ⟨xs.length-(i+1),by omega,rfl,hlt,L3,M3,s'.trans st,c3,e'⟩
      .cases e'
     .cases e'
    .cases e'
   .have hi':i=xs.length:=by omega
    subst hi';rw[List.drop_length]at e';unfold Cs at e';split at e'
    .rename_i hgd;cases e';obtain ⟨_,stop⟩:=it L' H' _ (s0.trans s') c' hgd;refine .inl ⟨stop,?_⟩;refine q L' _ _ ((s1.trans s0).trans s') c' ?_;unfold ze Rep;exact ⟨p,rfl,lp⟩
    .cases e'
  .cases hf
 .cases hf
section
variable {isT:Bool}
def ZQ {fi:FI} {g:TG} {fg:FG} {tc:FT} {tk tv:FE} (hu:X.A.units+1<cLine) (hg:DF own g fg) (C:CompIn X scope own) (hcalm:X.calm=true) (hi:QI X tg iter fi) (p:QParts X scope tg ifs kx g tc tk) (p2:∀ zB cl s H fp,QE (zQ X zB scope cl s H fp) vx tv) (hs:∀ x,foldedSetIterable iter X.env x=pure x:=by intro _;rfl) :
  QE X (.DictComp kx vx [⟨tg,iter,ifs,0⟩] scope pos) (EM isT own fi fg tc tk tv) :=
 .mk <| PE.imp (T4 (isT:=isT) hu C hcalm hi.un p.parts (λ_ _ _ _ _=>(CW (p2 _ _ _ _ _)).un) hs) λ_ _ _ h=>RX hg h
end
noncomputable def Bc:Nat->D->Bool
 |0,.int _=>true
 |n+1,.tup ds=>ds.all (Bc n)
 |_,_=>false
noncomputable def Am:Nat->D->D->Bool
 |0,.int i,.int j=>decide (i=j)
 |n+1,.tup xs,.tup ys=>xs.length==ys.length&&(xs.zip ys).all λq=>Am n q.1 q.2
 |_,_,_=>false
theorem Le:∀ (n:Nat) (x:D),Bc n x=true->Am n x x=true
 |0,.int i,_=>by simp[Am]
 |n+1,.tup xs,h=>by
  unfold Bc at h;unfold Am;rw[Bi]at h;simp only[beq_self_eq_true,Bool.true_and];rw[Bi];intro q hq;have:q.1=q.2:=by
   obtain ⟨i,hi,e⟩:=En hq;rw[List.getElem_zip]at e;rw[<-e]
  rw[<-this];exact Le n _ (h q.1 (List.of_mem_zip hq).1)
 |0,.non,h=>by cases h
 |0,.bl _,h=>by cases h
 |0,.str _,h=>by cases h
 |0,.tup _,h=>by cases h
 |0,.ref _,h=>by cases h
 |n+1,.non,h=>by cases h
 |n+1,.bl _,h=>by cases h
 |n+1,.int _,h=>by cases h
 |n+1,.str _,h=>by cases h
 |n+1,.ref _,h=>by cases h
def Wk:∀ (n:Nat) (x y:D),Bc n x=true->Bc n y=true->Am n x y=true->x=y:=by
 intro n;induction n with
 |zero=>
  intro x y hx hy h;cases x <;> first|cases hx|skip
  cases y <;> first|cases hy|skip
  unfold Am at h;rw[D1 h]
 |succ n ih=>
  intro x y hx hy h;cases x <;> first|cases hx|skip
  cases y <;> first|cases hy|skip
  rename_i xs ys;unfold Bc at hx hy;unfold Am at h;rw[Bi]at hx hy;rw[BR,beq_iff_eq,Bi]at h;congr 1;apply List.ext_getElem h.1;intro i h1 h2;refine ih _ _ (hx _ (Bl h1)) (hy _ (Bl h2)) ?_;exact h.2 (xs[i],ys[i]) (by
   have hz:i<(xs.zip ys).length:=by rw[List.length_zip];omega
   have:=Bl hz;rw[List.getElem_zip]at this;exact this)
def S3:∀ (n:Nat) (x y:D) (v:V),Bc n x=true->Bc n y=true->Rep L H x v->Rep L H y v->x=y:=by
 intro n;induction n with
 |zero=>
  intro x y v hx hy rx ry;cases x <;> first|cases hx|skip
  cases y <;> first|cases hy|skip
  unfold Rep at rx ry;rw[rx]at ry;cases ry;rfl
 |succ n ih=>
  intro x y v hx hy rx ry;cases x <;> first|cases hx|skip
  cases y <;> first|cases hy|skip
  rename_i xs ys;unfold Bc at hx hy;rw[Bi]at hx hy;unfold Rep at rx ry;obtain ⟨a,vs,rfl,e,r⟩:=rx;obtain ⟨a',vs',e1,e2,r'⟩:=ry;cases e1;rw[e]at e2;cases e2;congr 1;have hl:xs.length=ys.length:=by rw[<-r.length,r'.length]
  apply List.ext_getElem hl;intro i h1 h2;obtain ⟨u,hu,ru⟩:=r.get (AV h1);obtain ⟨u',hu',ru'⟩:=r'.get (AV h2);rw[hu]at hu';cases hu';exact ih _ _ u (hx _ (Bl h1)) (hy _ (Bl h2)) ru ru'
def RQ {xs ys:List D} (f:D->D->Bool) (h:xs.length=ys.length):((List.range xs.length).all λj=>f (xs.getD j .non) (ys.getD j .non))=(xs.zip ys).all λq=>f q.1 q.2:=by
  rw[DZ,Bi,Bi];constructor
  . intro hh q hq
    obtain ⟨i,hi,e⟩:=En hq;rw[List.getElem_zip]at e;rw[List.length_zip]at hi;have:=hh i (by simp;omega);rw[<-e];simpa [BM,show i<xs.length by omega,show i<ys.length by omega] using this
  . intro hh i hi
    have h1:i<xs.length:=by simpa using hi
    have h2:i<ys.length:=by omega
    have hz:i<(xs.zip ys).length:=by rw[List.length_zip];omega
    have:=hh (xs.zip ys)[i] (Bl hz);rw[List.getElem_zip]at this;simpa [BM,h1,h2] using this
def PM (I : Inv X zB Y H s) : ∀ (n : Nat) (A : Around) (x y : D) (v w : V) (u u' : Value), A.units + n < cLine -> Bc n x = true -> Bc n y = true -> Rep L H x v -> Rep L H y w -> zr v u -> zr w u' -> SeqAt.EqAt A s u u' (Am n x y) := by
  intro n;induction n with
  |zero=>
    intro A x y v w u u' hu hx hy rx ry ru ru';cases x <;> first|cases hx|skip
    cases y <;> first|cases hy|skip
    unfold Rep at rx ry;subst rx;subst ry;obtain ⟨t,rfl⟩:=ru;obtain ⟨t',rfl⟩:=ru';have:=SeqAt.EqAt.int_int (A:=A) (s:=s) ‹Int› t ‹Int› t';unfold Am;rename_i i j;have h:=SeqAt.EqAt.int_int (A:=A) (s:=s) i t j t';have e:(i==j)=decide (i=j):=by by_cases q:i=j <;> simp[q]
    rw[e]at h;exact h
  | succ n ih =>
    intro A x y v w u u' hu hx hy rx ry ru ru';cases x <;> first|cases hx|skip
    cases y <;> first|cases hy|skip
    rename_i xs ys;have hx':=hx;have hy':=hy;have rx':=rx;have ry':=ry;unfold Bc at hx hy;rw[Bi]at hx hy;unfold Rep at rx ry;obtain ⟨a,vs,rfl,e,r⟩:=rx;obtain ⟨b,ws,rfl,e2,r2⟩:=ry;cases ru;cases ru';by_cases hab:a=b
    . subst hab
      have:=S3 (n+1) _ _ _ hx' hy' rx' ry';rw[this,Le (n+1) _ hy'];exact SeqAt.EqAt.same _
    · refine SeqAt.EqAt.of_refs hab ?_
      obtain ⟨its,rv,p1,_⟩:=I.tuple (.of e);obtain ⟨its2,rv2,p2,_⟩:=I.tuple (.of e2);have l1:its.toArray.size=xs.length:=by rw[AQ,<-rv.length,r.length]
      have l2:its2.toArray.size=ys.length:=by rw[AQ,<-rv2.length,r2.length]
      have key := SeqAt.RcAt.tuples (A := A) (s := s) (l := a) (b := b) (items := its.toArray) (items2 := its2.toArray) (e := fun j => Am n (xs.getD j .non) (ys.getD j .non)) p1 p2 (by omega) (fun j h1 h2 => by
        have j1:j<xs.length:=by omega
        have j2:j<ys.length:=by omega
        obtain ⟨q1,g1,t1⟩:=r.get (AV j1);obtain ⟨q2,g2,t2⟩:=r2.get (AV j2);obtain ⟨o1,k1,m1⟩:=rv.get g1;obtain ⟨o2,k2,m2⟩:=rv2.get g2
        have z1 : its.toArray[j] = o1 := by have : its.toArray[j]? = some o1 := by simpa using k1
                                            rw[EL h1]at this;exact CB this
        have z2 : its2.toArray[j] = o2 := by have : its2.toArray[j]? = some o2 := by simpa using k2
                                             rw[EL h2]at this;exact CB this
        rw[z1,z2];have w1:xs.getD j .non=xs[j]:=by simp[BM,j1]
        have w2:ys.getD j .non=ys[j]:=by simp[BM,j2]
        rw[w1,w2];exact ih A.in1 _ _ _ _ _ _ (by show A.units+1+n<cLine;omega) (hx _ (Bl j1)) (hy _ (Bl j2)) t1 t2 m1 m2)
      have fin:((List.range (min its.toArray.size its2.toArray.size)).all (λj=>Am n (xs.getD j .non) (ys.getD j .non))&&its.toArray.size==its2.toArray.size)=Am (n+1) (.tup xs) (.tup ys):=by
        rw[l1,l2];show _=(xs.length==ys.length&&(xs.zip ys).all λq=>Am n q.1 q.2);by_cases hl:xs.length=ys.length
        .rw[hl,Nat.min_self,<-hl,RQ (Am n) hl,Bool.and_comm]
        . have:(xs.length==ys.length)=false:=by simpa using hl
          rw[this];simp
      rw[fin]at key;exact key
noncomputable def nb (neg b:Bool):Bool:=if neg then !b else b
noncomputable def rTr (neg:Bool) (K:Yb) (n:Nat):R2:=λx y H Q=>∃ (L:Yg) (xs ys:List D),(xs.all (Bc n)=true/\ys.all (Bc n)=true) /\
 ((Rep L H (.tup xs) x/\Rep L H (.tup ys) y) \/ ∃ a b vs ws,x=.ref a/\y=.ref b/\SqL K H a vs/\SqL K H b ws/\zR L H xs vs/\zR L H ys ws)/\Q (.bl (nb neg (Am (n+1) (.tup xs) (.tup ys)))) H
def Qo (I:Inv X zB Y H s) (hu:A.units+n<cLine) (hx:xs.all (Bc n)=true) (hy:ys.all (Bc n)=true) (r:zR L H xs vs) (r2:zR L H ys ws) (rv:zg vs its) (rv2:zg ws its2) (j:Nat) (h1:j<its.toArray.size) (h2:j<its2.toArray.size) :
  SeqAt.EqAt A s its.toArray[j] its2.toArray[j] (Am n (xs.getD j .non) (ys.getD j .non)):=by
 rw[Bi]at hx hy;have l1:its.toArray.size=xs.length:=by rw[AQ,<-rv.length,r.length]
 have l2:its2.toArray.size=ys.length:=by rw[AQ,<-rv2.length,r2.length]
 have j1:j<xs.length:=by omega
 have j2:j<ys.length:=by omega
 obtain ⟨q1,g1,t1⟩:=r.get (AV j1);obtain ⟨q2,g2,t2⟩:=r2.get (AV j2);obtain ⟨o1,k1,m1⟩:=rv.get g1;obtain ⟨o2,k2,m2⟩:=rv2.get g2;have z1:its.toArray[j]=o1:=by
  have:its.toArray[j]?=some o1:=by simpa using k1
  rw[EL h1]at this;exact CB this
 have z2:its2.toArray[j]=o2:=by
  have:its2.toArray[j]?=some o2:=by simpa using k2
  rw[EL h2]at this;exact CB this
 have w1:xs.getD j .non=xs[j]:=by simp[BM,j1]
 have w2:ys.getD j .non=ys[j]:=by simp[BM,j2]
 rw[z1,z2,w1,w2];exact PM I n A _ _ _ _ _ _ hu (hx _ (Bl j1)) (hy _ (Bl j2)) t1 t2 m1 m2
def ON (l1:a=xs.length) (l2:b=ys.length):((List.range (min a b)).all (λj=>Am n (xs.getD j .non) (ys.getD j .non))&&a==b)=Am (n+1) (.tup xs) (.tup ys):=by
 subst l1 l2;show _=(xs.length==ys.length&&(xs.zip ys).all λq=>Am n q.1 q.2);by_cases hl:xs.length=ys.length
 .rw[hl,Nat.min_self,<-hl,RQ (Am n) hl,Bool.and_comm]
 .have:(xs.length==ys.length)=false:=by simpa using hl
  rw[this];simp
def gZ (hl:xs.length=ys.length):((List.range xs.length).all λj=>Am n (xs.getD j .non) (ys.getD j .non))=Am (n+1) (.tup xs) (.tup ys):=by
 rw[<-ON (n:=n) rfl rfl,hl,Nat.min_self];simp
def YN (hl:xs.length≠ys.length):Am (n+1) (.tup xs) (.tup ys)=false:=by
 show (xs.length==ys.length&&_)=false;rw[show (xs.length==ys.length)=false by simpa using hl];rfl
def UY (n:Nat) (hu:X.A.units+1+n<cLine):OpR X (compareOp .NotEq) (rTr true X.K n):=by
 intro zB s Y H x y v u Q I rx ry h;obtain ⟨L,xs,ys,⟨hx,hy⟩,hc,q⟩:=h;have hu1:X.A.in1.units+n<cLine:=hu;rcases hc with ⟨p1,p2⟩|⟨a,b,vs,ws,rfl,rfl,s1,s2,r1,r2⟩
 .unfold Rep at p1 p2;obtain ⟨a,vs,rfl,e1,r1⟩:=p1;obtain ⟨b,ws,rfl,e2,r2⟩:=p2;cases rx;cases ry;obtain ⟨its,rv,t1,_⟩:=I.tuple (.of e1);obtain ⟨its2,rv2,t2,_⟩:=I.tuple (.of e2);refine SeqAt.RcNeAt.tuples (e:=λj=>Am n (xs.getD j .non) (ys.getD j .non)) t1 t2 (by omega) (λj h1 h2=>Qo I hu1 hx hy r1 r2 rv rv2 j h1 h2) _ _ _ _ ?_;rw[ON (by rw[AQ,<-rv.length,r1.length]) (by rw[AQ,<-rv2.length,r2.length])];exact ⟨.bl _,H,I,rfl,q⟩
 .cases rx;cases ry;obtain ⟨its,rv,t1,_⟩:=I.list s1;obtain ⟨its2,rv2,t2,_⟩:=I.list s2;have l1:its.toArray.size=xs.length:=by rw[AQ,<-rv.length,r1.length]
  have l2:its2.toArray.size=ys.length:=by rw[AQ,<-rv2.length,r2.length]
  by_cases hl:xs.length=ys.length
  .refine SeqAt.RcNeAt.lists (e:=λj=>Am n (xs.getD j .non) (ys.getD j .non)) t1.isList t2.isList (by omega) (by omega) (λj h1 h2=>Qo I hu1 hx hy r1 r2 rv rv2 j h1 h2) _ _ _ _ ?_;rw[l1,gZ hl];exact ⟨.bl _,H,I,rfl,q⟩
  .refine SeqAt.RcNeAt.lists_lengths t1.isList t2.isList (by rw[l1,l2];simpa using hl) (by omega) _ _ _ _ ?_;rw[YN hl]at q;exact ⟨.bl true,H,I,rfl,q⟩
noncomputable def kTr (neg:Bool) (n:Nat):K2:=λx y M=>match CG x,CG y with
 |some xs,some ys=>if xs.all (Bc n)&&ys.all (Bc n) then some (.dat (.bl (nb neg (Am (n+1) (.tup xs) (.tup ys)))),M) else none
 |_,_=>match Bb M x,Bb M y with
  |some xs,some ys=>if xs.all (Bc n)&&ys.all (Bc n) then some (.dat (.bl (nb neg (Am (n+1) (.tup xs) (.tup ys)))),M) else none
  |_,_=>none
def Tu {K:Yb} {neg:Bool} {n:Nat}:BQ K (rTr neg K n) (kTr neg n):=by
 intro L M M' H H0 x y d v w Q c rx ry hk q;unfold kTr at hk;split at hk
 .rename_i xs ys e1 e2;split at hk
  .rename_i hb;cases hk;rw[BR]at hb;obtain ⟨p,vs,rfl,h1,r1⟩:=DU rx e1;obtain ⟨p',ws,rfl,h2,r2⟩:=DU ry e2;refine ⟨L,xs,ys,hb,.inl ⟨?_,?_⟩,q L H _ (.refl L H) c (Ca (L:=L) (H:=H))⟩
   .unfold Rep;exact ⟨p,vs,rfl,h1,r1⟩
   .unfold Rep;exact ⟨p',ws,rfl,h2,r2⟩
  .cases hk
 .split at hk
  .rename_i xs ys e1 e2;split at hk
   .rename_i hb;cases hk;rw[BR]at hb;obtain ⟨p,vs,rfl,h1,r1⟩:=Co c rx e1;obtain ⟨p',ws,rfl,h2,r2⟩:=Co c ry e2;exact ⟨L,xs,ys,hb,.inr ⟨p,p',vs,ws,rfl,rfl,.inl h1,.inl h2,r1,r2⟩,q L H _ (.refl L H) c (Ca (L:=L) (H:=H))⟩
   .cases hk
  .cases hk
def aR (n:Nat) (hu:X.A.units+1+n<cLine) (h1:QE X a f) (h2:QE X b g):QT X (.Compare a [.NotEq] [b] pos) (tst (fOp (kTr true n) f g)):=GG Tu (UY n hu) h1 h2 (EG _)
def Q7 (n:Nat) (hn:n<=8) (hr:Room k A):A.units+1+n<cLine:=by
 have:=hr.units;omega
open Builtin
noncomputable def Ib:KB:=λxs M=>match xs with
 |[.dat (.int i),.dat (.int j)]=>some (.dat (.int (if j>i then j else i)),M)
 |_=>none
noncomputable def Ii:KB:=λxs M=>match xs with
 |[.dat (.int i),.dat (.int j)]=>some (.dat (.int (if j<i then j else i)),M)
 |_=>none
def Qa (r:DA H0 L H [.dat (.int i),.dat (.int j)] vs):vs=[.int i,.int j]:=by
 unfold DA at r;obtain ⟨v,r1,rfl,a1,a2⟩:=r;unfold DA at a2;obtain ⟨v2,r2,rfl,b1,b2⟩:=a2;unfold DA at b2;subst b2;unfold ze Rep at a1 b1;subst a1 b1;rfl
def lO {K:Yb}:Cz K (λxs H Q=>∃ i j,xs=[.int i,.int j]/\Q (.int (if j>i then j else i)) H) Ib:=by
 intro L M M' H H0 xs d vs Q c r hk q;unfold Ib at hk;split at hk
 .rename_i i j;cases hk;exact ⟨i,j,Qa r,q L H _ (.refl L H) c (B4 (L:=L) (H:=H))⟩
 .cases hk
def Zp {K:Yb}:Cz K (λxs H Q=>∃ i j,xs=[.int i,.int j]/\Q (.int (if j<i then j else i)) H) Ii:=by
 intro L M M' H H0 xs d vs Q c r hk q;unfold Ii at hk;split at hk
 .rename_i i j;cases hk;exact ⟨i,j,Qa r,q L H _ (.refl L H) c (B4 (L:=L) (H:=H))⟩
 .cases hk
def ZW (hcalm:X.calm=true) (hg:Gl X "max") (hm:X.mg "max" = none) (ha:QAE X [e,e2] fa) (he:starEach [e,e2] X.env=(false,eval e X.env)::starEach [e2] X.env:=by rfl) (hpl:(backTo pos (starEach [e2] X.env)).any (·.1)=false:=by rfl):QE X (.Call (.Name "max" p) [e,e2] [] pos) (fB Ib fa) :=
 Ew lO (Xd hcalm) (by rfl) hg hm ha (by decide) (by decide) he hpl
def UD (hcalm:X.calm=true) (hg:Gl X "min") (hm:X.mg "min" = none) (ha:QAE X [e,e2] fa) (he:starEach [e,e2] X.env=(false,eval e X.env)::starEach [e2] X.env:=by rfl) (hpl:(backTo pos (starEach [e2] X.env)).any (·.1)=false:=by rfl):QE X (.Call (.Name "min" p) [e,e2] [] pos) (fB Ii fa) :=
 Ew Zp (iI hcalm) (by rfl) hg hm ha (by decide) (by decide) he hpl
noncomputable def HQ:KM:=λx ds M=>match x,ds with
 |.dat (.ref n),[.ref m]=>match M[n]?,M[m]? with
  |some (.lst xs),some (.lst ys)=>if xs.length+ys.length<=sizeLine then some (.non,M.set n (.lst (xs++ys))) else none
  |_,_=>none
 |_,_=>none
def Wc {K:Yb}:Hv K Pl HQ:=by
 intro L M M' H H0 x ds d v vs Q c rx rd hk q;unfold HQ at hk;split at hk
 .rename_i n m;split at hk
  .rename_i xs ys e1 e1';split at hk
   .rename_i hz;cases hk;unfold ze Rep at rx;obtain ⟨a,rfl,e2⟩:=rx;obtain ⟨ws,e3,r3⟩:=c.obj n a _ e2 e1;obtain ⟨w,rfl,r4⟩:=rd.one;unfold Rep at r4;obtain ⟨b,rfl,e4⟩:=r4;obtain ⟨zs,e5,r5⟩:=c.obj m b _ e4 e1';obtain ⟨c5,s5⟩:=c.write e2 e1 (r3.app r5);exact ⟨a,b,ws,zs,rfl,rfl,e3,e5,by rw[r3.length,r5.length];exact hz,q L _ _ s5 c5 (by unfold Rep;rfl)⟩
   .cases hk
  .cases hk
 .cases hk
def Vf (h:QE X a f) (hg:QA X [e] fg) (hbase:attributeBase a "extend" X.env (eval a X.env)=eval a X.env:=by rfl)
  (hfew:((backTo cpos (starEach [e] X.env)).all (λx=> !x.1)&&(backToKw cpos (keywordEach [] X.env)).all (λx=>x.1.isSome)&&decide ([e].length+([]:List Keyword).length+(if ([]:List Keyword).isEmpty then 0 else 1)<30))=true:=by rfl)
  (hline:(apos.endLine==cpos.line)=true:=by rfl) (hs:starEach [e] X.env=(false,eval e X.env)::starEach [] X.env:=by rfl) (hplain:(backTo cpos (starEach [] X.env)).any (·.1)=false:=by rfl) :
  QE X (.Call (.Attribute a "extend" apos) [e] [] cpos) (fM HQ f fg) :=
 .mk <| PE.imp (J0 PySem.F.plainAttrs_list PySem.F.slot_list_extend PySem.F.type_list_extend VV h.un hg.un hbase hfew hline hs hplain) λ_ _ _ z=>J4 Wc z
end L3
namespace HT
def Ve (n:Nat):Builtin.Slice.sliceAdjust none none (-1) (n:Int)=((n:Int)-1,-1):=by
 have h1:((-1:Int)<0):=by omega
 unfold Builtin.Slice.sliceAdjust;simp only[h1,if_true]
def Tw (n:Nat):Builtin.Slice.slicePlaces ((n:Int)-1) (-1) (-1)=n:=by
 unfold Builtin.Slice.slicePlaces;have h1:¬ ((-1:Int)>0):=by omega
 simp only[h1,if_false,Int.neg_neg,Int.ediv_one];split <;> omega
def nR {sl:Yt} {t:Tok} {n:Nat} {Q:Int × Int × Nat->Shared->Prop} (hs:s.heap.IsSliceOf sl .none .none (.int (-1) t))
  (h:Q ((n:Int)-1,-1,n) s):wpAny (model prog w) A (Builtin.Slice.sliceApplied (.ref sl) (pure (n:Int))) Q E s:=by
 obtain ⟨os,hos,hcs,hds⟩:=id hs;unfold Builtin.Slice.sliceApplied Builtin.Slice.sliceFields;refine AA (AA (B2 hos hds (x:=.none) rfl (AA (B2 hos hds (x:=.none) rfl (AA (B2 hos hds (x:=.int (-1) t) rfl (AD ?_)))))));refine AA (slicePart_int ?_);rw[AE (by decide)];refine AA (slicePart_none (AA (slicePart_none (AA (AD ?_)))));show wpAny _ _ (match Builtin.Slice.sliceAdjust none none (-1) (n:Int) with|(lo,hi)=>pure (lo,(-1:Int),Builtin.Slice.slicePlaces lo hi (-1))) _ _ s;rw[Ve n];show wpAny _ _ (pure ((n:Int)-1,(-1:Int),Builtin.Slice.slicePlaces ((n:Int)-1) (-1) (-1))) _ _ s;rw[Tw];exact AD h
def Uy (vs:Yf):((List.range vs.length).filterMap λ(m:Nat)=>vs.toArray[(((vs.length:Int)-1)+(m:Int)*(-1)).toNat]?).toArray=vs.reverse.toArray:=by
 congr 1;have key:∀ k,k<=vs.length->((List.range k).filterMap λ(m:Nat)=>vs.toArray[(((vs.length:Int)-1)+(m:Int)*(-1)).toNat]?)=vs.reverse.take k:=by
  intro k;induction k with
  |zero=>intro _;simp
  |succ k ih=>
   intro hk;rw[List.range_succ,List.filterMap_append,ih (by omega)];have e:(((vs.length:Int)-1)+(k:Int)*(-1)).toNat=vs.length-1-k:=by omega
   have e2:vs.toArray[vs.length-1-k]?=vs.reverse[k]?:=by
    rw[List.getElem?_reverse (by omega),List.getElem?_toArray]
   have hlt:k<vs.reverse.length:=by rw[List.length_reverse];omega
   rw[List.take_succ,List.filterMap_cons,e,e2,AV hlt];rfl
 rw[key _ (AF _),G8 (by simp)]
def k8 {vs:Yf} (ht:IsTup s.heap a vs.toArray) (hs:s.heap.IsSliceOf sl .none .none (.int (-1) t))
  (h:Q (.ref s.heap.objs.size) { s with heap:=s.heap.push { cls:=.type "tuple", data:=.seq vs.reverse.toArray } })
  (hsz:vs.length<=sizeLine):wpAny (model prog w) A (getItem (.ref a) (.ref sl)) Q E s:=by
 have htake:sizeOk (.seq vs.reverse.toArray):=by
  show vs.reverse.toArray.size<=sizeLine;rw[AQ,List.length_reverse];exact hsz
 obtain ⟨os,hos,hcs,hds⟩:=id hs;have hTs:s.TypeIs (.ref sl) "slice" := ⟨os,hos,hcs⟩;unfold getItem;try with_reducible refine CF ?_
 first|refine AA (AD ?_)|skip
 refine AA (wpAny_sequenceKey ht.typeIs (by decide) ?_)
 refine AA (Dq (name:=Str.ofString "__getitem__") ht.typeIs Em
  (Cg Em ht.typeIs entry_tuple_getitem ?_ (args_tuple_getitem _ _)))
 show wpAny _ _ (Builtin.Tuple.tupleItemsOf (.ref a) >>= _) _ _ s;refine AA (tupleItemsOf_ ht ?_);refine AA (wpAny_typeOf hTs ?_);rw[AB (by decide)];have hz:vs.toArray.size=vs.length:=AQ;refine AA (nR (n:=vs.toArray.size) hs ?_);show wpAny _ _ (if (((vs.toArray.size:Int)-1)==0&&(-1:Int)==1&&vs.toArray.size==vs.toArray.size)=true then _ else _) _ _ s;rw[AE (by simp),hz,Uy]
 first
  |exact AA (m:=Builtin.Tuple.tupleExact _) (Ba (AD ⟨_,rfl,AD h⟩) htake)
  |exact AA (m:=Builtin.Tuple.tupleExact _) (Ba (AA (AD (AD ⟨_,rfl,AD h⟩))) htake)
  |exact AA (AA (m:=Builtin.Tuple.tupleExact _) (Ba (AD (AD ⟨_,rfl,AD h⟩)) htake))
  |exact AA (AA (m:=Builtin.Tuple.tupleExact _) (Ba (AD ⟨_,rfl,AD h⟩) htake))
end HT
namespace L3
open L2
section
variable {a b o e e2 st:Expr}
def fU (he:PE X e te) (hs:PO X (some st) ts):PE X (.Subscript e (.Slice none none (some st) p2) pos) (λY H Q=>te Y H λx H1=>ts Y H1 λo H2=>o=some (-1) /\ ∃ a xs,x=.ref a/\SqT X.K H2 a xs /\ ∀ p,H2 p=none->Q (.ref p) (upd H2 p (.tup xs.reverse))):=by
 intro zB s Y H Q I h;refine Subscript_ (thn (he zB s Y H _ I h) λv s1 ⟨x,H1,I1,r1,q1⟩=>?_);refine wpAny_Slice ?_;rw[evalPart_none];refine AD (AD ?_);refine thn (hs zB s1 Y H1 _ I1 q1) λvl s2 ⟨l,H2,I2,pl,el,a,xs,ex,hx,q2⟩=>?_;subst el ex;cases r1;cases pl with
 |int i t=>
 have I4:Inv X zB Y H2 { s2 with heap:=s2.heap.push { cls:=.type "slice", data:=.fields #[.none,.none,.int (-1) t] } }:=I2.kept (t':=s2.toks) λb ob q=>AN _ q;obtain ⟨its,r,ht,hz⟩:=I4.tuple hx;refine tail_any (ops:=[.ref a,.ref s2.heap.objs.size]) ht.typeIs Em.lookup ?_ (by with_unfolding_all rfl);refine HT.k8 ht (Heap.IsSliceOf.new ..) ?_ (by rw[<-r.length];exact hz);refine ⟨.ref _,_,I4.laid (t':=s2.toks) (o:=.tup xs.reverse) (λb ob q=>AN _ q) (AF _) ?_,rfl,q2 _ (I4.hok.fresh (AF _))⟩;exact ⟨by rw[List.length_reverse];exact hz,_,r.reverse,Dm.new _ _⟩
noncomputable def II (f:FE) (fs:FO):FE:=λY M=>match f Y M with
 |some (x,M1)=>match fs Y M1 with
  |some (some (-1),M2)=>match CG x with
   |some xs=>some (.dat (.tup xs.reverse),M2)
   |none=>none
  |_=>none
 |none=>none
def Vy (h:QE X e f) (hs:QO X (some st) fs):QE X (.Subscript e (.Slice none none (some st) p2) pos) (II f fs) :=
 .mk <| PE.imp (fU h.un hs.un) λτ H Q zz=>by
  obtain ⟨L,Y,M,d,M',c,rs,hf,q⟩:=zz;unfold II at hf;split at hf
  .rename_i x M1 e1;split at hf
   .rename_i M2 e2;split at hf
    .rename_i xs t;cases hf;refine ⟨L,Y,M,_,_,c,rs,e1,λL1 H1 v s1 c1 r1=>⟨L1,Y,M1,_,_,c1,rs.stp s1,e2,λL2 H2 s2 c2=>⟨rfl,?_⟩⟩⟩;have s:=s1.trans s2;have r3:ze H L2 H2 x v:=r1.stp s2;obtain ⟨a,vs,rfl,e4,r4⟩:=DU r3 t;refine ⟨a,vs,rfl,.of e4,λp hp=>?_⟩;exact q L2 _ _ (s.trans (.upd hp)) (c2.upd hp) (Rep.newTup hp (Qp r4))
    .cases hf
   .cases hf
  .cases hf
end
noncomputable def F1 (fg:FG) (f:FE):FS:=λY M=>match toD f Y M with
 |some (d,M1)=>match fg d Y with
  |some σ1=>some (.nx,σ1,M1)
  |none=>none
 |none=>none
def Ze (hk:GOk g fg) (h:QE X e f) (hg:PG X tg g) (hs:swapsWithSole [tg] e pos.line X.env=pure false:=by rfl) (hw:swappedStores [tg] e X.env=pure none:=by rfl)
  (h1:(assignEach [tg] X.env).map (·.2)=[assign tg X.env]:=by rfl):QS X (.Assign [tg] e pos) (F1 fg f) :=
 .mk <| PS.imp (QR h.un hg hs hw h1) λE τ H zz=>by
  obtain ⟨L,Y,M,o,Y',M',c,rs,hf,q⟩:=zz;unfold F1 at hf;split at hf
  .rename_i d M1 e1;split at hf
   .rename_i σ1 e2;cases hf;refine RB ⟨L,Y,M,_,_,c,rs,e1,λL1 H1 v s1 c1 r1=>?_⟩;exact hk (rs.stp s1) r1 e2 λτ' rs'=>q L1 H1 s1 c1 τ' rs'
   .cases hf
  .cases hf
def J3:OkS (F1 fg f Y M) P ↔ Ok (f Y M) (D2 λd M1=>∃ σ1,fg d Y=some σ1/\P .nx σ1 M1):=by
 rw[<-Bo];unfold F1;constructor
 .rintro ⟨o,Y',M',e,p⟩;split at e
  .rename_i d M1 e1;split at e
   .rename_i σ1 e2;cases e;exact ⟨d,_,e1,_,e2,p⟩
   .cases e
  .cases e
 .rintro ⟨d,M1,e1,σ1,e2,p⟩;refine ⟨.nx,σ1,M1,?_,p⟩;rw[e1];dsimp only;rw[e2]
def SI (b:Bool) (h:Heap) (it t:Yt) (k:Nat):Prop:=if b then h.IsTupleIter it t k else h.IsListIter it t k
def SO (b:Bool) (h:Heap) (t:Yt) (xs:Yp):Prop:=if b then h.IsTuple t xs else h.IsList t xs
noncomputable abbrev itO (b:Bool) (t:Addr):Obj:={ cls:=.type (if b then "tuple_iterator" else "list_iterator"),data:=.fields #[.ref t,.int 0 0] }
def SO.keep (x:SO b h t xs) (e:∀ o,h.get? t=some o->h'.get? t=some o):SO b h' t xs:=by
 cases b with
 |true=>obtain ⟨o,q,r⟩:=(show h.IsTuple t xs from x);exact (show h'.IsTuple t xs from ⟨o,e o q,r⟩)
 |false=>obtain ⟨o,q,r⟩:=(show h.IsList t xs from x);exact (show h'.IsList t xs from ⟨o,e o q,r⟩)
def K0 (hl:SO b s.heap l items) (hQ:Q (.ref s.heap.objs.size) { s with heap:=s.heap.push (itO b l) }):wpAny (model prog w) A (pyIter (.ref l)) Q E s:=by
 cases b with
 |true=>exact Fx (show s.heap.IsTuple l items from hl) hQ
 |false=>exact wpAny_pyIter_list (show s.heap.IsList l items from hl) hQ
def Of (e:h.get? it=some (itO b t)):SI b h it t 0:=by
 cases b with
 |true=>exact (show h.IsTupleIter it t 0 from ⟨_,e,rfl,rfl⟩)
 |false=>exact (show h.IsListIter it t 0 from ⟨_,e,rfl,rfl⟩)
def SqG (K:Yb) (b:Bool) (H:Hp) (a:Yt) (xs:List V):Prop:=if b then SqT K H a xs else SqL K H a xs
def R5 (I:Inv X zB Y H s) (h:SqG X.K b H a xs):∃ its,zg xs its/\SO b s.heap a its.toArray:=by
 cases b with
 |true=>obtain ⟨its,rv,p1,_⟩:=I.tuple h;exact ⟨its,rv,p1⟩
 |false=>obtain ⟨its,rv,p1,_⟩:=I.list h;exact ⟨its,rv,p1.isList⟩
def Ob (x:SO b h a its):a<h.objs.size:=by
 cases b with
 |true=>obtain ⟨_,e,_⟩:=(show h.IsTuple a its from x);exact AI e
 |false=>obtain ⟨_,e,_⟩:=(show h.IsList a its from x);exact AI e
def eU {K:Yb} {L1:Yg} {M1:Mem} {H1:Hp} {x:D} {v:V} {xs:List D} (c1:Cor K L1 M1 H1) (r1:Rep L1 H1 x v) (e:Al M1 (.dat x)=some xs) :
  ∃ b l,v=.ref l/\(∃ vs,SqG K b H1 l vs) /\ ∀ L2 H2 M2,Stp L1 H1 L2 H2->Cor K L2 M2 H2->Al M2 (.dat x)=some xs -> ∃ vs',SqG K b H2 l vs'/\zR L2 H2 xs vs':=by
 have r1':ze H1 L1 H1 (.dat x) v:=r1;cases x with
 |tup ds=>
  cases e;obtain ⟨a,vs,rfl,e3,r3⟩:=DU r1' (xs:=xs) rfl;exact ⟨true,a,rfl,⟨vs,(show SqT K H1 a vs from .of e3)⟩,λL2 H2 M2 s2 c2 _=>⟨vs,(show SqT K H2 a vs from .of (s2.tup a vs e3)),r3.stp s2⟩⟩
 |ref n=>
  have e2:Bb M1 (.dat (.ref n))=some xs:=e;obtain ⟨a,vs,rfl,e3,r3⟩:=Co c1 r1' e2;refine ⟨false,a,rfl,⟨vs,(show SqL K H1 a vs from .inl e3)⟩,λL2 H2 M2 s2 c2 hq=>?_⟩;unfold Rep at r1;obtain ⟨a',ha',e5⟩:=r1;cases ha';have e6:L2[n]?=some a:=by obtain ⟨N,hN⟩:=s2.pre;rw[hN];exact D6 e5
  have r2:ze H2 L2 H2 (.dat (.ref n)) (.ref a):=by unfold ze Rep;exact ⟨a,rfl,e6⟩
  obtain ⟨a2,vs',h2,e7,r7⟩:=Co c2 r2 (show Bb M2 (.dat (.ref n))=some xs from hq);cases h2;exact ⟨vs',(show SqL K H2 a vs' from .inl e7),r7⟩
 |_=>cases e
def ME {ns:Ye} {its:Yf} (r:zg (ns.map V.int) its) {i:Nat} {v:Yu} (h:its.toArray[i]?=some v):∃ t,v=.int (ns.getD i 0) t:=by
 have h':its[i]?=some v:=by simpa using h
 have hi:i<its.length:=(AG.mp h').1;have hl:=r.length;rw[AH]at hl;have hx:(ns.map V.int)[i]?=some (.int (ns.getD i 0)):=by
  rw[Bn,BM,AV (by omega)];rfl
 obtain ⟨u,hu,ru⟩:=r.get hx;rw[h']at hu;cases hu;obtain ⟨t,rfl⟩:=ru;exact ⟨t,rfl⟩
def ND (hh:A.handled=none) (b:Bool) (I ax:Yt) (hne:ax≠I) (items:Yp) :
  Walks prog w A I [I,ax] [I] items.size (λi v=>items[i]?=some v) (λi h=>SI b h I ax i/\SO b h ax items):=by
 cases b with
 |true=>exact Walks.tuple hh I ax hne items
 |false=>exact Walks.list hh I ax hne items
def hV (gt:Bool) (hc:X.calm=true):Br X (.builtin (if gt then "max" else "min")) (λxs H Q=>∃ (b:Bool) (a:Addr) (ns:List Int) (m:Int),xs=[.ref a]/\SqG X.K b H a (ns.map V.int)/\m∈ns/\(∀ x∈ns,if gt then x<=m else m<=x)/\Q (.int m) H):=by
 intro zB s Y H xs us Q I r h;obtain ⟨b,a,ns,m,rfl,hs,hm,hb,q⟩:=h;obtain ⟨u,rfl,ru⟩:=C7 r;cases ru;obtain ⟨its,rv,p1⟩:=R5 I hs;have hl:its.toArray.size=ns.length:=by have:=rv.length;simp at this ⊢;omega
 have hpos:0<ns.length:=List.length_pos_of_mem hm;have hlt:=Ob p1;have hfp:∀ c∈[s.heap.objs.size,a],c<(s.heap.push (itO b a)).objs.size:=λc hc'=>by
  rw[Bu];simp only[AK,BO,BY]at hc';rcases hc' with rfl|rfl
  .exact DK _
  .exact CY hlt
 have st:SI b (s.heap.push (itO b a)) s.heap.objs.size a 0/\SO b (s.heap.push (itO b a)) a its.toArray:=⟨Of (Ad _ rfl),p1.keep λo e=>AN _ e⟩;have kp:∀ h':Heap,(∀ c o,c∉[s.heap.objs.size]->(s.heap.push (itO b a)).get? c=some o->h'.get? c=some o) -> ∀ c o,s.heap.get? c=some o->h'.get? c=some o:=λh' hk c o e0=>
  hk c o (by simp only[AK,BO,BY];exact AY (AI e0)) (AN _ e0)
 have fin:∀ (i:Nat) (v:Yu) (h':Heap) (tk:Nat),its.toArray[i]?=some v->ns.getD i 0=m->(∀ c o,s.heap.get? c=some o->h'.get? c=some o)->EP X zB Y Q v { s with heap:=h',toks:=tk }:=λi v h' tk hv hi hk=>by
  obtain ⟨t,rfl⟩:=ME rv hv;rw[hi];exact ⟨.int m,H,I.kept hk,⟨t,rfl⟩,q⟩
 cases gt with
 |true=>
  refine call_max_walk (K0 p1 ⟨s.heap.objs.size,[s.heap.objs.size,a],[s.heap.objs.size],its.toArray.size,λi v=>its.toArray[i]?=some v,λi h=>SI b h s.heap.objs.size a i/\SO b h a its.toArray,_,rfl,ND (A:=X.A.in1) (I.ok.hd hc) b _ a (AY hlt) its.toArray,st,hfp,by omega,CmpOf.ints_gt (λi=>ns.getD i 0) (λ_ _ hv=>ME rv hv),λv h' tk hP hk=>?_⟩);refine fin _ v h' tk hP ?_ (kp h' hk);obtain ⟨h1,h2⟩:=argBest_gt (λi=>ns.getD i 0) (its.toArray.size-1);rw[hl]at h1 h2 ⊢;generalize argBest _ (ns.length-1)=q at h1 h2 ⊢;obtain ⟨j,hj,ej⟩:=List.mem_iff_getElem.mp hm;have h3:=h2 j (by omega);have e3:ns.getD j 0=m:=by rw[BM,AV hj];exact ej
  have hq:q<ns.length:=by omega
  have h4:ns.getD q 0<=m:=by
   have:=hb (ns.getD q 0) (by rw[BM,AV hq];exact Bl hq);simpa using this
  rw[e3]at h3;omega
 |false=>
  refine call_min_walk (K0 p1 ⟨s.heap.objs.size,[s.heap.objs.size,a],[s.heap.objs.size],its.toArray.size,λi v=>its.toArray[i]?=some v,λi h=>SI b h s.heap.objs.size a i/\SO b h a its.toArray,_,rfl,ND (A:=X.A.in1) (I.ok.hd hc) b _ a (AY hlt) its.toArray,st,hfp,by omega,CmpOf.ints_lt (λi=>ns.getD i 0) (λ_ _ hv=>ME rv hv),λv h' tk hP hk=>?_⟩);refine fin _ v h' tk hP ?_ (kp h' hk);obtain ⟨h1,h2⟩:=argBest_lt (λi=>ns.getD i 0) (its.toArray.size-1);rw[hl]at h1 h2 ⊢;generalize argBest _ (ns.length-1)=q at h1 h2 ⊢;obtain ⟨j,hj,ej⟩:=List.mem_iff_getElem.mp hm;have h3:=h2 j (by omega);have e3:ns.getD j 0=m:=by rw[BM,AV hj];exact ej
  have hq:q<ns.length:=by omega
  have h4:m<=ns.getD q 0:=by
   have:=hb (ns.getD q 0) (by rw[BM,AV hq];exact Bl hq);simpa using this
  rw[e3]at h3;omega
noncomputable def DV (gt:Bool):Int->List Int->Int
 |m,[]=>m
 |m,x::r=>DV gt (if (if gt then m<x else x<m) then x else m) r
theorem JI (gt:Bool):∀ (r:Ye) (m:Int),DV gt m r∈m::r /\ ∀ x∈m::r,if gt then x<=DV gt m r else DV gt m r<=x
 |[],m=>by
  refine ⟨by simp[DV],λx hx=>?_⟩;have:x=m:=by simpa using hx
  subst this;cases gt <;> simp[DV]
 |y::r,m=>by
  unfold DV;obtain ⟨h1,h2⟩:=JI gt r (if (if gt then m<y else y<m) then y else m);generalize hb:DV gt (if (if gt then m<y else y<m) then y else m) r=B at h1 h2;constructor
  .rcases AK.mp h1 with q|q
   .rw[q];by_cases hc:(if gt=true then m<y else y<m)
    .rw[AB hc];simp
    .rw[AE hc];simp
   .simp[q]
  .intro x hx;have h0:=h2 _ Ae;rcases AK.mp hx with q|q
   .subst q;cases gt with
    |true=>simp at h0 ⊢;split at h0 <;> omega
    |false=>simp at h0 ⊢;split at h0 <;> omega
   .rcases AK.mp q with z|z
    .subst z;cases gt with
     |true=>simp at h0 ⊢;split at h0 <;> omega
     |false=>simp at h0 ⊢;split at h0 <;> omega
    .exact h2 x (Ai _ z)
noncomputable def HM (gt:Bool):KB:=λxs M=>match xs with
 |[.dat d]=>match Al M (.dat d) with
  |some ds=>match Bs ds with
   |some (n::ns)=>some (.dat (.int (DV gt n ns)),M)
   |_=>none
  |none=>none
 |[.fl ds]=>match Bs ds with
  |some (n::ns)=>some (.dat (.int (DV gt n ns)),M)
  |_=>none
 |_=>none
def nH {K:Yb} {gt:Bool}:Cz K (λxs H Q=>∃ (b:Bool) (a:Yt) (ns:Ye) (m:Int),xs=[.ref a]/\SqG K b H a (ns.map V.int)/\m∈ns/\(∀ x∈ns,if gt then x<=m else m<=x)/\Q (.int m) H) (HM gt):=by
 intro L M M' H H0 xs d vs Q c r hk q;unfold HM at hk;split at hk
 .rename_i d0;split at hk
  .rename_i ds e1;split at hk
   .rename_i n ns e2;cases hk;obtain ⟨v,rfl,r1⟩:=r.one;have r1':Rep L H d0 v:=r1;obtain ⟨b,l,rfl,_,key⟩:=eU c r1' e1;obtain ⟨vs',hq,rr⟩:=key L H M (.refl L H) c e1;have ev:=IX e2 rr;subst ev;obtain ⟨h1,h2⟩:=JI gt ns n;exact ⟨b,l,n::ns,DV gt n ns,rfl,hq,h1,h2,q L H _ (.refl L H) c (B4 (L:=L) (H:=H))⟩
   .cases hk
  .cases hk
 .rename_i ds;split at hk
  .rename_i n ns e2;cases hk;obtain ⟨v,rfl,r1⟩:=r.one;obtain ⟨l,vs',rfl,hq,rr⟩:=Co c r1 (show Bb M (.fl ds)=some ds from rfl);have ev:=IX e2 rr;subst ev;obtain ⟨h1,h2⟩:=JI gt ns n;exact ⟨false,l,n::ns,DV gt n ns,rfl,.inl hq,h1,h2,q L H _ (.refl L H) c (B4 (L:=L) (H:=H))⟩
  .cases hk
 .cases hk
def UU (hcalm:X.calm=true) (hg:Gl X "min") (hm:X.mg "min" = none) (ha:QAE X [e] fa) (he:starEach [e] X.env=(false,eval e X.env)::starEach [] X.env:=by rfl) (hpl:(backTo pos (starEach [] X.env)).any (·.1)=false:=by rfl):QE X (.Call (.Name "min" p) [e] [] pos) (fB (HM false) fa) :=
 Ew nH (hV false hcalm) (by rfl) hg hm ha (by decide) (by decide) he hpl
noncomputable def Gv (f:FE):FT:=λY M=>match f Y M with
 |some (x,M1)=>match Al M1 x with
  |some xs=>some (!xs.isEmpty,M1)
  |none=>none
 |none=>none
def bR (h:QE X a f) (he:∀ whole,isTrue a X.env whole=(do let v <- whole;standAt a.pos;holding [v] (truthy v)):=by intro _;rfl):QT X a (Gv f) :=
 .mk <| PT.imp (b7 h.un he) λτ H Q zz=>by
  obtain ⟨L,Y,M,d,M',c,rs,hf,q⟩:=zz;unfold Gv at hf;split at hf
  .rename_i x M1 e1;split at hf
   .rename_i xs e2;cases hf;refine ⟨L,Y,M,_,_,c,rs,e1,λL1 H1 v s1 c1 r1=>⟨!xs.isEmpty,?_,q L1 H1 s1 c1⟩⟩;unfold Al at e2;have emp:∀ {vs:List V},zR L1 H1 xs vs->(!xs.isEmpty) = !vs.isEmpty:=λ{vs} r=>by
     have:=r.length;cases xs <;> cases vs <;> first|rfl|simp at this
    cases t:CG x with
    |some ws=>
     rw[t]at e2;cases e2;obtain ⟨l,vs,rfl,e3,r3⟩:=DU r1 t;exact .inr (.inl ⟨vs,.of e3,emp r3⟩)
    |none=>
     rw[t]at e2;obtain ⟨l,vs,rfl,e3,r3⟩:=Co c1 r1 e2;exact .inl ⟨vs,.inl e3,emp r3⟩
   .cases hf
  .cases hf
noncomputable def Ef (f:FE):FE:=λY M=>match f Y M with
 |some (.dat (.ref n),M1)=>match M1[n]? with
  |some (.lst xs)=>match xs[xs.length-1]? with
   |some d=>some (.dat d,M1.set n (.lst xs.dropLast))
   |none=>none
  |_=>none
 |_=>none
def TR (h:zR L H ds vs):zR L H ds.dropLast vs.dropLast:=by
 have:=h.eraseIdx (ds.length-1);rw[LM]at this;have hl:=h.length;rw[<-hl,LM]at this;exact this
def Uj (h:QE X o f) (hbase:attributeBase o "pop" X.env (eval o X.env)=eval o X.env:=by rfl) (hline:(apos.endLine==cpos.line)=true:=by rfl):QE X (.Call (.Attribute o "pop" apos) [] [] cpos) (Ef f) :=
 .mk <| PE.imp (UT PySem.F.plainAttrs_list PySem.F.slot_list_pop PySem.F.type_list_pop iU h.un hbase hline) λτ H Q zz=>by
  obtain ⟨L,Y,M,d,M',c,rs,hf,q⟩:=zz;unfold Ef at hf;split at hf
  .rename_i n M1 e1;split at hf
   .rename_i xs e2;split at hf
    .rename_i d' e3;cases hf;refine ⟨L,Y,M,_,_,c,rs,e1,λL1 H1 v s1 c1 r1=>?_⟩;unfold ze Rep at r1;obtain ⟨l,rfl,e4⟩:=r1;obtain ⟨ws,e5,r5⟩:=c1.obj n l _ e4 e2;obtain ⟨u,e6,r6⟩:=r5.get e3;obtain ⟨c5,s5⟩:=c1.write e4 e2 (TR r5);refine ⟨.inl ⟨rfl,⟨ws,.of e5⟩⟩,l,ws,u,rfl,rfl,e5,by rw[r5.length];exact e6,q L1 _ _ (s1.trans s5) c5 (r6.stp s5)⟩
    .cases hf
   .cases hf
  .cases hf
noncomputable def Hj (i j k:Nat):FG:=λd Y=>match d with
 |.tup [x,y,z]=>some (((Y.set i (some x)).set j (some y)).set k (some z))
 |_=>none
noncomputable abbrev gP3 (K:Yb) (i j k:Nat):TG:=MP K 3 (G7 (Cu i) (G7 (Cu j) (G7 (Cu k) LL)))
def fF (r:zR L H [x,y,z] vs):∃ v1 v2 v3,vs=[v1,v2,v3]/\Rep L H x v1/\Rep L H y v2/\Rep L H z v3:=by
 unfold zR at r;obtain ⟨v1,r',rfl,h1,r⟩:=r;obtain ⟨v2,v3,rfl,h2,h3⟩:=r.two;exact ⟨v1,v2,v3,rfl,h1,h2,h3⟩
def bI {K:Yb} {i j k:Nat}:GOk (gP3 K i j k) (Hj i j k):=by
 intro L H Y Y' τ d v Q rs r hf q;unfold Hj at hf;split at hf
 .rename_i x y z;cases hf;unfold Rep at r;obtain ⟨a,vs,rfl,e,r⟩:=r;obtain ⟨v1,v2,v3,rfl,r1,r2,r3⟩:=fF r;exact ⟨a,_,rfl,.of e,rfl,v1,[v2,v3],rfl,v2,[v3],rfl,v3,[],rfl,rfl,q _ (((rs.set r1).set r2).set r3)⟩
 .cases hf
def VE {its:List Value} {i:Int} (e:s.heap.get? l=some { cls:=.type "list", data:=.seq its.toArray n }) (hfit:¬ (!Builtin.List.listFitsIndex i)=true) (h0:¬ (i<0)) (hz:its.toArray.size<=sizeLine)
  (h:∀ g:Array Value->Array Value,g its.toArray=(its.take (min i.toNat its.length)++[u2]++its.drop (min i.toNat its.length)).toArray->Q .none { s with heap:=s.heap.update l (Obj.mapSeq g),toks:=s.toks }) :
  wpAny (model prog w) A (call (.builtin "list.insert") [.ref l,.int i t,u2]) Q E s:=by
 have hm:=@AutoSeq1.list_insert_list_int_val_1 l its.toArray n i t u2 hfit hz;have h1:s.TypeIs (.ref l) "list" := ⟨_,e,rfl⟩;refine call_meets (B:=Builtin.«list.insert») (self:=.ref l) (rest:=[.int i t,u2]) F.slot_list_insert h1 F.entry_list_insert (F.args_list_insert_3 _ _ _) hm ⟨e,?_⟩;refine h _ ?_;simp only[h0,if_false,AQ];simp;exact G8 (by simp)
def OY:V->List V->Hp->VK->Prop:=λx vs H Q=>∃ (l:Yt) (i:Int) (y:V) (xs:List V),x=.ref l/\vs=[.int i,y]/\H l=some (.lst xs)/\0<=i/\i.toNat<=xs.length/\xs.length<sizeLine/\Q .non (upd H l (.lst (xs.take i.toNat++[y]++xs.drop i.toNat)))
def iY:MtM X "list.insert" OY:=by
 intro zB s Y H x vs v us Q I rx rv h;obtain ⟨l,i,y,xs,rfl,rfl,hH,h0,hi,hz,q⟩:=h;cases rx;obtain ⟨u,u2,rfl,⟨t,rfl⟩,ru2⟩:=rv.two;obtain ⟨z,its,n,r,hl,e⟩:=I.lstM hH;have hs:(sizeLine:Nat)<2 ^ 62:=by decide
 have hi1 : -(2 ^ 63)<=i:=by omega
 have hi2:i<2 ^ 63:=by omega
 refine VE (its:=its) e (by rw[fitsIndex_both hi1 hi2];exact B3) (by omega) (by rw[AQ,<-hl];exact Nat.le_of_lt hz) λg hg=>?_;rw[Nat.min_eq_left (by omega)]at hg;exact ⟨.non,_,I.lset (its':=its.take i.toNat++[u2]++its.drop i.toNat) (ys:=xs.take i.toNat++[y]++xs.drop i.toNat) hH e hg (((r.take i.toNat).append (.cons ru2 .nil)).append (r.drop i.toNat)) (by simp;omega),rfl,q⟩
noncomputable def HV:KM:=λx ds M=>match x,ds with
 |.dat (.ref n),[.int i,d]=>match M[n]? with
  |some (.lst xs)=>if 0<=i/\i.toNat<=xs.length/\xs.length<sizeLine then some (.non,M.set n (.lst (xs.take i.toNat++[d]++xs.drop i.toNat))) else none
  |_=>none
 |_,_=>none
theorem Rn:∀ (k:Nat) {ds:List D} {vs:List V},zR L H ds vs->zR L H (ds.take k) (vs.take k)
 |0,_,_,_=> .nil
 |k+1,[],vs,h=>by unfold zR at h;subst h;exact .nil
 |k+1,d::ds,vs,h=>by
  unfold zR at h;obtain ⟨v,r,rfl,h1,h2⟩:=h;exact .cons h1 (Rn k h2)
theorem OR:∀ (k:Nat) {ds:List D} {vs:List V},zR L H ds vs->zR L H (ds.drop k) (vs.drop k)
 |0,_,_,h=>h
 |k+1,[],vs,h=>by unfold zR at h;subst h;exact .nil
 |k+1,d::ds,vs,h=>by
  unfold zR at h;obtain ⟨v,r,rfl,h1,h2⟩:=h;exact OR k h2
def SU {K:Yb}:Hv K OY HV:=by
 intro L M M' H H0 x ds d v vs Q c rx rd hk q;unfold HV at hk;split at hk
 .rename_i n i d';split at hk
  .rename_i xs e1;split at hk
   .rename_i hz;cases hk;unfold ze Rep at rx;obtain ⟨a,rfl,e2⟩:=rx;obtain ⟨ws,e3,r3⟩:=c.obj n a _ e2 e1;obtain ⟨w1,w2,rfl,r4,r5⟩:=rd.two;have hw:w1=.int i:=by unfold Rep at r4;exact r4
    subst hw;obtain ⟨c5,s5⟩:=c.write e2 e1 (((Rn i.toNat r3).app (.cons r5 .nil)).app (OR i.toNat r3));exact ⟨a,i,w2,ws,rfl,rfl,e3,hz.1,by rw[r3.length];exact hz.2.1,by rw[r3.length];exact hz.2.2,q L _ _ s5 c5 (by unfold Rep;rfl)⟩
   .cases hk
  .cases hk
 .cases hk
def Z3 (h:QE X a f) (hg:QA X [x1,x2] fg) (hbase:attributeBase a "insert" X.env (eval a X.env)=eval a X.env:=by rfl)
  (hfew:((backTo cpos (starEach [x1,x2] X.env)).all (λx=> !x.1)&&(backToKw cpos (keywordEach [] X.env)).all (λx=>x.1.isSome)&&decide ([x1,x2].length+([]:List Keyword).length+(if ([]:List Keyword).isEmpty then 0 else 1)<30))=true:=by rfl)
  (hline:(apos.endLine==cpos.line)=true:=by rfl) (hs:starEach [x1,x2] X.env=(false,eval x1 X.env)::starEach [x2] X.env:=by rfl) (hplain:(backTo cpos (starEach [x2] X.env)).any (·.1)=false:=by rfl) :
  QE X (.Call (.Attribute a "insert" apos) [x1,x2] [] cpos) (fM HV f fg) :=
 .mk <| PE.imp (J0 PySem.F.plainAttrs_list PySem.F.slot_list_insert PySem.F.type_list_insert iY h.un hg.un hbase hfew hline hs hplain) λ_ _ _ z=>J4 SU z
noncomputable def Eo (fg:FG) (tc:FT) (fi2:FI) (own2:Yj) (fg2:FG) (tc2:FT) (te:FE) (Y:Sd) (all:List D) (gd:Option (Mem->Prop)):List D->List D->Mem->Option (List D × Mem)
 |[],acc,M=>open Classical in if BN gd all M then some (acc,M) else none
 |x::r,acc,M=>open Classical in if BN gd all M then match fg x Y with
   |some σ1=>match tc σ1 M with
    |some (true,M1)=>match fi2 σ1 M1 with
     |some (ys,gd2,M2)=>if acc.length+ys.length<=sizeLine then match BP fg2 tc2 te (An own2 σ1) ys gd2 ys M2 with
       |some (ds,M3)=>Eo fg tc fi2 own2 fg2 tc2 te Y all gd r (acc++ds) M3
       |none=>none
      else none
     |none=>none
    |some (false,M1)=>Eo fg tc fi2 own2 fg2 tc2 te Y all gd r acc M1
    |none=>none
   |none=>none
  else none
noncomputable def Hb (own own2:Yj) (fi:FI) (fg:FG) (tc:FT) (fi2:FI) (fg2:FG) (tc2:FT) (te:FE):FE:=λY M=>match fi Y M with
 |some (xs,gd,M1)=>match Eo fg tc fi2 own2 fg2 tc2 te (An own Y) xs gd xs [] M1 with
  |some (ys,M2)=>some (.fl ys,M2)
  |none=>none
 |none=>none
def Xh {K:Yb} {own own2:Yj} {fi fi2:FI} {g g2:TG} {fg fg2:FG} {tc tc2:FT} {te:FE} (hg:DF own g fg) (hg2:DF own2 g2 fg2) {τ:Sv} {H:Hp} {Q:VK} (h:trE K (Hb own own2 fi fg tc fi2 fg2 tc2 te) τ H Q) :
  N3 own own2 (trI K fi) g (trT K tc) (trI K fi2) g2 (trT K tc2) (trD K (toD te)) τ H Q:=by
 obtain ⟨L,Y,M,d,Mf,c,rs,hf,q⟩:=h;unfold Hb at hf;split at hf
 .rename_i xs gd M1 e1;split at hf
  .rename_i zs M2 e2;cases hf;refine ⟨L,Y,M,_,_,_,c,rs,e1,λL1 H1 J s1 c1 it=>?_⟩
   refine ⟨λi m ys H'=>m=xs.length-i/\i<=xs.length /\ ∃ L' M' as,Stp L1 H1 L' H'/\Cor K L' M' H'/\zR L' H' as ys/\as.length<=sizeLine/\Eo fg tc fi2 own2 fg2 tc2 te (An own Y) xs gd (xs.drop i) as M'=some (zs,Mf),
    ⟨xs.length,by simp,BD _,L1,M1,[],.refl _ _,c1,.nil,BD _,by simpa using e2⟩,?_⟩
   rintro i m ys H' ⟨rfl,hi,L',M',as,s',c',r',hl,e'⟩;by_cases hlt:i<xs.length
   .rw[HJ hlt]at e';unfold Eo at e';split at e'
    .rename_i hgd;obtain ⟨step,_⟩:=it L' H' M' s' c' hgd;obtain ⟨go,yl⟩:=step i xs[i] (AV hlt);split at e'
     .rename_i σ1 eg;refine .inr ⟨go,λv H2 hy=>?_⟩;obtain ⟨gr,rv⟩:=yl v H2 hy;have s2:Stp L1 H1 L' H2:=s'.yld gr;refine hg (HC own ((rs.stp s1).stp s2)) (.refl _) rv eg λτ2 r2 x2=>⟨x2,?_⟩;split at e'
      .rename_i M3 e3;split at e'
       .rename_i ys2 gd2 M4 e4;split at e'
        .rename_i hz2;split at e'
         .rename_i ds M5 e5;refine ⟨L',σ1,M',_,_,c'.grow gr,r2,e3,λL3 H3 s3 c3=>Dn ?_⟩;have st3:Stp L' H' L3 H3:=(Stp.grow gr).trans s3;refine ⟨L3,σ1,M3,_,_,_,c3,r2.stp s3,e4,λL4 H4 J2 s4 c4 it2=>?_⟩
          refine ⟨λj m2 ws H5=>m2=ys2.length-j/\j<=ys2.length /\ ∃ L5 M6 bs cs,Stp L4 H4 L5 H5/\Cor K L5 M6 H5/\zR L5 H5 (as++bs) ws/\bs.length<=j/\BP fg2 tc2 te (An own2 σ1) ys2 gd2 (ys2.drop j) M6=some (cs,M5)/\bs++cs=ds,
           ⟨ys2.length,by simp,BD _,L4,M4,[],ds,.refl _ _,c4,by simpa using (r'.stp st3).stp s4,AF _,by simpa using e5,rfl⟩,?_⟩
          rintro j m2 ws H5 ⟨rfl,hj,L5,M6,bs,cs,s5,c5,r5,hbl,e6,hbc⟩;have hws:ws.length<=as.length+j:=by rw[r5.length,AU];omega
          by_cases hlt2:j<ys2.length
          .rw[HJ hlt2]at e6;unfold BP at e6;split at e6
           .rename_i hgd2;obtain ⟨step2,_⟩:=it2 L5 H5 M6 s5 c5 hgd2;obtain ⟨go2,yl2⟩:=step2 j ys2[j] (AV hlt2);split at e6
            .rename_i σ2 eg2;refine .inr ⟨go2,λv2 H6 hy2=>?_⟩;obtain ⟨gr2,rv2⟩:=yl2 v2 H6 hy2;have s6:Stp L4 H4 L5 H6:=s5.yld gr2;refine hg2 (HC own2 (((r2.stp s3).stp s4).stp s6)) (.refl _) rv2 eg2 λτ3 r3 x3=>⟨x3,?_⟩;split at e6
             .rename_i M7 e7;split at e6
              .rename_i d M8 e8;split at e6
               .rename_i ds' M9 e9;cases e6;refine ⟨L5,σ2,M6,_,_,c5.grow gr2,r3,e7,λL7 H7 s7 c7=>Dn ?_⟩;refine ⟨L7,σ2,M7,_,_,c7,r3.stp s7,e8,λL8 H8 w s8 c8 r8=>?_⟩;have st:Stp L5 H5 L8 H8:=((Stp.grow gr2).trans s7).trans s8;refine ⟨by omega,ys2.length-(j+1),by omega,rfl,hlt2,L8,M8,bs++[d],ds',s5.trans st,c8,?_,by simp;omega,e9,by rw[<-hbc];simp⟩;have:=(r5.stp st).app (.cons r8 .nil);simpa using this
               .cases e6
              .cases e6
             .rename_i M7 e7;refine ⟨L5,σ2,M6,_,_,c5.grow gr2,r3,e7,λL7 H7 s7 c7=>Dr ?_⟩;have st:Stp L5 H5 L7 H7:=(Stp.grow gr2).trans s7;exact ⟨ys2.length-(j+1),by omega,rfl,hlt2,L7,M7,bs,cs,s5.trans st,c7,r5.stp st,by omega,e6,hbc⟩
             .cases e6
            .cases e6
           .cases e6
          .have hj':j=ys2.length:=by omega
           subst hj';rw[List.drop_length]at e6;unfold BP at e6;split at e6
           .rename_i hgd2;cases e6;obtain ⟨_,stop2⟩:=it2 L5 H5 _ s5 c5 hgd2;rw[Au]at hbc;subst hbc;refine .inl ⟨stop2,xs.length-(i+1),by omega,rfl,hlt,L5,M5,as++bs,s'.trans ((st3.trans s4).trans s5),c5,r5,by rw[AU];omega,e'⟩
           .cases e6
         .cases e'
        .cases e'
       .cases e'
      .rename_i M3 e3;refine ⟨L',σ1,M',_,_,c'.grow gr,r2,e3,λL3 H3 s3 c3=>Dr ?_⟩;have st:Stp L' H' L3 H3:=(Stp.grow gr).trans s3;exact ⟨xs.length-(i+1),by omega,rfl,hlt,L3,M3,as,s'.trans st,c3,r'.stp st,hl,e'⟩
      .cases e'
     .cases e'
    .cases e'
   .have hi':i=xs.length:=by omega
    subst hi';rw[List.drop_length]at e';unfold Eo at e';split at e'
    .rename_i hgd;cases e';obtain ⟨_,stop⟩:=it L' H' _ s' c' hgd;refine .inl ⟨stop,by rw[r'.length];exact hl,λp hp=>?_⟩;exact q L' _ _ ((s1.trans s').trans (.upd hp)) (c'.upd hp) (ze.newLst (s1.trans s') c c' hp r')
    .cases e'
  .cases hf
 .cases hf
structure QParts2 (X:Cx) (scope:Y0) (t1:Expr) (f1:Yi) (t2 i2:Expr) (f2:Yi) (elt:Expr) (g:TG) (tc:FT) (fi2:FI) (g2:TG) (tc2:FT) (te:FE):Prop where
 g:∀ zB cl s H fp,PG (zQ X zB scope cl s H fp) t1 g
 c:∀ zB cl s H fp,QIfs (zQ X zB scope cl s H fp) f1 tc
 w2:∀ zB cl s H fp,QI (zQ X zB scope cl s H fp) t2 i2 fi2
 g2:∀ zB cl s H fp,PG (zQ X zB scope cl s H fp) t2 g2
 c2:∀ zB cl s H fp,QIfs (zQ X zB scope cl s H fp) f2 tc2
 e:∀ zB cl s H fp,QE (zQ X zB scope cl s H fp) elt te
 s2:∀ zB cl s H fp x,foldedSetIterable i2 (zQ X zB scope cl s H fp).env x=pure x
def We {own own2:Yj} {fi fi2:FI} {g g2:TG} {fg fg2:FG} {tc tc2:FT} {te:FE} (hsub:∀ i∈own2,i∈own) (hg:DF own g fg) (hg2:DF own2 g2 fg2) (C:CompIn X scope own) (hcalm:X.calm=true) (hi:QI X t1 i1 fi) (p:QParts2 X scope t1 f1 t2 i2 f2 elt g tc fi2 g2 tc2 te) (hs:∀ x,foldedSetIterable i1 X.env x=pure x:=by intro _;rfl) :
  QE X (Bw elt t1 i1 f1 t2 i2 f2 scope pos) (Hb own own2 fi fg tc fi2 fg2 tc2 te) :=
 .mk <| PE.imp (ZU hsub C hcalm hi.un ⟨p.g,λzB cl s H fp=>(p.c zB cl s H fp).un,λzB cl s H fp=>(p.w2 zB cl s H fp).un,p.g2,λzB cl s H fp=>(p.c2 zB cl s H fp).un,λzB cl s H fp=>(CW (p.e zB cl s H fp)).un,p.s2⟩ hs) λ_ _ _ h=>Xh hg hg2 h
end L3
namespace L2
def bO (hN:X.N.Nodup) (hi':X.N[i]?=some x) (hx:Loc X.env.scope x) (hfn:X.fn x=true\/X.env.scope.names.lookup x=some .local)
  (hsw:swapsWith (.DictComp kx vx [⟨tg,iter,ifs,0⟩] scope pos) (some (.Name x pos')) pos''.line X.env=pure true)
  (hu:X.A.units+1<cLine) (C:CompIn X scope own) (hcalm:X.calm=true) (hi:PI X tg iter wi) (p:CompParts X scope tg ifs kx g tc tk) (p2:∀ zB cl s H fp,PE (zQ X zB scope cl s H fp) vx tv) (hs:∀ x,foldedSetIterable iter X.env x=pure x:=by intro _;rfl) :
  PS X (.Assign [.Name x pos'] (.DictComp kx vx [⟨tg,iter,ifs,0⟩] scope pos) pos'') (Hz (Lq isT own wi g tc tk tv) (Cu i)):=by
 intro zB s Y H D I h;obtain ⟨cl,hcl,c1,c2⟩:=C.sc.closure I;rw[exec_Assign_Name_used _ _ _ _ hsw];refine AA (CU (AA ?_));show wpAny _ X.A (do let _ <- comprehension (.DictComp kx vx [⟨tg,iter,ifs,0⟩] scope pos) scope X.env _ newDict false (eval iter X.env) (some (assign (.Name x pos') X.env))) _ _ s
 refine AA (AS (Hg (use:=some (assign (.Name x pos') X.env)) (Q:=λ_ s'=>SP X zB D .next s') rfl hs hcl C.sc.kind C.sc.names
  (thn (hi zB s Y H _ I h) λv s1 h1=>thn h1 λitv s2 h2=>?_)) (λ_ s' hq=>AD (AD hq)) λ_ _ e=>e)
 obtain ⟨it,fp,tn,J,H2,e,I2,T,st2,f2,hD⟩:=h2;subst e;obtain ⟨W,⟨m0,w0⟩,turn⟩:=hD s2.heap.objs.size (I2.hok.fresh (AF _))
 refine Ro hu C hcalm I2 T st2 f2 c1 c2 (p.g _ _ _ _ _) (p.c _ _ _ _ _) (p.e _ _ _ _ _) (p2 _ _ _ _ _) (RR:=λacc C r s'=>compPost (model X.prog X.w) X.A X.xe (some (assign (.Name x pos') X.env)) (λ_ s'=>SP X zB D .next s') acc C r s')
  (QQ:=λH=>Cu i (.ref s2.heap.objs.size) Y H D.nx) w0 turn ?_
 intro σc H' s' Ic qq;obtain ⟨m,hn,_⟩:=Ic.loc;have J':=Oa (h':=s'.heap) I2 f2 Ic (.refl ..);obtain ⟨oC,es,ep,hoC,hdC,r1,r2⟩:=id hn;have nC:H' (s2.heap.objs.size+1)=none:=Ic.free;have K':Inv X (zB++[(s2.heap.objs.size+1,oC)]) Y H' s':=J'.pins_of λq hq=>by
  rcases Ak.mp hq with z|z
  .exact J'.pin q (Ap _ z)
  .have e:q=(s2.heap.objs.size+1,oC):=by simpa using z
   subst e;refine ⟨hoC,nC,Dd (CY I2.lt),I2.nofs (DQ _),λv z=>?_⟩;have z':oC.data=.cell v:=z;rw[hdC]at z';cases z'
 show wpAny _ X.A (assign (.Name x pos') X.env (.ref s2.heap.objs.size)) _ _ _;refine thn (NK hN hi' hx hfn _ s' Y _ (.ref s2.heap.objs.size) (.ref s2.heap.objs.size) _ K' rfl qq) λ_ s'' ⟨Y'',H'',I'',q''⟩=>?_;obtain ⟨eC,_⟩:=I''.pin (s2.heap.objs.size+1,oC) (by simp);refine ⟨m,⟨oC,es,ep,eC,hdC,r1,r2⟩,λh' hs'=>⟨Y'',H'',?_,q''⟩⟩;have I3:Inv X zB Y'' H'' s'':=I''.unpinned;obtain ⟨_,nC'',neC,_,_⟩:=I''.pin (s2.heap.objs.size+1,oC) (by simp);refine I3.turned (t':=s''.toks) (it:=s2.heap.objs.size+1) (λb o hb e=>hs'.extBut b o hb e) nC'' neC (.inr (AW I2.sz (DQ _))) (λx c e z=>?_) (λq hq z=>?_)
 .obtain ⟨v,o,ho,hd⟩:=I3.cell x c e;rw[z,eC]at ho;cases ho;rw[hdC]at hd;cases hd
 .obtain ⟨e,_⟩:=I2.pin q hq;exact AY (CY (AI e)) z
end L2
namespace L3
open L2
section
variable {isT:Bool}
def UM (hN:X.N.Nodup) (hi':X.N[i]?=some x) (hx:Loc X.env.scope x) (hfn:X.fn x=true\/X.env.scope.names.lookup x=some .local)
  (hsw:swapsWith (.DictComp kx vx [⟨tg,iter,ifs,0⟩] scope pos) (some (.Name x pos')) pos''.line X.env=pure true)
  (hu:X.A.units+1<cLine) (hg:DF own g fg) (C:CompIn X scope own) (hcalm:X.calm=true) (hi:QI X tg iter fi) (p:QParts X scope tg ifs kx g tc tk) (p2:∀ zB cl s H fp,QE (zQ X zB scope cl s H fp) vx tv) (hs:∀ x,foldedSetIterable iter X.env x=pure x:=by intro _;rfl) :
  QS X (.Assign [.Name x pos'] (.DictComp kx vx [⟨tg,iter,ifs,0⟩] scope pos) pos'') (zi i (EM isT own fi fg tc tk tv)) :=
 .mk <| PS.imp (bO (isT:=isT) hN hi' hx hfn hsw hu C hcalm hi.un p.parts (λ_ _ _ _ _=>(CW (p2 _ _ _ _ _)).un) hs) λ_ _ _ z=>Mb (λ_ _ _ z=>RX hg z) z
end
open SeqAt
def DP (A:Yn) (s:Yl) (x y:Yu) (b:Bool):Prop:=∀ (prog:Ym) (w:Yo) (E Q:Yc),Q (.bool b) s->wpAny (model prog w) A (richCompare .Lt x y) Q E s
def DP.ints (i:Int) (t:Tok) (j:Int) (u:Tok):DP A s (.int i t) (.int j u) (decide (i<j)):=λprog w E Q q=>
 richCompare_gives (op:=.Lt) (typeIs_int s i t) (typeIs_int s j u) F.slot_int_lt F.entry_int_lt (F.args_int_lt_2 _ _) (gives_int_lt i j t u) (λx=>nomatch x) q
noncomputable def FX (e l:Nat->Bool) (sz:Bool):Nat->Nat->Bool
 |0,_=>sz
 |m+1,k=>if e k then FX e l sz m (k+1) else l k
def SR (a b:Yt) (xs ys:Yp) (n1 n2:Nat) (d1 d2:Option Addr) (s1 s2:Array (Option Value)) (e l:Nat->Bool) :
  Meets (Builtin.«tuple.__lt__» ⟨[.ref a,.ref b],[]⟩)
   (λA R s=>s.heap.get? a=some { cls:=.type "tuple", dict:=d1,data:=.seq xs n1,slots:=s1 }/\s.heap.get? b=some { cls:=.type "tuple", dict:=d2,data:=.seq ys n2,slots:=s2 } /\
    (∀ j (h1:j<xs.size) (h2:j<ys.size),EqAt A.in1 s xs[j] ys[j] (e j))/\(∀ j (h1:j<xs.size) (h2:j<ys.size),e j=false->DP A.in1 s xs[j] ys[j] (l j)) /\
    R (.ok (.ret (.bool (FX e l (decide (xs.size<ys.size)) (min xs.size ys.size) 0)))) s) :=
 .of_wp λprog w A R s h=>by
  obtain ⟨hp,g,d,tk,os⟩:=s;obtain ⟨ha,hb,he,hl,q⟩:=h;have f2:=AutoSeq1.sub_tuple_tuple;have hZ:(xs.toList.zip ys.toList).length=min xs.size ys.size:=by simp
  wp_walk using wpAny_loadPart' ha,wpAny_loadPart' hb,wpAny_forIn_list _ (λrest c s'=>c.1=none/\s'=⟨hp,g,d,tk,os⟩ /\ ∃ i,i<=min xs.size ys.size/\rest=(xs.toList.zip ys.toList).drop i /\
   R (.ok (.ret (.bool (FX e l (decide (xs.size<ys.size)) (min xs.size ys.size-i) i)))) ⟨hp,g,d,tk,os⟩) _
  case turn=>
   rintro ⟨y,x⟩ rest c s' ⟨hc,rfl,i,hi,hz,q⟩;have hlt:i<(xs.toList.zip ys.toList).length:=by
    rcases DE i (xs.toList.zip ys.toList).length with z|z
    .exact z
    .rw[List.drop_of_length_le z]at hz;cases hz
   have hm:i<min xs.size ys.size:=hZ▸hlt;have i1:i<xs.size:=by omega
   have i2:i<ys.size:=by omega
   rw[List.drop_eq_getElem_cons hlt]at hz;injection hz with hyx hrest
   have hy:y=xs[i]:=by have:=Bf Prod.fst hyx;simpa using this
   have hx:x=ys[i]:=by have:=Bf Prod.snd hyx;simpa using this
   subst hy hx;rw[show min xs.size ys.size-i=(min xs.size ys.size-(i+1))+1 by omega,FX]at q;refine AA (he i i1 i2 prog w _ _ ?_);cases hq:e i with
   |true=>
    rw[hq,AB rfl]at q;wp_walk;exact ⟨rfl,rfl,i+1,by omega,hrest,q⟩
   |false=>
    rw[hq,AE (by decide)]at q;refine wpAny_ite_split (λ_=>?_) (λz=>absurd rfl z);refine AA (Cm (AA (hl i i1 i2 hq prog w _ _ ?_)));wp_walk;exact ⟨_,rfl,q⟩
  case fin=>
   rintro ⟨c1,c2⟩ s' ⟨hc,rfl,i,hi,hz,q⟩;simp only at hc;subst hc;have hge:min xs.size ys.size<=i:=by
    rcases DE i (xs.toList.zip ys.toList).length with z|z
    .rw[List.drop_eq_getElem_cons z]at hz;cases hz
    .exact hZ▸z
   rw[show min xs.size ys.size-i=0 by omega,FX]at q;wp_walk;exact ⟨_,rfl,by simpa [Builtin.Tuple.tupleCompareSizes] using q⟩
  case h=>
   exact ⟨rfl,rfl,0,by omega,rfl,q⟩
def DP.tuples (ha:s.heap.IsTuple a xs) (hb:s.heap.IsTuple b ys) (hu:A.units<cLine)
  (he:∀ j (h1:j<xs.size) (h2:j<ys.size),EqAt A.in1 s xs[j] ys[j] (e j)) (hl:∀ j (h1:j<xs.size) (h2:j<ys.size),e j=false->DP A.in1 s xs[j] ys[j] (l j)) :
  DP A s (.ref a) (.ref b) (FX e l (decide (xs.size<ys.size)) (min xs.size ys.size) 0):=λprog w E Q q=>by
 obtain ⟨⟨c1,d1,t1,s1⟩,o1,rfl,n1,rfl⟩:=id ha;obtain ⟨⟨c2,d2,t2,s2⟩,o2,rfl,n2,rfl⟩:=id hb;exact richCompare_meets_room (op:=.Lt) ⟨_,o1,rfl⟩ ⟨_,o2,rfl⟩ F.slot_tuple_lt F.entry_tuple_lt (F.args_tuple_lt_2 _ _) (SR a b xs ys n1 n2 d1 d2 s1 s2 e l) ⟨o1,o2,he,hl,(λx=>nomatch x),q⟩ hu
section
variable {St:Nat->Heap->Prop}
abbrev HF (s0:Yl) (h:Heap):Prop:=∀ b o,s0.heap.get? b=some o->h.get? b=some o
def O6 (prog:Ym) (w:Yo) (A:Yn) (s0:Yl) (P:Nat->Value->Prop) (bt:Nat->Nat->Bool):Prop :=
 ∀ i j x y h t (Q E:Yc),HF s0 h->P i x->P j y->Q (.bool (bt i j)) { s0 with heap:=h,toks:=t }->wpAny (model prog w) A (richCompare .Lt x y) Q E { s0 with heap:=h,toks:=t }
def J9:(toString "min" ++ toString ".loop" : String) = "min.loop" := by decide
def bT (W:Walks prog w A.in1 J fp wr n P St) (bt:Nat->Nat->Bool) (cmp:O6 prog w A.in1 s0 P bt) (S:Yt) (sf:S∉fp) (new:∀ b o,s0.heap.get? b=some o->b∉wr/\b≠S) :
  ∀ (k j:Nat) (h:Heap) (t:Nat) (best:Yu) (c:Nat),n-(j+1)=k->j+1<=n->St (j+1) h->P (argBest bt j) best->HF s0 h ->
  h.get? S=some { cls:=.type "list", dict:=none,data:=.seq #[best,best] c,slots:=#[] } ->
  (∀ v h' t',P (argBest bt (n-1)) v->HF s0 h'->R (.ok (.ret v)) { s0 with heap:=h',toks:=t' }) ->
  codeAny (model prog w) A (.builtin "min.loop" ⟨[.ref J,.none,.ref S],[]⟩) R { s0 with heap:=h,toks:=t }:=by
 have sw:S∉wr:=λz=>sf (W.sub _ z);intro k;induction k with
 |zero=>
  intro j h t best c hk hj st pb ko hS q;have e:j+1=n:=by omega
  refine DS F.entry_min_loop ?_;rw[EY F.plain_min_loop _];refine AA (DW (s:={ s0 with heap:=h,toks:=t }) hS rfl ?_);refine AA (wpAny_tryCatch (W.done { s0 with heap:=h,toks:=t } _ _ (e▸st) λh1 t1 k1=>?_));have hS1:=k1 S _ sw hS;refine AA ?_;refine wpAny_updateSeq hS1 rfl (AA (wpAny_letGo (AD ?_)));exact q best _ t1 (by rw[<-e];exact pb) λb o eo=>(Du _ _ (Ne.symm (new b o eo).2)).trans (k1 b o (new b o eo).1 (ko b o eo))
 |succ k ih=>
  intro j h t best c hk hj st pb ko hS q;have lt:j+1<n:=by omega
  refine DS F.entry_min_loop ?_;rw[EY F.plain_min_loop _];refine AA (DW (s:={ s0 with heap:=h,toks:=t }) hS rfl ?_);refine AA (wpAny_tryCatch (W.item (j+1) { s0 with heap:=h,toks:=t } _ _ lt st λv h1 t1 pv st1 k1=>?_));have hS1:=k1 S _ sw hS;have ko1:HF s0 h1:=λb o eo=>k1 b o (new b o eo).1 (ko b o eo);show wpAny _ A.in1 (tryCatch (holding [v,v] (richCompare .Lt v best >>= _)) _ >>= _) _ _ { s0 with heap:=h1,toks:=t1 };refine AA (wpAny_tryCatch (CF (AA (cmp (j+1) (argBest bt j) v best h1 t1 _ _ ko1 pv pb ?_))));refine AA (CF (EI ?_));refine AA (wpAny_letGo (AD ?_));cases hb:bt (j+1) (argBest bt j) with
  |true=>
   simp only[if_true];refine AA ?_;refine wpAny_updateSeq (s:={ s0 with heap:=h1,toks:=t1 }) hS1 rfl (AA (wpAny_letGo ?_));rw[J9];refine AD ⟨plainId_quiet F.plain_min_loop _,ih (j+1) _ t1 v _ (by omega) lt (W.frame _ _ _ st1 λb hbf o e=>(Du _ _ (λz:S=b=>sf (by rw[z];exact hbf))).trans e) (by simp only[argBest,hb,if_true];exact pv) (λb o eo=>(Du _ _ (Ne.symm (new b o eo).2)).trans (ko1 b o eo)) (Dc _ hS1 rfl) q⟩
  |false=>
   simp only[Dz,if_false];refine AA (wpAny_letGo ?_);rw[J9];exact AD ⟨plainId_quiet F.plain_min_loop _,ih (j+1) h1 t1 best c (by omega) lt st1 (by simp only[argBest,hb,Dz,if_false];exact pb) ko1 hS1 q⟩
end
def Za
  (h:wpAny (model prog w) A.in1 (pyIter x) (λit s2=>∃ J fp wr n P St bt h2,it=.ref J/\s2={ s with heap:=h2 }/\Walks prog w A.in1 J fp wr n P St/\St 0 h2/\HF s h2/\(∀ b o,s.heap.get? b=some o->b∉wr)/\(∀ b∈fp,b<h2.objs.size)/\0<n/\O6 prog w A.in1 s P bt /\
   ∀ v h' tk,P (argBest bt (n-1)) v->HF s h'->Q v { s with heap:=h',toks:=tk }) E s) :
  wpAny (model prog w) A (call (.builtin "min") [x]) Q E s:=by
 refine call_function_tree F.kind_min F.plain_min F.entry_min (F.args_min1 _) ?_;refine AA (wpAny_of_eq (show Builtin.Builtins.bindParams "min" ["key", "default"] 0 ⟨[],[]⟩=pure [none,none]from rfl) ?_);refine AA (AD ?_);refine AA (AS h (λit s2 g=>?_) λ_ _ e=>e);obtain ⟨J,fp,wr,n,P,St,bt,h2,rfl,rfl,W,st,ko,nw,hfp,n0,cmp,q⟩:=g;refine AA (Ba ?_);have sf:h2.objs.size∉fp:=λhm=>BZ _ (hfp _ hm);have sw:h2.objs.size∉wr:=λz=>sf (W.sub _ z);rw[J9];generalize hH:h2.push { cls:=.type "list", data:=.seq ([]:List Value).toArray }=H;have kH:∀ b u,h2.get? b=some u->H.get? b=some u:=λb u e=>by rw[<-hH];exact AN _ e
 have hS:H.get? h2.objs.size=some { cls:=.type "list", data:=.seq ([]:List Value).toArray }:=by rw[<-hH];exact Ad _ rfl
 refine AD ⟨plainId_quiet F.plain_min_loop _,?_⟩;refine DS F.entry_min_loop ?_;rw[EY F.plain_min_loop _];refine AA (DW (s:={ s with heap:=H }) hS rfl ?_);have st':St 0 H:=W.frame _ _ _ st λb _ o e=>kH b o e;refine AA (wpAny_tryCatch (W.item 0 { s with heap:=H } _ _ n0 st' λv h1 t1 pv st1 k1=>?_));have hS1:=k1 _ _ sw hS;show wpAny _ A.in1 (updateSeq h2.objs.size (λ_=> #[v,v]) >>= _) _ _ { s with heap:=h1,toks:=t1 };refine AA ?_;refine wpAny_updateSeq (s:={ s with heap:=h1,toks:=t1 }) hS1 rfl ?_;rw[J9];have nS:∀ b o,s.heap.get? b=some o->b≠h2.objs.size:=λb o e=>AY (AI (ko b o e));refine AD ⟨plainId_quiet F.plain_min_loop _,bT (s0:=s) W bt cmp h2.objs.size sf (λb o e=>⟨nw b o e,nS b o e⟩) _ 0 _ t1 v _ rfl n0 (W.frame _ _ _ st1 λb hbf o e=>(Du _ _ (λz:h2.objs.size=b=>sf (by rw[z];exact hbf))).trans e) pv (λb o e=>(Du _ _ (Ne.symm (nS b o e))).trans (k1 b o (nw b o e) (kH b o (ko b o e)))) (Dc _ hS1 rfl) q⟩
noncomputable abbrev NP:=Int × Int × Int
noncomputable def npD (t:NP):D:=.tup [.int t.1,.tup [.int t.2.1,.int t.2.2]]
noncomputable def Nl:D->Option NP
 |.tup [.int k,.tup [.int a,.int b]]=>some (k,a,b)
 |_=>none
def bK (h:Nl d=some t):d=npD t:=by
 unfold Nl at h;split at h
 .cases h;rfl
 .cases h
noncomputable def HU:List D->Option (List NP)
 |[]=>some []
 |d::r=>match Nl d,HU r with
  |some t,some ts=>some (t::ts)
  |_,_=>none
theorem QX:∀ {ds:List D} {ts:List NP},HU ds=some ts->ds=ts.map npD
 |[],ts,h=>by cases h;rfl
 |d::r,ts,h=>by
  unfold HU at h;split at h
  .rename_i t ts' e1 e2;cases h;rw[AX,bK e1,QX e2]
  .cases h
theorem Rr:∀ ts:List NP,HU (ts.map npD)=some ts
 |[]=>rfl
 |t::r=>by rw[AX,HU,Rr r];rfl
noncomputable def ltP (x y:NP):Bool:=decide (x.1<y.1\/(x.1=y.1/\(x.2.1<y.2.1\/(x.2.1=y.2.1/\x.2.2<y.2.2))))
def Ju (r:zR L H [x,y] vs):∃ v1 v2,vs=[v1,v2]/\Rep L H x v1/\Rep L H y v2:=r.two
def Jb (r:zg [v1,v2] its):∃ u1 u2,its=[u1,u2]/\zr v1 u1/\zr v2 u2:=by
 have hl:=r.length;obtain ⟨u1,e1,r1⟩:=r.get (i:=0) rfl;obtain ⟨u2,e2,r2⟩:=r.get (i:=1) rfl;match its,hl,e1,e2 with
 |[a,b],_,e1,e2=>cases e1;cases e2;exact ⟨_,_,rfl,r1,r2⟩
 |[],hl,_,_=>cases hl
 |[_],hl,_,_=>cases hl
 |_::_::_::_,hl,_,_=>simp at hl
def W5 (I:Inv X zB Y H s) (hu:A.units+1<cLine) (rx:Rep L H (.tup [.int a,.int b]) v) (ry:Rep L H (.tup [.int c,.int d]) w) (ru:zr v u) (ru':zr w u'):DP A s u u' (decide (a<c\/(a=c/\b<d))):=by
 unfold Rep at rx ry;obtain ⟨p,vs,rfl,e,r⟩:=rx;obtain ⟨q,ws,rfl,e2,r2⟩:=ry;cases ru;cases ru';obtain ⟨v1,v2,rfl,t1,t2⟩:=Ju r;obtain ⟨w1,w2,rfl,t3,t4⟩:=Ju r2;unfold Rep at t1 t2 t3 t4;subst t1;subst t2;subst t3;subst t4;obtain ⟨its,rv,p1,_⟩:=I.tuple (.of e);obtain ⟨its2,rv2,p2,_⟩:=I.tuple (.of e2);obtain ⟨u1,u2,rfl,⟨k1,rfl⟩,⟨k2,rfl⟩⟩:=Jb rv;obtain ⟨u3,u4,rfl,⟨k3,rfl⟩,⟨k4,rfl⟩⟩:=Jb rv2;have key:=DP.tuples (A:=A) (s:=s) (e:=λj=>if j=0 then a==c else b==d) (l:=λj=>if j=0 then decide (a<c) else decide (b<d)) p1 p2 (by omega) (λj h1 h2=>by
  match j,h1,h2 with
  |0,_,_=>exact EqAt.int_int a k1 c k3
  |1,_,_=>exact EqAt.int_int b k2 d k4
  |j+2,h1,_=>simp at h1;omega) (λj h1 h2 _=>by
  match j,h1,h2 with
  |0,_,_=>exact DP.ints a k1 c k3
  |1,_,_=>exact DP.ints b k2 d k4
  |j+2,h1,_=>simp at h1;omega)
 have ev:FX (λj=>if j=0 then a==c else b==d) (λj=>if j=0 then decide (a<c) else decide (b<d)) (decide (2<2)) (min 2 2) 0=decide (a<c\/(a=c/\b<d)):=by
  show (if (a==c)=true then (if (b==d)=true then false else decide (b<d)) else decide (a<c))=_;by_cases h1:a=c
  .subst h1;rw[AB (by simp)];by_cases h2:b=d
   .subst h2;rw[AB (by simp)];simp
   .rw[AE (by simpa using h2)];simp
  .rw[AE (by simpa using h1)];exact decide_eq_decide.mpr ⟨.inl,λh=>h.elim id λz=>absurd z.1 h1⟩
 rw[<-ev];exact key
def nA (I:Inv X zB Y H s) (hu:A.units+2<cLine) (rx:Rep L H (npD x) v) (ry:Rep L H (npD y) w) (ru:zr v u) (ru':zr w u'):DP A s u u' (ltP x y):=by
 obtain ⟨k,a,b⟩:=x;obtain ⟨k',c,d⟩:=y;unfold npD Rep at rx ry;obtain ⟨p,vs,rfl,e,r⟩:=rx;obtain ⟨q,ws,rfl,e2,r2⟩:=ry;cases ru;cases ru';obtain ⟨v1,v2,rfl,t1,t2⟩:=Ju r;obtain ⟨w1,w2,rfl,t3,t4⟩:=Ju r2;unfold Rep at t1 t3;subst t1;subst t3;obtain ⟨its,rv,p1,_⟩:=I.tuple (.of e);obtain ⟨its2,rv2,p2,_⟩:=I.tuple (.of e2);obtain ⟨u1,u2,rfl,⟨k1,rfl⟩,z2⟩:=Jb rv;obtain ⟨u3,u4,rfl,⟨k3,rfl⟩,z4⟩:=Jb rv2;have hu1:A.in1.units+1<cLine:=by show A.units+1+1<cLine;omega
 have he:=PM I 1 A.in1 (.tup [.int a,.int b]) (.tup [.int c,.int d]) v2 w2 u2 u4 hu1 rfl rfl t2 t4 z2 z4;have hl:=W5 I hu1 t2 t4 z2 z4;have key:=DP.tuples (A:=A) (s:=s) (e:=λj=>if j=0 then k==k' else Am 1 (.tup [.int a,.int b]) (.tup [.int c,.int d])) (l:=λj=>if j=0 then decide (k<k') else decide (a<c\/(a=c/\b<d))) p1 p2 (by omega) (λj h1 h2=>by
  match j,h1,h2 with
  |0,_,_=>exact EqAt.int_int k k1 k' k3
  |1,_,_=>exact he
  |j+2,h1,_=>simp at h1;omega) (λj h1 h2 _=>by
  match j,h1,h2 with
  |0,_,_=>exact DP.ints k k1 k' k3
  |1,_,_=>exact hl
  |j+2,h1,_=>simp at h1;omega)
 have ev:FX (λj=>if j=0 then k==k' else Am 1 (.tup [.int a,.int b]) (.tup [.int c,.int d])) (λj=>if j=0 then decide (k<k') else decide (a<c\/(a=c/\b<d))) (decide (2<2)) (min 2 2) 0=ltP (k,a,b) (k',c,d):=by
  show (if (k==k')=true then (if Am 1 (.tup [.int a,.int b]) (.tup [.int c,.int d])=true then false else decide (a<c\/(a=c/\b<d))) else decide (k<k'))=_;unfold ltP;have he2:Am 1 (.tup [.int a,.int b]) (.tup [.int c,.int d])=decide (a=c/\b=d):=by
   simp[Am]
  rw[he2];by_cases h1:k=k'
  .subst h1;rw[AB (by simp)];by_cases h2:a=c/\b=d
   .obtain ⟨rfl,rfl⟩:=h2;simp
   .rw[AE (by simpa using h2)];exact decide_eq_decide.mpr (by dsimp only;constructor <;> intro h <;> omega)
  .rw[AE (by simpa using h1)];exact decide_eq_decide.mpr (by dsimp only;constructor <;> intro h <;> omega)
 rw[<-ev];exact key
noncomputable def B6:NP->List NP->NP
 |m,[]=>m
 |m,x::r=>B6 (if ltP x m then x else m) r
def gW (ts:List NP) (d:NP):∀ k,k<ts.length->ts.getD (argBest (λi j=>ltP (ts.getD i d) (ts.getD j d)) k) d=B6 (ts.getD 0 d) ((ts.drop 1).take k)/\argBest (λi j=>ltP (ts.getD i d) (ts.getD j d)) k<=k:=by
 intro k;have snoc:∀ (r:List NP) (m x:NP),B6 m (r++[x])=if ltP x (B6 m r) then x else B6 m r:=by
  intro r;induction r with
  |nil=>intro m x;rfl
  |cons y r ih=>intro m x;show B6 (if ltP y m then y else m) (r++[x])=_;rw[ih];rfl
 induction k with
 |zero=>intro _;exact ⟨by simp[argBest,B6],AF _⟩
 |succ k ih=>
  intro hk;obtain ⟨h1,h2⟩:=ih (by omega);have ht:(ts.drop 1).take (k+1)=(ts.drop 1).take k++[ts.getD (k+1) d]:=by
   have hlt:k<(ts.drop 1).length:=by rw[D7];omega
   rw[List.take_succ_eq_append_getElem hlt,List.getElem_drop,BM,AV (by omega)];simp[Nat.add_comm]
  have ha:argBest (λi j=>ltP (ts.getD i d) (ts.getD j d)) (k+1)=if ltP (ts.getD (k+1) d) (ts.getD (argBest (λi j=>ltP (ts.getD i d) (ts.getD j d)) k) d) then k+1 else argBest (λi j=>ltP (ts.getD i d) (ts.getD j d)) k:=rfl
  rw[ht,snoc,<-h1,ha];by_cases hb:ltP (ts.getD (k+1) d) (ts.getD (argBest (λi j=>ltP (ts.getD i d) (ts.getD j d)) k) d)=true
  .rw[AB hb,AB hb];exact ⟨rfl,AF _⟩
  .rw[AE hb,AE hb];exact ⟨rfl,by omega⟩
def fO (hc:X.calm=true) (hu:X.A.units+1+3<cLine):Br X (.builtin "min") (λxs H Q=>∃ (b:Bool) (a:Addr) (L:List Addr) (vs:List V) (ts:List NP),xs=[.ref a]/\SqG X.K b H a vs/\zR L H (ts.map npD) vs/\0<ts.length /\ ∀ (i:Nat) v,vs[i]?=some v->ts[i]?=some (B6 (ts.getD 0 (0,0,0)) (ts.drop 1))->Q v H):=by
 intro zB s Y H xs us Q I r h;obtain ⟨b,a,L,vs,ts,rfl,hs,hr,n0,q⟩:=h;obtain ⟨u,rfl,ru⟩:=C7 r;cases ru;obtain ⟨its,rv,p1⟩:=R5 I hs;have hvl:vs.length=ts.length:=by have:=hr.length;simpa using this
 have hl:its.toArray.size=ts.length:=by have:=rv.length;simp at this ⊢;omega
 have hlt:=Ob p1;have hfp:∀ c∈[s.heap.objs.size,a],c<(s.heap.push (itO b a)).objs.size:=λc hc'=>by
  rw[Bu];simp only[AK,BO,BY]at hc';rcases hc' with rfl|rfl
  .exact DK _
  .exact CY hlt
 have st:SI b (s.heap.push (itO b a)) s.heap.objs.size a 0/\SO b (s.heap.push (itO b a)) a its.toArray:=⟨Of (Ad _ rfl),p1.keep λo e=>AN _ e⟩;have item:∀ (i:Nat) (x:Yu),its.toArray[i]?=some x -> ∃ t v,ts[i]?=some t/\vs[i]?=some v/\Rep L H (npD t) v/\zr v x:=λi x hx=>by
  have hx':its[i]?=some x:=by simpa using hx
  have hi:i<ts.length:=by have:=(Array.getElem?_eq_some_iff.mp hx).1;omega
  obtain ⟨v,hv,rt⟩:=hr.get (i:=i) (by rw[Bn,AV hi];rfl);obtain ⟨y,hy,ry⟩:=rv.get hv;rw[hx']at hy;cases hy;exact ⟨ts[i],v,AV hi,hv,rt,ry⟩
 have hub:X.A.in1.units+2<cLine:=by show X.A.units+1+2<cLine;omega
 refine Za (K0 p1 ⟨s.heap.objs.size,[s.heap.objs.size,a],[s.heap.objs.size],its.toArray.size,λi v=>its.toArray[i]?=some v,λi h=>SI b h s.heap.objs.size a i/\SO b h a its.toArray,λi j=>ltP (ts.getD i (0,0,0)) (ts.getD j (0,0,0)),_,rfl,rfl,ND (A:=X.A.in1) (I.ok.hd hc) b _ a (AY hlt) its.toArray,st,λc o e=>AN _ e,λc o e z=>absurd (AI e) (by rw[Bd.mp z];exact BZ _),hfp,by omega,?_,λv h' tk hP hk=>?_⟩)
 .intro i j x y h t Q' E' ko hx hy q';obtain ⟨t1,v1,ht1,_,r1,w1⟩:=item i x hx;obtain ⟨t2,v2,ht2,_,r2,w2⟩:=item j y hy;have:=nA (I.kept (t':=t) ko) hub r1 r2 w1 w2 X.prog X.w E' Q';refine this ?_;dsimp only at q';rw[BM,BM,ht1,ht2]at q';exact q'
 .obtain ⟨t,v',ht,hv,rt,rx⟩:=item _ v hP;obtain ⟨h1,h2⟩:=gW ts (0,0,0) (its.toArray.size-1) (by omega);refine ⟨v',H,I.kept hk,rx,q _ v' hv ?_⟩;rw[ht];rw[BM,ht]at h1;rw[G8 (by rw[D7];omega)]at h1;rw[<-h1];rfl
noncomputable def Hh:KB:=λxs M=>match xs with
 |[x]=>match Al M x with
  |some ds=>match HU ds with
   |some (t::ts)=>some (.dat (npD (B6 t ts)),M)
   |_=>none
  |none=>none
 |_=>none
theorem Qn:∀ (r:List NP) (m:NP),B6 m r∈m::r
 |[],m=>by simp[B6]
 |x::r,m=>by
  unfold B6;have:=Qn r (if ltP x m then x else m);rcases AK.mp this with h|h
  .rw[h];split <;> simp
  .simp[h]
def dU {K:Yb} {L:Yg} {M:Mem} {H H0:Hp} {x:EV} {v:V} {xs:List D} (c:Cor K L M H) (r:ze H0 L H x v) (h:Al M x=some xs):∃ b a vs,v=.ref a/\SqG K b H a vs/\zR L H xs vs:=by
 unfold Al at h;cases t:CG x with
 |some zs=>
  rw[t]at h;cases h;obtain ⟨a,ws,rfl,e2,r2⟩:=DU r t;exact ⟨true,a,ws,rfl,.of e2,r2⟩
 |none=>
  rw[t]at h;obtain ⟨a,ws,rfl,e2,r2⟩:=Co c r h;exact ⟨false,a,ws,rfl,.inl e2,r2⟩
def UQ {K:Yb}:Cz K (λxs H Q=>∃ (b:Bool) (a:Yt) (L:Yg) (vs:List V) (ts:List NP),xs=[.ref a]/\SqG K b H a vs/\zR L H (ts.map npD) vs/\0<ts.length /\ ∀ (i:Nat) v,vs[i]?=some v->ts[i]?=some (B6 (ts.getD 0 (0,0,0)) (ts.drop 1))->Q v H) Hh:=by
 intro L M M' H H0 xs d vs Q c r hk q;unfold Hh at hk;split at hk
 .rename_i x;split at hk
  .rename_i ds e1;split at hk
   .rename_i t ts e2;cases hk;obtain ⟨v,rfl,r1⟩:=r.one;obtain ⟨b,a,ws,rfl,hq,rr⟩:=dU c r1 e1;have ed:=QX e2;subst ed;refine ⟨b,a,L,ws,t::ts,rfl,hq,rr,by simp,λi v hv ht=>?_⟩;refine q L H _ (.refl L H) c ?_;obtain ⟨v',hv',rt⟩:=rr.get (show ((t::ts).map npD)[i]?=some (npD (B6 t ts)) by rw[Bn,ht];rfl);rw[hv]at hv';cases hv';exact rt
   .cases hk
  .cases hk
 .cases hk
def WY (hcalm:X.calm=true) (hu:X.A.units+1+3<cLine) (hg:Gl X "min") (hm:X.mg "min" = none) (ha:QAE X [e] fa) (he:starEach [e] X.env=(false,eval e X.env)::starEach [] X.env:=by rfl) (hpl:(backTo pos (starEach [] X.env)).any (·.1)=false:=by rfl):QE X (.Call (.Name "min" p) [e] [] pos) (fB Hh fa) :=
 Ew UQ (fO hcalm hu) (by rfl) hg hm ha (by decide) (by decide) he hpl
structure Df (K:Yb) (mg:Yh) (x:Str) (st:Stmt) (ps:Yk) where
 f:Addr
 fd:FuncData
 F:Fun K x x st f fd
 b:Gy K fd ps []
 m:mg x=some (.ref f)
structure Dg (K:Yb) (x:Str) (st:Stmt) where
 f:Addr
 {od an:Option Addr}
 {sl:Array (Option Value)}
 {oc kV dc pm cd ct:Yu}
 a:PySem.W.nsIn K mainGlobals x=some (some (.ref f))
 l:K.lookup f=some ⟨oc,od,.func (PySem.W.fnOf x x (Hk st) (Fi st) (zT st) .none kV dc pm an cd ct),sl⟩
 c:PySem.W.codeIn K cd x=true
 k:PySem.W.keepIn K (.ref f)=true
noncomputable abbrev Dg.df {K:Yb} {x:Str} {st:Stmt} {ps:Yk} {h:Heap} {mg:Yh} (g:Dg K x st) (X:K.In h) (G:h.Ns mainGlobals mg)
  (hb:∀ (kV doc pm:Yu) (an:Option Addr) (cdv ct:Yu) (us:Yf),us.length=ps.length->bindArgs (PySem.W.fnOf x x (Hk st) (Fi st) (zT st) .none kV doc pm an cdv ct) ⟨us,[]⟩=pure (ps.zip us)):Df K mg x st ps :=
 ⟨g.f,_,OF g.l g.c g.k,(OF g.l g.c g.k).binds hb,PySem.W.mg_of X G g.a⟩
abbrev Od (P:Ym) (w:Yo) (base:Heap) (k:Nat) {K:Yb} {mg:Yh} {x:Str} {st:Stmt} {ps:Yk} (d:Df K mg x st ps) (m:FF):Prop:=FnOk P w K mg base CX0 k d.f d.fd ps (spF K ps.length m)
abbrev Zn (K:Yb) (x:Str):Prop:=PySem.W.nsIn K mainGlobals x=some none
abbrev Ki (K:Yb) (t T:String) (b:Bool):Prop:=PySem.W.kitOne K (.type t) (.type T)=some b
def Dt {P:List Value->Prop} (h:∀ a,P [a]):∀ us:List Value,us.length=1->P us
 |[a],_=>h a
def DY {P:List Value->Prop} (h:∀ a b,P [a,b]):∀ us:List Value,us.length=2->P us
 |[a,b],_=>h a b
def Di {P:List Value->Prop} (h:∀ a b c,P [a,b,c]):∀ us:List Value,us.length=3->P us
 |[a,b,c],_=>h a b c
def iD {P:List Value->Prop} (h:∀ a b c d,P [a,b,c,d]):∀ us:List Value,us.length=4->P us
 |[a,b,c,d],_=>h a b c d
section
variable {st:Stmt}
def aY {d:Df X.K X.mg x st ps} (F:FnOk X.prog X.w X.K X.mg X.base CX0 k d.f d.fd ps (spF X.K (e::es).length g)) (hr:Room k X.A) (hg:Gl X x)
  (ha:QA X (e::es) fa) (hl:∀ Y M ds M1,fa Y M=some (ds,M1)->ds.length=(e::es).length) (hdb:(x==("__debug__" : Str))=false) (he:starEach (e::es) X.env=(false,eval e X.env)::starEach es X.env) (hpl:(backTo pos (starEach es X.env)).any (·.1)=false) :
  QE X (.Call (.Name x p) (e::es) [] pos) (zO g fa):=XH F hr hg d.m d.F.kp d.b ha hl hdb he hpl
def Vr (hN:X.N.Nodup) (hi:X.N[i]?=some x) (h:QE X e f) (hx:Loc X.env.scope x:=by first|exact Or.inl rfl|exact Or.inr rfl) (hs:swapsWith e (some (.Name x pos')) pos.line X.env=pure false:=by rfl)
  (hf:X.fn x=true\/X.env.scope.names.lookup x=some .local:=by first|exact .inl rfl|exact .inr rfl|assumption):QS X (.Assign [.Name x pos'] e pos) (zi i f):=jG hN hi hx h hs hf
def WW (hN:X.N.Nodup) (hi:X.N[i]?=some x) (hx:Loc X.env.scope x:=by first|exact Or.inl rfl|exact Or.inr rfl) (hf:X.fn x=true\/X.env.scope.names.lookup x=some .local:=by first|exact .inl rfl|exact .inr rfl|assumption):PG X (.Name x pos) (Cu i):=NK hN hi hx hf
end
section
variable {K:Type} [DecidableEq K] {knd:HeapKind prog w K}
def Xq (hu:knd.room A) (hkey:knd.is s.heap k a) (hm:s.heap.DictOfH knd d xs) (hz:xs.length<=sizeLine)
  (h1:∀ u,(atKey xs k).map (·.2)=some u->Q u { s with toks:=s.toks+knd.draws k })
  (h2:(atKey xs k).map (·.2)=none -> ∀ h',h'.DictOfH knd d (storedH xs k a v)->Heap.SameBut d s.heap h'->Q v { s with heap:=h',toks:=s.toks+knd.draws k }) :
  wpAny (model prog w) A (dictSetDefault d (.ref a) v) Q E s:=by
 obtain ⟨o,es,ep,ho,hc,hd,he,his,hn⟩:=hm;unfold dictSetDefault;try with_reducible refine CF ?_
 refine AA (knd.pyHash hu hkey (AA (wpAny_dictFind_heap (s:={ s with toks:=s.toks+knd.draws k }) hu hkey ho hd he his hn (λhno=>?_) λj p hj=>?_)))
 .have ha:=atKey_none_of_get hno;have hnot:k∉xs.map (·.1):=not_mem_keys_of_get hno;refine AA (Cm (AA (wpAny_updateDictKeys (hz:=by have e:=size_of_entries he;omega) (s:={ s with toks:=s.toks+knd.draws k }) ho hd (AD (h2 (by rw[ha];rfl) _ ⟨_,_,ep+1,Dc _ ho (Obj.isFreed_of_dict (Obj.data_mapDictKeys hd _)),hc.mapDictKeys _,Obj.data_mapDictKeys hd _,?_,?_,?_⟩ (DR ..))))));all_goals rw[storedH_new ha]
  .simp[he,entryOfKey]
  .intro x hx;rcases Ak.mp hx with q|q
   .exact knd.keeps (his x q) ho hd (DR ..)
   .simp only[Bd]at q;subst q;exact knd.keeps hkey ho hd (DR ..)
  .rw[Bq,DH];refine ⟨hn,by simp,λx hx y hy=>?_⟩;simp only[AX,List.map_nil,Bd]at hy;subst hy;exact λe=>hnot (e▸hx)
 .have ha:=atKey_of_get hn hj;refine AA (wpAny_dictEntries (s:={ s with toks:=s.toks+knd.draws k }) ho hd ?_);rw[entry_at he j,hj];exact AA (Cm (AD (h1 p.2 (by rw[ha];rfl))))
def k9 (hd:(d==sysModules)=false) (v:Yu) :
  MeetsIn prog w (Builtin.«dict.setdefault» ⟨[.ref d,.ref a,v],[]⟩) (λA R s=>knd.room A.in1 /\ ∃ k xs,knd.is s.heap k a/\s.heap.DictOfH knd d xs/\xs.length<=sizeLine /\
   (∀ u,(atKey xs k).map (·.2)=some u->R (.ok (.ret u)) { s with toks:=s.toks+knd.draws k }) /\
   ((atKey xs k).map (·.2)=none -> ∀ h',h'.DictOfH knd d (storedH xs k a v)->Heap.SameBut d s.heap h'->R (.ok (.ret v)) { s with heap:=h',toks:=s.toks+knd.draws k })) :=
 .of_wp λA R s ⟨hu,k,xs,hkey,hm,hz,h1,h2⟩=>by
  unfold Builtin.«dict.setdefault»;refine AA ?_;unfold Builtin.Dict.keyAndDefault;refine AA (wpAny_notOrdered_dict hm.typeIs ?_);refine AD ?_;show wpAny _ _ (if (d==sysModules)=true then _ else (dictSetDefault d (.ref a) v >>= _)) _ _ s;rw[AE (by rw[hd];decide)];exact AA (Xq hu hkey hm hz (λu hv=>AD ⟨u,rfl,h1 u hv⟩) λhn h' hm' hs'=>AD ⟨v,rfl,h2 hn h' hm' hs'⟩)
end
def mI (hu:A.units+1<cLine) (I:Inv X zB Y H s) (e:H a=some (.dT kvs)) (eb:H b=some (.tup (k.map kV))) (hl:kvs.length<sizeLine) (rv:zr v r)
  (h1:∀ x,BV kvs k=some x -> ∀ w' s',Inv X zB Y H s'->zr x w'->Q w' s') (h2:BV kvs k=none -> ∀ s',Inv X zB Y (upd H a (.dT (Bj kvs k v))) s'->Q r s') :
  wpAny (model X.prog X.w) A (call (.builtin "dict.setdefault") [.ref a,.ref b,r]) Q E s:=by
 obtain ⟨z,hd,xs,rel,dd⟩:=K8 I.hok e;have hz:xs.length<=sizeLine:=by rw[<-Paired.length rel];exact z
 refine call_meetsIn PySem.F.slot_dict_setdefault dd.typeIs PySem.F.entry_dict_setdefault (PySem.F.args_dict_setdefault_3 _ _ _) (k9 (knd:=tupleKind (CP X.prog X.w)) hd r) ⟨tupleKind_room_in1 hu,k,xs,F7 I.hok eb,dd,hz,λu' hu'=>?_,λhn h' dd' hs=>?_⟩
 .have rl:=rel.val k;rw[hu']at rl;cases hv:BV kvs k with
  |none=>rw[hv]at rl;cases rl
  |some x=>
   rw[hv]at rl;exact h1 x hv _ _ (I.tok _) rl
 .have rl:=rel.val k;rw[hn]at rl;cases hv:BV kvs k with
  |some x=>rw[hv]at rl;cases rl
  |none=>
   refine h2 hv _ ?_;have hl':(Bj kvs k v).length<=sizeLine:=by have:=Hq kvs k v;omega
   obtain ⟨q,es,ep,hq,q2,q3,q4,_,q5⟩:=dd';refine JA I (by rw[e];exact True.intro) hs ⟨q,hq⟩ ⟨hl',hd,_,(rel.put k eb rv).keeps λc ys ec=>?_,q,es,ep,hq,q2,q3,q4,q5⟩;rw[zf (GX ec e (λz=>nomatch z))];exact ec
noncomputable def j3 (td ty tx:TE):TE:=λY H Q=>td Y H λx H1=>∃ a,x=.ref a/\IsD H1 a/\ty Y H1 λy H2=>tx Y H2 λz H3=>∃ kvs k b,H3 a=some (.dT kvs)/\y=.ref b/\H3 b=some (.tup (k.map kV))/\kvs.length<sizeLine/\(∀ v,BV kvs k=some v->Q v H3)/\(BV kvs k=none->Q z (upd H3 a (.dT (Bj kvs k z))))
def d3 (hu:X.A.units+1<cLine) (ho:PE X o td) (he:PE X i ty) (hf:PE X e tx) (m:M2 X o "setdefault" apos i e cpos):PE X (.Call (.Attribute o "setdefault" apos) [i,e] [] cpos) (j3 td ty tx):=by
 intro zB s Y H Q I q;refine wpAny_Call_method m.base m.few m.line PySem.F.plainAttrs_dict PySem.F.slot_dict_setdefault PySem.F.type_dict_setdefault (thn (ho zB s Y H _ I q) λu s1 ⟨x,H1,I1,rx,a,ex,d,q1⟩=>?_);subst ex;obtain rfl:u=Value.ref a:=rx;obtain ⟨t1,t2,_⟩:=Pg I1 d;refine ⟨t1,t2,?_⟩;rw[m.trees];refine Calls.callWith_builtin rfl (Calls.evalArgs_plain (Fq (thn (he zB s1 Y H1 _ I1 q1) λiv s2 ⟨y,H2,I2,ry,q2⟩=>Fq (thn (hf zB s2 Y H2 _ I2 q2) λfv s3 ⟨z,H3,I3,rz,kvs,k,b,e3,ey,eb,hl,qa,qb⟩=>Calls.spliced_nil ?_))));subst ey;cases (show iv=Value.ref b from ry);exact mI hu I3 e3 eb hl rz (λv hv w' s4 I4 rw'=>⟨v,H3,I4,rw',qa v hv⟩) λhn s4 I4=>⟨z,_,I4,rz,qb hn⟩
noncomputable def EH (fo fi fx:FE):FE:=λY M=>match toD fo Y M with
 |some (.ref n,M1)=>match M1[n]? with
  |some (.dicT _)=>match toD fi Y M1 with
   |some (k,M2)=>match toD fx Y M2 with
    |some (x,M3)=>match M3[n]?,tkD k with
     |some (.dicT kvs),some kk=>if kvs.length<sizeLine then match DM tkD kvs kk with
       |some v=>some (.dat v,M3)
       |none=>some (.dat x,M3.set n (.dicT (EZ tkD kvs kk k x))) else none
     |_,_=>none
    |none=>none
   |none=>none
  |_=>none
 |_=>none
def UG (hu:X.A.units+1<cLine) (ho:QE X o f) (hi:QE X i g) (hx:QE X e h) (m:M2 X o "setdefault" apos i e cpos):QE X (.Call (.Attribute o "setdefault" apos) [i,e] [] cpos) (EH f g h) :=
 .mk <| PE.imp (d3 hu (CW ho).un (CW hi).un (CW hx).un m) λτ H Q zz=>by
  obtain ⟨L,Y,M,d,M',c,rs,hf,q⟩:=zz;unfold EH at hf;split at hf
  .rename_i n M1 e1;split at hf
   .rename_i kvs0 e0;split at hf
    .rename_i k M2 e2;split at hf
     .rename_i x M3 e3;split at hf
      .rename_i kvs kk e4 e5;split at hf
       .rename_i hl;refine ⟨L,Y,M,_,_,c,rs,e1,λL1 H1 u s1 c1 r1=>?_⟩;unfold Rep at r1;obtain ⟨a,rfl,ea⟩:=r1;refine ⟨a,rfl,?_,L1,Y,M1,_,_,c1,rs.stp s1,e2,λL2 H2 y s2 c2 r2=>⟨L2,Y,M2,_,_,c2,(rs.stp s1).stp s2,e3,λL3 H3 z s3 c3 r3=>?_⟩⟩
        .obtain ⟨vs,q5,_⟩:=c1.obj n a _ ea e0;exact .inr ⟨vs,.inl q5⟩
        have ea3:L3[n]?=some a:=by obtain ⟨N,hN⟩:=(s2.trans s3).pre;rw[hN];exact D6 ea
        obtain ⟨vs,q5,r⟩:=c3.obj n a _ ea3 e4;obtain ⟨b,rfl,eb⟩:=Jy (r2.stp s3) e5;refine ⟨vs,kk,b,q5,rfl,eb,by rw[r.length];exact hl,λv hv=>?_,λhv=>?_⟩
        .rcases GI kk r with ⟨h1,h2⟩|⟨d',v',h1,h2,h3⟩
         .rw[h2]at hv;cases hv
         .rw[h1]at hf;rw[h2]at hv;cases hf;cases hv;exact q L3 H3 _ ((s1.trans s2).trans s3) c3 h3
        .rcases GI kk r with ⟨h1,h2⟩|⟨d',v',h1,h2,h3⟩
         .rw[h1]at hf;cases hf;obtain ⟨c4,s4⟩:=c3.put (m:=.dicT (EZ tkD kvs kk k x)) (o':=.dT (Bj vs kk z)) ea3 q5 (λ_ z=>by cases z) (λ_ _ z=>by cases z) λs4=>⟨_,CV,(NI e5 r3 r).stp s4⟩;exact q L3 _ _ (((s1.trans s2).trans s3).trans s4) c4 (r3.stp s4)
         .rw[h2]at hv;cases hv
       .cases hf
      .cases hf
     .cases hf
    .cases hf
   .cases hf
  .cases hf
section
variable {X:Cx}
def jH:Br X (.type "str") (λxs H Q=>∃ i,xs=[.int i]/\i.natAbs<2 ^ 64/\Q (.str (Str.ofString (toString i))) H):=by
 intro zB s Y H xs us Q I r h;obtain ⟨i,rfl,hi,q⟩:=h;obtain ⟨u,rfl,t,rfl⟩:=C7 r;refine P.str_of_int ?_ ⟨.str (Str.ofString (toString i)),H,I.tok _,⟨_,rfl⟩,q⟩;by_cases h0:i.natAbs=0
 .rw[h0];decide
 .exact (Nat.log2_lt h0).mpr (As hi (Nat.pow_le_pow_right (by decide) (by decide)))
noncomputable def Hr:KB:=λxs M=>match xs with
 |[.dat (.int i)]=>if i.natAbs<2 ^ 64 then some (.dat (.str (Str.ofString (toString i))),M) else none
 |_=>none
def eV {K:Yb}:Cz K (λxs H Q=>∃ i,xs=[.int i]/\i.natAbs<2 ^ 64/\Q (.str (Str.ofString (toString i))) H) Hr:=by
 intro L M M' H H0 xs d vs Q c r hk q;unfold Hr at hk;split at hk
 .rename_i i;split at hk
  .rename_i hi;cases hk;obtain ⟨v,rfl,r1⟩:=r.one;have:v=.int i:=by unfold ze Rep at r1;exact r1
   subst this;exact ⟨i,rfl,hi,q L H _ (.refl L H) c (by unfold ze Rep;rfl)⟩
  .cases hk
 .cases hk
def gT (hg:Gl X "str") (hm:X.mg "str" = none) (ha:QAE X [e] fa) (he:starEach [e] X.env=(false,eval e X.env)::starEach [] X.env:=by rfl) (hpl:(backTo pos (starEach [] X.env)).any (·.1)=false:=by rfl):QE X (.Call (.Name "str" p) [e] [] pos) (fB Hr fa) :=
 J8 eV jH (by rfl) hg hm ha (by decide) (by decide) he hpl
end
end L3
namespace Law
open L2 L3
noncomputable def Kz:FS:=(zX (zi 1 (fOp zy (fB AR (zN (zC 0) zd)) (fC (.int 3))))
  (zX (BU (AO (fSl (zC 0) BG (Ay (fC (.int 63))))) (gN 2) (zi 1 (fOp DG (fOp zy (fOp zy (fOp HZ (zC 1) (fC (.int 6364136223846793))) (fOp DG (zC 2) (fOp IM (fC (.int 10)) (fC (.int 30))))) (fC (.int 1442695040888963))) (fC (.int 2305843009213693951)))))
  (AL (AM (zD (toD (Af [2] (AO (fSl (zC 0) BG (Ay (fC (.int 63))))) (gN 2) (tst (fOp kGe (fB HY (zN (zC 2) zd)) (fOp IM (fC (.int 10)) (fC (.int 18))))) (fB HY (zN (zC 2) zd)))) (zD (toD (zC 1)) zE))))))
noncomputable def G2:FF:=Ab 3 Kz
noncomputable def MU:FS:=(zX (CM (Ck (tst (fOp kNe (fOp kIx (zC 0) (fC (.int 0))) (AM zE))) (tst (fOp kEq (fOp kIx (fOp kIx (zC 0) (fC (.int 0))) (fC (.int 0))) (fC (.int 0))))) (Az (fM Fv (fOp kIx (zC 0) (fC (.int 0))) (zD (toD (fC (.int 0))) zE))) 100)
  (zX (sIf (tst (fOp kNe (fOp kIx (zC 0) (fC (.int 0))) (AM zE))) (zX (zi 2 (fOp DG (fOp kIx (fOp kIx (zC 0) (fC (.int 0))) (fC (.int 0))) (zC 1)))
  (zX (GS (fOp HH (fOp kIx (fOp kIx (zC 0) (fC (.int 0))) (fC (.int 0))) (zC 1)) (fOp kIx (zC 0) (fC (.int 0))) (fC (.int 0)))
  (AL (zC 2)))) Ah)
  (zX (GS (fOp DG (fOp zy (fOp HZ (fOp kIx (zC 0) (fC (.int 1))) (fC (.int 6364136223846793))) (fC (.int 1442695040888963))) (fC (.int 2305843009213693951))) (zC 0) (fC (.int 1)))
  (AL (fOp DG (fOp HH (fOp DG (fOp HZ (fOp kIx (zC 0) (fC (.int 1))) (fOp kIx (zC 0) (fC (.int 1)))) (fC (.int 2305843009213693921))) (fC (.int 65537))) (zC 1))))))
noncomputable def zZ:FF:=Ab 3 MU
structure Gen (M:Mem) (n k:Nat):Prop where
 ex:∃ (c:Ye) (s:Int),M[n]?=some (.lst [.ref k,.int s])/\M[k]?=some (.lst (c.map D.int))/\(∀ x∈c,0<=x)/\c.length<=63/\0<=s/\s<2305843009213693951
 ne:n≠k
 wf:∀ (j:Nat) u,M[j]?=some u->MO.und M.length u=true
structure Nx (M M':Mem) (n k:Nat):Prop where
 gen:Gen M' n k
 len:M'.length=M.length
 fr:∀ j,j≠n->j≠k->M'[j]?=M[j]?
def Nx.refl (h:Gen M n k):Nx M M n k:=⟨h,rfl,λ_ _ _=>rfl⟩
def Nx.trans {M M1 M2:Mem} {n k:Nat} (a:Nx M M1 n k) (b:Nx M1 M2 n k):Nx M M2 n k:=⟨b.gen,b.len.trans a.len,λj h1 h2=>(b.fr j h1 h2).trans (a.fr j h1 h2)⟩
theorem B8 (n:Nat):∀ c:List Int,D.unds n (c.map D.int)=true
 |[]=>rfl
 |x::r=>by
  show (D.und n (D.int x)&&D.unds n (r.map D.int))=true;rw[B8 n r];rfl
def Gen.lt (h:Gen M n k):n<M.length/\k<M.length:=by
 obtain ⟨c,s,e1,e2,_⟩:=h.ex;exact ⟨(AG.mp e1).1,(AG.mp e2).1⟩
def Gen.put {M:Mem} (h:Gen M n k) {c:Ye} (hc:∀ x∈c,0<=x) (hl:c.length<=63) (h0:0<=s) (h1:s<2305843009213693951) :
  Nx M ((M.set k (.lst (c.map D.int))).set n (.lst [.ref k,.int s])) n k:=by
 obtain ⟨hn,hk⟩:=h.lt;refine ⟨⟨⟨c,s,?_,?_,hc,hl,h0,h1⟩,h.ne,λj u e=>?_⟩,by simp,λj h1 h2=>?_⟩
 .rw[CK (by simpa using hn)]
 .rw[AZ h.ne,CK hk]
 .rw[Bh,Bh];rw[ED]at e;split at e
  .split at e
   .cases e;show D.unds _ _=true;unfold D.unds D.unds D.unds D.und;simp[hk]
   .cases e
  .rw[ED]at e;split at e
   .rename_i z;subst z;cases e;exact B8 _ _
   .exact h.wf j u e
 .rw[AZ (Ne.symm h1),AZ (Ne.symm h2)]
def LX {M:Mem} (h:M[k]?=some u):M.set k u=M:=by
 apply List.ext_getElem?;intro i;rw[ED];split
 .rename_i e;subst e;rw[AB (AG.mp h).1];exact h.symm
 .rfl
theorem Eh:∀ {a b:Ye},a.map D.int=b.map D.int->a=b
 |[],[],_=>rfl
 |[],_::_,h=>by cases h
 |_::_,[],h=>by cases h
 |x::a,y::b,h=>by
  rw[AX,AX]at h;have h1:=(Cd h).1;have h2:=Eh (Cd h).2;cases h1;rw[h2]
def at0 {x:D} {xs:List D}:atI (x::xs) 0=some x:=Ld (k:=0) rfl
def at1 {x y:D} {xs:List D}:atI (x::y::xs) 1=some y:=Ld (k:=1) rfl
def N5 (h:Gen M n k) (h0:0<m) (h1:m<1073741824) :
  Ok (zZ [.ref n,.int m] M) λd M'=>(∃ i,d=.int i/\0<=i/\i<m)/\Nx M M' n k:=by
 unfold zZ;rw[zw];unfold MU;rw[zK];have st:∀ {M:Mem} {c:Ye} {s:Int} {Y:Sd} {P:EV->Mem->Prop},Y[0]?=some (some (.ref n))->M[n]?=some (.lst [.ref k,.int s])->P (.dat (.ref k)) M->Ok (fOp kIx (zC 0) (fC (.int 0)) Y M) P:=λhσ hM p=>
  Av.mpr (BC.mpr ⟨_,hσ,BW.mpr (Ie (zv hM) at0 p)⟩)
 have sd:∀ {M:Mem} {s:Int} {Y:Sd} {P:EV->Mem->Prop},Y[0]?=some (some (.ref n))->M[n]?=some (.lst [.ref k,.int s])->P (.dat (.int s)) M->Ok (fOp kIx (zC 0) (fC (.int 1)) Y M) P:=λhσ hM p=>
  Av.mpr (BC.mpr ⟨_,hσ,BW.mpr (Ie (zv hM) at1 p)⟩)
 have hd:∀ {M:Mem} {c:Ye} {x s:Int} {Y:Sd} {P:EV->Mem->Prop},Y[0]?=some (some (.ref n))->M[n]?=some (.lst [.ref k,.int s])->M[k]?=some (.lst ((x::c).map D.int))->P (.dat (.int x)) M->Ok (fOp kIx (fOp kIx (zC 0) (fC (.int 0))) (fC (.int 0)) Y M) P:=λ{M c x s Y P} hσ hM hK p=>
  Av.mpr (st (c:=c) hσ hM (BW.mpr (Ie (zv hK) at0 p)))
 have ne:∀ {M:Mem} {c:Ye} {s:Int} {Y:Sd} {P:Bool->Mem->Prop},Y[0]?=some (some (.ref n))->M[n]?=some (.lst [.ref k,.int s])->M[k]?=some (.lst (c.map D.int))->P (!c.isEmpty) M->Ok (tst (fOp kNe (fOp kIx (zC 0) (fC (.int 0))) (AM zE)) Y M) P:=λ{M c s Y P} hσ hM hK p=>by
  refine JL.mpr (Av.mpr (st (c:=c) hσ hM (Jo.mpr (Ee.mpr ⟨BD _,?_⟩))));rw[Oz (Cv hK) (by intro d e;cases e;rfl)];rw[Ei];simpa using p
 have W:∀ (fuel m':Nat) (Y:Sd) (M':Mem),m'<fuel->((Y=[some (.ref n),some (.int m),none]/\Nx M M' n k) /\ ∃ (c:Ye) (s:Int),M'[n]?=some (.lst [.ref k,.int s])/\M'[k]?=some (.lst (c.map D.int))/\c.length=m') ->
   OkS (CM (Ck (tst (fOp kNe (fOp kIx (zC 0) (fC (.int 0))) (AM zE))) (tst (fOp kEq (fOp kIx (fOp kIx (zC 0) (fC (.int 0))) (fC (.int 0))) (fC (.int 0))))) (Az (fM Fv (fOp kIx (zC 0) (fC (.int 0))) (zD (toD (fC (.int 0))) zE))) fuel Y M')
    (λo σ1 M1=>o=.nx/\σ1=[some (.ref n),some (.int m),none]/\Nx M M1 n k):=by
  intro fuel m' Y M' hlt hI;refine GF (I:=λm' Y M'=>(Y=[some (.ref n),some (.int m),none]/\Nx M M' n k) /\ ∃ (c:Ye) (s:Int),M'[n]?=some (.lst [.ref k,.int s])/\M'[k]?=some (.lst (c.map D.int))/\c.length=m') ?_ fuel m' Y M' hlt hI;rintro m' Y M' ⟨⟨rfl,nx⟩,c,s,e1,e2,hl⟩;refine iG.mpr (ne rfl e1 e2 ?_);cases c with
  |nil=>simp;exact nx
  |cons x c=>
   simp only[List.isEmpty_cons,Bool.not_false,if_true];refine JL.mpr (Av.mpr (hd rfl e1 e2 (BW.mpr (HL.mpr (Ei.mpr ?_)))));by_cases hx:x=0
   .rw[AB (by simpa using hx)];refine ER.mpr (EN.mpr (st (c:=c) rfl e1 ⟨⟨_,Cv e2⟩,C8.mpr (Bo.mpr (BW.mpr (zM.mpr (Ee.mpr ?_))))⟩));rw[AX]at e2;rw[Uo e2];refine ⟨c.length,by rw[<-hl];simp,?_⟩;obtain ⟨c',s',z1,z2,z3,z4,z5,z6⟩:=nx.gen.ex;rw[e1]at z1;cases z1;rw[e2]at z2;have hcc:c'=x::c:=by
     have:(x::c).map D.int=c'.map D.int:=by have:=z2;simp only[Option.some.injEq,MO.lst.injEq]at this;simpa using this
     exact (Eh this).symm
    subst hcc;have P:=nx.gen.put (c:=c) (s:=s) (λy hy=>z3 y (Ai _ hy)) (by simp at z4;omega) z5 z6;have q:((M'.set k (.lst (c.map D.int))).set n (.lst [.ref k,.int s]))=M'.set k (.lst (c.map D.int)):=LX (by rw[AZ (Ne.symm nx.gen.ne)];exact e1);rw[q]at P;have hk:=nx.gen.lt.2;refine ⟨⟨rfl,nx.trans P⟩,c,s,?_,?_,rfl⟩
    .rw[AZ (Ne.symm nx.gen.ne)];exact e1
    .rw[CK hk]
   .rw[AE (by simpa using hx)];first|exact ⟨rfl,rfl,nx⟩|exact ⟨trivial,trivial,nx⟩|simpa using nx
 obtain ⟨c,s,e1,e2,e3,e4,_⟩:=h.ex;refine OkS.mono (W 100 c.length _ M (by omega) ⟨⟨rfl,.refl h⟩,c,s,e1,e2,rfl⟩) ?_;rintro o Y M1 ⟨rfl,rfl,nx⟩;rw[zU,zK,CO];obtain ⟨c,s,e1,e2,e3,e4,e5,e6⟩:=nx.gen.ex;refine ne rfl e1 e2 ?_;cases c with
 |nil=>
  simp only[List.isEmpty_nil,Bool.not_true,Dz,if_false];rw[Cr,zU,zK,Ku];refine Av.mpr (Av.mpr (Av.mpr (sd rfl e1 (BW.mpr (MW.mpr ⟨by simp[HN] <;> omega,BW.mpr (HE.mpr (BW.mpr (Fm.mpr ⟨by decide,?_⟩)))⟩)))));rw[zM];refine BC.mpr ⟨_,rfl,BW.mpr ?_⟩;rw[zM];have hs0:0<=(s*6364136223846793+1442695040888963) % 2305843009213693951:=Int.emod_nonneg _ (by decide);have hs1:(s*6364136223846793+1442695040888963) % 2305843009213693951<2305843009213693951:=Int.emod_lt_of_pos _ (by decide);generalize (s*6364136223846793+1442695040888963) % 2305843009213693951=s' at hs0 hs1;have P:=nx.gen.put (c:=[]) (s:=s') (λ_ h=>by cases h) (by simp) hs0 hs1;rw[LX (show M1[k]?=some (.lst (([]:List Int).map D.int))from e2)]at P;refine ⟨_,LO (k:=1) e1 (by simp),?_⟩;rw[zU,CS];have e1':(M1.set n (.lst [.ref k,.int s']))[n]?=some (.lst [.ref k,.int s']):=CK nx.gen.lt.1;refine Av.mpr (Av.mpr (Av.mpr (Av.mpr (sd rfl e1' (sd rfl e1' (MW.mpr ⟨by simp[HN] <;> omega,BW.mpr (Fm.mpr ⟨by decide,BW.mpr (Lw.mpr ⟨by decide,BC.mpr ⟨_,rfl,Fm.mpr ⟨h0,?_⟩⟩⟩)⟩)⟩))))));rw[zM];exact ⟨⟨_,rfl,Int.emod_nonneg _ (by omega),Int.emod_lt_of_pos _ h0⟩,nx.trans P⟩
 |cons x c=>
  simp only[List.isEmpty_cons,Bool.not_false,if_true];rw[zK,za];refine Av.mpr (hd rfl e1 e2 (BC.mpr ⟨_,rfl,Fm.mpr ⟨h0,?_⟩⟩));rw[zM,zU,zK,Ku];refine Av.mpr (hd rfl e1 e2 (BC.mpr ⟨_,rfl,Lw.mpr ⟨⟨h0,h1⟩,?_⟩⟩));rw[zM];refine st (c:=c) rfl e1 (BW.mpr ?_);rw[zM];refine ⟨_,LO (k:=0) e2 (by simp),?_⟩;rw[zU,CS];refine BC.mpr ⟨_,rfl,?_⟩;rw[zM,F9];have hx:=e3 x Ae;have P:=nx.gen.put (c:=(x / m)::c) (s:=s) (λy hy=>by
   rcases AK.mp hy with z|z
   .subst z;exact Int.ediv_nonneg hx (by omega)
   .exact e3 y (Ai _ z)) (by simpa using e4) e5 e6
  rw[LX (k:=n) (by rw[AZ (Ne.symm nx.gen.ne)];exact e1)]at P;exact ⟨⟨_,rfl,Int.emod_nonneg _ (by omega),Int.emod_lt_of_pos _ h0⟩,nx.trans P⟩
def Pw (ns:Ye) (lo hi:Ys):∃ c:List Int,L3.BE (ns.map D.int) lo hi=c.map D.int/\c.length<=ns.length:=by
 refine ⟨(ns.drop (HT.sIx ns.length 0 lo)).take (HT.sIx ns.length ns.length hi-HT.sIx ns.length 0 lo),?_,?_⟩
 .unfold L3.BE;rw[AH,List.map_take,List.map_drop]
 .rw[EJ,D7];omega
def Nf (h:x::r=c.map D.int):∃ y c',c=y::c'/\x=.int y/\r=c'.map D.int:=by
 cases c with
 |nil=>cases h
 |cons y c'=>rw[AX]at h;exact ⟨y,c',rfl,(Cd h).1,(Cd h).2⟩
def De:BN none xs M:=trivial
def zm (h:n<=100000):n<=sizeLine:=AW h (by decide)
def jT {ns:Ye} (h:ns.length<=63):Ok (G2 [.ref 0] [.fro (ns.map D.int)]) λd M'=>d=.ref 2/\Gen M' 2 1/\M'[0]?=some (.fro (ns.map D.int))/\M'.length=3:=by
 unfold G2;rw[zw];unfold Kz;have e0:([.fro (ns.map D.int)]:Mem)[0]?=some (.fro (ns.map D.int)):=rfl;obtain ⟨cut,ec,lc⟩:=Pw ns none (some 63);have sl:∀ {Y:Sd} {P:EV->Mem->Prop},Y[0]?=some (some (.ref 0))->P (.fl (cut.map D.int)) [.fro (ns.map D.int)]->Ok (fSl (zC 0) BG (Ay (fC (.int 63))) Y [.fro (ns.map D.int)]) P:=λhσ p=>by
  refine NC.mpr (BC.mpr ⟨_,hσ,Mg.mpr (LY.mpr (BW.mpr (Ky.mpr ?_)))⟩);rw[JS (Nq e0) rfl,ec];exact p
 rw[zK,za];refine Av.mpr (HI.mpr (Hm.mpr (BC.mpr ⟨_,rfl,G1.mpr ((OK (bU e0)).mpr (BW.mpr (HE.mpr ?_)))⟩)));rw[zM,zU,zK,DB];obtain ⟨x,M1,ex,px⟩:=sl (Y:=[some (.ref 0),some (.int (((ns.map D.int).length:Int)+3)),none]) (P:=λx M=>x=.fl (cut.map D.int)/\M=[.fro (ns.map D.int)]) rfl ⟨rfl,rfl⟩;obtain ⟨rfl,rfl⟩:=px;refine ⟨_,_,_,GZ ex D3,?_⟩;refine Dk (I:=λr Y M=>M=[.fro (ns.map D.int)]/\(∃ c:List Int,r=c.map D.int) /\ ∃ s y,Y=[some (.ref 0),some (.int s),y]/\0<=s/\s<2305843009213693951) ?_ ?_ _ _ _ ⟨rfl,⟨cut,rfl⟩,_,none,rfl,by simp;omega,by simp;omega⟩
 .rintro x r Y M ⟨rfl,⟨c,hc⟩,s,y,rfl,h0,h1⟩;obtain ⟨z,c',rfl,rfl,rfl⟩:=Nf hc;refine ⟨De,_,rfl,?_⟩;rw[za];refine Av.mpr (Av.mpr (Av.mpr (Av.mpr (BC.mpr ⟨_,rfl,BW.mpr (MW.mpr ⟨by simp[HN],?_⟩)⟩))));refine Av.mpr (BC.mpr ⟨_,rfl,Av.mpr (BW.mpr (BW.mpr (OV.mpr ⟨by decide,Fm.mpr ⟨by decide,HE.mpr (BW.mpr (HE.mpr (BW.mpr (Fm.mpr ⟨by decide,?_⟩))))⟩⟩)))⟩);rw[zM];exact ⟨rfl,⟨c',rfl⟩,_,_,rfl,Int.emod_nonneg _ (by decide),Int.emod_lt_of_pos _ (by decide)⟩
 .rintro Y M ⟨rfl,_,s,y,rfl,h0,h1⟩;refine ⟨De,?_⟩;rw[zU,CS,Jo,C8,Bo,HS];obtain ⟨x,M1,ex,px⟩:=sl (Y:=[some (.ref 0),some (.int s),y]) (P:=λx M=>x=.fl (cut.map D.int)/\M=[.fro (ns.map D.int)]) rfl ⟨rfl,rfl⟩;obtain ⟨rfl,rfl⟩:=px;refine ⟨_,_,_,GZ ex D3,by rw[AH];exact zm (by omega),?_⟩;refine Ok.mono (Io (I:=λr acc M=>M=[.fro (ns.map D.int)]/\(∃ c:List Int,r=c.map D.int)/\r.length+acc.length<=63 /\ ∃ b:List Int,acc=b.map D.int /\ ∀ x∈b,0<=x) (Q:=λacc M=>M=[.fro (ns.map D.int)]/\acc.length<=63 /\ ∃ b:List Int,acc=b.map D.int /\ ∀ x∈b,0<=x) ?_ ?_ _ [] _ ⟨rfl,⟨cut,rfl⟩,by simp;omega,[],rfl,λ_ h=>by cases h⟩) ?_
  .rintro x r acc M ⟨rfl,⟨c,hc⟩,hl,b,rfl,hb⟩;obtain ⟨z,c',rfl,rfl,rfl⟩:=Nf hc;refine ⟨De,_,rfl,?_⟩;refine JL.mpr (Av.mpr (HI.mpr (Hm.mpr (BC.mpr ⟨_,rfl,G1.mpr (P9.mpr (Av.mpr (BW.mpr (BW.mpr (OV.mpr ⟨by decide,VP.mpr (Ei.mpr ?_)⟩)))))⟩))));by_cases hz:(10:Int) ^ (18:Int).toNat<=(if z<0 then -z else z)
   .rw[AB (by simpa using hz)];refine HI.mpr (Hm.mpr (BC.mpr ⟨_,rfl,G1.mpr (P9.mpr (zM.mpr ⟨rfl,⟨c',rfl⟩,?_,b++[if z<0 then -z else z],by simp,?_⟩))⟩))
    .simp at hl ⊢;omega
    .intro y hy;rcases Ak.mp hy with q|q
     .exact hb y q
     .have:y=if z<0 then -z else z:=by simpa using q
      rw[this];split <;> omega
   .rw[AE (by simpa using hz)];exact ⟨rfl,⟨c',rfl⟩,by simp at hl ⊢;omega,b,rfl,hb⟩
  .rintro acc M ⟨rfl,_,hl,hb⟩;exact ⟨De,rfl,by simpa using hl,hb⟩
  .rintro ys M ⟨rfl,hl,b,hb,hp⟩;rw[List.nil_append]at hb hl;subst hb;rw[Iq,C8,Bo,BC];refine ⟨_,rfl,?_⟩;rw[zM,Ee];refine ⟨zm (by simp),?_⟩;rw[Iq];refine ⟨rfl,⟨⟨b,s,rfl,rfl,hp,by simpa using hl,h0,h1⟩,by decide,?_⟩,rfl,rfl⟩;intro j u e;match j,e with
   |0,e=>cases e;exact B8 _ _
   |1,e=>cases e;exact B8 _ _
   |2,e=>cases e;rfl
   |j+3,e=>simp at e
mutual
theorem Jz (h:a<=b):∀ {d:D},D.und a d=true->D.und b d=true
 |.non,_=>by unfold D.und;rfl
 |.bl _,_=>by unfold D.und;rfl
 |.int _,_=>by unfold D.und;rfl
 |.str _,_=>by unfold D.und;rfl
 |.tup ds,e=>by unfold D.und at e ⊢;exact G9 h e
 |.ref k,e=>by unfold D.und at e ⊢;simp at e ⊢;omega
theorem G9 (h:a<=b):∀ {ds:List D},D.unds a ds=true->D.unds b ds=true
 |[],_=>by unfold D.unds;rfl
 |d::ds,e=>by
  unfold D.unds at e ⊢;rw[BR]at e ⊢;exact ⟨Jz h e.1,G9 h e.2⟩
end
def Ks (h:a<=b) (e:MO.und a u=true):MO.und b u=true:=by
 cases u with
 |lst xs=>exact G9 h e
 |fro xs=>exact G9 h e
 |set xs=>exact G9 h e
 |dict kvs|dicT kvs|froT kvs|froK kvs=>
  unfold MO.und at e ⊢;rw[Bi]at e ⊢;intro p hp;have:=e p hp;rw[BR]at this ⊢;exact ⟨Jz h this.1,Jz h this.2⟩
theorem Lu:∀ {xs ys:List D},D.unds n (xs++ys)=(D.unds n xs&&D.unds n ys)
 |[],ys=>by simp[D.unds]
 |x::xs,ys=>by
  show (D.und n x&&D.unds n (xs++ys))=((D.und n x&&D.unds n xs)&&D.unds n ys);rw[Lu,Bool.and_assoc]
theorem JV:∀ {xs:List D},(∀ x∈xs,D.und n x=true)->D.unds n xs=true
 |[],_=>rfl
 |x::xs,h=>by
  show (D.und n x&&D.unds n xs)=true;rw[h x Ae,JV λy hy=>h y (Ai _ hy)];rfl
def By (c:Ye):D.und n (.tup (c.map D.int))=true:=by unfold D.und;exact B8 n c
def Gen.app (h:Gen A n k) (hu:∀ u∈us,MO.und (A.length+us.length) u=true):Gen (A++us) n k:=by
 obtain ⟨c,s,e1,e2,r⟩:=h.ex;obtain ⟨hn,hk⟩:=h.lt;refine ⟨⟨c,s,by rw[AJ hn];exact e1,by rw[AJ hk];exact e2,r⟩,h.ne,λj u e=>?_⟩;rw[AU];by_cases hj:j<A.length
 .rw[AJ hj]at e;exact Ks (by omega) (h.wf j u e)
 .rw[E2 (by omega)]at e;exact hu u (List.mem_of_getElem? e)
def C2 (h:Gen M n k) (ha:fa Y M=some (.dat (.ref n),M)) (hb:fb Y M=some (.dat (.int m),M)) (h0:0<m) (h1:m<1073741824)
  (q:∀ i M',0<=i->i<m->Nx M M' n k->P (.dat (.int i)) M'):Ok (zO zZ (zD (toD fa) (zD (toD fb) zE)) Y M) P:=by
 rw[EK,C8,Bo];refine ⟨_,_,ha,?_⟩;rw[zM,C8,Bo];refine ⟨_,_,hb,?_⟩;rw[zM,Ee];refine Ok.mono (N5 h h0 h1) ?_;rintro d M' ⟨⟨i,rfl,i0,i1⟩,nx⟩;exact q i M' i0 i1 nx
noncomputable def D0 (i:Nat):Nat->List D
 |0=>[]
 |n+1=> .int i::D0 (i+1) n
def fS (n:Nat):∀ i,((List.range' i n).map λ(k:Nat)=>D.int k)=D0 i n:=by
 induction n with
 |zero=>intro i;rfl
 |succ n ih=>intro i;rw[List.range'_succ,AX,ih];rfl
def Jj (n:Nat):((List.range n).map λ(k:Nat)=>D.int k)=D0 0 n:=by rw[List.range_eq_range',fS]
theorem J6:∀ (n i:Nat),(D0 i n).length=n
 |0,_=>rfl
 |n+1,i=>by show (D0 (i+1) n).length+1=_;rw[J6 n]
def IA (n:Nat) (I:Nat->Sd->Mem->Prop)
  (hs:∀ i Y M,i<n->I i Y M -> ∃ σ1,g (.int i) Y=some σ1/\OkS (b σ1 M) λo σ2 M2=>match o with|.nx=>I (i+1) σ2 M2|.cnt=>I (i+1) σ2 M2|.brk=>P .nx σ2 M2|.ret d=>P (.ret d) σ2 M2)
  (he:∀ Y M,I n Y M->P .nx Y M) (Y:Sd) (M:Mem) (h0:I 0 Y M):OkS (Cy g b all none (D0 0 n) Y M) P:=by
 refine Dk (I:=λr Y M=>∃ i,i<=n/\r=D0 i (n-i)/\I i Y M) ?_ ?_ _ _ _ ⟨0,BD _,by simp,h0⟩
 .rintro x r Y M ⟨i,hi,e,hI⟩;have hlt:i<n:=by
   rcases DE i n with z|z
   .exact z
   .rw[show n-i=0 by omega]at e;cases e
  rw[show n-i=(n-(i+1))+1 by omega]at e;obtain ⟨rfl,rfl⟩:=Cd e;obtain ⟨σ1,e1,q⟩:=hs i Y M hlt hI;refine ⟨De,σ1,e1,OkS.mono q ?_⟩;intro o σ2 M2 z;cases o with
  |nx=>exact ⟨i+1,hlt,rfl,z⟩
  |cnt=>exact ⟨i+1,hlt,rfl,z⟩
  |brk=>exact z
  |ret d=>exact z
 .rintro Y M ⟨i,hi,e,hI⟩;have:i=n:=by
   rcases DE i n with z|z
   .rw[show n-i=(n-(i+1))+1 by omega]at e;cases e
   .omega
  subst this;exact ⟨De,he Y M hI⟩
def Mv (n:Nat) (I:Nat->List D->Mem->Prop)
  (hs:∀ i acc M,i<n->I i acc M -> ∃ σ1,g (.int i) Y=some σ1/\Ok (te σ1 M) (D2 λd M2=>I (i+1) (acc++[d]) M2)) (h0:I 0 [] M) :
  Ok (BP g zu te Y all none (D0 0 n) M) λys M1=>I n ys M1:=by
 refine Ok.mono (Io (I:=λr acc M=>∃ i,i<=n/\r=D0 i (n-i)/\I i acc M) (Q:=λacc M=>I n acc M) ?_ ?_ _ [] _ ⟨0,BD _,by simp,h0⟩) λys M1 q=>by simpa using q
 .rintro x r acc M ⟨i,hi,e,hI⟩;have hlt:i<n:=by
   rcases DE i n with z|z
   .exact z
   .rw[show n-i=0 by omega]at e;cases e
  rw[show n-i=(n-(i+1))+1 by omega]at e;obtain ⟨rfl,rfl⟩:=Cd e;obtain ⟨σ1,e1,q⟩:=hs i acc M hlt hI;refine ⟨De,σ1,e1,P8.mpr ?_⟩;rw[AB rfl];refine Ok.mono q ?_;intro x M2 z;cases x with
  |dat d=>exact ⟨i+1,hlt,rfl,z⟩
  |fl xs=>exact ⟨i+1,hlt,rfl,z⟩
 .rintro acc M ⟨i,hi,e,hI⟩;have:i=n:=by
   rcases DE i n with z|z
   .rw[show n-i=(n-(i+1))+1 by omega]at e;cases e
   .omega
  subst this;exact ⟨De,hI⟩
def E4 (e:f Y M=some (.dat (.int j),M)) (h1:0<=j) (h2:j<2 ^ 62):A0 (zD (toD f) zE) Y M=some (D0 0 j.toNat,none,M):=by
 have e':(zD (toD f) zE) Y M=some ([.int j],M):=by unfold zD toD zE;rw[e]
 rw[Pr e' h1 h2,Jj]
noncomputable def mD (zA:Ya):D:=.tup (zA.map λr=> .tup (r.map D.int))
structure IsM (zA:Ya) (l:Nat):Prop where
 r0:0<zA.length
 l0:0<l
 row:∀ r∈zA,r.length=l /\ ∀ g∈r,0<=g/\g<zA.length
def Ex (zA:Ya):D.und n (mD zA)=true:=by
 unfold mD D.und;refine JV λx hx=>?_;obtain ⟨r,_,rfl⟩:=Ac.mp hx;exact By r
def zW {α:Type} {x:Option (α × Mem)} {a:α} {M:Mem} (h:Ok x λb M'=>b=a/\M'=M):x=some (a,M):=by
 obtain ⟨b,M',e,rfl,rfl⟩:=h;exact e
def zG {α:Type} {x:Option (α × Mem)} {a:α} {M:Mem} {P:α->Mem->Prop} (h:x=some (a,M)) (p:P a M):Ok x P:=⟨a,M,h,p⟩
def GC {c:FT} {a g:FS} {Y:Sd} {M:Mem} {P:Out->Sd->Mem->Prop} (hc:c Y M=some (false,M)) (h:OkS (g Y M) P):OkS (zX (sIf c a Ah) g Y M) P:=by
 rw[zK,CO];refine zG hc ?_;rw[AE (by decide),Cr];exact h
def Rv {c:FT} {a:FS} {Y:Sd} {M:Mem} {P:Out->Sd->Mem->Prop} (hc:c Y M=some (false,M)) (h:P .nx Y M):OkS (sIf c a Ah Y M) P:=by
 rw[CO];refine zG hc ?_;rw[AE (by decide),Cr];exact h
def C3 {f:FE} {Y:Sd} {M M':Mem} {k:Bool} (h:f Y M=some (.dat (.bl k),M')):Cw (tst f) Y M=some (!k,M'):=by
 unfold Cw tst;rw[h]
def zY {f:FE} {Y:Sd} {M:Mem} {d:D} (h:f Y M=some (.dat d,M)):zD (toD f) zE Y M=some ([d],M):=by
 unfold zD toD zE;rw[h]
def zV {f:FE} {g:FA} {Y:Sd} {M:Mem} {d:D} {ds:List D} (h:f Y M=some (.dat d,M)) (hg:g Y M=some (ds,M)):zD (toD f) g Y M=some (d::ds,M):=by
 unfold zD toD;rw[h];dsimp only;rw[hg]
def zc {m:FF} {a:FA} {Y:Sd} {M M':Mem} {ds:List D} {d:D} (h:a Y M=some (ds,M)) (hm:m ds M=some (d,M')):zO m a Y M=some (.dat d,M'):=by
 unfold zO;rw[h];dsimp only;rw[hm]
def zS {k:K2} {f g:FE} {Y:Sd} {M:Mem} {x y:EV} {r:Option (EV × Mem)} (hf:f Y M=some (x,M)) (hg:g Y M=some (y,M)) (hk:k x y M=r):fOp k f g Y M=r:=by
 unfold fOp;rw[hf];dsimp only;rw[hg];exact hk
def n5 {xs ys:List D} {M:Mem} (h:xs.length+ys.length<=sizeLine):zy (.dat (.tup xs)) (.dat (.tup ys)) M=some (.dat (.tup (xs++ys)),M):=zW (Kk.mpr ⟨h,rfl,rfl⟩)
def Ce {x:EV} {xs:List D} {i:Int} {d:D} {M:Mem} (h:Al M x=some xs) (hd:atI xs i=some d):kIx x (.dat (.int i)) M=some (.dat d,M):=zW (Ie h hd ⟨rfl,rfl⟩)
def FK {f:FE} {x:EV} {xs:List D} {Y:Sd} {M:Mem} (hf:f Y M=some (x,M)) (h:Al M x=some xs):fB AR (zN f zd) Y M=some (.dat (.int xs.length),M):=by
 unfold fB zN zd;rw[hf];exact zW ((OK h).mpr ⟨rfl,rfl⟩)
noncomputable def BS (zA:Ya) (h g:Int):Int:=(zA.getD h.toNat []).getD g.toNat 0
noncomputable def BJ (zA:Ya) (room:Int) (word:Ye):Int:=word.foldl (BS zA) room
def Py {zA:Ya} {h:Int} (h0:0<=h) (h1:h<zA.length):atI (zA.map λr=>D.tup (r.map D.int)) h=some (.tup ((zA.getD h.toNat []).map D.int)):=by
 refine My h0 ?_;rw[Bn,BM,AV (by omega)];rfl
def Nk {r:Ye} {g:Int} (h0:0<=g) (h1:g<r.length):atI (r.map D.int) g=some (.int (r.getD g.toNat 0)):=by
 refine My h0 ?_;rw[Bn,BM,AV (by omega)];rfl
def IsM.get {zA:Ya} {l:Nat} (m:IsM zA l) {h:Int} (h0:0<=h) (h1:h<zA.length):(zA.getD h.toNat []).length=l /\ ∀ g∈zA.getD h.toNat [],0<=g/\g<zA.length:=by
 refine m.row _ ?_;rw[BM,AV (by omega)];exact Bl _
def IsM.step {zA:Ya} {l:Nat} (m:IsM zA l) {h g:Int} (h0:0<=h) (h1:h<zA.length) (g0:0<=g) (g1:g<l):0<=BS zA h g/\BS zA h g<zA.length:=by
 obtain ⟨q1,q2⟩:=m.get h0 h1;refine q2 _ ?_;unfold BS;rw[BM (l:=zA.getD h.toNat []),AV (by omega)];exact Bl _
def IsM.led {zA:Ya} {l:Nat} (m:IsM zA l):∀ (word:Ye) {h:Int},0<=h->h<zA.length->(∀ g∈word,0<=g/\g<l)->0<=BJ zA h word/\BJ zA h word<zA.length
 |[],h,h0,h1,_=>⟨h0,h1⟩
 |g::r,h,h0,h1,hw=>by
  obtain ⟨g0,g1⟩:=hw g Ae;obtain ⟨s0,s1⟩:=m.step h0 h1 g0 g1;exact IsM.led m r s0 s1 λx hx=>hw x (Ai _ hx)
def IsM.ix {zA:Ya} {l:Nat} (m:IsM zA l) {h g:Int} (h0:0<=h) (h1:h<zA.length) (g0:0<=g) (g1:g<l) {f1 f2 f3:FE} {Y:Sd} {M:Mem} (e1:f1 Y M=some (.dat (mD zA),M)) (e2:f2 Y M=some (.dat (.int h),M)) (e3:f3 Y M=some (.dat (.int g),M)) :
  fOp kIx (fOp kIx f1 f2) f3 Y M=some (.dat (.int (BS zA h g)),M):=by
 obtain ⟨q1,_⟩:=m.get h0 h1;exact zS (zS e1 e2 (Ce BK (Py h0 h1))) e3 (Ce BK (Nk g0 (by omega)))
def Xu {Y:Sd} {M:Mem} {ns:Ye} {j:Nat} {i:Int} (hσ:Y[i.toNat]?=Y[i.toNat]?) (hi:zC j Y M=some (.dat (.ref 0),M)) (h0:M[0]?=some (.fro (ns.map D.int))):∃ c:List Int,fSl (zC j) BG (Ay (fC (.int i))) Y M=some (.fl (c.map D.int),M)/\c.length<=ns.length:=by
 obtain ⟨c,ec,lc⟩:=Pw ns none (some i);refine ⟨c,zW (NC.mpr (zG hi (Mg.mpr (LY.mpr (BW.mpr (Ky.mpr ?_)))))),lc⟩;rw[JS (Nq h0) rfl,ec];exact ⟨rfl,rfl⟩
def DO (hf:f Y M=some (x,M)) (ht:Fy M x=some t):Cj T f Y M=some (.dat (.bl (isT t T)),M):=by
 unfold Cj;rw[hf];dsimp only;rw[ht]
def BL (h:f Y M=some (.dat (.bl k),M')):tst f Y M=some (k,M'):=by unfold tst;rw[h]
def Ci (hc:c Y M=some (true,M)) (h:OkS (a Y M) (nxP (λσ1 M1=>OkS (g σ1 M1) P) P)):OkS (zX (sIf c a b) g Y M) P:=by
 rw[zK,CO];refine zG hc ?_;rw[AB rfl];exact h
def zn (hf:f Y M=some (.dat d,M)) (h:P (.ret d) Y M):OkS (AL f Y M) P:=by
 rw[CS];exact zG hf h
def jM (h:(E8 d).isSome=true):kEq (.dat d) (.dat d) M=some (.dat (.bl true),M):=by
 cases d with
 |tup _=>cases h
 |ref _=>cases h
 |non=>rfl
 |bl k=>cases k <;> rfl
 |int i=>show some (EV.dat (.bl (decide (V.int i=V.int i))),M)=_;simp
 |str x=>show some (EV.dat (.bl (decide (V.str x=V.str x))),M)=_;simp
def Ez {α:Type} (as:List α) (enc out:α->D) (hi:fi Y M=some (as.map enc,gd,M)) (hgd:BN gd (as.map enc) M) (hz:as.length<=100000)
  (he:∀ a∈as,∃ σ1,g (enc a) (An own Y)=some σ1/\te σ1 M=some (.dat (out a),M)):Af own fi g zu te Y M=some (.fl (as.map out),M):=by
 refine zW (HS.mpr ⟨_,_,_,hi,by rw[AH];exact zm hz,?_⟩);refine Ok.mono (Io (I:=λr acc M'=>M'=M /\ ∃ ra rb:List α,as=rb++ra/\r=ra.map enc/\acc=rb.map out) (Q:=λacc M'=>M'=M/\acc=as.map out) ?_ ?_ _ [] _ ⟨rfl,as,[],rfl,rfl,rfl⟩) ?_
 .rintro x r acc M' ⟨rfl,ra,rb,hab,hr,rfl⟩;cases ra with
  |nil=>cases hr
  |cons a ra=>
   rw[AX]at hr;obtain ⟨rfl,rfl⟩:=Cd hr;obtain ⟨σ1,e1,e2⟩:=he a (by rw[hab];simp);refine ⟨hgd,σ1,e1,P8.mpr ?_⟩;rw[AB rfl];refine zG e2 ?_;rw[zM];exact ⟨rfl,ra,rb++[a],by rw[hab];simp,rfl,by simp⟩
 .rintro acc M' ⟨rfl,ra,rb,hab,hr,rfl⟩;cases ra with
  |nil=>rw[Au]at hab;subst hab;exact ⟨hgd,rfl,rfl⟩
  |cons a ra=>cases hr
 .rintro ys M' ⟨rfl,h⟩;rw[List.nil_append]at h;subst h;exact ⟨rfl,rfl⟩
def Gk (hf:f Y M=some (x,M)) (h:Al M x=some xs):fB CL (zN f zd) Y M=some (.dat (.tup xs),M):=by
 unfold fB zN zd;rw[hf];exact zW ((JX h).mpr ⟨rfl,rfl⟩)
def IH (hf:f Y M=some (.dat (.tup xs),M)):AO f Y M=some (xs,none,M):=GZ hf BK
def nG (n:Nat):D0 0 n=(List.range n).map λ(k:Nat)=>D.int k:=(Jj n).symm
def Ol (e:f Y M=some (.dat (.int j),M)) (h1:0<=j) (h2:j<2 ^ 62):A0 (zD (toD f) zE) Y M=some ((List.range j.toNat).map (λ(k:Nat)=>D.int k),none,M):=by
 rw[E4 e h1 h2,nG]
def Bg (hf:f Y M=some (.dat d,M)) (h:OkS (g (Y.set i (some d)) M) P):OkS (zX (zi i f) g Y M) P:=by
 rw[zK,za];exact zG hf h
def Kn (h:f Y M=some (.dat d,M')):zD (toD f) zE Y M=some ([d],M'):=by
 unfold zD toD zE;rw[h]
theorem Rq {α β:Type} (f:α->β) (d:α):∀ xs:List α,(List.range xs.length).map (λi=>f (xs.getD i d))=xs.map f
 |[]=>rfl
 |x::xs=>by
  rw[C1,List.range_succ_eq_map,AX,Ax,AX,<-Rq f d xs];rfl
open ST
noncomputable def ris (xs:Ye):List Int:=CD (zp xs)
def Eg (xs:Ye) (x:Int):x∈ris xs ↔ x∈xs:=by
 unfold ris;rw[(Gw _).mem_iff,Nr]
def HK (xs:Ye):(ris xs).Pairwise (· < ·):=by
 have h1:=Kq (zp xs);have h2:(ris xs).Nodup:=(Gw _).nodup_iff.mpr (Pe xs);unfold ris at h2 ⊢;exact (h1.and h2).imp λ{a b} h=>by have:=h.1;have:=h.2;omega
theorem Km:∀ {xs ys:Ye},xs.Pairwise (· < ·)->ys.Pairwise (· < ·)->(∀ x,x∈xs ↔ x∈ys)->xs=ys
 |[],[],_,_,_=>rfl
 |[],y::ys,_,_,h=>by have:=(h y).mpr Ae;cases this
 |x::xs,[],_,_,h=>by have:=(h x).mp Ae;cases this
 |x::xs,y::ys,h1,h2,h=>by
  have hx:=EO.mp h1;have hy:=EO.mp h2;have e:x=y:=by
   have a:=(h x).mp Ae;have b:=(h y).mpr Ae;rcases AK.mp a with z|z
   .exact z
   .rcases AK.mp b with q|q
    .exact q.symm
    .have:=hx.1 y q;have:=hy.1 x z;omega
  subst e;rw[Km hx.2 hy.2 λz=>?_];constructor
  .intro hz;rcases AK.mp ((h z).mp (Ai _ hz))with q|q
   .subst q;have:=hx.1 _ hz;omega
   .exact q
  .intro hz;rcases AK.mp ((h z).mpr (Ai _ hz))with q|q
   .subst q;have:=hy.1 _ hz;omega
   .exact q
def JD (h:∀ x,x∈xs ↔ x∈ys):ris xs=ris ys:=Km (HK xs) (HK ys) λx=>by rw[Eg,Eg];exact h x
def JB (h:xs.Pairwise (· < ·)):ris xs=xs:=Km (HK xs) h λx=>Eg xs x
def RC (xs:Ye):(ris xs).length<=xs.length:=by
 unfold ris;rw[(Gw _).length_eq];exact IE xs
def aE (h:0<xs.length):0<(ris xs).length:=by
 cases xs with
 |nil=>cases h
 |cons x r=>exact List.length_pos_of_mem ((Eg (x::r) x).mpr Ae)
def UJ (f:Int->Int) (xs:Ye):ris ((ris xs).map f)=ris (xs.map f):=JD λx=>by simp[Eg]
def j7 (h:Af own fi g tc te Y M=some (.fl (ks.map D.int),M)) (hz:ks.length<=4000):HA own fi g tc te Y M=some (zp ks,M):=by
 unfold HA;rw[h];dsimp only;rw[Ig];dsimp only;rw[AB (by unfold scanBound;omega)]
def Qz (h:f Y M=some (x,M)) (hx:Al M x=some (ks.map D.int)) (hz:(zp ks).length<=4000):FP f Y M=some (zp ks,M):=by
 unfold FP;rw[h];dsimp only;rw[hx];dsimp only;rw[Ig];dsimp only;rw[AB (by unfold scanBound;omega)]
def ZZ (h:f Y M=some (x,M)) (hx:Al M x=some (ks.map D.int)) (hz:ks.length<=4000):FP f Y M=some (zp ks,M):=Qz h hx (AW (IE ks) hz)
def Mt (h:fz Y M=some (zp ks,M)) (hz:(zp ks).length<64):Fz fz Y M=some (.fl ((ris ks).map D.int),M):=by
 unfold Fz;rw[h];dsimp only;rw[AB hz];rfl
noncomputable def MA:FS:=(AL (fB CL (zN (Fz (HA [3] (AO (zC 1)) (gN 3) zu (fOp kIx (fOp kIx (zC 0) (zC 3)) (zC 2)))) zd)))
noncomputable def Ec:FF:=Dp (Ab 4 MA)
noncomputable def Kh:FS:=(zX (zi 3 (AM (zD (toD (zC 1)) zE)))
  (zX (BU (AO (zC 2)) (gN 4) (Az (fM z0 (zC 3) (zD (toD (zO Ec (zD (toD (zC 0)) (zD (toD (fOp kIx (zC 3) (DC (fC (.int 1))))) (zD (toD (zC 4)) zE))))) zE))))
  (AL (fB CL (zN (zC 3) zd)))))
noncomputable def Hn:FF:=Dp (Ab 5 Kh)
noncomputable def Ln:FS:=(AL (fOp kIx (zO Hn (zD (toD (zC 0)) (zD (toD (zC 1)) (zD (toD (zC 2)) zE)))) (DC (fC (.int 1)))))
noncomputable def GN:FF:=Dp (Ab 3 Ln)
noncomputable def setR (zA:Ya) (S:Ye) (g:Int):List Int:=ris (S.map λh=>BS zA h g)
noncomputable def broR (zA:Ya) (S word:Ye):List Int:=word.foldl (setR zA) S
structure IsS (zA:Ya) (S:Ye):Prop where
 pw:S.Pairwise (· < ·)
 n0:0<S.length
 mem:∀ x∈S,0<=x/\x<(zA.length:Int)
theorem MC:∀ {S:Ye} {a:Int} {n:Nat},S.Pairwise (· < ·)->(∀ x∈S,a<=x/\x<a+(n:Int))->S.length<=n
 |[],_,_,_,_=>BD _
 |x::S,a,n,h,hm=>by
  have hx:=EO.mp h;obtain ⟨m0,m1⟩:=hm x Ae;have hn:0<n:=by omega
  have:=MC (S:=S) (a:=x+1) (n:=(a+n-(x+1)).toNat) hx.2 λy hy=>by
   have:=hx.1 y hy;have:=(hm y (Ai _ hy)).2;omega
  simp only[C1];omega
def IsS.len (h:IsS zA S):S.length<=zA.length:=MC h.pw (a:=0) λx hx=>by have:=h.mem x hx;omega
theorem IsM.setR {zA:Ya} {l:Nat} (m:IsM zA l) {S:Ye} (s:IsS zA S) {g:Int} (g0:0<=g) (g1:g<l):IsS zA (setR zA S g):=by
 refine ⟨HK _,aE (by rw[AH];exact s.n0),λx hx=>?_⟩;obtain ⟨y,hy,rfl⟩:=Ac.mp ((Eg _ _).mp hx);obtain ⟨y0,y1⟩:=s.mem y hy;exact m.step y0 y1 g0 g1
theorem IsM.broR {zA:Ya} {l:Nat} (m:IsM zA l):∀ (word:Ye) {S:Ye},IsS zA S->(∀ g∈word,0<=g/\g<(l:Int))->IsS zA (broR zA S word)
 |[],S,s,_=>s
 |g::r,S,s,hw=>by
  obtain ⟨g0,g1⟩:=hw g Ae;exact IsM.broR m r (m.setR s g0 g1) λx hx=>hw x (Ai _ hx)
theorem Oc (zA:Ya):∀ (word:Ye) (S:Ye),broR zA (ris S) word=ris (S.map λr=>BJ zA r word)
 |[],S=>by show ris S=ris (S.map λr=>r);rw[List.map_id']
 |g::w,S=>by
  show broR zA (setR zA (ris S) g) w=_;unfold setR;rw[UJ];rw[Oc zA w];rw[Ax];rfl
def Ng (h:S.Pairwise (· < ·)) (word:Ye):broR zA S word=ris (S.map λr=>BJ zA r word):=by
 have:=Oc zA word S;rw[JB h]at this;exact this
def VM (zA:Ya) (S a b:Ye):broR zA S (a++b)=broR zA (broR zA S a) b:=by unfold broR;rw[EE]
noncomputable def tI (xs:Ye):D:=.tup (xs.map D.int)
def KG {zA:Ya} {l:Nat} (m:IsM zA l) (hR:zA.length<64) {S:Ye} (s:IsS zA S) {g:Int} (g0:0<=g) (g1:g<l) {M:Mem}:Ec [mD zA,tI S,.int g] M=some (tI (setR zA S g),M):=by
 refine zW ?_;unfold Ec;refine FN (by unfold D.unds D.unds D.unds D.unds;rw[Ex];simp[tI,By,D.und,B8]) ?_;rw[zw];unfold MA;have hl:=s.len;have hz:(zp (S.map λh=>BS zA h g)).length<64:=by have:=IE (S.map λh=>BS zA h g);rw[AH]at this;omega
 refine zn (d:=tI (setR zA S g)) ?_ ⟨by unfold tI;exact By _,rfl,rfl⟩;refine Gk (Mt (ks:=S.map λh=>BS zA h g) (j7 ?_ (by rw[AH];omega)) hz) D3;refine (Ez S D.int (λh=> .int (BS zA h g)) (IH rfl) trivial (by omega) λh hh=>⟨_,rfl,?_⟩).trans ?_
 .obtain ⟨h0,h1⟩:=s.mem h hh;exact m.ix h0 h1 g0 g1 rfl rfl rfl
 .rw[Ax];rfl
noncomputable def F3 (zA:Ya) (S:Ye):List Int->List (List Int)
 |[]=>[S]
 |g::w=>S::F3 zA (setR zA S g) w
def Qd {α:Type} (xs:List α) (x:α):atI (xs++[x]) (-1)=some x:=by
 unfold atI ixN;rw[AE (by decide),AB (by simp;omega)];have:((-1:Int)+((xs++[x]).length:Int)).toNat=xs.length:=by simp;omega
 simp only[Option.bind_some];rw[this];simp
def iH {zA:Ya} {l:Nat} (m:IsM zA l) (hR:zA.length<64) {S word:Ye} (s:IsS zA S) (hw:∀ g∈word,0<=g/\g<(l:Int)) (hz:word.length<=90000) {M:Mem}:Hn [mD zA,tI S,tI word] M=some (.tup ((F3 zA S word).map tI),M):=by
 refine zW ?_;unfold Hn;refine FN (by unfold D.unds D.unds D.unds D.unds;rw[Ex];simp[tI,By,D.und,B8]) ?_;rw[zw];unfold Kh;rw[zK,za];refine Jo.mpr (C8.mpr (Bo.mpr (BC.mpr ⟨_,rfl,zM.mpr (Ee.mpr ⟨zm (by simp),?_⟩)⟩)));rw[Iq,zU,zK,DB];refine ⟨_,_,_,GZ rfl BK,?_⟩;refine Dk (I:=λr Y M'=>∃ (y:Option D) (c:Ye) (acc:Ya) (T:Ye),Y=[some (mD zA),some (tI S),some (tI word),some (.ref 0),y]/\r=c.map D.int/\(∀ g∈c,0<=g/\g<(l:Int))/\IsS zA T/\M'=[.lst ((acc++[T]).map tI)]/\acc++F3 zA T c=F3 zA S word/\acc.length+c.length=word.length) ?_ ?_ _ _ _ ⟨none,word,[],S,rfl,rfl,hw,s,rfl,rfl,by simp⟩
 .rintro x r Y M' ⟨y,c,acc,T,rfl,hc,hg,sT,rfl,e,hl⟩;obtain ⟨z,c',rfl,rfl,rfl⟩:=Nf hc;refine ⟨De,_,rfl,?_⟩;rw[ER];obtain ⟨g0,g1⟩:=hg z Ae;have eA:([MO.lst ((acc++[T]).map tI)]:Mem)[0]?=some (.lst ((acc++[T]).map tI)):=rfl;refine EN.mpr (BC.mpr ⟨_,rfl,⟨_,Cv eA⟩,C8.mpr (Bo.mpr ?_)⟩);refine zG (zc (zV rfl (zV (zS (f:=zC 3) (g:=DC (fC (.int 1))) (y:=.dat (.int (-1))) rfl rfl (Ce (zv eA) ?_)) (zY rfl))) (KG m hR sT g0 g1)) ?_
  .rw[Bq];exact Qd _ _
  .rw[zM,Ee,Gh eA (by rw[AH,AU];simp at hl ⊢;exact As (m:=95000) (by omega) (zm (by omega)))];refine ⟨_,c',acc++[T],setR zA T z,rfl,rfl,λg hg'=>hg g (Ai _ hg'),m.setR sT g0 g1,?_,?_,by simp at hl ⊢;omega⟩
   .simp
   .rw[<-e];simp[F3]
 .rintro Y M' ⟨y,c,acc,T,rfl,hc,hg,sT,rfl,e,hl⟩;have:c=[]:=by cases c with|nil=>rfl|cons _ _=>cases hc
  subst this;refine ⟨De,?_⟩;rw[zU];refine zn (Gk rfl (zv (show ([MO.lst ((acc++[T]).map tI)]:Mem)[0]?=some (.lst ((acc++[T]).map tI))from rfl))) ?_;have e':acc++[T]=F3 zA S word:=by rw[<-e];rfl
  rw[e'];refine ⟨?_,rfl,rfl⟩;unfold D.und;refine JV λx hx=>?_;obtain ⟨r,_,rfl⟩:=Ac.mp hx;exact By r
theorem RE (zA:Ya):∀ (word S:Ye),∃ us,F3 zA S word=us++[broR zA S word]
 |[],S=>⟨[],rfl⟩
 |g::w,S=>by
  obtain ⟨us,e⟩:=RE zA w (setR zA S g);exact ⟨S::us,by show S::F3 zA _ w=_;rw[e];rfl⟩
def KW (m:IsM zA l) (hR:zA.length<64) (s:IsS zA S) (hw:∀ g∈word,0<=g/\g<(l:Int)) (hz:word.length<=90000):GN [mD zA,tI S,tI word] M=some (tI (broR zA S word),M):=by
 refine zW ?_;unfold GN;refine FN (by unfold D.unds D.unds D.unds D.unds;rw[Ex];simp[tI,By,D.und,B8]) ?_;rw[zw];unfold Ln;obtain ⟨us,e⟩:=RE zA word S;refine zn (d:=tI (broR zA S word)) (zS (zc (zV rfl (zV rfl (zY rfl))) (iH m hR s hw hz)) (g:=DC (fC (.int 1))) (y:=.dat (.int (-1))) rfl (Ce BK ?_)) ⟨by unfold tI;exact By _,rfl,rfl⟩;rw[e,Bq];exact Qd _ _
def nU (hgd:BN gd all M) (hg:g x Y=some σ1) (hk:tk σ1 M=some (.dat k,M)) (hv:tv σ1 M=some (.dat v,M)) (hp:FL M n k v=some M'):Cs g zu tk tv Y n all gd (x::r) M=Cs g zu tk tv Y n all gd r M':=by
 rw[Cs];rw[AB hgd,hg];have et:zu σ1 M=some (true,M):=rfl;have e1:toD tk σ1 M=some (k,M):=by unfold toD;rw[hk]
 have e2:toD tv σ1 M=some (v,M):=by unfold toD;rw[hv]
 dsimp only;rw[et];dsimp only;rw[e1];dsimp only;rw[e2];dsimp only;rw[hp]
def Qv (hgd:BN gd all M):Cs g tc tk tv Y n all gd [] M=some M:=by
 rw[Cs,AB hgd]
def EW (e:f Y M=some (.dat (mD zA),M)):fB AR (zN f zd) Y M=some (.dat (.int zA.length),M):=by
 have:=FK e BK;rw[AH]at this;exact this
def GL (m:IsM zA l) (e:f Y M=some (.dat (mD zA),M)):fB AR (zN (fOp kIx f (fC (.int 0))) zd) Y M=some (.dat (.int l),M):=by
 have r0:=m.r0;have:=FK (zS (g:=fC (.int 0)) e rfl (Ce BK (Py (h:=0) (by omega) (by omega)))) BK;rw[AH,(m.get (h:=0) (by omega) (by omega)).1]at this;exact this
def Fh (e:f Y M=some (.dat (tI xs),M)):fB AR (zN f zd) Y M=some (.dat (.int xs.length),M):=by
 have:=FK e BK;rw[AH]at this;exact this
noncomputable def ML:FS:=(AL (C5 (Cj "int" (zC 0)) (E3 (Cj "bool" (zC 0)))))
noncomputable def G6:FF:=Ab 1 ML
noncomputable def Ke:FS:=(AL (C5 (zO G6 (zD (toD (zC 0)) zE)) (Ft kLe kLt (fC (.int 0)) (zC 0) (zC 1))))
noncomputable def IQ:FF:=Ab 2 Ke
noncomputable def MF:FS:=(AL (C5 (Cj "tuple" (zC 0)) (fB GO (zN (Af [2] (AO (zC 0)) (gN 2) zu (zO IQ (zD (toD (zC 2)) (zD (toD (zC 1)) zE)))) zd))))
noncomputable def Hf:FF:=Ab 3 MF
mutual
def Vd (M:Mem):D->Prop
 |.ref n=>∃ t,Fy M (.dat (.ref n))=some t/\(t = "list" \/ t = "dict")
 |.tup ds=>ds.length<=100000/\Vds M ds
 |_=>True
def Vds (M:Mem):List D->Prop
 |[]=>True
 |d::ds=>Vd M d/\Vds M ds
end
def Vds.mem:∀ {ds:List D},Vds M ds -> ∀ d∈ds,Vd M d
 |[],_,d,h=>by cases h
 |x::ds,hv,d,h=>by
  unfold Vds at hv;rcases AK.mp h with q|q
  .subst q;exact hv.1
  .exact Vds.mem hv.2 d q
def Vds.of:∀ {ds:List D},(∀ d∈ds,Vd M d)->Vds M ds
 |[],_=>trivial
 |x::ds,h=>⟨h x Ae,Vds.of λd hd=>h d (Ai _ hd)⟩
noncomputable def Ed:D->Bool
 |.int _=>true
 |_=>false
noncomputable def CT (n:Int):D->Bool
 |.int i=>decide (0<=i)&&decide (i<n)
 |_=>false
noncomputable def tbD (n:Int):D->Bool
 |.tup ds=>ds.all (CT n)
 |_=>false
noncomputable def Td:D->Nat
 |.tup ds=>ds.length
 |_=>0
noncomputable def Uz:D->Bool
 |.tup _=>true
 |_=>false
def QK (out:D->D) (hf:f Y M=some (.dat (.tup ds),M)) (hz:ds.length<=100000)
  (he:∀ a∈ds,∃ σ1,g a (An own Y)=some σ1/\te σ1 M=some (.dat (out a),M)):Af own (AO f) g zu te Y M=some (.fl (ds.map out),M) :=
 Ez (gd:=none) ds id out (by rw[List.map_id];exact IH hf) trivial hz he
def Vd.ty (h:Vd M d):∃ t,Fy M (.dat d)=some t/\isT t "tuple" = Uz d/\(isT t "int" && !isT t "bool")=Ed d:=by
 cases d with
 |non=>exact ⟨_,rfl,(show isT "NoneType" "tuple" = false by decide),(show (isT "NoneType" "int" && !isT "NoneType" "bool")=false by decide)⟩
 |bl k=>exact ⟨_,rfl,(show isT "bool" "tuple" = false by decide),(show (isT "bool" "int" && !isT "bool" "bool")=false by decide)⟩
 |int i=>exact ⟨_,rfl,(show isT "int" "tuple" = false by decide),(show (isT "int" "int" && !isT "int" "bool")=true by decide)⟩
 |str x=>exact ⟨_,rfl,(show isT "str" "tuple" = false by decide),(show (isT "str" "int" && !isT "str" "bool")=false by decide)⟩
 |tup ds=>exact ⟨_,rfl,(show isT "tuple" "tuple" = true by decide),(show (isT "tuple" "int" && !isT "tuple" "bool")=false by decide)⟩
 |ref n=>
  unfold Vd at h;obtain ⟨t,e,h⟩:=h;rcases h with rfl|rfl
  .exact ⟨_,e,(show isT "list" "tuple" = false by decide),(show (isT "list" "int" && !isT "list" "bool")=false by decide)⟩
  .exact ⟨_,e,(show isT "dict" "tuple" = false by decide),(show (isT "dict" "int" && !isT "dict" "bool")=false by decide)⟩
def Dw (hf:f Y M=some (.dat (.bl a),M)) (hg:a=true->g Y M=some (.dat (.bl b),M)):C5 f g Y M=some (.dat (.bl (a&&b)),M):=by
 unfold C5;rw[hf];cases a with
 |true=>exact hg rfl
 |false=>rfl
def Qt (hf:f Y M=some (.dat (.bl a),M)):E3 f Y M=some (.dat (.bl (!a)),M):=by unfold E3;rw[hf]
def HG (h:f (ds.map some++List.replicate (n-ds.length) none) M=some (.dat d,M)):Ab n (AL f) ds M=some (d,M):=by
 refine zW ?_;rw[zw];exact zn h ⟨rfl,rfl⟩
def Q6 (h:Vd M d):G6 [d] M=some (.bl (Ed d),M):=by
 obtain ⟨t,e,_,q⟩:=h.ty;unfold G6 ML;refine HG ?_;rw[<-q];exact Dw (DO rfl e) λ_=>Qt (DO rfl e)
def S5 (h:Vd M d):IQ [d,.int n] M=some (.bl (CT n d),M):=by
 unfold IQ Ke;refine HG ?_;have hw:=zc (Y:=[some d,some (.int n)]) (a:=zD (toD (zC 0)) zE) (zY rfl) (Q6 h);have e:CT n d=(Ed d&&CT n d):=by cases d <;> rfl
 rw[e];refine Dw hw λhi=>?_;cases d with
 |int i=>
  refine zW (Rh.mpr (BW.mpr (BC.mpr ⟨_,rfl,Qb.mpr (Ei.mpr ?_)⟩)));by_cases h0:0<=i
  .rw[AB (by simpa using h0)];refine BC.mpr ⟨_,rfl,Jq.mpr ⟨?_,rfl⟩⟩;simp[CT,h0]
  .rw[AE (by simpa using h0)];exact ⟨by simp[CT,h0],rfl⟩
 |_=>cases hi
def Jw {bs:List Bool} (h:f Y M=some (.fl (bs.map D.bl),M)):fB GO (zN f zd) Y M=some (.dat (.bl (bs.all id)),M):=by
 unfold fB zN zd;rw[h];exact zW ((Pz Q3 (MQ bs)).mpr ⟨rfl,rfl⟩)
def Kr {α:Type} (xs:List α) (p:α->Bool):(xs.map p).all id=xs.all p:=by rw[List.all_map];rfl
def N7 (h:Vd M d):Hf [d,.int n] M=some (.bl (tbD n d),M):=by
 unfold Hf MF;refine HG ?_;obtain ⟨t,e,q,_⟩:=h.ty;cases d with
 |tup ds=>
  have hh:Vd M (.tup ds):=h;unfold Vd at hh;have:tbD n (.tup ds)=(true&&(ds.map (CT n)).all id):=by rw[Bool.true_and,Kr];rfl
  rw[this];refine Dw (by rw[DO rfl e,q];rfl) λ_=>Jw ?_;rw[Ax];exact QK (λx=> .bl (CT n x)) rfl hh.1 λx hx=>⟨_,rfl,zc (zV rfl (zY rfl)) (S5 (hh.2.mem x hx))⟩
 |_=>
  have:∀ b,(false&&b)=false:=λb=>rfl;refine (Dw (a:=false) (b:=true) (by rw[DO rfl e,q];rfl) λz=>by cases z).trans ?_;rfl
def lV {xs:List D} {lo hi:Ys} {M:Mem}:kSl (.dat (.tup xs)) lo hi M=some (.dat (.tup (L3.BE xs lo hi)),M):=rfl
def slE {f:FE} {fl fh:FO} {Y:Sd} {M:Mem} {xs:List D} {lo hi:Ys} (hf:f Y M=some (.dat (.tup xs),M)) (hl:fl Y M=some (lo,M)) (hh:fh Y M=some (hi,M)):fSl f fl fh Y M=some (.dat (.tup (L3.BE xs lo hi)),M):=by
 unfold fSl;rw[hf];dsimp only;rw[hl];dsimp only;rw[hh];exact lV
def oS (h:f Y M=some (.dat (.int i),M)):Ay f Y M=some (some i,M):=by unfold Ay;rw[h]
noncomputable abbrev gL (k:Nat) (s:Int):MO:=.lst [.ref k,.int s]
def iS (hk:k<N):MO.und N (gL k s)=true:=by
 show D.unds _ _=true;unfold D.unds D.unds D.unds D.und;simp[hk]
structure Nw (M M':Mem) (n k:Nat):Prop where
 gen:Gen M' n k
 len:M.length<=M'.length
 fr:∀ j,j<M.length->j≠n->j≠k->M'[j]?=M[j]?
def Nw.trans {M M1 M2:Mem} {n k:Nat} (a:Nw M M1 n k) (b:Nw M1 M2 n k):Nw M M2 n k :=
 ⟨b.gen,AW a.len b.len,λj h h1 h2=>(b.fr j (As h a.len) h1 h2).trans (a.fr j h h1 h2)⟩
def Nx.nw (x:Nx M M' n k):Nw M M' n k:=⟨x.gen,by rw[x.len];exact AF _,λj _ h1 h2=>x.fr j h1 h2⟩
def Gen.lst (h:Gen A n k) (xs:List D) (hx:D.unds A.length xs=true):Nw A (A++[.lst xs]) n k:=⟨h.app λu hu=>by
 have:u=.lst xs:=by simpa using hu
 subst this;exact G9 (by simp) hx,by simp,λj hj _ _=>AJ hj⟩
def Nw.setB (h:Nw M A n k) (g:Gen M n k) (hj:M.length<=j) (hu:MO.und A.length u=true):Nw M (A.set j u) n k:=by
 obtain ⟨hn,hk⟩:=g.lt;obtain ⟨c,s,e1,e2,r⟩:=h.gen.ex;refine ⟨⟨⟨c,s,by rw[AZ (by omega)];exact e1,by rw[AZ (by omega)];exact e2,r⟩,g.ne,λi v e=>?_⟩,by rw[Bh];exact h.len,λi hi h1 h2=>by rw[AZ (by omega)];exact h.fr i hi h1 h2⟩;rw[Bh];rw[ED]at e;split at e
 .split at e
  .cases e;exact hu
  .cases e
 .exact h.gen.wf i v e
def Nw.wf0 (h:Nw M M' n k) (g:Gen M n k):∀ (j:Nat) u,j<M.length->M'[j]?=some u->MO.und M.length u=true:=λj u hj e=>by
 obtain ⟨hn,hk⟩:=g.lt;obtain ⟨c,s,e1,e2,r⟩:=h.gen.ex;by_cases q1:j=n
 .subst q1;rw[e1]at e;cases e;exact iS hk
 .by_cases q2:j=k
  .subst q2;rw[e2]at e;cases e;exact B8 _ _
  .rw[h.fr j hj q1 q2]at e;exact g.wf j u e
def Nw.trim (h:Nw M M' n k) (g:Gen M n k):Nw M (M'.take M.length) n k:=by
 obtain ⟨hn,hk⟩:=g.lt;have tk:∀ j,j<M.length->(M'.take M.length)[j]?=M'[j]?:=λj hj=>List.getElem?_take_of_lt hj;have tl:(M'.take M.length).length=M.length:=by have:=h.len;rw[EJ];omega
 obtain ⟨c,s,e1,e2,r⟩:=h.gen.ex;refine ⟨⟨⟨c,s,(tk n hn).trans e1,(tk k hk).trans e2,r⟩,g.ne,λj u e=>?_⟩,by omega,λj hj h1 h2=>(tk j hj).trans (h.fr j hj h1 h2)⟩;have hj:j<M.length:=by have:=(AG.mp e).1;omega
 rw[tk j hj]at e;rw[tl];exact h.wf0 g j u hj e
def Nw.get (h:Nw M M' n k) (e:M[j]?=some u) (h1:j≠n) (h2:j≠k):M'[j]?=some u :=
 (h.fr j (AG.mp e).1 h1 h2).trans e
end Law
namespace Lac
open L2 L3 ST Law
noncomputable def Np:FS:=(zX (zi 2 (AM zE))
  (zX (BU (A0 (zD (toD (zC 1)) zE)) (gN 3) (Az (fM HV (zC 2) (zD (toD (zO zZ (zD (toD (zC 0)) (zD (toD (fOp zy (zC 3) (fC (.int 1)))) zE)))) (zD (toD (zC 3)) zE)))))
  (AL (zC 2))))
noncomputable def GD:FF:=Ab 4 Np
noncomputable def MM:FS:=(zX (sIf (tst (fOp kEq (zC 1) (fC (.int 0)))) (AL (Af [4] (A0 (zD (toD (zC 2)) zE)) (gN 4) zu (zO zZ (zD (toD (zC 0)) (zD (toD (zC 2)) zE))))) Ah)
  (zX (sIf (tst (fOp kEq (zC 1) (fC (.int 1)))) (AL (Af [4] (A0 (zD (toD (zC 2)) zE)) (gN 4) zu (fOp DG (fOp zy (zC 4) (zO zZ (zD (toD (zC 0)) (zD (toD (fC (.int 3))) zE)))) (zC 2)))) Ah)
  (zX (sIf (tst (fOp kEq (zC 1) (fC (.int 2)))) (zX (zi 5 (fOp HH (fOp zy (zC 2) (fC (.int 1))) (fC (.int 2))))
  (zX (zi 6 (Af [4] (A0 (zD (toD (zC 5)) zE)) (gN 4) zu (zO zZ (zD (toD (zC 0)) (zD (toD (zC 5)) zE)))))
  (AL (fOp Cn (zC 6) (Af [4] (A0 (zD (toD (fOp EU (zC 2) (zC 5))) zE)) (gN 4) zu (fOp zy (zC 5) (zO zZ (zD (toD (zC 0)) (zD (toD (fOp EU (zC 2) (zC 5))) zE))))))))) Ah)
  (zX (sIf (Ck (tst (fOp kEq (zC 1) (fC (.int 3)))) (tst (fOp kEq (zC 3) (fC (.int 0))))) (AL (Af [4] (A0 (zD (toD (zC 2)) zE)) (gN 4) zu (fOp DG (fOp zy (zC 4) (fC (.int 1))) (zC 2)))) Ah)
  (zX (sIf (tst (fOp kEq (zC 1) (fC (.int 3)))) (AL (Af [4] (A0 (zD (toD (zC 2)) zE)) (gN 4) zu (fOp kIx (AM (zD (toD (zC 4)) (zD (toD (fC (.int 0))) zE))) (fB Ge (zN (fOp kEq (zC 4) (fOp EU (zC 2) (fC (.int 1)))) zd))))) Ah)
  (zX (sIf (CN (tst (fOp kEq (zC 1) (fC (.int 4)))) (tst (fOp kEq (zC 1) (fC (.int 7))))) (zX (zi 7 (zO zZ (zD (toD (zC 0)) (zD (toD (zC 2)) zE))))
  (AL (Af [4] (A0 (zD (toD (zC 2)) zE)) (gN 4) zu (fOp kIx (AM (zD (toD (fOp DG (fOp zy (zC 4) (zC 7)) (zC 2))) (zD (toD (zC 7)) zE))) (fB Ge (zN (fOp kEq (zC 1) (fC (.int 7))) zd)))))) Ah)
  (zX (zi 8 (zO GD (zD (toD (zC 0)) (zD (toD (zC 2)) zE))))
  (zX (sIf (Ck (tst (fOp kEq (zC 1) (fC (.int 6)))) (tst (fOp kEq (zC 3) (fC (.int 0))))) (zX (zi 9 (fOp kIx (zC 8) (zO zZ (zD (toD (zC 0)) (zD (toD (zC 2)) zE)))))
  (GS (zC 9) (zC 8) (zO zZ (zD (toD (zC 0)) (zD (toD (zC 2)) zE))))) Ah)
  (AL (zC 8))))))))))
noncomputable def IC:FF:=Ab 10 MM
noncomputable def Mh:FS:=(zX (zi 3 (zO zZ (zD (toD (zC 0)) (zD (toD (fC (.int 8))) zE))))
  (zX (zi 4 (Af [5] (A0 (zD (toD (zC 2)) zE)) (gN 5) zu (zO IC (zD (toD (zC 0)) (zD (toD (zC 3)) (zD (toD (zC 1)) (zD (toD (zC 5)) zE)))))))
  (AL (fB CL (zN (Af [7] (A0 (zD (toD (zC 1)) zE)) (gN 7) zu (fB CL (zN (Af [6] (AO (zC 4)) (gN 6) zu (fOp kIx (zC 6) (zC 7))) zd))) zd)))))
noncomputable def G0:FF:=Fw (Ab 8 Mh)
def Col (many:Int) (c:Ye):Prop:=(c.length:Int)=many /\ ∀ x∈c,0<=x/\x<many
def zx (h:P (.ref M.length) (M++[.lst xs])):D2 P (.fl xs) M:=h
def zt (A:Mem) (u:MO):(A++[u])[A.length]?=some u:=by simp
def Oy (h:0<b):DG (.dat (.int a)) (.dat (.int b)) M=some (.dat (.int (a % b)),M):=zW (Fm.mpr ⟨h,rfl,rfl⟩)
def Gq {M:Mem} {n k:Nat} (h:Gen M n k) {own:Yj} {i:Nat} {f te:FE} {Y:Sd} {cnt lo hi:Int} (c0:0<=cnt) (c1:cnt<=90000) (hf:f Y M=some (.dat (.int cnt),M))
  (ht:∀ (r:Nat) (M':Mem),(r:Int)<cnt->Gen M' n k->Ok (te ((An own Y).set i (some (.int r))) M') λx M''=>∃ v:Int,x=.dat (.int v)/\lo<=v/\v<hi/\Nx M' M'' n k) :
  Ok (Af own (A0 (zD (toD f) zE)) (gN i) zu te Y M) λx M'=>(∃ c:List Int,x=.fl (c.map D.int)/\(c.length:Int)=cnt /\ ∀ y∈c,lo<=y/\y<hi)/\Nx M M' n k:=by
 refine HS.mpr ⟨_,_,_,E4 hf c0 (by omega),by rw[J6];exact zm (by omega),?_⟩;refine Ok.mono (Mv (n:=cnt.toNat) (I:=λj acc M2=>(∃ c:List Int,acc=c.map D.int/\c.length=j /\ ∀ y∈c,lo<=y/\y<hi)/\Nx M M2 n k) ?_ ⟨⟨[],rfl,rfl,λ_ h=>by cases h⟩,Nx.refl h⟩) ?_
 .rintro j acc M2 hj ⟨⟨c,rfl,hcl,hc⟩,nx⟩;refine ⟨_,rfl,?_⟩;refine Ok.mono (ht j M2 (by omega) nx.gen) ?_;rintro x M3 ⟨v,rfl,v0,v1,nx3⟩;rw[zM];refine ⟨⟨c++[v],by simp,by simp[hcl],λz hz=>?_⟩,nx.trans nx3⟩;rcases Ak.mp hz with q|q
  .exact hc z q
  .have:z=v:=by simpa using q
   subst this;exact ⟨v0,v1⟩
 .rintro ys M2 ⟨⟨c,rfl,hcl,hc⟩,nx⟩;exact ⟨⟨c,rfl,by omega,hc⟩,nx⟩
def Pf (ha:a Y M=some (.dat x,M)) (hb:b Y M=some (.dat y,M)):AM (zD (toD a) (zD (toD b) zE)) Y M=some (.fl [x,y],M):=by
 unfold AM;rw[zV ha (zY hb)];dsimp only;rw[AB (zm (by simp))]
def Rx (hl:l Y M=some (.fl [x,y],M)) (ht:t Y M=some (.dat (.bl b),M)):fOp kIx l (fB Ge (zN t zd)) Y M=some (.dat (if b then y else x),M):=by
 have e:fB Ge (zN t zd) Y M=some (.dat (.int (if b then 1 else 0)),M):=by unfold fB zN zd;rw[ht];rfl
 cases b with
 |true=>exact zS hl e rfl
 |false=>exact zS hl e rfl
def Wb (h:M[n]?=some (.lst xs)) (h0:0<=i) (h1:i.toNat<=xs.length) (hz:xs.length<90000):HV (.dat (.ref n)) [.int i,d] M=some (.non,M.set n (.lst (xs.take i.toNat++[d]++xs.drop i.toNat))):=by
 unfold HV;dsimp only;rw[h];dsimp only;rw[AB ⟨h0,h1,As hz (zm (by omega))⟩]
def PD (h:Gen M n k) (m0:0<many) (m1:many<=1000):Ok (GD [.ref n,.int many] M) λd M'=>∃ j c,d=.ref j/\M'[j]?=some (.lst (c.map D.int))/\Col many c/\M.length<=j/\Nw M M' n k/\c.Perm ((List.range many.toNat).map λ(x:Nat)=>(x:Int)):=by
 obtain ⟨hn,hk⟩:=h.lt;unfold GD;rw[zw];unfold Np;rw[zK,za];refine Jo.mpr (Ee.mpr ⟨zm (by simp),zx ?_⟩);rw[zU,zK,DB];have nw1:=h.lst [] rfl;have e1:(M++[MO.lst ([]:List D)])[M.length]?=some (.lst []):=zt _ _;generalize M++[MO.lst ([]:List D)]=M1 at nw1 e1;refine ⟨_,_,_,E4 rfl (by omega) (by omega),?_⟩;refine IA (n:=many.toNat) (I:=λi Y M'=>(∃ y,Y=[some (.ref n),some (.int many),some (.ref M.length),y]) /\ ∃ c:List Int,M'[M.length]?=some (.lst (c.map D.int))/\c.length=i/\(∀ x∈c,0<=x/\x<many)/\Nw M M' n k/\c.Perm ((List.range i).map λ(x:Nat)=>(x:Int))) ?_ ?_ _ _ ⟨⟨_,rfl⟩,[],e1,rfl,(λ_ h=>by cases h),nw1,.refl _⟩
 .rintro i Y M' hi ⟨⟨y,rfl⟩,c,ec,hcl,hc,nw,pm⟩;refine ⟨_,rfl,?_⟩;rw[ER];refine EN.mpr (BC.mpr ⟨_,rfl,⟨_,Cv ec⟩,C8.mpr (Bo.mpr ?_)⟩);refine C2 nw.gen rfl (zS (x:=.dat (.int (i:Nat))) rfl rfl rfl) (by omega) (by omega) λq M2 q0 q1 nx=>?_;have ec2:=nx.nw.get ec (by omega) (by omega);rw[zM];refine zG (zY (d:=.int (i:Nat)) rfl) ?_;refine zG (Wb ec2 q0 (by rw[AH];omega) (by rw[AH];omega)) ?_;have hl:M.length<M2.length:=(AG.mp ec2).1;refine ⟨⟨_,rfl⟩,c.take q.toNat++[(i:Int)]++c.drop q.toNat,?_,by simp;omega,λx hx=>?_,?_,?_⟩
  .rw[CK hl];simp
  .simp only[Ak,Bd]at hx;rcases hx with (w|w)|w
   .exact hc x (List.mem_of_mem_take w)
   .omega
   .exact hc x (List.mem_of_mem_drop w)
  .refine (nw.trans nx.nw).setB h (AF _) ?_;show D.unds _ _=true;rw[<-List.map_take,<-List.map_drop,Lu,Lu,B8,B8];rfl
  .rw[List.range_succ,Bq];refine List.Perm.trans ?_ (List.Perm.append_right _ pm);rw[Bm];refine List.Perm.trans (List.Perm.append_left _ List.perm_append_comm) ?_;rw[<-Bm,List.take_append_drop];exact .refl _
 .rintro Y M' ⟨⟨y,rfl⟩,c,ec,hcl,hc,nw,pm⟩;rw[zU];exact zn rfl ⟨M.length,c,rfl,ec,⟨by omega,hc⟩,AF _,nw,pm⟩
def dZ (h:Col many c) (hj:j<c.length):0<=c.getD j 0/\c.getD j 0<many:=by
 rw[BM,AV hj];exact h.2 _ (Bl hj)
def gP (h:Col many c) (hj:j<c.length):Col many (c.set i (c.getD j 0)):=by
 refine ⟨by rw[Bh];exact h.1,λx hx=>?_⟩;rcases List.mem_or_eq_of_mem_set hx with q|q
 .exact h.2 x q
 .rw[q,BM,AV hj];exact h.2 _ (Bl hj)
def jC {M:Mem} {n k:Nat} (h:Gen M n k) {fam many let_:Int} (m0:0<many) (m1:many<=1000) :
  Ok (IC [.ref n,.int fam,.int many,.int let_] M) λd M'=>∃ j c,d=.ref j/\M'[j]?=some (.lst (c.map D.int))/\Col many c/\M.length<=j/\Nw M M' n k:=by
 obtain ⟨hn,hk⟩:=h.lt;unfold IC;rw[zw];unfold MM;have isf:∀ (j:Int) (Y:Sd) (M:Mem),Y[1]?=some (some (.int fam))->tst (fOp kEq (zC 1) (fC (.int j))) Y M=some (decide (fam=j),M):=λj Y M e=>by
  have v4:zC 1 Y M=some (.dat (.int fam),M):=by unfold zC;rw[e]
  exact BL (zS v4 rfl (zW (HL.mpr ⟨rfl,rfl⟩)))
 have isl:∀ (Y:Sd) (M:Mem),Y[3]?=some (some (.int let_))->tst (fOp kEq (zC 3) (fC (.int 0))) Y M=some (decide (let_=0),M):=λY M e=>by
  have v4:zC 3 Y M=some (.dat (.int let_),M):=by unfold zC;rw[e]
  exact BL (zS v4 rfl (zW (HL.mpr ⟨rfl,rfl⟩)))
 have andE:∀ {a b:FT} {Y:Sd} {M:Mem} {x y:Bool},a Y M=some (x,M)->b Y M=some (y,M)->Ck a b Y M=some (x&&y,M):=λ{a b Y M x y} ha hb=>by
  unfold Ck;rw[ha];cases x <;> first|exact hb|rfl
 have orE:∀ {a b:FT} {Y:Sd} {M:Mem} {x y:Bool},a Y M=some (x,M)->b Y M=some (y,M)->CN a b Y M=some (x||y,M):=λ{a b Y M x y} ha hb=>by
  unfold CN;rw[ha];cases x <;> first|exact hb|rfl
 have new:∀ (A:Mem) (c':Ye),Nw M A n k->Col many c' -> ∃ j c,D.ref A.length=D.ref j/\(A++[MO.lst (c'.map D.int)])[j]?=some (.lst (c.map D.int))/\Col many c/\M.length<=j/\Nw M (A++[MO.lst (c'.map D.int)]) n k:=λA c' nw hc'=>
  ⟨A.length,c',rfl,zt _ _,hc',nw.len,nw.trans (nw.gen.lst _ (B8 _ _))⟩
 rw[zK,CO];refine zG (isf 0 _ _ rfl) ?_;by_cases w0:fam=0
 .rw[AB (by simpa using w0),CS];refine Ok.mono (Gq h (cnt:=many) (lo:=0) (hi:=many) (by omega) (by omega) rfl λr M' hr g=>C2 g rfl rfl m0 (by omega) λi M2 i0 i1 nx=>⟨i,rfl,i0,i1,nx⟩) ?_;rintro x M1 ⟨⟨c,rfl,hcl,hc⟩,nx⟩;refine zx ?_;rw[F9];exact new _ _ nx.nw ⟨hcl,hc⟩
 rw[AE (by simpa using w0),Cr,zU,zK,CO];refine zG (isf 1 _ _ rfl) ?_;by_cases w1:fam=1
 .rw[AB (by simpa using w1),CS];refine Ok.mono (Gq h (cnt:=many) (lo:=0) (hi:=many) (by omega) (by omega) rfl λr M' hr g=>?_) ?_
  .refine Av.mpr (Av.mpr (BC.mpr ⟨_,rfl,C2 g rfl rfl (by decide) (by decide) λi M2 i0 i1 nx=>HE.mpr (BC.mpr ⟨_,rfl,Fm.mpr ⟨m0,_,rfl,Int.emod_nonneg _ (by omega),Int.emod_lt_of_pos _ m0,nx⟩⟩)⟩))
  rintro x M1 ⟨⟨c,rfl,hcl,hc⟩,nx⟩;refine zx ?_;rw[F9];exact new _ _ nx.nw ⟨hcl,hc⟩
 rw[AE (by simpa using w1),Cr,zU,zK,CO];refine zG (isf 2 _ _ rfl) ?_;by_cases w2:fam=2
 .rw[AB (by simpa using w2)];refine Bg (d:=.int ((many+1) / 2)) (zS (x:=.dat (.int (many+1))) (zS rfl rfl rfl) rfl (zW (Lw.mpr ⟨⟨by decide,by decide⟩,rfl,rfl⟩))) ?_;obtain ⟨h0,h1⟩:0<(many+1) / 2/\(many+1) / 2<=many:=by omega
  generalize (many+1) / 2=half at h0 h1;rw[zK,za];refine Ok.mono (Gq h (cnt:=half) (lo:=0) (hi:=half) (by omega) (by omega) rfl λr M' hr g=>C2 g rfl rfl h0 (by omega) λi M2 i0 i1 nx=>⟨i,rfl,i0,i1,nx⟩) ?_;rintro x M1 ⟨⟨c,rfl,hcl,hc⟩,nx⟩;refine zx ?_;rw[zU,CS];have nw2:=nx.nw.trans (nx.gen.lst (c.map D.int) (B8 _ _));have e6:(M1++[MO.lst (c.map D.int)])[M1.length]?=some (.lst (c.map D.int)):=zt _ _;have hj:M.length<=M1.length:=nx.nw.len;generalize M1++[MO.lst (c.map D.int)]=M2 at nw2 e6;generalize M1.length=j6 at e6 hj;refine Av.mpr (BC.mpr ⟨_,rfl,?_⟩);refine Ok.mono (Gq nw2.gen (cnt:=many-half) (lo:=half) (hi:=many) (by omega) (by omega) (zS rfl rfl rfl) λr M' hr g=>?_) ?_
  .refine Av.mpr (BC.mpr ⟨_,rfl,C2 g rfl (zS (x:=.dat (.int many)) (y:=.dat (.int half)) rfl rfl rfl) (by omega) (by omega) λi M3 i0 i1 nx3=>HE.mpr ⟨_,rfl,by omega,by omega,nx3⟩⟩)
  rintro x M3 ⟨⟨c3,rfl,hcl3,hc3⟩,nx3⟩;have e6':=nx3.nw.get e6 (by omega) (by omega);refine YM (xs:=c.map D.int) (ys:=c3.map D.int) ?_ rfl (by simp;omega) (zx ?_)
  .unfold D5;dsimp only;rw[e6']
  rw[F9,<-Bq];refine new _ _ (nw2.trans nx3.nw) ⟨by simp;omega,λx hx=>?_⟩;rcases Ak.mp hx with q|q
  .have:=hc x q;omega
  .have:=hc3 x q;omega
 rw[AE (by simpa using w2),Cr,zU,zK,CO];refine zG (andE (isf 3 _ _ rfl) (isl _ _ rfl)) ?_;by_cases w3:(decide (fam=3)&&decide (let_=0))=true
 .rw[AB w3,CS];refine Ok.mono (Gq h (cnt:=many) (lo:=0) (hi:=many) (by omega) (by omega) rfl λr M' hr g=>?_) ?_
  .exact zG (zS (x:=.dat (.int ((r:Int)+1))) (y:=.dat (.int many)) (zS rfl rfl rfl) rfl (Oy m0)) ⟨_,rfl,Int.emod_nonneg _ (by omega),Int.emod_lt_of_pos _ m0,Nx.refl g⟩
  rintro x M1 ⟨⟨c,rfl,hcl,hc⟩,nx⟩;refine zx ?_;rw[F9];exact new _ _ nx.nw ⟨hcl,hc⟩
 rw[AE w3,Cr,zU,zK,CO];refine zG (isf 3 _ _ rfl) ?_;by_cases w3':fam=3
 .rw[AB (by simpa using w3'),CS];refine Ok.mono (Gq h (cnt:=many) (lo:=0) (hi:=many) (by omega) (by omega) rfl λr M' hr g=>?_) ?_
  .refine zG (Rx (b:=decide ((r:Int)=many-1)) (Pf (x:=.int r) (y:=.int 0) rfl rfl) (zS (x:=.dat (.int r)) (y:=.dat (.int (many-1))) rfl (zS rfl rfl rfl) (zW (HL.mpr ⟨rfl,rfl⟩)))) ?_;by_cases q:(r:Int)=many-1
   .rw[BB q,AB rfl];exact ⟨0,rfl,by omega,by omega,Nx.refl g⟩
   .rw[Aa q,AE (by decide)];exact ⟨r,rfl,by omega,by omega,Nx.refl g⟩
  rintro x M1 ⟨⟨c,rfl,hcl,hc⟩,nx⟩;refine zx ?_;rw[F9];exact new _ _ nx.nw ⟨hcl,hc⟩
 rw[AE (by simpa using w3'),Cr,zU,zK,CO];refine zG (orE (isf 4 _ _ rfl) (isf 7 _ _ rfl)) ?_;by_cases w4:(decide (fam=4)||decide (fam=7))=true
 .rw[AB w4,zK,za];refine C2 h rfl rfl m0 (by omega) λfar M1 a0 a1 nx1=>?_;rw[zM,zU,CS];refine Ok.mono (Gq nx1.gen (cnt:=many) (lo:=0) (hi:=many) (by omega) (by omega) rfl λr M' hr g=>?_) ?_
  .refine zG (Rx (b:=decide (fam=7)) (Pf (x:=.int (((r:Int)+far) % many)) (y:=.int far) (zS (x:=.dat (.int ((r:Int)+far))) (y:=.dat (.int many)) (zS rfl rfl rfl) rfl (Oy m0)) rfl) (zS (x:=.dat (.int fam)) (y:=.dat (.int 7)) rfl rfl (zW (HL.mpr ⟨rfl,rfl⟩)))) ?_;by_cases q:fam=7
   .rw[BB q,AB rfl];exact ⟨far,rfl,a0,a1,Nx.refl g⟩
   .rw[Aa q,AE (by decide)];exact ⟨_,rfl,Int.emod_nonneg _ (by omega),Int.emod_lt_of_pos _ m0,Nx.refl g⟩
  rintro x M2 ⟨⟨c,rfl,hcl,hc⟩,nx⟩;refine zx ?_;rw[F9];exact new _ _ (nx1.trans nx).nw ⟨hcl,hc⟩
 rw[AE w4,Cr,zU,zK,za];refine EK.mpr (zG (zV rfl (zY rfl)) ?_);refine Ok.mono (PD h m0 m1) ?_;rintro d M1 ⟨j,c,rfl,ej,cc,hj,nw1,_⟩;have cl:=cc.1;rw[zM,zU,zK,CO];refine zG (andE (isf 6 _ _ rfl) (isl _ _ rfl)) ?_;by_cases w6:(decide (fam=6)&&decide (let_=0))=true
 .rw[AB w6,zK,za];refine Av.mpr (BC.mpr ⟨_,rfl,C2 nw1.gen rfl rfl m0 (by omega) λp M2 p0 p1 nx2=>?_⟩);have ej2:=nx2.nw.get ej (by omega) (by omega);refine Ie (zv ej2) (Nk p0 (by omega)) ?_;rw[zM,zU,Ku];refine BC.mpr ⟨_,rfl,?_⟩;rw[zM];refine BC.mpr ⟨_,rfl,C2 nx2.gen rfl rfl m0 (by omega) λq M3 q0 q1 nx3=>?_⟩;have ej3:=nx3.nw.get ej2 (by omega) (by omega);rw[zM];have eq':q=((q.toNat:Nat):Int):=by omega
  refine ⟨M3.set j (.lst ((c.map D.int).set q.toNat (.int (c.getD p.toNat 0)))),?_,?_⟩
  .have:=LO (k:=q.toNat) (d:=.int (c.getD p.toNat 0)) ej3 (by rw[AH];omega);rw[<-eq']at this;exact this
  rw[zU];refine zn rfl ⟨j,c.set q.toNat (c.getD p.toNat 0),rfl,?_,gP cc (by omega),hj,?_⟩
  .rw[CK (AG.mp ej3).1,List.map_set]
  .refine ((nw1.trans nx2.nw).trans nx3.nw).setB h hj ?_;rw[<-List.map_set];exact B8 _ _
 .rw[AE w6,Cr,zU];exact zn rfl ⟨j,c,rfl,ej,cc,hj,nw1⟩
noncomputable def Eu (many:Int) (cs:Ya):List (List Int):=(List.range many.toNat).map λr=>cs.map λc=>c.getD r 0
def bB (h0:0<many) (hc:∀ c∈cs,Col many c) (hl:0<cs.length):IsM (Eu many cs) cs.length:=by
 have hlen:(Eu many cs).length=many.toNat:=by unfold Eu;simp
 refine ⟨by omega,hl,λr hr=>?_⟩;rw[hlen];unfold Eu at hr;obtain ⟨k,hk,rfl⟩:=Ac.mp hr;refine ⟨by simp,λg hg=>?_⟩;obtain ⟨c,hcm,rfl⟩:=Ac.mp hg;have:=hc c hcm;have h1:=this.1;have:=dZ this (j:=k) (by have:=Bk.mp hk;omega);omega
def QP (M:Mem) (lo:Nat) (many:Int) (js:Yj) (cs:Ya):Prop:=js.length=cs.length /\ ∀ (i:Nat) j c,js[i]?=some j->cs[i]?=some c->lo<=j/\M[j]?=some (.lst (c.map D.int))/\Col many c
def ZF (h:Gen M n k) (hm:0<many) (hm1:many<=900) (hl:0<lm) (hl1:lm<=900) :
  Ok (G0 [.ref n,.int many,.int lm] M) λd M'=>(∃ zA l,d=mD zA/\IsM zA l/\(zA.length:Int)=many/\(l:Int)=lm)/\Nw M M' n k:=by
 obtain ⟨hn,hk⟩:=h.lt;unfold G0;refine R9 ?_;rw[zw];unfold Mh;rw[zK,za];refine C2 h rfl rfl (by decide) (by decide) λfam M1 f0 f1 nx1=>?_;rw[zM,zU,zK,za];refine HS.mpr ⟨_,_,_,E4 (j:=lm) rfl (by omega) (by omega),by rw[J6];exact zm (by omega),?_⟩;refine Ok.mono (Mv (n:=lm.toNat) (I:=λi acc M'=>∃ (js:Yj) (cs:Ya),acc=js.map D.ref/\QP M' M.length many js cs/\cs.length=i/\Nw M M' n k) ?_ ⟨[],[],rfl,⟨rfl,λi j c h=>by simp at h⟩,rfl,nx1.nw⟩) ?_
 .rintro i acc M' hi ⟨js,cs,rfl,hcs,hcl,nw⟩;refine ⟨_,rfl,?_⟩;refine EK.mpr (zG (zV (d:=.ref n) rfl (zV (d:=.int fam) rfl (zV (d:=.int many) rfl (zY (d:=.int (i:Nat)) rfl)))) ?_);refine Ok.mono (jC nw.gen hm (by omega)) ?_;rintro d M2 ⟨j,c,rfl,ec,cc,hj,nw2⟩;have hle:=nw.len;rw[zM];refine ⟨js++[j],cs++[c],by simp,⟨by simp[hcs.1],λa b c' h1 h2=>?_⟩,by simp[hcl],nw.trans nw2⟩;by_cases ha:a<js.length
  .rw[AJ ha]at h1;rw[AJ (by rw[<-hcs.1];exact ha)]at h2;obtain ⟨q1,q2,q3⟩:=hcs.2 a b c' h1 h2;exact ⟨q1,nw2.get q2 (by omega) (by omega),q3⟩
  .have ha':a=js.length:=by
    have:=(AG.mp h1).1;simp at this;omega
   subst ha';rw[E2 (AF _)]at h1;rw[E2 (by rw[hcs.1];exact AF _)]at h2;simp at h1;rw[hcs.1]at h2;simp at h2;subst h1 h2;exact ⟨by omega,ec,cc⟩
 .rintro ys M2 ⟨js,cs,rfl,hcs,hcl,nw⟩;refine zx ?_;rw[zU];have hju:D.unds M2.length (js.map D.ref)=true:=JV λz hz=>by
   obtain ⟨b,hb,rfl⟩:=Ac.mp hz;obtain ⟨i,hi,rfl⟩:=List.mem_iff_getElem.mp hb;have hi':i<cs.length:=by rw[<-hcs.1];exact hi
   obtain ⟨_,q2,_⟩:=hcs.2 i js[i] cs[i] (AV hi) (AV hi');simp[D.und,(AG.mp q2).1]
  have nwA:=nw.trans (nw.gen.lst (js.map D.ref) hju);have eA:(M2++[MO.lst (js.map D.ref)])[M2.length]?=some (.lst (js.map D.ref)):=zt _ _;have hA:QP (M2++[MO.lst (js.map D.ref)]) M.length many js cs:=⟨hcs.1,λi j c h1 h2=>by
   obtain ⟨q1,q2,q3⟩:=hcs.2 i j c h1 h2;exact ⟨q1,by rw[AJ (AG.mp q2).1];exact q2,q3⟩⟩
  generalize M2++[MO.lst (js.map D.ref)]=A at nwA eA hA;generalize M2.length=j at eA;have hcol:∀ c∈cs,Col many c:=λc hc=>by
   obtain ⟨i,hi,rfl⟩:=List.mem_iff_getElem.mp hc;exact (hA.2 i (js[i]'(by rw[hA.1];exact hi)) cs[i] (AV _) (AV _)).2.2
  have hlen:(Eu many cs).length=many.toNat:=by unfold Eu;simp
  refine zn (d:=mD (Eu many cs)) ?_ ⟨⟨Ex _,nwA.len,nwA.wf0 h⟩,⟨Eu many cs,cs.length,rfl,bB hm hcol (by omega),by omega,by omega⟩,nwA.trim h⟩;refine (Gk (Ez (List.range many.toNat) (λk=>D.int k) (λk=> .tup ((cs.map λc=>c.getD k 0).map D.int)) (Ol (f:=zC 1) rfl (by omega) (by omega)) trivial (by simp;omega) λr hr=>⟨_,rfl,?_⟩) D3).trans ?_
  .have hr':=Bk.mp hr;refine (Gk (Ez (gd:=B9 (.dat (.ref j)) (js.map D.ref)) (List.range js.length) (λi=>D.ref (js.getD i 0)) (λi=> .int ((cs.getD i []).getD r 0)) ?_ ?_ (by rw[Ey,hA.1,hcl];omega) λi hi=>⟨_,rfl,?_⟩) D3).trans ?_
   .rw[show ((List.range js.length).map λi=>D.ref (js.getD i 0))=js.map D.ref by
     apply List.ext_getElem
     .simp
     .intro i h1 h2;simp at h1;simp[h1]]
    exact GZ (x:=.dat (.ref j)) rfl (zv eA)
   .exact .inl eA
   .have hi':=Bk.mp hi;have hc':i<cs.length:=by rw[<-hA.1];exact hi'
    have ej':js[i]?=some (js.getD i 0):=by rw[BM,AV hi'];rfl
    have ec':cs[i]?=some (cs.getD i []):=by rw[BM,AV hc'];rfl
    obtain ⟨_,q2,q3⟩:=hA.2 i _ _ ej' ec';have hz:=q3.1;exact zS (x:=.dat (.ref (js.getD i 0))) (y:=.dat (.int (r:Nat))) rfl rfl (Ce (zv q2) (Nk (by omega) (by omega)))
   .congr 3;rw[Ax];refine Bf D.tup ?_;apply List.ext_getElem
    .simp[hA.1]
    .intro i h1 h2;simp at h1 h2;have h2':i<cs.length:=h2;simp[h2']
  .unfold mD Eu;rw[Ax];rfl
noncomputable def NO:FS:=(AL (Eb (fB AR (zN (zC 0) zd))))
noncomputable def Ek:FF:=Ab 1 NO
noncomputable def LC:FS:=(AL (Hb [1,2] [2] (AO (zC 0)) (gN 1) zu (AO (zC 0)) (gN 2) (tst (fOp kLt (zC 1) (zC 2))) (zj (zD (toD (zC 1)) (zD (toD (zC 2)) zE)))))
noncomputable def Dj:FF:=Ab 3 LC
theorem O9 {α:Type} (enc out:α->D) (keep:α->Bool):∀ (as:List α),(∀ a∈as,∃ σ1,g (enc a) Y=some σ1/\tc σ1 M=some (keep a,M)/\(keep a=true->te σ1 M=some (.dat (out a),M)))->BP g tc te Y all none (as.map enc) M=some ((as.filter keep).map out,M)
 |[],_=>by
  rw[List.map_nil];unfold BP;rw[AB (show BN none all M from trivial)];rfl
 |a::r,h=>by
  obtain ⟨σ1,e1,e2,e3⟩:=h a Ae;have ih:=O9 (all:=all) (Y:=Y) enc out keep r λb hb=>h b (Ai _ hb);rw[AX];unfold BP;rw[AB (show BN none all M from trivial),e1];dsimp only;rw[e2];cases hk:keep a with
  |false=>
   dsimp only;rw[ih,List.filter_cons_of_neg (by simp[hk])]
  |true=>
   dsimp only;rw[show toD te σ1 M=some (out a,M) by unfold toD;rw[e3 hk]];dsimp only;rw[ih,List.filter_cons_of_pos hk];rfl
def YT {α β:Type} (as:List α) (enc:α->D) (bs:α->List β) (enc2:β->D) (keep:α->β->Bool) (out:α->β->D) (B:Nat)
  (hi:fi Y M=some (as.map enc,none,M)) (hB:∀ a∈as,(bs a).length<=B) (hz:as.length*B<=90000)
  (he:∀ a∈as,∃ σ1,fg (enc a) (An own Y)=some σ1/\fi2 σ1 M=some ((bs a).map enc2,none,M) /\ ∀ b∈bs a,∃ σ2,fg2 (enc2 b) (An own2 σ1)=some σ2/\tc2 σ2 M=some (keep a b,M)/\(keep a b=true->te σ2 M=some (.dat (out a b),M))) :
  Hb own own2 fi fg zu fi2 fg2 tc2 te Y M=some (.fl (as.flatMap λa=>((bs a).filter (keep a)).map (out a)),M):=by
 have key:∀ (r:List α) (acc:List D),(∀ a∈r,a∈as)->acc.length+r.length*B<=90000->Eo fg zu fi2 own2 fg2 tc2 te (An own Y) (as.map enc) none (r.map enc) acc M=some (acc++r.flatMap λa=>((bs a).filter (keep a)).map (out a),M):=by
  intro r;induction r with
  |nil=>
   intro acc _ _;rw[List.map_nil];unfold Eo;rw[AB (show BN none (as.map enc) M from trivial)];simp
  |cons a r ih=>
   intro acc hs hl;have ha:=hs a Ae;obtain ⟨σ1,e1,e2,e3⟩:=he a ha;have hb:=hB a ha;have hlen:(((bs a).filter (keep a)).map (out a)).length<=(bs a).length:=by rw[AH];exact GA _ _
   rw[C1,Nat.add_mul]at hl;rw[AX];unfold Eo;rw[AB (show BN none (as.map enc) M from trivial),e1];dsimp only;rw[show zu σ1 M=some (true,M)from rfl];dsimp only;rw[e2];dsimp only;rw[AB (zm (by rw[AH];omega)),O9 enc2 (out a) (keep a) (bs a) e3];dsimp only;rw[ih _ (λb hb=>hs b (Ai _ hb)) (by rw[AU];omega)];rw[List.flatMap_cons,Bm]
 unfold Hb;rw[hi];dsimp only;rw[key as [] (λ_ h=>h) (by simpa using hz)];simp
noncomputable def zL (xs:Ye):List (List Int):=xs.flatMap λa=>(xs.filter λb=>decide (a<b)).map λb=>[a,b]
def Jv (hz:xs.length<=200):Dj [tI xs] M=some (.ref M.length,M++[.lst ((zL xs).map tI)]):=by
 suffices h:Ok (Dj [tI xs] M) λd M'=>d=.ref M.length/\M'=M++[.lst ((zL xs).map tI)] by
  obtain ⟨d,M',e,rfl,rfl⟩:=h;exact e
 unfold Dj;rw[zw];unfold LC;rw[CS];have hq:xs.length*xs.length<=90000:=AW (Cq hz hz) (by decide);refine zG (YT xs D.int (λ_=>xs) D.int (λa b=>decide (a<b)) (λa b=>tI [a,b]) xs.length (IH rfl) (λ_ _=>AF _) hq λa ha=>⟨_,rfl,IH rfl,λb hb=>⟨_,rfl,?_,λ_=>?_⟩⟩) (zx ⟨rfl,?_⟩)
 .exact BL (zS (x:=.dat (.int a)) (y:=.dat (.int b)) rfl rfl (zW (Jq.mpr ⟨rfl,rfl⟩)))
 .unfold zj;rw[zV (d:=.int a) rfl (zY (d:=.int b) rfl)];dsimp only;rw[AB (zm (by simp))];rfl
 .congr 3;unfold zL;rw[List.map_flatMap];congr 1;funext a;rw[Ax];rfl
def Dx:p∈zL xs ↔ ∃ a b,p=[a,b]/\a∈xs/\b∈xs/\a<b:=by
 unfold zL;rw[F6];constructor
 .rintro ⟨a,ha,h⟩;obtain ⟨b,hb,rfl⟩:=Ac.mp h;obtain ⟨h1,h2⟩:=DD.mp hb;exact ⟨a,b,rfl,ha,h1,D1 h2⟩
 .rintro ⟨a,b,rfl,ha,hb,hlt⟩;exact ⟨a,ha,Ac.mpr ⟨b,DD.mpr ⟨hb,BB hlt⟩,rfl⟩⟩
def JN (hz:zA.length<=1000):Ek [mD zA] M=some (tI ((List.range zA.length).map λ(k:Nat)=>(k:Int)),M):=by
 refine zW ?_;unfold Ek;rw[zw];unfold NO;refine zn (d:=tI ((List.range zA.length).map λ(k:Nat)=>(k:Int))) ?_ ⟨rfl,rfl⟩;unfold Eb;rw[show fB AR (zN (zC 0) zd) ([mD zA].map some++List.replicate (1 - [mD zA].length) none) M=some (.dat (.int zA.length),M)from EW rfl];dsimp only;rw[AB ⟨by omega,by omega⟩];unfold upD tI;rw[Ax,show (zA.length:Int).toNat=zA.length by omega];rfl
noncomputable def E6 (g:Ye):List Key:=g.map Sum.inl
theorem OE:∀ {a b:Ye},E6 a=E6 b->a=b
 |[],[],_=>rfl
 |[],_::_,h=>by cases h
 |_::_,[],h=>by cases h
 |x::a,y::b,h=>by
  have h1:=(Cd h).1;have h2:=OE (Cd h).2;cases h1;rw[h2]
theorem Pa:∀ g:List Int,GH (g.map D.int)=some (E6 g)
 |[]=>rfl
 |x::r=>by
  rw[AX];unfold GH;rw[Pa r];rfl
def KO (g:Ye):tkD (tI g)=some (E6 g):=Pa g
noncomputable abbrev Bz (T:List (List Int × D)):List (D × D):=T.map λq=>(tI q.1,q.2)
noncomputable abbrev dT (T:List (List Int × D)):MO:=.dicT (Bz T)
noncomputable def zI:List (List Int × D)->List Int->Option D
 |[],_=>none
 |q::r,g=>if q.1=g then some q.2 else zI r g
noncomputable def Be (T:List (List Int × D)) (g:Ye) (v:D):List (List Int × D):=match zI T g with
 |some _=>T.map λq=>if q.1=g then (q.1,v) else q
 |none=>T++[(g,v)]
def L9 (a g:Ye):decide (tkD (tI a)=some (E6 g))=decide (a=g):=by
 rw[KO];by_cases h:a=g
 .subst h;simp
 .rw[Aa h,Aa];intro e;exact h (OE (CB e))
theorem K5 (g:Ye):∀ T:List (List Int × D),DM tkD (Bz T) (E6 g)=zI T g
 |[]=>rfl
 |q::r=>by
  have ih:=K5 g r;unfold DM at ih ⊢;unfold Bz at ih ⊢;rw[AX,Ep];rw[L9];unfold zI;by_cases h:q.1=g
  .rw[BB h,AB h];rfl
  .rw[Aa h,AE h];exact ih
theorem QY (g:Ye):∀ T:List (List Int × D),((Bz T).any λp=>decide (tkD p.1=some (E6 g)))=(zI T g).isSome
 |[]=>rfl
 |q::r=>by
  have ih:=QY g r;unfold Bz at ih ⊢;rw[AX,List.any_cons,L9];unfold zI;by_cases h:q.1=g
  .rw[BB h,AB h];rfl
  .rw[Aa h,AE h,Bool.false_or];exact ih
def Nv (T:List (List Int × D)) (g:Ye) (v:D):EZ tkD (Bz T) (E6 g) (tI g) v=Bz (Be T g v):=by
 unfold EZ Be;rw[QY];cases h:zI T g with
 |none=>
  rw[AE (by simp)];unfold Bz;rw[Bq];rfl
 |some d=>
  rw[AB (by simp)];unfold Bz;rw[Ax,Ax];apply List.map_congr_left;intro q _;show (if tkD (tI q.1)=some (E6 g) then (tI q.1,v) else (tI q.1,q.2))=(tI (if q.1=g then (q.1,v) else q).1,(if q.1=g then (q.1,v) else q).2);have hd:=L9 q.1 g;by_cases hq:q.1=g
  .rw[BB hq]at hd;rw[AB (D1 hd),AB hq]
  .rw[Aa hq]at hd;rw[AE (of_decide_eq_false hd),AE hq]
def Hu (T:List (List Int × D)) (g h:Ye) (v:D):zI (Be T g v) h=if g=h then some v else zI T h:=by
 have app:∀ (T:List (List Int × D)),zI T g=none->zI (T++[(g,v)]) h=if g=h then some v else zI T h:=by
  intro T;induction T with
  |nil=>intro _;rfl
  |cons q r ih=>
   intro e;unfold zI at e;by_cases hq:q.1=g
   .rw[AB hq]at e;cases e
   .rw[AE hq]at e;show (if q.1=h then some q.2 else zI (r++[(g,v)]) h)=if g=h then some v else if q.1=h then some q.2 else zI r h
    rw[ih e];by_cases h1:q.1=h
    .rw[AB h1,AB h1,AE (λz=>hq (h1.trans z.symm))]
    .rw[AE h1,AE h1]
 have mp:∀ (T:List (List Int × D)),(zI T g).isSome=true->zI (T.map λq=>if q.1=g then (q.1,v) else q) h=if g=h then some v else zI T h:=by
  intro T;by_cases hgh:g=h
  .subst hgh;induction T with
   |nil=>intro e;cases e
   |cons q r ih=>
    intro e;rw[AX];unfold zI;by_cases hq:q.1=g
    .rw[AB hq];simp[hq]
    .rw[AE hq,AE hq];unfold zI at e;rw[AE hq]at e;rw[ih e,AB rfl,AB rfl]
  .intro hx;clear hx;rw[AE hgh];induction T with
   |nil=>rfl
   |cons q r ih=>
    rw[AX];unfold zI;by_cases hq:q.1=g
    .have:¬ q.1=h:=λz=>hgh (hq.symm.trans z);rw[AB hq];rw[AE this,AE this];exact ih
    .rw[AE hq];by_cases h1:q.1=h
     .rw[AB h1,AB h1]
     .rw[AE h1,AE h1];exact ih
 unfold Be;cases e:zI T g with
 |none=>exact app T e
 |some d=>exact mp T (by rw[e];rfl)
def LB (T:List (List Int × D)) (g:Ye) (v:D):(Be T g v).length<=T.length+1:=by
 unfold Be;cases zI T g with
 |none=>simp
 |some d=>simp
def dgT (h:M[n]?=some (dT T)):Ff M (.dat (.ref n)) (tI g)=some (zI T g):=by
 unfold Ff;dsimp only;rw[h];dsimp only;rw[KO];dsimp only;rw[K5]
def FU (h:M[n]?=some (dT T)):Ag neg (.dat (tI g)) (.dat (.ref n)) M=some (.dat (.bl (if neg then !(zI T g).isSome else (zI T g).isSome)),M):=by
 unfold Ag;dsimp only;rw[dgT h]
def Gi (h:M[n]?=some (dT T)) (hd:zI T g=some d):BH (.dat (.ref n)) (.dat (tI g)) M=some (.dat d,M):=by
 unfold BH;dsimp only;rw[dgT h,hd]
def Ip (h:M[n]?=some (dT T)) (hz:T.length<90000):FL M n (tI g) v=some (M.set n (dT (Be T g v))):=by
 unfold FL;rw[h];dsimp only;rw[KO];dsimp only;rw[AB (by rw[AH];exact As hz (zm (by omega))),Nv]
noncomputable def La:FS:=(zX (zi 1 IL)
  (zX (BU (AO (zO Dj (zD (toD (zO Ek (zD (toD (zC 0)) zE))) zE))) (gN 2) (BU (A0 (zD (toD (fB AR (zN (fOp kIx (zC 0) (fC (.int 0))) zd))) zE)) (gN 3) (zX (zi 4 (zO Ec (zD (toD (zC 0)) (zD (toD (zC 2)) (zD (toD (zC 3)) zE)))))
  (zX (sIf (tst (fOp (Ag true) (zC 4) (zC 1))) (CC (AM zE) (zC 1) (zC 4)) Ah)
  (Az (fM z0 (fOp BH (zC 1) (zC 4)) (zD (toD (zC 2)) zE)))))))
  (AL (zC 1))))
noncomputable def ID:FF:=Ab 5 La
noncomputable def BA (zA:Ya) (ps:List (List Int × Int)) (g:Ye):List (List Int):=(ps.filter λq=>decide (setR zA q.1 q.2=g)).map (·.1)
def Jd (zA:Ya) (ps:List (List Int × Int)) (p:Ye) (x:Int) (g:Ye):BA zA (ps++[(p,x)]) g=BA zA ps g++(if setR zA p x=g then [p] else []):=by
 unfold BA;rw[List.filter_append,Bq];congr 1;by_cases h:setR zA p x=g
 .rw[AB h,List.filter_cons_of_pos (by simpa using h)];rfl
 .rw[AE h,List.filter_cons_of_neg (by simpa using h)];rfl
structure Sr (zA:Ya) (M:Mem) (jd lo:Nat) (ps:List (List Int × Int)):Prop where
 ex:∃ T:List (List Int × D),M[jd]?=some (dT T)/\T.length<=ps.length/\(∀ g d,zI T g=some d -> ∃ j,d=.ref j/\lo<j/\M[j]?=some (.lst ((BA zA ps g).map tI)))/\(∀ g,zI T g=none->BA zA ps g=[]) /\ ∀ g g' j,zI T g=some (.ref j)->zI T g'=some (.ref j)->g=g'
def TL {zA:Ya} {l:Nat} (m:IsM zA l) (hR:zA.length<64) {M:Mem} {jd lo:Nat} {ps:List (List Int × Int)} (hps:ps.length<50000) (hlo:jd<lo) (hlo2:lo<M.length) (sr:Sr zA M jd lo ps) {p:Ye} (hp:IsS zA p) {x:Int} (x0:0<=x) (x1:x<l) {y4:Option D} :
  OkS (zX (zi 4 (zO Ec (zD (toD (zC 0)) (zD (toD (zC 2)) (zD (toD (zC 3)) zE))))) (zX (sIf (tst (fOp (Ag true) (zC 4) (zC 1))) (CC (AM zE) (zC 1) (zC 4)) Ah) (Az (fM z0 (fOp BH (zC 1) (zC 4)) (zD (toD (zC 2)) zE)))) [some (mD zA),some (.ref jd),some (tI p),some (.int x),y4] M)
   λo Y' M'=>o=.nx/\(∃ y,Y'=[some (mD zA),some (.ref jd),some (tI p),some (.int x),y])/\Sr zA M' jd lo (ps++[(p,x)])/\M.length<=M'.length /\ ∀ j,j<=lo->j≠jd->M'[j]?=M[j]?:=by
 obtain ⟨T,ed,hT,h1,h2,h3⟩:=sr.ex;refine Bg (zc (zV rfl (zV rfl (zY rfl))) (KG m hR hp x0 x1)) ?_;generalize hg:setR zA p x=goal;show OkS (zX _ _ [some (mD zA),some (.ref jd),some (tI p),some (.int x),some (tI goal)] M) _;rw[zK,CO];refine zG (M:=M) (a:=!(zI T goal).isSome) (BL (zS (x:=.dat (tI goal)) (y:=.dat (.ref jd)) rfl rfl (FU ed))) ?_
 have last:∀ (A:Mem) (T':List (List Int × D)) (j:Nat),A[jd]?=some (dT T')->zI T' goal=some (.ref j)->lo<j->A[j]?=some (.lst ((BA zA ps goal).map tI))->T'.length<=ps.length+1->M.length<=A.length->(∀ j,j<=lo->j≠jd->A[j]?=M[j]?) ->
   (∀ g d,zI T' g=some d -> ∃ j,d=.ref j/\lo<j/\A[j]?=some (.lst ((BA zA ps g).map tI)))->(∀ g,zI T' g=none->BA zA ps g=[])->(∀ g g' j,zI T' g=some (.ref j)->zI T' g'=some (.ref j)->g=g') ->
   OkS (Az (fM z0 (fOp BH (zC 1) (zC 4)) (zD (toD (zC 2)) zE)) [some (mD zA),some (.ref jd),some (tI p),some (.int x),some (tI goal)] A)
    λo Y' M'=>o=.nx/\(∃ y,Y'=[some (mD zA),some (.ref jd),some (tI p),some (.int x),y])/\Sr zA M' jd lo (ps++[(p,x)])/\M.length<=M'.length /\ ∀ j,j<=lo->j≠jd->M'[j]?=M[j]?:=by
  intro A T' j ea el hj ej hz hle hfr k1 k2 k3;rw[ER];have hfl:(BA zA ps goal).length<=ps.length:=by unfold BA;rw[AH];exact GA _ _
  have jl:j<A.length:=(AG.mp ej).1;refine EN.mpr (zG (zS (x:=.dat (.ref jd)) (y:=.dat (tI goal)) rfl rfl (Gi ea el)) ⟨⟨_,Cv ej⟩,zG (zY (d:=tI p) rfl) ?_⟩);rw[Gh ej (by rw[AH];exact As (m:=95000) (by omega) (zm (by omega)))];refine ⟨rfl,⟨_,rfl⟩,⟨T',by rw[AZ (by omega)];exact ea,by simpa using hz,λg d hd=>?_,λg hd=>?_,k3⟩,by simpa using hle,λi hi hn=>by rw[AZ (by omega)];exact hfr i hi hn⟩
  .obtain ⟨j',rfl,hj',ej'⟩:=k1 g d hd;refine ⟨j',rfl,hj',?_⟩;rw[Jd,hg];by_cases hgg:goal=g
   .subst hgg;rw[el]at hd;cases hd;rw[CK jl,AB rfl,Bq];rfl
   .rw[AE hgg,Au];have:j≠j':=λz=>hgg (k3 goal g j el (by rw[z];exact hd));rw[AZ this];exact ej'
  .rw[Jd,hg,AE (λz=>by rw[<-z,el]at hd;cases hd),Au];exact k2 g hd
 cases hl:zI T goal with
 |some d=>
  obtain ⟨j,rfl,hj,ej⟩:=h1 goal d hl;rw[AE (by simp),Cr,zU];exact last M T j ed hl hj ej (by omega) (AF _) (λ_ _ _=>rfl) h1 h2 h3
 |none=>
  rw[AB (by simp)];have e0:=h2 goal hl;have jdl:jd<M.length:=(AG.mp ed).1;have ed':(M++[MO.lst ([]:List D)])[jd]?=some (dT T):=by rw[AJ jdl];exact ed
  refine ⟨.nx,[some (mD zA),some (.ref jd),some (tI p),some (.int x),some (tI goal)],(M++[MO.lst ([]:List D)]).set jd (dT (Be T goal (.ref M.length))),?_,?_⟩
  .unfold CC;rw[show toD (AM zE) [some (mD zA),some (.ref jd),some (tI p),some (.int x),some (tI goal)] M=some (.ref M.length,M++[.lst []]) by
    unfold toD AM zE;dsimp only;rw[AB (zm (by simp))]]
   dsimp only;rw[show toD (zC 1) [some (mD zA),some (.ref jd),some (tI p),some (.int x),some (tI goal)] (M++[.lst []])=some (.ref jd,M++[.lst []])from rfl];dsimp only;rw[show toD (zC 4) [some (mD zA),some (.ref jd),some (tI p),some (.int x),some (tI goal)] (M++[.lst []])=some (tI goal,M++[.lst []])from rfl];dsimp only;rw[Ip ed' (by omega)]
  rw[zU];have hput:=λg=>Hu T goal g (.ref M.length);refine last _ (Be T goal (.ref M.length)) M.length (CK (by simp;omega)) (by rw[hput,AB rfl]) hlo2 ?_ (by have:=LB T goal (.ref M.length);omega) (by simp) (λi hi hn=>?_) (λg d hd=>?_) (λg hd=>?_) (λg g' j hd hd'=>?_)
  .rw[AZ (by omega),e0];simp
  .rw[AZ (Ne.symm hn),AJ (by omega)]
  .rw[hput]at hd;by_cases hgg:goal=g
   .subst hgg;rw[AB rfl]at hd;cases hd;exact ⟨M.length,rfl,hlo2,by rw[AZ (by omega),e0];simp⟩
   .rw[AE hgg]at hd;obtain ⟨j,rfl,hj,ej⟩:=h1 g d hd;exact ⟨j,rfl,hj,by rw[AZ (by omega),AJ (AG.mp ej).1];exact ej⟩
  .rw[hput]at hd;by_cases hgg:goal=g
   .rw[AB hgg]at hd;cases hd
   .rw[AE hgg]at hd;exact h2 g hd
  .rw[hput]at hd hd';by_cases a:goal=g
   .by_cases b:goal=g'
    .rw[<-a,<-b]
    .rw[AB a]at hd;rw[AE b]at hd';cases hd;obtain ⟨j,e,_,ej⟩:=h1 g' _ hd';cases e;exact absurd (AG.mp ej).1 (BZ _)
   .rw[AE a]at hd;by_cases b:goal=g'
    .rw[AB b]at hd';cases hd';obtain ⟨j,e,_,ej⟩:=h1 g _ hd;cases e;exact absurd (AG.mp ej).1 (BZ _)
    .rw[AE b]at hd';exact h3 g g' j hd hd'
noncomputable def zH (zA:Ya):List Int:=(List.range zA.length).map λ(k:Nat)=>(k:Int)
noncomputable def zh (l:Nat) (ps:Ya):List (List Int × Int):=ps.flatMap λp=>(List.range l).map λ(x:Nat)=>(p,(x:Int))
def Kb (l:Nat) (ps:Ya):(zh l ps).length=ps.length*l:=by
 unfold zh;induction ps with
 |nil=>simp
 |cons p r ih=>rw[List.flatMap_cons,AU,ih,AH,Ey,C1,Nat.add_mul];omega
def Fu (xs:Ye):(zL xs).length<=xs.length*xs.length:=by
 unfold zL;have:∀ (r:Ye),(r.flatMap λa=>(xs.filter λb=>decide (a<b)).map λb=>[a,b]).length<=r.length*xs.length:=by
  intro r;induction r with
  |nil=>simp
  |cons a r ih=>
   rw[List.flatMap_cons,AU,AH,C1,Nat.add_mul];have:=GA (λb=>decide (a<b)) xs;omega
 exact this xs
def Ov (h:p∈zL (zH zA)):IsS zA p:=by
 obtain ⟨a,b,rfl,ha,hb,hlt⟩:=Dx.mp h;obtain ⟨i,hi,rfl⟩:=Ac.mp ha;obtain ⟨j,hj,rfl⟩:=Ac.mp hb;have:=Bk.mp hi;have:=Bk.mp hj;refine ⟨by simp;omega,by simp,λx hx=>?_⟩;simp only[AK,BO,BY]at hx;omega
def KJ {M M1:Mem} (ha:a Y M=some (ds,M)) (hg:g ds M=some (.ref j,M1)) (hj:M1[j]?=some (.lst xs)):AO (zO g a) Y M=some (xs,B9 (.dat (.ref j)) xs,M1):=by
 have:zO g a Y M=some (.dat (.ref j),M1):=by unfold zO;rw[ha];dsimp only;rw[hg]
 unfold AO;rw[this];dsimp only;rw[zv hj]
def UH {zA:Ya} {l:Nat} (m:IsM zA l) (hR:zA.length<64) (hl:l<=12) {M:Mem}:Ok (ID [mD zA] M) λd M'=>d=.ref M.length/\Sr zA M' M.length (M.length+1) (zh l (zL (zH zA)))/\M.length+1<M'.length /\ ∀ j,j<M.length->M'[j]?=M[j]?:=by
 unfold ID;rw[zw];unfold La;rw[zK,za];refine zG (M:=M++[.dicT []]) (a:=.dat (.ref M.length)) rfl ?_;rw[zM,zU,zK,DB];have hrl:(zH zA).length=zA.length:=by unfold zH;simp
 have epr:=Jv (xs:=zH zA) (by omega) (M:=M++[.dicT []]);refine ⟨_,_,_,KJ (zY (d:=tI (zH zA)) (zc (zY (d:=mD zA) rfl) (JN (by omega)))) epr (zt _ _),?_⟩;rw[show (M++[MO.dicT []]).length=M.length+1 by simp];generalize hP:zL (zH zA)=P;have hPl:P.length<=3969:=by
  rw[<-hP];have h1:=Fu (zH zA);rw[hrl]at h1;exact AW h1 (Cq (show zA.length<=63 by omega) (show zA.length<=63 by omega))
 have e1:(M++[MO.dicT []]++[MO.lst (P.map tI)])[M.length+1]?=some (.lst (P.map tI)):=by
  rw[Bm,E2 (by omega)];simp
 have e0:(M++[MO.dicT []]++[MO.lst (P.map tI)])[M.length]?=some (dT []):=by
  rw[Bm,E2 (by omega)];simp
 have ef:∀ j,j<M.length->(M++[MO.dicT []]++[MO.lst (P.map tI)])[j]?=M[j]?:=λj hj=>by rw[Bm,AJ hj]
 have el:(M++[MO.dicT []]++[MO.lst (P.map tI)]).length=M.length+2:=by simp
 generalize M++[MO.dicT []]++[MO.lst (P.map tI)]=M1 at e1 e0 ef el;refine Dk (I:=λr Y M'=>(∃ y2 y3 y4,Y=[some (mD zA),some (.ref M.length),y2,y3,y4]) /\ ∃ us vs:List (List Int),P=us++vs/\r=vs.map tI/\Sr zA M' M.length (M.length+1) (zh l us)/\M'[M.length+1]?=some (.lst (P.map tI))/\M.length+1<M'.length /\ ∀ j,j<M.length->M'[j]?=M[j]?) ?_ ?_ _ _ _ ⟨⟨_,_,_,rfl⟩,[],P,rfl,rfl,⟨[],e0,by simp,(λg d h=>by cases h),(λ_ _=>rfl),(λg g' j h=>by cases h)⟩,e1,by omega,ef⟩
 .rintro x r Y M' ⟨⟨y2,y3,y4,rfl⟩,us,vs,hab,hr,sr,ep,hlen,hfr⟩;cases vs with
  |nil=>cases hr
  |cons p vs=>
   rw[AX]at hr;obtain ⟨rfl,rfl⟩:=Cd hr;have hpm:p∈zL (zH zA):=by rw[hP,hab];simp
   have hul:us.length<3969:=by have:=Bf List.length hab;simp at this;omega
   refine ⟨.inl ep,_,rfl,?_⟩;rw[DB];refine ⟨_,_,_,E4 (GL m rfl) (by omega) (by omega),?_⟩;rw[show (l:Int).toNat=l by omega];refine IA (n:=l) (I:=λi Y M''=>(∃ y3 y4,Y=[some (mD zA),some (.ref M.length),some (tI p),y3,y4])/\Sr zA M'' M.length (M.length+1) (zh l us++(List.range i).map λ(x:Nat)=>(p,(x:Int)))/\M''[M.length+1]?=some (.lst (P.map tI))/\M.length+1<M''.length /\ ∀ j,j<M.length->M''[j]?=M[j]?) ?_ ?_ _ _ ⟨⟨_,_,rfl⟩,by simpa using sr,ep,hlen,hfr⟩
   .rintro i Y M2 hi ⟨⟨y3,y4,rfl⟩,sr2,ep2,hlen2,hfr2⟩;refine ⟨_,rfl,?_⟩;have hcount:(zh l us++(List.range i).map λ(x:Nat)=>(p,(x:Int))).length<50000:=by
     rw[AU,Kb,AH,Ey];have:=Cq (show us.length<=3968 by omega) hl;omega
    refine OkS.mono (TL m hR hcount (DK _) hlen2 sr2 (Ov hpm) (x:=(i:Int)) (by omega) (by omega)) ?_;rintro o Y' M3 ⟨rfl,⟨y,rfl⟩,sr3,hl3,hf3⟩;refine ⟨⟨_,_,rfl⟩,?_,by rw[hf3 _ (AF _) (by omega)];exact ep2,by omega,λj hj=>by rw[hf3 j (by omega) (by omega)];exact hfr2 j hj⟩;rw[List.range_succ,Bq,<-Bm];exact sr3
   .rintro Y M2 ⟨⟨y3,y4,rfl⟩,sr2,ep2,hlen2,hfr2⟩;refine ⟨⟨_,_,_,rfl⟩,us++[p],vs,by rw[hab];simp,rfl,?_,ep2,hlen2,hfr2⟩;have:zh l (us++[p])=zh l us++(List.range l).map λ(x:Nat)=>(p,(x:Int)):=by
     unfold zh;rw[List.flatMap_append];simp
    rw[this];exact sr2
 .rintro Y M' ⟨⟨y2,y3,y4,rfl⟩,us,vs,hab,hr,sr,ep,hlen,hfr⟩;have:vs=[]:=by cases vs with|nil=>rfl|cons _ _=>cases hr
  subst this;rw[Au]at hab;subst hab;refine ⟨.inl ep,?_⟩;rw[zU];exact zn rfl ⟨rfl,sr,hlen,hfr⟩
noncomputable def LN:FS:=(zX (zi 2 (zO ID (zD (toD (zC 0)) zE)))
  (zX (zi 3 (zC 1))
  (zX (zi 4 (EM true [5] (AO (zC 1)) (gN 5) zu (zC 5) (fC (.int 0))))
  (zX (CM (Gv (zC 3)) (zX (zi 6 (AM zE))
  (zX (BU (AO (zC 3)) (gN 5) (BU (AO (CH (zC 2) (zC 5) (AM zE))) (gN 7) (sIf (tst (fOp (Ag true) (zC 7) (zC 4))) (zX (CC (fOp zy (fOp BH (zC 4) (zC 5)) (fC (.int 1))) (zC 4) (zC 7))
  (Az (fM z0 (zC 6) (zD (toD (zC 7)) zE)))) Ah)))
  (zi 3 (zC 6)))) 1000)
  (AL (zC 4))))))
noncomputable def JC:FF:=Ab 8 LN
noncomputable abbrev Fd:=List (List Int × D) × List (List Int)
noncomputable def Ao (k:Int) (st:Fd) (p:Ye):Fd:=if (zI st.1 p).isSome then st else (Be st.1 p (.int k),st.2++[p])
structure Lv (M0 M:Mem) (jf jb:Nat) (st:Fd):Prop where
 f:M[jf]?=some (dT st.1)
 b:M[jb]?=some (.lst (st.2.map tI))
 len:M0.length<=M.length
 fr:∀ j,j<M0.length->j≠jf->j≠jb->M[j]?=M0[j]?
def XC (k:Int) (st:Fd) (p:Ye):(Ao k st p).1.length<=st.1.length+1/\(Ao k st p).2.length<=st.2.length+1:=by
 unfold Ao;split
 .exact ⟨by omega,by omega⟩
 .exact ⟨LB _ _ _,by simp⟩
def XD {M0:Mem} {jf jb js jd jl:Nat} {zA:Ya} {x1 x3 y7:Option D} {goal:Ye} {k:Int} {ps:Ya} (hne:jf≠jb) (h1:jf<M0.length) (h2:jb<M0.length) :
  ∀ (M:Mem) (st:Fd),Lv M0 M jf jb st->M[js]?=some (.lst (ps.map tI))->js≠jf->js≠jb->zI st.1 goal=some (.int k)->st.1.length+ps.length<=80000->st.2.length+ps.length<=80000 ->
  OkS (Cy (gN 7) (sIf (tst (fOp (Ag true) (zC 7) (zC 4))) (zX (CC (fOp zy (fOp BH (zC 4) (zC 5)) (fC (.int 1))) (zC 4) (zC 7)) (Az (fM z0 (zC 6) (zD (toD (zC 7)) zE)))) Ah) (ps.map tI) (B9 (.dat (.ref js)) (ps.map tI)) (ps.map tI) [some (mD zA),x1,some (.ref jd),x3,some (.ref jf),some (tI goal),some (.ref jb),y7] M)
   λo Y' M'=>o=.nx/\(∃ y,Y'=[some (mD zA),x1,some (.ref jd),x3,some (.ref jf),some (tI goal),some (.ref jb),y])/\Lv M0 M' jf jb (ps.foldl (Ao (k+1)) st)/\M'.length=M.length /\ ∀ j,j≠jf->j≠jb->M'[j]?=M[j]?:=by
 intro M st lv ejs n1 n2 hgl z1 z2;refine Dk (I:=λr Y M'=>(∃ y,Y=[some (mD zA),x1,some (.ref jd),x3,some (.ref jf),some (tI goal),some (.ref jb),y]) /\ ∃ us vs:List (List Int),ps=us++vs/\r=vs.map tI/\Lv M0 M' jf jb (us.foldl (Ao (k+1)) st)/\zI (us.foldl (Ao (k+1)) st).1 goal=some (.int k)/\(us.foldl (Ao (k+1)) st).1.length<=st.1.length+us.length/\(us.foldl (Ao (k+1)) st).2.length<=st.2.length+us.length/\M'.length=M.length /\ ∀ j,j≠jf->j≠jb->M'[j]?=M[j]?) ?_ ?_ _ _ _ ⟨⟨_,rfl⟩,[],ps,rfl,rfl,lv,hgl,by simp,by simp,rfl,λ_ _ _=>rfl⟩
 .rintro x r Y M' ⟨⟨y,rfl⟩,us,vs,hab,hr,lv',hg',l1,l2,hl,hfr⟩;cases vs with
  |nil=>cases hr
  |cons p vs=>
   rw[AX]at hr;obtain ⟨rfl,rfl⟩:=Cd hr;have hul:us.length<ps.length:=by rw[hab];simp
   refine ⟨.inl (by rw[hfr js n1 n2];exact ejs),_,rfl,?_⟩;have hfold:(us++[p]).foldl (Ao (k+1)) st=Ao (k+1) (us.foldl (Ao (k+1)) st) p:=by rw[EE];rfl
   generalize us.foldl (Ao (k+1)) st=st' at lv' hg' l1 l2 hfold;have al:=XC (k+1) st' p;rw[CO];refine zG (M:=M') (a:=!(zI st'.1 p).isSome) (BL (zS (x:=.dat (tI p)) (y:=.dat (.ref jf)) rfl rfl (FU lv'.f))) ?_;cases hlk:zI st'.1 p with
   |some d=>
    have ea:Ao (k+1) st' p=st':=by unfold Ao;rw[hlk];rfl
    rw[AE (by simp),Cr];refine ⟨⟨_,rfl⟩,us++[p],vs,by rw[hab];simp,rfl,?_⟩;rw[hfold,ea];exact ⟨lv',hg',by simp;omega,by simp;omega,hl,hfr⟩
   |none=>
    have ea:Ao (k+1) st' p=(Be st'.1 p (.int (k+1)),st'.2++[p]):=by unfold Ao;rw[hlk];rfl
    have hgp:p≠goal:=λz=>by rw[z,hg']at hlk;cases hlk
    rw[AB (by simp),zK];have ev:fOp zy (fOp BH (zC 4) (zC 5)) (fC (.int 1)) [some (mD zA),x1,some (.ref jd),x3,some (.ref jf),some (tI goal),some (.ref jb),some (tI p)] M'=some (.dat (.int (k+1)),M'):=zS (x:=.dat (.int k)) (zS (x:=.dat (.ref jf)) (y:=.dat (tI goal)) rfl rfl (Gi lv'.f hg')) rfl rfl;have hd:OkS (CC (fOp zy (fOp BH (zC 4) (zC 5)) (fC (.int 1))) (zC 4) (zC 7) [some (mD zA),x1,some (.ref jd),x3,some (.ref jf),some (tI goal),some (.ref jb),some (tI p)] M') λo Y' M2=>o=.nx/\Y'=[some (mD zA),x1,some (.ref jd),x3,some (.ref jf),some (tI goal),some (.ref jb),some (tI p)]/\M2=M'.set jf (dT (Be st'.1 p (.int (k+1)))):=by
     refine ⟨.nx,_,_,?_,rfl,rfl,rfl⟩;unfold CC;rw[show toD (fOp zy (fOp BH (zC 4) (zC 5)) (fC (.int 1))) [some (mD zA),x1,some (.ref jd),x3,some (.ref jf),some (tI goal),some (.ref jb),some (tI p)] M'=some (.int (k+1),M') by unfold toD;rw[ev]];dsimp only;rw[show toD (zC 4) [some (mD zA),x1,some (.ref jd),x3,some (.ref jf),some (tI goal),some (.ref jb),some (tI p)] M'=some (.ref jf,M')from rfl];dsimp only;rw[show toD (zC 7) [some (mD zA),x1,some (.ref jd),x3,some (.ref jf),some (tI goal),some (.ref jb),some (tI p)] M'=some (tI p,M')from rfl];dsimp only;rw[Ip lv'.f (by omega)]
    refine OkS.mono hd ?_;rintro o Y' M2 ⟨rfl,rfl,rfl⟩;rw[zU,ER];have eb:(M'.set jf (dT (Be st'.1 p (.int (k+1)))))[jb]?=some (.lst (st'.2.map tI)):=by rw[AZ hne];exact lv'.b
    refine EN.mpr (BC.mpr ⟨_,rfl,⟨_,Cv eb⟩,zG (zY (d:=tI p) rfl) ?_⟩);rw[Gh eb (by rw[AH];exact As (m:=95000) (by omega) (zm (by omega)))];have jfl:jf<M'.length:=As h1 lv'.len;have jbl:jb<M'.length:=As h2 lv'.len;refine ⟨⟨_,rfl⟩,us++[p],vs,by rw[hab];simp,rfl,?_⟩;rw[hfold];refine ⟨?_,?_,by simp;omega,by simp;omega,by simp[hl],λj q1 q2=>by rw[AZ (Ne.symm q2),AZ (Ne.symm q1)];exact hfr j q1 q2⟩
    .rw[ea];refine ⟨by rw[AZ (Ne.symm hne),CK jfl],by rw[CK (by simpa using jbl),Bq];rfl,by simpa using lv'.len,λj q0 q1 q2=>by rw[AZ (Ne.symm q2),AZ (Ne.symm q1)];exact lv'.fr j q0 q1 q2⟩
    .rw[ea];rw[Hu,AE hgp];exact hg'
 .rintro Y M' ⟨⟨y,rfl⟩,us,vs,hab,hr,lv',hg',l1,l2,hl,hfr⟩;have:vs=[]:=by cases vs with|nil=>rfl|cons _ _=>cases hr
  subst this;rw[Au]at hab;subst hab;exact ⟨.inl (by rw[hfr js n1 n2];exact ejs),rfl,⟨_,rfl⟩,lv',hl,hfr⟩
def Uc {f g:FE} {Y:Sd} {M:Mem} {n:Nat} {T:List (List Int × D)} {k:Ye} (hf:f Y M=some (.dat (.ref n),M)) (hn:M[n]?=some (dT T)) (hg:g Y M=some (.dat (tI k),M)):CH f g (AM zE) Y M=some (.dat ((zI T k).getD (.ref M.length)),M++[.lst []]):=by
 have nl:n<M.length:=(AG.mp hn).1;unfold CH;rw[show toD f Y M=some (.ref n,M) by unfold toD;rw[hf]];dsimp only;rw[hn];rw[show toD g Y M=some (tI k,M) by unfold toD;rw[hg]];dsimp only;rw[show toD (AM zE) Y M=some (.ref M.length,M++[.lst []]) by
  unfold toD AM zE;dsimp only;rw[AB (zm (by simp))]]
 dsimp only;rw[dgT (g:=k) (show (M++[MO.lst ([]:List D)])[n]?=some (dT T) by rw[AJ nl];exact hn)]
noncomputable def BF (src:Y1) (k:Int) (gs:Ya) (st:Fd):Fd:=gs.foldl (λst g=>(src g).foldl (Ao (k+1)) st) st
def Sl {k:Int} {st:Fd} {p g:Ye} {d:D} (h:zI st.1 g=some d):zI (Ao k st p).1 g=some d:=by
 unfold Ao;split
 .exact h
 .rename_i q;rw[Hu,AE (λz=>q (by rw[z,h];rfl))];exact h
theorem QG {k:Int} {g:Ye} {d:D}:∀ (ps:Ya) {st:Fd},zI st.1 g=some d->zI (ps.foldl (Ao k) st).1 g=some d
 |[],_,h=>h
 |p::r,_,h=>QG r (Sl h)
def cJ (M:Mem) (Ts:List (List Int × D)) (jf jb:Nat) (src:Y1):Prop:=∀ g,(∃ j,zI Ts g=some (.ref j)/\j≠jf/\j≠jb/\M[j]?=some (.lst ((src g).map tI)))\/(zI Ts g=none/\src g=[])
def Ti {M0:Mem} {jf jb jd jl:Nat} {zA:Ya} {x1 y5 y7:Option D} {k:Int} {gs:Ya} {src:Y1} {Ts:List (List Int × D)} (hne:jf≠jb) (h1:jf<M0.length) (h2:jb<M0.length) (hd:M0[jd]?=some (dT Ts)) (d1:jd≠jf) (d2:jd≠jb) (hl:M0[jl]?=some (.lst (gs.map tI))) (l1:jl≠jf) (l2:jl≠jb) (hs:cJ M0 Ts jf jb src) (B:Nat) (hB:∀ g∈gs,(src g).length<=B)
  {st:Fd} (hg:∀ g∈gs,zI st.1 g=some (.int k)) (Z:Nat) (hZB:Z+B<=80000) (hZ:∀ us vs,gs=us++vs->(BF src k us st).1.length<=Z/\(BF src k us st).2.length<=Z) (lv:Lv M0 M0 jf jb st) :
  OkS (Cy (gN 5) (BU (AO (CH (zC 2) (zC 5) (AM zE))) (gN 7) (sIf (tst (fOp (Ag true) (zC 7) (zC 4))) (zX (CC (fOp zy (fOp BH (zC 4) (zC 5)) (fC (.int 1))) (zC 4) (zC 7)) (Az (fM z0 (zC 6) (zD (toD (zC 7)) zE)))) Ah)) (gs.map tI) (B9 (.dat (.ref jl)) (gs.map tI)) (gs.map tI) [some (mD zA),x1,some (.ref jd),some (.ref jl),some (.ref jf),y5,some (.ref jb),y7] M0)
   λo Y' M'=>o=.nx/\(∃ y5 y7,Y'=[some (mD zA),x1,some (.ref jd),some (.ref jl),some (.ref jf),y5,some (.ref jb),y7])/\Lv M0 M' jf jb (BF src k gs st):=by
 refine Dk (I:=λr Y M'=>(∃ y5 y7,Y=[some (mD zA),x1,some (.ref jd),some (.ref jl),some (.ref jf),y5,some (.ref jb),y7]) /\ ∃ us vs:List (List Int),gs=us++vs/\r=vs.map tI/\Lv M0 M' jf jb (BF src k us st)/\(∀ g∈gs,zI (BF src k us st).1 g=some (.int k))) ?_ ?_ _ _ _ ⟨⟨_,_,rfl⟩,[],gs,rfl,rfl,lv,hg⟩
 .rintro x r Y M' ⟨⟨y5,y7,rfl⟩,us,vs,hab,hr,lv',hg'⟩;cases vs with
  |nil=>cases hr
  |cons g vs=>
   rw[AX]at hr;obtain ⟨rfl,rfl⟩:=Cd hr;have hgm:g∈gs:=by rw[hab];simp
   have hsb:=hB g hgm;obtain ⟨b1,b2⟩:=hZ us (g::vs) hab;have keep:∀ {j:Nat} {u:MO},M0[j]?=some u->j≠jf->j≠jb->M'[j]?=some u:=λ{j u} e q1 q2=>(lv'.fr j (AG.mp e).1 q1 q2).trans e;refine ⟨.inl (keep hl l1 l2),_,rfl,?_⟩;have hfold:BF src k (us++[g]) st=(src g).foldl (Ao (k+1)) (BF src k us st):=by unfold BF;rw[EE];rfl
   generalize BF src k us st=st' at lv' hg' b1 b2 hfold;have e2:=Uc (f:=zC 2) (g:=zC 5) (Y:=[some (mD zA),x1,some (.ref jd),some (.ref jl),some (.ref jf),some (tI g),some (.ref jb),y7]) (M:=M') (k:=g) rfl (keep hd d1 d2) rfl;have lvA:Lv M0 (M'++[.lst []]) jf jb st':=by
    have f1:=(AG.mp lv'.f).1;have f2:=(AG.mp lv'.b).1;have f3:=lv'.len;exact ⟨by rw[AJ f1];exact lv'.f,by rw[AJ f2];exact lv'.b,by simp;omega,λj q0 q1 q2=>by rw[AJ (by omega)];exact lv'.fr j q0 q1 q2⟩
   obtain ⟨js,ejs,n1,n2,el⟩:∃ js,(zI Ts g).getD (.ref M'.length)=.ref js/\js≠jf/\js≠jb/\(M'++[MO.lst ([]:List D)])[js]?=some (.lst ((src g).map tI)):=by
    rcases hs g with ⟨j,e,q1,q2,q3⟩|⟨e,q⟩
    .have:=keep q3 q1 q2;exact ⟨j,by rw[e];rfl,q1,q2,by rw[AJ (AG.mp this).1];exact this⟩
    .have:=lv'.len;exact ⟨M'.length,by rw[e];rfl,by omega,by omega,by rw[q];simp⟩
   rw[ejs]at e2;rw[DB];refine ⟨_,_,_,(show AO (CH (zC 2) (zC 5) (AM zE)) [some (mD zA),x1,some (.ref jd),some (.ref jl),some (.ref jf),some (tI g),some (.ref jb),y7] M'=some ((src g).map tI,B9 (.dat (.ref js)) ((src g).map tI),M'++[.lst []]) by unfold AO;rw[e2];dsimp only;rw[zv el]),?_⟩;refine OkS.mono (XD (jl:=jl) (k:=k) hne h1 h2 _ st' lvA el n1 n2 (hg' g hgm) (by omega) (by omega)) ?_;rintro o Y' M2 ⟨rfl,⟨y,rfl⟩,lv2,_,_⟩;refine ⟨⟨_,_,rfl⟩,us++[g],vs,by rw[hab];simp,rfl,?_⟩;rw[hfold];exact ⟨lv2,λg' hg''=>QG _ (hg' g' hg'')⟩
 .rintro Y M' ⟨⟨y5,y7,rfl⟩,us,vs,hab,hr,lv',hg'⟩;have:vs=[]:=by cases vs with|nil=>rfl|cons _ _=>cases hr
  subst this;rw[Au]at hab;subst hab;have keep:∀ {j:Nat} {u:MO},M0[j]?=some u->j≠jf->j≠jb->M'[j]?=some u:=λ{j u} e q1 q2=>(lv'.fr j (AG.mp e).1 q1 q2).trans e;exact ⟨.inl (keep hl l1 l2),rfl,⟨_,_,rfl⟩,lv'⟩
def XY (k:Int) (st:Fd) (p t:Ye):zI (Ao k st p).1 t=(if (zI st.1 t).isSome then zI st.1 t else if t=p then some (.int k) else none)/\(t∈(Ao k st p).2 ↔ t∈st.2\/(zI st.1 t=none/\t=p)):=by
 unfold Ao;by_cases h:(zI st.1 p).isSome=true
 .rw[AB h];constructor
  .by_cases ht:(zI st.1 t).isSome=true
   .rw[AB ht]
   .rw[AE ht,AE (λz=>ht (by rw[z];exact h))];cases e:zI st.1 t with
    |none=>rfl
    |some d=>rw[e]at ht;simp at ht
  .constructor
   .exact .inl
   .rintro (q|⟨q,rfl⟩)
    .exact q
    .rw[q]at h;cases h
 .rw[AE h];have hn:zI st.1 p=none:=by
   cases e:zI st.1 p with
   |none=>rfl
   |some d=>rw[e]at h;simp at h
  constructor
  .rw[Hu];by_cases ht:p=t
   .subst ht;rw[AB rfl,AE h,AB rfl]
   .rw[AE ht];by_cases hs:(zI st.1 t).isSome=true
    .rw[AB hs]
    .rw[AE hs,AE (λz=>ht z.symm)];cases e:zI st.1 t with
     |none=>rfl
     |some d=>rw[e]at hs;simp at hs
  .rw[Ak,Bd];constructor
   .rintro (q|rfl)
    .exact .inl q
    .exact .inr ⟨hn,rfl⟩
   .rintro (q|⟨_,q⟩)
    .exact .inl q
    .exact .inr q
theorem Qx (k:Int):∀ (ps:Ya) (st:Fd) (t:Ye),zI (ps.foldl (Ao k) st).1 t=(if (zI st.1 t).isSome then zI st.1 t else if t∈ps then some (.int k) else none)/\(t∈(ps.foldl (Ao k) st).2 ↔ t∈st.2\/(zI st.1 t=none/\t∈ps))
 |[],st,t=>by
  constructor
  .by_cases h:(zI st.1 t).isSome=true
   .rw[AB h];rfl
   .rw[AE h,AE (by simp)];cases e:zI st.1 t with
    |none=>exact e
    |some d=>rw[e]at h;simp at h
  .simp
 |p::r,st,t=>by
  obtain ⟨a1,a2⟩:=XY k st p t;obtain ⟨b1,b2⟩:=Qx k r (Ao k st p) t;rw[List.foldl_cons,b1,b2,a2,a1];by_cases h:(zI st.1 t).isSome=true
  .rw[AB h,AB h,AB h];refine ⟨rfl,?_⟩;have hn:¬ zI st.1 t=none:=λz=>by rw[z]at h;cases h
   simp[hn]
  .have hn:zI st.1 t=none:=by
    cases e:zI st.1 t with
    |none=>rfl
    |some d=>rw[e]at h;simp at h
   rw[AE h,AE h];by_cases hp:t=p
   .rw[AB hp];refine ⟨?_,?_⟩
    .rw[AB (show (some (D.int k)).isSome=true from rfl),AB (by rw[hp];exact Ae)]
    .simp[hn,hp]
   .rw[AE hp];refine ⟨?_,?_⟩
    .rw[AE (by simp)];by_cases hr:t∈r
     .rw[AB hr,AB (Ai _ hr)]
     .rw[AE hr,AE (by simp[hp,hr])]
    .simp[hn,hp]
def Oo (src:Y1) (k:Int) (gs:Ya) (st:Fd) (t:Ye):zI (BF src k gs st).1 t=(if (zI st.1 t).isSome then zI st.1 t else if t∈gs.flatMap src then some (.int (k+1)) else none)/\(t∈(BF src k gs st).2 ↔ t∈st.2\/(zI st.1 t=none/\t∈gs.flatMap src)):=by
 have:∀ (gs:Ya) (st:Fd),BF src k gs st=(gs.flatMap src).foldl (Ao (k+1)) st:=by
  intro gs;induction gs with
  |nil=>intro st;rfl
  |cons g r ih=>
   intro st;show BF src k r ((src g).foldl (Ao (k+1)) st)=_;rw[ih,List.flatMap_cons,EE]
 rw[this gs st];exact Qx (k+1) (gs.flatMap src) st t
def Rch (zA:Ya) (l:Nat) (G:Yq) (t:Ye) (n:Nat):Prop:=∃ w:List Int,w.length=n/\(∀ x∈w,0<=x/\x<(l:Int))/\G (broR zA t w)
def Dst (zA:Ya) (l:Nat) (G:Yq) (t:Ye) (n:Nat):Prop:=Rch zA l G t n /\ ∀ m,m<n -> ¬ Rch zA l G t m
def Jm:Rch zA l G t (n+1) ↔ ∃ x:Int,(0<=x/\x<(l:Int))/\Rch zA l G (setR zA t x) n:=by
 constructor
 .rintro ⟨w,hw,hb,hl⟩;cases w with
  |nil=>cases hw
  |cons x w=>exact ⟨x,hb x Ae,w,by simpa using hw,λy hy=>hb y (Ai _ hy),hl⟩
 .rintro ⟨x,hx,w,hw,hb,hl⟩;exact ⟨x::w,by simp[hw],λy hy=>by rcases AK.mp hy with rfl|q;exact hx;exact hb y q,hl⟩
def LJ:Rch zA l G t 0 ↔ G t:=by
 constructor
 .rintro ⟨w,hw,_,hl⟩;have:w=[]:=List.length_eq_zero_iff.mp hw;subst this;exact hl
 .intro h;exact ⟨[],rfl,(λ_ h=>by cases h),h⟩
def Dv:Dst zA l G t 0 ↔ G t:=by
 unfold Dst;rw[LJ];exact ⟨λh=>h.1,λh=>⟨h,λm hm=>by omega⟩⟩
def E7:Dst zA l G t (n+1) ↔ (∀ m,m<=n -> ¬ Rch zA l G t m) /\ ∃ x:Int,(0<=x/\x<(l:Int))/\Dst zA l G (setR zA t x) n:=by
 constructor
 .rintro ⟨h1,h2⟩;obtain ⟨x,hx,hr⟩:=Jm.mp h1;exact ⟨λm hm=>h2 m (by omega),x,hx,hr,λm hm hq=>h2 (m+1) (by omega) (Jm.mpr ⟨x,hx,hq⟩)⟩
 .rintro ⟨h1,x,hx,hr,_⟩;exact ⟨Jm.mpr ⟨x,hx,hr⟩,λm hm=>h1 m (by omega)⟩
def Qg:∀ n,Rch zA l G t n -> ∃ m,m<=n/\Dst zA l G t m:=by
 intro n;induction n using Nat.strongRecOn with
 |ind n ih=>
  intro h;by_cases q:∃ m,m<n/\Rch zA l G t m
  .obtain ⟨m,hm,hr⟩:=q;obtain ⟨m',h1,h2⟩:=ih m hm hr;exact ⟨m',by omega,h2⟩
  .exact ⟨n,AF _,h,λm hm hr=>q ⟨m,hm,hr⟩⟩
def ES (h1:Dst zA l G t a) (h2:Dst zA l G t b):a=b:=by
 rcases Nat.lt_trichotomy a b with q|q|q
 .exact absurd h1.1 (h2.2 a q)
 .exact q
 .exact absurd h2.1 (h1.2 b q)
def EA (zA:Ya) (l:Nat) (G:Yq) (U:Yq) (k:Nat) (fd:List (List Int × D)) (lev:Ya):Prop:=(∀ t d,zI fd t=some d ↔ U t /\ ∃ n:Nat,n<=k/\Dst zA l G t n/\d=.int (n:Int)) /\ ∀ t,t∈lev ↔ U t/\Dst zA l G t k
def Mk (h:EA zA l G U k fd lev) (u:U t):zI fd t=none ↔ ∀ m,m<=k -> ¬ Rch zA l G t m:=by
 constructor
 .intro e m hm hr;obtain ⟨n,hn,hd⟩:=Qg m hr;rw[(h.1 t (.int (n:Int))).mpr ⟨u,n,by omega,hd,rfl⟩]at e;cases e
 .intro q;cases e:zI fd t with
  |none=>rfl
  |some d=>
   obtain ⟨_,n,hn,hd,_⟩:=(h.1 t d).mp e;exact absurd hd.1 (q n hn)
def iM {zA:Ya} {l:Nat} {U P:Yq} {src:Y1} (hs:∀ g t,t∈src g ↔ P t /\ ∃ x:Int,(0<=x/\x<(l:Int))/\setR zA t x=g) (hP:∀ t,P t->U t) (hU:∀ t n,U t -> ¬ G t->Rch zA l G t n->P t) (hc:∀ t (x:Int),U t->0<=x/\x<(l:Int)->U (setR zA t x))
  {k:Nat} {fd:List (List Int × D)} {lev:Ya} (h:EA zA l G U k fd lev):EA zA l G U (k+1) (BF src (k:Int) lev (fd,[])).1 (BF src (k:Int) lev (fd,[])).2:=by
 have key:∀ t,(zI fd t=none/\t∈lev.flatMap src) ↔ U t/\Dst zA l G t (k+1):=by
  intro t;constructor
  .rintro ⟨e,hm⟩;obtain ⟨g,hg,ht⟩:=F6.mp hm;obtain ⟨p,x,hx,hq⟩:=(hs g t).mp ht;have u:=hP t p;refine ⟨u,E7.mpr ⟨(Mk h u).mp e,x,hx,?_⟩⟩;rw[hq];exact ((h.2 g).mp hg).2
  .rintro ⟨u,hd⟩;obtain ⟨q,x,hx,hr⟩:=E7.mp hd;refine ⟨(Mk h u).mpr q,F6.mpr ⟨setR zA t x,(h.2 _).mpr ⟨hc t x u hx,hr⟩,(hs _ t).mpr ⟨hU t _ u ?_ hd.1,x,hx,rfl⟩⟩⟩;intro h1;exact q 0 (BD _) (LJ.mpr h1)
 constructor
 .intro t d;rw[(Oo src (k:Int) lev (fd,[]) t).1];cases e:zI fd t with
  |some d'=>
   rw[AB (show (some d').isSome=true from rfl)];obtain ⟨u,n,hn,hd,rfl⟩:=(h.1 t d').mp e;constructor
   .intro z;cases z;exact ⟨u,n,by omega,hd,rfl⟩
   .rintro ⟨_,m,_,hm,rfl⟩;rw[ES hm hd]
  |none=>
   rw[AE (by simp)];by_cases hm:t∈lev.flatMap src
   .rw[AB hm];obtain ⟨u,hd⟩:=(key t).mp ⟨e,hm⟩;constructor
    .intro z;cases z;exact ⟨u,k+1,AF _,hd,by simp⟩
    .rintro ⟨_,m,_,hm',rfl⟩;rw[ES hm' hd];simp
   .rw[AE hm];constructor
    .intro z;cases z
    .rintro ⟨u,m,hk,hd,rfl⟩;exfalso;by_cases hmk:m<=k
     .exact (Mk h u).mp e m hmk hd.1
     .have:m=k+1:=by omega
      subst this;exact hm ((key t).mpr ⟨u,hd⟩).2
 .intro t;rw[(Oo src (k:Int) lev (fd,[]) t).2];rw[key t];simp
def UB {zA:Ya} {l:Nat} {G:Yq} {U:Yq} (hc:∀ t (x:Int),U t->0<=x/\x<(l:Int)->U (setR zA t x)) {k:Nat} {fd:List (List Int × D)} (h:EA zA l G U k fd []) (t:Ye) (d:D):zI fd t=some d ↔ U t /\ ∃ n:Nat,Dst zA l G t n/\d=.int (n:Int):=by
 have far:∀ n t,U t -> ¬ Dst zA l G t (k+n):=by
  intro n;induction n with
  |zero=>intro t u hd;exact absurd ((h.2 t).mpr ⟨u,hd⟩) (by simp)
  |succ n ih=>
   intro t u hd;obtain ⟨_,x,hx,hr⟩:=E7.mp (show Dst zA l G t ((k+n)+1)from hd);exact ih _ (hc t x u hx) hr
 rw[h.1 t d];constructor
 .rintro ⟨u,n,_,a,b⟩;exact ⟨u,n,a,b⟩
 .rintro ⟨u,n,a,b⟩;refine ⟨u,n,?_,a,b⟩;by_cases q:n<=k
  .exact q
  .exfalso;have e:n=k+(n-k):=by omega
   rw[e]at a;exact far _ t u a
def Th (zA:Ya) (t:Ye):Prop:=IsS zA t/\t.length<=2
noncomputable def CI (zA:Ya) (l:Nat) (g:Ye):List (List Int):=BA zA (zh l (zL (zH zA))) g
def d8 (g t:Ye):t∈CI zA l g ↔ t∈zL (zH zA) /\ ∃ x:Int,(0<=x/\x<(l:Int))/\setR zA t x=g:=by
 unfold CI BA zh;simp only[Ac,DD,F6,Bk,Bx];constructor
 .rintro ⟨q,⟨⟨p,hp,k,hk,rfl⟩,hq⟩,rfl⟩;exact ⟨hp,(k:Int),⟨by omega,by omega⟩,hq⟩
 .rintro ⟨hp,x,⟨x0,x1⟩,hq⟩;refine ⟨(t,x),⟨⟨t,hp,x.toNat,by omega,?_⟩,hq⟩,rfl⟩;rw[show ((x.toNat:Nat):Int)=x by omega]
def Ea:x∈zH zA ↔ 0<=x/\x<(zA.length:Int):=by
 unfold zH;simp only[Ac,Bk];constructor
 .rintro ⟨k,hk,rfl⟩;omega
 .rintro ⟨h0,h1⟩;exact ⟨x.toNat,by omega,by omega⟩
def EB (t:Ye) (h:t∈zL (zH zA)):Th zA t:=by
 refine ⟨Ov h,?_⟩;obtain ⟨a,b,rfl,_⟩:=Dx.mp h;exact AF _
def Nn (t:Ye) (h:Th zA t) (h1:t.length≠1):t∈zL (zH zA):=by
 obtain ⟨⟨pw,n0,hm⟩,h2⟩:=h;match t,pw,n0,hm,h1,h2 with
 |[a,b],pw,_,hm,_,_=>
  exact Dx.mpr ⟨a,b,rfl,Ea.mpr (hm a (by simp)),Ea.mpr (hm b (by simp)),by simpa using pw⟩
 |[a],_,_,_,h1,_=>exact absurd rfl h1
 |[],_,n0,_,_,_=>cases n0
 |_::_::_::_,_,_,_,_,h2=>simp at h2
def D8 (m:IsM zA l) (t:Ye) (x:Int) (h:Th zA t) (hx:0<=x/\x<(l:Int)):Th zA (setR zA t x):=by
 refine ⟨m.setR h.1 hx.1 hx.2,?_⟩;have:=RC (t.map λh=>BS zA h x);rw[AH]at this;exact AW this h.2
def FJ (zA:Ya) (G:Yq):Prop:=(∀ t,Th zA t->t.length=1->G t) \/ ∀ t,t.length=1 -> ¬ G t
theorem RT (m:IsM zA l):∀ (w t:Ye),Th zA t->t.length=1->(∀ x∈w,0<=x/\x<(l:Int))->(broR zA t w).length=1
 |[],_,_,h,_=>h
 |x::w,t,u,h,hw=>by
  have hx:=hw x Ae;have u':=D8 m t x u hx;refine RT m w (setR zA t x) u' ?_ λy hy=>hw y (Ai _ hy);have h1:=RC (t.map λh=>BS zA h x);rw[AH,h]at h1;have h2:=u'.1.n0;have h3:(setR zA t x).length<=1:=h1;omega
def Kt (m:IsM zA l) (o:FJ zA G) (t:Ye) (n:Nat) (u:Th zA t) (g:¬ G t) (r:Rch zA l G t n):t∈zL (zH zA):=by
 refine Nn t u λh1=>?_;rcases o with o|o
 .exact g (o t u h1)
 .obtain ⟨w,_,hw,hg⟩:=r;exact o _ (RT m w t u h1 hw) hg
def RG (m:IsM zA l) (o:FJ zA G) (h:EA zA l G (Th zA) k fd lev):EA zA l G (Th zA) (k+1) (BF (CI zA l) (k:Int) lev (fd,[])).1 (BF (CI zA l) (k:Int) lev (fd,[])).2 :=
 iM (P:=λt=>t∈zL (zH zA)) d8 EB (Kt m o) (D8 m) h
def Xb (hts:∀ t,t∈ts ↔ Th zA t/\G t) (h:∀ t d,zI fd t=some d ↔ t∈ts/\d=.int 0):EA zA l G (Th zA) 0 fd ts:=by
 have key:∀ t,t∈ts ↔ Th zA t/\Dst zA l G t 0:=λt=>by rw[Dv,hts]
 refine ⟨λt d=>?_,key⟩;rw[h t d,key t];constructor
 .rintro ⟨⟨a,b⟩,rfl⟩;exact ⟨a,0,AF _,b,by simp⟩
 .rintro ⟨a,n,hn,b,rfl⟩;have:n=0:=by omega
  subst this;exact ⟨⟨a,b⟩,by simp⟩
abbrev One (t:Ye):Prop:=t.length=1
def YC (t:Ye):t∈(zH zA).map (λr=>[r]) ↔ Th zA t/\One t:=by
 rw[Ac];constructor
 .rintro ⟨r,hr,rfl⟩;have:=Ea.mp hr;refine ⟨⟨⟨by simp,by simp,λx hx=>?_⟩,by simp⟩,rfl⟩;rw[Bd]at hx;subst hx;exact this
 .rintro ⟨⟨s,_⟩,h1⟩;obtain ⟨r,rfl⟩:=List.length_eq_one_iff.mp h1;exact ⟨r,Ea.mpr (s.mem r (by simp)),rfl⟩
def Jc:FJ zA One:=.inl λ_ _ h=>h
def whole (m:IsM zA l) (h:EA zA l G (Th zA) k fd []) (t:Ye) (d:D):zI fd t=some d ↔ Th zA t /\ ∃ n:Nat,Dst zA l G t n/\d=.int (n:Int):=UB (D8 m) h t d
theorem Fe {α:Type} [DecidableEq α]:∀ (xs ys:List α),xs.Nodup->(∀ x∈xs,x∈ys)->xs.length<=ys.length
 |[],_,_,_=>BD _
 |x::r,ys,h,hm=>by
  obtain ⟨h1,h2⟩:=List.nodup_cons.mp h;have hx:x∈ys:=hm x Ae;have:=Fe r (ys.erase x) h2 λy hy=>(List.mem_erase_of_ne (λz=>h1 (by rw[<-z];exact hy))).mpr (hm y (Ai _ hy));rw[List.length_erase_of_mem hx]at this;have:=List.length_pos_of_mem hx;simp only[C1];omega
theorem Gs:∀ {T:List (List Int × D)} {g:Ye},(zI T g).isSome=true ↔ g∈T.map (·.1)
 |[],g=>by simp[zI]
 |q::r,g=>by
  unfold zI;by_cases h:q.1=g
  .simp[h]
  .rw[AE h,Gs (T:=r)];simp only[AX,AK];constructor
   .exact .inr
   .rintro (z|z)
    .exact absurd z.symm h
    .exact z
structure Sz (n:Nat) (st:Fd):Prop where
 ks:(st.1.map (·.1)).Nodup
 nd:st.2.Nodup
 sub:∀ t∈st.2,t∈st.1.map (·.1)
 len:st.1.length=n+st.2.length
def aB {n:Nat} {st:Fd} (k:Int) (p:Ye) (h:Sz n st):Sz n (Ao k st p):=by
 unfold Ao;by_cases q:(zI st.1 p).isSome=true
 .rw[AB q];exact h
 .rw[AE q];have hn:zI st.1 p=none:=by
   cases e:zI st.1 p with
   |none=>rfl
   |some d=>rw[e]at q;simp at q
  have hk:p∉st.1.map (·.1):=λz=>q (Gs.mpr z);have e:Be st.1 p (.int k)=st.1++[(p,.int k)]:=by unfold Be;rw[hn]
  rw[e];refine ⟨?_,?_,?_,?_⟩
  .rw[Bq,DH];refine ⟨h.ks,by simp,λa ha b hb=>?_⟩;simp at hb;subst hb;intro z;subst z;exact hk ha
  .rw[DH];refine ⟨h.nd,by simp,λa ha b hb=>?_⟩;simp at hb;subst hb;intro z;subst z;exact hk (h.sub _ ha)
  .intro t ht;rw[Bq,Ak];rcases Ak.mp (show t∈st.2++[p]from ht)with z|z
   .exact .inl (h.sub t z)
   .right;simpa using z
  .rw[AU,AU,h.len];simp;omega
theorem Jh (src:Y1) (k:Int):∀ (gs:Ya) {st:Fd},Sz n st->Sz n (BF src k gs st)
 |[],st,h=>h
 |g::r,st,h=>by
  refine Jh src k r ?_;have:∀ (ps:Ya) {st:Fd},Sz n st->Sz n (ps.foldl (Ao (k+1)) st):=by
   intro ps;induction ps with
   |nil=>intro st h;exact h
   |cons p ps ih=>intro st h;exact ih (aB (k+1) p h)
  exact this _ h
def bV (k:Int) (st:Fd) (p:Ye):st.1.length<=(Ao k st p).1.length:=by
 unfold Ao;split
 .exact AF _
 .unfold Be;cases zI st.1 p <;> simp
theorem OG (src:Y1) (k:Int):∀ (gs:Ya) (st:Fd),st.1.length<=(BF src k gs st).1.length
 |[],st=>AF _
 |g::r,st=>by
  have h1:∀ (ps:Ya) (st:Fd),st.1.length<=(ps.foldl (Ao (k+1)) st).1.length:=by
   intro ps;induction ps with
   |nil=>intro st;exact AF _
   |cons p ps ih=>intro st;exact AW (bV (k+1) st p) (ih _)
  exact AW (h1 (src g) st) (OG src k r _)
def Ko (h:EA zA l G (Th zA) k fd lev) (hk:(fd.map (·.1)).Nodup):fd.length<=zA.length+zA.length*zA.length:=by
 have hr:(zH zA).length=zA.length:=by unfold zH;simp
 have h1:=Fe (fd.map (·.1)) ((zH zA).map (λr=>[r])++zL (zH zA)) hk λt ht=>by
  have hs:=Gs.mpr ht;cases e:zI fd t with
  |none=>rw[e]at hs;cases hs
  |some d=>
   obtain ⟨u,_⟩:=(h.1 t d).mp e;rw[Ak];by_cases h1:t.length=1
   .obtain ⟨r,rfl⟩:=List.length_eq_one_iff.mp h1;exact .inl (Ac.mpr ⟨r,Ea.mpr (u.1.mem r (by simp)),rfl⟩)
   .exact .inr (Nn t u h1)
 have h2:=Fu (zH zA);rw[AH,AU,AH,hr]at h1;rw[hr]at h2;omega
def OT (h:f Y M=some (.dat (.ref j),M)) (hj:M[j]?=some (.lst xs)):Gv f Y M=some (!xs.isEmpty,M):=by
 unfold Gv;rw[h];dsimp only;rw[zv hj]
def Xx (zA:Ya) (l:Nat) (g:Ye):(CI zA l g).length<=zA.length*zA.length*l:=by
 unfold CI BA;rw[AH];refine AW (GA _ _) ?_;rw[Kb];have:=Fu (zH zA);have hr:(zH zA).length=zA.length:=by unfold zH;simp
 rw[hr]at this;exact Nat.mul_le_mul_right l this
def W4 (m:IsM zA l) (oa:FJ zA G) (hR:zA.length<=26) (hl:l<=12) (h1:jf<M0.length) (hd:M0[jd]?=some (dT Ts)) (d1:jd≠jf) (hs:∀ g,(∃ j,zI Ts g=some (.ref j)/\j≠jf/\M0[j]?=some (.lst ((CI zA l g).map tI)))\/(zI Ts g=none/\CI zA l g=[])) (hf:M0[jf]?=some (dT fd)) (hv:M0[jl]?=some (.lst (lev.map tI))) (l1:jl≠jf) (inv:EA zA l G (Th zA) 0 fd lev) (nk:(fd.map (·.1)).Nodup) (nl:lev.length<=fd.length) :
  OkS (CM (Gv (zC 3)) (zX (zi 6 (AM zE)) (zX (BU (AO (zC 3)) (gN 5) (BU (AO (CH (zC 2) (zC 5) (AM zE))) (gN 7) (sIf (tst (fOp (Ag true) (zC 7) (zC 4))) (zX (CC (fOp zy (fOp BH (zC 4) (zC 5)) (fC (.int 1))) (zC 4) (zC 7)) (Az (fM z0 (zC 6) (zD (toD (zC 7)) zE)))) Ah))) (zi 3 (zC 6)))) 1000 [some (mD zA),x1,some (.ref jd),some (.ref jl),some (.ref jf),y5,y6,y7] M0)
   λo Y' M'=>o=.nx/\(∃ y3 y5 y6 y7,Y'=[some (mD zA),x1,some (.ref jd),y3,some (.ref jf),y5,y6,y7])/\(∃ fd',M'[jf]?=some (dT fd')/\fd'.length<=702 /\ ∀ t d,zI fd' t=some d ↔ Th zA t /\ ∃ n:Nat,Dst zA l G t n/\d=.int (n:Int))/\M0.length<=M'.length /\ ∀ j,j<M0.length->j≠jf->M'[j]?=M0[j]?:=by
 have hN:zA.length+zA.length*zA.length<=702:=by
  have:=Cq hR hR;omega
 have hB:zA.length*zA.length*l<=8112:=Cq (Cq hR hR) hl;refine GF (I:=λz Y M=>∃ (jl:Nat) (y5 y6 y7:Option D) (k:Nat) (fd:List (List Int × D)) (lev:Ya),Y=[some (mD zA),x1,some (.ref jd),some (.ref jl),some (.ref jf),y5,y6,y7]/\M[jf]?=some (dT fd)/\M[jl]?=some (.lst (lev.map tI))/\jl≠jf/\EA zA l G (Th zA) k fd lev/\(fd.map (·.1)).Nodup/\lev.length<=fd.length/\M0.length<=M.length/\(∀ j,j<M0.length->j≠jf->M[j]?=M0[j]?)/\z=(702-fd.length)+(if lev.isEmpty then 0 else 1)) ?_ 1000 ((702-fd.length)+(if lev.isEmpty then 0 else 1)) _ _ (by split <;> omega) ⟨jl,y5,y6,y7,0,fd,lev,rfl,hf,hv,l1,inv,nk,nl,AF _,λ_ _ _=>rfl,rfl⟩;rintro z Y M ⟨jl,y5,y6,y7,k,fd,lev,rfl,hf,hv,l1,inv,nk,nl,hlen,fr,rfl⟩;have hfl:=AW (Ko inv nk) hN;refine zG (M:=M) (a:=!(lev.map tI).isEmpty) (OT rfl hv) ?_;cases lev with
 |nil=>
  exact ⟨rfl,⟨_,_,_,_,rfl⟩,⟨fd,hf,hfl,whole m inv⟩,hlen,fr⟩
 |cons g0 lev0=>
  show OkS (zX _ _ [some (mD zA),x1,some (.ref jd),some (.ref jl),some (.ref jf),y5,y6,y7] M) _;generalize hlv:g0::lev0=lev at *;have hne0:lev.isEmpty=false:=by rw[<-hlv];rfl
  rw[zK,za];refine zG (M:=M) (a:=.fl []) (by unfold AM zE;dsimp only;rw[AB (zm (by simp))]) ?_;rw[Iq,zU,zK,DB];have fl:=(AG.mp hf).1;have vl:=(AG.mp hv).1;have up:∀ {j:Nat},j<M.length->(M++[MO.lst ([]:List D)])[j]?=M[j]?:=λh=>AJ h;have dl:=(AG.mp hd).1;refine ⟨_,_,_,(show AO (zC 3) [some (mD zA),x1,some (.ref jd),some (.ref jl),some (.ref jf),y5,some (.ref M.length),y7] (M++[.lst []])=some (lev.map tI,B9 (.dat (.ref jl)) (lev.map tI),M++[.lst []]) by
   unfold AO;rw[show zC 3 [some (mD zA),x1,some (.ref jd),some (.ref jl),some (.ref jf),y5,some (.ref M.length),y7] (M++[.lst []])=some (.dat (.ref jl),M++[.lst []])from rfl];dsimp only;rw[zv ((up vl).trans hv)]),?_⟩
  have sz0:Sz fd.length (fd,([]:List (List Int))):=⟨nk,by simp,(λt h=>by cases h),by simp⟩;have szw:Sz fd.length (BF (CI zA l) (k:Int) lev (fd,[])):=Jh _ _ lev sz0;have hflw:=AW (Ko (RG m oa inv) szw.ks) hN;refine OkS.mono (Ti (k:=(k:Int)) (src:=CI zA l) (st:=(fd,[])) (Ts:=Ts) (by omega) (by simp;omega) (by simp) ((up (by omega)).trans ((fr _ dl d1).trans hd)) d1 (by omega) ((up vl).trans hv) l1 (by omega) ?_ 8112 (λg _=>AW (Xx zA l g) hB) ?_ 702 (by omega) (λus vs e=>?_) ⟨(up fl).trans hf,by simp,AF _,λ_ _ _ _=>rfl⟩) ?_
  .intro g;rcases hs g with ⟨j,e,q1,q2⟩|q
   .have jl':=(AG.mp q2).1;exact .inl ⟨j,e,q1,by omega,(up (by omega)).trans ((fr _ jl' q1).trans q2)⟩
   .exact .inr q
  .intro g hg;obtain ⟨u,hd'⟩:=(inv.2 g).mp hg;exact (inv.1 g _).mpr ⟨u,k,AF _,hd',rfl⟩
  .have h3:=OG (CI zA l) (k:Int) vs (BF (CI zA l) (k:Int) us (fd,[]));have h4:BF (CI zA l) (k:Int) vs (BF (CI zA l) (k:Int) us (fd,[]))=BF (CI zA l) (k:Int) lev (fd,[]):=by rw[e];unfold BF;rw[EE]
   rw[h4]at h3;have h5:=(Jh (CI zA l) (k:Int) us sz0).len;omega
  .rintro o Y' M' ⟨rfl,⟨y5,y7,rfl⟩,lv⟩;rw[zU,za];refine zG (M:=M') (a:=.dat (.ref M.length)) rfl ?_;rw[zM];have sz:Sz fd.length (BF (CI zA l) (k:Int) lev (fd,[])):=Jh _ _ lev ⟨nk,by simp,(λt h=>by cases h),by simp⟩;have inv':=RG m oa inv;generalize BF (CI zA l) (k:Int) lev (fd,[])=st at lv sz inv';have hfl':=AW (Ko inv' sz.ks) hN;have hsl:=sz.len;refine ⟨(702-st.1.length)+(if st.2.isEmpty then 0 else 1),?_,M.length,y5,_,y7,k+1,st.1,st.2,rfl,lv.f,lv.b,by omega,inv',sz.ks,by omega,?_,?_,rfl⟩
   .rw[hne0];cases e:st.2 with
    |nil=>simp;omega
    |cons a r=>rw[e]at hsl;simp at hsl ⊢;omega
   .have:=lv.len;simp at this;omega
   .intro j hj hjf;rw[lv.fr j (by simp;omega) hjf (by omega),up (by omega)];exact fr j hj hjf
def jQ {M:Mem} {ts:Ya} (hf:f Y M=some (.dat (.ref jl),M)) (hj:M[jl]?=some (.lst (ts.map tI))) (nd:ts.Nodup) (hz:ts.length<=80000) (hg:∀ a,gN i a (An own Y)=some ((An own Y).set i (some a))) (hs:∀ (a:D) M',zC i ((An own Y).set i (some a)) M'=some (.dat a,M')) :
  EM true own (AO f) (gN i) zu (zC i) (fC (.int 0)) Y M=some (.dat (.ref M.length),M++[dT (ts.map λt=>(t,.int 0))]):=by
 have hjl:=(AG.mp hj).1;unfold EM AO;rw[hf];dsimp only;rw[zv hj];dsimp only;have loop:∀ (r q:Ya),q++r=ts->Cs (gN i) zu (zC i) (fC (.int 0)) (An own Y) M.length (ts.map tI) (B9 (.dat (.ref jl)) (ts.map tI)) (r.map tI) (M++[dT (q.map λt=>(t,.int 0))])=some (M++[dT (ts.map λt=>(t,.int 0))]):=by
  intro r;induction r with
  |nil=>intro q e;rw[Au]at e;subst e;exact Qv (.inl (by rw[AJ hjl];exact hj))
  |cons x r ih=>
   intro q e;have hx:x∉q:=λz=>by
    rw[<-e,DH]at nd;exact nd.2.2 x z x Ae rfl
   have hl:q.length<90000:=by have:=Bf List.length e;simp at this;omega
   have hk:zI (q.map λt=>(t,D.int 0)) x=none:=by
    cases e2:zI (q.map λt=>(t,D.int 0)) x with
    |none=>rfl
    |some d=>
     have:=Gs.mp (show (zI (q.map λt=>(t,D.int 0)) x).isSome=true by rw[e2];rfl);rw[Ax]at this;obtain ⟨y,hy,rfl⟩:=Ac.mp this;exact absurd hy hx
   have hgd:BN (B9 (.dat (.ref jl)) (ts.map tI)) (ts.map tI) (M++[dT (q.map λt=>(t,.int 0))]):=.inl (by rw[AJ hjl];exact hj);rw[AX,nU (σ1:=(An own Y).set i (some (tI x))) (k:=tI x) (v:=.int 0) (M':=M++[dT ((q++[x]).map λt=>(t,.int 0))]) hgd (hg _) (hs _ _) rfl]
   .exact ih (q++[x]) (by rw[<-e];simp)
   .rw[Ip (T:=q.map λt=>(t,.int 0)) (by simp) (by rw[AH];exact hl)];unfold Be;rw[hk];simp
 have:=loop ts [] rfl;rw[show Jl true=dT []from rfl];rw[show (([]:List (List Int)).map λt=>(t,D.int 0))=[]from rfl]at this;rw[this]
def Vz {zA:Ya} (m:IsM zA l) (oa:FJ zA G) (hR:zA.length<=26) (hl:l<=12) {M:Mem} {ts:Ya} (hj:M[jg]?=some (.lst (ts.map tI))) (nd:ts.Nodup) (hts:∀ t,t∈ts ↔ Th zA t/\G t) (hz:ts.length<=80000):Ok (JC [mD zA,.ref jg] M) λd M'=>∃ jf,d=.ref jf/\M.length<=jf/\(∃ fd,M'[jf]?=some (dT fd)/\fd.length<=702 /\ ∀ t d,zI fd t=some d ↔ Th zA t /\ ∃ n:Nat,Dst zA l G t n/\d=.int (n:Int))/\M.length<=M'.length /\ ∀ j,j<M.length->M'[j]?=M[j]?:=by
 have hjl:=(AG.mp hj).1;unfold JC;rw[zw];unfold LN;rw[zK,za];refine EK.mpr (zG (zY rfl) (Ok.mono (UH m (by omega) hl) ?_));rintro d M1 ⟨rfl,sr,h1,fr⟩;rw[zM,zU];refine Bg (d:=.ref jg) rfl ?_;have hj1:=(fr _ hjl).trans hj;rw[zK,za];refine zG (jQ (jl:=jg) (ts:=ts) rfl hj1 nd hz (λ_=>rfl) (λ_ _=>rfl)) ?_;rw[zM,zU];obtain ⟨T,ed,hT,a1,a2,a3⟩:=sr.ex;have up:∀ {j:Nat} {u:MO},M1[j]?=some u->(M1++[dT (ts.map λt=>(t,D.int 0))])[j]?=some u:=λ{j u} h=>by rw[AJ (AG.mp h).1];exact h
 have ed':=(AG.mp ed).1;rw[zK];refine OkS.mono (W4 (jf:=M1.length) (jd:=M.length) (jl:=jg) (Ts:=T) (lev:=ts) (fd:=ts.map λt=>(t,D.int 0)) m oa hR hl (by simp) (up ed) (by omega) ?_ (by simp) (up hj1) (by omega) (Xb hts ?_) ?_ (by simp)) ?_
 .intro g;cases e:zI T g with
  |none=>exact .inr ⟨rfl,a2 g e⟩
  |some d=>
   obtain ⟨j,rfl,q1,q2⟩:=a1 g d e;have:=(AG.mp q2).1;exact .inl ⟨j,rfl,by omega,up q2⟩
 .intro t d;have gen:∀ (ts:Ya),zI (ts.map λt=>(t,D.int 0)) t=some d ↔ t∈ts/\d=.int 0:=by
   intro ts;induction ts with
   |nil=>simp[zI]
   |cons x r ih=>
    rw[AX,zI];by_cases q:x=t
    .subst q;simp[eq_comm]
    .rw[AE q,ih,AK];constructor
     .rintro ⟨z1,z2⟩;exact ⟨.inr z1,z2⟩
     .rintro ⟨z1|z1,z2⟩
      .exact absurd z1.symm q
      .exact ⟨z1,z2⟩
  exact gen _
 .rw[Ax];rw[show ((λ(x:List Int × D)=>x.1)∘λ(t:Ye)=>(t,D.int 0))=id from rfl,List.map_id];exact nd
 .rintro o Y' M' ⟨rfl,⟨y3,y5,y6,y7,rfl⟩,⟨fd,e1,e2,e3⟩,hlen,fr'⟩;rw[zU];rw[AU]at hlen fr';refine zn (d:=.ref M1.length) rfl ⟨M1.length,rfl,by omega,⟨fd,e1,e2,e3⟩,by omega,λj hj=>?_⟩;rw[fr' j (by omega) (by omega),AJ (by omega)];exact fr j hj
noncomputable def K9:FS:=(AL (zO JC (zD (toD (zC 0)) (zD (toD (Af [1] (A0 (zD (toD (fB AR (zN (zC 0) zd))) zE)) (gN 1) zu (zj (zD (toD (zC 1)) zE)))) zE))))
noncomputable def Ga:FF:=Ab 2 K9
def Pp (m:IsM zA l) (hR:zA.length<=26) (hl:l<=12):Ok (Ga [mD zA] M) λd M'=>∃ jf,d=.ref jf/\M.length<=jf/\(∃ fd,M'[jf]?=some (dT fd)/\fd.length<=702 /\ ∀ t d,zI fd t=some d ↔ Th zA t /\ ∃ n:Nat,Dst zA l One t n/\d=.int (n:Int))/\M.length<=M'.length /\ ∀ j,j<M.length->M'[j]?=M[j]?:=by
 unfold Ga;rw[zw];unfold K9;have er:A0 (zD (toD (fB AR (zN (zC 0) zd))) zE) [some (mD zA),none] M=some ((List.range zA.length).map (λ(k:Nat)=>D.int k),none,M):=by
  rw[E4 (j:=(zA.length:Int)) (EW rfl) (by omega) (by omega),Jj];rw[show (zA.length:Int).toNat=zA.length by omega]
 have ec:Af [1] (A0 (zD (toD (fB AR (zN (zC 0) zd))) zE)) (gN 1) zu (zj (zD (toD (zC 1)) zE)) [some (mD zA),none] M=some (.fl ((List.range zA.length).map λ(k:Nat)=>tI [(k:Int)]),M) :=
  Ez (List.range zA.length) (λ(k:Nat)=>D.int k) (λ(k:Nat)=>tI [(k:Int)]) er trivial (by rw[Ey];omega) λk _=>⟨_,rfl,rfl⟩
 have el:((List.range zA.length).map λ(k:Nat)=>tI [(k:Int)])=((zH zA).map λr=>[r]).map tI:=by
  unfold zH;rw[Ax,Ax];rfl
 rw[el]at ec;rw[CS];refine EK.mpr (C8.mpr (Bo.mpr (BC.mpr ⟨_,rfl,?_⟩)));rw[zM];refine C8.mpr (Bo.mpr (zG ec ?_));rw[Iq,Ee];refine Ok.mono (Vz m Jc hR hl (jg:=M.length) (ts:=(zH zA).map λr=>[r]) (by simp) ?_ YC ?_) ?_
 .unfold zH;rw[Ax];exact List.pairwise_map.mpr (List.Pairwise.imp (λ{a b} h z=>h (by simp at z;omega)) List.nodup_range)
 .unfold zH;simp;omega
 rintro d M' ⟨jf,rfl,h1,h2,h3,h4⟩;rw[zM];rw[AU]at h1 h3 h4;refine ⟨jf,rfl,by omega,h2,by omega,λj hj=>?_⟩;rw[h4 j (by omega),AJ hj]
set_option genInjectivity true in
inductive Climb (zA:Ya) (l:Nat) (G:Yq):List Int->List Int->Prop
 |nil {t:Ye}:G t->Climb zA l G t []
 |cons {t:Ye} {x:Int} {w:Ye} {n:Nat}:Dst zA l G t (n+1)->0<=x->x<(l:Int)->Dst zA l G (setR zA t x) n->(∀ y,0<=y->y<x -> ¬ Dst zA l G (setR zA t y) n)->Climb zA l G (setR zA t x) w->Climb zA l G t (x::w)
theorem RN:∀ {w t:Ye} {n:Nat},Climb zA l G t w->Dst zA l G t n->w.length=n
 |[],_,_,.nil h,d=>by have:=ES (Dv.mpr h) d;simpa using this
 |x::w,_,n,.cons (n:=a) d1 _ _ e1 _ c1,d=>by
  have h1:=RN c1 e1;have h2:=ES d1 d;rw[C1];omega
theorem G3:∀ {w t:Ye},Climb zA l G t w->(∀ x∈w,0<=x/\x<(l:Int))/\G (broR zA t w)
 |[],_,.nil h=>⟨λ_ h=>(by cases h),h⟩
 |x::w,_,.cons _ x0 x1 _ _ c1=>by
  obtain ⟨h1,h2⟩:=G3 c1;refine ⟨λy hy=>?_,h2⟩;rcases AK.mp hy with rfl|q
  .exact ⟨x0,x1⟩
  .exact h1 y q
def fV {P:Int->Prop}:∀ (k:Nat),P (k:Int) -> ∃ x:Nat,x<=k/\P (x:Int) /\ ∀ y:Int,0<=y->y<(x:Int) -> ¬ P y:=by
 intro k;induction k using Nat.strongRecOn with
 |ind k ih=>
  intro h;by_cases q:∃ j:Nat,j<k/\P (j:Int)
  .obtain ⟨j,hj,hp⟩:=q;obtain ⟨x,h1,h2,h3⟩:=ih j hj hp;exact ⟨x,by omega,h2,h3⟩
  .refine ⟨k,AF _,h,λy y0 y1 hp=>q ⟨y.toNat,by omega,?_⟩⟩;rw[show ((y.toNat:Nat):Int)=y by omega];exact hp
theorem Qe:∀ (n:Nat) {t:Ye},Dst zA l G t n -> ∃ w,Climb zA l G t w
 |0,t,d=>⟨[],.nil (Dv.mp d)⟩
 |n+1,t,d=>by
  obtain ⟨_,x,hx,hd⟩:=E7.mp d;obtain ⟨y,h1,h2,h3⟩:=fV (P:=λx=>Dst zA l G (setR zA t x) n) x.toNat (by rw[show ((x.toNat:Nat):Int)=x by omega];exact hd);obtain ⟨w,hw⟩:=Qe n h2;exact ⟨(y:Int)::w,.cons d (by omega) (by omega) h2 h3 hw⟩
def E1 (ha:a Y M=some (true,M)):CN a b Y M=some (true,M):=by unfold CN;rw[ha]
def Bt (ha:a Y M=some (false,M)) (hb:b Y M=some (k,M)):CN a b Y M=some (k,M):=by unfold CN;rw[ha];exact hb
def aC' {f:FE} {g:FA} {Y:Sd} {M M1 M2:Mem} {d:D} {ds:List D} (h:toD f Y M=some (d,M1)) (hg:g Y M1=some (ds,M2)):zD (toD f) g Y M=some (d::ds,M2):=by
 unfold zD;rw[h];dsimp only;rw[hg]
def B1 (h:f Y M=some (.dat d,M)):toD f Y M=some (d,M):=by unfold toD;rw[h]
def Er {M M1:Mem} (h:f Y M=some (.fl xs,M1)):toD f Y M=some (.ref M1.length,M1++[.lst xs]):=by unfold toD;rw[h]
def CJ {g:FA} {Y:Sd} {M M1:Mem} {ds:List D} (h:g Y M=some (ds,M1)) (hz:ds.length<=100000):AM g Y M=some (.fl ds,M1):=by
 unfold AM;rw[h];dsimp only;rw[AB (zm hz)]
def Cp {g:FA} {Y:Sd} {M M1:Mem} {ds:List D} (h:g Y M=some (ds,M1)) (hz:ds.length<=100000):zj g Y M=some (.dat (.tup ds),M1):=by
 unfold zj;rw[h];dsimp only;rw[AB (zm hz)]
def WD (hf:f Y M=some (.dat (.int i),M)) (hg:g Y M=some (.dat (.int j),M)):fB Ii (zN f (zN g zd)) Y M=some (.dat (.int (if j<i then j else i)),M):=by
 unfold fB zN zd;rw[hf];dsimp only;rw[hg];rfl
def gJ {f:FE} {Y:Sd} {M M1:Mem} {xs:List D} (h:f Y M=some (.fl xs,M1)):AO f Y M=some (xs,none,M1):=by
 unfold AO;rw[h];rfl
def d9 (h1:M[n]?=some (.lst xs)) (h2:M[m]?=some (.lst ys)) (hz:xs.length+ys.length<=90000):HQ (.dat (.ref n)) [.ref m] M=some (.non,M.set n (.lst (xs++ys))):=by
 unfold HQ;dsimp only;rw[h1,h2];dsimp only;rw[AB (zm (by omega))]
def mR (hf:f Y M=some (.dat (.int i),M)) (hg:g Y M=some (.dat (.int j),M)):fB Ib (zN f (zN g zd)) Y M=some (.dat (.int (if j>i then j else i)),M):=by
 unfold fB zN zd;rw[hf];dsimp only;rw[hg];rfl
def NB {m:FF} {a:FA} {Y:Sd} {M M1 M':Mem} {ds:List D} {d:D} (h:a Y M=some (ds,M1)) (hm:m ds M1=some (d,M')):zO m a Y M=some (.dat d,M'):=by
 unfold zO;rw[h];dsimp only;rw[hm]
noncomputable def Mw:FS:=(zX (zi 3 (Af [4] (A0 (zD (toD (fB AR (zN (fOp kIx (zC 0) (fC (.int 0))) zd))) zE)) (gN 4) zu (zO Ec (zD (toD (zC 0)) (zD (toD (zC 1)) (zD (toD (zC 4)) zE))))))
  (AL (fB (HM false) (zN (Af [4,5] (IU (zC 3)) (Ik 4 5) (Ck (tst (fOp (Ag false) (zC 5) (zC 2))) (tst (fOp kEq (fOp BH (zC 2) (zC 5)) (fOp EU (fOp BH (zC 2) (zC 1)) (fC (.int 1)))))) (zC 4)) zd))))
noncomputable def Fc:FF:=Ab 6 Mw
noncomputable def Ni:FS:=(zX (zi 2 (Af [3] (AO (zO Dj (zD (toD (zO Ek (zD (toD (zC 0)) zE))) zE))) (gN 3) (tst (fOp kGt (CH (zC 1) (zC 3) (fC (.int 0))) (fC (.int 0)))) (zC 3)))
  (AL (EM true [3] (AO (zC 2)) (gN 3) zu (zC 3) (zj (zD (toD (fOp BH (zC 1) (zC 3))) (zD (toD (zO Fc (zD (toD (zC 0)) (zD (toD (zC 3)) (zD (toD (zC 1)) zE))))) zE))))))
noncomputable def Hc:FF:=Ab 4 Ni
noncomputable def Ma:FS:=(AL (zO Hc (zD (toD (zC 0)) (zD (toD (zO Ga (zD (toD (zC 0)) zE))) zE))))
noncomputable def Il:FF:=Ab 1 Ma
noncomputable def NM:FS:=(zX (zi 3 (AM zE))
  (zX (zi 4 (zC 2))
  (zX (CM (tst (fOp (Ag false) (zC 4) (zC 1))) (zX (zi 5 (fOp kIx (fOp BH (zC 1) (zC 4)) (fC (.int 1))))
  (zX (Az (fM z0 (zC 3) (zD (toD (zC 5)) zE)))
  (zi 4 (zO Ec (zD (toD (zC 0)) (zD (toD (zC 4)) (zD (toD (zC 5)) zE))))))) 1000)
  (AL (fB CL (zN (zC 3) zd))))))
noncomputable def IW:FF:=Ab 6 NM
theorem OU {α:Type} (hgd:BN gd all M) (enc out:α->D) (keep:α->Bool):∀ (as:List α),(∀ a∈as,∃ σ1,g (enc a) Y=some σ1/\tc σ1 M=some (keep a,M)/\(keep a=true->te σ1 M=some (.dat (out a),M)))->BP g tc te Y all gd (as.map enc) M=some ((as.filter keep).map out,M)
 |[],_=>by
  rw[List.map_nil];unfold BP;rw[AB hgd];rfl
 |a::r,h=>by
  obtain ⟨σ1,e1,e2,e3⟩:=h a Ae;have ih:=OU (Y:=Y) hgd enc out keep r λb hb=>h b (Ai _ hb);rw[AX];unfold BP;rw[AB hgd,e1];dsimp only;rw[e2];cases hk:keep a with
  |false=>
   dsimp only;rw[ih,List.filter_cons_of_neg (by simp[hk])]
  |true=>
   dsimp only;rw[show toD te σ1 M=some (out a,M) by unfold toD;rw[e3 hk]];dsimp only;rw[ih,List.filter_cons_of_pos hk];rfl
def Hs {α:Type} {own:Yj} {fi:FI} {g:FG} {tc:FT} {te:FE} {Y:Sd} {M M1:Mem} {gd:Option (Mem->Prop)} (as:List α) (enc out:α->D) (keep:α->Bool) (hi:fi Y M=some (as.map enc,gd,M1)) (hgd:BN gd (as.map enc) M1) (hz:as.length<=100000)
  (he:∀ a∈as,∃ σ1,g (enc a) (An own Y)=some σ1/\tc σ1 M1=some (keep a,M1)/\(keep a=true->te σ1 M1=some (.dat (out a),M1))):Af own fi g tc te Y M=some (.fl ((as.filter keep).map out),M1) :=
 zW (HS.mpr ⟨_,_,_,hi,by rw[AH];exact zm hz,zG (OU hgd enc out keep as he) ⟨rfl,rfl⟩⟩)
def Tf {f:FE} {Y:Sd} {M M1:Mem} {xs:Ye} (hf:f Y M=some (.fl (xs.map D.int),M1)) (hx:xs≠[]):∃ b,fB (HM false) (zN f zd) Y M=some (.dat (.int b),M1)/\b∈xs /\ ∀ y∈xs,b<=y:=by
 cases xs with
 |nil=>exact absurd rfl hx
 |cons x r=>
  obtain ⟨h1,h2⟩:=JI false r x;refine ⟨DV false x r,?_,h1,λy hy=>by simpa using h2 y hy⟩;unfold fB zN zd;rw[hf];unfold HM;dsimp only;rw[Ig]
def Ly (zA:Ya) (l:Nat) (G:Yq) (fd:List (List Int × D)):Prop:=∀ t d,zI fd t=some d ↔ Th zA t /\ ∃ n:Nat,Dst zA l G t n/\d=.int (n:Int)
structure Fst (zA:Ya) (l:Nat) (G:Yq) (p:Ye) (n:Nat) (x:Int):Prop where
 x0:0<=x
 x1:x<(l:Int)
 d:Dst zA l G (setR zA p x) n
 f:∀ y,0<=y->y<x -> ¬ Dst zA l G (setR zA p y) n
noncomputable def isN (n:Nat):Option D->Bool
 |some (.int v)=>decide (v=(n:Int))
 |_=>false
def Nj (sp:Ly zA l G fd) (u:Th zA t):isN n (zI fd t)=true ↔ Dst zA l G t n:=by
 constructor
 .intro h;cases e:zI fd t with
  |none=>rw[e]at h;cases h
  |some d=>
   obtain ⟨_,k,hk,rfl⟩:=(sp t d).mp e;rw[e]at h;have:(k:Int)=(n:Int):=D1 h;rw[show n=k by omega];exact hk
 .intro h;rw[(sp t _).mpr ⟨u,n,h,rfl⟩];exact BB rfl
def eqE:kEq (.dat (.int a)) (.dat (.int b)) M=some (.dat (.bl (decide (a=b))),M):=zW (HL.mpr ⟨rfl,rfl⟩)
def RP:EU (.dat (.int a)) (.dat (.int b)) M=some (.dat (.int (a-b)),M):=rfl
def gtE:kGt (.dat (.int a)) (.dat (.int b)) M=some (.dat (.bl (decide (b<a))),M):=rfl
def bJ (ha:a Y M=some (true,M)) (hb:b Y M=some (k,M)):Ck a b Y M=some (k,M):=by unfold Ck;rw[ha];exact hb
def nV (ha:a Y M=some (false,M)):Ck a b Y M=some (false,M):=by unfold Ck;rw[ha]
def nM {zA:Ya} {l:Nat} {G:Yq} (m:IsM zA l) (hR:zA.length<=26) (hl:l<=12) {M:Mem} {jf:Nat} {fd:List (List Int × D)} (hf:M[jf]?=some (dT fd)) (sp:Ly zA l G fd) {p:Ye} (u:Th zA p) {n:Nat} (hd:Dst zA l G p (n+1)) :
  Ok (Fc [mD zA,tI p,.ref jf] M) λd M'=>∃ x:Int,d=.int x/\Fst zA l G p n x /\ ∃ us,M'=M++us:=by
 unfold Fc;rw[zw];unfold Mw;have hfl:=(AG.mp hf).1;have er:=Ol (Y:=[some (mD zA),some (tI p),some (.ref jf),none,none,none]) (M:=M) (GL m (f:=zC 0) rfl) (by omega) (by omega);rw[show (l:Int).toNat=l by omega]at er;have ec:=Ez (own:=[4]) (g:=gN 4) (te:=zO Ec (zD (toD (zC 0)) (zD (toD (zC 1)) (zD (toD (zC 4)) zE)))) (List.range l) (λ(k:Nat)=>D.int k) (λ(k:Nat)=>tI (setR zA p (k:Int))) er trivial (by rw[Ey];omega) λk hk=>⟨_,rfl,zc (zV (d:=mD zA) rfl (zV (d:=tI p) rfl (zY (d:=.int (k:Int)) rfl))) (KG m (by omega) u.1 (by omega) (by have:=Bk.mp hk;omega))⟩;rw[zK,za];refine zG ec (zx ?_);rw[zU];generalize hA:M++[MO.lst ((List.range l).map λ(k:Nat)=>tI (setR zA p (k:Int)))]=A;have a1:A[M.length]?=some (.lst ((List.range l).map λ(k:Nat)=>tI (setR zA p (k:Int)))):=by rw[<-hA];simp
 have a2:A[jf]?=some (dT fd):=by rw[<-hA,AJ hfl];exact hf
 have hen:IU (zC 3) [some (mD zA),some (tI p),some (.ref jf),some (.ref M.length),none,none] A=some ((List.range l).map (λ(k:Nat)=>D.tup [.int (k:Nat),tI (setR zA p (k:Int))]),B9 (.dat (.ref M.length)) ((List.range l).map λ(k:Nat)=>tI (setR zA p (k:Int))),A):=by
  unfold IU;rw[show zC 3 [some (mD zA),some (tI p),some (.ref jf),some (.ref M.length),none,none] A=some (.dat (.ref M.length),A)from rfl];dsimp only;rw[zv a1];dsimp only;congr 2;unfold F4;rw[AH,Ey];apply List.ext_getElem?;intro i;by_cases hi:i<l
  .rw[Bn,Bn,List.zip_eq_zipWith,List.getElem?_zipWith,Bn,List.getElem?_range hi];rfl
  .rw[Gu (by simp;omega),Gu (by simp;omega)]
 have lp:zI fd p=some (.int ((n+1:Nat):Int)):=(sp p _).mpr ⟨u,n+1,hd,rfl⟩;have ef:=Hs (own:=[4,5]) (g:=Ik 4 5) (tc:=Ck (tst (fOp (Ag false) (zC 5) (zC 2))) (tst (fOp kEq (fOp BH (zC 2) (zC 5)) (fOp EU (fOp BH (zC 2) (zC 1)) (fC (.int 1)))))) (te:=zC 4) (List.range l) _ (λ(k:Nat)=>D.int (k:Int)) (λ(k:Nat)=>isN n (zI fd (setR zA p (k:Int)))) hen (.inl a1) (by rw[Ey];omega) (λk hk=>by
  have u':=D8 m p (k:Int) u ⟨by omega,by have:=Bk.mp hk;omega⟩;refine ⟨[some (mD zA),some (tI p),some (.ref jf),some (.ref M.length),some (.int (k:Int)),some (tI (setR zA p (k:Int)))],rfl,?_,λ_=>rfl⟩;have e1:fOp (Ag false) (zC 5) (zC 2) [some (mD zA),some (tI p),some (.ref jf),some (.ref M.length),some (.int (k:Int)),some (tI (setR zA p (k:Int)))] A=_:=zS (x:=.dat (tI (setR zA p (k:Int)))) (y:=.dat (.ref jf)) rfl rfl (FU a2);rw[AE (by decide)]at e1;cases e:zI fd (setR zA p (k:Int)) with
  |none=>
   rw[e]at e1;exact nV (BL e1)
  |some d=>
   obtain ⟨_,v,_,rfl⟩:=(sp _ d).mp e;rw[e]at e1;refine bJ (BL e1) (BL ?_);refine zS (x:=.dat (.int (v:Int))) (y:=.dat (.int (((n+1:Nat):Int)-1))) (zS (x:=.dat (.ref jf)) (y:=.dat (tI (setR zA p (k:Int)))) rfl rfl (Gi a2 e)) (zS (x:=.dat (.int ((n+1:Nat):Int))) (y:=.dat (.int 1)) (zS (x:=.dat (.ref jf)) (y:=.dat (tI p)) rfl rfl (Gi a2 lp)) rfl RP) ?_;rw[eqE];unfold isN;congr 5;exact propext ⟨λh=>by omega,λh=>by omega⟩)
 rw[show ((List.range l).filter λ(k:Nat)=>isN n (zI fd (setR zA p (k:Int)))).map (λ(k:Nat)=>D.int (k:Int))=(((List.range l).filter λ(k:Nat)=>isN n (zI fd (setR zA p (k:Int)))).map λ(k:Nat)=>(k:Int)).map D.int by rw[Ax];rfl]at ef;obtain ⟨b,eb,hb1,hb2⟩:=Tf ef (by
  obtain ⟨_,x,hx,hr⟩:=E7.mp hd;have:((x.toNat:Nat):Int)∈((List.range l).filter λ(k:Nat)=>isN n (zI fd (setR zA p (k:Int)))).map λ(k:Nat)=>(k:Int):=Ac.mpr ⟨x.toNat,DD.mpr ⟨Bk.mpr (by omega),by rw[show ((x.toNat:Nat):Int)=x by omega];exact (Nj sp (D8 m p x u hx)).mpr hr⟩,rfl⟩;exact List.ne_nil_of_mem this)
 obtain ⟨k,hk,rfl⟩:=Ac.mp hb1;obtain ⟨k1,k2⟩:=DD.mp hk;have k3:=Bk.mp k1;refine zn eb ⟨(k:Int),rfl,⟨by omega,by omega,(Nj sp (D8 m p _ u ⟨by omega,by omega⟩)).mp k2,λy y0 y1 hy=>?_⟩,_,hA.symm⟩;have:=hb2 y (Ac.mpr ⟨y.toNat,DD.mpr ⟨Bk.mpr (by omega),by rw[show ((y.toNat:Nat):Int)=y by omega];exact (Nj sp (D8 m p y u ⟨y0,by omega⟩)).mpr hy⟩,by omega⟩);omega
def Xi (a:Fst zA l G p n x) (b:Fst zA l G p n y):x=y:=by
 rcases Int.lt_trichotomy x y with q|q|q
 .exact absurd a.d (b.f x a.x0 q)
 .exact q
 .exact absurd b.d (a.f y b.x0 q)
open Classical in
noncomputable def Cf (zA:Ya) (l:Nat) (G:Yq) (t:Ye):Nat:=if h:∃ n,Dst zA l G t n then Classical.choose h else 0
open Classical in
noncomputable def Mp (zA:Ya) (l:Nat) (G:Yq) (t:Ye):Int:=if h:∃ x,Fst zA l G t (Cf zA l G t-1) x then Classical.choose h else 0
def HB (h:Dst zA l G t n):Cf zA l G t=n:=by
 unfold Cf;have hx:∃ n,Dst zA l G t n:=⟨n,h⟩;rw[dif_pos hx];exact ES (Classical.choose_spec hx) h
def OL (h:0<Cf zA l G t):Dst zA l G t (Cf zA l G t):=by
 by_cases hx:∃ n,Dst zA l G t n
 .obtain ⟨n,hn⟩:=hx;rw[HB hn];exact hn
 .unfold Cf at h;rw[dif_neg hx]at h;omega
def QH (hd:Dst zA l G t (n+1)) (h:Fst zA l G t n x):Mp zA l G t=x:=by
 unfold Mp;rw[HB hd];have hx:∃ x,Fst zA l G t (n+1-1) x:=⟨x,h⟩;rw[dif_pos hx];exact Xi (Classical.choose_spec hx) h
noncomputable def Js (zA:Ya) (l:Nat) (G:Yq) (t:Ye):Bool:=decide (0<Cf zA l G t)
noncomputable def FH (zA:Ya) (l:Nat) (G:Yq) (t:Ye):D:=.tup [.int (Cf zA l G t:Nat),.int (Mp zA l G t)]
noncomputable def B7 (zA:Ya) (l:Nat) (G:Yq):List (List Int):=(zL (zH zA)).filter (Js zA l G)
noncomputable def C6 (zA:Ya) (l:Nat) (G:Yq):List (List Int × D):=(B7 zA l G).map λp=>(p,FH zA l G p)
theorem QL {f:List Int->D} {t:Ye}:∀ {ps:Ya},zI (ps.map λp=>(p,f p)) t=if t∈ps then some (f t) else none
 |[]=>rfl
 |p::r=>by
  rw[AX,zI];by_cases h:p=t
  .subst h;rw[AB rfl,AB Ae]
  .rw[AE h,QL (ps:=r)];by_cases hr:t∈r
   .rw[AB hr,AB (Ai _ hr)]
   .rw[AE hr,AE (by simp[hr,Ne.symm h])]
def QJ (h:g∉T.map (·.1)):Be T g v=T++[(g,v)]:=by
 unfold Be;cases e:zI T g with
 |none=>rfl
 |some d=>exact absurd (Gs.mp (show (zI T g).isSome=true by rw[e];rfl)) h
def Wu (h:xs.Nodup):(zL xs).Nodup:=by
 have gen:∀ r:List Int,r.Nodup->(r.flatMap λa=>(xs.filter λb=>decide (a<b)).map λb=>[a,b]).Nodup:=by
  intro r;induction r with
  |nil=>intro _;simp
  |cons a r ih=>
   intro hr;obtain ⟨h1,h2⟩:=List.nodup_cons.mp hr;rw[List.flatMap_cons,DH];refine ⟨?_,ih h2,λu hu v hv=>?_⟩
   .refine List.pairwise_map.mpr (List.Pairwise.imp (λ{x y} q z=>q (by simpa using z)) (List.Pairwise.filter _ h))
   .obtain ⟨b,_,rfl⟩:=Ac.mp hu;obtain ⟨c,hc,hv⟩:=F6.mp hv;obtain ⟨d,_,rfl⟩:=Ac.mp hv;intro z;have:a=c:=by simpa using (Cd z).1
    exact h1 (by rw[this];exact hc)
 exact gen xs h
def SM (zA:Ya):(zH zA).Nodup:=by
 unfold zH;exact List.pairwise_map.mpr (List.Pairwise.imp (λ{a b} h z=>h (by omega)) List.nodup_range)
def HR:t∈B7 zA l G ↔ t∈zL (zH zA) /\ ∃ n,Dst zA l G t (n+1):=by
 unfold B7 Js;rw[DD];constructor
 .rintro ⟨a,b⟩;have:=OL (D1 b);exact ⟨a,Cf zA l G t-1,by rw[show Cf zA l G t-1+1=Cf zA l G t by have:=D1 b;omega];exact this⟩
 .rintro ⟨a,n,h⟩;exact ⟨a,BB (by rw[HB h];omega)⟩
def Zj (hf:f Y M=some (.dat (.ref n),M)) (hn:M[n]?=some (dT T)) (hg:g Y M=some (.dat (tI k),M)):CH f g (fC c) Y M=some (.dat ((zI T k).getD c),M):=by
 unfold CH;rw[show toD f Y M=some (.ref n,M) by unfold toD;rw[hf]];dsimp only;rw[hn];rw[show toD g Y M=some (tI k,M) by unfold toD;rw[hg]];dsimp only;rw[show toD (fC c) Y M=some (c,M)from rfl];dsimp only;rw[dgT hn]
def aF {own:Yj} {i:Nat} {tv:FE} {Y:Sd} {M:Mem} {jl jk:Nat} {K:MO} {ts:Ya} {val:List Int->D} (hj:M[jl]?=some (.lst (ts.map tI))) (hk:M[jk]?=some K) (nd:ts.Nodup) (hz:ts.length<=80000)
  (hg:∀ a,gN i a (An own Y)=some ((An own Y).set i (some a))) (hs:∀ (a:D) M',zC i ((An own Y).set i (some a)) M'=some (.dat a,M'))
  (hv:∀ t∈ts,∀ M':Mem,M'[jk]?=some K -> ∃ us,tv ((An own Y).set i (some (tI t))) M'=some (.dat (val t),M'++us)) {n:Nat} (hn:n=M.length) :
  ∃ us,Cs (gN i) zu (zC i) tv (An own Y) n (ts.map tI) (B9 (.dat (.ref jl)) (ts.map tI)) (ts.map tI) (M++[dT []])=some (M++dT (ts.map λt=>(t,val t))::us):=by
 subst hn;have hjl:=(AG.mp hj).1;have hkl:=(AG.mp hk).1;have loop:∀ (r q:Ya) (ws:Mem),q++r=ts -> ∃ us,Cs (gN i) zu (zC i) tv (An own Y) M.length (ts.map tI) (B9 (.dat (.ref jl)) (ts.map tI)) (r.map tI) (M++dT (q.map λt=>(t,val t))::ws)=some (M++dT (ts.map λt=>(t,val t))::us):=by
  intro r;induction r with
  |nil=>
   intro q ws e;rw[Au]at e;subst e;exact ⟨ws,Qv (.inl (by rw[AJ hjl];exact hj))⟩
  |cons x r ih=>
   intro q ws e;have hx:x∉q:=λz=>by
    rw[<-e,DH]at nd;exact nd.2.2 x z x Ae rfl
   have hl:q.length<90000:=by have:=Bf List.length e;simp at this;omega
   obtain ⟨us,hu⟩:=hv x (by rw[<-e];simp) (M++dT (q.map λt=>(t,val t))::ws) (by rw[AJ hkl];exact hk);obtain ⟨vs,hvs⟩:=ih (q++[x]) (ws++us) (by rw[<-e];simp);refine ⟨vs,?_⟩;rw[<-hvs,AX];have hgd:BN (B9 (.dat (.ref jl)) (ts.map tI)) (ts.map tI) (M++dT (q.map λt=>(t,val t))::ws):=.inl (by rw[AJ hjl];exact hj);rw[Cs,AB hgd,hg];dsimp only;rw[show zu ((An own Y).set i (some (tI x))) (M++dT (q.map λt=>(t,val t))::ws)=some (true,M++dT (q.map λt=>(t,val t))::ws)from rfl];dsimp only;rw[show toD (zC i) ((An own Y).set i (some (tI x))) (M++dT (q.map λt=>(t,val t))::ws)=some (tI x,M++dT (q.map λt=>(t,val t))::ws) by unfold toD;rw[hs]];dsimp only;rw[show toD tv ((An own Y).set i (some (tI x))) (M++dT (q.map λt=>(t,val t))::ws)=some (val x,M++dT (q.map λt=>(t,val t))::ws++us) by unfold toD;rw[hu]];dsimp only;rw[Ip (T:=q.map λt=>(t,val t)) (by simp) (by rw[AH];exact hl),QJ (by rw[Ax];simpa using hx)];congr 1;rw[Bm,List.set_append_right _ _ (AF _)];simp
 exact loop ts [] [] rfl
def VI {zA:Ya} {l:Nat} {G:Yq} (m:IsM zA l) (hR:zA.length<=26) (hl:l<=12) {M:Mem} {jf:Nat} {fd:List (List Int × D)} (hf:M[jf]?=some (dT fd)) (sp:Ly zA l G fd) :
  Ok (Hc [mD zA,.ref jf] M) λd M'=>∃ jr us,d=.ref jr/\M'=M++us/\M.length<=jr/\M'[jr]?=some (dT (C6 zA l G)):=by
 unfold Hc;rw[zw];unfold Ni;have hfl:=(AG.mp hf).1;have hrl:(zH zA).length=zA.length:=by unfold zH;simp
 have epr:=Jv (xs:=zH zA) (by omega) (M:=M);have ei:AO (zO Dj (zD (toD (zO Ek (zD (toD (zC 0)) zE))) zE)) [some (mD zA),some (.ref jf),none,none] M=_:=KJ (zY (d:=tI (zH zA)) (zc (zY (d:=mD zA) rfl) (JN (by omega)))) epr (zt _ _);have hPl:(zL (zH zA)).length<=676:=by
  have h1:=Fu (zH zA);rw[hrl]at h1;exact AW h1 (Cq hR hR)
 generalize hA:M++[MO.lst ((zL (zH zA)).map tI)]=A at ei;have a1:A[M.length]?=some (.lst ((zL (zH zA)).map tI)):=by rw[<-hA];simp
 have a2:A[jf]?=some (dT fd):=by rw[<-hA,AJ hfl];exact hf
 have ef:=Hs (own:=[3]) (g:=gN 3) (tc:=tst (fOp kGt (CH (zC 1) (zC 3) (fC (.int 0))) (fC (.int 0)))) (te:=zC 3) (zL (zH zA)) tI tI (Js zA l G) ei (.inl a1) (by omega) (λp hp=>by
  refine ⟨[some (mD zA),some (.ref jf),none,some (tI p)],rfl,BL ?_,λ_=>rfl⟩;have e1:CH (zC 1) (zC 3) (fC (.int 0)) [some (mD zA),some (.ref jf),none,some (tI p)] A=_:=Zj (k:=p) rfl a2 rfl;unfold Js;cases e:zI fd p with
  |none=>
   rw[e]at e1;rw[zS (x:=.dat (.int 0)) (y:=.dat (.int 0)) e1 rfl gtE];have:¬ 0<Cf zA l G p:=λh=>by
    rw[(sp p _).mpr ⟨EB p hp,_,OL h,rfl⟩]at e;cases e
   rw[Aa this];rfl
  |some d=>
   obtain ⟨_,v,hv,rfl⟩:=(sp _ d).mp e;rw[e]at e1;rw[zS (x:=.dat (.int (v:Int))) (y:=.dat (.int 0)) e1 rfl gtE,HB hv];congr 5;exact propext ⟨λh=>by omega,λh=>by omega⟩)
 rw[zK,za];refine zG ef (zx ?_);rw[zU];show OkS (AL _ [some (mD zA),some (.ref jf),some (.ref A.length),none] (A++[.lst ((B7 zA l G).map tI)])) _;have nd:(B7 zA l G).Nodup:=List.Pairwise.filter _ (Wu (SM zA));have hrl2:(B7 zA l G).length<=676:=AW (GA _ _) hPl;generalize hB:A++[MO.lst ((B7 zA l G).map tI)]=B;have b1:B[A.length]?=some (.lst ((B7 zA l G).map tI)):=by rw[<-hB];simp
 have b2:B[jf]?=some (dT fd):=by rw[<-hB,AJ (AG.mp a2).1];exact a2
 obtain ⟨us,hu⟩:=aF (own:=[3]) (i:=3) (Y:=[some (mD zA),some (.ref jf),some (.ref A.length),none]) (tv:=zj (zD (toD (fOp BH (zC 1) (zC 3))) (zD (toD (zO Fc (zD (toD (zC 0)) (zD (toD (zC 3)) (zD (toD (zC 1)) zE))))) zE))) (val:=FH zA l G) b1 b2 nd (by omega) (λ_=>rfl) (λ_ _=>rfl) (λt ht M' hM=>by
  obtain ⟨ht1,n,hn⟩:=HR.mp ht;obtain ⟨d,M2,e,x,rfl,fx,us,rfl⟩:=nM m hR hl hM sp (EB t ht1) hn;refine ⟨us,?_⟩;show zj _ [some (mD zA),some (.ref jf),some (.ref A.length),some (tI t)] M'=_;have e1:fOp BH (zC 1) (zC 3) [some (mD zA),some (.ref jf),some (.ref A.length),some (tI t)] M'=some (.dat (.int ((n+1:Nat):Int)),M'):=zS (x:=.dat (.ref jf)) (y:=.dat (tI t)) rfl rfl (Gi hM ((sp t _).mpr ⟨EB t ht1,n+1,hn,rfl⟩));have e2:zO Fc (zD (toD (zC 0)) (zD (toD (zC 3)) (zD (toD (zC 1)) zE))) [some (mD zA),some (.ref jf),some (.ref A.length),some (tI t)] M'=some (.dat (.int x),M'++us):=zc (zV (d:=mD zA) rfl (zV (d:=tI t) rfl (zY (d:=.ref jf) rfl))) e;rw[Cp (aC' (B1 e1) (Kn e2)) (by simp)];unfold FH;rw[HB hn,QH hn fx]) rfl
 have ed:EM true [3] (AO (zC 2)) (gN 3) zu (zC 3) (zj (zD (toD (fOp BH (zC 1) (zC 3))) (zD (toD (zO Fc (zD (toD (zC 0)) (zD (toD (zC 3)) (zD (toD (zC 1)) zE))))) zE))) [some (mD zA),some (.ref jf),some (.ref A.length),none] B=some (.dat (.ref B.length),B++dT (C6 zA l G)::us):=by
  unfold EM AO;rw[show zC 2 [some (mD zA),some (.ref jf),some (.ref A.length),none] B=some (.dat (.ref A.length),B)from rfl];dsimp only;rw[zv b1];dsimp only;rw[show Jl true=dT []from rfl,hu];rfl
 rw[CS];refine zG ed ⟨B.length,[MO.lst ((zL (zH zA)).map tI)]++([MO.lst ((B7 zA l G).map tI)]++dT (C6 zA l G)::us),rfl,by rw[<-hB,<-hA];simp only[Bm],?_,by simp⟩;rw[<-hB,<-hA];simp only[AU];omega
def Vt (m:IsM zA l) (hR:zA.length<=26) (hl:l<=12) :
  Ok (Il [mD zA] M) λd M'=>∃ jr,d=.ref jr/\M.length<=jr/\M'[jr]?=some (dT (C6 zA l One))/\M.length<=M'.length /\ ∀ j,j<M.length->M'[j]?=M[j]?:=by
 unfold Il;rw[zw];unfold Ma;obtain ⟨d,M1,e,jf,rfl,h1,⟨fd,h2,_,sp⟩,h3,h4⟩:=Pp m hR hl (M:=M);obtain ⟨d2,M2,e2,jr,us,rfl,rfl,q1,q2⟩:=VI m hR hl h2 sp;rw[CS];have ec:zO Hc (zD (toD (zC 0)) (zD (toD (zO Ga (zD (toD (zC 0)) zE))) zE)) [some (mD zA)] M=some (.dat (.ref jr),M1++us):=by
  exact NB (aC' (B1 (d:=mD zA) rfl) (Kn (zc (zY (d:=mD zA) rfl) e))) e2
 refine zG ec ⟨jr,rfl,by omega,q2,by rw[AU];omega,λj hj=>?_⟩;rw[AJ (by omega)];exact h4 j hj
theorem Q1 (m:IsM zA l) (o:FJ zA G):∀ (n:Nat) (t:Ye),Th zA t->Dst zA l G t n -> ∃ ts:List (List Int),ts.length=n/\ts.Nodup /\ ∀ s∈ts,s∈zL (zH zA) /\ ∃ k,k<=n/\Dst zA l G s k
 |0,_,_,_=>⟨[],rfl,List.nodup_nil,λ_ h=>by cases h⟩
 |n+1,t,u,d=>by
  obtain ⟨q,x,hx,hd⟩:=E7.mp d;obtain ⟨ts,h1,h2,h3⟩:=Q1 m o n (setR zA t x) (D8 m t x u hx) hd;refine ⟨t::ts,by simp[h1],List.nodup_cons.mpr ⟨λz=>?_,h2⟩,λs hs=>?_⟩
  .obtain ⟨_,k,hk,hk2⟩:=h3 t z;have:=ES hk2 d;omega
  .rcases AK.mp hs with rfl|z
   .exact ⟨Kt m o s (n+1) u (λg=>by have:=ES (Dv.mpr g) d;omega) d.1,n+1,AF _,d⟩
   .obtain ⟨a,k,hk,b⟩:=h3 s z;exact ⟨a,k,by omega,b⟩
def Lc (m:IsM zA l) (o:FJ zA G) (u:Th zA t) (d:Dst zA l G t n):n<=(zL (zH zA)).length:=by
 obtain ⟨ts,h1,h2,h3⟩:=Q1 m o n t u d;rw[<-h1];exact Fe ts _ h2 λs hs=>(h3 s hs).1
def Ho (hR:zA.length<=26):(zL (zH zA)).length<=676:=by
 have h1:=Fu (zH zA);have hrl:(zH zA).length=zA.length:=by unfold zH;simp
 rw[hrl]at h1;exact AW h1 (Cq hR hR)
def NZ (c:Climb zA l G t w):Dst zA l G t w.length:=by
 cases c with
 |nil g=>exact Dv.mpr g
 |cons d x0 x1 e f c=>rw[C1,RN c e];exact d
def JJ:zI (C6 zA l G) t=if t∈B7 zA l G then some (FH zA l G t) else none:=QL
def f9 (m:IsM zA l) (o:FJ zA G) (hR:zA.length<=26) (hr:M[jr]?=some (dT (C6 zA l G))) (u:Th zA p) (c:Climb zA l G p w) :
  Ok (IW [mD zA,.ref jr,tI p] M) λd M'=>d=tI w /\ ∃ us,M'=M++us:=by
 have hrl:=(AG.mp hr).1;have hw:w.length<=676:=AW (Lc m o u (NZ c)) (Ho hR);unfold IW;rw[zw];unfold NM;rw[zK,za];refine zG (M:=M) (a:=.fl []) (CJ rfl (by simp)) (zx ?_);rw[zU];refine Bg (d:=tI p) rfl ?_;rw[zK];refine GF (I:=λz Y M'=>∃ (w1 w2 here:Ye) (y:Option D),w=w1++w2/\Climb zA l G here w2/\Th zA here/\z=w2.length/\Y=[some (mD zA),some (.ref jr),some (tI p),some (.ref M.length),some (tI here),y]/\M'=M++[.lst (w1.map D.int)]) ?_ 1000 w.length _ _ (by omega) ⟨[],w,p,none,rfl,c,u,rfl,rfl,rfl⟩;rintro z Y M' ⟨w1,w2,here,y,hw12,c2,u2,rfl,rfl,rfl⟩;have hM:(M++[MO.lst (w1.map D.int)])[jr]?=some (dT (C6 zA l G)):=by rw[AJ hrl];exact hr
 have hL:(M++[MO.lst (w1.map D.int)])[M.length]?=some (.lst (w1.map D.int)):=by simp
 have et:tst (fOp (Ag false) (zC 4) (zC 1)) [some (mD zA),some (.ref jr),some (tI p),some (.ref M.length),some (tI here),y] (M++[MO.lst (w1.map D.int)])=some ((zI (C6 zA l G) here).isSome,M++[MO.lst (w1.map D.int)]):=by
  have:=zS (k:=Ag false) (f:=zC 4) (g:=zC 1) (Y:=[some (mD zA),some (.ref jr),some (tI p),some (.ref M.length),some (tI here),y]) (x:=.dat (tI here)) (y:=.dat (.ref jr)) rfl rfl (FU hM);rw[AE (by decide)]at this;exact BL this
 refine zG et ?_;cases c2 with
 |nil g=>
  have hlk:zI (C6 zA l G) here=none:=by rw[JJ,AE (λh=>by obtain ⟨_,n,hn⟩:=HR.mp h;have:=ES (Dv.mpr g) hn;omega)]
  rw[hlk];rw[Au]at hw12;subst hw12;exact zn (d:=tI w) (Gk (f:=zC 3) rfl (zv hL)) ⟨rfl,_,rfl⟩
 | @cons _ x w3 n d x0 x1 e f c3=>
  have hp:=Kt m o here (n+1) u2 (λg=>by have:=ES (Dv.mpr g) d;omega) d.1;have hin:here∈B7 zA l G:=HR.mpr ⟨hp,n,d⟩;have fx:Fst zA l G here n x:=⟨x0,x1,e,f⟩;have hv:FH zA l G here=.tup [.int ((n+1:Nat):Int),.int x]:=by unfold FH;rw[HB d,QH d fx]
  have hlk:zI (C6 zA l G) here=some (.tup [.int ((n+1:Nat):Int),.int x]):=by rw[JJ,AB hin,hv]
  rw[hlk];have hlen:=Bf List.length hw12;rw[AU,C1]at hlen;refine Bg (d:=.int x) (zS (x:=.dat (.tup [.int ((n+1:Nat):Int),.int x])) (y:=.dat (.int 1)) (zS (x:=.dat (.ref jr)) (y:=.dat (tI here)) rfl rfl (Gi hM hlk)) rfl (Ce BK rfl)) ?_;rw[zK,ER];refine EN.mpr (zG (a:=.dat (.ref M.length)) (M:=M++[MO.lst (w1.map D.int)]) rfl ⟨⟨_,Cv hL⟩,zG (zY (d:=.int x) rfl) ((Gh hL (by rw[AH];exact As (show w1.length<1000 by omega) (zm (by omega)))).mpr ?_)⟩);rw[zU];have hset:(M++[MO.lst (w1.map D.int)]).set M.length (.lst (w1.map D.int++[.int x]))=M++[MO.lst ((w1++[x]).map D.int)]:=by
   rw[List.set_append_right _ _ (AF _)];simp
  rw[hset,za];refine zG (zc (zV (d:=mD zA) rfl (zV (d:=tI here) rfl (zY (d:=.int x) rfl))) (KG m (by omega) u2.1 x0 x1)) ?_;exact ⟨w3.length,by simp,w1++[x],w3,setR zA here x,some (.int x),by rw[hw12];simp,c3,D8 m here x u2 ⟨x0,x1⟩,rfl,rfl,rfl⟩
noncomputable def Bp (a b:Int):List Int:=[if b<a then b else a,if b>a then b else a]
def V5 (zA:Ya) (r:Int) (w:Ye) (x:Int):BJ zA r (w++[x])=BS zA (BJ zA r w) x:=by
 unfold BJ;rw[EE];rfl
abbrev Wd (l:Nat) (w:Ye):Prop:=∀ x∈w,0<=x/\x<(l:Int)
def Iw (h:Wd l u) (g:Wd l v):Wd l (u++v):=λx hx=>(Ak.mp hx).elim (h x) (g x)
def fG:(ris [a,b]).length=1 ↔ a=b:=by
 constructor
 .intro h;obtain ⟨r,e⟩:=List.length_eq_one_iff.mp h;have ha:a∈ris [a,b]:=(Eg _ _).mpr (by simp);have hb:b∈ris [a,b]:=(Eg _ _).mpr (by simp);rw[e,Bd]at ha hb;rw[ha,hb]
 .rintro rfl;rw[show ris [a,a]=ris [a]from JD (by simp),JB (by simp)];rfl
def Q9 (h:a≠b):(Bp a b).Pairwise (· < ·):=by
 unfold Bp;simp only[EO,Bd,forall_eq,BO,false_implies,implies_true,List.Pairwise.nil,and_true];split <;> split <;> omega
def gH (h:a≠b) (w:Ye):broR zA (Bp a b) w=ris [BJ zA a w,BJ zA b w]:=by
 rw[Ng (Q9 h)];apply JD;intro x;unfold Bp;by_cases q:b<a
 .rw[AB q,AE (by omega)];simp[or_comm]
 .rw[AE q,AB (by omega)];simp
def ZL (h:a≠b) (w:Ye):One (broR zA (Bp a b) w) ↔ BJ zA a w=BJ zA b w:=by
 unfold One;rw[gH h];exact fG
def iE (h1:fv Y M=some (.dat v,M)) (h2:fo Y M=some (.dat (.ref n),M)) (h3:fi Y M=some (.dat k,M)) (h4:FL M n k v=some M4) (q:P .nx Y M4):OkS (CC fv fo fi Y M) P:=by
 refine ⟨.nx,Y,M4,?_,q⟩;unfold CC toD;rw[h1];dsimp only;rw[h2];dsimp only;rw[h3];dsimp only;rw[h4]
noncomputable def SH:D->Bool
 |.non|.bl _|.int _=>true
 |_=>false
def iO (h:SH d=true):(E8 d).isSome=true:=by cases d <;> first|rfl|cases h
def aJ (h:SH d=true):kEq (.dat d) (.dat d) M=some (.dat (.bl true),M):=jM (iO h)
noncomputable def MK:FS:=(zX (zi 1 (AM zE))
  (zX (BU (A0 (zD (toD (fB AR (zN (zC 0) zd))) zE)) (gN 2) (Az (fM HQ (zC 1) (zD (toD (Af [3] (AO (fSl (zC 0) (Ay (fOp zy (zC 2) (fC (.int 1)))) BG)) (gN 3) zu (zj (zD (toD (fOp kIx (zC 0) (zC 2))) (zD (toD (zC 3)) zE))))) zE))))
  (AL (zC 1))))
noncomputable def Fg:FF:=Ab 4 MK
noncomputable def L6:FS:=(zX (zi 3 (fOp kIx (fOp kIx (zC 0) (fOp kIx (zC 1) (fC (.int 0)))) (zC 2)))
  (zX (zi 4 (fOp kIx (fOp kIx (zC 0) (fOp kIx (zC 1) (fC (.int 1)))) (zC 2)))
  (AL (zj (zD (toD (fB Ii (zN (zC 3) (zN (zC 4) zd)))) (zD (toD (fB Ib (zN (zC 3) (zN (zC 4) zd)))) zE))))))
noncomputable def Gm:FF:=Dp (Ab 5 L6)
noncomputable def Md:FS:=(zX (zi 1 IL)
  (zX (zi 2 (AM zE))
  (zX (zi 3 IL)
  (zX (BU (AO (zO Fg (zD (toD (F5 (fB AR (zN (zC 0) zd)))) zE))) (gN 4) (BU (A0 (zD (toD (fB AR (zN (fOp kIx (zC 0) (fC (.int 0))) zd))) zE)) (gN 5) (zX (zi 6 (zO Gm (zD (toD (zC 0)) (zD (toD (zC 4)) (zD (toD (zC 5)) zE)))))
  (sIf (tst (fOp kLt (fOp kIx (zC 6) (fC (.int 0))) (fOp kIx (zC 6) (fC (.int 1))))) (Az (fM z0 (EH (zC 1) (zC 6) (AM zE)) (zD (toD (zC 4)) zE))) (sIf (tst (fOp (Ag true) (zC 4) (zC 3))) (zX (CC (fC (.bl true)) (zC 3) (zC 4))
  (Az (fM z0 (zC 2) (zD (toD (zC 4)) zE)))) Ah)))))
  (zX (CM (tst (fOp kNe (zC 2) (AM zE))) (BU (AO (CH (zC 1) (Ef (zC 2)) (AM zE))) (gN 4) (sIf (tst (fOp (Ag true) (zC 4) (zC 3))) (zX (CC (fC (.bl true)) (zC 3) (zC 4))
  (Az (fM z0 (zC 2) (zD (toD (zC 4)) zE)))) Ah)) 1000)
  (AL (zC 3)))))))
noncomputable def Ia:FF:=Ab 7 Md
def Y7 {xs:Ye} (h:xs.Pairwise (· < ·)) (hi:i<xs.length):xs.filter (λb=>decide (xs[i]<b))=xs.drop (i+1):=by
 have hg:=List.pairwise_iff_getElem.mp h;have h1:(xs.take (i+1)).filter (λb=>decide (xs[i]<b))=[]:=by
  rw[List.filter_eq_nil_iff];intro b hb;obtain ⟨j,hj,rfl⟩:=En hb;rw[EJ]at hj;rw[List.getElem_take,Bx];rcases DE j i with q|q
  .have:=hg j i (by omega) hi q;omega
  .have:j=i:=by omega
   subst this;omega
 have h2:(xs.drop (i+1)).filter (λb=>decide (xs[i]<b))=xs.drop (i+1):=by
  rw[List.filter_eq_self];intro b hb;obtain ⟨j,hj,rfl⟩:=En hb;rw[D7]at hj;rw[List.getElem_drop,Bx];exact hg i (i+1+j) hi (by omega) (by omega)
 have key:∀ f:Int->Bool,(xs.take (i+1)).filter f=[]->(xs.drop (i+1)).filter f=xs.drop (i+1)->xs.filter f=xs.drop (i+1):=λf a b=>by
  have:=List.filter_append (p:=f) (xs.take (i+1)) (xs.drop (i+1));rw[List.take_append_drop,a,b]at this;simpa using this
 exact key _ h1 h2
noncomputable def DN (xs:Ye) (k:Nat):List (List Int):=(List.range k).flatMap λi=>(xs.drop (i+1)).map λb=>[xs.getD i 0,b]
def Vo {xs:Ye} (h:xs.Pairwise (· < ·)):DN xs xs.length=zL xs:=by
 have e:zL xs=(List.range xs.length).flatMap λi=>(xs.filter λb=>decide (xs.getD i 0<b)).map λb=>[xs.getD i 0,b]:=by
  unfold zL;have:xs=(List.range xs.length).map λi=>xs.getD i 0:=by
   have:=Rq (λx:Int=>x) 0 xs;simpa using this.symm
  conv=>lhs;arg 2;rw[this]
  rw[List.flatMap_map]
 rw[e];unfold DN;have:∀ i∈List.range xs.length,(xs.drop (i+1)).map (λb=>[xs.getD i 0,b])=(xs.filter λb=>decide (xs.getD i 0<b)).map λb=>[xs.getD i 0,b]:=λi hi=>by
  have hi':=Bk.mp hi;rw[<-Y7 h hi'];congr 2;funext b;rw[BM,AV hi'];rfl
 rw[List.flatMap_def,List.flatMap_def,List.map_congr_left this]
def jW (xs:Ye):∀ k,(DN xs k).length<=k*xs.length:=by
 intro k;induction k with
 |zero=>simp[DN]
 |succ k ih=>
  unfold DN at ih ⊢;rw[List.range_succ,List.flatMap_append,AU];simp only[List.flatMap_cons,List.flatMap_nil,Au,AH,D7];rw[Nat.add_mul];omega
def YB {xs:List D} (hk:k<=xs.length):L3.BE xs (some (k:Int)) none=xs.drop k:=by
 have ha:HT.sIx xs.length 0 (some (k:Int))=k:=by rw[HT.Qh];omega
 unfold L3.BE;rw[ha,show HT.sIx xs.length xs.length none=xs.length from rfl];exact G8 (by simp)
def RH (n:Nat) (ps:Ya):D.unds n (ps.map tI)=true:=by
 induction ps with
 |nil=>rfl
 |cons p r ih=>rw[AX];unfold D.unds;rw[ih,show D.und n (tI p)=true from By p];rfl
def SJ (hj:M[j]?=some (.lst (xs.map D.int))) (hx:xs.Pairwise (· < ·)) (hz:xs.length<=100) :
  Ok (Fg [.ref j] M) λd M'=>d=.ref M.length /\ ∃ us:Mem,M'=M ++ .lst ((zL xs).map tI)::us /\ ∀ u∈us,MO.und 0 u=true:=by
 have hjl:=(AG.mp hj).1;unfold Fg;rw[zw];unfold MK;rw[zK,za];refine zG (M:=M) (a:=.fl []) (CJ rfl (by simp)) (zx ?_);rw[zU];have up:∀ us:Mem,(M++us)[j]?=some (.lst (xs.map D.int)):=λus=>by rw[AJ hjl];exact hj
 rw[zK,DB];have el:=FK (f:=zC 0) (Y:=[some (.ref j),some (.ref M.length),none,none]) (M:=M++[.lst []]) (x:=.dat (.ref j)) rfl (zv (up _));rw[AH]at el;refine ⟨_,_,_,E4 el (by omega) (by omega),?_⟩;rw[show ((xs.length:Int)).toNat=xs.length by omega];refine IA (n:=xs.length) (I:=λk Y M'=>(∃ y2 y3,Y=[some (.ref j),some (.ref M.length),y2,y3]) /\ ∃ us:Mem,M'=M ++ .lst ((DN xs k).map tI)::us /\ ∀ u∈us,MO.und 0 u=true) ?_ ?_ _ _ ⟨⟨_,_,rfl⟩,[],by simp[DN],(λ_ h=>by cases h)⟩
 .rintro k Y M' hk ⟨⟨y2,y3,rfl⟩,us,rfl,hu⟩;refine ⟨_,rfl,?_⟩;generalize hA:M++MO.lst ((DN xs k).map tI)::us=A;have a0:A[j]?=some (.lst (xs.map D.int)):=by rw[<-hA];exact up _
  have a1:A[M.length]?=some (.lst ((DN xs k).map tI)):=by rw[<-hA];simp
  have al:M.length<A.length:=(AG.mp a1).1;rw[ER];have esl:fSl (zC 0) (Ay (fOp zy (zC 2) (fC (.int 1)))) BG [some (.ref j),some (.ref M.length),some (.int (k:Int)),y3] A=some (.fl ((xs.drop (k+1)).map D.int),A):=by
   refine zW (NC.mpr (zG (a:=.dat (.ref j)) (M:=A) rfl (LY.mpr (zG (a:=.dat (.int ((k+1:Nat):Int))) (M:=A) rfl (Ky.mpr (Mg.mpr ?_))))));rw[JS (Cv a0) rfl,YB (by rw[AH];omega),List.map_drop];exact ⟨rfl,rfl⟩
  have ec:=Ez (own:=[3]) (g:=gN 3) (te:=zj (zD (toD (fOp kIx (zC 0) (zC 2))) (zD (toD (zC 3)) zE))) (Y:=[some (.ref j),some (.ref M.length),some (.int (k:Int)),y3]) (M:=A) (xs.drop (k+1)) D.int (λb=>tI [xs.getD k 0,b]) (gJ esl) trivial (by rw[D7];omega) λb _=>⟨_,rfl,Cp (zV (zS (x:=.dat (.ref j)) (y:=.dat (.int (k:Int))) rfl rfl (Ce (zv a0) (Ld (by rw[Bn,AV hk,BM,AV hk];rfl)))) (zY (d:=.int b) rfl)) (by simp)⟩;have htl:=jW xs k;have hmul:k*xs.length<=100*100:=Cq (by omega) hz;refine EN.mpr (zG (a:=.dat (.ref M.length)) (M:=A) rfl ⟨⟨_,Cv a1⟩,C8.mpr (Bo.mpr (zG ec (zx ?_)))⟩);rw[Ee];refine zG (d9 (n:=M.length) (m:=A.length) (xs:=(DN xs k).map tI) (ys:=(xs.drop (k+1)).map λb=>tI [xs.getD k 0,b]) (by rw[AJ al];exact a1) (zt _ _) (by rw[AH,AH,D7];omega)) ?_;refine ⟨⟨_,_,rfl⟩,us++[.lst ((xs.drop (k+1)).map λb=>tI [xs.getD k 0,b])],?_,λu hu'=>?_⟩
  .rw[<-hA,Bm,List.set_append_right _ _ (AF _)];have:(DN xs (k+1)).map tI=(DN xs k).map tI++(xs.drop (k+1)).map λb=>tI [xs.getD k 0,b]:=by
    unfold DN;rw[List.range_succ,List.flatMap_append,Bq];simp[Ax,Function.comp_def]
   rw[this];simp
  .rcases Ak.mp hu' with q|q
   .exact hu u q
   .rw[Bd]at q;subst q;rw[show (xs.drop (k+1)).map (λb=>tI [xs.getD k 0,b])=((xs.drop (k+1)).map λb=>[xs.getD k 0,b]).map tI by rw[Ax];rfl];exact RH 0 _
 .rintro Y M' ⟨⟨y2,y3,rfl⟩,us,rfl,hu⟩;rw[zU];exact zn (d:=.ref M.length) rfl ⟨rfl,us,by rw[Vo hx],hu⟩
def WO {zA:Ya} {l:Nat} (m:IsM zA l) {a b x:Int} (a0:0<=a) (a1:a<zA.length) (b0:0<=b) (b1:b<zA.length) (x0:0<=x) (x1:x<l) {M:Mem}:Gm [mD zA,tI [a,b],.int x] M=some (tI (Bp (BS zA a x) (BS zA b x)),M):=by
 refine zW ?_;unfold Gm;refine FN ?_ ?_
 .unfold D.unds D.unds D.unds D.unds;rw[Ex,show D.und 0 (tI [a,b])=true from By _];rfl
 rw[zw];unfold L6;refine Bg (m.ix a0 a1 x0 x1 (f1:=zC 0) (f2:=fOp kIx (zC 1) (fC (.int 0))) (f3:=zC 2) rfl (zS (x:=.dat (tI [a,b])) (y:=.dat (.int 0)) rfl rfl (Ce BK rfl)) rfl) ?_;refine Bg (m.ix b0 b1 x0 x1 (f1:=zC 0) (f2:=fOp kIx (zC 1) (fC (.int 1))) (f3:=zC 2) rfl (zS (x:=.dat (tI [a,b])) (y:=.dat (.int 1)) rfl rfl (Ce BK rfl)) rfl) ?_;exact zn (d:=tI (Bp (BS zA a x) (BS zA b x))) (Cp (zV (WD (i:=BS zA a x) (j:=BS zA b x) rfl rfl) (zY (mR (i:=BS zA a x) (j:=BS zA b x) rfl rfl))) (by simp[Bp])) ⟨By _,rfl,rfl⟩
def Xm (h:p≠q):Bp p q=ris [p,q]:=by
 refine (JB (Q9 h)).symm.trans (JD λx=>?_);unfold Bp;by_cases z:q<p
 .rw[AB z,AE (by omega)];simp[or_comm]
 .rw[AE z,AB (by omega)]
def UI:(Bp p q).getD 0 0<(Bp p q).getD 1 0 ↔ p≠q:=by
 unfold Bp;show (if q<p then q else p)<(if q>p then q else p) ↔ _;constructor
 .intro h e;subst e;simp at h
 .intro h;split <;> split <;> omega
def Sr.frame {zA:Ya} {M M':Mem} {jd lo:Nat} {ps:List (List Int × Int)} (sr:Sr zA M jd lo ps) (h:∀ j,j=jd\/lo<j->M'[j]?=M[j]?):Sr zA M' jd lo ps:=by
 obtain ⟨T,ed,hT,h1,h2,h3⟩:=sr.ex;refine ⟨T,(h jd (.inl rfl)).trans ed,hT,λg d hd=>?_,h2,h3⟩;obtain ⟨j,rfl,hj,ej⟩:=h1 g d hd;exact ⟨j,rfl,hj,(h j (.inr hj)).trans ej⟩
def iR {zA:Ya} {M:Mem} {jd lo:Nat} {ps:List (List Int × Int)} (hps:ps.length<50000) (hlo:jd<lo) (hlo2:lo<M.length) (sr:Sr zA M jd lo ps) (hAd:∀ T,M[jd]?=some (dT T) -> ∀ q∈T,∃ j,q.2=.ref j/\j<M.length) {p goal:Ye} {x:Int} (hg:setR zA p x=goal) {Y:Sd} {i1 i6 i4:Nat}
  (v1:∀ M,zC i1 Y M=some (.dat (.ref jd),M)) (v6:∀ M,zC i6 Y M=some (.dat (tI goal),M)) (v4:∀ M,zC i4 Y M=some (.dat (tI p),M)) :
  OkS (Az (fM z0 (EH (zC i1) (zC i6) (AM zE)) (zD (toD (zC i4)) zE)) Y M) λo Y' M'=>o=.nx/\Y'=Y/\Sr zA M' jd lo (ps++[(p,x)])/\(∀ T,M'[jd]?=some (dT T) -> ∀ q∈T,∃ j,q.2=.ref j/\j<M'.length)/\M.length<=M'.length/\(∀ j,j<=lo->j≠jd->M'[j]?=M[j]?) /\ ∀ (j:Nat) u,lo<j->M'[j]?=some u->(∃ ts:List (List Int),u=.lst (ts.map tI))\/M[j]?=some u:=by
 obtain ⟨T,ed,hT,h1,h2,h3⟩:=sr.ex;have jdl:jd<M.length:=(AG.mp ed).1;have ed':(M++[MO.lst ([]:List D)])[jd]?=some (dT T):=by rw[AJ jdl];exact ed
 have last:∀ (A:Mem) (T':List (List Int × D)) (j:Nat),EH (zC i1) (zC i6) (AM zE) Y M=some (.dat (.ref j),A)->A[jd]?=some (dT T')->zI T' goal=some (.ref j)->lo<j->A[j]?=some (.lst ((BA zA ps goal).map tI))->T'.length<=ps.length+1->(∀ q∈T',∃ j,q.2=.ref j/\j<A.length)->M.length<=A.length->(∀ j,j<=lo->j≠jd->A[j]?=M[j]?) ->
   (∀ (j:Nat) u,lo<j->A[j]?=some u->(∃ ts:List (List Int),u=.lst (ts.map tI))\/M[j]?=some u) ->
   (∀ g d,zI T' g=some d -> ∃ j,d=.ref j/\lo<j/\A[j]?=some (.lst ((BA zA ps g).map tI)))->(∀ g,zI T' g=none->BA zA ps g=[])->(∀ g g' j,zI T' g=some (.ref j)->zI T' g'=some (.ref j)->g=g') ->
   OkS (Az (fM z0 (EH (zC i1) (zC i6) (AM zE)) (zD (toD (zC i4)) zE)) Y M) λo Y' M'=>o=.nx/\Y'=Y/\Sr zA M' jd lo (ps++[(p,x)])/\(∀ T,M'[jd]?=some (dT T) -> ∀ q∈T,∃ j,q.2=.ref j/\j<M'.length)/\M.length<=M'.length/\(∀ j,j<=lo->j≠jd->M'[j]?=M[j]?) /\ ∀ (j:Nat) u,lo<j->M'[j]?=some u->(∃ ts:List (List Int),u=.lst (ts.map tI))\/M[j]?=some u:=by
  intro A T' j hsd ea el hj ej hz hAt hle hfr hkd k1 k2 k3;rw[ER];have hfl:(BA zA ps goal).length<=ps.length:=by unfold BA;rw[AH];exact GA _ _
  have jl:j<A.length:=(AG.mp ej).1;refine EN.mpr (zG hsd ⟨⟨_,Cv ej⟩,zG (zY (v4 A)) ?_⟩);rw[Gh ej (by rw[AH];exact As (m:=95000) (by omega) (zm (by omega)))];refine ⟨rfl,rfl,⟨T',by rw[AZ (by omega)];exact ea,by simpa using hz,λg d hd=>?_,λg hd=>?_,k3⟩,λT2 e2=>?_,by simpa using hle,λi hi hn=>by rw[AZ (by omega)];exact hfr i hi hn,λi u hi hu=>?_⟩
  .obtain ⟨j',rfl,hj',ej'⟩:=k1 g d hd;refine ⟨j',rfl,hj',?_⟩;rw[Jd,hg];by_cases hgg:goal=g
   .subst hgg;rw[el]at hd;cases hd;rw[CK jl,AB rfl,Bq];rfl
   .rw[AE hgg,Au];have:j≠j':=λz=>hgg (k3 goal g j el (by rw[z];exact hd));rw[AZ this];exact ej'
  .rw[Jd,hg,AE (λz=>by rw[<-z,el]at hd;cases hd),Au];exact k2 g hd
  .rw[AZ (by omega),ea]at e2;have eT:Bz T'=Bz T2:=MO.dicT.inj (CB e2);intro q hq;have hm:(tI q.1,q.2)∈Bz T2:=Ac.mpr ⟨q,hq,rfl⟩;rw[<-eT]at hm;obtain ⟨q',hq',e'⟩:=Ac.mp hm;obtain ⟨j',h1',h2'⟩:=hAt q' hq';refine ⟨j',?_,by rw[Bh];exact h2'⟩;rw[<-h1'];exact (Bf Prod.snd e').symm
  .by_cases q:j=i
   .subst q;rw[CK jl]at hu;cases hu;exact .inl ⟨BA zA ps goal++[p],by simp⟩
   .rw[AZ q]at hu;exact hkd i u hi hu
 have esd:EH (zC i1) (zC i6) (AM zE) Y M=match zI T goal with
   |some v=>some (EV.dat v,M++[MO.lst ([]:List D)])
   |none=>some (EV.dat (.ref M.length),(M++[MO.lst ([]:List D)]).set jd (dT (Be T goal (.ref M.length)))):=by
  unfold EH;rw[B1 (v1 M)];dsimp only;rw[ed];rw[B1 (v6 M)];dsimp only;rw[Er (CJ (rfl:zE Y M=some ([],M)) (by simp))];dsimp only;rw[ed',KO];dsimp only;rw[AB (by rw[AH];exact As (m:=95000) (by omega) (zm (by omega))),K5,Nv];all_goals (cases zI T goal <;> rfl)
 cases hl:zI T goal with
 |some d=>
  obtain ⟨j,rfl,hj,ej⟩:=h1 goal d hl;rw[hl]at esd;have jl:=(AG.mp ej).1;refine last (M++[.lst []]) T j esd ed' hl hj (by rw[AJ jl];exact ej) (by omega) (λq hq=>by obtain ⟨j',a,b⟩:=hAd T ed q hq;exact ⟨j',a,by simp;omega⟩) (by simp) (λi hi _=>AJ (by omega)) (λi u hi hu=>?_) (λg d hd=>?_) h2 h3
  .rcases DE i M.length with q|q
   .rw[AJ q]at hu;exact .inr hu
   .have:=(AG.mp hu).1;rw[AU,List.length_singleton]at this;have:i=M.length:=by omega
    subst this;rw[zt]at hu;cases hu;exact .inl ⟨[],rfl⟩
  .obtain ⟨j',rfl,hj',ej'⟩:=h1 g d hd;exact ⟨j',rfl,hj',by rw[AJ (AG.mp ej').1];exact ej'⟩
 |none=>
  rw[hl]at esd;have e0:=h2 goal hl;have hput:=λg=>Hu T goal g (.ref M.length);refine last _ (Be T goal (.ref M.length)) M.length esd (CK (by simp;omega)) (by rw[hput,AB rfl]) hlo2 ?_ (by have:=LB T goal (.ref M.length);omega) (λq hq=>?_) (by simp) (λi hi hn=>?_) (λi u hi hu=>?_) (λg d hd=>?_) (λg hd=>?_) (λg g' j hd hd'=>?_)
  .rw[AZ (by omega),e0];simp
  .unfold Be at hq;rw[hl]at hq;rcases Ak.mp hq with z|z
   .obtain ⟨j',a,b⟩:=hAd T ed q z;exact ⟨j',a,by simp;omega⟩
   .rw[Bd]at z;subst z;exact ⟨M.length,rfl,by simp⟩
  .rw[AZ (Ne.symm hn),AJ (by omega)]
  .rw[AZ (by omega)]at hu;rcases DE i M.length with q|q
   .rw[AJ q]at hu;exact .inr hu
   .have:=(AG.mp hu).1;rw[AU,List.length_singleton]at this;have:i=M.length:=by omega
    subst this;rw[zt]at hu;cases hu;exact .inl ⟨[],rfl⟩
  .rw[hput]at hd;by_cases hgg:goal=g
   .subst hgg;rw[AB rfl]at hd;cases hd;exact ⟨M.length,rfl,hlo2,by rw[AZ (by omega),e0];simp⟩
   .rw[AE hgg]at hd;obtain ⟨j,rfl,hj,ej⟩:=h1 g d hd;exact ⟨j,rfl,hj,by rw[AZ (by omega),AJ (AG.mp ej).1];exact ej⟩
  .rw[hput]at hd;by_cases hgg:goal=g
   .rw[AB hgg]at hd;cases hd
   .rw[AE hgg]at hd;exact h2 g hd
  .rw[hput]at hd hd';by_cases a:goal=g
   .by_cases b:goal=g'
    .rw[<-a,<-b]
    .rw[AB a]at hd;rw[AE b]at hd';cases hd;obtain ⟨j,e,_,ej⟩:=h1 g' _ hd';cases e;exact absurd (AG.mp ej).1 (BZ _)
   .rw[AE a]at hd;by_cases b:goal=g'
    .rw[AB b]at hd';cases hd';obtain ⟨j,e,_,ej⟩:=h1 g _ hd;cases e;exact absurd (AG.mp ej).1 (BZ _)
    .rw[AE b]at hd';exact h3 g g' j hd hd'
noncomputable abbrev jnT (J:Ya):List (List Int × D):=J.map λp=>(p,D.bl true)
def KQ:(zI (jnT J) p).isSome=true ↔ p∈J:=by
 rw[Gs,Ax];show p∈J.map (λp=>p) ↔ _;rw[List.map_id']
structure Jn (zA:Ya) (B M:Mem) (jA jF jJ:Nat) (ps:List (List Int × Int)) (F J:Ya):Prop where
 a:Sr zA M jA (B.length-1) ps
 ad:∀ T,M[jA]?=some (dT T) -> ∀ q∈T,∃ j,q.2=.ref j/\j<M.length
 f:M[jF]?=some (.lst (F.map tI))
 j:M[jJ]?=some (dT (jnT J))
 len:B.length<=M.length
 fr:∀ i,i<B.length->i≠jA->i≠jF->i≠jJ->M[i]?=B[i]?
 wf:∀ (i:Nat) u,B.length<=i->M[i]?=some u -> ∃ ts:List (List Int),u=.lst (ts.map tI)
noncomputable def C4 (st:List (List Int) × List (List Int)) (p:Ye):List (List Int) × List (List Int):=if p∈st.2 then st else (st.1++[p],st.2++[p])
def PU {zA:Ya} {B M:Mem} {jA jF jJ:Nat} {ps:List (List Int × Int)} {F J:Ya} (h:Jn zA B M jA jF jJ ps F J) (dA:jA<B.length-1) (dF:jF<B.length-1) (dJ:jJ<B.length-1) (n1:jA≠jF) (n2:jA≠jJ) (n3:jF≠jJ) (zF:F.length<5000) (zJ:J.length<5000)
  {Y:Sd} {i4 i3 i2:Nat} {p:Ye} (v4:∀ M,zC i4 Y M=some (.dat (tI p),M)) (v3:∀ M,zC i3 Y M=some (.dat (.ref jJ),M)) (v2:∀ M,zC i2 Y M=some (.dat (.ref jF),M)) :
  OkS (sIf (tst (fOp (Ag true) (zC i4) (zC i3))) (zX (CC (fC (.bl true)) (zC i3) (zC i4)) (Az (fM z0 (zC i2) (zD (toD (zC i4)) zE)))) Ah Y M) λo Y' M'=>o=.nx/\Y'=Y/\Jn zA B M' jA jF jJ ps (C4 (F,J) p).1 (C4 (F,J) p).2/\M'.length=M.length /\ ∀ i,i≠jF->i≠jJ->M'[i]?=M[i]?:=by
 have e1:=zS (k:=Ag true) (v4 M) (v3 M) (FU h.j);rw[AB rfl]at e1;rw[CO];refine zG (BL e1) ?_;unfold C4;by_cases hp:p∈J
 .rw[KQ.mpr hp,AB hp];rw[Cr];exact ⟨rfl,rfl,h,rfl,λ_ _ _=>rfl⟩
 .have hn:(zI (jnT J) p).isSome=false:=by
   cases e:(zI (jnT J) p).isSome with
   |false=>rfl
   |true=>exact absurd (KQ.mp e) hp
  rw[hn,AE hp];rw[zK];have hF:=h.f;have hJl:=(AG.mp h.j).1;have hFl:=(AG.mp h.f).1;refine iE (v:=.bl true) rfl (v3 _) (v4 _) (Ip h.j (by rw[AH];omega)) ?_;have hnk:p∉(jnT J).map (·.1):=λz=>hp (KQ.mp (Gs.mpr z));rw[QJ hnk,zU,ER];have hF2:(M.set jJ (dT (jnT J++[(p,.bl true)])))[jF]?=some (.lst (F.map tI)):=by rw[AZ (Ne.symm n3)];exact h.f
  refine EN.mpr (zG (v2 _) ⟨⟨_,Cv hF2⟩,zG (zY (v4 _)) ((Gh hF2 (by rw[AH];exact As (m:=5000) zF (zm (by omega)))).mpr ?_)⟩);have fr:∀ i,i≠jF->i≠jJ->((M.set jJ (dT (jnT J++[(p,.bl true)]))).set jF (.lst (F.map tI++[tI p])))[i]?=M[i]?:=λi q1 q2=>by
   rw[AZ (Ne.symm q1),AZ (Ne.symm q2)]
  refine ⟨rfl,rfl,⟨h.a.frame λi hi=>fr i (by omega) (by omega),λT e q hq=>by rw[Bh,Bh];exact h.ad T ((fr jA n1 n2).symm.trans e) q hq,?_,?_,by simp;exact h.len,λi hi q1 q2 q3=>(fr i q2 q3).trans (h.fr i hi q1 q2 q3),λi u hi hu=>h.wf i u hi ((fr i (by omega) (by omega)).symm.trans hu)⟩,by simp,fr⟩
  .rw[CK (by rw[Bh];exact hFl)];simp
  .rw[AZ n3,CK hJl];simp
theorem GB:∀ (qs:Ya) (F J:Ya),∃ new:List (List Int),qs.foldl C4 (F,J)=(F++new,J++new)/\new.Nodup/\(∀ p∈new,p∈qs/\p∉J) /\ ∀ p∈qs,p∈J++new
 |[],F,J=>⟨[],by simp,by simp,(λ_ h=>by cases h),(λ_ h=>by cases h)⟩
 |q::qs,F,J=>by
  by_cases h:q∈J
  .obtain ⟨new,e,nd,h1,h2⟩:=GB qs F J;refine ⟨new,?_,nd,λp hp=>⟨Ai _ (h1 p hp).1,(h1 p hp).2⟩,λp hp=>?_⟩
   .rw[List.foldl_cons,show C4 (F,J) q=(F,J)from AB h];exact e
   .rcases AK.mp hp with rfl|z
    .exact Cc _ h
    .exact h2 p z
  .obtain ⟨new,e,nd,h1,h2⟩:=GB qs (F++[q]) (J++[q]);refine ⟨q::new,?_,List.nodup_cons.mpr ⟨λz=>(h1 q z).2 (by simp),nd⟩,λp hp=>?_,λp hp=>?_⟩
   .rw[List.foldl_cons,show C4 (F,J) q=(F++[q],J++[q])from AE h,e];simp
   .rcases AK.mp hp with rfl|z
    .exact ⟨Ae,h⟩
    .exact ⟨Ai _ (h1 p z).1,λy=>(h1 p z).2 (Cc _ y)⟩
   .rcases AK.mp hp with rfl|z
    .simp
    .have:=h2 p z;simpa using this
noncomputable def isP (zA:Ya) (q:List Int × Int):Bool:=decide ((setR zA q.1 q.2).length=2)
noncomputable def psP (zA:Ya) (ps:List (List Int × Int)):List (List Int × Int):=ps.filter (isP zA)
noncomputable def jf (zA:Ya) (ps:List (List Int × Int)):List (List Int) × List (List Int):=((ps.filter λq=> !isP zA q).map (·.1)).foldl C4 ([],[])
def PY (zA:Ya) (ps:List (List Int × Int)) (q:List Int × Int):psP zA (ps++[q])=psP zA ps++(if isP zA q then [q] else []):=by
 unfold psP;rw[List.filter_append];congr 1;cases h:isP zA q with
 |true=>rw[List.filter_cons_of_pos h];rfl
 |false=>rw[List.filter_cons_of_neg (by simp[h])];rfl
def OA (zA:Ya) (ps:List (List Int × Int)) (q:List Int × Int):jf zA (ps++[q])=if isP zA q then jf zA ps else C4 (jf zA ps) q.1:=by
 unfold jf;rw[List.filter_append,Bq,EE];cases h:isP zA q with
 |true=>rw[List.filter_cons_of_neg (by simp[h])];rfl
 |false=>rw[List.filter_cons_of_pos (by simp[h])];rfl
def LG (zA:Ya) (ps:List (List Int × Int)):(jf zA ps).1=(jf zA ps).2/\(jf zA ps).2.Nodup /\ ∀ p,p∈(jf zA ps).2 ↔ ∃ x,(p,x)∈ps/\isP zA (p,x)=false:=by
 obtain ⟨new,e,nd,h1,h2⟩:=GB ((ps.filter λq=> !isP zA q).map (·.1)) [] [];have e':jf zA ps=([]++new,[]++new):=e;rw[e'];refine ⟨rfl,by simpa using nd,λp=>?_⟩;have mem:p∈(ps.filter λq=> !isP zA q).map (·.1) ↔ ∃ x,(p,x)∈ps/\isP zA (p,x)=false:=by
  rw[Ac];constructor
  .rintro ⟨⟨p',x⟩,hq,rfl⟩;obtain ⟨a,b⟩:=DD.mp hq;exact ⟨x,a,by simpa using b⟩
  .rintro ⟨x,a,b⟩;exact ⟨(p,x),DD.mpr ⟨a,by simpa using b⟩,rfl⟩
 rw[<-mem];constructor
 .intro h;exact (h1 p (by simpa using h)).1
 .intro h;exact h2 p h
def U3 (zA:Ya) {P:Ya} (h:∀ q∈ps,q.1∈P):(jf zA ps).2.length<=P.length:=by
 obtain ⟨_,nd,mem⟩:=LG zA ps;exact Fe _ _ nd λp hp=>by obtain ⟨x,hx,_⟩:=(mem p).mp hp;exact h _ hx
def XM {zA:Ya} {l:Nat} (m:IsM zA l) {B M:Mem} {jA jF jJ:Nat} {ps:List (List Int × Int)} (h:Jn zA B M jA jF jJ (psP zA ps) (jf zA ps).1 (jf zA ps).2) (dA:jA<B.length-1) (dF:jF<B.length-1) (dJ:jJ<B.length-1) (n1:jA≠jF) (n2:jA≠jJ) (n3:jF≠jJ) (zP:ps.length<50000) (zJ:(jf zA ps).2.length<5000)
  {p:Ye} (hp:p∈zL (zH zA)) {x:Int} (x0:0<=x) (x1:x<l) {y6:Option D} :
  OkS (zX (zi 6 (zO Gm (zD (toD (zC 0)) (zD (toD (zC 4)) (zD (toD (zC 5)) zE))))) (sIf (tst (fOp kLt (fOp kIx (zC 6) (fC (.int 0))) (fOp kIx (zC 6) (fC (.int 1))))) (Az (fM z0 (EH (zC 1) (zC 6) (AM zE)) (zD (toD (zC 4)) zE))) (sIf (tst (fOp (Ag true) (zC 4) (zC 3))) (zX (CC (fC (.bl true)) (zC 3) (zC 4)) (Az (fM z0 (zC 2) (zD (toD (zC 4)) zE)))) Ah)) [some (mD zA),some (.ref jA),some (.ref jF),some (.ref jJ),some (tI p),some (.int x),y6] M)
   λo Y' M'=>o=.nx/\(∃ y,Y'=[some (mD zA),some (.ref jA),some (.ref jF),some (.ref jJ),some (tI p),some (.int x),y])/\Jn zA B M' jA jF jJ (psP zA (ps++[(p,x)])) (jf zA (ps++[(p,x)])).1 (jf zA (ps++[(p,x)])).2:=by
 obtain ⟨a,b,rfl,ha,hb,hlt⟩:=Dx.mp hp;have ha':=Ea.mp ha;have hb':=Ea.mp hb;refine Bg (zc (zV (d:=mD zA) rfl (zV (d:=tI [a,b]) rfl (zY (d:=.int x) rfl))) (WO m ha'.1 ha'.2 hb'.1 hb'.2 x0 x1)) ?_;generalize hu:BS zA a x=u;generalize hv:BS zA b x=v;have hs:setR zA [a,b] x=ris [u,v]:=by rw[<-hu,<-hv];rfl
 show OkS (sIf _ _ _ [some (mD zA),some (.ref jA),some (.ref jF),some (.ref jJ),some (tI [a,b]),some (.int x),some (tI (Bp u v))] M) _;generalize hσ:[some (mD zA),some (D.ref jA),some (.ref jF),some (.ref jJ),some (tI [a,b]),some (.int x),some (tI (Bp u v))]=Y;have v6:∀ M,zC 6 Y M=some (.dat (tI (Bp u v)),M):=λM=>by rw[<-hσ];rfl
 have v4:∀ M,zC 4 Y M=some (.dat (tI [a,b]),M):=λM=>by rw[<-hσ];rfl
 have v3:∀ M,zC 3 Y M=some (.dat (.ref jJ),M):=λM=>by rw[<-hσ];rfl
 have v2:∀ M,zC 2 Y M=some (.dat (.ref jF),M):=λM=>by rw[<-hσ];rfl
 have v1:∀ M,zC 1 Y M=some (.dat (.ref jA),M):=λM=>by rw[<-hσ];rfl
 have et:tst (fOp kLt (fOp kIx (zC 6) (fC (.int 0))) (fOp kIx (zC 6) (fC (.int 1)))) Y M=some (decide (u≠v),M):=by
  refine BL ((zS (x:=.dat (.int ((Bp u v).getD 0 0))) (y:=.dat (.int ((Bp u v).getD 1 0))) (zS (y:=.dat (.int 0)) (v6 M) rfl (Ce BK rfl)) (zS (y:=.dat (.int 1)) (v6 M) rfl (Ce BK rfl)) (zW (Jq.mpr ⟨rfl,rfl⟩))).trans ?_);rw[decide_eq_decide.mpr UI]
 rw[CO];refine zG et ?_;by_cases huv:u=v
 .rw[Aa (by simpa using huv),AE (by decide)];have hp1:isP zA ([a,b],x)=false:=by
   unfold isP;rw[hs,Aa];rw[huv,show ris [v,v]=ris [v]from JD (by simp),JB (by simp)];simp
  rw[PY,OA,hp1];have hj1:=(LG zA ps).1;refine OkS.mono (PU h dA dF dJ n1 n2 n3 (by rw[hj1];exact zJ) zJ v4 v3 v2) ?_;rintro o Y' M' ⟨rfl,rfl,hj,_,_⟩;refine ⟨rfl,⟨_,hσ.symm⟩,?_⟩;simpa using hj
 .rw[BB (by simpa using huv),AB rfl];have hgo:setR zA [a,b] x=Bp u v:=by rw[hs,Xm huv]
  have hp1:isP zA ([a,b],x)=true:=by
   unfold isP;rw[hgo];exact BB rfl
  rw[PY,OA,hp1];have hlen:=h.len;have hpl:(psP zA ps).length<=ps.length:=GA _ _;refine OkS.mono (iR (by omega) (by omega) (by omega) h.a h.ad hgo v1 v6 v4) ?_;rintro o Y' M' ⟨rfl,rfl,sr,had,hl',fr,wf⟩;refine ⟨rfl,⟨_,hσ.symm⟩,⟨by simpa using sr,had,(fr jF (by omega) (Ne.symm n1)).trans h.f,(fr jJ (by omega) (Ne.symm n2)).trans h.j,by omega,λi hi q1 q2 q3=>(fr i (by omega) q1).trans (h.fr i hi q1 q2 q3),λi u hi hu=>?_⟩⟩;rcases wf i u (by omega) hu with z|z
  .exact z
  .exact h.wf i u hi z
def V4 (m:IsM zA l) (hR:zA.length<=26) (hl:l<=12) (h0:Jn zA B B jA jF jJ [] [] []) (dA:jA<B.length-1) (dF:jF<B.length-1) (dJ:jJ<B.length-1) (n1:jA≠jF) (n2:jA≠jJ) (n3:jF≠jJ)
  (hP:B[jP]?=some (.lst ((zL (zH zA)).map tI))) (p1:jP≠jA) (p2:jP≠jF) (p3:jP≠jJ) :
  OkS (Cy (gN 4) (BU (A0 (zD (toD (fB AR (zN (fOp kIx (zC 0) (fC (.int 0))) zd))) zE)) (gN 5) (zX (zi 6 (zO Gm (zD (toD (zC 0)) (zD (toD (zC 4)) (zD (toD (zC 5)) zE))))) (sIf (tst (fOp kLt (fOp kIx (zC 6) (fC (.int 0))) (fOp kIx (zC 6) (fC (.int 1))))) (Az (fM z0 (EH (zC 1) (zC 6) (AM zE)) (zD (toD (zC 4)) zE))) (sIf (tst (fOp (Ag true) (zC 4) (zC 3))) (zX (CC (fC (.bl true)) (zC 3) (zC 4)) (Az (fM z0 (zC 2) (zD (toD (zC 4)) zE)))) Ah)))) ((zL (zH zA)).map tI) (B9 (.dat (.ref jP)) ((zL (zH zA)).map tI)) ((zL (zH zA)).map tI) [some (mD zA),some (.ref jA),some (.ref jF),some (.ref jJ),y4,y5,y6] B)
   λo Y' M'=>o=.nx/\(∃ y4 y5 y6,Y'=[some (mD zA),some (.ref jA),some (.ref jF),some (.ref jJ),y4,y5,y6])/\Jn zA B M' jA jF jJ (psP zA (zh l (zL (zH zA)))) (jf zA (zh l (zL (zH zA)))).1 (jf zA (zh l (zL (zH zA)))).2:=by
 have hPl:=Ho hR;have hpl:=(AG.mp hP).1;generalize hQ:zL (zH zA)=P at hP hPl ⊢;have mem1:∀ (us:Ya),(∀ p∈us,p∈P) -> ∀ q∈zh l us,q.1∈P:=λus hu q hq=>by
  unfold zh at hq;obtain ⟨p,hp,hq⟩:=F6.mp hq;obtain ⟨x,_,rfl⟩:=Ac.mp hq;exact hu p hp
 refine Dk (I:=λr Y M'=>(∃ y4 y5 y6,Y=[some (mD zA),some (.ref jA),some (.ref jF),some (.ref jJ),y4,y5,y6]) /\ ∃ us vs:List (List Int),P=us++vs/\r=vs.map tI/\Jn zA B M' jA jF jJ (psP zA (zh l us)) (jf zA (zh l us)).1 (jf zA (zh l us)).2) ?_ ?_ _ _ _ ⟨⟨_,_,_,rfl⟩,[],P,rfl,rfl,h0⟩
 .rintro x r Y M' ⟨⟨y4,y5,y6,rfl⟩,us,vs,hab,hr,jn⟩;cases vs with
  |nil=>cases hr
  |cons p vs=>
   rw[AX]at hr;obtain ⟨rfl,rfl⟩:=Cd hr;have hpm:p∈P:=by rw[hab];simp
   have hul:us.length<P.length:=by have:=Bf List.length hab;simp at this;omega
   refine ⟨.inl ((jn.fr jP hpl p1 p2 p3).trans hP),_,rfl,?_⟩;rw[DB];refine ⟨_,_,_,E4 (GL m rfl) (by omega) (by omega),?_⟩;rw[show (l:Int).toNat=l by omega];have husP:∀ q∈us,q∈P:=λq hq=>by rw[hab];simp[hq]
   refine IA (n:=l) (I:=λi Y M''=>(∃ y5 y6,Y=[some (mD zA),some (.ref jA),some (.ref jF),some (.ref jJ),some (tI p),y5,y6])/\Jn zA B M'' jA jF jJ (psP zA (zh l us++(List.range i).map λ(x:Nat)=>(p,(x:Int)))) (jf zA (zh l us++(List.range i).map λ(x:Nat)=>(p,(x:Int)))).1 (jf zA (zh l us++(List.range i).map λ(x:Nat)=>(p,(x:Int)))).2) ?_ ?_ _ _ ⟨⟨_,_,rfl⟩,by simpa using jn⟩
   .rintro i Y M2 hi ⟨⟨y5,y6,rfl⟩,jn2⟩;refine ⟨_,rfl,?_⟩;have hcount:(zh l us++(List.range i).map λ(x:Nat)=>(p,(x:Int))).length<50000:=by
     rw[AU,Kb,AH,Ey];have:=Cq (show us.length<=676 by omega) hl;omega
    have hjl:=U3 zA (ps:=zh l us++(List.range i).map λ(x:Nat)=>(p,(x:Int))) (P:=P) λq hq=>by
     rcases Ak.mp hq with z|z
     .exact mem1 us husP q z
     .obtain ⟨y,_,rfl⟩:=Ac.mp z;exact hpm
    refine OkS.mono (XM m jn2 dA dF dJ n1 n2 n3 hcount (by omega) (by rw[hQ];exact hpm) (x:=(i:Int)) (by omega) (by omega)) ?_;rintro o Y' M3 ⟨rfl,⟨y,rfl⟩,jn3⟩;refine ⟨⟨_,_,rfl⟩,?_⟩;rw[List.range_succ,Bq,<-Bm];exact jn3
   .rintro Y M2 ⟨⟨y5,y6,rfl⟩,jn2⟩;refine ⟨⟨_,_,_,rfl⟩,us++[p],vs,by rw[hab];simp,rfl,?_⟩;have:zh l (us++[p])=zh l us++(List.range l).map λ(x:Nat)=>(p,(x:Int)):=by
     unfold zh;rw[List.flatMap_append];simp
    rw[this];exact jn2
 .rintro Y M' ⟨⟨y4,y5,y6,rfl⟩,us,vs,hab,hr,jn⟩;have:vs=[]:=by cases vs with|nil=>rfl|cons _ _=>cases hr
  subst this;rw[Au]at hab;subst hab;exact ⟨.inl ((jn.fr jP hpl p1 p2 p3).trans hP),rfl,⟨_,_,_,rfl⟩,jn⟩
structure Cl (zA:Ya) (l:Nat) (F J:Ya):Prop where
 nf:F.Nodup
 nj:J.Nodup
 sub:∀ p∈F,p∈J
 real:∀ p∈J,p∈zL (zH zA) /\ ∃ n,Dst zA l One p (n+1)
 base:∀ p∈zL (zH zA),∀ x:Int,0<=x->x<(l:Int)->One (setR zA p x)->p∈J
 clo:∀ q∈J,q∉F -> ∀ p∈BA zA (psP zA (zh l (zL (zH zA)))) q,p∈J
def Px:p∈BA zA (psP zA (zh l (zL (zH zA)))) q ↔ p∈zL (zH zA)/\q.length=2 /\ ∃ x:Int,(0<=x/\x<(l:Int))/\setR zA p x=q:=by
 unfold BA psP zh isP;simp only[Ac,DD,F6,Bk,Bx];constructor
 .rintro ⟨s,⟨⟨⟨p',hp,k,hk,rfl⟩,h2⟩,hq⟩,rfl⟩;exact ⟨hp,by rw[<-hq];exact h2,(k:Int),⟨by omega,by omega⟩,hq⟩
 .rintro ⟨hp,h2,x,⟨x0,x1⟩,hq⟩;refine ⟨(p,x),⟨⟨⟨p,hp,x.toNat,by omega,?_⟩,by rw[hq];exact h2⟩,hq⟩,rfl⟩;rw[show ((x.toNat:Nat):Int)=x by omega]
def Qi (u:Th zA t):t.length=1\/t.length=2:=by
 have:=u.1.n0;have:=u.2;omega
def V6 (m:IsM zA l):Cl zA l (jf zA (zh l (zL (zH zA)))).1 (jf zA (zh l (zL (zH zA)))).2:=by
 obtain ⟨e,nd,mem⟩:=LG zA (zh l (zL (zH zA)));have ms:∀ {p:Ye} {x:Int},(p,x)∈zh l (zL (zH zA)) ↔ p∈zL (zH zA)/\0<=x/\x<(l:Int):=by
  intro p x;unfold zh;simp only[F6,Ac,Bk,Prod.mk.injEq];constructor
  .rintro ⟨p',hp,k,hk,rfl,rfl⟩;exact ⟨hp,by omega,by omega⟩
  .rintro ⟨hp,h0,h1⟩;exact ⟨p,hp,x.toNat,by omega,rfl,by omega⟩
 rw[e];refine ⟨nd,nd,λp h=>h,λp hp=>?_,λp hp x x0 x1 h1=>?_,λq hq hn=>absurd hq hn⟩
 .obtain ⟨x,hx,hi⟩:=(mem p).mp hp;obtain ⟨hpp,x0,x1⟩:=ms.mp hx;have u:=D8 m p x (EB p hpp) ⟨x0,x1⟩;have h2:¬ (setR zA p x).length=2:=of_decide_eq_false hi;have h1:One (setR zA p x):=(Qi u).elim id λz=>absurd z h2;refine ⟨hpp,0,E7.mpr ⟨λk hk hr=>?_,x,⟨x0,x1⟩,Dv.mpr h1⟩⟩;have:k=0:=by omega
  subst this;have:=LJ.mp hr;obtain ⟨a,b,rfl,_⟩:=Dx.mp hpp;exact absurd this (by simp[One])
 .refine (mem p).mpr ⟨x,ms.mpr ⟨hp,x0,x1⟩,Aa ?_⟩;rw[show (setR zA p x).length=1 from h1];decide
def gA (m:IsM zA l) (c:Cl zA l (F++[q]) J):Cl zA l ((BA zA (psP zA (zh l (zL (zH zA)))) q).foldl C4 (F,J)).1 ((BA zA (psP zA (zh l (zL (zH zA)))) q).foldl C4 (F,J)).2:=by
 obtain ⟨new,e,nd,h1,h2⟩:=GB (BA zA (psP zA (zh l (zL (zH zA)))) q) F J;rw[e];have nf:=c.nf;rw[DH]at nf;obtain ⟨nF,_,hFq⟩:=nf;have hqF:q∉F:=λz=>hFq q z q (by simp) rfl;have hqJ:q∈J:=c.sub q (by simp);refine ⟨?_,?_,λp hp=>?_,λp hp=>?_,λp hp x x0 x1 h=>Cc _ (c.base p hp x x0 x1 h),λq2 hq2 hn p hp=>?_⟩
 .rw[DH];exact ⟨nF,nd,λa ha b hb z=>(h1 b hb).2 (z▸c.sub a (by simp[ha]))⟩
 .rw[DH];exact ⟨c.nj,nd,λa ha b hb z=>(h1 b hb).2 (z▸ha)⟩
 .rcases Ak.mp hp with z|z
  .exact Cc _ (c.sub p (by simp[z]))
  .exact Ap _ z
 .rcases Ak.mp hp with z|z
  .exact c.real p z
  .obtain ⟨hpp,_,x,hx,hs⟩:=Px.mp (h1 p z).1;obtain ⟨_,n,hn⟩:=c.real q hqJ;have hr:Rch zA l One p (n+2):=Jm.mpr ⟨x,hx,by rw[hs];exact hn.1⟩;obtain ⟨k,_,hk⟩:=Qg _ hr;cases k with
   |zero=>
    have:=Dv.mp hk;obtain ⟨a,b,rfl,_⟩:=Dx.mp hpp;exact absurd this (by simp[One])
   |succ k=>exact ⟨hpp,k,hk⟩
 .have hqJ2:q2∈J:=(Ak.mp hq2).elim id λz=>absurd (Ap _ z) hn;by_cases hqq:q2=q
  .rw[hqq]at hp;exact h2 p hp
  .refine Cc _ (c.clo q2 hqJ2 (λz=>?_) p hp);rcases Ak.mp z with y|y
   .exact hn (Cc _ y)
   .exact hqq (by simpa using y)
def jY (m:IsM zA l) (c:Cl zA l [] J) (p:Ye):p∈J ↔ p∈B7 zA l One:=by
 rw[HR];constructor
 .exact c.real p
 .rintro ⟨hp,n,hn⟩;induction n generalizing p with
  |zero=>
   obtain ⟨_,x,hx,hd⟩:=E7.mp hn;exact c.base p hp x hx.1 hx.2 (Dv.mp hd)
  |succ n ih=>
   obtain ⟨_,x,hx,hd⟩:=E7.mp hn;have u:=D8 m p x (EB p hp) hx;have h1:¬ One (setR zA p x):=λz=>by have:=ES (Dv.mpr z) hd;omega
   have hq:=Nn _ u h1;have hin:=ih (setR zA p x) hq hd;exact c.clo _ hin (by simp) p (Px.mpr ⟨hp,(Qi u).elim (λz=>absurd z h1) id,x,hx,rfl⟩)
def Sr.frame' {zA:Ya} {M M':Mem} {jd lo:Nat} {ps:List (List Int × Int)} (sr:Sr zA M jd lo ps) (h:∀ j u,j=jd\/lo<j->M[j]?=some u->M'[j]?=some u):Sr zA M' jd lo ps:=by
 obtain ⟨T,ed,hT,h1,h2,h3⟩:=sr.ex;refine ⟨T,h jd _ (.inl rfl) ed,hT,λg d hd=>?_,h2,h3⟩;obtain ⟨j,rfl,hj,ej⟩:=h1 g d hd;exact ⟨j,rfl,hj,h j _ (.inr hj) ej⟩
def Jn.pop {zA:Ya} {B M:Mem} {jA jF jJ:Nat} {ps:List (List Int × Int)} {F J:Ya} {q:Ye} (h:Jn zA B M jA jF jJ ps (F++[q]) J) (dF:jF<B.length-1) (n1:jA≠jF) (n3:jF≠jJ):Jn zA B (M.set jF (.lst (F.map tI))++[.lst []]) jA jF jJ ps F J:=by
 have hFl:=(AG.mp h.f).1;have hlen:=h.len;have get:∀ {i:Nat} {u:MO},i≠jF->M[i]?=some u->(M.set jF (.lst (F.map tI))++[MO.lst []])[i]?=some u:=λ{i u} hi e=>by
  rw[AJ (by rw[Bh];exact (AG.mp e).1),AZ (Ne.symm hi)];exact e
 obtain ⟨T0,ed,_⟩:=h.a.ex;refine ⟨h.a.frame' λi u hi e=>get (by omega) e,λT e q' hq=>?_,?_,get (Ne.symm n3) h.j,by simp;omega,λi hi q1 q2 q3=>?_,λi u hi hu=>?_⟩
 .have eA:=get n1 ed;rw[e]at eA;have eT:Bz T=Bz T0:=MO.dicT.inj (CB eA);have hm:(tI q'.1,q'.2)∈Bz T:=Ac.mpr ⟨q',hq,rfl⟩;rw[eT]at hm;obtain ⟨q2,hq2,e2⟩:=Ac.mp hm;obtain ⟨j,h1,h2⟩:=h.ad T0 ed q2 hq2;exact ⟨j,by rw[<-h1];exact (Bf Prod.snd e2).symm,by simp;omega⟩
 .rw[AJ (by rw[Bh];exact hFl),CK hFl]
 .rw[AJ (by rw[Bh];omega),AZ (Ne.symm q2)];exact h.fr i hi q1 q2 q3
 .rcases DE i M.length with z|z
  .rw[AJ (by rw[Bh];exact z),AZ (by omega)]at hu;exact h.wf i u hi hu
  .have:=(AG.mp hu).1;rw[AU,Bh,List.length_singleton]at this;have:i=(M.set jF (MO.lst (F.map tI))).length:=by rw[Bh];omega
   subst this;rw[zt]at hu;cases hu;exact ⟨[],rfl⟩
def Mz (hR:zA.length<=26) (c:Cl zA l F J):J.length<=676/\F.length<=J.length :=
 ⟨AW (Fe _ _ c.nj λp hp=>(c.real p hp).1) (Ho hR),Fe _ _ c.nf c.sub⟩
def fA (m:IsM zA l) (hR:zA.length<=26) (dA:jA<B.length-1) (dF:jF<B.length-1) (dJ:jJ<B.length-1) (n1:jA≠jF) (n2:jA≠jJ) (n3:jF≠jJ) (h:Jn zA B M jA jF jJ (psP zA (zh l (zL (zH zA)))) F J) (c:Cl zA l F J) :
  OkS (CM (tst (fOp kNe (zC 2) (AM zE))) (BU (AO (CH (zC 1) (Ef (zC 2)) (AM zE))) (gN 4) (sIf (tst (fOp (Ag true) (zC 4) (zC 3))) (zX (CC (fC (.bl true)) (zC 3) (zC 4)) (Az (fM z0 (zC 2) (zD (toD (zC 4)) zE)))) Ah)) 1000 [some (mD zA),some (.ref jA),some (.ref jF),some (.ref jJ),y4,y5,y6] M)
   λo Y' M'=>o=.nx/\(∃ y4 y5 y6,Y'=[some (mD zA),some (.ref jA),some (.ref jF),some (.ref jJ),y4,y5,y6]) /\ ∃ J',Jn zA B M' jA jF jJ (psP zA (zh l (zL (zH zA)))) [] J'/\Cl zA l [] J':=by
 have hl0:=Mz hR c;refine GF (I:=λz Y M'=>∃ (F J:Ya) (y4 y5 y6:Option D),Y=[some (mD zA),some (.ref jA),some (.ref jF),some (.ref jJ),y4,y5,y6]/\Jn zA B M' jA jF jJ (psP zA (zh l (zL (zH zA)))) F J/\Cl zA l F J/\z=F.length+(676-J.length)) ?_ 1000 (F.length+(676-J.length)) _ _ (by omega) ⟨F,J,y4,y5,y6,rfl,h,c,rfl⟩;rintro z Y M' ⟨F,J,y4,y5,y6,rfl,h,c,rfl⟩;have hlc:=Mz hR c;have et:tst (fOp kNe (zC 2) (AM zE)) [some (mD zA),some (.ref jA),some (.ref jF),some (.ref jJ),y4,y5,y6] M'=some (!(F.map tI).isEmpty,M'):=by
  refine BL (zS (x:=.dat (.ref jF)) (y:=.fl []) rfl (CJ rfl (by simp)) (zW ((Oz (Cv h.f) (λd e=>by cases e;rfl)).mpr ⟨rfl,rfl⟩)))
 refine zG et ?_;rcases List.eq_nil_or_concat F with hF|⟨F',q,hF⟩
 .subst hF;exact ⟨rfl,⟨_,_,_,rfl⟩,J,h,c⟩
 .rw[List.concat_eq_append]at hF;subst hF;have hne:(!((F'++[q]).map tI).isEmpty)=true:=by simp
  rw[hne];obtain ⟨T,ed,hT,h1,h2,h3⟩:=h.a.ex;have hFl:=(AG.mp h.f).1;have hAl:=(AG.mp ed).1;have jp:=h.pop dF n1 n3;have ePop:toD (Ef (zC 2)) [some (mD zA),some (.ref jA),some (.ref jF),some (.ref jJ),y4,y5,y6] M'=some (tI q,M'.set jF (.lst (F'.map tI))):=by
   refine (show toD (Ef (zC 2)) [some (mD zA),some (.ref jA),some (.ref jF),some (.ref jJ),y4,y5,y6] M'=_ from ?_);unfold toD Ef;rw[show zC 2 [some (mD zA),some (.ref jA),some (.ref jF),some (.ref jJ),y4,y5,y6] M'=some (.dat (.ref jF),M')from rfl];dsimp only;rw[h.f];dsimp only;rw[show ((F'++[q]).map tI)[((F'++[q]).map tI).length-1]?=some (tI q) by simp,show ((F'++[q]).map tI).dropLast=F'.map tI by rw[Bq];simp]
  have ed3:(M'.set jF (.lst (F'.map tI))++[MO.lst []])[jA]?=some (dT T):=by
   rw[AJ (by rw[Bh];exact hAl),AZ (Ne.symm n1)];exact ed
  have eG:CH (zC 1) (Ef (zC 2)) (AM zE) [some (mD zA),some (.ref jA),some (.ref jF),some (.ref jJ),y4,y5,y6] M'=some (.dat ((zI T q).getD (.ref M'.length)),M'.set jF (.lst (F'.map tI))++[.lst []]):=by
   unfold CH;rw[show toD (zC 1) [some (mD zA),some (.ref jA),some (.ref jF),some (.ref jJ),y4,y5,y6] M'=some (.ref jA,M')from rfl];dsimp only;rw[ed];rw[ePop];dsimp only;rw[Er (CJ (rfl:zE _ (M'.set jF (.lst (F'.map tI)))=some ([],_)) (by simp))];dsimp only;rw[dgT ed3,Bh]
  obtain ⟨js,ejs,hjs,el⟩:∃ js,(zI T q).getD (.ref M'.length)=.ref js/\B.length<=js/\(M'.set jF (.lst (F'.map tI))++[MO.lst []])[js]?=some (.lst ((BA zA (psP zA (zh l (zL (zH zA)))) q).map tI)):=by
   have hlen:=h.len;cases e:zI T q with
   |some d=>
    obtain ⟨j,rfl,hj,ej⟩:=h1 q d e;have jl:=(AG.mp ej).1;exact ⟨j,rfl,by omega,by rw[AJ (by rw[Bh];exact jl),AZ (by omega)];exact ej⟩
   |none=>exact ⟨M'.length,rfl,hlen,by rw[h2 q e,show M'.length=(M'.set jF (.lst (F'.map tI))).length by rw[Bh],zt];rfl⟩
  rw[ejs]at eG;rw[DB];refine ⟨_,_,_,(show AO (CH (zC 1) (Ef (zC 2)) (AM zE)) [some (mD zA),some (.ref jA),some (.ref jF),some (.ref jJ),y4,y5,y6] M'=some ((BA zA (psP zA (zh l (zL (zH zA)))) q).map tI,B9 (.dat (.ref js)) ((BA zA (psP zA (zh l (zL (zH zA)))) q).map tI),M'.set jF (.lst (F'.map tI))++[.lst []]) by unfold AO;rw[eG];dsimp only;rw[zv el]),?_⟩;have cT:=gA m c;have hlT:=Mz hR cT;generalize hS:BA zA (psP zA (zh l (zL (zH zA)))) q=S at el cT hlT ⊢;have small:∀ us vs,S=us++vs->(us.foldl C4 (F',J)).2.length<=676/\(us.foldl C4 (F',J)).1.length<=1352:=λus vs e=>by
   obtain ⟨n1',e1,_⟩:=GB us F' J;obtain ⟨n2',e2,_⟩:=GB vs (F'++n1') (J++n1');rw[e,EE,e1,e2]at hlT;rw[e1];have hlc1:=hlc.2;simp only[AU,List.length_singleton]at hlT hlc1 ⊢;omega
  refine Dk (I:=λr Y M2=>∃ (us vs:Ya) (y4:Option D),Y=[some (mD zA),some (.ref jA),some (.ref jF),some (.ref jJ),y4,y5,y6]/\S=us++vs/\r=vs.map tI/\Jn zA B M2 jA jF jJ (psP zA (zh l (zL (zH zA)))) (us.foldl C4 (F',J)).1 (us.foldl C4 (F',J)).2/\M2[js]?=some (.lst (S.map tI))) ?_ ?_ _ _ _ ⟨[],S,y4,rfl,rfl,rfl,jp,el⟩
  .rintro x r Y M2 ⟨us,vs,y4,rfl,hab,hr,jn,eS⟩;cases vs with
   |nil=>cases hr
   |cons p vs=>
    rw[AX]at hr;obtain ⟨rfl,rfl⟩:=Cd hr;refine ⟨.inl eS,_,rfl,?_⟩;have sm:=small us (p::vs) hab;refine OkS.mono (PU (Y:=[some (mD zA),some (.ref jA),some (.ref jF),some (.ref jJ),some (tI p),y5,y6]) (p:=p) jn dA dF dJ n1 n2 n3 (by omega) (by omega) (λ_=>rfl) (λ_=>rfl) (λ_=>rfl)) ?_;rintro o Y' M3 ⟨rfl,rfl,jn3,_,fr⟩;refine ⟨us++[p],vs,_,rfl,by rw[hab];simp,rfl,?_,(fr js (by omega) (by omega)).trans eS⟩;rw[EE];exact jn3
  .rintro Y M2 ⟨us,vs,y4,rfl,hab,hr,jn,eS⟩;have:vs=[]:=by cases vs with|nil=>rfl|cons _ _=>cases hr
   subst this;rw[Au]at hab;subst hab;refine ⟨.inl eS,?_⟩;obtain ⟨new,e1,_⟩:=GB S F' J;refine ⟨_,?_,_,_,_,_,_,rfl,jn,cT,rfl⟩;rw[e1]at hlT ⊢;simp only[AU,List.length_singleton]at hlT ⊢;omega
noncomputable def Lm:FS:=(zX (zi 2 (Af [3] (AO (zO Dj (zD (toD (zC 1)) zE))) (gN 3) (tst (fOp (Ag false) (zC 3) (zC 0))) (zj (zD (toD (fOp kIx (fOp BH (zC 0) (zC 3)) (fC (.int 0)))) (zD (toD (zC 3)) zE)))))
  (AL (vIf (Gv (zC 2)) (fOp kIx (fB Hh (zN (zC 2) zd)) (fC (.int 1))) (fC .non))))
noncomputable def Hi:FF:=Ab 4 Lm
noncomputable def NV:FS:=(zX (zi 2 (zO Il (zD (toD (zC 0)) zE)))
  (zX (zi 3 (zC 1))
  (zX (zi 4 (zj zE))
  (zX (zi 5 (AM zE))
  (zX (zi 6 (zO Hi (zD (toD (zC 2)) (zD (toD (zC 3)) zE))))
  (zX (CM (tst (fOp (kIs true) (zC 6) (fC .non))) (zX (zi 7 (zO IW (zD (toD (zC 0)) (zD (toD (zC 2)) (zD (toD (zC 6)) zE)))))
  (zX (zi 3 (zO GN (zD (toD (zC 0)) (zD (toD (zC 3)) (zD (toD (zC 7)) zE)))))
  (zX (zi 4 (fOp zy (zC 4) (zC 7)))
  (zX (Az (fM z0 (zC 5) (zD (toD (zj (zD (toD (zC 6)) (zD (toD (fB AR (zN (zC 4) zd))) zE)))) zE)))
  (zi 6 (zO Hi (zD (toD (zC 2)) (zD (toD (zC 3)) zE)))))))) 100)
  (AL (zj (zD (toD (zC 4)) (zD (toD (fB CL (zN (zC 5) zd))) zE))))))))))
noncomputable def Ih:FF:=Dp (Ab 8 NV)
noncomputable def NX:FS:=(zX (zi 1 (zO Ek (zD (toD (zC 0)) zE)))
  (zX (zi 2 (fOp kIx (zO Ih (zD (toD (zC 0)) (zD (toD (zC 1)) zE))) (fC (.int 0))))
  (zX (zi 3 (zO GN (zD (toD (zC 0)) (zD (toD (zC 1)) (zD (toD (zC 2)) zE)))))
  (AL (zj (zD (toD (fB AR (zN (zC 3) zd))) (zD (toD (zC 2)) (zD (toD (zC 3)) zE))))))))
noncomputable def Hw:FF:=Dp (Ab 4 NX)
open Classical in
noncomputable def Cb (zA:Ya) (l:Nat) (p:Ye):Bool:=decide (p∈B7 zA l One)
noncomputable def npR (zA:Ya) (l:Nat) (p:Ye):NP:=((Cf zA l One p:Nat),p.getD 0 0,p.getD 1 0)
noncomputable def CQ (zA:Ya) (l:Nat) (S:Ye):List (List Int):=(zL S).filter (Cb zA l)
noncomputable def C9 (zA:Ya) (l:Nat) (S:Ye):Option (List Int):=match (CQ zA l S).map (npR zA l) with
 |[]=>none
 |t::ts=>some [(B6 t ts).2.1,(B6 t ts).2.2]
noncomputable def GP (zA:Ya) (l:Nat) (S:Ye):D:=match C9 zA l S with
 |none=> .non
 |some p=>tI p
def S7:C9 zA l S=none ↔ CQ zA l S=[]:=by
 unfold C9;cases h:CQ zA l S with
 |nil=>simp
 |cons a r=>simp
def Ou:p∈CQ zA l S ↔ p∈zL S/\p∈B7 zA l One:=by
 unfold CQ Cb;rw[DD,Bx]
def cC (h:C9 zA l S=some p):p∈CQ zA l S:=by
 unfold C9 at h;cases e:(CQ zA l S).map (npR zA l) with
 |nil=>rw[e]at h;cases h
 |cons t ts=>
  rw[e]at h;cases h;have hm:=Qn ts t;rw[<-e]at hm;obtain ⟨q,hq,eq⟩:=Ac.mp hm;rw[<-eq];obtain ⟨a,b,rfl,_⟩:=Dx.mp (Ou.mp hq).1;exact hq
def S6 (h:p∈zL S):npD (npR zA l p)=.tup [.int (Cf zA l One p:Nat),tI p]:=by
 obtain ⟨a,b,rfl,_⟩:=Dx.mp h;rfl
def D9 (s:IsS zA S):S.length<=zA.length:=MC (a:=0) s.pw λx hx=>by have:=s.mem x hx;omega
def Pm (hR:zA.length<=26) (hr:M[jr]?=some (dT (C6 zA l One))) (s:IsS zA S) :
  Ok (Hi [.ref jr,tI S] M) λd M'=>d=GP zA l S /\ ∃ us,M'=M++us:=by
 have hrl:=(AG.mp hr).1;have hS:=D9 s;unfold Hi;rw[zw];unfold Lm;have epr:=Jv (xs:=S) (by omega) (M:=M);have ei:AO (zO Dj (zD (toD (zC 1)) zE)) [some (.ref jr),some (tI S),none,none] M=_:=KJ (zY (d:=tI S) rfl) epr (zt _ _);have hPl:(zL S).length<=676:=AW (Fu S) (AW (Cq hS hS) (Cq hR hR));generalize hA:M++[MO.lst ((zL S).map tI)]=A at ei;have a1:A[M.length]?=some (.lst ((zL S).map tI)):=by rw[<-hA];simp
 have a2:A[jr]?=some (dT (C6 zA l One)):=by rw[<-hA,AJ hrl];exact hr
 have ef:=Hs (own:=[3]) (g:=gN 3) (tc:=tst (fOp (Ag false) (zC 3) (zC 0))) (te:=zj (zD (toD (fOp kIx (fOp BH (zC 0) (zC 3)) (fC (.int 0)))) (zD (toD (zC 3)) zE))) (zL S) tI (λp=> .tup [.int (Cf zA l One p:Nat),tI p]) (Cb zA l) ei (.inl a1) (by omega) (λp hp=>by
  refine ⟨[some (.ref jr),some (tI S),none,some (tI p)],rfl,?_,λhk=>?_⟩
  .have e1:fOp (Ag false) (zC 3) (zC 0) [some (.ref jr),some (tI S),none,some (tI p)] A=_:=zS (x:=.dat (tI p)) (y:=.dat (.ref jr)) rfl rfl (FU a2);rw[AE (by decide),JJ]at e1;rw[BL e1];unfold Cb;by_cases h:p∈B7 zA l One
   .rw[AB h,BB h];rfl
   .rw[AE h,Aa h];rfl
  .have h:p∈B7 zA l One:=D1 hk;have hlk:zI (C6 zA l One) p=some (FH zA l One p):=by rw[JJ,AB h]
   exact Cp (zV (zS (x:=.dat (FH zA l One p)) (y:=.dat (.int 0)) (zS (x:=.dat (.ref jr)) (y:=.dat (tI p)) rfl rfl (Gi a2 hlk)) rfl (Ce BK rfl)) (zY (d:=tI p) rfl)) (by simp))
 rw[zK,za];refine zG ef (zx ?_);rw[zU];have hmap:((zL S).filter (Cb zA l)).map (λp=>D.tup [.int (Cf zA l One p:Nat),tI p])=((CQ zA l S).map (npR zA l)).map npD:=by
  rw[Ax];exact List.map_congr_left λp hp=>(S6 (DD.mp hp).1).symm
 rw[hmap];generalize hB:A++[MO.lst (((CQ zA l S).map (npR zA l)).map npD)]=B;have b1:B[A.length]?=some (.lst (((CQ zA l S).map (npR zA l)).map npD)):=by rw[<-hB];simp
 have hus:∃ us,B=M++us:=⟨[MO.lst ((zL S).map tI)]++[MO.lst (((CQ zA l S).map (npR zA l)).map npD)],by rw[<-hB,<-hA,Bm]⟩;rw[CS,WZ];refine zG (OT (f:=zC 2) (Y:=[some (.ref jr),some (tI S),some (.ref A.length),none]) rfl b1) ?_;unfold GP C9;cases e:(CQ zA l S).map (npR zA l) with
 |nil=>
  refine zG (a:=.dat .non) (M:=B) rfl ?_;exact ⟨rfl,hus⟩
 |cons t ts=>
  rw[e]at b1;have em:fB Hh (zN (zC 2) zd) [some (.ref jr),some (tI S),some (.ref A.length),none] B=some (.dat (npD (B6 t ts)),B):=by
   unfold fB zN zd;rw[show zC 2 [some (.ref jr),some (tI S),some (.ref A.length),none] B=some (.dat (.ref A.length),B)from rfl];unfold Hh;dsimp only;rw[zv b1];dsimp only;rw[Rr]
  exact zG (zS (y:=.dat (.int 1)) em rfl (Ce (d:=tI [(B6 t ts).2.1,(B6 t ts).2.2]) BK rfl)) ⟨rfl,hus⟩
noncomputable def stD (q:List Int × Int):D:=.tup [tI q.1,.int q.2]
set_option genInjectivity true in
inductive Quick (zA:Ya) (l:Nat):Nat->List Int->List Int->List (List Int × Int)->Prop
 |nil {k:Nat} {S:Ye}:C9 zA l S=none->Quick zA l k S [] []
 |cons {k:Nat} {S p v w:Ye} {st:List (List Int × Int)}:C9 zA l S=some p->Climb zA l One p v->Quick zA l (k+v.length) (broR zA S v) w st->Quick zA l k S (v++w) ((p,((k+v.length:Nat):Int))::st)
def nW (s:IsS zA S) (h:p∈zL S):p∈zL (zH zA):=by
 obtain ⟨a,b,rfl,ha,hb,hlt⟩:=Dx.mp h;exact Dx.mpr ⟨a,b,rfl,Ea.mpr (s.mem a ha),Ea.mpr (s.mem b hb),hlt⟩
def VG (s:IsS zA S) (ha:a∈S) (hb:b∈S) (hne:a≠b) (he:BJ zA a v=BJ zA b v):(broR zA S v).length<S.length:=by
 rw[Ng s.pw];have nd:(ris (S.map λr=>BJ zA r v)).Nodup:=List.Pairwise.imp (λ{x y} h=>Int.ne_of_lt h) (HK _);have h1:=Fe _ ((S.erase b).map λr=>BJ zA r v) nd λx hx=>by
  obtain ⟨r,hr,rfl⟩:=Ac.mp ((Eg _ _).mp hx);by_cases q:r=b
  .subst q;exact Ac.mpr ⟨a,(List.mem_erase_of_ne hne).mpr ha,he⟩
  .exact Ac.mpr ⟨r,(List.mem_erase_of_ne q).mpr hr,rfl⟩
 rw[AH,List.length_erase_of_mem hb]at h1;have:=List.length_pos_of_mem hb;omega
def Jr (s:IsS zA S) (h:C9 zA l S=some p):p∈zL S/\p∈zL (zH zA) /\ ∃ n,Dst zA l One p (n+1):=by
 obtain ⟨h1,h2⟩:=Ou.mp (cC h);obtain ⟨h3,h4⟩:=HR.mp h2;exact ⟨h1,h3,h4⟩
def T6 (h:p∈zL S):∃ a b,p=[a,b]/\p=Bp a b/\a∈S/\b∈S/\a<b:=by
 obtain ⟨a,b,rfl,ha,hb,hlt⟩:=Dx.mp h;exact ⟨a,b,rfl,by unfold Bp;rw[AE (by omega),AB (by omega)],ha,hb,hlt⟩
def Nz (s:IsS zA S) (h:C9 zA l S=some p) (c:Climb zA l One p v):(broR zA S v).length<S.length:=by
 obtain ⟨h1,_,_⟩:=Jr s h;obtain ⟨a,b,rfl,hp,ha,hb,hlt⟩:=T6 h1;have hm:=(G3 c).2;rw[hp,ZL (by omega)]at hm;exact VG s ha hb (by omega) hm
theorem RK (m:IsM zA l):∀ (n k:Nat) {S:Ye},S.length<=n->IsS zA S -> ∃ w st,Quick zA l k S w st
 |0,k,S,h,s=>by have:=s.n0;omega
 |n+1,k,S,h,s=>by
  cases e:C9 zA l S with
  |none=>exact ⟨_,_,.nil e⟩
  |some p=>
   obtain ⟨_,_,j,hj⟩:=Jr s e;obtain ⟨v,c⟩:=Qe _ hj;have hlt:=Nz s e c;obtain ⟨w,st,q⟩:=RK m n (k+v.length) (S:=broR zA S v) (by omega) (m.broR v s (G3 c).1);exact ⟨_,_,.cons e c q⟩
theorem NL:∀ {k:Nat} {S w:Ye} {st:List (List Int × Int)},Quick zA l k S w st->Wd l w
 |_,_,_,_,.nil _=>λ_ h=>by cases h
 |_,_,_,_,.cons _ c q=>Iw (G3 c).1 (NL q)
theorem RW:∀ {k:Nat} {S w:Ye} {st:List (List Int × Int)},Quick zA l k S w st->C9 zA l (broR zA S w)=none
 |_,_,_,_,.nil e=>e
 |_,_,_,_,.cons _ c q=>by rw[VM];exact RW q
theorem KN (m:IsM zA l) (hR:zA.length<=26):∀ {k:Nat} {S w:Ye} {st:List (List Int × Int)},IsS zA S->Quick zA l k S w st->w.length<=676*S.length/\st.length<S.length
 |_,_,_,_,s,.nil _=>⟨by simp,s.n0⟩
 |_,S,_,_,s,.cons (v:=v) e c q=>by
  have hlt:=Nz s e c;obtain ⟨h1,h2⟩:=KN m hR (m.broR v s (G3 c).1) q;obtain ⟨_,hp,_⟩:=Jr s e;have h3:=AW (Lc m Jc (EB _ hp) (NZ c)) (Ho hR);have h4:=Nat.mul_le_mul_left 676 hlt;rw[Nat.mul_succ]at h4;rw[AU,C1];omega
def ZM {zA:Ya} (m:IsM zA l) (hR:zA.length<=26) (hl:l<=12) {st:List (List Int × Int)} (s:IsS zA S) (q:Quick zA l 0 S w st) :
  Ih [mD zA,tI S] M=some (.tup [tI w,.tup (st.map stD)],M):=by
 refine zW ?_;unfold Ih;refine FN ?_ ?_
 .unfold D.unds D.unds D.unds;rw[Ex];simp[tI,By]
 rw[zw];unfold NV;obtain ⟨d,M1,e,jr,rfl,_,h2,_,_⟩:=Vt m hR hl (M:=[]);rw[zK,za];refine zG (zc (zY (d:=mD zA) rfl) e) ?_;rw[zM,zU];refine Bg (d:=tI S) rfl ?_;refine Bg (d:=tI []) (Cp rfl (by simp)) ?_;rw[zK,za];refine zG (M:=M1) (a:=.fl []) (CJ rfl (by simp)) (zx ?_);rw[zU];have hjl:=(AG.mp h2).1;have up:∀ xs:Mem,(M1++xs)[jr]?=some (dT (C6 zA l One)):=λxs=>by rw[AJ hjl];exact h2
 obtain ⟨d,M2,e2,rfl,us,rfl⟩:=Pm hR (up [.lst []]) s;rw[zK,za];refine zG (zc (zV (d:=.ref jr) rfl (zY (d:=tI S) rfl)) e2) ?_;rw[zM,zU,zK];have hS:=D9 s;have ql:=KN m hR s q;refine GF (I:=λz Y M'=>∃ (T W w2:Ye) (st1 st2:List (List Int × Int)) (us:Mem) (y:Option D),IsS zA T/\Quick zA l W.length T w2 st2/\w=W++w2/\st=st1++st2/\z=st2.length/\Y=[some (mD zA),some (tI S),some (.ref jr),some (tI T),some (tI W),some (.ref M1.length),some (GP zA l T),y]/\M'=M1 ++ .lst (st1.map stD)::us) ?_ 100 st.length _ _ (by omega) ⟨S,[],w,[],st,us,none,s,q,rfl,rfl,rfl,rfl,by simp⟩;rintro z Y M' ⟨T,W,w2,st1,st2,us,y,sT,q2,hw,hst,rfl,rfl,rfl⟩;have hL:(M1++MO.lst (st1.map stD)::us)[M1.length]?=some (.lst (st1.map stD)):=by simp
 have et:tst (fOp (kIs true) (zC 6) (fC .non)) [some (mD zA),some (tI S),some (.ref jr),some (tI T),some (tI W),some (.ref M1.length),some (GP zA l T),y] (M1++MO.lst (st1.map stD)::us)=some ((C9 zA l T).isSome,M1++MO.lst (st1.map stD)::us):=by
  unfold GP;cases h:C9 zA l T with
  |none=>exact BL (zS (x:=.dat .non) (y:=.dat .non) rfl rfl rfl)
  |some p=>exact BL (zS (x:=.dat (tI p)) (y:=.dat .non) rfl rfl rfl)
 refine zG et ?_;cases q2 with
 |nil h=>
  rw[h];rw[Au]at hw hst;subst hw;subst hst;refine zn (d:=.tup [tI w,.tup (st.map stD)]) (Cp (zV (d:=tI w) rfl (zY (Gk (f:=zC 5) rfl (zv hL)))) (by simp)) ⟨?_,rfl,rfl⟩;unfold D.und D.unds D.unds D.unds;rw[show D.und 0 (tI w)=true from By w];have:∀ xs:List (List Int × Int),D.und 0 (.tup (xs.map stD))=true:=by
   intro xs;unfold D.und;induction xs with
   |nil=>rfl
   |cons x r ih=>
    rw[AX];unfold D.unds;rw[ih];unfold stD;unfold D.und D.unds D.unds D.unds;rw[show D.und 0 (tI x.1)=true from By _];rfl
  rw[this];rfl
 | @cons _ _ p v w3 st3 h c q3=>
  have hnd:GP zA l T=tI p:=by unfold GP;rw[h]
  rw[h,hnd];obtain ⟨hp1,hp2,_⟩:=Jr sT h;have cb:=(G3 c).1;have hvl:=AW (Lc m Jc (EB _ hp2) (NZ c)) (Ho hR);have hwl:=Bf List.length hw;have hstl:=Bf List.length hst;simp only[AU,C1]at hwl hstl;obtain ⟨d,M3,e3,rfl,us3,rfl⟩:=f9 m Jc hR (up (.lst (st1.map stD)::us)) (EB _ hp2) c;rw[zK,za];refine zG (zc (zV (d:=mD zA) rfl (zV (d:=.ref jr) rfl (zY (d:=tI p) rfl))) e3) ?_;rw[zM,zU];rw[show M1++MO.lst (st1.map stD)::us++us3=M1++MO.lst (st1.map stD)::(us++us3) by simp];generalize us++us3=us4;have sB:=m.broR v sT cb;refine Bg (zc (zV (d:=mD zA) rfl (zV (d:=tI T) rfl (zY (d:=tI v) rfl))) (KW m (by omega) sT cb (by omega))) ?_;refine Bg (d:=tI (W++v)) ?_ ?_
  .rw[zS (x:=.dat (tI W)) (y:=.dat (tI v)) rfl rfl (n5 (zm (by rw[AH,AH];omega)))];unfold tI;rw[Bq]
  have hL4:(M1++MO.lst (st1.map stD)::us4)[M1.length]?=some (.lst (st1.map stD)):=by simp
  have elen:fB AR (zN (zC 4) zd) [some (mD zA),some (tI S),some (.ref jr),some (tI (broR zA T v)),some (tI (W++v)),some (.ref M1.length),some (tI p),some (tI v)] (M1++MO.lst (st1.map stD)::us4)=some (.dat (.int ((W.length+v.length:Nat):Int)),M1++MO.lst (st1.map stD)::us4):=by
   rw[Fh (xs:=W++v) rfl,AU]
  rw[zK,ER];refine EN.mpr (zG (a:=.dat (.ref M1.length)) (M:=M1++MO.lst (st1.map stD)::us4) rfl ⟨⟨_,Cv hL4⟩,zG (zY (d:=stD (p,((W.length+v.length:Nat):Int))) (Cp (zV (d:=tI p) rfl (zY elen)) (by simp))) ((Gh hL4 (by rw[AH];exact As (show st1.length<1000 by omega) (zm (by omega)))).mpr ?_)⟩);rw[zU];have hset:(M1++MO.lst (st1.map stD)::us4).set M1.length (.lst (st1.map stD++[stD (p,((W.length+v.length:Nat):Int))]))=M1++MO.lst ((st1++[(p,((W.length+v.length:Nat):Int))]).map stD)::us4:=by
   rw[List.set_append_right _ _ (AF _)];simp
  rw[hset];obtain ⟨d,M5,e5,rfl,us5,rfl⟩:=Pm hR (up (.lst ((st1++[(p,((W.length+v.length:Nat):Int))]).map stD)::us4)) sB;rw[za];refine zG (zc (zV (d:=.ref jr) rfl (zY (d:=tI (broR zA T v)) rfl)) e5) ?_;rw[zM];exact ⟨st3.length,by simp,broR zA T v,W++v,w3,st1++[(p,((W.length+v.length:Nat):Int))],st3,us4++us5,some (tI v),sB,by rw[AU];exact q3,by rw[hw];simp,by rw[hst];simp,rfl,rfl,by simp⟩
noncomputable def MG:FS:=(zX (zi 3 (fB DI (zN (zC 1) zd)))
  (zX (BU (AO (zC 2)) (gN 4) (zi 3 (Af [5] (AO (zC 3)) (gN 5) zu (fOp kIx (fOp kIx (zC 0) (zC 5)) (zC 4)))))
  (AL (fB CL (zN (Fz (FP (zC 3))) zd)))))
noncomputable def Fs:FF:=Dp (Ab 6 MG)
def HP (hf:f Y M=some (x,M)) (h:Al M x=some xs):fB DI (zN f zd) Y M=some (.fl xs,M):=by
 unfold fB zN zd;rw[hf];dsimp only;unfold DI;dsimp only;rw[h]
def YK (m:IsM zA l) (hR:zA.length<=26) (hS:∀ x∈S,0<=x/\x<(zA.length:Int)) (hl:S.length<=60) (hw:Wd l w) :
  Fs [mD zA,tI S,tI w] M=some (tI (ris (S.map λr=>BJ zA r w)),M):=by
 refine zW ?_;unfold Fs;refine FN ?_ ?_
 .unfold D.unds D.unds D.unds D.unds;rw[Ex];simp[tI,By]
 rw[zw];unfold MG;rw[zK,za];refine zG (HP (f:=zC 1) (x:=.dat (tI S)) rfl BK) (zx ?_);rw[zU];rw[zK,DB];refine ⟨_,_,_,IH (xs:=w.map D.int) rfl,?_⟩;refine Dk (I:=λr Y M'=>∃ (w1 w2:Ye) (j:Nat) (y4 y5:Option D),w=w1++w2/\r=w2.map D.int/\Y=[some (mD zA),some (tI S),some (tI w),some (.ref j),y4,y5]/\M'[j]?=some (.lst ((S.map λr=>BJ zA r w1).map D.int))) ?_ ?_ _ _ _ ⟨[],w,0,none,none,rfl,rfl,rfl,by simp[BJ]⟩
 .rintro x r Y M' ⟨w1,w2,j,y4,y5,hw12,hr,rfl,hj⟩;cases w2 with
  |nil=>cases hr
  |cons g w2=>
   rw[AX]at hr;obtain ⟨rfl,rfl⟩:=Cd hr;have hg:=hw g (by rw[hw12];simp);have hw1:Wd l w1:=λx hx=>hw x (by rw[hw12];simp[hx]);refine ⟨De,_,rfl,?_⟩;rw[za];have ei:AO (zC 3) [some (mD zA),some (tI S),some (tI w),some (.ref j),some (.int g),y5] M'=some ((S.map λr=>BJ zA r w1).map D.int,B9 (.dat (.ref j)) ((S.map λr=>BJ zA r w1).map D.int),M'):=by
    unfold AO;rw[show zC 3 [some (mD zA),some (tI S),some (tI w),some (.ref j),some (.int g),y5] M'=some (.dat (.ref j),M')from rfl];dsimp only;rw[zv hj]
   have ec:=Ez (own:=[5]) (g:=gN 5) (te:=fOp kIx (fOp kIx (zC 0) (zC 5)) (zC 4)) (S.map λr=>BJ zA r w1) D.int (λr=> .int (BS zA r g)) ei (.inl hj) (by rw[AH];omega) λr hr=>by
    obtain ⟨q,hq,rfl⟩:=Ac.mp hr;have hq':=hS q hq;have hl':=m.led w1 hq'.1 hq'.2 hw1;exact ⟨_,rfl,m.ix hl'.1 hl'.2 hg.1 hg.2 rfl rfl rfl⟩
   refine zG ec (zx ?_);refine ⟨w1++[g],w2,M'.length,_,_,by rw[hw12];simp,rfl,rfl,?_⟩;rw[zt];congr 2;rw[Ax,Ax];exact List.map_congr_left λr _=>by show D.int (BS zA (BJ zA r w1) g)=D.int (BJ zA r (w1++[g]));rw[V5]
 .rintro Y M' ⟨w1,w2,j,y4,y5,hw12,hr,rfl,hj⟩;have:w2=[]:=by cases w2 with|nil=>rfl|cons _ _=>cases hr
  subst this;rw[Au]at hw12;subst hw12;refine ⟨De,?_⟩;rw[zU];have hz:(zp (S.map λr=>BJ zA r w)).length<64:=by
   have:=IE (S.map λr=>BJ zA r w);rw[AH]at this;omega
  refine zn (d:=tI (ris (S.map λr=>BJ zA r w))) (Gk (Mt (ZZ (f:=zC 3) (x:=.dat (.ref j)) rfl (zv hj) (by rw[AH];omega)) hz) D3) ⟨By _,rfl,rfl⟩
def R6 (m:IsM zA l) (hR:zA.length<=26) (s:IsS zA S) (hw:Wd l w) :
  Fs [mD zA,tI S,tI w] M=some (tI (broR zA S w),M):=by
 have:=D9 s;rw[YK m hR s.mem (by omega) hw,Ng s.pw]
def IF (m:IsM zA l):IsS zA (zH zA):=by
 have r0:=m.r0;refine ⟨?_,by unfold zH;simp;omega,λx hx=>Ea.mp hx⟩;unfold zH;exact List.pairwise_map.mpr (List.Pairwise.imp (λ{a b} h=>by omega) List.pairwise_lt_range)
def cR {zA:Ya} {l:Nat} (m:IsM zA l) (hR:zA.length<=26) (hl:l<=12) {w:Ye} {st:List (List Int × Int)} (q:Quick zA l 0 (zH zA) w st) {M:Mem} :
  Hw [mD zA] M=some (.tup [.int (broR zA (zH zA) w).length,tI w,tI (broR zA (zH zA) w)],M):=by
 have s:=IF m;have hS:=D9 s;have ql:=KN m hR s q;have hw:=NL q;refine zW ?_;unfold Hw;refine FN ?_ ?_
 .unfold D.unds D.unds;rw[Ex];rfl
 rw[zw];unfold NX;refine Bg (zc (zY (d:=mD zA) rfl) (JN (by omega))) ?_;refine Bg (d:=tI w) (zS (y:=.dat (.int 0)) (zc (zV (d:=mD zA) rfl (zY (d:=tI (zH zA)) rfl)) (ZM m hR hl s q)) rfl (Ce BK rfl)) ?_;refine Bg (zc (zV (d:=mD zA) rfl (zV (d:=tI (zH zA)) rfl (zY (d:=tI w) rfl))) (KW m (by omega) s hw (by omega))) ?_;refine zn (Cp (zV (Fh (xs:=broR zA (zH zA) w) rfl) (zV (d:=tI w) rfl (zY (d:=tI (broR zA (zH zA) w)) rfl))) (by simp)) ⟨?_,rfl,rfl⟩;unfold D.und D.unds D.unds D.unds D.unds;rw[show ∀ x,D.und 0 (tI x)=true from λx=>By x,show ∀ x,D.und 0 (tI x)=true from λx=>By x];rfl
noncomputable def Lp:FS:=(AL (zO Hf (zD (toD (zC 1)) (zD (toD (fB AR (zN (fOp kIx (zC 0) (fC (.int 0))) zd))) zE))))
noncomputable def Iu:FF:=Ab 2 Lp
noncomputable def IJ:FS:=(zX (sIf (CN (Cw (tst (zO Hf (zD (toD (zC 1)) (zD (toD (fB AR (zN (zC 0) zd))) zE))))) (tst (fOp kEq (fB AR (zN (zC 1) zd)) (fC (.int 0))))) (AL (fC (.bl false))) Ah)
  (AL (fB GO (zN (Af [2,3] (IP (zD (toD (zC 1)) (zD (toD (fSl (zC 1) (Ay (fC (.int 1))) BG)) zE))) (Ik 2 3) zu (fOp kLt (zC 2) (zC 3))) zd))))
noncomputable def GR:FF:=Ab 4 IJ
noncomputable def NH:FS:=(zX (zi 2 (zO Ga (zD (toD (zC 0)) zE)))
  (AL (fB GO (zN (Af [3] (AO (zO Dj (zD (toD (zC 1)) zE))) (gN 3) zu (fOp (Ag true) (zC 3) (zC 2))) zd))))
noncomputable def Ht:FF:=Dp (Ab 4 NH)
def Oq {xs:List D} {lo hi:Ys} {a b:Nat} (ha:HT.sIx xs.length 0 lo=a) (hb:HT.sIx xs.length xs.length hi=b):L3.BE xs lo hi=(xs.drop a).take (b-a):=by
 unfold L3.BE;rw[ha,hb]
def VZ (n:Nat) (d:Nat):HT.sIx n d none=d:=rfl
def Iy (h:∀ x∈c,0<=x/\x<R):tbD R (tI c)=true:=by
 show List.all _ _=true;rw[Bi];intro d hd;obtain ⟨i,hi,rfl⟩:=Ac.mp hd;have:=h i hi;simp[CT,this.1,this.2]
def bW {f:FE} {Y:Sd} {M M1:Mem} {bs:List Bool} (h:f Y M=some (.fl (bs.map D.bl),M1)):fB GO (zN f zd) Y M=some (.dat (.bl (bs.all id)),M1):=by
 have:=Jw (f:=λ_ _=>some (.fl (bs.map D.bl),M1)) (Y:=Y) (M:=M1) rfl;unfold fB zN zd at this ⊢;rw[h];exact this
def l9 {zA:Ya} {l:Nat} (m:IsM zA l) (hR:zA.length<=26) (hl:l<=12) {K:Ye} (s:IsS zA K) {M:Mem}:Ht [mD zA,tI K] M=some (.bl (CQ zA l K).isEmpty,M):=by
 have hS:=D9 s;refine zW ?_;unfold Ht;refine FN ?_ ?_
 .unfold D.unds D.unds D.unds;rw[Ex];simp[tI,By]
 rw[zw];unfold NH;obtain ⟨d,M1,e,jf,rfl,_,⟨fd,h2,_,sp⟩,_,_⟩:=Pp m hR hl (M:=[]);rw[zK,za];refine zG (zc (zY (d:=mD zA) rfl) e) ?_;rw[zM,zU];have epr:=Jv (xs:=K) (by omega) (M:=M1);have ei:AO (zO Dj (zD (toD (zC 1)) zE)) [some (mD zA),some (tI K),some (.ref jf),none] M1=_:=KJ (zY (d:=tI K) rfl) epr (zt _ _);have hPl:(zL K).length<=676:=AW (Fu K) (AW (Cq hS hS) (Cq hR hR));have hjl:=(AG.mp h2).1;have ef:=Hs (own:=[3]) (g:=gN 3) (tc:=zu) (te:=fOp (Ag true) (zC 3) (zC 2)) (zL K) tI (λp=> .bl (!Cb zA l p)) (λ_=>true) ei (.inl (zt _ _)) (by omega) (λp hp=>by
  refine ⟨[some (mD zA),some (tI K),some (.ref jf),some (tI p)],rfl,rfl,λ_=>?_⟩;have e1:fOp (Ag true) (zC 3) (zC 2) [some (mD zA),some (tI K),some (.ref jf),some (tI p)] (M1++[MO.lst ((zL K).map tI)])=_:=zS (x:=.dat (tI p)) (y:=.dat (.ref jf)) rfl rfl (FU (T:=fd) (by rw[AJ hjl];exact h2));rw[AB rfl]at e1;have hpr:=nW s hp;have hb:(zI fd p).isSome=Cb zA l p:=by
   rw[DZ];unfold Cb;rw[Bx,HR];constructor
   .intro h;cases eL:zI fd p with
    |none=>rw[eL]at h;cases h
    |some d=>
     obtain ⟨_,n,hn,_⟩:=(sp p d).mp eL;cases n with
     |zero=>
      obtain ⟨a,b,rfl,_⟩:=Dx.mp hp;exact absurd (Dv.mp hn) (by simp[One])
     |succ n=>exact ⟨hpr,n,hn⟩
   .rintro ⟨_,n,hn⟩;rw[(sp p _).mpr ⟨EB p hpr,n+1,hn,rfl⟩];rfl
  rw[e1,hb])
 rw[List.filter_eq_self.mpr (λ_ _=>rfl),show (zL K).map (λp=>D.bl (!Cb zA l p))=((zL K).map λp=> !Cb zA l p).map D.bl by rw[Ax];rfl]at ef;rw[CS];refine zG (bW ef) ⟨rfl,?_,rfl⟩;refine Bf D.bl ?_;rw[DZ,Kr,Bi,List.isEmpty_iff];unfold CQ;rw[List.filter_eq_nil_iff];constructor
 .intro h p hp q;have:=h p hp;rw[q]at this;cases this
 .intro h p hp;cases e:Cb zA l p with
  |false=>rfl
  |true=>exact absurd e (h p hp)
def Rg (h:Gen M n k) (m0:0<most) (m1:most<=90000) (l0:0<lets) (l1:lets<=90000) (ha:∀ M,fa Y M=some (.dat (.ref n),M)) (hb:∀ M,fb Y M=some (.dat (.int most),M))
  (hc:∀ (r:Int) M,fc ((An own Y).set i (some (.int r))) M=some (.dat (.ref n),M)) (hd:∀ (r:Int) M,fd ((An own Y).set i (some (.int r))) M=some (.dat (.int lets),M)) :
  Ok (Af own (A0 (zD (toD (zO zZ (zD (toD fa) (zD (toD fb) zE)))) zE)) (gN i) zu (zO zZ (zD (toD fc) (zD (toD fd) zE))) Y M) λx M'=>(∃ c:List Int,x=.fl (c.map D.int)/\(c.length:Int)<most /\ ∀ y∈c,0<=y/\y<lets)/\Nx M M' n k:=by
 obtain ⟨x,M1,e,cnt,rfl,c0,c1,nx1⟩:Ok (zO zZ (zD (toD fa) (zD (toD fb) zE)) Y M) λx M'=>∃ cnt:Int,x=.dat (.int cnt)/\0<=cnt/\cnt<most/\Nx M M' n k:=C2 h (ha M) (hb M) m0 (by omega) λi M' i0 i1 nx=>⟨i,rfl,i0,i1,nx⟩;have er:=Pr (Kn e) c0 (show cnt<2 ^ 62 by omega);rw[Jj]at er;refine HS.mpr ⟨_,_,_,er,by rw[J6];exact zm (by omega),?_⟩;refine Ok.mono (Mv (n:=cnt.toNat) (I:=λj acc M2=>(∃ c:List Int,acc=c.map D.int/\c.length=j /\ ∀ y∈c,0<=y/\y<lets)/\Nx M M2 n k) ?_ ⟨⟨[],rfl,rfl,λ_ h=>by cases h⟩,nx1⟩) ?_
 .rintro j acc M2 hj ⟨⟨c,rfl,hcl,hc'⟩,nx⟩;refine ⟨_,rfl,?_⟩;refine C2 nx.gen (hc _ _) (hd _ _) l0 (by omega) λv M3 v0 v1 nx3=>?_;rw[zM];refine ⟨⟨c++[v],by simp,by simp[hcl],λz hz=>?_⟩,nx.trans nx3⟩;rcases Ak.mp hz with q|q
  .exact hc' z q
  .have:z=v:=by simpa using q
   subst this;exact ⟨v0,v1⟩
 .rintro ys M2 ⟨⟨c,rfl,hcl,hc'⟩,nx⟩;exact ⟨⟨c,rfl,by omega,hc'⟩,nx⟩
def mC {c r:Int} (c0:1<=c) (r0:0<r) (cr:c+r<=28) {rest:FS} {τ:Sd} {P:Out->Sd->Mem->Prop} {ns:Ye} (h:ns.length<=63)
  (q:∀ zA l M,IsM zA l->c<=(zA.length:Int)->(zA.length:Int)<c+r->zA.length<=27->l<=6->Gen M 2 1->M[0]?=some (.fro (ns.map D.int))->OkS (rest (some (.ref 0)::some (.ref 2)::some (mD zA)::τ) M) P) :
  OkS (zX (zi 1 (zO G2 (zD (toD (zC 0)) zE))) (zX (zi 2 (zO G0 (zD (toD (zC 1)) (zD (toD (fOp zy (fC (.int c)) (zO zZ (zD (toD (zC 1)) (zD (toD (fC (.int r))) zE))))) (zD (toD (fOp zy (fC (.int 1)) (zO zZ (zD (toD (zC 1)) (zD (toD (fC (.int 6))) zE))))) zE))))) rest) (some (.ref 0)::none::none::τ) [.fro (ns.map D.int)]) P:=by
 rw[zK,za];refine EK.mpr (zG (zY rfl) ?_);refine Ok.mono (jT h) ?_;rintro d M1 ⟨rfl,g1,e0,_⟩;rw[zM,zU,zK,za];refine EK.mpr (C8.mpr (Bo.mpr (zG (a:=.dat (.ref 2)) rfl ?_)));rw[zM];refine C8.mpr (Bo.mpr (Av.mpr (zG rfl (C2 g1 rfl rfl r0 (by omega) λi M2 i0 i1 nx2=>zG (a:=.dat (.int (c+i))) rfl ?_))));rw[zM];refine C8.mpr (Bo.mpr (Av.mpr (zG rfl (C2 nx2.gen rfl rfl (by decide) (by decide) λj M3 j0 j1 nx3=>zG (a:=.dat (.int (1+j))) rfl ?_))));rw[zM,Ee];refine Ok.mono (ZF nx3.gen (by omega) (by omega) (by omega) (by omega)) ?_;rintro d M4 ⟨⟨zA,l,rfl,m,hR,hL⟩,nx4⟩;rw[zM,zU];have l3:0<M3.length:=by rw[nx3.len,nx2.len];exact (AG.mp e0).1
 have e4:M4[0]?=some (.fro (ns.map D.int)):=(nx4.fr 0 l3 (by decide) (by decide)).trans ((nx3.fr 0 (by decide) (by decide)).trans ((nx2.fr 0 (by decide) (by decide)).trans e0));exact q zA l M4 m (by omega) (by omega) (by omega) (by omega) nx4.gen e4
def LW (n:Nat) (ts:Ya):MO.und n (.lst (ts.map tI))=true:=RH n ts
def X1 (n:Nat) (J:Ya):MO.und n (dT (jnT J))=true:=by
 show ((Bz (jnT J)).all λp=>D.und n p.1&&D.und n p.2)=true;rw[Bi];intro p hp;obtain ⟨q,hq,rfl⟩:=Ac.mp hp;obtain ⟨r,_,rfl⟩:=Ac.mp hq;simp[tI,By,D.und,B8]
def hG (hz:zA.length<=1000) (hf:f Y M=some (.dat (.int zA.length),M)):F5 f Y M=some (.fl ((zH zA).map D.int),M):=by
 refine zW (Xf (j:=(zA.length:Int)) hf (by omega) (by omega) ⟨?_,rfl⟩);unfold upD zH;rw[Ax,show (zA.length:Int).toNat=zA.length by omega];rfl
def Wl (m:IsM zA l) (hR:zA.length<=26) (hl:l<=12) :
  Ok (Ia [mD zA] M) λd M'=>∃ jJ J,d=.ref jJ/\M.length<=jJ/\M'[jJ]?=some (dT (jnT J))/\(∀ p,p∈J ↔ p∈B7 zA l One)/\M.length<=M'.length/\(∀ i,i<M.length->M'[i]?=M[i]?) /\ ∀ (i:Nat) u,M.length<=i->M'[i]?=some u->MO.und M'.length u=true:=by
 unfold Ia;rw[zw];unfold Md;rw[zK,za];refine zG (M:=M++[.dicT []]) (a:=.dat (.ref M.length)) rfl ?_;rw[zM,zU,zK,za];refine zG (M:=M++[.dicT []]) (a:=.fl []) (CJ rfl (by simp)) (zx ?_);rw[zU,zK,za];refine zG (M:=M++[.dicT []]++[.lst []]++[.dicT []]) (a:=.dat (.ref (M++[MO.dicT []]++[MO.lst []]).length)) rfl ?_;rw[zM,zU];have sr:=IF m;have hrl:(zH zA).length=zA.length:=by unfold zH;simp
 generalize hB0:M++[MO.dicT []]++[MO.lst []]++[MO.dicT []]=B0;have b0l:B0.length=M.length+3:=by rw[<-hB0];simp
 have b0A:B0[M.length]?=some (dT []):=by rw[<-hB0];simp
 have b0F:B0[M.length+1]?=some (.lst []):=by rw[<-hB0];simp
 have b0J:B0[M.length+2]?=some (dT []):=by rw[<-hB0];simp
 have b0fr:∀ i,i<M.length->B0[i]?=M[i]?:=λi hi=>by rw[<-hB0,Bm,Bm,AJ hi]
 rw[show (M++[MO.dicT []]).length=M.length+1 by simp,show (M++[MO.dicT []]++[MO.lst []]).length=M.length+2 by simp];have eL:=Er (hG (Y:=[some (mD zA),some (.ref M.length),some (.ref (M.length+1)),some (.ref (M.length+2)),none,none,none]) (M:=B0) (by omega) (EW (f:=zC 0) rfl));obtain ⟨d,B,ep,rfl,us,hB,hus⟩:=SJ (M:=B0++[.lst ((zH zA).map D.int)]) (j:=B0.length) (xs:=zH zA) (zt _ _) sr.pw (by omega);rw[zK,DB];have b1l:(B0++[MO.lst ((zH zA).map D.int)]).length=M.length+4:=by rw[AU,b0l];rfl
 have hP:B[M.length+4]?=some (.lst ((zL (zH zA)).map tI)):=by rw[hB,<-b1l];simp
 have up:∀ {i:Nat},i<B0.length->B[i]?=B0[i]?:=λ{i} hi=>by rw[hB,Bm,AJ hi]
 have hBl:M.length+5<=B.length:=by rw[hB,AU,b1l,C1];omega
 refine ⟨_,_,_,(show AO (zO Fg (zD (toD (F5 (fB AR (zN (zC 0) zd)))) zE)) [some (mD zA),some (.ref M.length),some (.ref (M.length+1)),some (.ref (M.length+2)),none,none,none] B0=some ((zL (zH zA)).map tI,B9 (.dat (.ref (M.length+4))) ((zL (zH zA)).map tI),B) by
  have ec:zO Fg (zD (toD (F5 (fB AR (zN (zC 0) zd)))) zE) [some (mD zA),some (.ref M.length),some (.ref (M.length+1)),some (.ref (M.length+2)),none,none,none] B0=some (.dat (.ref (M.length+4)),B):=by
   rw[<-b1l];exact NB (aC' eL rfl) ep
  unfold AO;rw[ec];dsimp only;rw[zv hP]),?_⟩
 have h0:Jn zA B B M.length (M.length+1) (M.length+2) [] [] []:=by
  refine ⟨⟨[],(up (by omega)).trans b0A,by simp,(λg d h=>by cases h),(λ_ _=>rfl),(λg g' j h=>by cases h)⟩,λT e q hq=>?_,(up (by omega)).trans b0F,(up (by omega)).trans b0J,AF _,λ_ _ _ _ _=>rfl,λi u hi hu=>absurd (AG.mp hu).1 (by omega)⟩;rw[(up (by omega)).trans b0A]at e;have eT:Bz []=Bz T:=MO.dicT.inj (CB e);have hm:(tI q.1,q.2)∈Bz T:=Ac.mpr ⟨q,hq,rfl⟩;rw[<-eT]at hm;cases hm
 refine OkS.mono (V4 m hR hl h0 (by omega) (by omega) (by omega) (by omega) (by omega) (by omega) hP (by omega) (by omega) (by omega)) ?_;rintro o Y' M2 ⟨rfl,⟨y4,y5,y6,rfl⟩,jn⟩;rw[zU,zK];refine OkS.mono (fA m hR (by omega) (by omega) (by omega) (by omega) (by omega) (by omega) jn (V6 m)) ?_;rintro o Y' M3 ⟨rfl,⟨y4,y5,y6,rfl⟩,J,jn3,c3⟩;rw[zU];refine zn (d:=.ref (M.length+2)) rfl ⟨M.length+2,J,rfl,by omega,jn3.j,jY m c3,by have:=jn3.len;omega,λi hi=>?_,λi u hi hu=>?_⟩
 .rw[jn3.fr i (by omega) (by omega) (by omega) (by omega),up (by omega)];exact b0fr i hi
 .rcases DE i B.length with q|q
  .by_cases q1:i=M.length
   .subst q1;obtain ⟨T,ed,_⟩:=jn3.a.ex;rw[ed]at hu;cases hu;show ((Bz T).all λp=>D.und M3.length p.1&&D.und M3.length p.2)=true;rw[Bi];intro p hp;obtain ⟨r,hr,rfl⟩:=Ac.mp hp;obtain ⟨j,h1,h2⟩:=jn3.ad T ed r hr;rw[h1];simp[tI,By,D.und,B8,h2]
   by_cases q2:i=M.length+1
   .subst q2;rw[jn3.f]at hu;cases hu;exact LW _ _
   by_cases q3:i=M.length+2
   .subst q3;rw[jn3.j]at hu;cases hu;exact X1 _ _
   rw[jn3.fr i q q1 q2 q3,hB]at hu;have hi3:M.length+3<=i:=by omega
   rw[Bm,E2 (by omega)]at hu;rcases Nat.eq_or_lt_of_le hi3 with z|z
   .rw[<-z,b0l,Nat.sub_self]at hu;cases hu;exact B8 _ _
   .rw[E2 (by simp;omega)]at hu;rcases Nat.eq_or_lt_of_le z with y|y
    .rw[show i-B0.length - [MO.lst ((zH zA).map D.int)].length=0 by simp;omega]at hu;cases hu;exact LW _ _
    .obtain ⟨k,hk⟩:∃ k,i-B0.length - [MO.lst ((zH zA).map D.int)].length=k+1:=⟨i-B0.length - [MO.lst ((zH zA).map D.int)].length-1,by simp;omega⟩;rw[hk,List.getElem?_cons_succ]at hu;exact Ks (BD _) (hus u (List.mem_of_getElem? hu))
  .obtain ⟨ts,rfl⟩:=jn3.wf i u q hu;exact LW _ _
noncomputable def Mn:FS:=(zX (sIf (CN (Cw (tst (Cj "tuple" (zC 1)))) (tst (fOp kNe (fB AR (zN (zC 1) zd)) (fC (.int 3))))) (AL (fC (.bl false))) Ah)
  (zX (F1 (Hj 2 3 4) (zC 1))
  (zX (sIf (CN (Cw (tst (zO G6 (zD (toD (zC 2)) zE)))) (CN (Cw (tst (zO Iu (zD (toD (zC 0)) (zD (toD (zC 3)) zE))))) (Cw (tst (zO GR (zD (toD (zC 0)) (zD (toD (zC 4)) zE))))))) (AL (fC (.bl false))) Ah)
  (zX (zi 5 (zO GN (zD (toD (zC 0)) (zD (toD (zO Ek (zD (toD (zC 0)) zE))) (zD (toD (zC 3)) zE)))))
  (AL (C5 (fOp kEq (fB AR (zN (zC 5) zd)) (zC 2)) (C5 (fOp kEq (fB AR (zN (zC 4) zd)) (zC 2)) (zO Ht (zD (toD (zC 0)) (zD (toD (zC 4)) zE))))))))))
noncomputable def HW:FF:=Fw (Ab 6 Mn)
noncomputable def Lb:FS:=(AL (C5 (Cj "int" (zC 0)) (E3 (Cj "bool" (zC 0)))))
noncomputable def Gx:FF:=Ab 1 Lb
noncomputable def MB:FS:=(AL (C5 (Cj "tuple" (zC 0)) (fB GO (zN (Af [2] (AO (zC 0)) (gN 2) zu (C5 (zO Gx (zD (toD (zC 2)) zE)) (Ft kLe kLt (fC (.int 0)) (zC 2) (zC 1)))) zd))))
noncomputable def G4:FF:=Ab 3 MB
noncomputable def Kg:FS:=(zX (sIf (CN (Cw (tst (Cj "tuple" (zC 2)))) (tst (fOp kNe (fB AR (zN (zC 2) zd)) (fC (.int 3))))) (AL (fC (.bl false))) Ah)
  (zX (F1 (Hj 3 4 5) (zC 2))
  (zX (sIf (CN (Cw (tst (zO Gx (zD (toD (zC 3)) zE)))) (CN (Cw (tst (zO G4 (zD (toD (zC 4)) (zD (toD (fB AR (zN (fOp kIx (zC 0) (fC (.int 0))) zd))) zE))))) (Cw (tst (zO G4 (zD (toD (zC 5)) (zD (toD (fB AR (zN (zC 0) zd))) zE))))))) (AL (fC (.bl false))) Ah)
  (zX (sIf (CN (tst (fOp kEq (fB AR (zN (zC 5) zd)) (fC (.int 0)))) (CN (tst (fOp (kTr true 0) (fB DI (zN (zC 5) zd)) (Fz (FP (zC 5))))) (tst (fOp kNe (fB AR (zN (zC 5) zd)) (zC 3))))) (AL (fC (.bl false))) Ah)
  (zX (sIf (tst (fOp kNe (fB AR (zN (zO Fs (zD (toD (zC 0)) (zD (toD (Eb (fB AR (zN (zC 0) zd)))) (zD (toD (zC 4)) zE)))) zd)) (zC 3))) (AL (fC (.bl false))) Ah)
  (AL (E3 (fB Mm (zN (Af [6] (AO (zO Fg (zD (toD (fB DI (zN (zC 5) zd))) zE))) (gN 6) zu (fOp (Ag false) (zC 6) (zC 1))) zd)))))))))
noncomputable def IK:FF:=Fw (Ab 7 Kg)
noncomputable def Ms:FS:=(zX (F1 (Hj 3 4 5) (zC 2))
  (zX (zi 6 (fB AR (zN (fOp kIx (zC 1) (fC (.int 0))) zd)))
  (zX (zi 7 (fB CL (zN (Af [8] (A0 (zD (toD (zO zZ (zD (toD (zC 0)) (zD (toD (fC (.int 4))) zE)))) zE)) (gN 8) zu (zO zZ (zD (toD (zC 0)) (zD (toD (zC 6)) zE)))) zd)))
  (zX (zi 9 (fB CL (zN (Af [8] (A0 (zD (toD (zO zZ (zD (toD (zC 0)) (zD (toD (fC (.int 4))) zE)))) zE)) (gN 8) zu (zO zZ (zD (toD (zC 0)) (zD (toD (zC 6)) zE)))) zd)))
  (zX (zi 10 (zO zZ (zD (toD (zC 0)) (zD (toD (fC (.int 4))) zE))))
  (zX (sIf (tst (fOp kEq (zC 10) (fC (.int 0)))) (zi 5 (zO Fs (zD (toD (zC 1)) (zD (toD (zC 5)) (zD (toD (fOp zy (fOp zy (zC 9) (zC 7)) (zC 9))) zE))))) Ah)
  (zX (sIf (tst (fOp kEq (zC 10) (fC (.int 1)))) (zi 5 (fB CL (zN (fB GY (zN (fSl (zO GD (zD (toD (zC 0)) (zD (toD (fB AR (zN (zC 1) zd))) zE))) BG (Ay (zC 3))) zd)) zd))) Ah)
  (AL (zj (zD (toD (zC 3)) (zD (toD (fOp zy (fOp zy (zC 7) (zC 4)) (zC 9))) (zD (toD (zC 5)) zE))))))))))))
noncomputable def Ir:FF:=Ab 11 Ms
noncomputable def KU:FS:=(zX (F1 (Hj 3 4 5) (zC 2))
  (zX (zi 6 (fB AR (zN (zC 1) zd)))
  (zX (zi 7 (fB AR (zN (fOp kIx (zC 1) (fC (.int 0))) zd)))
  (zX (zi 8 (AM (zD (toD (zj (zD (toD (fOp zy (zC 3) (fC (.int 1)))) (zD (toD (zC 4)) (zD (toD (zC 5)) zE))))) (zD (toD (zj (zD (toD (fOp EU (zC 3) (fC (.int 1)))) (zD (toD (zC 4)) (zD (toD (zC 5)) zE))))) (zD (toD (zj (zD (toD (fC (.bl true))) (zD (toD (zC 4)) (zD (toD (zC 5)) zE))))) (zD (toD (zj (zD (toD (fB Hr (zN (zC 3) zd))) (zD (toD (zC 4)) (zD (toD (zC 5)) zE))))) zE))))))
  (zX (zi 8 (fOp Cn (zC 8) (AM (zD (toD (zj (zD (toD (fC .non)) (zD (toD (zC 4)) (zD (toD (zC 5)) zE))))) (zD (toD (zj (zD (toD (zj (zD (toD (zC 3)) zE))) (zD (toD (zC 4)) (zD (toD (zC 5)) zE))))) (zD (toD (zj (zD (toD (zC 3)) (zD (toD (fB DI (zN (zC 4) zd))) (zD (toD (zC 5)) zE))))) (zD (toD (zj (zD (toD (zC 3)) (zD (toD (fOp zy (zC 4) (zj (zD (toD (zC 7)) zE)))) (zD (toD (zC 5)) zE))))) zE)))))))
  (zX (zi 8 (fOp Cn (zC 8) (AM (zD (toD (zj (zD (toD (zC 3)) (zD (toD (fOp zy (zC 4) (zj (zD (toD (DC (fC (.int 1)))) zE)))) (zD (toD (zC 5)) zE))))) (zD (toD (zj (zD (toD (zC 3)) (zD (toD (fOp zy (zC 4) (zj (zD (toD (fC (.bl false))) zE)))) (zD (toD (zC 5)) zE))))) (zD (toD (zj (zD (toD (zC 3)) (zD (toD (zC 4)) (zD (toD (fB DI (zN (zC 5) zd))) zE))))) zE))))))
  (zX (zi 8 (fOp Cn (zC 8) (AM (zD (toD (zj (zD (toD (zC 3)) (zD (toD (zC 4)) (zD (toD (II (zC 5) (Ay (DC (fC (.int 1)))))) zE))))) (zD (toD (zj (zD (toD (zC 3)) (zD (toD (zC 4)) (zD (toD (fOp zy (zC 5) (fSl (zC 5) (Ay (DC (fC (.int 1)))) BG))) zE))))) (zD (toD (zj (zD (toD (zC 3)) (zD (toD (zC 4)) (zD (toD (fSl (zC 5) (Ay (fC (.int 1))) BG)) zE))))) (zD (toD (zj (zD (toD (zC 3)) (zD (toD (zC 4)) (zD (toD (zj zE)) zE))))) zE)))))))
  (zX (zi 8 (fOp Cn (zC 8) (AM (zD (toD (zj (zD (toD (fOp EU (zC 3) (fC (.int 1)))) (zD (toD (zC 4)) (zD (toD (fSl (zC 5) (Ay (fC (.int 1))) BG)) zE))))) (zD (toD (zj (zD (toD (zC 3)) (zD (toD (zC 4)) (zD (toD (fOp zy (fSl (zC 5) BG (Ay (DC (fC (.int 1))))) (zj (zD (toD (zC 6)) zE)))) zE))))) (zD (toD (zj (zD (toD (zC 3)) (zD (toD (zC 4)) (zD (toD (fOp zy (zj (zD (toD (DC (fC (.int 1)))) zE)) (fSl (zC 5) (Ay (fC (.int 1))) BG))) zE))))) zE))))))
  (zX (zi 8 (fOp Cn (zC 8) (AM (zD (toD (zj (zD (toD (zC 3)) (zD (toD (zC 4)) (zD (toD (fOp zy (fSl (zC 5) BG (Ay (DC (fC (.int 1))))) (zj (zD (toD (fC (.bl true))) zE)))) zE))))) (zD (toD (zj (zD (toD (zC 3)) (zD (toD (fSl (zC 4) BG (Ay (DC (fC (.int 1)))))) (zD (toD (zC 5)) zE))))) (zD (toD (zj (zD (toD (zC 3)) (zD (toD (zj zE)) (zD (toD (zC 5)) zE))))) (zD (toD (zj (zD (toD (zC 3)) (zD (toD (zC 5)) (zD (toD (zC 4)) zE))))) zE)))))))
  (zX (zi 8 (fOp Cn (zC 8) (AM (zD (toD (fB DI (zN (zC 2) zd))) (zD (toD (fSl (zC 2) BG (Ay (fC (.int 2))))) (zD (toD (fOp zy (zC 2) (zj (zD (toD (fC (.int 0))) zE)))) (zD (toD (zj (zD (toD (zC 4)) (zD (toD (zC 3)) (zD (toD (zC 5)) zE))))) (zD (toD (fC .non)) (zD (toD (zC 3)) (zD (toD (zC 4)) (zD (toD (zC 5)) (zD (toD (zj zE)) (zD (toD (fC (.str ""))) (zD (toD (zj (zD (toD (zC 2)) zE))) zE))))))))))))))
  (zX (zi 9 (Eb (zC 6)))
  (zX (zi 8 (fOp Cn (zC 8) (AM (zD (toD (zj (zD (toD (zC 6)) (zD (toD (zj zE)) (zD (toD (zC 9)) zE))))) (zD (toD (zj (zD (toD (zC 6)) (zD (toD (zC 4)) (zD (toD (zC 9)) zE))))) (zD (toD (zj (zD (toD (fC (.int 1))) (zD (toD (zC 4)) (zD (toD (fSl (zC 9) BG (Ay (fC (.int 1))))) zE))))) (zD (toD (zj (zD (toD (fC (.int 1))) (zD (toD (zj zE)) (zD (toD (fSl (zC 9) BG (Ay (fC (.int 1))))) zE))))) zE)))))))
  (AL (fOp kIx (zC 8) (zO zZ (zD (toD (zC 0)) (zD (toD (fB AR (zN (zC 8) zd))) zE)))))))))))))))))
noncomputable def IB:FF:=Ab 10 KU
noncomputable def MN:FS:=(zX (zi 3 (zO HW (zD (toD (zC 0)) (zD (toD (zC 2)) zE))))
  (AL (C5 (Cj "bool" (zC 3)) (fOp kEq (zC 3) (zO IK (zD (toD (zC 0)) (zD (toD (zC 1)) (zD (toD (zC 2)) zE))))))))
noncomputable def Hl:FF:=Ab 4 MN
noncomputable def Mx:FS:=(zX (zi 1 (zO G2 (zD (toD (zC 0)) zE)))
  (zX (zi 2 (zO G0 (zD (toD (zC 1)) (zD (toD (fOp zy (fC (.int 1)) (zO zZ (zD (toD (zC 1)) (zD (toD (fC (.int 26))) zE))))) (zD (toD (fOp zy (fC (.int 1)) (zO zZ (zD (toD (zC 1)) (zD (toD (fC (.int 6))) zE))))) zE)))))
  (zX (zi 3 (zO Ia (zD (toD (zC 2)) zE)))
  (zX (zi 4 (AM (zD (toD (fC .non)) (zD (toD (fC (.int 0))) (zD (toD (fC (.bl true))) (zD (toD (fC (.str ""))) (zD (toD (AM zE)) (zD (toD (zj zE)) (zD (toD JU) (zD (toD (zj (zD (toD (fC (.int 1))) (zD (toD (zj zE)) (zD (toD (zj (zD (toD (fC (.int 0))) zE))) zE))))) (zD (toD (zj (zD (toD (fC (.int 1))) (zD (toD (zj (zD (toD (fC (.int 0))) zE))) (zD (toD (zj (zD (toD (fC (.int 0))) zE))) zE))))) (zD (toD (AM (zD (toD (fC (.int 1))) (zD (toD (zj zE)) (zD (toD (zj (zD (toD (fC (.int 0))) zE))) zE))))) (zD (toD (zj (zD (toD (fC (.int 0))) (zD (toD (zj zE)) (zD (toD (zj zE)) zE))))) (zD (toD (zj (zD (toD (zj zE)) (zD (toD (zj zE)) (zD (toD (zj zE)) zE))))) zE))))))))))))))
  (zX (BU (AO (zC 4)) (gN 5) (sIf (Cw (tst (zO Hl (zD (toD (zC 2)) (zD (toD (zC 3)) (zD (toD (zC 5)) zE)))))) (AL (fC (.bl false))) Ah))
  (zX (zi 6 (zO Hw (zD (toD (zC 2)) zE)))
  (zX (BU (A0 (zD (toD (fOp zy (fC (.int 3)) (fB AR (zN (fSl (zC 0) BG (Ay (fC (.int 12)))) zd)))) zE)) (gN 7) (zX (zi 8 (zO Ir (zD (toD (zC 1)) (zD (toD (zC 2)) (zD (toD (zC 6)) zE)))))
  (zX (sIf (tst (fOp kGt (zO zZ (zD (toD (zC 1)) (zD (toD (fC (.int 3))) zE))) (fC (.int 0)))) (zi 8 (zO IB (zD (toD (zC 1)) (zD (toD (zC 2)) (zD (toD (zC 8)) zE))))) Ah)
  (sIf (Cw (tst (zO Hl (zD (toD (zC 2)) (zD (toD (zC 3)) (zD (toD (zC 8)) zE)))))) (AL (fC (.bl false))) Ah))))
  (AL (fOp (kIs false) (zO HW (zD (toD (zC 2)) (zD (toD (zC 6)) zE))) (fC (.bl true)))))))))))
noncomputable def Fp:FF:=Ab 9 Mx
theorem RO:∀ {ds:List D},ds.all (CT n)=true -> ∃ xs:List Int,ds=xs.map D.int /\ ∀ x∈xs,0<=x/\x<n
 |[],_=>⟨[],rfl,λ_ h=>by cases h⟩
 |d::ds,h=>by
  rw[List.all_cons,BR]at h;obtain ⟨xs,rfl,hx⟩:=RO h.2;have h1:=h.1;cases d with
  |int i=>
   simp only[CT,BR,Bx]at h1;exact ⟨i::xs,rfl,λx hm=>by
    rcases AK.mp hm with z|z
    .subst z;exact h1
    .exact hx x z⟩
  |_=>cases h1
def KA:tbD n d=true ↔ ∃ xs:List Int,d=tI xs /\ ∀ x∈xs,0<=x/\x<n:=by
 constructor
 .intro h;cases d with
  |tup ds=>
   obtain ⟨xs,rfl,hx⟩:=RO (show ds.all (CT n)=true from h);exact ⟨xs,rfl,hx⟩
  |_=>cases h
 .rintro ⟨xs,rfl,h⟩;exact Iy h
def OS (wf:∀ (j:Nat) u,M[j]?=some u->MO.und M.length u=true) (hd:D.und 0 d=true) (h:Ok (m ds M) λd' M'=>d'=d /\ ∃ us,M'=M++us):Fw m ds M=some (d,M):=by
 refine zW (R9 (Ok.mono h ?_));rintro d' M' ⟨rfl,us,rfl⟩;refine ⟨⟨Jz (BD _) hd,by simp,λj u hj e=>?_⟩,rfl,by simp⟩;rw[AJ hj]at e;exact wf j u e
def YL (m:IsM zA l) (hd:Vd M d):Iu [mD zA,d] M=some (.bl (tbD l d),M):=by
 unfold Iu Lp;exact HG (zc (zV (d:=d) rfl (zY (GL m rfl))) (N7 hd))
theorem Pj:∀ {S:Ye},((S.zip (S.drop 1)).map λq=>decide (q.1<q.2)).all id=true ↔ S.Pairwise (· < ·)
 |[]=>by simp
 |[a]=>by simp
 |a::b::r=>by
  have ih:=Pj (S:=b::r);have e:((a::b::r).zip ((a::b::r).drop 1)).map (λq=>decide (q.1<q.2))=decide (a<b)::((b::r).zip ((b::r).drop 1)).map (λq=>decide (q.1<q.2)):=rfl;rw[e,List.all_cons,BR,ih];constructor
  .rintro ⟨h1,h2⟩;have h1:a<b:=D1 h1;refine EO.mpr ⟨λc hc=>?_,h2⟩;rcases AK.mp hc with z|z
   .rw[z];exact h1
   .exact Int.lt_trans h1 ((EO.mp h2).1 c z)
  .intro h;obtain ⟨h1,h2⟩:=EO.mp h;exact ⟨BB (h1 b Ae),h2⟩
def bE (hd:Vd M d):∃ b,GR [mD zA,d] M=some (.bl b,M)/\(b=true ↔ ∃ S,d=tI S/\IsS zA S):=by
 have e:=N7 (n:=zA.length) hd;cases h:tbD zA.length d with
 |false=>
  refine ⟨false,?_,(λz=>by cases z),?_⟩
  .refine zW ?_;unfold GR;rw[zw];unfold IJ;rw[h]at e;exact Ci (E1 (C3 (zc (zV (d:=d) rfl (zY (EW rfl))) e))) (zn (d:=.bl false) rfl ⟨rfl,rfl⟩)
  .rintro ⟨S,rfl,s⟩;rw[Iy s.mem]at h;cases h
 |true=>
  rw[h]at e;obtain ⟨S,rfl,hS⟩:=KA.mp h;have hl:S.length<=100000:=by
   have hh:Vd M (.tup (S.map D.int)):=hd;unfold Vd at hh;simpa using hh.1
  by_cases s0:S.length=0
  .refine ⟨false,?_,(λz=>by cases z),?_⟩
   .refine zW ?_;unfold GR;rw[zw];unfold IJ;refine Ci (Bt (C3 (zc (zV (d:=tI S) rfl (zY (EW rfl))) e)) (BL (zS (Fh (f:=zC 1) (xs:=S) rfl) (y:=.dat (.int 0)) rfl (eqE.trans ?_)))) (zn (d:=.bl false) rfl ⟨rfl,rfl⟩);rw[BB (by omega)]
   .rintro ⟨S',e',s⟩;have:S=S':=Eh (D.tup.inj e');subst this;have:=s.n0;omega
  .refine ⟨((S.zip (S.drop 1)).map λq=>decide (q.1<q.2)).all id,?_,?_⟩
   .refine zW ?_;unfold GR;rw[zw];unfold IJ;refine GC (Bt (C3 (zc (zV (d:=tI S) rfl (zY (EW rfl))) e)) (BL (zS (Fh (f:=zC 1) (xs:=S) rfl) (y:=.dat (.int 0)) rfl (eqE.trans ?_)))) ?_
    .rw[Aa (by omega)]
    have c1:L3.BE (S.map D.int) (some 1) none=(S.drop 1).map D.int:=by
     rw[Oq (a:=1) (b:=S.length) (by show HT.sIx _ _ (some ((1:Nat):Int))=1;rw[HT.Qh,AH];omega) (by rw[VZ,AH]),List.map_drop];exact G8 (by simp)
    have hi:IP (zD (toD (zC 1)) (zD (toD (fSl (zC 1) (Ay (fC (.int 1))) BG)) zE)) [some (mD zA),some (tI S),none,none] M=some ((S.zip (S.drop 1)).map (λq=>D.tup [.int q.1,.int q.2]),none,M):=by
     have s1:=slE (f:=zC 1) (Y:=[some (mD zA),some (tI S),none,none]) (M:=M) (xs:=S.map D.int) rfl (oS (f:=fC (.int 1)) rfl) (rfl:BG _ M=some (none,M));rw[c1]at s1;have:=zV (f:=zC 1) (Y:=[some (mD zA),some (tI S),none,none]) (M:=M) (d:=tI S) rfl (zY s1);unfold IP;rw[this];show some ((((S.map D.int).zip ((S.drop 1).map D.int)).map λq=>D.tup [q.1,q.2]),none,M)=_;congr 2;rw[List.zip_map,Ax];rfl
    refine zn (Jw (bs:=(S.zip (S.drop 1)).map λq=>decide (q.1<q.2)) ?_) ⟨rfl,rfl⟩;rw[Ax];exact Ez (gd:=none) (S.zip (S.drop 1)) (λq=>D.tup [.int q.1,.int q.2]) (λq=> .bl (decide (q.1<q.2))) hi trivial (by rw[List.length_zip];omega) λq _=>⟨_,rfl,zS (f:=zC 2) (g:=zC 3) (x:=.dat (.int q.1)) (y:=.dat (.int q.2)) rfl rfl rfl⟩
   .rw[Pj];constructor
    .exact λh=>⟨S,rfl,⟨h,by omega,hS⟩⟩
    .rintro ⟨S',e',s⟩;have:S=S':=Eh (D.tup.inj e');subst this;exact s.pw
def ShM (zA:Ya) (l:Nat) (d:D):Prop:=∃ k w K,d=.tup [.int k,tI w,tI K]/\Wd l w/\IsS zA K/\((broR zA (zH zA) w).length:Int)=k/\(K.length:Int)=k/\CQ zA l K=[]
def Szd (d:D):Prop:=∀ ds,d=.tup ds -> ∀ e∈ds,∀ es,e=.tup es->es.length<=90000
def Mj:Ed d=true ↔ ∃ k,d=.int k:=by
 constructor
 .intro h;cases d with
  |int k=>exact ⟨k,rfl⟩
  |_=>cases h
 .rintro ⟨k,rfl⟩;rfl
open Classical in
def N9 {zA:Ya} {l:Nat} (m:IsM zA l) (hR:zA.length<=26) (hl:l<=12) {d:D} {M:Mem} (wf:∀ (j:Nat) u,M[j]?=some u->MO.und M.length u=true) (hd:Vd M d) (hz:Szd d) :
  HW [mD zA,d] M=some (.bl (decide (ShM zA l d)),M):=by
 unfold HW;refine OS wf rfl ?_;rw[zw];unfold Mn;obtain ⟨t,e,q,_⟩:=hd.ty;cases d with
 |tup ds=>
  have hh:Vd M (.tup ds):=hd;unfold Vd at hh;have el:=FK (f:=zC 1) (Y:=[some (mD zA),some (.tup ds),none,none,none,none]) (M:=M) rfl (BK (xs:=ds));have c1:=C3 (k:=true) (f:=Cj "tuple" (zC 1)) (Y:=[some (mD zA),some (.tup ds),none,none,none,none]) (M:=M) (by rw[DO rfl e,q];rfl);have c2:=BL (zS (k:=kNe) el (g:=fC (.int 3)) (y:=.dat (.int 3)) rfl (zW (Je.mpr ⟨rfl,rfl⟩)));by_cases h3:(ds.length:Int)=3
  .rw[Aa (by omega)]at c2;refine GC (Bt c1 c2) ?_;match ds,h3,hh,hz with
   |[x,y,z],_,hh,hz=>
    have vx:=hh.2.mem x (by simp);have vy:=hh.2.mem y (by simp);have vz:=hh.2.mem z (by simp);rw[zK,J3];refine zG (a:=.dat (.tup [x,y,z])) (M:=M) rfl ?_;rw[zM];refine ⟨_,rfl,?_⟩;rw[zU];obtain ⟨b,eb,hb⟩:=bE (zA:=zA) vz;have e1:=C3 (zc (Y:=[some (mD zA),some (.tup [x,y,z]),some x,some y,some z,none]) (a:=zD (toD (zC 2)) zE) (zY (d:=x) rfl) (Q6 vx));have e2:=C3 (zc (Y:=[some (mD zA),some (.tup [x,y,z]),some x,some y,some z,none]) (a:=zD (toD (zC 0)) (zD (toD (zC 3)) zE)) (zV (d:=mD zA) rfl (zY (d:=y) rfl)) (YL m vy));have e3:=C3 (zc (Y:=[some (mD zA),some (.tup [x,y,z]),some x,some y,some z,none]) (a:=zD (toD (zC 0)) (zD (toD (zC 4)) zE)) (zV (d:=mD zA) rfl (zY (d:=z) rfl)) eb);have no:¬ (Ed x=true/\tbD l y=true/\b=true)->decide (ShM zA l (.tup [x,y,z]))=false:=λh=>Aa λ⟨k,w,K,ed,hw,s,_⟩=>h (by
     cases ed;exact ⟨rfl,Iy hw,hb.mpr ⟨K,rfl,s⟩⟩)
    cases hx:Ed x with
    |false=>
     rw[hx]at e1;exact Ci (E1 e1) (zn (d:=.bl false) rfl ⟨by rw[no (by simp[hx])],[],by simp⟩)
    |true=>
     rw[hx]at e1;cases hy:tbD l y with
     |false=>
      rw[hy]at e2;exact Ci (Bt e1 (E1 e2)) (zn (d:=.bl false) rfl ⟨by rw[no (by simp[hy])],[],by simp⟩)
     |true=>
      rw[hy]at e2;cases hbb:b with
      |false=>
       rw[hbb]at e3;exact Ci (Bt e1 (Bt e2 e3)) (zn (d:=.bl false) rfl ⟨by rw[no (by simp[hbb])],[],by simp⟩)
      |true=>
       rw[hbb]at e3;refine GC (Bt e1 (Bt e2 e3)) ?_;obtain ⟨k,rfl⟩:=Mj.mp hx;obtain ⟨w,rfl,hw⟩:=KA.mp hy;obtain ⟨K,rfl,s⟩:=hb.mp hbb;have hwz:w.length<=90000:=by
        have:=hz _ rfl (tI w) (by simp) _ rfl;simpa using this
       have hS:=D9 s;refine Bg (zc (zV (d:=mD zA) rfl (zV (zc (zY (d:=mD zA) rfl) (JN (by omega))) (zY (d:=tI w) rfl))) (KW m (by omega) (IF m) hw hwz)) ?_;refine zn (d:=.bl (decide (((broR zA (zH zA) w).length:Int)=k)&&(decide ((K.length:Int)=k)&&(CQ zA l K).isEmpty))) (Dw (zS (Fh (xs:=broR zA (zH zA) w) rfl) (y:=.dat (.int k)) rfl eqE) λ_=>Dw (zS (Fh (xs:=K) rfl) (y:=.dat (.int k)) rfl eqE) λ_=>zc (zV (d:=mD zA) rfl (zY (d:=tI K) rfl)) (l9 m hR hl s)) ⟨?_,[],by simp⟩;congr 1;rw[DZ,BR,BR,Bx,Bx,Bx,List.isEmpty_iff];constructor
       .rintro ⟨h1,h2,h3⟩;exact ⟨k,w,K,rfl,hw,s,h1,h2,h3⟩
       .rintro ⟨k',w',K',ed,_,_,h1,h2,h3⟩;have ed:=D.tup.inj ed;simp only[List.cons.injEq,and_true]at ed;obtain ⟨a1,a2,a3⟩:=ed;cases a1;have a2:w=w':=Eh (D.tup.inj a2);have a3:K=K':=Eh (D.tup.inj a3);subst a2;subst a3;exact ⟨h1,h2,h3⟩
  .rw[BB h3]at c2;refine Ci (Bt c1 c2) (zn (d:=.bl false) rfl ⟨?_,[],by simp⟩);rw[Aa];rintro ⟨k,w,K,ed,_⟩;cases ed;exact h3 rfl
 |_=>
  refine Ci (E1 (C3 (k:=false) (by rw[DO rfl e,q];rfl))) (zn (d:=.bl false) rfl ⟨?_,[],by simp⟩);rw[Aa];rintro ⟨k,w,K,ed,_⟩;cases ed
def Qq (h:Vd M d):Gx [d] M=some (.bl (Ed d),M):=by
 obtain ⟨t,e,_,q⟩:=h.ty;unfold Gx Lb;refine HG ?_;rw[<-q];exact Dw (DO rfl e) λ_=>Qt (DO rfl e)
def RY (h:Vd M d):G4 [d,.int n] M=some (.bl (tbD n d),M):=by
 obtain ⟨t,e,q,_⟩:=h.ty;unfold G4 MB;refine HG ?_;cases d with
 |tup ds=>
  have hh:Vd M (.tup ds):=h;unfold Vd at hh;have c1:Cj "tuple" (zC 0) [some (.tup ds),some (.int n),none] M=some (.dat (.bl true),M):=by rw[DO rfl e,q];rfl
  have cm:=QK (own:=[2]) (f:=zC 0) (g:=gN 2) (te:=C5 (zO Gx (zD (toD (zC 2)) zE)) (Ft kLe kLt (fC (.int 0)) (zC 2) (zC 1))) (Y:=[some (.tup ds),some (.int n),none]) (M:=M) (λx=> .bl (CT n x)) rfl hh.1 λx hx=>⟨_,rfl,by
   have vx:=hh.2.mem x hx;have ew:=zc (Y:=[some (.tup ds),some (.int n),some x]) (a:=zD (toD (zC 2)) zE) (zY (d:=x) rfl) (Qq vx);cases hw:Ed x with
   |false=>
    rw[hw]at ew;have:CT n x=false:=by
     cases x with
     |int i=>cases hw
     |_=>rfl
    rw[this];exact (Dw (b:=true) ew λz=>by cases z).trans rfl
   |true=>
    rw[hw]at ew;obtain ⟨i,rfl⟩:=Mj.mp hw;refine (Dw (b:=CT n (.int i)) ew λ_=>?_).trans (by rw[Bool.true_and]);refine zW (Rh.mpr (BW.mpr (zG (a:=.dat (.int i)) (M:=M) rfl (Qb.mpr (Ei.mpr ?_)))));by_cases h0':0<=i
    .rw[BB h0',AB rfl];refine zG (a:=.dat (.int n)) (M:=M) rfl (Jq.mpr ⟨?_,rfl⟩);simp[CT,h0']
    .rw[Aa h0',AE (by decide)];exact ⟨by simp[CT,h0'],rfl⟩⟩
  have ca:=Jw (bs:=ds.map (CT n)) (by rw[Ax];exact cm);rw[Kr]at ca;exact (Dw c1 λ_=>ca).trans (by rw[Bool.true_and];rfl)
 |_=>exact (Dw (a:=false) (b:=true) (by rw[DO rfl e,q];rfl) λz=>by cases z).trans rfl
def Qs (hz:zA.length<=1000) (hf:f Y M=some (.dat (.int zA.length),M)):Eb f Y M=some (.dat (tI (zH zA)),M):=by
 refine zW (dQ (j:=(zA.length:Int)) hf (by omega) (by omega) ⟨?_,rfl⟩);unfold upD tI zH;rw[Ax,show (zA.length:Int).toNat=zA.length by omega];rfl
def cW {f:FE} {Y:Sd} {M M1:Mem} {a:Bool} (hf:f Y M=some (.dat (.bl a),M1)):E3 f Y M=some (.dat (.bl (!a)),M1):=by unfold E3;rw[hf]
def jX {f:FE} {Y:Sd} {M M1:Mem} {bs:List Bool} (h:f Y M=some (.fl (bs.map D.bl),M1)):fB Mm (zN f zd) Y M=some (.dat (.bl (bs.any id)),M1):=by
 unfold fB zN zd;rw[h];exact zW ((Pz Q3 (MQ bs)).mpr ⟨rfl,rfl⟩)
def bY {K:Ye} {n:Nat} (h:∀ x∈K,0<=x/\x<(n:Int)):(zp K).length<=n:=by
 have:=Fe (zp K) ((List.range n).map λ(k:Nat)=>(k:Int)) (Pe K) λx hx=>by
  have:=h x ((Nr K x).mp hx);exact Ac.mpr ⟨x.toNat,Bk.mpr (by omega),by omega⟩
 simpa using this
def IZ (K:Ye):(K.map D.int).all (Bc 0)=true:=by
 rw[List.all_map,Bi];exact λx _=>rfl
def Zk {K L:Ye}:Am 1 (tI K) (tI L)=decide (K=L):=by
 by_cases h:K=L
 .subst h;rw[BB rfl];exact Le 1 (tI K) (IZ K)
 .rw[Aa h];cases e:Am 1 (tI K) (tI L) with
  |false=>rfl
  |true=>exact absurd (Eh (D.tup.inj (Wk 1 _ _ (IZ K) (IZ L) e))) h
def QC {K:Ye}:K=ris K ↔ K.Pairwise (· < ·):=by
 constructor
 .intro h;rw[h];exact HK K
 .intro h;exact (JB h).symm
open Classical in
def gV {zA:Ya} {l:Nat} (m:IsM zA l) (hR:zA.length<=26) (hl:l<=12) {d:D} {M:Mem} (wf:∀ (j:Nat) u,M[j]?=some u->MO.und M.length u=true) (hd:Vd M d) (hz:Szd d) {jJ:Nat} {J:Ya} (hJ:M[jJ]?=some (dT (jnT J))) (hj:∀ p,p∈J ↔ p∈B7 zA l One) :
  IK [mD zA,.ref jJ,d] M=some (.bl (decide (ShM zA l d)),M):=by
 unfold IK;refine OS wf rfl ?_;rw[zw];unfold Kg;obtain ⟨t,e,q,_⟩:=hd.ty;cases d with
 |tup ds=>
  have hh:Vd M (.tup ds):=hd;unfold Vd at hh;have el:=FK (f:=zC 2) (Y:=[some (mD zA),some (.ref jJ),some (.tup ds),none,none,none,none]) (M:=M) rfl (BK (xs:=ds));have c1:=C3 (k:=true) (f:=Cj "tuple" (zC 2)) (Y:=[some (mD zA),some (.ref jJ),some (.tup ds),none,none,none,none]) (M:=M) (by rw[DO rfl e,q];rfl);have c2:=BL (zS (k:=kNe) el (g:=fC (.int 3)) (y:=.dat (.int 3)) rfl (zW (Je.mpr ⟨rfl,rfl⟩)));by_cases h3:(ds.length:Int)=3
  .rw[Aa (by omega)]at c2;refine GC (Bt c1 c2) ?_;match ds,h3,hh,hz with
   |[x,y,z],_,hh,hz=>
    have vx:=hh.2.mem x (by simp);have vy:=hh.2.mem y (by simp);have vz:=hh.2.mem z (by simp);rw[zK,J3];refine zG (a:=.dat (.tup [x,y,z])) (M:=M) rfl ?_;rw[zM];refine ⟨_,rfl,?_⟩;rw[zU];have e1:=C3 (zc (Y:=[some (mD zA),some (.ref jJ),some (.tup [x,y,z]),some x,some y,some z,none]) (a:=zD (toD (zC 3)) zE) (zY (d:=x) rfl) (Qq vx));have e2:=C3 (zc (Y:=[some (mD zA),some (.ref jJ),some (.tup [x,y,z]),some x,some y,some z,none]) (a:=zD (toD (zC 4)) (zD (toD (fB AR (zN (fOp kIx (zC 0) (fC (.int 0))) zd))) zE)) (zV (d:=y) rfl (zY (GL m rfl))) (RY vy));have e3:=C3 (zc (Y:=[some (mD zA),some (.ref jJ),some (.tup [x,y,z]),some x,some y,some z,none]) (a:=zD (toD (zC 5)) (zD (toD (fB AR (zN (zC 0) zd))) zE)) (zV (d:=z) rfl (zY (EW rfl))) (RY vz));have no:¬ (Ed x=true/\tbD l y=true/\tbD zA.length z=true)->decide (ShM zA l (.tup [x,y,z]))=false:=λh=>Aa λ⟨k,w,K,ed,hw,s,_⟩=>h (by
     cases ed;exact ⟨rfl,Iy hw,Iy s.mem⟩)
    cases hx:Ed x with
    |false=>
     rw[hx]at e1;exact Ci (E1 e1) (zn (d:=.bl false) rfl ⟨by rw[no (by simp[hx])],[],by simp⟩)
    |true=>
     rw[hx]at e1;cases hy:tbD l y with
     |false=>
      rw[hy]at e2;exact Ci (Bt e1 (E1 e2)) (zn (d:=.bl false) rfl ⟨by rw[no (by simp[hy])],[],by simp⟩)
     |true=>
      rw[hy]at e2;cases hbb:tbD zA.length z with
      |false=>
       rw[hbb]at e3;exact Ci (Bt e1 (Bt e2 e3)) (zn (d:=.bl false) rfl ⟨by rw[no (by simp[hbb])],[],by simp⟩)
      |true=>
       rw[hbb]at e3;refine GC (Bt e1 (Bt e2 e3)) ?_;obtain ⟨k,rfl⟩:=Mj.mp hx;obtain ⟨w,rfl,hw⟩:=KA.mp hy;obtain ⟨K,rfl,hK⟩:=KA.mp hbb;have hKz:K.length<=90000:=by
        have:=hz _ rfl (tI K) (by simp) _ rfl;simpa using this
       have few:=bY hK;have inj:∀ {k' w' K'},D.tup [.int k,tI w,tI K]=.tup [.int k',tI w',tI K']->k=k'/\w=w'/\K=K':=λ{k' w' K'} ed=>by
        have ed:=D.tup.inj ed;simp only[List.cons.injEq,and_true]at ed;obtain ⟨a1,a2,a3⟩:=ed;cases a1;exact ⟨rfl,Eh (D.tup.inj a2),Eh (D.tup.inj a3)⟩
       have lK:=Fh (f:=zC 5) (Y:=[some (mD zA),some (.ref jJ),some (.tup [.int k,tI w,tI K]),some (.int k),some (tI w),some (tI K),none]) (M:=M) (xs:=K) rfl;have t1:=BL (zS (k:=kEq) lK (g:=fC (.int 0)) (y:=.dat (.int 0)) rfl eqE);have t2:tst (fOp (kTr true 0) (fB DI (zN (zC 5) zd)) (Fz (FP (zC 5)))) [some (mD zA),some (.ref jJ),some (.tup [.int k,tI w,tI K]),some (.int k),some (tI w),some (tI K),none] M=some (!decide (K=ris K),M):=by
        refine BL (zS (HP (f:=zC 5) (x:=.dat (tI K)) rfl (BK (xs:=K.map D.int))) (Mt (Qz (ks:=K) (x:=.dat (tI K)) rfl (BK (xs:=K.map D.int)) (by omega)) (by omega)) ?_);show (if (K.map D.int).all (Bc 0)&&((ris K).map D.int).all (Bc 0) then some (EV.dat (.bl (nb true (Am 1 (tI K) (tI (ris K))))),M) else none)=_;rw[IZ,IZ,Zk];rfl
       have t3:=BL (zS (k:=kNe) lK (g:=zC 3) (y:=.dat (.int k)) rfl (zW (Je.mpr ⟨rfl,rfl⟩)));by_cases n0:K.length=0
       .rw[BB (by omega)]at t1;refine Ci (E1 t1) (zn (d:=.bl false) rfl ⟨?_,[],by simp⟩);rw[Aa];rintro ⟨k',w',K',ed,_,s,_⟩;obtain ⟨rfl,rfl,rfl⟩:=inj ed;have:=s.n0;omega
       rw[Aa (by omega)]at t1;by_cases hr:K=ris K
       .have s:IsS zA K:=⟨QC.mp hr,by omega,hK⟩;rw[BB hr]at t2;have hS:=D9 s;by_cases hk:(K.length:Int)=k
        .rw[Aa (by omega)]at t3;refine GC (Bt t1 (Bt t2 t3)) ?_;have eb:=zc (m:=Fs) (Y:=[some (mD zA),some (.ref jJ),some (.tup [.int k,tI w,tI K]),some (.int k),some (tI w),some (tI K),none]) (a:=zD (toD (zC 0)) (zD (toD (Eb (fB AR (zN (zC 0) zd)))) (zD (toD (zC 4)) zE))) (M:=M) (zV (d:=mD zA) rfl (zV (Qs (by omega) (EW rfl)) (zY (d:=tI w) rfl))) (R6 m hR (IF m) hw);have t4:=BL (zS (k:=kNe) (Fh eb) (g:=zC 3) (y:=.dat (.int k)) rfl (zW (Je.mpr ⟨rfl,rfl⟩)));by_cases hb:((broR zA (zH zA) w).length:Int)=k
         .rw[Aa (by omega)]at t4;refine GC t4 ?_;have eL:=Er (HP (f:=zC 5) (Y:=[some (mD zA),some (.ref jJ),some (.tup [.int k,tI w,tI K]),some (.int k),some (tI w),some (tI K),none]) (M:=M) (x:=.dat (tI K)) rfl (BK (xs:=K.map D.int)));obtain ⟨d,B,ep,rfl,us,hB,hus⟩:=SJ (M:=M++[.lst (K.map D.int)]) (j:=M.length) (xs:=K) (zt _ _) s.pw (by omega);have b1l:(M++[MO.lst (K.map D.int)]).length=M.length+1:=by simp
          have hP:B[(M++[MO.lst (K.map D.int)]).length]?=some (.lst ((zL K).map tI)):=by rw[hB];simp
          have hJB:B[jJ]?=some (dT (jnT J)):=by
           have:=(AG.mp hJ).1;rw[hB,Bm,AJ this];exact hJ
          have ei:=GZ (NB (a:=zD (toD (fB DI (zN (zC 5) zd))) zE) (aC' eL rfl) ep) (zv hP);have hPl:(zL K).length<=676:=AW (Fu K) (AW (Cq hS hS) (Cq hR hR));have ef:=Hs (own:=[6]) (g:=gN 6) (tc:=zu) (te:=fOp (Ag false) (zC 6) (zC 1)) (zL K) tI (λp=> .bl (Cb zA l p)) (λ_=>true) ei (.inl hP) (by omega) (λp hp=>by
           refine ⟨[some (mD zA),some (.ref jJ),some (.tup [.int k,tI w,tI K]),some (.int k),some (tI w),some (tI K),some (tI p)],rfl,rfl,λ_=>?_⟩;have e1:fOp (Ag false) (zC 6) (zC 1) [some (mD zA),some (.ref jJ),some (.tup [.int k,tI w,tI K]),some (.int k),some (tI w),some (tI K),some (tI p)] B=_:=zS (x:=.dat (tI p)) (y:=.dat (.ref jJ)) rfl rfl (FU (T:=jnT J) hJB);rw[AE (by decide)]at e1;rw[e1];congr 4;unfold Cb;rw[DZ,Bx,<-hj p,KQ])
          rw[List.filter_eq_self.mpr (λ_ _=>rfl),show (zL K).map (λp=>D.bl (Cb zA l p))=((zL K).map λp=>Cb zA l p).map D.bl by rw[Ax];rfl]at ef;rw[CS];refine zG (cW (jX ef)) ?_;rw[zM];refine ⟨?_,_,by rw[hB,Bm]⟩;congr 1;rw[DZ,Bx];have hn:(!((zL K).map λp=>Cb zA l p).any id)=true ↔ CQ zA l K=[]:=by
           unfold CQ;rw[List.filter_eq_nil_iff,List.any_map,Bool.not_eq_true',List.any_eq_false];rfl
          rw[hn];constructor
          .exact λh=>⟨k,w,K,rfl,hw,s,hb,hk,h⟩
          .rintro ⟨k',w',K',ed,_,_,_,_,h⟩;obtain ⟨rfl,rfl,rfl⟩:=inj ed;exact h
         .rw[BB hb]at t4;refine Ci t4 (zn (d:=.bl false) rfl ⟨?_,[],by simp⟩);rw[Aa];rintro ⟨k',w',K',ed,_,_,h,_⟩;obtain ⟨rfl,rfl,rfl⟩:=inj ed;exact hb h
        .rw[BB hk]at t3;refine Ci (Bt t1 (Bt t2 t3)) (zn (d:=.bl false) rfl ⟨?_,[],by simp⟩);rw[Aa];rintro ⟨k',w',K',ed,_,_,_,h,_⟩;obtain ⟨rfl,rfl,rfl⟩:=inj ed;exact hk h
       .rw[Aa hr]at t2;refine Ci (Bt t1 (E1 t2)) (zn (d:=.bl false) rfl ⟨?_,[],by simp⟩);rw[Aa];rintro ⟨k',w',K',ed,_,s,_⟩;obtain ⟨rfl,rfl,rfl⟩:=inj ed;exact hr (QC.mpr s.pw)
  .rw[BB h3]at c2;refine Ci (Bt c1 c2) (zn (d:=.bl false) rfl ⟨?_,[],by simp⟩);rw[Aa];rintro ⟨k,w,K,ed,_⟩;cases ed;exact h3 rfl
 |_=>
  refine Ci (E1 (C3 (k:=false) (by rw[DO rfl e,q];rfl))) (zn (d:=.bl false) rfl ⟨?_,[],by simp⟩);rw[Aa];rintro ⟨k,w,K,ed,_⟩;cases ed
def RA (m:IsM zA l) (hR:zA.length<=26) (hl:l<=12) (wf:∀ (j:Nat) u,M[j]?=some u->MO.und M.length u=true) (hd:Vd M d) (hz:Szd d) (hJ:M[jJ]?=some (dT (jnT J))) (hj:∀ p,p∈J ↔ p∈B7 zA l One):Hl [mD zA,.ref jJ,d] M=some (.bl true,M):=by
 refine zW ?_;unfold Hl;rw[zw];unfold MN;have e1:=N9 m hR hl wf hd hz;have e2:=gV m hR hl wf hd hz hJ hj;generalize (@decide (ShM zA l d) (Classical.propDecidable _))=b at e1 e2;refine Bg (zc (zV (d:=mD zA) rfl (zY (d:=d) rfl)) e1) ?_;exact zn (d:=.bl true) ((Dw (a:=true) (b:=true) ((DO (T := "bool") (f:=zC 3) rfl rfl).trans rfl) λ_=>zS (x:=.dat (.bl b)) (y:=.dat (.bl b)) rfl (zc (zV (d:=mD zA) rfl (zV (d:=.ref jJ) rfl (zY (d:=d) rfl))) e2) (aJ rfl)).trans rfl) ⟨rfl,rfl⟩
def He {xs:List D} {lo hi:Ys}:(L3.BE xs lo hi).length<=xs.length /\ ∀ d∈L3.BE xs lo hi,d∈xs:=by
 rw[Oq rfl rfl];refine ⟨by rw[EJ,D7];omega,λd hd=>List.mem_of_mem_drop (List.mem_of_mem_take hd)⟩
def bL {c:Ye} (h:∀ d∈xs,d∈c.map D.int):∃ c':List Int,xs=c'.map D.int /\ ∀ x∈c',x∈c:=by
 induction xs with
 |nil=>exact ⟨[],rfl,λ_ h=>by cases h⟩
 |cons d r ih=>
  obtain ⟨c',rfl,h2⟩:=ih λx hx=>h x (Ai _ hx);obtain ⟨i,hi,rfl⟩:=Ac.mp (h d Ae);exact ⟨i::c',rfl,λx hx=>by
   rcases AK.mp hx with z|z
   .subst z;exact hi
   .exact h2 x z⟩
def Ui {f:FE} {fl fh:FO} {Y:Sd} {M M1:Mem} {x:EV} {xs:List D} {lo hi:Ys} (hf:f Y M=some (x,M1)) (ht:CG x=none) (hx:Bb M1 x=some xs) (hl:fl Y M1=some (lo,M1)) (hh:fh Y M1=some (hi,M1)):fSl f fl fh Y M=some (.fl (L3.BE xs lo hi),M1):=by
 unfold fSl;rw[hf];dsimp only;rw[hl];dsimp only;rw[hh];dsimp only;exact zW ((JS hx ht).mpr ⟨rfl,rfl⟩)
def b3 {f:FE} {ks:Ye} {Y:Sd} {M M1:Mem} (hf:f Y M=some (.fl (ks.map D.int),M1)) (hz:ks.length<64):fB CL (zN (fB GY (zN f zd)) zd) Y M=some (.dat (tI (CD ks)),M1):=by
 have e:fB GY (zN f zd) Y M=some (.fl ((CD ks).map D.int),M1):=by
  unfold fB zN zd;rw[hf];dsimp only;unfold GY;dsimp only;rw[show Al M1 (.fl (ks.map D.int))=some (ks.map D.int)from D3];dsimp only;rw[Ig];dsimp only;rw[AB hz]
 exact zW (HI.mpr (Hm.mpr (zG e (G1.mpr ((JX D3).mpr ⟨rfl,rfl⟩)))))
def YD {zA:Ya} {l:Nat} (m:IsM zA l) (hR:zA.length<=26) (hl:l<=12) {M:Mem} (g:Gen M 2 1) {w K:Ye} (hw:Wd l w) (hwz:w.length<=20000) (s:IsS zA K) :
  Ok (Ir [.ref 2,mD zA,.tup [.int K.length,tI w,tI K]] M) λd M'=>∃ w' K',d=.tup [.int K.length,tI w',tI K']/\Wd l w'/\w'.length<=20006/\(∀ x∈K',0<=x/\x<(zA.length:Int))/\K'.length<=26/\Nw M M' 2 1:=by
 have l0:=m.l0;have hS:=D9 s;have r0:0<zA.length:=by have:=s.n0;omega
 unfold Ir;rw[zw];unfold Ms;rw[zK,J3];refine zG (a:=.dat (.tup [.int K.length,tI w,tI K])) (M:=M) rfl ?_;rw[zM];refine ⟨_,rfl,?_⟩;rw[zU];refine Bg (GL m rfl) ?_;rw[zK,za];refine HI.mpr (Hm.mpr (Ok.mono (Rg (most:=4) (lets:=l) g (by omega) (by omega) (by omega) (by omega) (λ_=>rfl) (λ_=>rfl) (λ_ _=>rfl) (λ_ _=>rfl)) ?_));rintro _ M1 ⟨⟨u,rfl,hul,hu⟩,nx1⟩;refine G1.mpr ((JX D3).mpr ?_);rw[zM,zU];rw[zK,za];refine HI.mpr (Hm.mpr (Ok.mono (Rg (most:=4) (lets:=l) nx1.gen (by omega) (by omega) (by omega) (by omega) (λ_=>rfl) (λ_=>rfl) (λ_ _=>rfl) (λ_ _=>rfl)) ?_));rintro _ M2 ⟨⟨v,rfl,hvl,hv⟩,nx2⟩;refine G1.mpr ((JX D3).mpr ?_);rw[zM,zU];rw[zK,za];refine C2 (m:=4) nx2.gen rfl rfl (by omega) (by omega) λt M3 t0 t1 nx3=>?_;rw[zM,zU];have nw3:=nx1.nw.trans (nx2.nw.trans nx3.nw);have g3:=nx3.gen;have cat:∀ {f h:FE} {Y:Sd} {A:Mem} {a b:Ye},f Y A=some (.dat (tI a),A)->h Y A=some (.dat (tI b),A)->a.length+b.length<=90000->fOp zy f h Y A=some (.dat (tI (a++b)),A):=λ{f h Y A a b} e1 e2 hz=>zS e1 e2 (zW (Kk.mpr ⟨by rw[AH,AH];exact zm (by omega),by rw[<-Bq];rfl,rfl⟩));have wv:Wd l (v++u++v):=Iw (Iw hv hu) hv;rw[zK];refine OkS.mono (P:=λo Y' A=>o=.nx /\ ∃ K',Y'=[some (.ref 2),some (mD zA),some (.tup [.int K.length,tI w,tI K]),some (.int K.length),some (tI w),some (tI K'),some (.int l),some (tI u),none,some (tI v),some (.int t)]/\A=M3/\(∀ x∈K',0<=x/\x<(zA.length:Int))/\K'.length<=26) ?_ ?_
 .rw[CO];refine zG (BL (zS (k:=kEq) (x:=.dat (.int t)) (y:=.dat (.int 0)) rfl rfl eqE)) ?_;by_cases h0:t=0
  .rw[BB h0,AB rfl,za];refine zG (zc (zV (d:=mD zA) rfl (zV (d:=tI K) rfl (zY (cat (cat (a:=v) (b:=u) rfl rfl (by omega)) (b:=v) rfl (by rw[AU];omega))))) (R6 m hR s wv)) ?_;rw[zM];have sb:=m.broR (v++u++v) s wv;have:=D9 sb;exact ⟨rfl,_,rfl,rfl,sb.mem,by omega⟩
  .rw[Aa h0,AE (by decide),Cr];exact ⟨rfl,K,rfl,rfl,s.mem,by omega⟩
 rintro o Y' A ⟨rfl,K1,rfl,rfl,hK1,hK1l⟩;rw[zU,zK];refine OkS.mono (P:=λo Y' B=>o=.nx /\ ∃ K',Y'=[some (.ref 2),some (mD zA),some (.tup [.int K.length,tI w,tI K]),some (.int K.length),some (tI w),some (tI K'),some (.int l),some (tI u),none,some (tI v),some (.int t)]/\Nw M B 2 1/\(∀ x∈K',0<=x/\x<(zA.length:Int))/\K'.length<=26) ?_ ?_
 .rw[CO];refine zG (BL (zS (k:=kEq) (x:=.dat (.int t)) (y:=.dat (.int 1)) rfl rfl eqE)) ?_;by_cases h1:t=1
  .rw[BB h1,AB rfl,za];obtain ⟨d,B,eo,jO,c,rfl,eO,col,hjO,nwO,_⟩:=PD g3 (many:=(zA.length:Int)) (by omega) (by omega);have ec:=Ui (fl:=BG) (fh:=Ay (zC 3)) (lo:=none) (hi:=some (K.length:Int)) (zc (m:=GD) (Y:=[some (.ref 2),some (mD zA),some (.tup [.int K.length,tI w,tI K]),some (.int K.length),some (tI w),some (tI K1),some (.int l),some (tI u),none,some (tI v),some (.int t)]) (a:=zD (toD (zC 0)) (zD (toD (fB AR (zN (zC 1) zd))) zE)) (zV (d:=.ref 2) rfl (zY (EW (f:=zC 1) rfl))) eo) rfl (Cv eO) rfl (oS (f:=zC 3) rfl);have hc:=@He (c.map D.int) none (some (K.length:Int));obtain ⟨c',hc',hcm⟩:=bL hc.2;rw[hc']at ec;have hcl:c'.length<=26:=by have:=hc.1;have:=col.1;rw[hc',AH,AH]at *;omega
   refine zG (b3 ec (by omega)) ?_;rw[zM];refine ⟨rfl,_,rfl,nw3.trans nwO,λx hx=>col.2 x (hcm x ((Gw c').mem_iff.mp hx)),by rw[Lf];exact hcl⟩
  .rw[Aa h1,AE (by decide),Cr];exact ⟨rfl,K1,rfl,nw3,hK1,hK1l⟩
 rintro o Y' B ⟨rfl,K2,rfl,nwB,hK2,hK2l⟩;rw[zU];refine zn (Cp (zV (d:=.int K.length) rfl (zV (cat (cat (a:=u) (b:=w) rfl rfl (by omega)) (b:=v) rfl (by rw[AU];omega)) (zY (d:=tI K2) rfl))) (by simp)) ⟨u++w++v,K2,rfl,Iw (Iw hu hw) hv,by rw[AU,AU];omega,hK2,hK2l,nwB⟩
def nL (i:Int):Vd M (.int i):=by unfold Vd;trivial
def K7 (h:M[j]?=some (.lst xs)):Vd M (.ref j):=by
 unfold Vd;refine ⟨"list", ?_,.inl rfl⟩;unfold Fy;dsimp only;rw[h]
def Qj (hz:ds.length<=100000) (h:∀ d∈ds,Vd M d):Vd M (.tup ds):=by
 unfold Vd;exact ⟨hz,Vds.of h⟩
theorem Ha:∀ {xs:List D},(∀ d∈xs,D.und n d=true)->D.unds n xs=true
 |[],_=>by unfold D.unds;rfl
 |d::xs,h=>by
  unfold D.unds;rw[h d Ae,Ha λx hx=>h x (Ai _ hx)];rfl
def TN (h:M[n]?=some (.lst xs)):D5 M (.dat (.ref n))=some xs:=by
 unfold D5;dsimp only;rw[h]
def ZE (hx:D5 M x=some xs) (hy:D5 M y=some ys) (hz:xs.length+ys.length<=90000):Cn x y M=some (.fl (xs++ys),M):=by
 unfold Cn;rw[hx,hy];dsimp only;rw[AB (zm (by omega))]
def OQ {k:K2} {f g:FE} {Y:Sd} {M M1 M2:Mem} {x y:EV} {r:Option (EV × Mem)} (hf:f Y M=some (x,M1)) (hg:g Y M1=some (y,M2)) (hk:k x y M2=r):fOp k f g Y M=r:=by
 unfold fOp;rw[hf];dsimp only;rw[hg];exact hk
def UZ {A:Mem} (g:Gen A 2 1) {n j:Nat} {L:List D} {Y:Sd} (e:A[j]?=some (.lst L)) (j2:j≠2) (j1:j≠1) (l0:0<L.length) (l1:L.length<=1000) (h0:∀ M,zC 0 Y M=some (.dat (.ref 2),M)) (hn:∀ M,zC n Y M=some (.dat (.ref j),M)):∃ d A',fOp kIx (zC n) (zO zZ (zD (toD (zC 0)) (zD (toD (fB AR (zN (zC n) zd))) zE))) Y A=some (.dat d,A')/\d∈L/\Nx A A' 2 1:=by
 obtain ⟨d4,A4,e4,⟨t,rfl,t0,t1⟩,nx⟩:=N5 g (m:=(L.length:Int)) (by omega) (by omega);have hlt:t.toNat<L.length:=by omega
 exact ⟨L[t.toNat],A4,OQ (hn _) (zc (zV (h0 _) (zY (FK (hn _) (zv e)))) e4) (Ce (zv ((nx.fr j j2 j1).trans e)) (My t0 (AV hlt))),Bl hlt,nx⟩
def oB (hf:f Y M=some (.dat (.int k),M)) (hk:k.natAbs<2 ^ 64):fB Hr (zN f zd) Y M=some (.dat (.str (Str.ofString (toString k))),M):=by
 unfold fB zN zd;rw[hf];show (if k.natAbs<2 ^ 64 then _ else none)=_;rw[AB hk]
def XA (hf:f Y M=some (.dat (.tup xs),M)) (hs:fs Y M=some (some (-1),M)):II f fs Y M=some (.dat (.tup xs.reverse),M):=by
 unfold II;rw[hf];dsimp only;rw[hs];rfl
def F0 (e1:f Y A=some (.dat (.tup a),A)) (e2:h Y A=some (.dat (.tup b),A)) (hz:a.length+b.length<=90000):fOp zy f h Y A=some (.dat (.tup (a++b)),A):=zS e1 e2 (zW (Kk.mpr ⟨zm (by omega),rfl,rfl⟩))
def DT (e:f Y A=some (.dat x,A)):zj (zD (toD f) zE) Y A=some (.dat (.tup [x]),A):=Cp (zY e) (by simp)
def A9 (e1:f Y A=some (.dat x,A)) (e2:g Y A=some (.dat y,A)) (e3:h Y A=some (.dat z,A)):zj (zD (toD f) (zD (toD g) (zD (toD h) zE))) Y A=some (.dat (.tup [x,y,z]),A):=Cp (zV e1 (zV e2 (zY e3))) (by simp)
def Fl (ds:List D):Prop:=∀ d∈ds,(∃ i,d=.int i) \/ ∃ b,d=.bl b
def Fl.ints (c:Ye):Fl (c.map D.int):=λd hd=>by
 obtain ⟨i,_,rfl⟩:=Ac.mp hd;exact .inl ⟨i,rfl⟩
def Fl.app (h1:Fl a) (h2:Fl b):Fl (a++b):=λd hd=>(Ak.mp hd).elim (h1 d) (h2 d)
def Fl.cut {a:List D} {lo hi:Ys} (h:Fl a):Fl (L3.BE a lo hi):=λd hd=>h d (He.2 d hd)
def Fl.bl (b:Bool):Fl [.bl b]:=λd hd=>by rw[Bd]at hd;subst hd;exact .inr ⟨b,rfl⟩
def Fl.int (i:Int):Fl [.int i]:=Fl.ints [i]
def Sp (W:Mem->Prop) (b:Nat) (d:D):Prop:=(∀ A,W A->Vd A d)/\(∀ n,b<n->D.und n d=true)/\Td d<=90000
def Sdd (W:Mem->Prop) (b:Nat) (d:D):Prop:=(∀ A,W A->Vd A d)/\(∀ n,b<n->D.und n d=true)/\Szd d
def Sp.flat (h:Fl ds) (hz:ds.length<=90000):Sp W b (.tup ds):=by
 refine ⟨λA _=>Qj (by omega) λd hd=>?_,λn _=>?_,hz⟩
 .rcases h d hd with ⟨i,rfl⟩|⟨i,rfl⟩ <;> (unfold Vd;trivial)
 .unfold D.und;exact Ha λd hd=>by rcases h d hd with ⟨i,rfl⟩|⟨i,rfl⟩ <;> (unfold D.und;rfl)
def Sp.int (i:Int):Sp W b (.int i):=⟨λ_ _=>nL _,λ_ _=>by unfold D.und;rfl,BD _⟩
def Sp.non:Sp W b .non:=⟨λ_ _=>by unfold Vd;trivial,λ_ _=>by unfold D.und;rfl,BD _⟩
def Sp.bl (k:Bool):Sp W b (.bl k):=⟨λ_ _=>by unfold Vd;trivial,λ_ _=>by unfold D.und;rfl,BD _⟩
def Sp.str (k:Str):Sp W b (.str k):=⟨λ_ _=>by unfold Vd;trivial,λ_ _=>by unfold D.und;rfl,BD _⟩
def Sp.ref (h:∀ A,W A->A[j]?=some (.lst xs)) (hb:j<=b):Sp W b (.ref j):=⟨λA w=>K7 (h A w),λn hn=>by unfold D.und;exact BB (by omega),BD _⟩
def Sp.tup (hz:ds.length<=1000) (h:∀ d∈ds,Sp W b d):Sdd W b (.tup ds):=by
 refine ⟨λA w=>Qj (by omega) λd hd=>(h d hd).1 A w,λn hn=>?_,λds' e d hd es he=>?_⟩
 .unfold D.und;exact Ha λd hd=>(h d hd).2.1 n hn
 .cases e;have:=(h d hd).2.2;rw[he]at this;exact this
def Sp.tri (hx:Sp W b x) (hy:Sp W b y) (hz:Sp W b z):Sdd W b (.tup [x,y,z]):=Sp.tup (by simp) λd hd=>by
 simp only[AK,BO,BY]at hd;rcases hd with rfl|rfl|rfl <;> assumption
def Sp.sr (h:Sp W b d) (hd:∀ ds,d=.tup ds->Fl ds):Sdd W b d:=⟨h.1,h.2.1,λds e x hx es he=>by
 rcases hd ds e x hx with ⟨i,rfl⟩|⟨i,rfl⟩ <;> cases he⟩
def Sdd.mono (h:Sdd W b d) (hb:b<=b'):Sdd W b' d:=⟨h.1,λn hn=>h.2.1 n (by omega),h.2.2⟩
def Sdd.nil:∀ d∈([]:List D),Sdd W b d:=λd h=>by cases h
def Sdd.cons (h:Sdd W b d) (hs:∀ d∈ds,Sdd W b d):∀ x∈d::ds,Sdd W b x:=λx hx=>by
 rcases AK.mp hx with z|z
 .subst z;exact h
 .exact hs x z
def Sdd.app {L1 L2:List D} {b':Nat} (h1:∀ d∈L1,Sdd W b d) (hb:b<=b') (h2:∀ d∈L2,Sdd W b' d):∀ d∈L1++L2,Sdd W b' d:=λd hd=>(Ak.mp hd).elim (λz=>(h1 d z).mono hb) (h2 d)
def Mc {f:FE} {Y:Sd} {M M1:Mem} {d:D} (h:f Y M=some (.dat d,M1)):toD f Y M=some (d,M1):=by unfold toD;rw[h]
noncomputable abbrev qS (zA:Ya) (l:Nat) (k:Int) (w K:Ye) (r:Sd):Sd:=some (.ref 2)::some (mD zA)::some (.tup [.int k,tI w,tI K])::some (.int k)::some (tI w)::some (tI K)::some (.int zA.length)::some (.int l)::r
def Gj (nw:Nw M A 2 1) (hn:A.length+us.length=n) (hj:A[j]?=some (.lst L)) (h8:zC 8 Y A=some (.dat (.ref j),A)) (hf:f Y A=some (.fl L2,A++us)) (hu:∀ u∈us,MO.und (A.length+us.length) u=true) (hL:∀ d∈L,Sdd W b d) (hb:b<=b') (hb':b'<n) (h2:∀ d∈L2,Sdd W b' d) (hz:L.length+L2.length<=1000)
  (q:∀ B L',L'.length=L.length+L2.length->(∀ d∈L',Sdd W b' d)->Nw M B 2 1->B.length=n+1->B[n]?=some (.lst L')->(∀ (i:Nat) u,(A++us)[i]?=some u->B[i]?=some u)->OkS (g (Y.set 8 (some (.ref n))) B) P):OkS (zX (zi 8 (fOp Cn (zC 8) f)) g Y A) P:=by
 have hjl:=(AG.mp hj).1;rw[zK,za];refine zG (OQ (x:=.dat (.ref j)) h8 hf (ZE (xs:=L) (ys:=L2) (TN (by rw[AJ hjl];exact hj)) rfl (by omega))) (zx ?_);rw[zU];have hl:(A++us).length=n:=by rw[AU];exact hn
 have n1:Nw M (A++us) 2 1:=⟨nw.gen.app hu,by have:=nw.len;omega,λi hi a c=>by rw[AJ (by have:=nw.len;omega)];exact nw.fr i hi a c⟩;have hS:=Sdd.app hL hb h2;have n2:=n1.trans (n1.gen.lst (L++L2) (Ha λd hd=>(hS d hd).2.1 _ (by omega)));have:=q _ (L++L2) (AU ..) hS n2 (by rw[AU,hl];rfl) (by rw[<-hl];exact zt _ _) (λi u e=>by rw[AJ (AG.mp e).1];exact e);rw[<-hl]at this;exact this
def mY {zA:Ya} {l:Nat} (m:IsM zA l) (hR:zA.length<=26) (hl:l<=12) {M:Mem} (g:Gen M 2 1) {k:Int} (k0:0<=k) (k1:k<=26) {w K:Ye} (hw:w.length<=20006) (hK:K.length<=26) :
  Ok (IB [.ref 2,mD zA,.tup [.int k,tI w,tI K]] M) λd M'=>Vd M' d/\Szd d/\Nw M M' 2 1:=by
 obtain ⟨hn2,hn1⟩:=g.lt;unfold IB;rw[zw];unfold KU;rw[zK,J3];refine zG (a:=.dat (.tup [.int k,tI w,tI K])) (M:=M) rfl ?_;rw[zM];refine ⟨_,rfl,?_⟩;rw[zU];refine Bg (EW rfl) ?_;refine Bg (GL m rfl) ?_;generalize hW:(λA:Mem=>A[M.length+1]?=some (.lst (w.map D.int))/\A[M.length+3]?=some (.lst (K.map D.int))/\A[M.length+8]?=some (.lst [.int k,tI w,tI K]))=W;have W1:∀ A,W A->A[M.length+1]?=some (.lst (w.map D.int)):=λA h=>by rw[<-hW]at h;exact h.1
 have W3:∀ A,W A->A[M.length+3]?=some (.lst (K.map D.int)):=λA h=>by rw[<-hW]at h;exact h.2.1
 have W8:∀ A,W A->A[M.length+8]?=some (.lst [.int k,tI w,tI K]):=λA h=>by rw[<-hW]at h;exact h.2.2
 have sw:∀ {b},Sp W b (tI w):=λ{b}=>Sp.flat (Fl.ints w) (by rw[AH];omega);have sK:∀ {b},Sp W b (tI K):=λ{b}=>Sp.flat (Fl.ints K) (by rw[AH];omega);have wl:(w.map D.int).length=w.length:=AH ..;have Kl:(K.map D.int).length=K.length:=AH ..;have fw:=Fl.ints w;have fK:=Fl.ints K;have cK:∀ {lo hi},(L3.BE (K.map D.int) lo hi).length<=26:=λ{lo hi}=>by have:=(@He (K.map D.int) lo hi).1;omega
 have cw:∀ {lo hi},(L3.BE (w.map D.int) lo hi).length<=20006:=λ{lo hi}=>by have:=(@He (w.map D.int) lo hi).1;omega
 have ksub:∀ {Y:Sd} {A:Mem},zC 3 Y A=some (.dat (.int k),A)->fOp EU (zC 3) (fC (.int 1)) Y A=some (.dat (.int (k-1)),A):=λ{Y A} h=>zS h (y:=.dat (.int 1)) rfl RP;have kadd:∀ {Y:Sd} {A:Mem},zC 3 Y A=some (.dat (.int k),A)->fOp zy (zC 3) (fC (.int 1)) Y A=some (.dat (.int (k+1)),A):=λ{Y A} h=>zS h (y:=.dat (.int 1)) rfl rfl;have e0:zj zE=λY A=>zj zE Y A:=rfl;have em:∀ {Y:Sd} {A:Mem},zj zE Y A=some (.dat (.tup []),A):=λ{Y A}=>Cp rfl (by simp);have sE:∀ {b},Sp W b (.tup []):=λ{b}=>Sp.flat (λd h=>by cases h) (by simp);rw[zK,za];refine zG (CJ (zV (A9 (kadd rfl) (y:=tI w) rfl (z:=tI K) rfl) (zV (A9 (ksub rfl) (y:=tI w) rfl (z:=tI K) rfl) (zV (A9 (x:=.bl true) rfl (y:=tI w) rfl (z:=tI K) rfl) (zY (A9 (oB rfl (by omega)) (y:=tI w) rfl (z:=tI K) rfl))))) (by simp)) (zx ?_);rw[zU];have s1:∀ d∈[D.tup [.int (k+1),tI w,tI K],.tup [.int (k-1),tI w,tI K],.tup [.bl true,tI w,tI K],.tup [.str (Str.ofString (toString k)),tI w,tI K]],Sdd W 0 d:=Sdd.cons (Sp.tri (Sp.int _) sw sK) (Sdd.cons (Sp.tri (Sp.int _) sw sK) (Sdd.cons (Sp.tri (Sp.bl _) sw sK) (Sdd.cons (Sp.tri (Sp.str _) sw sK) Sdd.nil)));generalize hL1:[D.tup [.int (k+1),tI w,tI K],.tup [.int (k-1),tI w,tI K],.tup [.bl true,tI w,tI K],.tup [.str (Str.ofString (toString k)),tI w,tI K]]=L1 at s1;have l1:L1.length=4:=by rw[<-hL1];rfl
 have nw1:=g.lst L1 (Ha λd hd=>(s1 d hd).2.1 _ (by omega));have hl1:(M++[MO.lst L1]).length=M.length+1:=by simp
 have i1:(M++[MO.lst L1])[M.length]?=some (.lst L1):=zt _ _;generalize M++[MO.lst L1]=A1 at nw1 hl1 i1 ⊢;have ew:=Er (HP (f:=zC 4) (Y:=qS zA l k w K [some (.ref M.length),none]) (M:=A1) (x:=.dat (tI w)) rfl (BK (xs:=w.map D.int)));rw[hl1]at ew;refine Gj (us:=[.lst (w.map D.int)]) (n:=M.length+2) (b:=0) (b':=M.length+1) nw1 (by rw[hl1];rfl) i1 rfl (CJ (aC' (B1 (A9 (x:=.non) rfl (y:=tI w) rfl (z:=tI K) rfl)) (aC' (B1 (A9 (DT (x:=.int k) rfl) (y:=tI w) rfl (z:=tI K) rfl)) (aC' (Mc (Cp (aC' (B1 (d:=.int k) rfl) (aC' ew (zY (d:=tI K) rfl))) (by simp))) (zY (A9 (x:=.int k) rfl (F0 (a:=w.map D.int) rfl (DT (x:=.int l) rfl) (by simp;omega)) (z:=tI K) rfl))))) (by simp)) (λu hu=>by rw[Bd]at hu;subst hu;exact B8 _ _) s1 (by omega) (by omega) (Sdd.cons (Sp.tri Sp.non sw sK) (Sdd.cons (Sp.tri (Sp.flat (Fl.int k) (by simp)) sw sK) (Sdd.cons (Sp.tri (Sp.int k) (Sp.ref W1 (AF _)) sK) (Sdd.cons (Sp.tri (Sp.int k) (Sp.flat (fw.app (Fl.int l)) (by simp;omega)) sK) Sdd.nil)))) (by simp;omega) λA2 X2 l2 s2 nw2 hl2 i2 up2=>?_;have l2:X2.length=8:=by rw[l2,l1];rfl
 have p1:A2[M.length+1]?=some (.lst (w.map D.int)):=up2 _ _ (by rw[<-hl1];exact zt _ _);show OkS (zX _ _ (qS zA l k w K [some (.ref (M.length+2)),none]) A2) _;have eK:=Er (HP (f:=zC 5) (Y:=qS zA l k w K [some (.ref (M.length+2)),none]) (M:=A2) (x:=.dat (tI K)) rfl (BK (xs:=K.map D.int)));rw[hl2]at eK;refine Gj (us:=[.lst (K.map D.int)]) (n:=M.length+4) (b':=M.length+3) nw2 (by rw[hl2];rfl) i2 rfl (CJ (aC' (B1 (A9 (x:=.int k) rfl (F0 (a:=w.map D.int) rfl (DT (x:=.int (-1)) rfl) (by simp;omega)) (z:=tI K) rfl)) (aC' (B1 (A9 (x:=.int k) rfl (F0 (a:=w.map D.int) rfl (DT (x:=.bl false) rfl) (by simp;omega)) (z:=tI K) rfl)) (aC' (Mc (Cp (aC' (B1 (d:=.int k) rfl) (aC' (B1 (d:=tI w) rfl) (aC' eK rfl))) (by simp))) rfl))) (by simp)) (λu hu=>by rw[Bd]at hu;subst hu;exact B8 _ _) s2 (by omega) (by omega) (Sdd.cons (Sp.tri (Sp.int k) (Sp.flat (fw.app (Fl.int (-1))) (by simp;omega)) sK) (Sdd.cons (Sp.tri (Sp.int k) (Sp.flat (fw.app (Fl.bl false)) (by simp;omega)) sK) (Sdd.cons (Sp.tri (Sp.int k) sw (Sp.ref W3 (AF _))) Sdd.nil))) (by simp;omega) λA3 X3 l3 s3 nw3 hl3 i3 up3=>?_;have l3:X3.length=11:=by rw[l3,l2];rfl
 have p3:A3[M.length+3]?=some (.lst (K.map D.int)):=up3 _ _ (by rw[<-hl2];exact zt _ _);have p1:=up3 (M.length+1) _ (by rw[AJ (by omega)];exact p1);have keep:∀ {A B:Mem} {i:Nat} {u:MO},(∀ (i:Nat) u,(A++[])[i]?=some u->B[i]?=some u)->A[i]?=some u->B[i]?=some u:=λ{A B i u} up e=>up i u (by rw[Au];exact e);have s11:∀ {Y:Sd} {A:Mem},zC 5 Y A=some (.dat (tI K),A)->fSl (zC 5) (Ay (fC (.int 1))) BG Y A=some (.dat (.tup (L3.BE (K.map D.int) (some 1) none)),A):=λ{Y A} h=>slE h (oS rfl) rfl;have s1m:∀ {Y:Sd} {A:Mem},zC 5 Y A=some (.dat (tI K),A)->fSl (zC 5) BG (Ay (DC (fC (.int 1)))) Y A=some (.dat (.tup (L3.BE (K.map D.int) none (some (-1)))),A):=λ{Y A} h=>slE h rfl (oS rfl);refine Gj (us:=[]) (n:=M.length+5) (b':=M.length+3) nw3 (by rw[hl3];rfl) i3 rfl (by rw[Au];exact CJ (zV (A9 (x:=.int k) rfl (y:=tI w) rfl (XA (xs:=K.map D.int) rfl (oS rfl))) (zV (A9 (x:=.int k) rfl (y:=tI w) rfl (F0 (a:=K.map D.int) rfl (slE (xs:=K.map D.int) rfl (oS (i:=-1) rfl) rfl) (by have:=@cK (some (-1)) none;omega))) (zV (A9 (x:=.int k) rfl (y:=tI w) rfl (s11 rfl)) (zY (A9 (x:=.int k) rfl (y:=tI w) rfl em))))) (by simp)) (λu hu=>by cases hu) s3 (by omega) (by omega) (Sdd.cons (Sp.tri (Sp.int k) sw (Sp.flat (λd hd=>fK d (List.mem_reverse.mp hd)) (by simp;omega))) (Sdd.cons (Sp.tri (Sp.int k) sw (Sp.flat (fK.app fK.cut) (by rw[AU];have:=@cK (some (-1)) none;omega))) (Sdd.cons (Sp.tri (Sp.int k) sw (Sp.flat fK.cut (by have:=@cK (some 1) none;omega))) (Sdd.cons (Sp.tri (Sp.int k) sw sE) Sdd.nil)))) (by simp;omega) λA4 X4 l4 s4 nw4 hl4 i4 up4=>?_;have l4:X4.length=15:=by rw[l4,l3];rfl
 have p3:=keep up4 p3;have p1:=keep up4 p1;refine Gj (us:=[]) (n:=M.length+6) (b':=M.length+3) nw4 (by rw[hl4];rfl) i4 rfl (by rw[Au];exact CJ (zV (A9 (ksub rfl) (y:=tI w) rfl (s11 rfl)) (zV (A9 (x:=.int k) rfl (y:=tI w) rfl (F0 (s1m rfl) (DT (x:=.int zA.length) rfl) (by have:=@cK none (some (-1));simp;omega))) (zY (A9 (x:=.int k) rfl (y:=tI w) rfl (F0 (DT (x:=.int (-1)) rfl) (s11 rfl) (by have:=@cK (some 1) none;simp;omega)))))) (by simp)) (λu hu=>by cases hu) s4 (by omega) (by omega) (Sdd.cons (Sp.tri (Sp.int _) sw (Sp.flat fK.cut (by have:=@cK (some 1) none;omega))) (Sdd.cons (Sp.tri (Sp.int k) sw (Sp.flat (fK.cut.app (Fl.int _)) (by have:=@cK none (some (-1));simp;omega))) (Sdd.cons (Sp.tri (Sp.int k) sw (Sp.flat ((Fl.int _).app fK.cut) (by have:=@cK (some 1) none;simp;omega))) Sdd.nil))) (by simp;omega) λA5 X5 l5 s5 nw5 hl5 i5 up5=>?_;have l5:X5.length=18:=by rw[l5,l4];rfl
 have p3:=keep up5 p3;have p1:=keep up5 p1;refine Gj (us:=[]) (n:=M.length+7) (b':=M.length+3) nw5 (by rw[hl5];rfl) i5 rfl (by rw[Au];exact CJ (zV (A9 (x:=.int k) rfl (y:=tI w) rfl (F0 (s1m rfl) (DT (x:=.bl true) rfl) (by have:=@cK none (some (-1));simp;omega))) (zV (A9 (x:=.int k) rfl (slE (xs:=w.map D.int) rfl rfl (oS (i:=-1) rfl)) (z:=tI K) rfl) (zV (A9 (x:=.int k) rfl em (z:=tI K) rfl) (zY (A9 (x:=.int k) rfl (y:=tI K) rfl (z:=tI w) rfl))))) (by simp)) (λu hu=>by cases hu) s5 (by omega) (by omega) (Sdd.cons (Sp.tri (Sp.int k) sw (Sp.flat (fK.cut.app (Fl.bl _)) (by have:=@cK none (some (-1));simp;omega))) (Sdd.cons (Sp.tri (Sp.int k) (Sp.flat fw.cut (by have:=@cw none (some (-1));omega)) sK) (Sdd.cons (Sp.tri (Sp.int k) sE sK) (Sdd.cons (Sp.tri (Sp.int k) sK sw) Sdd.nil)))) (by simp;omega) λA6 X6 l6 s6 nw6 hl6 i6 up6=>?_;have l6:X6.length=22:=by rw[l6,l5];rfl
 have p3:=keep up6 p3;have p1:=keep up6 p1;have eT:=Er (HP (f:=zC 2) (Y:=qS zA l k w K [some (.ref (M.length+7)),none]) (M:=A6) (x:=.dat (.tup [.int k,tI w,tI K])) rfl (BK (xs:=[.int k,tI w,tI K])));rw[hl6]at eT;have pT:∀ {b},∀ d∈[D.int k,tI w,tI K],Sp W b d:=λ{b} d hd=>by
  simp only[AK,BO,BY]at hd;rcases hd with rfl|rfl|rfl
  .exact Sp.int k
  .exact sw
  .exact sK
 have hc:=@He [D.int k,tI w,tI K] none (some 2);have hcl:(L3.BE [D.int k,tI w,tI K] none (some 2)).length<=3:=hc.1;refine Gj (us:=[.lst [.int k,tI w,tI K]]) (n:=M.length+9) (b':=M.length+8) nw6 (by rw[hl6];rfl) i6 rfl (CJ (aC' eT (zV (slE (f:=zC 2) (xs:=[.int k,tI w,tI K]) rfl rfl (oS (i:=2) rfl)) (zV (F0 (a:=[.int k,tI w,tI K]) rfl (DT (x:=.int 0) rfl) (by simp)) (zV (A9 (x:=tI w) rfl (y:=.int k) rfl (z:=tI K) rfl) (zV (d:=.non) rfl (zV (d:=.int k) rfl (zV (d:=tI w) rfl (zV (d:=tI K) rfl (zV em (zV (d:=.str "") rfl (zY (DT (x:=.tup [.int k,tI w,tI K]) rfl)))))))))))) (by simp)) (λu hu=>by
   rw[Bd]at hu;subst hu;exact Ha λd hd=>(pT (b:=0) d hd).2.1 _ (by omega)) s6 (by omega) (by omega) (Sdd.cons (Sp.sr (Sp.ref W8 (AF _)) (λds e=>by cases e)) (Sdd.cons (Sp.tup (by omega) λd hd=>pT d (hc.2 d hd)) (Sdd.cons (Sp.tup (by simp) λd hd=>(Ak.mp hd).elim (pT d) λz=>by rw[Bd]at z;subst z;exact Sp.int 0) (Sdd.cons (Sp.tri sw (Sp.int k) sK) (Sdd.cons (Sp.sr Sp.non (λds e=>by cases e)) (Sdd.cons (Sp.sr (Sp.int k) (λds e=>by cases e)) (Sdd.cons (Sp.sr sw (λds e=>by cases e;exact fw)) (Sdd.cons (Sp.sr sK (λds e=>by cases e;exact fK)) (Sdd.cons (Sp.sr sE (λds e=>by cases e;exact λd h=>by cases h)) (Sdd.cons (Sp.sr (Sp.str _) (λds e=>by cases e)) (Sdd.cons (Sp.tup (by simp) λd hd=>by
   rw[Bd]at hd;subst hd;exact ⟨(Sp.tup (b:=0) (by simp) pT).1,(Sp.tup (by simp) pT).2.1,by show 3<=90000;omega⟩) Sdd.nil))))))))))) (by simp;omega) λA7 X7 l7 s7 nw7 hl7 i7 up7=>?_
 have l7:X7.length=33:=by rw[l7,l6];rfl
 have p8:A7[M.length+8]?=some (.lst [.int k,tI w,tI K]):=up7 _ _ (by rw[<-hl6];exact zt _ _);have p3:=up7 (M.length+3) _ (by rw[AJ (by omega)];exact p3);have p1:=up7 (M.length+1) _ (by rw[AJ (by omega)];exact p1);refine Bg (Qs (by omega) rfl) ?_;have rl:((zH zA).map D.int).length=zA.length:=by unfold zH;simp
 have fE:=Fl.ints (zH zA);have sR:∀ {b},Sp W b (tI (zH zA)):=λ{b}=>Sp.flat fE (by omega);have cE:=(@He ((zH zA).map D.int) none (some 1)).1;have sEc:∀ {b},Sp W b (.tup (L3.BE ((zH zA).map D.int) none (some 1))):=λ{b}=>Sp.flat fE.cut (by omega);refine Gj (us:=[]) (n:=M.length+10) (b':=M.length+8) nw7 (by rw[hl7];rfl) i7 rfl (by rw[Au];exact CJ (zV (A9 (x:=.int zA.length) rfl em (z:=tI (zH zA)) rfl) (zV (A9 (x:=.int zA.length) rfl (y:=tI w) rfl (z:=tI (zH zA)) rfl) (zV (A9 (x:=.int 1) rfl (y:=tI w) rfl (slE (f:=zC 9) (xs:=(zH zA).map D.int) rfl rfl (oS (i:=1) rfl))) (zY (A9 (x:=.int 1) rfl em (slE (f:=zC 9) (xs:=(zH zA).map D.int) rfl rfl (oS (i:=1) rfl))))))) (by simp)) (λu hu=>by cases hu) s7 (by omega) (by omega) (Sdd.cons (Sp.tri (Sp.int _) sE sR) (Sdd.cons (Sp.tri (Sp.int _) sw sR) (Sdd.cons (Sp.tri (Sp.int _) sw sEc) (Sdd.cons (Sp.tri (Sp.int _) sE sEc) Sdd.nil)))) (by simp;omega) λA8 X8 l8 s8 nw8 hl8 i8 up8=>?_;have l8:X8.length=37:=by rw[l8,l7];rfl
 have p8:=keep up8 p8;have p3:=keep up8 p3;have p1:=keep up8 p1;have hL8:=l8;obtain ⟨d,B,e,hd,nx⟩:=UZ (n:=8) (Y:=qS zA l k w K [some (.ref (M.length+10)),some (tI (zH zA))]) nw8.gen i8 (by omega) (by omega) (by omega) (by omega) (λ_=>rfl) (λ_=>rfl);rw[CS];refine zG e ?_;rw[zM];exact ⟨(s8 d hd).1 B (by rw[<-hW];exact ⟨(nx.fr _ (by omega) (by omega)).trans p1,(nx.fr _ (by omega) (by omega)).trans p3,(nx.fr _ (by omega) (by omega)).trans p8⟩),(s8 d hd).2.2,nw8.trans nx.nw⟩
def aM (ns:Ye) (h:ns.length<=63):∃ M',Fp [.ref 0] [.fro (ns.map D.int)]=some (.bl true,M'):=by
 suffices hh:Ok (Fp [.ref 0] [.fro (ns.map D.int)]) λd _=>d=.bl true by
  obtain ⟨d,M',e,rfl⟩:=hh;exact ⟨M',e⟩
 unfold Fp;rw[zw];unfold Mx;refine mC (τ:=[none,none,none,none,none,none]) (by decide) (by decide) (by decide) h λzA l M2 m hr1 hr2 hr3 hl g2 e02=>?_;have hR:zA.length<=26:=by omega
 have l0:=m.l0;rw[zK,za];refine EK.mpr (zG (zY (d:=mD zA) rfl) (Ok.mono (Wl m hR (by omega)) ?_));rintro d M3 ⟨jJ,J,rfl,hjJ,eJ,hJ,hl3,fr3,wf3⟩;rw[zM,zU];obtain ⟨hn2,hk2⟩:=g2.lt;have g3:Gen M3 2 1:=by
  obtain ⟨c,s,e1,e2,r⟩:=g2.ex;refine ⟨⟨c,s,(fr3 _ hn2).trans e1,(fr3 _ hk2).trans e2,r⟩,g2.ne,λi u hu=>?_⟩;rcases DE i M2.length with q|q
  .exact Ks hl3 (g2.wf i u ((fr3 i q).symm.trans hu))
  .exact wf3 i u q hu
 have e03:M3[0]?=some (.fro (ns.map D.int)):=(fr3 0 (AG.mp e02).1).trans e02;have jJ2:jJ≠2:=by omega
 have jJ1:jJ≠1:=by omega
 have t3:∀ {Y:Sd} {A:Mem},zj (zD (toD (fC (.int 1))) (zD (toD (zj zE)) (zD (toD (zj (zD (toD (fC (.int 0))) zE))) zE))) Y A=some (.dat (.tup [.int 1,.tup [],tI [0]]),A):=λ{Y A}=>A9 (x:=.int 1) rfl (Cp rfl (by simp)) (DT (x:=.int 0) rfl);have em:∀ {Y:Sd} {A:Mem},zj zE Y A=some (.dat (.tup []),A):=λ{Y A}=>Cp rfl (by simp);rw[zK,za];refine zG (CJ (aC' (B1 (d:=.non) rfl) (aC' (B1 (d:=.int 0) rfl) (aC' (B1 (d:=.bl true) rfl) (aC' (B1 (d:=.str "") rfl) (aC' (Er (CJ rfl (by simp))) (aC' (B1 em) (aC' (Mc (f:=JU) rfl) (aC' (B1 t3) (aC' (B1 (A9 (x:=.int 1) rfl (DT (x:=.int 0) rfl) (DT (x:=.int 0) rfl))) (aC' (Er (CJ (zV (d:=.int 1) rfl (zV em (zY (DT (x:=.int 0) rfl)))) (by simp))) (aC' (B1 (A9 (x:=.int 0) rfl em em)) (aC' (B1 (A9 em em em)) rfl)))))))))))) (by simp)) (zx ?_);rw[zU];have n1:=g3.lst [] rfl;have n2:Nw M3 (M3++[MO.lst []]++[MO.dict []]) 2 1:=⟨n1.gen.app λu hu=>by rw[Bd]at hu;subst hu;rfl,by simp,λj hj a b=>by rw[Bm,AJ hj]⟩;have n3:=n2.trans (n2.gen.lst [.int 1,.tup [],tI [0]] rfl);have k0:(M3++[MO.lst []]++[MO.dict []]++[MO.lst [.int 1,.tup [],tI [0]]])[M3.length]?=some (.lst []):=by simp
 have k1:(M3++[MO.lst []]++[MO.dict []]++[MO.lst [.int 1,.tup [],tI [0]]])[(M3++[MO.lst []]).length]?=some (.dict []):=by simp
 have k2:(M3++[MO.lst []]++[MO.dict []]++[MO.lst [.int 1,.tup [],tI [0]]])[(M3++[MO.lst []]++[MO.dict []]).length]?=some (.lst [.int 1,.tup [],tI [0]]):=zt _ _;have j0l:=(AG.mp k0).1;have j1l:=(AG.mp k1).1;have j2l:=(AG.mp k2).1;show OkS (zX _ _ [some (.ref 0),some (.ref 2),some (mD zA),some (.ref jJ),some (.ref (M3++[MO.lst []]++[MO.dict []]++[MO.lst [.int 1,.tup [],tI [0]]]).length),none,none,none,none] (M3++[MO.lst []]++[MO.dict []]++[MO.lst [.int 1,.tup [],tI [0]]]++[MO.lst [.non,.int 0,.bl true,.str "", .ref M3.length,.tup [],.ref (M3++[MO.lst []]).length,.tup [.int 1,.tup [],tI [0]],.tup [.int 1,tI [0],tI [0]],.ref (M3++[MO.lst []]++[MO.dict []]).length,.tup [.int 0,.tup [],.tup []],.tup [.tup [],.tup [],.tup []]]])) _;generalize M3++[MO.lst []]++[MO.dict []]++[MO.lst [.int 1,.tup [],tI [0]]]=M4 at n3 k0 k1 k2 j0l j1l j2l ⊢;generalize (M3++[MO.lst []]).length=j1 at k1 j1l ⊢;generalize (M3++[MO.lst []]++[MO.dict []]).length=j2 at k2 j2l ⊢;have eJ4:=n3.get eJ jJ2 jJ1;have e04:=n3.get e03 (by omega) (by omega);generalize M3.length=j0 at k0 j0l ⊢;have sE:Sp (λ_=>True) 0 (.tup []):=Sp.flat (λd h=>by cases h) (by simp);have s0:Sp (λ_=>True) 0 (tI [0]):=Sp.flat (Fl.ints [0]) (by simp);have un:D.unds M4.length [.non,.int 0,.bl true,.str "", .ref j0,.tup [],.ref j1,.tup [.int 1,.tup [],tI [0]],.tup [.int 1,tI [0],tI [0]],.ref j2,.tup [.int 0,.tup [],.tup []],.tup [.tup [],.tup [],.tup []]]=true:=by simp[D.unds,D.und,tI,j0l,j1l,j2l]
 have vs:∀ d∈[D.non,.int 0,.bl true,.str "", .ref j0,.tup [],.ref j1,.tup [.int 1,.tup [],tI [0]],.tup [.int 1,tI [0],tI [0]],.ref j2,.tup [.int 0,.tup [],.tup []],.tup [.tup [],.tup [],.tup []]],∀ B:Mem,(∀ (i:Nat) u,M4[i]?=some u->B[i]?=some u)->Vd B d/\Szd d:=by
  intro d hd B up;simp only[AK,BO,BY]at hd;have two:∀ {x:D},Sdd (λ_=>True) 0 x->Vd B x/\Szd x:=λ{x} h=>⟨h.1 B trivial,h.2.2⟩;rcases hd with rfl|rfl|rfl|rfl|rfl|rfl|rfl|rfl|rfl|rfl|rfl|rfl
  .exact two (Sp.sr Sp.non (λds e=>by cases e))
  .exact two (Sp.sr (Sp.int _) (λds e=>by cases e))
  .exact two (Sp.sr (Sp.bl _) (λds e=>by cases e))
  .exact two (Sp.sr (Sp.str _) (λds e=>by cases e))
  .exact ⟨K7 (up _ _ k0),λds e=>by cases e⟩
  .exact two (Sp.sr sE (λds e=>by cases e;exact λd h=>by cases h))
  .refine ⟨?_,λds e=>by cases e⟩;unfold Vd;refine ⟨"dict", ?_,.inr rfl⟩;unfold Fy;dsimp only;rw[up _ _ k1]
  .exact two (Sp.tri (Sp.int _) sE s0)
  .exact two (Sp.tri (Sp.int _) s0 s0)
  .exact ⟨K7 (up _ _ k2),λds e=>by cases e⟩
  .exact two (Sp.tri (Sp.int _) sE sE)
  .exact two (Sp.tri sE sE sE)
 generalize [D.non,.int 0,.bl true,.str "", .ref j0,.tup [],.ref j1,.tup [.int 1,.tup [],tI [0]],.tup [.int 1,tI [0],tI [0]],.ref j2,.tup [.int 0,.tup [],.tup []],.tup [.tup [],.tup [],.tup []]]=things at vs un ⊢;have g5:=(n3.gen.lst things un).gen;have up5:∀ (i:Nat) u,M4[i]?=some u->(M4++[MO.lst things])[i]?=some u:=λi u e=>by rw[AJ (AG.mp e).1];exact e
 have e4:(M4++[MO.lst things])[M4.length]?=some (.lst things):=zt _ _;have eJ5:=up5 _ _ eJ4;have e05:=up5 _ _ e04;have vs5:=λd hd=>vs d hd _ up5;generalize M4++[MO.lst things]=M5 at g5 e4 eJ5 e05 vs5 ⊢;generalize M4.length=j4 at e4 ⊢;rw[zK,DB];refine ⟨_,_,_,GZ (x:=.dat (.ref j4)) rfl (zv e4),?_⟩;refine Dk (I:=λr Y M'=>(∀ d∈r,Vd M5 d/\Szd d)/\(∃ y5,Y=[some (.ref 0),some (.ref 2),some (mD zA),some (.ref jJ),some (.ref j4),y5,none,none,none])/\M'=M5) ?_ ?_ _ _ _ ⟨vs5,⟨_,rfl⟩,rfl⟩
 .rintro x r Y M' ⟨hv,⟨y5,rfl⟩,rfl⟩;refine ⟨.inl e4,_,rfl,?_⟩;obtain ⟨v1,v2⟩:=hv x Ae;exact Rv ((C3 (k:=true) (zc (zV (d:=mD zA) rfl (zV (d:=.ref jJ) rfl (zY (d:=x) rfl))) (RA m hR (by omega) g5.wf v1 v2 eJ5 hJ))).trans rfl) ⟨λd hd=>hv d (Ai _ hd),⟨_,rfl⟩,rfl⟩
 rintro Y M' ⟨_,⟨y5,rfl⟩,rfl⟩;refine ⟨.inl e4,?_⟩;rw[zU];have s:=IF m;have hS:=D9 s;obtain ⟨w,st,q⟩:=RK m 100 0 (AW hS (by omega)) s;have hw:=NL q;have ql:=(KN m hR s q).1;have hwz:w.length<=20000:=AW ql (AW (Nat.mul_le_mul_left 676 (AW hS hR)) (by omega));have sK:=m.broR w s hw;have hKl:=D9 sK;refine Bg (zc (zY (f:=zC 2) (d:=mD zA) rfl) (cR m hR (by omega) q)) ?_;have shm:ShM zA l (.tup [.int (broR zA (zH zA) w).length,tI w,tI (broR zA (zH zA) w)]):=⟨_,w,_,rfl,hw,sK,rfl,rfl,S7.mp (RW q)⟩;generalize broR zA (zH zA) w=K at sK hKl shm ⊢;rw[zK,DB];obtain ⟨c,ec,lc⟩:=Xu (Y:=[some (.ref 0),some (.ref 2),some (mD zA),some (.ref jJ),some (.ref j4),y5,some (.tup [.int K.length,tI w,tI K]),none,none]) (i:=12) (j:=0) rfl rfl e05;have er:=zS (k:=zy) (f:=fC (.int 3)) (r:=some (.dat (.int (3+((c.map D.int).length:Int))),M')) rfl (FK ec D3) rfl;refine ⟨_,_,_,E4 er (by omega) (by rw[AH];omega),?_⟩;have told:∀ {k:Int} {w K:Ye},w.length<=20006->K.length<=26->Sdd (λ_=>True) 0 (.tup [.int k,tI w,tI K]):=λ{k w K} h1 h2=>Sp.tri (Sp.int k) (Sp.flat (Fl.ints w) (by rw[AH];omega)) (Sp.flat (Fl.ints K) (by rw[AH];omega));refine IA (n:=(3+((c.map D.int).length:Int)).toNat) (I:=λi Y B=>(∃ y7 y8,Y=[some (.ref 0),some (.ref 2),some (mD zA),some (.ref jJ),some (.ref j4),y5,some (.tup [.int K.length,tI w,tI K]),y7,y8])/\Gen B 2 1/\B[jJ]?=some (dT (jnT J))) ?_ ?_ _ _ ⟨⟨_,_,rfl⟩,g5,eJ5⟩
 .rintro i Y B hi ⟨⟨y7,y8,rfl⟩,gB,eB⟩;refine ⟨_,rfl,?_⟩;rw[zK,za];refine EK.mpr (zG (zV (d:=.ref 2) rfl (zV (d:=mD zA) rfl (zY (d:=.tup [.int K.length,tI w,tI K]) rfl))) (Ok.mono (YD m hR (by omega) gB hw hwz sK) ?_));rintro d C ⟨w',K',rfl,hw',hwz',hK',hKz',nwC⟩;rw[zM,zU];have eC:=nwC.get eB jJ2 jJ1;have gC:=nwC.gen;rw[zK];refine OkS.mono (P:=λo Y' E=>o=.nx /\ ∃ d:D,Y'=[some (.ref 0),some (.ref 2),some (mD zA),some (.ref jJ),some (.ref j4),y5,some (.tup [.int K.length,tI w,tI K]),some (.int (i:Int)),some d]/\Gen E 2 1/\Vd E d/\Szd d/\E[jJ]?=some (dT (jnT J))) ?_ ?_
  .rw[CO];refine JL.mpr (Av.mpr (C2 (m:=3) gC rfl rfl (by omega) (by omega) λt E t0 t1 nxE=>zG (a:=.dat (.int 0)) (M:=E) rfl (eP.mpr (Ei.mpr ?_))));have eE:E[jJ]?=some (dT (jnT J)):=(nxE.fr jJ jJ2 jJ1).trans eC;by_cases ht:0<t
   .rw[BB ht,AB rfl,za];refine EK.mpr (zG (zV (d:=.ref 2) rfl (zV (d:=mD zA) rfl (zY (d:=.tup [.int K.length,tI w',tI K']) rfl))) (Ok.mono (mY m hR (by omega) nxE.gen (by omega) (by omega) hwz' hKz') ?_));rintro d F ⟨vd,sz,nwF⟩;rw[zM];exact ⟨rfl,d,rfl,nwF.gen,vd,sz,nwF.get eE jJ2 jJ1⟩
   .rw[Aa ht,AE (by decide),Cr];exact ⟨rfl,_,rfl,nxE.gen,(told hwz' hKz').1 _ trivial,(told hwz' hKz').2.2,eE⟩
  rintro o Y' E ⟨rfl,d,rfl,gE,vd,sz,eE⟩;rw[zU];exact Rv ((C3 (k:=true) (zc (zV (d:=mD zA) rfl (zV (d:=.ref jJ) rfl (zY (d:=d) rfl))) (RA m hR (by omega) gE.wf vd sz eE hJ))).trans rfl) ⟨⟨_,_,rfl⟩,gE,eE⟩
 .rintro Y B ⟨⟨y7,y8,rfl⟩,gB,eB⟩;have es:=N9 m hR (show l<=12 by omega) gB.wf ((told (k:=K.length) (by omega) (show K.length<=26 by omega)).1 B trivial) (told (w:=w) (by omega) (by omega)).2.2;rw[@BB _ (Classical.propDecidable _) shm]at es;exact zn (d:=.bl true) (zS (x:=.dat (.bl true)) (y:=.dat (.bl true)) (zc (zV (d:=mD zA) rfl (zY (d:=.tup [.int K.length,tI w,tI K]) rfl)) es) rfl rfl) rfl
end Lac
set_option maxHeartbeats 4000000
namespace Lac
open L2 L3 Law
-- the text by places
noncomputable def top (i:Nat):Stmt:=PySem.Challenge.pw_bringhome_k30_counts_shown.main.body.getD i (.Pass ⟨0,0,0,0⟩)
noncomputable abbrev Lr:Stmt:=top 1
noncomputable abbrev MT:Stmt:=top 2
noncomputable abbrev Nc:Stmt:=top 3
noncomputable abbrev NN:Stmt:=top 4
noncomputable abbrev Nd:Stmt:=top 5
noncomputable abbrev Lh:Stmt:=top 6
noncomputable abbrev Ls:Stmt:=top 8
noncomputable abbrev LI:Stmt:=top 9
noncomputable abbrev Mu:Stmt:=top 10
noncomputable abbrev LV:Stmt:=top 12
noncomputable abbrev Lo:Stmt:=top 13
noncomputable abbrev Mi:Stmt:=top 14
noncomputable abbrev NS:Stmt:=top 15
noncomputable abbrev NA:Stmt:=top 16
noncomputable abbrev Lg:Stmt:=top 17
noncomputable abbrev Mq:Stmt:=top 18
noncomputable abbrev MV:Stmt:=top 19
noncomputable abbrev Lj:Stmt:=top 21
noncomputable abbrev Kv:Stmt:=top 22
noncomputable abbrev MR:Stmt:=top 24
noncomputable abbrev KR:Stmt:=top 25
noncomputable abbrev Li:Stmt:=top 26
noncomputable abbrev Ka:Stmt:=top 28
noncomputable abbrev NF:Stmt:=top 29
noncomputable abbrev NR:Stmt:=top 30
noncomputable abbrev Mo:Stmt:=top 31
noncomputable abbrev Nm:Stmt:=top 32
noncomputable abbrev MI:Stmt:=top 33
noncomputable abbrev KS:Stmt:=top 34
noncomputable abbrev Kp:Stmt:=top 35
noncomputable abbrev Mr:Stmt:=top 36
noncomputable abbrev MH:Stmt:=top 37
noncomputable abbrev K4:Stmt:=top 38
noncomputable abbrev LP:Stmt:=top 39
noncomputable abbrev LS:Stmt:=top 40
noncomputable abbrev Ll:Stmt:=top 41
noncomputable abbrev K6:Stmt:=top 42
noncomputable abbrev Kf:Stmt:=top 43
structure Txt (K:Yb) (mg:Yh) where
  kA:Df K mg "is_whole" Lr ["thing"]
  kB:Df K mg "is_below" MT ["thing", "many"]
  kC:Df K mg "is_tuple_below" Nc ["thing", "many"]
  kD:Df K mg "is_word" NN ["machine", "thing"]
  kE:Df K mg "is_set" Nd ["machine", "thing"]
  kF:Df K mg "all_rooms" Lh ["machine"]
  kG:Df K mg "stepped" Ls ["machine", "rooms", "letter"]
  kJ:Df K mg "walked" LI ["machine", "rooms", "word"]
  kK:Df K mg "brought" Mu ["machine", "rooms", "word"]
  kL:Df K mg "pairs_of" LV ["rooms"]
  kM:Df K mg "ways_back" Lo ["machine"]
  kN:Df K mg "lengths_to" Mi ["machine", "goals"]
  kO:Df K mg "lengths" NS ["machine"]
  kP:Df K mg "first_letter" NA ["machine", "pair", "found"]
  kQ:Df K mg "rungs_to" Lg ["machine", "found"]
  kR:Df K mg "rungs" Mq ["machine"]
  kS:Df K mg "climbed" MV ["machine", "steps", "pair"]
  kT:Df K mg "are_apart" Lj ["machine", "rooms"]
  kU:Df K mg "shows_many" Kv ["machine", "told"]
  kW:Df K mg "nearest" MR ["ways", "rooms"]
  kX:Df K mg "quick" KR ["machine", "rooms"]
  kY:Df K mg "least_many" Li ["machine"]
  kZ:Df K mg "_law_begin" Ka ["_law_script"]
  kAA:Df K mg "_law_next" NF ["_law_state", "_law_many"]
  kAB:Df K mg "_law_order" NR ["_law_state", "_law_many"]
  kAC:Df K mg "_law_column" Mo ["_law_state", "_law_family", "_law_rooms", "_law_letter"]
  kAD:Df K mg "_law_machine" Nm ["_law_state", "_law_rooms", "_law_letters"]
  kAE:Df K mg "_law_pairs" MI ["_law_rooms"]
  kAF:Df K mg "_law_behind" KS ["_law_machine_here", "_law_pair", "_law_letter"]
  kAG:Df K mg "_law_joined" Kp ["_law_machine_here"]
  kAH:Df K mg "_law_brought" Mr ["_law_machine_here", "_law_rooms", "_law_word"]
  kAI:Df K mg "_law_whole" MH ["_law_thing"]
  kAJ:Df K mg "_law_row" K4 ["_law_thing", "_law_many"]
  kAK:Df K mg "_law_shown" LP ["_law_machine_here", "_law_joined_here", "_law_told"]
  kAL:Df K mg "_law_made" LS ["_law_state", "_law_machine_here", "_law_told"]
  kAM:Df K mg "_law_odd" Ll ["_law_state", "_law_machine_here", "_law_told"]
  kAN:Df K mg "_law_right" K6 ["_law_machine_here", "_law_joined_here", "_law_thing"]
  kAO:Df K mg "law" Kf ["_law_script"]
  kAP:mg "isinstance" = none
  kAQ:mg "int" = none
  kAR:mg "bool" = none
  kAS:mg "tuple" = none
  kAT:mg "all" = none
  kAU:mg "len" = none
  kAV:mg "zip" = none
  kAW:mg "range" = none
  kAX:mg "sorted" = none
  kAY:mg "min" = none
  kAZ:mg "enumerate" = none
  kBA:mg "abs" = none
  kBB:mg "max" = none
  kBC:mg "list" = none
  kBD:mg "set" = none
  kBE:mg "any" = none
  kBF:mg "str" = none
  kinds:Kinds K
section
variable {P:Ym} {w:Yo} {K:Yb} {mg:Yh} {base:Heap}
def Gz {X:Cx} {scope sc:Y0} {own:Yj} {N ps:Yk} (_:FnScope N ps sc) (hk:scope.kind=.function) (hs:X.env.scope=sc) (hN:X.N=N) (h1:JH sc scope=true) (h2:Jg N scope own=true):CompIn X scope own:=Nt hk hs hN h1 h2
def Sx {X:Cx} {scope sc sd:Y0} {own:Yj} {N ps:Yk} (_:FnScope N ps sd) (hk:scope.kind=.function) (hs:X.env.scope=sc) (hN:X.N=N) (h1:JH sc scope=true) (h2:Jg N scope own=true):CompIn X scope own:=Nt hk hs hN h1 h2
set_option hygiene false in
local macro_rules | `(tactic| decreasing_trivial)=> `(tactic| repeat' first
  |refine gR (pv _)
  |refine CW ?_
  |refine a8 ?_ ?_ (zb rfl)
  |refine b5
  |refine T7 ?_
  |refine lY
  |refine Wv ?_ ?_
  |refine VT
  |refine cU ?_
  |refine aY (by first|exact b8 T|exact Wh T|exact iV T|exact UW T|exact nI T|exact Xl T|exact U9 T|exact k5 T|exact fD T|exact V2 T|exact Ws T|exact VX T|exact Z9 T|exact Uh T|exact lR T|exact iC T|exact Vu T|exact dX T|exact WM T|exact TV T|exact VF T|exact m4 T|exact mU T|exact jZ T|exact iB T|exact Wy T|exact VQ T|exact nE T|exact bF T|exact Zc T|exact Zd T|exact Si T|exact Uv T|exact Vw T|exact VS T|exact ZR T|exact WJ T) (hr.mono (by omega)) rfl ?_ ?_ (by decide) (zb rfl) (GW rfl)
  |refine nB ?_
  |refine oH ?_ ?_ (zb rfl)
  |refine ZS
  |refine WW sc.nd rfl
  |refine Vc ?_
  |refine XB ?_ ?_
  |refine Zx rfl T.kAU ?_ (zb rfl) rfl
  |refine Te ?_ ?_
  |refine WQ ?_
  |refine fQ
  |refine TQ ?_ ?_ ?_
  |refine Wa ?_
  |refine YG
  |refine U4 rfl T.kAW ?_ ?_ (Kw rfl)
  |refine S4 ?_
  |refine Lz (FV (by decide)) (Gz sc rfl rfl rfl (by decide+kernel) (by decide+kernel)) rfl ?_ ⟨λ_ _ _ _ _=>?_,λ_ _ _ _ _=>?_,λ_ _ _ _ _=>?_⟩
  |refine Uq
  |refine WB ?_ ?_ ?_
  |refine mP hr.units0 ?_ ?_
  |refine iF ?_ ?_
  |refine W9
  |refine aO Wg PassesOwn.never rfl ?_ ?_ ?_
  |refine Xj ?_
  |refine TX ?_
  |refine Xy rfl T.kAS ?_ (zb rfl) rfl
  |refine jS ?_ ?_
  |refine n8 ?_ ?_
  |refine UR ?_
  |refine mM ?_
  |refine jB ?_ ?_
  |refine Vg ?_ ?_
  |refine b9 hr.units0 ?_ ?_
  |refine a9 (ET hr) ?_ ?_
  |refine lH ?_
  |refine Ss rfl T.kBC ?_ (zb rfl) rfl
  |refine fH
  |refine Y4 rfl ?_
  |refine VC ?_ ?_
  |refine Sf ?_
  |refine jE _ PassesOwn.never ?_ ?_
  |refine bG sc.nd rfl (by first|exact Or.inl rfl|exact Or.inr rfl) (by first|exact .inl rfl|exact .inr rfl) rfl (FV (by decide)) (Gz sc rfl rfl rfl (by decide+kernel) (by decide+kernel)) rfl ?_ ⟨λ_ _ _ _ _=>?_,λ_ _ _ _ _=>?_,λ_ _ _ _ _=>?_⟩
  |refine gF
  |refine gG hr.units0 ?_ ?_
  |refine Tr ?_
  |refine aN (ET hr) ?_ ?_
  |refine aT (ET hr) ?_ ?_ ?_
  |refine Kc T.kinds (by decide) rfl T.kAP rfl T.kAS (by rfl) (by decide) (by decide) ?_ (zb rfl) (zb rfl) (GW rfl)
  |refine bM rfl rfl T.kAT ?_ (zb rfl) rfl
  |refine Ze (bI (K:=K)) ?_ ?_
  |refine Kc T.kinds (by decide) rfl T.kAP rfl T.kAR (by rfl) (by decide) (by decide) ?_ (zb rfl) (zb rfl) (GW rfl)
  |refine eZ ?_
  |refine j5 rfl rfl T.kAS rfl T.kAW ?_ (zb rfl) rfl (zb rfl) rfl
  |refine Sj rfl rfl T.kAX ?_ (zb rfl) rfl
  |refine UC ?_ ?_
  |refine WH ?_ ?_
  |refine Zt ?_ ?_ ?_
  |refine mN
  |refine Zy (ET hr) ?_ ?_
  |refine jD (ET hr) ?_ ?_ ?_ ⟨rfl,rfl,rfl,rfl⟩
  |refine QV ?_ ?_
  |refine Kc T.kinds (by decide) rfl T.kAP rfl T.kAQ (by rfl) (by decide) (by decide) ?_ (zb rfl) (zb rfl) (GW rfl)
  |refine cG ?_ ?_
  |refine nO ?_ ?_
  |refine m7 rfl T.kBA ?_ (zb rfl) rfl
  |refine Zu rfl rfl T.kBD ?_ (zb rfl) rfl
  |refine Sw (Fn λ_ _ _ _=>Ca) (Fn λ_ _ _ _=>Ca) SQ NU ?_ ?_ ?_
  |refine Lz (iX (K:=K) (by decide) (by decide)) (Gz sc rfl rfl rfl (by decide+kernel) (by decide+kernel)) rfl ?_ ⟨λ_ _ _ _ _=>?_,λ_ _ _ _ _=>?_,λ_ _ _ _ _=>?_⟩
  |refine bR ?_
  |refine dM
  |refine Um ?_ ?_
  |refine Uk rfl T.kAQ ?_ (zb rfl) rfl
  |refine gQ (FV (by decide)) (Gz sc rfl rfl rfl (by decide+kernel) (by decide+kernel)) rfl ?_ ⟨λ_ _ _ _ _=>?_,λ_ _ _ _ _=>?_,λ_ _ _ _ _=>?_⟩
  |refine We (by decide) (FV (by decide)) (FV (by decide)) (Gz sc rfl rfl rfl (by decide+kernel) (by decide+kernel)) rfl ?_ ⟨λ_ _ _ _ _=>?_,λ_ _ _ _ _=>?_,λ_ _ _ _ _=>?_,λ_ _ _ _ _=>?_,λ_ _ _ _ _=>?_,λ_ _ _ _ _=>?_,λ_ _ _ _ _ _=>rfl⟩
  |refine YV ?_ ?_
  |refine fT ?_ ?_
  |refine Vf ?_ ?_
  |refine UD rfl rfl T.kAY ?_ (zb rfl) (GW rfl)
  |refine ZW rfl rfl T.kBB ?_ (zb rfl) (GW rfl)
  |refine ZX rfl T.kAZ ?_ (zb rfl) rfl
  |refine UU rfl rfl T.kAY ?_ (zb rfl) rfl
  |refine WY rfl (Q7 3 (by decide) hr) rfl T.kAY ?_ (zb rfl) rfl
  |refine eW ?_ ?_ ?_
  |refine Z3 ?_ ?_
  |refine lF rfl rfl T.kBC rfl T.kAW ?_ (zb rfl) rfl (zb rfl) rfl
  |refine UG (ET hr) ?_ ?_ ?_ ⟨rfl,rfl,rfl,rfl⟩
  |refine Uj ?_
  |refine gT rfl T.kBF ?_ (zb rfl) rfl
  |refine Vy ?_ ?_
  |refine UM sc.nd rfl (by first|exact Or.inl rfl|exact Or.inr rfl) (by first|exact .inl rfl|exact .inr rfl) rfl (ET hr) (FV (by decide)) (Gz sc rfl rfl rfl (by decide+kernel) (by decide+kernel)) rfl ?_ ⟨λ_ _ _ _ _=>?_,λ_ _ _ _ _=>?_,λ_ _ _ _ _=>?_⟩ λ_ _ _ _ _=>?_
  |refine ZQ (ET hr) (FV (by decide)) (Gz sc rfl rfl rfl (by decide+kernel) (by decide+kernel)) rfl ?_ ⟨λ_ _ _ _ _=>?_,λ_ _ _ _ _=>?_,λ_ _ _ _ _=>?_⟩ λ_ _ _ _ _=>?_
  |refine aR 0 (Q7 0 (by decide) hr) ?_ ?_
  |refine eR (ET hr) ?_ ?_
  |refine Wr rfl rfl T.kBE ?_ (zb rfl) rfl
  |refine Uu rfl T.kAX ?_ (zb rfl) rfl
  |refine U8 rfl T.kAV ?_ (YZ rfl rfl) (Kw rfl)
  |refine Zz ?_ ?_
  |refine Lz (FV (by decide)) (Sx sc rfl rfl rfl (by rfl) (by decide+kernel)) rfl ?_ ⟨λ_ _ _ _ _=>?_,λ_ _ _ _ _=>?_,λ_ _ _ _ _=>?_⟩
  |refine jU (ET hr) ?_ ?_
  |refine mX ?_ ?_
  |refine bN
  |refine aK ?_ ?_
  |refine Vr sc.nd rfl ?_
  |refine N1 (QV ?_ ?_)
  |refine N1 (aD ?_ ?_)
  |refine Tt ?_)
noncomputable abbrev ZY:List Str:=["thing"]
def YO:FnScope ZY ["thing"] (zT Lr):=by constructor<;>first|rfl|decide+kernel
def Xl (T:Txt K mg):Od P w base 1 T.kA G6:=by
  unfold G6;have sc:=YO;exact zq (n:=1) T.kA.F sc rfl (λcdv A outer s H E hr=>by
    unfold ML;decreasing_trivial)
noncomputable abbrev lA:List Str:=["machine"]
def XR:FnScope lA ["machine"] (zT Lh):=by constructor<;>first|rfl|decide+kernel
def UW (T:Txt K mg):Od P w base 1 T.kF Ek:=by
  unfold Ek;have sc:=XR;exact zq (n:=1) T.kF.F sc rfl (λcdv A outer s H E hr=>by
    unfold NO;decreasing_trivial)
noncomputable abbrev XW:List Str:=["machine", "rooms", "letter", "room"]
def Wm:FnScope XW ["machine", "rooms", "letter"] (zT Ls):=by constructor<;>first|rfl|decide+kernel
def Wh (T:Txt K mg):Od P w base 1 T.kG Ec:=by
  unfold Ec;have sc:=Wm;exact FC (zq (n:=3) T.kG.F sc rfl (λcdv A outer s H E hr=>by
    unfold MA;decreasing_trivial))
noncomputable abbrev Sk:List Str:=["rooms", "one", "other"]
def f6:FnScope Sk ["rooms"] (zT LV):=by constructor<;>first|rfl|decide+kernel
def iV (T:Txt K mg):Od P w base 1 T.kL Dj:=by
  unfold Dj;have sc:=f6;exact zq (n:=1) T.kL.F sc rfl (λcdv A outer s H E hr=>by
    unfold LC;decreasing_trivial)
noncomputable abbrev bP:List Str:=["_law_script", "_law_seed", "_law_cell"]
def VU:FnScope bP ["_law_script"] (zT Ka):=by constructor<;>first|rfl|decide+kernel
def Si (T:Txt K mg):Od P w base 1 T.kZ G2:=by
  unfold G2;have sc:=VU;exact zq (n:=1) T.kZ.F sc rfl (λcdv A outer s H E hr=>by
    unfold Kz;decreasing_trivial)
noncomputable abbrev S9:List Str:=["_law_state", "_law_many", "_law_digit"]
def SS:FnScope S9 ["_law_state", "_law_many"] (zT NF):=by constructor<;>first|rfl|decide+kernel
def b8 (T:Txt K mg):Od P w base 1 T.kAA zZ:=by
  unfold zZ;have sc:=SS;exact zq (n:=2) T.kAA.F sc rfl (λcdv A outer s H E hr=>by
    unfold MU;decreasing_trivial)
noncomputable abbrev Vk:List Str:=["_law_rooms", "_law_found", "_law_k", "_law_other"]
def jV:FnScope Vk ["_law_rooms"] (zT MI):=by constructor<;>first|rfl|decide+kernel
def U9 (T:Txt K mg):Od P w base 1 T.kAE Fg:=by
  unfold Fg;have sc:=jV;exact zq (n:=1) T.kAE.F sc rfl (λcdv A outer s H E hr=>by
    unfold MK;decreasing_trivial)
noncomputable abbrev bD:List Str:=["_law_machine_here", "_law_pair", "_law_letter", "_law_one", "_law_other"]
def U7:FnScope bD ["_law_machine_here", "_law_pair", "_law_letter"] (zT KS):=by constructor<;>first|rfl|decide+kernel
def Vu (T:Txt K mg):Od P w base 1 T.kAF Gm:=by
  unfold Gm;have sc:=U7;exact FC (zq (n:=3) T.kAF.F sc rfl (λcdv A outer s H E hr=>by
    unfold L6;decreasing_trivial))
noncomputable abbrev Ud:List Str:=["_law_machine_here", "_law_rooms", "_law_word", "_law_now", "_law_letter", "_law_room"]
def Ut:FnScope Ud ["_law_machine_here", "_law_rooms", "_law_word"] (zT Mr):=by constructor<;>first|rfl|decide+kernel
def Ws (T:Txt K mg):Od P w base 1 T.kAH Fs:=by
  unfold Fs;have sc:=Ut;exact FC (zq (n:=3) T.kAH.F sc rfl (λcdv A outer s H E hr=>by
    unfold MG;decreasing_trivial))
noncomputable abbrev cI:List Str:=["_law_thing"]
def VY:FnScope cI ["_law_thing"] (zT MH):=by constructor<;>first|rfl|decide+kernel
def k5 (T:Txt K mg):Od P w base 1 T.kAI Gx:=by
  unfold Gx;have sc:=VY;exact zq (n:=1) T.kAI.F sc rfl (λcdv A outer s H E hr=>by
    unfold Lb;decreasing_trivial)
noncomputable abbrev Xc:List Str:=["thing", "many"]
def lJ:FnScope Xc ["thing", "many"] (zT MT):=by constructor<;>first|rfl|decide+kernel
def dX (T:Txt K mg):Od P w base 2 T.kB IQ:=by
  unfold IQ;have sc:=lJ;exact zq (n:=2) T.kB.F sc rfl (λcdv A outer s H E hr=>by
    unfold Ke;decreasing_trivial)
noncomputable abbrev Vv:List Str:=["machine", "rooms", "word", "sets", "letter"]
def X9:FnScope Vv ["machine", "rooms", "word"] (zT LI):=by constructor<;>first|rfl|decide+kernel
def WM (T:Txt K mg):Od P w base 2 T.kJ Hn:=by
  unfold Hn;have sc:=X9;exact FC (zq (n:=3) T.kJ.F sc rfl (λcdv A outer s H E hr=>by
    unfold Kh;decreasing_trivial))
noncomputable abbrev U5:List Str:=["machine", "sources", "pair", "letter", "goal"]
def YU:FnScope U5 ["machine"] (zT Lo):=by constructor<;>first|rfl|decide+kernel
def TV (T:Txt K mg):Od P w base 2 T.kM ID:=by
  unfold ID;have sc:=YU;exact zq (n:=1) T.kM.F sc rfl (λcdv A outer s H E hr=>by
    unfold La;decreasing_trivial)
noncomputable abbrev n6:List Str:=["machine", "pair", "found", "goals", "letter", "goal"]
def VW:FnScope n6 ["machine", "pair", "found"] (zT NA):=by constructor<;>first|rfl|decide+kernel
def VF (T:Txt K mg):Od P w base 2 T.kP Fc:=by
  unfold Fc;have sc:=VW;exact zq (n:=3) T.kP.F sc rfl (λcdv A outer s H E hr=>by
    unfold Mw;decreasing_trivial)
noncomputable abbrev Zo:List Str:=["machine", "steps", "pair", "word", "here", "letter"]
def ZN:FnScope Zo ["machine", "steps", "pair"] (zT MV):=by constructor<;>first|rfl|decide+kernel
def bF (T:Txt K mg):Od P w base 2 T.kS IW:=by
  unfold IW;have sc:=ZN;exact zq (n:=3) T.kS.F sc rfl (λcdv A outer s H E hr=>by
    unfold NM;decreasing_trivial)
noncomputable abbrev jK:List Str:=["ways", "rooms", "found", "pair"]
def lG:FnScope jK ["ways", "rooms"] (zT MR):=by constructor<;>first|rfl|decide+kernel
def Uh (T:Txt K mg):Od P w base 2 T.kW Hi:=by
  unfold Hi;have sc:=lG;exact zq (n:=2) T.kW.F sc rfl (λcdv A outer s H E hr=>by
    unfold Lm;decreasing_trivial)
noncomputable abbrev Se:List Str:=["_law_state", "_law_many", "_law_order_here", "_law_k"]
def k6:FnScope Se ["_law_state", "_law_many"] (zT NR):=by constructor<;>first|rfl|decide+kernel
def fD (T:Txt K mg):Od P w base 2 T.kAB GD:=by
  unfold GD;have sc:=k6;exact zq (n:=2) T.kAB.F sc rfl (λcdv A outer s H E hr=>by
    unfold Np;decreasing_trivial)
noncomputable abbrev WX:List Str:=["_law_machine_here", "_law_ahead", "_law_front", "_law_joined_here", "_law_pair", "_law_letter", "_law_goal"]
def gO:FnScope WX ["_law_machine_here"] (zT Kp):=by constructor<;>first|rfl|decide+kernel
def Vw (T:Txt K mg):Od P w base 2 T.kAG Ia:=by
  unfold Ia;have sc:=gO;exact zq (n:=1) T.kAG.F sc rfl (λcdv A outer s H E hr=>by
    unfold Md;decreasing_trivial)
noncomputable abbrev VL:List Str:=["_law_thing", "_law_many", "_law_one"]
def TB:FnScope VL ["_law_thing", "_law_many"] (zT K4):=by constructor<;>first|rfl|decide+kernel
def V2 (T:Txt K mg):Od P w base 2 T.kAJ G4:=by
  unfold G4;have sc:=TB;exact zq (n:=2) T.kAJ.F sc rfl (λcdv A outer s H E hr=>by
    unfold MB;decreasing_trivial)
noncomputable abbrev Va:List Str:=["_law_state", "_law_machine_here", "_law_told", "_law_many", "_law_word", "_law_kept", "_law_rooms", "_law_letters", "_law_some", "_law_every"]
def nX:FnScope Va ["_law_state", "_law_machine_here", "_law_told"] (zT Ll):=by constructor<;>first|rfl|decide+kernel
def WJ (T:Txt K mg):Od P w base 2 T.kAM IB:=by
  unfold IB;have sc:=nX;exact zq (n:=3) T.kAM.F sc rfl (λcdv A outer s H E hr=>by
    unfold KU;decreasing_trivial)
noncomputable abbrev cQ:List Str:=["thing", "many", "part"]
def dY:FnScope cQ ["thing", "many"] (zT Nc):=by constructor<;>first|rfl|decide+kernel
def VX (T:Txt K mg):Od P w base 3 T.kC Hf:=by
  unfold Hf;have sc:=dY;exact zq (n:=2) T.kC.F sc rfl (λcdv A outer s H E hr=>by
    unfold MF;decreasing_trivial)
noncomputable abbrev SW:List Str:=["machine", "rooms", "word"]
def V3:FnScope SW ["machine", "rooms", "word"] (zT Mu):=by constructor<;>first|rfl|decide+kernel
def nI (T:Txt K mg):Od P w base 3 T.kK GN:=by
  unfold GN;have sc:=V3;exact FC (zq (n:=3) T.kK.F sc rfl (λcdv A outer s H E hr=>by
    unfold Ln;decreasing_trivial))
noncomputable abbrev ZA:List Str:=["machine", "goals", "sources", "level", "found", "goal", "behind", "pair"]
def WC:FnScope ZA ["machine", "goals"] (zT Mi):=by constructor<;>first|rfl|decide+kernel
def m4 (T:Txt K mg):Od P w base 3 T.kN JC:=by
  unfold JC;have sc:=WC;exact zq (n:=2) T.kN.F sc rfl (λcdv A outer s H E hr=>by
    unfold LN;decreasing_trivial)
noncomputable abbrev gS:List Str:=["machine", "found", "pairs", "pair"]
def fN:FnScope gS ["machine", "found"] (zT Lg):=by constructor<;>first|rfl|decide+kernel
def jZ (T:Txt K mg):Od P w base 3 T.kQ Hc:=by
  unfold Hc;have sc:=fN;exact zq (n:=2) T.kQ.F sc rfl (λcdv A outer s H E hr=>by
    unfold Ni;decreasing_trivial)
noncomputable abbrev Xt:List Str:=["_law_state", "_law_family", "_law_rooms", "_law_letter", "_law_room", "_law_half", "_law_ahead", "_law_far", "_law_order_here", "_law_goal"]
def aP:FnScope Xt ["_law_state", "_law_family", "_law_rooms", "_law_letter"] (zT Mo):=by constructor<;>first|rfl|decide+kernel
def mU (T:Txt K mg):Od P w base 3 T.kAC IC:=by
  unfold IC;have sc:=aP;exact zq (n:=4) T.kAC.F sc rfl (λcdv A outer s H E hr=>by
    unfold MM;decreasing_trivial)
noncomputable abbrev gU:List Str:=["_law_machine_here", "_law_joined_here", "_law_told", "_law_many", "_law_word", "_law_kept", "_law_pair"]
def ZT:FnScope gU ["_law_machine_here", "_law_joined_here", "_law_told"] (zT LP):=by constructor<;>first|rfl|decide+kernel
def Zd (T:Txt K mg):Od P w base 3 T.kAK IK:=by
  unfold IK;have sc:=ZT;exact LA (zq (n:=3) T.kAK.F sc rfl (λcdv A outer s H E hr=>by
    unfold Kg;decreasing_trivial))
noncomputable abbrev XN:List Str:=["_law_state", "_law_machine_here", "_law_told", "_law_many", "_law_word", "_law_kept", "_law_letters", "_law_ahead", "_law_k", "_law_behind_here", "_law_way"]
def jI:FnScope XN ["_law_state", "_law_machine_here", "_law_told"] (zT LS):=by constructor<;>first|rfl|decide+kernel
def ZR (T:Txt K mg):Od P w base 3 T.kAL Ir:=by
  unfold Ir;have sc:=jI;exact zq (n:=3) T.kAL.F sc rfl (λcdv A outer s H E hr=>by
    unfold Ms;decreasing_trivial)
noncomputable abbrev dN:List Str:=["machine", "thing"]
def WN:FnScope dN ["machine", "thing"] (zT NN):=by constructor<;>first|rfl|decide+kernel
def iB (T:Txt K mg):Od P w base 4 T.kD Iu:=by
  unfold Iu;have sc:=WN;exact zq (n:=2) T.kD.F sc rfl (λcdv A outer s H E hr=>by
    unfold Lp;decreasing_trivial)
noncomputable abbrev aL:List Str:=["machine", "thing", "one", "other"]
def Tq:FnScope aL ["machine", "thing"] (zT Nd):=by constructor<;>first|rfl|decide+kernel
def Wy (T:Txt K mg):Od P w base 4 T.kE GR:=by
  unfold GR;have sc:=Tq;exact zq (n:=2) T.kE.F sc rfl (λcdv A outer s H E hr=>by
    unfold IJ;decreasing_trivial)
noncomputable abbrev nQ:List Str:=["machine", "room"]
def nY:FnScope nQ ["machine"] (zT NS):=by constructor<;>first|rfl|decide+kernel
def Z9 (T:Txt K mg):Od P w base 4 T.kO Ga:=by
  unfold Ga;have sc:=nY;exact zq (n:=1) T.kO.F sc rfl (λcdv A outer s H E hr=>by
    unfold K9;decreasing_trivial)
noncomputable abbrev WG:List Str:=["_law_state", "_law_rooms", "_law_letters", "_law_family", "_law_columns", "_law_letter", "_law_column_here", "_law_room"]
def Ww:FnScope WG ["_law_state", "_law_rooms", "_law_letters"] (zT Nm):=by constructor<;>first|rfl|decide+kernel
def Uv (T:Txt K mg):Od P w base 4 T.kAD G0:=by
  unfold G0;have sc:=Ww;exact LA (zq (n:=3) T.kAD.F sc rfl (λcdv A outer s H E hr=>by
    unfold Mh;decreasing_trivial))
noncomputable abbrev dC:List Str:=["machine"]
def Vb:FnScope dC ["machine"] (zT Mq):=by constructor<;>first|rfl|decide+kernel
def nE (T:Txt K mg):Od P w base 5 T.kR Il:=by
  unfold Il;have sc:=Vb;exact zq (n:=1) T.kR.F sc rfl (λcdv A outer s H E hr=>by
    unfold Ma;decreasing_trivial)
noncomputable abbrev d5:List Str:=["machine", "rooms", "found", "pair"]
def ZK:FnScope d5 ["machine", "rooms"] (zT Lj):=by constructor<;>first|rfl|decide+kernel
def VQ (T:Txt K mg):Od P w base 5 T.kT Ht:=by
  unfold Ht;have sc:=ZK;exact FC (zq (n:=2) T.kT.F sc rfl (λcdv A outer s H E hr=>by
    unfold NH;decreasing_trivial))
noncomputable abbrev Tn:List Str:=["machine", "told", "many", "word", "kept", "left"]
def Wz:FnScope Tn ["machine", "told"] (zT Kv):=by constructor<;>first|rfl|decide+kernel
def lR (T:Txt K mg):Od P w base 6 T.kU HW:=by
  unfold HW;have sc:=Wz;exact LA (zq (n:=2) T.kU.F sc rfl (λcdv A outer s H E hr=>by
    unfold Mn;decreasing_trivial))
noncomputable abbrev cA:List Str:=["machine", "rooms", "ways", "here", "word", "steps", "pair", "part"]
def XE:FnScope cA ["machine", "rooms"] (zT KR):=by constructor<;>first|rfl|decide+kernel
def Zc (T:Txt K mg):Od P w base 6 T.kX Ih:=by
  unfold Ih;have sc:=XE;exact FC (zq (n:=2) T.kX.F sc rfl (λcdv A outer s H E hr=>by
    unfold NV;decreasing_trivial))
noncomputable abbrev lT:List Str:=["machine", "rooms", "word", "kept"]
def nN:FnScope lT ["machine"] (zT Li):=by constructor<;>first|rfl|decide+kernel
def VS (T:Txt K mg):Od P w base 7 T.kY Hw:=by
  unfold Hw;have sc:=nN;exact FC (zq (n:=1) T.kY.F sc rfl (λcdv A outer s H E hr=>by
    unfold NX;decreasing_trivial))
noncomputable abbrev Xr:List Str:=["_law_machine_here", "_law_joined_here", "_law_thing", "_law_found"]
def WR:FnScope Xr ["_law_machine_here", "_law_joined_here", "_law_thing"] (zT K6):=by constructor<;>first|rfl|decide+kernel
def iC (T:Txt K mg):Od P w base 7 T.kAN Hl:=by
  unfold Hl;have sc:=WR;exact zq (n:=3) T.kAN.F sc rfl (λcdv A outer s H E hr=>by
    unfold MN;decreasing_trivial)
noncomputable abbrev iT:List Str:=["_law_script", "_law_state", "_law_machine_here", "_law_joined_here", "_law_things", "_law_thing", "_law_told", "_law_turn", "_law_handed"]
def XI:FnScope iT ["_law_script"] (zT Kf):=by constructor<;>first|rfl|decide+kernel
def jR (T:Txt K mg):Od P w base 8 T.kAO Fp:=by
  unfold Fp;have sc:=XI;exact zq (n:=1) T.kAO.F sc rfl (λcdv A outer s H E hr=>by
    unfold Mx;decreasing_trivial)
end
def Vp {l:PySem.W.OpenLaw} {w:World} {K:PySem.W.Frag} {h:Heap} {mg:Str->Option Value} {fa:Addr} (X:K.In h) (G:h.Ns mainGlobals mg) (hfa:mg "law" = some (.ref fa))
    (g1:Dg K "is_whole" Lr) (g2:Dg K "is_below" MT) (g3:Dg K "is_tuple_below" Nc) (g4:Dg K "is_word" NN) (g5:Dg K "is_set" Nd) (g6:Dg K "all_rooms" Lh) (g7:Dg K "stepped" Ls) (g8:Dg K "walked" LI) (g9:Dg K "brought" Mu) (g10:Dg K "pairs_of" LV) (g11:Dg K "ways_back" Lo) (g12:Dg K "lengths_to" Mi) (g13:Dg K "lengths" NS) (g14:Dg K "first_letter" NA) (g15:Dg K "rungs_to" Lg) (g16:Dg K "rungs" Mq) (g17:Dg K "climbed" MV) (g18:Dg K "are_apart" Lj) (g19:Dg K "shows_many" Kv) (g20:Dg K "nearest" MR) (g21:Dg K "quick" KR) (g22:Dg K "least_many" Li) (g23:Dg K "_law_begin" Ka) (g24:Dg K "_law_next" NF) (g25:Dg K "_law_order" NR) (g26:Dg K "_law_column" Mo) (g27:Dg K "_law_machine" Nm) (g28:Dg K "_law_pairs" MI) (g29:Dg K "_law_behind" KS) (g30:Dg K "_law_joined" Kp) (g31:Dg K "_law_brought" Mr) (g32:Dg K "_law_whole" MH) (g33:Dg K "_law_row" K4) (g34:Dg K "_law_shown" LP) (g35:Dg K "_law_made" LS) (g36:Dg K "_law_odd" Ll) (g37:Dg K "_law_right" K6) (g38:Dg K "law" Kf) (z1:Zn K "isinstance") (z2:Zn K "int") (z3:Zn K "bool") (z4:Zn K "tuple") (z5:Zn K "all") (z6:Zn K "len") (z7:Zn K "zip") (z8:Zn K "range") (z9:Zn K "sorted") (z10:Zn K "min") (z11:Zn K "enumerate") (z12:Zn K "abs") (z13:Zn K "max") (z14:Zn K "list") (z15:Zn K "set") (z16:Zn K "any") (z17:Zn K "str") (y1:Ki K "NoneType" "int" false) (y2:Ki K "NoneType" "bool" false) (y3:Ki K "NoneType" "str" false) (y4:Ki K "NoneType" "tuple" false) (y5:Ki K "bool" "int" true) (y6:Ki K "bool" "bool" true) (y7:Ki K "bool" "str" false) (y8:Ki K "bool" "tuple" false) (y9:Ki K "int" "int" true) (y10:Ki K "int" "bool" false) (y11:Ki K "int" "str" false) (y12:Ki K "int" "tuple" false) (y13:Ki K "str" "int" false) (y14:Ki K "str" "bool" false) (y15:Ki K "str" "str" true) (y16:Ki K "str" "tuple" false) (y17:Ki K "list" "int" false) (y18:Ki K "list" "bool" false) (y19:Ki K "list" "str" false) (y20:Ki K "list" "tuple" false) (y21:Ki K "tuple" "int" false) (y22:Ki K "tuple" "bool" false) (y23:Ki K "tuple" "str" false) (y24:Ki K "tuple" "tuple" true) (y25:Ki K "dict" "int" false) (y26:Ki K "dict" "bool" false) (y27:Ki K "dict" "str" false) (y28:Ki K "dict" "tuple" false) :
    ∃ fd:FuncData,(∀ (s:Shared) (v:Value),BindsTo s fd ⟨[v],[]⟩ [("_law_script", v)]) /\ ∀ base:Heap,K.In base->base.Ns mainGlobals mg->FnOk l.prog w K mg base CX0 8 fa fd ["_law_script"] (spF K 1 Fp):=by
  have e:=hfa.symm.trans (PySem.W.mg_of X G g38.a);cases e;have kinds:Kinds K:=⟨by
    intro t T ht hT;simp only[AK,BO,BY]at ht hT;rcases ht with rfl|rfl|rfl|rfl|rfl|rfl|rfl <;> rcases hT with rfl|rfl|rfl|rfl <;> assumption⟩
  let T:Txt K mg:=⟨g1.df X G λ_ _ _ _ _ _=>Dt λ_=>rfl,g2.df X G λ_ _ _ _ _ _=>DY λ_ _=>rfl,g3.df X G λ_ _ _ _ _ _=>DY λ_ _=>rfl,g4.df X G λ_ _ _ _ _ _=>DY λ_ _=>rfl,g5.df X G λ_ _ _ _ _ _=>DY λ_ _=>rfl,g6.df X G λ_ _ _ _ _ _=>Dt λ_=>rfl,g7.df X G λ_ _ _ _ _ _=>Di λ_ _ _=>rfl,g8.df X G λ_ _ _ _ _ _=>Di λ_ _ _=>rfl,g9.df X G λ_ _ _ _ _ _=>Di λ_ _ _=>rfl,g10.df X G λ_ _ _ _ _ _=>Dt λ_=>rfl,g11.df X G λ_ _ _ _ _ _=>Dt λ_=>rfl,g12.df X G λ_ _ _ _ _ _=>DY λ_ _=>rfl,g13.df X G λ_ _ _ _ _ _=>Dt λ_=>rfl,g14.df X G λ_ _ _ _ _ _=>Di λ_ _ _=>rfl,g15.df X G λ_ _ _ _ _ _=>DY λ_ _=>rfl,g16.df X G λ_ _ _ _ _ _=>Dt λ_=>rfl,g17.df X G λ_ _ _ _ _ _=>Di λ_ _ _=>rfl,g18.df X G λ_ _ _ _ _ _=>DY λ_ _=>rfl,g19.df X G λ_ _ _ _ _ _=>DY λ_ _=>rfl,g20.df X G λ_ _ _ _ _ _=>DY λ_ _=>rfl,g21.df X G λ_ _ _ _ _ _=>DY λ_ _=>rfl,g22.df X G λ_ _ _ _ _ _=>Dt λ_=>rfl,g23.df X G λ_ _ _ _ _ _=>Dt λ_=>rfl,g24.df X G λ_ _ _ _ _ _=>DY λ_ _=>rfl,g25.df X G λ_ _ _ _ _ _=>DY λ_ _=>rfl,g26.df X G λ_ _ _ _ _ _=>iD λ_ _ _ _=>rfl,g27.df X G λ_ _ _ _ _ _=>Di λ_ _ _=>rfl,g28.df X G λ_ _ _ _ _ _=>Dt λ_=>rfl,g29.df X G λ_ _ _ _ _ _=>Di λ_ _ _=>rfl,g30.df X G λ_ _ _ _ _ _=>Dt λ_=>rfl,g31.df X G λ_ _ _ _ _ _=>Di λ_ _ _=>rfl,g32.df X G λ_ _ _ _ _ _=>Dt λ_=>rfl,g33.df X G λ_ _ _ _ _ _=>DY λ_ _=>rfl,g34.df X G λ_ _ _ _ _ _=>Di λ_ _ _=>rfl,g35.df X G λ_ _ _ _ _ _=>Di λ_ _ _=>rfl,g36.df X G λ_ _ _ _ _ _=>Di λ_ _ _=>rfl,g37.df X G λ_ _ _ _ _ _=>Di λ_ _ _=>rfl,g38.df X G λ_ _ _ _ _ _=>Dt λ_=>rfl,CZ X G z1,CZ X G z2,CZ X G z3,CZ X G z4,CZ X G z5,CZ X G z6,CZ X G z7,CZ X G z8,CZ X G z9,CZ X G z10,CZ X G z11,CZ X G z12,CZ X G z13,CZ X G z14,CZ X G z15,CZ X G z16,CZ X G z17,kinds⟩;refine ⟨T.kAO.fd,λs v=> .of_eq rfl,λbase _ _=>?_⟩;exact jR (P:=l.prog) (w:=w) (base:=base) T
def eX {l:PySem.W.OpenLaw} {q:Ym} {loose:Yk} {XP:(Str->Option Value)->Heap->Prop} {YP:World->Heap->Prop} {d:DefRec} {K:Params->PySem.W.Frag} (hn:l.most=some 63) (hdf:d.params.defaults=[])
    (hY:∀ (w:Yo) (h:Heap),YP w h->(K w.params).In h) (hL:∀ w:World,JZ (K w.params)=true)
    (F:∀ (w:Yo) (mg:Yh) (fa:Yt) (h:Heap),(K w.params).In h->h.Ns mainGlobals mg->mg d.name=some (.ref fa) ->
      ∃ fd:FuncData,(∀ (s:Shared) (u:Value),BindsTo s fd ⟨[u],[]⟩ [("_law_script", u)]) /\ ∀ base:Heap,(K w.params).In base->base.Ns mainGlobals mg->FnOk l.prog w (K w.params) mg base CX0 8 fa fd ["_law_script"] (spF (K w.params) 1 Fp)) :
    PySem.W.WalkO q loose XP YP l.row.toRowW d [] (λf vs=>PySem.call f vs) :=
  L2.Xw (n:=63) (k:=8) (x := "_law_script") (CX:=λ_=>CX0) (sp:=λw=>spF (K w.params) 1 Fp) hn (by decide) hdf ⟨rfl,by decide,by decide⟩ hY F
    (λw H a ns hl hO hS=>dG (hL w) hO hS (aM ns hl)) λ_ _ _ _ _ z=>z
end Lac
end
open PySem PySem.W PyProof.Rows
set_option maxRecDepth 100000 in
set_option maxHeartbeats 0 in
theorem PySem.Challenge.cw_bringhome_k30_counts_shown_holds : PySem.Challenge.rw_bringhome_k30_counts_shown.Holds := by
  w_on;o_law;k_head;(case hw=>w_witness2);k_fill;refine Lac.eX (l:=PySem.Challenge.rw_bringhome_k30_counts_shown) rfl rfl (λw h YY=>PySem.W.kIn_of YY) (λw=>by rfl) ?F
  case F=>
    intro w mg fa h KX G hmg;apply Lac.Vp KX G hmg;all_goals first|exact ⟨_,by k_is,by k_is,by k_is,by k_is⟩|(unfold L3.Zn;k_is)|(unfold L3.Ki;kit_is)|k_is
