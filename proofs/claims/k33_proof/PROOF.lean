import PyProof.Rows.All
import Wide.All
import OpenK.AllK
import Wide.FinOn
import Lean
import PyProof.EqAt
import PyProof.EqKinds
import PyProof.TupleCall
import PyProof.NeKinds
import PyProof.ZipIter
import PyProof.ListRange
import PyProof.TupleOfSeq
import PyProof.ConsumeWalk
import PyProof.IsRules
import PyProof.SetKind
import PyProof.SetRoads
import PyProof.Rows.SetFrom
import PyProof.Draws
import PyProof.EnumMake
import PyProof.DictCompW
import PyProof.ListMulRoad
import PyProof.Rows.SeqMore2
import PyProof.WalkInts
import PyProof.DictRoadsH
import PyProof.DictItems
import KE.KDictList
import PySem.Challenge.RW_bringhome_k33_whole_pairs_by_levels
local macro_rules|`(tactic|omega)=>`(tactic|lia)
local macro_rules|`(command|def $i $s $v:declVal)=>`(command|noncomputable def $i $s $v:declVal)
local macro_rules|`(command|abbrev $i $s $v:declVal)=>`(command|noncomputable abbrev $i $s $v:declVal)
local macro_rules|`(~~~$x)=>`(by simpa using $x)
local macro_rules|`(⇑$x)=>`($(x).heap.objs.size)
local macro_rules|`(tactic|∎)=>`(tactic|constructor<;>first|rfl|decide+kernel)
local macro_rules|`(tactic|calc $x:term)=>`(tactic|refine $x)
local macro_rules|`(tactic|ext $x:ident)=>`(tactic|cases $x:ident)
local macro_rules|`(tactic|cbv at $x:ident)=>`(tactic|split at $x:ident)
local macro_rules|`(tactic|erw[$a,*]$[at $h:ident]?)=>let a:=a.getElems.map λx=>(⟨x.raw[1]⟩:Lean.Ident);`(tactic|unfold $a* $[at $h:ident]?)
local macro_rules|`(tactic|let $d:letDecl)=>`(tactic|have $d:letDecl)
local macro_rules|`(tactic|let⟨$a,*⟩:=$t)=>do let q←(List.range 9).foldl (λr _ (x:Lean.Term)=>match x with|`(($b,$a,*))=>do let c←r b;let b←a.getElems.mapM r;`(rcasesPat|⟨$c:rcasesPat,$[$b:rcasesPat],*⟩)|`(⟨$a,*⟩)=>do let b←a.getElems.mapM r;`(rcasesPat|⟨$[$b:rcasesPat],*⟩)|`($i:ident)=>`(rcasesPat|$i:ident)|_=>`(rcasesPat|_)) (λ_=>`(rcasesPat|_)) (←`(⟨$a,*⟩));`(tactic|obtain $q:rcasesPat:=$t)
local macro_rules|`(tactic|let($b,$a,*):=$t)=>`(tactic|let⟨$b,$a,*⟩:=$t)
local macro_rules|`(())=>`(by first|decide|omega)
local macro_rules|`(tactic|intros $x*)=>let y:=x.map λi=>(⟨Lean.mkNode ``Lean.binderIdent (List.toArray [i.raw])⟩:Lean.TSyntax ``Lean.binderIdent);`(tactic|rename_i $y*)
local macro_rules|`(tactic|symm)=>`(tactic|dsimp only)
local macro_rules|`(#[$x,$a,*])=>`(⟨$x,$a,*⟩)
theorem qz{p:Prop}(h:¬p->False):p:=Classical.byContradiction h
section
open PySem
abbrev Ya:=List (List Int)
abbrev Yb:=W.Frag
abbrev Yc:=Value->Shared->Prop
abbrev Yd:=List (Addr×Obj)
abbrev Ye:=List Int
abbrev Yf:=List Value
abbrev Yg:=List Addr
abbrev Yh:=Str->Option Value
abbrev Yi:=List Expr
abbrev Yj:=List Nat
abbrev Yk:=List Str
abbrev Yl:=Shared
abbrev Ym:=Program
abbrev Yn:=Around
abbrev Yo:=World
abbrev Yp:=Array Value
abbrev Yq:=List Int->Prop
abbrev Yr:=Value->Nat
abbrev Ys:=Option Int
abbrev Yt:=Addr
abbrev Yu:=Value
abbrev Yv:=List (Str×Addr)
abbrev Yw:=Array (Int×Value)
abbrev Yx:=Result->Shared->Prop
abbrev Yy:=List Stmt
abbrev Yz:=FuncData
abbrev Y0:=Scope
abbrev Y1:=List Int->List (List Int)
abbrev Y2:=Value->Value->Sem Value
end
structure PySem.W.Fast:Prop where(tw6419558841171376418 tw9923900697673725938 tw9806173203636329621 tw2903947550588469072 tw3719724566396081463 tw10393537416987444992 tw982450804770677613 tw8829591787163194238 tw4646634635206501938 tw1368119074325804763 tw11360285664110647889 tw13232723174954509985 tw2057304371963230460 tw8836328060962999198 tw4621610762061900611 tw11858324240026916211 tw2882710072115359143 tw9117017360633703109 tw13557205287671102728 tw3998667700536467026 tw2853825445672341468 tw12015265052458795823 tw14149630242033649179 tw17916663602338567190 tw16336403239872349601 tw12616660477393682997 tw9853271064797824999 tw1345252138517276110 tw10989882236967189799 tw9954120121912303937 tw8113901478566439825 tw12149058458842912581 tw7068922720825918815 tw9790632404547351887 tw8604863191790459164 tw13514212921492581797 tw2119546973794860564 tw15208774488334659714 tw1427761483623890928 tw13213612129381200191 tw1342989435865454556 tw14125969517493232661 tw7045792025541994900 tw13562312184309726719 tw10786061980670665901 tw11465020798623825962 tw4894354119174714744 tw6230121593167100611 tw15907295232674237120 tw6076515154571074518 tw13264076139568460700 tw5332389626763953937 tw17212021400984735305 tw9816468720077114740 tw5542720343577608738 tw14105630684325757956 tw8985996840226924443 tw14221774568952169631 tw14417073425348476646 tw15182430356884971878 tw7049328917941284091 tw876298999382866128 tw3822074606269493025 tw16785442611228244827 tw1897523318670746855 tw5725702010313415262 tw10452119891438666287 tw2355202973544795622 tw12376577175124928052 tw2653671483509797038 tw4122398657207553500 tw7889159044157293290 tw12757159512024566637 tw17941930912135525394 tw4617277330797365284 tw5268357234756422069 tw4284343702339885343 tw11769843917721966768 tw10313001038064656228 tw5901927695487336583 tw4856729660294944897 tw15712522438258883529 tw6185779080522970716 tw15373075715302937550 tw16857327188455862511 tw14410528689978617134 tw11416023056412121031 tw9234902323038010305 tw9899747463631093291 tw15061046829509467175 tw786668140051313546 tw15810534677328495567 tw13279746491412501254 tw2687232355845072406 tw18439206536733319406 tw2674291956629686976 tw4600534929218329770 tw786701863841741111 tw10370388723375938284 tw5670542437008075279 tw12658418750907179042 tw9039970060029465779 tw2589019465407349648 tw1414836997319426386 tw1818141386201181096 tw16845767974273485821 tw16072363885321739367 tw8563271641384550903 tw3645449759294270460 tw1274041294964350727 tw16400615246911616568 tw4367957360062064779 tw12561063930606316279 tw14747451209461098329 tw743166910814471130 tw7758738652022910513 tw5743484041975240958 tw5035069256278637649 tw5857142670599199420 tw7121933845999057086 tw8599994573380316510 tw1859152494012015077 tw9903692686858243975 tw10424146463671031066 tw17503915885089108466 tw6541296660605906132 tw10959944812727398853 tw4242078217347189144 tw13380822033923419640 tw8724726080188864958 tw1389012170240952308 tw3828800023975967057 tw1719202617333389889 tw1883469038189489993 tw4699877841791908702 tw15050128575712968130 tw9313176388905658073 tw10337335765427175082 tw10627668216317280001 tw6439834350952114904 tw5316226273385464256 tw11144599294213585314 tw17240297495318782715 tw15493638276698973922 tw12858956071274912352 tw8218263327821852877 tw15245686120107949931 tw13478259876684434810 tw15420193870712548095 tw10994184473706077669 tw16017371949227411269 tw15675189665911603594 tw16906775952373060668 tw18152049044377033685 tw12497088744110190228 tw670176155206125297 tw2214156140245166312 tw2990392752134433034 tw5654625610581478309 tw9528108589967774235 tw1782158247146784966 tw11995283208999633296:True)
section
open PySem PySem.Spec PyProof.Rows
def AA:type_of% @wpAny_bind:=@wpAny_bind
def AJ:type_of% @Heap.get?_push_of_some:=@Heap.get?_push_of_some
def AD:type_of% @wpAny_pure:=@wpAny_pure
def AI:type_of% @List.getElem?_eq_some_iff:=@List.getElem?_eq_some_iff
def AO:type_of% @List.getElem?_eq_getElem:=@List.getElem?_eq_getElem
def Bn:type_of% @List.getD_eq_getElem?_getD:=@List.getD_eq_getElem?_getD
def AF:type_of% @Nat.le_refl:=@Nat.le_refl
def AM:type_of% @List.getElem?_append_left:=@List.getElem?_append_left
def AX:type_of% @List.size_toArray:=@List.size_toArray
def AG:type_of% @List.length_map:=@List.length_map
def AS:type_of% @Heap.get?_push_size:=@Heap.get?_push_size
def AH:type_of% @Heap.lt_size:=@Heap.lt_size
def AK:type_of% @List.mem_cons:=@List.mem_cons
def Aa:type_of% @List.mem_cons_of_mem:=@List.mem_cons_of_mem
def AR:type_of% @List.mem_cons_self:=@List.mem_cons_self
def AB:type_of% @if_pos:=@if_pos
def AW:type_of% @List.length_append:=@List.length_append
def AL:type_of% @List.mem_map:=@List.mem_map
def AE:type_of% @if_neg:=@if_neg
def AU:type_of% @List.map_cons:=@List.map_cons
def Ak:type_of% @List.mem_append_right:=@List.mem_append_right
def AZ:type_of% @Nat.ne_of_lt:=@Nat.ne_of_lt
def Ax:type_of% @Bool.false_ne_true:=@Bool.false_ne_true
def Au:type_of% @List.getElem?_map:=@List.getElem?_map
def Af:type_of% @List.map_map:=@List.map_map
def Ay:type_of% @Nat.lt_of_lt_of_le:=@Nat.lt_of_lt_of_le
def Ae:type_of% @List.mem_append:=@List.mem_append
def Ab:type_of% @Nat.le_trans:=@Nat.le_trans
def Ac:type_of% @List.mem_singleton:=@List.mem_singleton
def BH:type_of% @wpAny_newObj_type:=@wpAny_newObj_type
def Ag:type_of% @List.getElem?_set_ne:=@List.getElem?_set_ne
def Bq:type_of% @List.not_mem_nil:=@List.not_mem_nil
def AQ:type_of% @wpAny_mono:=@wpAny_mono
def Bw:type_of% @List.length_cons:=@List.length_cons
def Bc:type_of% @List.getElem_mem:=@List.getElem_mem
def Aw:type_of% @decide_eq_false:=@decide_eq_false
def BB:type_of% @Bool.and_eq_true:=@Bool.and_eq_true
def Am:type_of% @List.all_eq_true:=@List.all_eq_true
def CP:type_of% @wpAny_callSpecial?_slot:=@wpAny_callSpecial?_slot
def BQ:type_of% @wpAny_call_entry:=@wpAny_call_entry
def A9:type_of% @List.mem_range:=@List.mem_range
def Bi:type_of% @wpAny_field:=@wpAny_field
def Bo:type_of% @Heap.size_push:=@Heap.size_push
def Er:type_of% @Heap.get?_update_other:=@Heap.get?_update_other
def BS:type_of% @Nat.lt_irrefl:=@Nat.lt_irrefl
def BU:type_of% @Array.length_toList:=@Array.length_toList
def BI:type_of% @List.append_nil:=@List.append_nil
def Cq:type_of% @Array.getElem?_eq_getElem:=@Array.getElem?_eq_getElem
def BV:type_of% @Nat.zero_le:=@Nat.zero_le
def El:type_of% @Heap.get?_update_self:=@Heap.get?_update_self
def C5:type_of% @Nat.lt_succ_of_lt:=@Nat.lt_succ_of_lt
def Ef:type_of% @wpAny_seqItems:=@wpAny_seqItems
def Ca:type_of% @List.mem_of_getElem?:=@List.mem_of_getElem?
def CD:type_of% @List.map_append:=@List.map_append
def Bu:type_of% @wpAny_holding:=@wpAny_holding
def B3:type_of% @List.getElem?_set_self:=@List.getElem?_set_self
def GY:type_of% @Around.under_plainId:=@Around.under_plainId
def Cs:type_of% @of_decide_eq_true:=@of_decide_eq_true
def D3:type_of% @Nat.lt_succ_self:=@Nat.lt_succ_self
def CA:type_of% @wpAny_standAt:=@wpAny_standAt
def CU:type_of% @PySem.W.mg_none_of:=@PySem.W.mg_none_of
def Be:type_of% @Option.some.inj:=@Option.some.inj
def Cv:type_of% @Bool.false_eq_true:=@Bool.false_eq_true
def CO:type_of% @PySem.mem_of_lookup:=@PySem.mem_of_lookup
def DL:type_of% @Heap.SameBut.update:=@Heap.SameBut.update
def CF:type_of% @List.cons.inj:=@List.cons.inj
def Bx:type_of% @List.append_assoc:=@List.append_assoc
def Az:type_of% @decide_eq_true:=@decide_eq_true
def Ge:type_of% @List.getElem?_eq_none:=@List.getElem?_eq_none
def CV:type_of% @List.getElem?_append_right:=@List.getElem?_append_right
def C3:type_of% @List.mem_filter:=@List.mem_filter
def EO:type_of% @wpAny_truthy_bool:=@wpAny_truthy_bool
def DM:type_of% @decide_eq_true_eq:=@decide_eq_true_eq
def DN:type_of% @List.nodup_append:=@List.nodup_append
def CI:type_of% @List.mem_append_left:=@List.mem_append_left
def D5:type_of% @wpAny_setField_rec:=@wpAny_setField_rec
def EB:type_of% @Obj.data_mapFields:=@Obj.data_mapFields
def FR:type_of% @List.nodup_cons:=@List.nodup_cons
def Br:type_of% @or_false:=@or_false
def DE:type_of% @Nat.lt_or_ge:=@Nat.lt_or_ge
def CS:type_of% @wpAny_rule:=@wpAny_rule
def D4:type_of% @List.length_take:=@List.length_take
def FL:type_of% @List.pairwise_map:=@List.pairwise_map
def Cr:type_of% @Nat.ne_of_gt:=@Nat.ne_of_gt
def Hs:type_of% @PyProof.Rows.slot_tuple_getitem:=@PyProof.Rows.slot_tuple_getitem
def Ea:type_of% @List.getElem?_set:=@List.getElem?_set
def DS:type_of% @wpAny_attempt:=@wpAny_attempt
def FN:type_of% @Nat.mul_le_mul:=@Nat.mul_le_mul
def Du:type_of% @PySem.W.kia_one:=@PySem.W.kia_one
def F7:type_of% @Array.getElem?_toList:=@Array.getElem?_toList
def Cw:type_of% @Nat.le_succ:=@Nat.le_succ
def Dt:type_of% @wpAny_setField:=@wpAny_setField
def E7:type_of% @List.find?_cons:=@List.find?_cons
def Ba:type_of% @congrArg:=@congrArg
def HY:type_of% @wpAny_comprehension_free:=@wpAny_comprehension_free
def Et:type_of% @List.length_range:=@List.length_range
def Dr:type_of% @List.foldl_append:=@List.foldl_append
def EF:type_of% @List.length_eq_zero_iff:=@List.length_eq_zero_iff
def Dm:type_of% @List.getElem_of_mem:=@List.getElem_of_mem
def Ei:type_of% @List.lookup_cons:=@List.lookup_cons
def Hu:type_of% @Calls.callWith_builtin:=@Calls.callWith_builtin
def Dd:type_of% @List.pairwise_cons:=@List.pairwise_cons
def Gx:type_of% @List.length_filter_le:=@List.length_filter_le
def FX:type_of% @List.length_drop:=@List.length_drop
def Ew:type_of% @Bool.eq_iff_iff:=@Bool.eq_iff_iff
def Eb:type_of% @List.flatMap_cons:=@List.flatMap_cons
def FU:type_of% @Int.toNat_natCast:=@Int.toNat_natCast
def DW:type_of% @Nat.le_of_lt:=@Nat.le_of_lt
def G9:type_of% @List.length_singleton:=@List.length_singleton
end
set_option Elab.async false
set_option linter.all false
set_option maxRecDepth 100000
set_option genSizeOf false
set_option genInjectivity false
set_option compiler.extract_closed false
noncomputable section
section
open PySem PySem.Spec PyProof.Rows
namespace L2
abbrev Key:=Sum Int Str
def Hm:Key->Value->Bool
 |.inl k,v=>Value.isInt k v
 |.inr x,v=>Value.isStrOf x v
def nW(w:Yo):Key->Int
 |.inl k=>hashInt k
 |.inr x=>hashStr w x
def FK:∀{k:Key}{v:Yu},Hm k v=true->(∃i t,k=Sum.inl i/\v=Value.int i t)\/(∃x t,k=Sum.inr x/\v=Value.str x t)
 |.inl i,v,h=>by
  let(t,e):=Value.isInt_shape (k:=i) (v:=v) h;calc .inl #[i,t,rfl,e]
 |.inr x,v,h=>by
  let(t,e):=Value.isStrOf_shape (x:=x) (v:=v) h;calc .inr #[x,t,rfl,e]
def eJ(i:Int)(t:Tok):Hm (.inl i) (.int i t)=true:=by simp[Hm,Value.isInt]
def sI(x:Str)(t:Tok):Hm (.inr x) (.str x t)=true:=by simp[Hm,Value.isStrOf]
def bM(a b:Int):decide ((Sum.inl a:Key)=Sum.inl b)=(a==b):=by
 by_cases e:a=b
 .subst e;simp
 .have h:¬ (Sum.inl a:Key)=Sum.inl b:=λq=>e (Sum.inl.inj q);rw[Aw h];calc(beq_eq_false_iff_ne.mpr e).symm
def i3(a b:Str):decide ((Sum.inr a:Key)=Sum.inr b)=decide (a=b):=by
 by_cases e:a=b
 .subst e;simp
 .have h:¬ (Sum.inr a:Key)=Sum.inr b:=λq=>e (Sum.inr.inj q);rw[Aw h,Aw e]
def fQ(a:Int)(b:Str):decide ((Sum.inl a:Key)=Sum.inr b)=false:=Aw (λq=>nomatch q)
def pE(a:Str)(b:Int):decide ((Sum.inr a:Key)=Sum.inl b)=false:=Aw (λq=>nomatch q)
def BY(prog:Ym)(w:Yo):PySem.KeyKind prog w Key where
 is:=Hm
 hash:=nW w
 inj:=λv a b ha hb=>by
  rcases FK ha with⟨i,t,rfl,rfl⟩|⟨x,t,rfl,rfl⟩
  .rcases FK hb with⟨j,u,rfl,e⟩|⟨y,u,rfl,e⟩
   .injection e with e1 _;rw[e1]
   .exact nomatch e
  .rcases FK hb with⟨j,u,rfl,e⟩|⟨y,u,rfl,e⟩
   .exact nomatch e
   .injection e with e1 _;rw[e1]
 byValue:=λk v h=>by
  rcases FK h with⟨i,t,rfl,rfl⟩|⟨x,t,rfl,rfl⟩ <;> rfl
 pyHash:=λhv h=>by
  rcases FK hv with⟨i,t,rfl,rfl⟩|⟨x,t,rfl,rfl⟩
  .exact wpAny_pyHash_int h
  .exact wpAny_pyHash_str h
 eqBool:=λhu hv h=>by
  rcases FK hu with⟨i,t,rfl,rfl⟩|⟨x,t,rfl,rfl⟩
  .rcases FK hv with⟨j,u,rfl,rfl⟩|⟨y,u,rfl,rfl⟩
   .rw[bM]at h;exact wpAny_eqBool_int h
   .rw[fQ]at h;exact SeqAt.EqAt.int_str i t y u _ _ _ _ h
  .rcases FK hv with⟨j,u,rfl,rfl⟩|⟨y,u,rfl,rfl⟩
   .rw[pE]at h;exact SeqAt.EqAt.str_int x t j u _ _ _ _ h
   .rw[i3]at h;exact wpAny_eqBool_str h
 «strs»:=λk x t v h=>by
  rcases FK h with⟨i,u,rfl,e⟩|⟨y,u,rfl,e⟩
  .exact nomatch e
  .injection e with e1 _
   subst e1
   cases v <;> rfl
def nX(prog:Ym)(w:Yo)(i:Int)(t:Tok):(BY prog w).is (.inl i) (.int i t)=true:=eJ i t
def aK(prog:Ym)(w:Yo)(x:Str)(t:Tok):(BY prog w).is (.inr x) (.str x t)=true:=sI x t
set_option genInjectivity true in
inductive V where
 |non|bl (b:Bool)|int (i:Int)|str (x:Str)|byt (b:Array UInt8)|flt (b:UInt64)|ref (a:Yt)|ty (n:String)
 deriving DecidableEq
def zh:V->Value->Prop
 |.non,u=>u=Value.none
 |.bl b,u=>u=Value.bool b
 |.int i,u=>∃t,u=Value.int i t
 |.str x,u=>∃t,u=Value.str x t
 |.byt b,u=>∃t,u=Value.bytes b t
 |.flt b,u=>∃t,u=Value.float b t
 |.ref a,u=>u=Value.ref a
 |.ty n,u=>u=Value.type n
abbrev zd:List V->List Value->Prop:=Paired zh
def zd.length{xs:List V}{us:Yf}(r:zd xs us):xs.length=us.length:=Paired.length r
def zd.get:∀{xs:List V}{us:Yf}{i:Nat}{x:V},zd xs us->xs[i]?=some x->∃u,us[i]?=some u/\zh x u
 |_,_,_,_,.nil,e=>by simp at e
 |_,_,0,_,.cons r _,e=>by simp at e;subst e;calc#[_,rfl,r]
 |_,_,i+1,x,.cons _ t,e=>by
  let(u,h1,h2):=zd.get (i:=i) (x:=x) t (~~~e);calc#[u,by simpa using h1,h2]
def zd.set{x:V}{u:Yu}(r:zh x u):∀{xs:List V}{us:Yf}(i:Nat),zd xs us->zd (xs.set i x) (us.set i u)
 |_,_,_,.nil=> .nil
 |_,_,0,.cons _ t=> .cons r t
 |_,_,i+1,.cons q t=> .cons q (zd.set r i t)
def zd.append:∀{xs ys:List V}{us ws:Yf},zd xs us->zd ys ws->zd (xs++ys) (us++ws)
 |_,_,_,_,.nil,s=>s
 |_,_,_,_,.cons r t,s=> .cons r (zd.append t s)
def zd.take:∀{xs:List V}{us:Yf}(n:Nat),zd xs us->zd (xs.take n) (us.take n)
 |_,_,0,_=> .nil
 |_,_,_+1,.nil=> .nil
 |_,_,n+1,.cons r t=> .cons r (zd.take n t)
def zd.drop:∀{xs:List V}{us:Yf}(n:Nat),zd xs us->zd (xs.drop n) (us.drop n)
 |_,_,0,r=>r
 |_,_,_+1,.nil=> .nil
 |_,_,n+1,.cons _ t=>zd.drop n t
def DG:Option V->Option Value->Prop
 |some v,some u=>zh v u
 |none,none=>True
 |_,_=>False
def KV{κ:Type}:List (κ×V)->List (κ×Value)->Prop:=Paired λ(p:κ×V) (q:κ×Value)=>p.1=q.1/\zh p.2 q.2
def kV:Key->V
 |.inl i=> .int i
 |.inr x=> .str x
set_option genInjectivity true in
inductive HO where
 |lst (xs:List V)
 |tup (xs:List V)
 |dK (kvs:List (Key×V))|dT (kvs:List (List Key×V))
 |set (S:Int->Bool) (n:Nat)
 |ins (C dx:Yt) (fs:List (Str×V))
 |own (x:Yt)
 |xd (fs:List (Str×V))
 |met (f x:Yt)
 |rng (lo hi:Int)
 |frz (o:Obj) (u:HO)
 |tbl (ps:Yp)
 |ext (φ:Heap->Prop)
abbrev Hp:=Addr->Option HO
def upd(H:Hp)(a:Yt)(o:HO):Hp:=λb=>if b=a then some o else H b
def zk{H:Hp}{a:Yt}{o:HO}:upd H a o a=some o:=by erw[upd];rw[AB rfl]
def zT{H:Hp}{a b:Yt}{o:HO}(h:b≠a):upd H a o b=H b:=by erw[upd];rw[AE h]
def DT{H:Hp}{a b:Yt}{o u:HO}(h:H a=some o)(h':H b=some u)(d:o≠u):a≠b:=by
 intro e;subst e;rw[h]at h';calc d (Be h')
def zf{H:Hp}{a b:Yt}{o:HO}(h:H a=some o)(h':H b=none):a≠b:=by
 intro e;subst e;rw[h]at h';ext h'
def D6(h:Heap)(a:Addr)(items:Array Value):Prop:=∃o,h.get? a=some o/\o.cls=.type "tuple" /\ (∃n,o.data=.seq items n)/\o.dict=none
def D6.tup{h:Heap}{a:Yt}{items:Yp}(x:D6 h a items):IsTup h a items:=let⟨o,e,c,d,_⟩:=x;#[o,e,c,d]
def D6.lt{h:Heap}{a:Yt}{items:Yp}(x:D6 h a items):a<h.objs.size:=let⟨_,e,_⟩:=x;AH e
def D6.new(h:Heap)(items:Array Value):D6 (h.push {cls:=.type "tuple",data:=.seq items}) h.objs.size items:=#[_,AS _ rfl,rfl,#[_,rfl],rfl]
section
variable(P:Ym)(w:Yo)
def Ah(H:Hp)(h:Heap)(a:Yt):HO->Prop
 |.lst xs=>xs.length<=sizeLine/\∃(its:List Value)(n:Nat),zd xs its/\h.get? a=some {cls:=.type "list",data:=.seq its.toArray n}
 |.tup xs=>xs.length<=sizeLine/\∃its:List Value,zd xs its/\D6 h a its.toArray
 |.dK kvs=>kvs.length<=sizeLine/\(a==sysModules)=false/\∃vs,KV kvs vs/\h.DictOf (BY P w) a vs
 |.dT kvs=>kvs.length<=sizeLine/\(a==sysModules)=false/\∃xs:List (List Key×Addr×Value),
   Paired (λ(p:List Key×V) (q:List Key×Addr×Value)=>p.1=q.1/\H q.2.1=some (.tup (p.1.map kV))/\zh p.2 q.2.2) kvs xs /\
   ∃o es ep,h.get? a=some o/\o.ExactDict/\o.data=.dict es ep/\es.toList=xs.map (entryOfKey (tupleKind (BY P w)))/\(xs.map (·.1)).Nodup
 |.set S n=>h.SetOf (intKind P w) a S n
 |.ins C dx fs=>H dx=some (.own a)/\fs.length<=1000/\dx≠a/\h.get? a=some (PySem.W.instObj C dx) /\
   ∃mA,h.Ns1 dx mA/\(∀f,DG (fs.lookup f) (mA f))/\PySem.Within mA (fs.map (·.1))
 |.own _=>∃o,h.get? a=some o
 |.xd fs=>∃mA,h.Ns1 a mA/\∀f,DG (fs.lookup f) (mA f)
 |.rng lo hi=>∃t u v,h.get? a=some {cls:=.type "range",data:=.fields ([.int lo t,.int hi u,.int 1 v].toArray) }
 |.frz o u=>h.get? a=some o/\Ah H h a u
 |.tbl ps=>h.get? a=some {cls:=.none,data:=.fields ps}
 |.met f x=>h.get? a=some (PySem.W.methodObj (.ref f) (.ref x))
 |.ext φ=>φ h/\(∃o,h.get? a=some o)/\∀h1 h2:Heap,φ h1->(∀o,h1.get? a=some o->h2.get? a=some o)->φ h2
def HOk(H:Hp)(h:Heap):Prop:=∀a o,H a=some o->Ah P w H h a o
end
section
variable{P:Ym}{w:Yo}{H H':Hp}{h h':Heap}{a:Yt}{o:HO}
def Ah.lt(x:Ah P w H h a o):a<h.objs.size:=by
 cases o with
 |lst xs=>let(_,_,_,_,e):=x;calc AH e
 |tup xs=>let(_,_,_,p):=x;calc p.lt
 |dK kvs=>let(_,_,_,_,o,_,_,e,_):=x;calc AH e
 |dT kvs=>let(_,_,_,_,o,_,_,e,_):=x;calc AH e
 |set S n=>let(o,_,_,_,e,_):=x;calc AH e
 |ins C dx fs=>let(_,_,_,e,_):=x;calc AH e
 |own y=>let(_,e):=x;calc AH e
 |xd fs=>let(_,(_,_,_,e,_),_):=x;calc AH e
 |rng lo hi=>let(_,_,_,e):=x;calc AH e
 |frz ob u=>let(e,_):=x;calc AH e
 |tbl ps=>calc AH (show h.get? a=some _ from x)
 |met f y=>calc AH (show h.get? a=some _ from x)
 |ext φ=>let(_,(_,e),_):=x;calc AH e
def Paired.mapP{α β:Type}{F G:α->β->Prop}:∀{l₁:List α}{l₂:List β},Paired F l₁ l₂->(∀a b,F a b->G a b)->Paired G l₁ l₂
 |_,_,.nil,_=> .nil
 |_,_,.cons r t,f=> .cons (f _ _ r) (Paired.mapP t f)
def Ah.stay(x:Ah P w H h a o)(k:∀b u,(b=a\/H b=some (.own a))->h.get? b=some u->h'.get? b=some u)
  (ho:∀b,H b=some (.own a)->H' b=some (.own a)) (ht:∀b xs,H b=some (.tup xs)->H' b=some (.tup xs)):Ah P w H' h' a o:=by
 induction o with
 |lst xs=>let(z,its,n,r,e):=x;calc#[z,its,n,r,k _ _ (.inl rfl) e]
 |tup xs=>let(z,its,r,ob,e,c):=x;calc#[z,its,r,ob,k _ _ (.inl rfl) e,c]
 |dK kvs=>let(z,y,vs,r,ob,es,ep,e,c):=x;calc#[z,y,vs,r,ob,es,ep,k _ _ (.inl rfl) e,c]
 |dT kvs=>
  let(z,y,xs,r,ob,es,ep,e,c):=x;exact#[z,y,xs,Paired.mapP r λp q z=>#[z.1,ht _ _ z.2.1,z.2.2],ob,es,ep,k _ _ (.inl rfl) e,c]
 |set S n=>let(ob,es,ep,t,e,c):=x;calc#[ob,es,ep,t,k _ _ (.inl rfl) e,c]
 |ins C dx fs=>
  let(d,z,ne,e,mA,(od,es,ep,e2,c),r):=x;calc#[ho _ d,z,ne,k _ _ (.inl rfl) e,mA,#[od,es,ep,k _ _ (.inr d) e2,c],r]
 |own y=>let(ob,e):=x;calc#[ob,k _ _ (.inl rfl) e]
 |xd fs=>let(mA,(od,es,ep,e,c),r):=x;calc#[mA,#[od,es,ep,k _ _ (.inl rfl) e,c],r]
 |rng lo hi=>let(t,u,v,e):=x;calc#[t,u,v,k _ _ (.inl rfl) e]
 |frz ob u ih=>let(e,q):=x;calc#[k _ _ (.inl rfl) e,ih q]
 |tbl ps=>
  let e:h.get? a=some {cls:=.none,data:=.fields ps}:=x;show h'.get? a=some {cls:=.none,data:=.fields ps};calc k a _ (.inl rfl) e
 |met f y=>
  let e:h.get? a=some (PySem.W.methodObj (.ref f) (.ref y)):=x;show h'.get? a=some (PySem.W.methodObj (.ref f) (.ref y));calc k a _ (.inl rfl) e
 |ext φ=>let(p,(o,e),st):=x;calc#[st _ _ p λo q=>k _ _ (.inl rfl) q,#[o,k _ _ (.inl rfl) e],st]
def HOk.lt(x:HOk P w H h)(e:H a=some o):a<h.objs.size:=(x a o e).lt
def HOk.fresh(x:HOk P w H h)(e:h.objs.size<=a):H a=none:=by
 cases q:H a with
 |none=>rfl
 |some u=>calc absurd (Ay (x.lt q) e) (BS _)
def HOk.kept(x:HOk P w H h)(k:∀b u,h.get? b=some u->h'.get? b=some u):HOk P w H h':=λa o e=>
 (x a o e).stay (λb u _ q=>k b u q) (λ_ q=>q) λ_ _ q=>q
def HOk.laid(x:HOk P w H h)(k:∀b u,h.get? b=some u->h'.get? b=some u)(hp:h.objs.size<=a)(new:Ah P w (upd H a o) h' a o):HOk P w (upd H a o) h':=λb u e=>by
 let hn:=x.fresh hp;by_cases hb:b=a
 .subst hb;rw[zk]at e;ext e;exact new
 .rw[zT hb]at e;exact(x b u e).stay (λc v _ q=>k c v q) (λc q=>by rw[zT (zf q hn)];calc q) λc xs q=>by rw[zT (zf q hn)];calc q
end
def Rd(H:Hp)(a:Yt)(u:HO):Prop:=H a=some u\/∃o,H a=some (.frz o u)
def Rd.ok{P:Ym}{w:Yo}{H:Hp}{h:Heap}{a:Yt}{u:HO}(r:Rd H a u)(x:HOk P w H h):Ah P w H h a u:=by
 rcases r with r|⟨o,r⟩
 .exact x a u r
 .obtain⟨_,q⟩:=x a _ r;calc q
def Mut:Option HO->Prop
 |some (.lst _)=>True
 |some (.dK _)=>True
 |some (.dT _)=>True
 |some (.set _ _)=>True
 |some (.ins _ _ _)=>True
 |some (.ext _)=>True
 |_=>False
section
variable{P:Ym}{w:Yo}{H:Hp}{h h':Heap}{x e:Yt}{o':HO}
def HOk.write(ok:HOk P w H h)(mu:Mut (H x))(he:e=x\/H e=some (.own x))(k:∀b u,b≠e->h.get? b=some u->h'.get? b=some u)(heo:∃u,h'.get? e=some u)
  (new:Ah P w (upd H x o') h' x o'):HOk P w (upd H x o') h':=λb u q=>by
 let nown:∀c y,H c=some (.own y)->c≠x:=λc y r z=>by subst z;rw[r]at mu;exact mu
 let ntup:∀c xs,H c=some (.tup xs)->c≠x:=λc xs r z=>by subst z;rw[r]at mu;exact mu
 by_cases hb:b=x
 .subst hb;rw[zk]at q;ext q;exact new
 .rw[zT hb]at q;by_cases hbe:b=e
  .have q':H b=some (.own x):=by
    rcases he with z|z
    .exact absurd (hbe.trans z) hb
    .rw[hbe];exact z
   rw[q]at q';ext q';let(v,hv):=heo;exact#[v,by rw[hbe];calc hv]
  .refine(ok b u q).stay (λc v hc r=>k c v ?_ r) (λc r=>by rw[zT (nown c b r)];exact r) λc xs r=>by rw[zT (ntup c xs r)];exact r
   rcases hc with rfl|hc
   .exact hbe
   .rintro rfl;rcases he with z|z
    .exact nown c b hc z
    .rw[hc]at z;ext z;calc hb rfl
end
structure Un(fs ex:Yg)(H H':Hp)(h h':Heap):Prop where
 keep:∀b o,h.get? b=some o->H b=none->b∉fs->b∉ex->h'.get? b=some o
 slot:∀b o,h.get? b=some o->H b=none->b∈fs->b∉ex->∃sl,h'.get? b=some {o with slots:=sl}
 free:∀b o,h.get? b=some o->H b=none->b∉ex->H' b=none
 there:∀b o,h.get? b=some o->b∉ex->∃o',h'.get? b=some o'
 tups:∀b xs,H b=some (.tup xs)->H' b=some (.tup xs)
 frzs:∀b o u,H b=some (.frz o u)->H' b=some (.frz o u)
 tbls:∀b ps,H b=some (.tbl ps)->∃more,H' b=some (.tbl (ps++more))
section
variable{fs fs' ex ex':Yg}{H H1 H2:Hp}{h h1 h2 h':Heap}{a x e:Yt}{o:HO}
def Un.any(u:Un fs ex H H1 h h1){b:Yt}{ob:Obj}(q:h.get? b=some ob)(n:H b=none)(hx:b∉ex):∃sl,h1.get? b=some {ob with slots:=sl}:=by
 by_cases hb:b∈fs
 .exact u.slot b ob q n hb hx
 .exact#[ob.slots,u.keep b ob q n hb hx]
def Un.kept(k:∀b u,h.get? b=some u->h'.get? b=some u):Un fs ex H H h h' :=
 #[λb ob q _ _ _=>k b ob q,λb ob q _ _ _=>#[ob.slots,k b ob q],λ_ _ _ n _=>n,λb ob q _=>#[ob,k b ob q],λ_ _ q=>q,λ_ _ _ q=>q,λ_ ps q=>#[#[],by rw[q];simp]]
def Un.refl:Un fs ex H H h h:=Un.kept λ_ _ q=>q
def Un.laid(k:∀b u,h.get? b=some u->h'.get? b=some u)(hp:h.objs.size<=a)(hn:H a=none):Un fs ex H (upd H a o) h h' where
 keep:=λb u q _ _ _=>k b u q;slot:=λb u q _ _ _=>#[u.slots,k b u q];free:=λb u q n _=>by rw[zT (AZ (Ay (AH q) hp))];exact n
 there:=λb u q _=>#[u,k b u q];tups:=λb xs q=>by rw[zT (zf q hn)];exact q
 frzs:=λb u xs q=>by rw[zT (zf q hn)];exact q
 tbls:=λb ps q=>#[#[],by rw[zT (zf q hn),q];simp]
def Un.write(mu:Mut (H x))(he:e=x\/H e=some (.own x))(k:∀b u,b≠e->h.get? b=some u->h'.get? b=some u)(heo:∃u,h'.get? e=some u):Un fs ex H (upd H x o) h h':=by
 let hx:∀b,H b=none->b≠x:=λb n z=>by subst z;rw[n]at mu;exact mu
 let hb:∀b,H b=none->b≠e:=λb n z=>by
  subst z;rcases he with r|r
  .exact hx b n r
  .rw[n]at r;ext r
 let hm:∀b u,H b=some u->¬ Mut (some u)->b≠x:=λb u q nm z=>by subst z;rw[q]at mu;exact nm mu
 refine#[λb u q n _ _=>k b u (hb b n) q,λb u q n _ _=>#[u.slots,k b u (hb b n) q],λb u q n _=>by rw[zT (hx b n)];exact n,λb u q _=>?_,
  λb xs q=>by rw[zT (hm b _ q λz=>z)];exact q,λb u xs q=>by rw[zT (hm b _ q λz=>z)];exact q,λb ps q=>#[#[],by rw[zT (hm b _ q λz=>z),q];simp]]
 by_cases hbe:b=e
 .subst hbe;exact heo
 .exact#[u,k b u hbe q]
end
def trk(h:Heap)(H:Hp):List Addr:=(List.range h.objs.size).filter λa=>(H a).isSome
def En(h:Heap)(H:Hp):Heap:=PySem.W.hideAll h (trk h H)
def nV(h:Heap)(H:Hp):(En h H).objs.size=h.objs.size:=PySem.W.hideAll_size _ _
def bP{h:Heap}{H:Hp}{b:Yt}{o:Obj}(e:h.get? b=some o)(n:H b=none):(En h H).get? b=some o :=
 PySem.W.hideAll_get _ e λhm=>by
  let q:(H b).isSome=true:=(C3.mp hm).2;rw[n]at q;simp at q
def VM{h:Heap}{H:Hp}{b:Yt}{o:Obj}(e:(En h H).get? b=some o):h.get? b=some o/\H b=none:=by
 let e':h.get? b=some o:=PySem.W.of_hideAll (trk h H) e;calc#[e',?_];cases q:H b with
 |none=>rfl
 |some x=>
  let hm:b∈trk h H:=C3.mpr #[A9.mpr (AH e'),by simp[q]];let z:(En h H).get? b=none:=PySem.W.hideAll_none (trk h H) hm;rw[z]at e;ext e
def BMn(mg:Str->Option Value)(h:Heap):Prop:=∃bm ob,mg "__builtins__" = some (.ref bm)/\bm≠builtinsNs/\h.get? bm=some ob/\ob.cls=.type "module" /\ ob.dict=some builtinsNs/\ob.data=.plain
structure Mod(K:Yb)(mg:Yh)(base:Heap):Prop where
 kin:K.In base
 glob:base.Ns mainGlobals mg
 blt:∃mb,base.Ns builtinsNs mb/\∀x:Str,x ≠ "__name__" -> mb x=bootBuiltins x
 nolimit:base.NoLimit
 bmn:BMn mg base
structure Cx where
 prog:Program
 w:World
 K:PySem.W.Frag
 mg:Str->Option Value
 base:Heap
 A:Around
 N:List Str
 s₀:Shared
 H₀:Hp
 env:Env
 outer:List Env
 stack:List Env
 ex:List Addr
 fn:Str->Bool
 calm:Bool
 pn:List (Addr×Obj)
 xe:Value->Shared->Prop
def frs(l:List Env):List Addr:=l.filterMap (·.frame)
abbrev Cx.fs(X:Cx):List Addr:=frs X.outer
def Vis(sc:Y0)(x:Str):Prop:=sc.names.lookup x=some .local\/sc.names.lookup x=some .cell\/sc.names.lookup x=some .free
def Loc(sc:Y0)(x:Str):Prop:=sc.names.lookup x=some .local\/sc.names.lookup x=some .cell
def mE(env:Env)(h:Heap)(m:Yh)(x:Str)(u:Yu):Prop :=
 (env.kindOf x=some .local/\m x=some u)\/((env.kindOf x=some .cell\/env.kindOf x=some .free)/\∃c,env.cells.lookup x=some c/\h.IsCell c (some u))
structure Cx.Ok(X:Cx):Prop where
 mod:Mod X.K X.mg X.base
 kind:X.env.scope.kind=.function
 glob:X.env.globals=mainGlobals
 blt:X.env.builtins=builtinsNs
 above:⇑X.s₀<=X.env.locals
 inj:∀x y c,X.env.cells.lookup x=some c->X.env.cells.lookup y=some c->x=y
 has:∀x,(X.env.kindOf x=some .cell\/X.env.kindOf x=some .free)->∃c,X.env.cells.lookup x=some c
 cab:∀x c,X.fn x=true->X.env.cells.lookup x=some c->⇑X.s₀<=c
 hd:X.calm=true->X.A.handled=none
 frames:X.A.frames=some X.stack
 stk:X.stack=X.outer\/(X.stack=X.env::X.outer/\X.env.frame=some X.env.locals)
 exf:∀b∈X.ex,b≠X.env.locals/\∀x c,X.env.cells.lookup x=some c->c≠b
 bs:∀b o,X.base.get? b=some o->X.s₀.heap.get? b=some o/\X.H₀ b=none
 bsz:X.base.objs.size<=⇑X.s₀
 noex:∀b o,X.base.get? b=some o->b∉X.ex
 exfs:∀b∈X.ex,b∉X.fs
 funs:X.s₀.heap.FunFrames X.base X.outer
 frf:∀b∈X.fs,X.H₀ b=none
structure Inv(X:Cx)(zB:Yd)(Y:List (Option V))(H:Hp)(s:Yl):Prop where
 ok:X.Ok
 os:s.os=X.s₀.os
 bare:AllBare s.gens
 base:Un X.fs X.ex X.H₀ H X.s₀.heap s.heap
 loc:∃m,s.heap.Ns X.env.locals m/\∀(i:Nat)(x:Str)(v:V),X.N[i]?=some x->Y[i]?=some (some v)->Vis X.env.scope x->∃u,zh v u/\mE X.env s.heap m x u
 cell:∀x c,X.env.cells.lookup x=some c->∃v,s.heap.IsCell c v
 free:H X.env.locals=none
 freeC:∀x c,X.env.cells.lookup x=some c->H c=none
 pin:∀p∈X.pn++zB,s.heap.get? p.1=some p.2/\H p.1=none/\p.1≠X.env.locals/\p.1∉X.fs/\∀v,p.2.data≠.cell v
 hok:HOk X.prog X.w H s.heap
 len:Y.length=X.N.length
section
variable{X:Cx}{zB:Yd}{Y:List (Option V)}{H H':Hp}{s:Yl}{h':Heap}
def Cx.Ok.nofr(ok:X.Ok){b:Yt}{o:Obj}(e:X.base.get? b=some o):b∉X.fs:=λhb=>by
 have:=(ok.funs.mem hb).1;rw[e]at this;ext this
def Inv.bs(I:Inv X zB Y H s):∀b o,X.base.get? b=some o->s.heap.get? b=some o/\H b=none:=λb o e=>
 #[I.base.keep b o (I.ok.bs b o e).1 (I.ok.bs b o e).2 (I.ok.nofr e) (I.ok.noex b o e),I.base.free b o (I.ok.bs b o e).1 (I.ok.bs b o e).2 (I.ok.noex b o e)]
def Inv.bk(I:Inv X zB Y H s):∀b o,X.base.get? b=some o->s.heap.get? b=some o:=λb o e=>(I.bs b o e).1
def Inv.mod(I:Inv X zB Y H s):Mod X.K X.mg X.base:=I.ok.mod
def Inv.kIn(I:Inv X zB Y H s):X.K.In s.heap:=I.ok.mod.kin.keeps I.bk
def Inv.lt(I:Inv X zB Y H s):X.env.locals<⇑s:=let⟨_,hn,_⟩:=I.loc;hn.lt
def Inv.sz(I:Inv X zB Y H s):⇑X.s₀<=⇑s:=Ab I.ok.above (DW I.lt)
def Inv.nofs(I:Inv X zB Y H s){a:Yt}(h:⇑s<=a):a∉X.fs:=λhb=>by
 let(_,o,ho,_):=I.ok.funs.mem hb;calc absurd (Ay (AH ho) (Ab I.sz h)) (BS _)
def Inv.cne(I:Inv X zB Y H s):∀x c,X.env.cells.lookup x=some c->c≠X.env.locals:=λx c e z=>by
 let(v,o,ho,hd):=I.cell x c e;let(m,(o',es,ep,ho',hd',_),_):=I.loc;rw[z,ho']at ho;ext ho;rw[hd']at hd;ext hd
def Inv.funs(I:Inv X zB Y H s):s.heap.FunFrames X.base X.outer:=by
 let all:∀(l:List Env),(∀b∈frs l,b∈X.fs)->X.s₀.heap.FunFrames X.base l->s.heap.FunFrames X.base l:=by
  intro l;induction l with
  |nil=>intro _ _;trivial
  |cons env r ih=>
   intro hs hl;let(hk,(L,o,hf,hn,ho,hd),hr):=hl;let hL:L∈X.fs:=hs L (by erw[frs];rw[List.filterMap_cons,hf];calc AR);let(sl,e):=I.base.slot L o ho (I.ok.frf L hL) hL λz=>I.ok.exfs L z hL;exact#[hk,#[L,_,hf,hn,e,hd],ih (λb hb=>hs b (by erw[frs];rw[List.filterMap_cons,hf];calc Aa _ hb)) hr]
 calc all X.outer (λ_ hb=>hb) I.ok.funs
def Inv.stack(I:Inv X zB Y H s):s.heap.FunFrames X.base X.stack:=by
 rcases I.ok.stk with e|⟨e,hf⟩
 .rw[e];exact I.funs
 .rw[e];let(m,hn,_):=I.loc;calc .cons (by rw[I.ok.kind];decide) hf hn ?_ I.funs;calc Heap.get?_none_of_le (Ab I.ok.bsz I.ok.above)
def Inv.stkSub(I:Inv X zB Y H s):∀b∈frs X.stack,b∈X.env.locals::X.fs:=λb hb=>by
 rcases I.ok.stk with e|⟨e,hf⟩
 .rw[e]at hb;exact Aa _ hb
 .rw[e]at hb;erw[frs]at hb;rw[List.filterMap_cons,hf]at hb;calc hb
def Inv.stkFree(I:Inv X zB Y H s):∀b∈frs X.stack,H b=none:=λb hb=>by
 rcases AK.mp (I.stkSub b hb)with e|hb
 .rw[e];exact I.free
 .obtain⟨_,o,ho,_⟩:=I.ok.funs.mem hb;calc I.base.free b o ho (I.ok.frf b hb) λz=>I.ok.exfs b z hb
def Inv.step{g':Array GenState}{t':Nat}{d':Drawn}{ch:Yg}(I:Inv X zB Y H s)
  (hch:∀b∈ch,(b∈X.ex\/⇑X.s₀<=b)/\b≠X.env.locals/\(∀x c,X.env.cells.lookup x=some c->c≠b)/\∀p∈X.pn++zB,p.1≠b)
  (keep:∀b o,b≠X.env.locals->b∉X.fs->b∉ch->s.heap.get? b=some o->H b=none->h'.get? b=some o)
  (slot:∀b o,b≠X.env.locals->b∈X.fs->b∉ch->s.heap.get? b=some o->H b=none->∃sl,h'.get? b=some {o with slots:=sl}) (free:∀b o,b∉ch->s.heap.get? b=some o->H b=none->H' b=none)
  (there:∀b o,b∉ch->s.heap.get? b=some o->∃o',h'.get? b=some o')
  (tups:∀b xs,H b=some (.tup xs)->H' b=some (.tup xs)) (frzs:∀b o u,H b=some (.frz o u)->H' b=some (.frz o u)) (tbls:∀b ps,H b=some (.tbl ps)->∃more,H' b=some (.tbl (ps++more)))
  (ns:∀m,s.heap.Ns X.env.locals m->h'.Ns X.env.locals m) (hok:HOk X.prog X.w H' h') (hg:AllBare g'):
  Inv X zB Y H' {s with heap:=h',gens:=g',drawn:=d',toks:=t' }:=by
 let neL:∀b o,X.s₀.heap.get? b=some o->b≠X.env.locals:=λb o e=>AZ (Ay (AH e) I.ok.above);let neC:∀b o,X.s₀.heap.get? b=some o->b∉X.ex->b∉ch:=λb o e hx hb=>by
  rcases(hch b hb).1 with z|z
  .exact hx z
  .exact absurd (Ay (AH e) z) (BS _)
 let cellK:∀x c,X.env.cells.lookup x=some c->∀v,s.heap.IsCell c v->h'.IsCell c v:=λx c e v ⟨o,ho,hd⟩=>by
  let nch:c∉ch:=λz=>(hch c z).2.2.1 x c e rfl;by_cases hc:c∈X.fs
  .obtain⟨sl,q⟩:=slot c o (I.cne x c e) hc nch ho (I.freeC x c e);exact#[_,q,hd]
  .exact#[o,keep c o (I.cne x c e) hc nch ho (I.freeC x c e),hd]
 refine#[I.ok,I.os,hg,#[λb o e n hb hx=>?_,λb o e n hb hx=>?_,λb o e n hx=>?_,λb o e hx=>?_,λb xs e=>tups b xs (I.base.tups b xs e),λb o xs e=>frzs b o xs (I.base.frzs b o xs e),λb ps e=>?_],?_,λx c e=>?_,?_,λx c e=>?_,λp hp=>?_,hok,I.len]
 .exact keep b o (neL b o e) hb (neC b o e hx) (I.base.keep b o e n hb hx) (I.base.free b o e n hx)
 .obtain⟨sl,e1⟩:=I.base.slot b o e n hb hx;let(sl',e2):=slot b _ (neL b o e) hb (neC b o e hx) e1 (I.base.free b o e n hx);exact#[sl',e2]
 .obtain⟨o',e1⟩:=I.base.there b o e hx;exact free b o' (neC b o e hx) e1 (I.base.free b o e n hx)
 .obtain⟨o',e1⟩:=I.base.there b o e hx;exact there b o' (neC b o e hx) e1
 .obtain⟨m1,e1⟩:=I.base.tbls b ps e;let(m2,e2):=tbls b _ e1;exact#[m1++m2,by rw[e2,Array.append_assoc]]
 .obtain⟨m,hn,hl⟩:=I.loc;refine#[m,ns m hn,λi x v e1 e2 e3=>?_];let(u,r,l):=hl i x v e1 e2 e3;refine#[u,r,?_];rcases l with l|⟨k,c,e,z⟩
  .exact .inl l
  .exact .inr #[k,c,e,cellK x c e _ z]
 .obtain⟨v,z⟩:=I.cell x c e;exact#[v,cellK x c e v z]
 .obtain⟨m,⟨o,_,_,ho,_⟩,_⟩:=I.loc;exact free _ o (λz=>(hch _ z).2.1 rfl) ho I.free
 .obtain⟨v,o,ho,hd⟩:=I.cell x c e;exact free c o (λz=>(hch c z).2.2.1 x c e rfl) ho (I.freeC x c e)
 .obtain⟨e,n,ne,nf,d⟩:=I.pin p hp;let nch:p.1∉ch:=λz=>(hch p.1 z).2.2.2 p hp rfl;calc#[keep p.1 p.2 ne nf nch e n,free p.1 p.2 nch e n,ne,nf,d]
def Inv.un{t':Nat}(I:Inv X zB Y H s)(u:Un X.fs [] H H' s.heap h')(hok:HOk X.prog X.w H' h'):Inv X zB Y H' {s with heap:=h',toks:=t' }:=by
 let(m,(o,es,ep,ho,r),_):=id I.loc;let(sl,hL):=u.any ho I.free (by simp);exact I.step (g':=s.gens) (d':=s.drawn) (ch:=[]) (λ_ z=>nomatch z) (λb o _ hb _ e n=>u.keep b o e n hb (by simp)) (λb o _ hb _ e n=>u.slot b o e n hb (by simp)) (λb o _ e n=>u.free b o e n (by simp)) (λb o _ e=>u.there b o e (by simp)) u.tups u.frzs u.tbls (λm' hm=>by
  let(o',es',ep',ho',r'):=hm;rw[ho]at ho';ext ho';calc#[_,es',ep',hL,r']) hok I.bare
def Inv.call{g':Array GenState}{t':Nat}{d':Drawn}{ch:Yg}(I:Inv X zB Y H s)(u:Un (frs X.stack) ch H H' s.heap h')(hok:HOk X.prog X.w H' h')(hg:AllBare g')
  (hch:∀b∈ch,(b∈X.ex\/⇑X.s₀<=b)/\b≠X.env.locals/\(∀x c,X.env.cells.lookup x=some c->c≠b)/\∀p∈X.pn++zB,p.1≠b):
  Inv X zB Y H' {s with heap:=h',gens:=g',drawn:=d',toks:=t' }:=by
 let(m,(o,es,ep,ho,r),_):=id I.loc;let(sl,hL):=u.any ho I.free λz=>(hch _ z).2.1 rfl;exact I.step (ch:=ch) hch (λb o hL hb hc e n=>u.keep b o e n (λz=>(AK.mp (I.stkSub b z)).elim hL hb) hc) (λb o _ _ hc e n=>u.any e n hc) (λb o hc e n=>u.free b o e n hc) (λb o hc e=>u.there b o e hc) u.tups u.frzs u.tbls (λm' hm=>by
  let(o',es',ep',ho',r'):=hm;rw[ho]at ho';ext ho';calc#[_,es',ep',hL,r']) hok hg
def Inv.turned{t':Nat}{it:Yt}(I:Inv X zB Y H s)(k:∀b o,b≠it->s.heap.get? b=some o->h'.get? b=some o)(hn:H it=none)(hL:it≠X.env.locals)
  (h1:it∈X.ex\/⇑X.s₀<=it) (h2:∀x c,X.env.cells.lookup x=some c->c≠it) (h3:∀p∈X.pn++zB,p.1≠it):Inv X zB Y H {s with heap:=h',toks:=t' }:=by
 let nit:∀b u,H b=some u->b≠it:=λb u e z=>by rw[z,hn]at e;ext e
 refine I.step (g':=s.gens) (d':=s.drawn) (ch:=[it]) (λb hb=>?_) (λb o _ _ hc e _=>k b o (λz=>hc (by simp[z])) e) (λb o _ _ hc e _=>#[o.slots,k b o (λz=>hc (by simp[z])) e]) (λ_ _ _ _ n=>n)
  (λb o hc e=>#[o,k b o (λz=>hc (by simp[z])) e]) (λ_ _ e=>e) (λ_ _ _ e=>e) (λb ps e=>#[#[],by rw[e];simp]) (λm hm=>?_) (λb u e=>?_) I.bare
 .have e:b=it:=by simpa using hb
  subst e;exact#[h1,hL,h2,h3]
 .obtain⟨o,es,ep,ho,r⟩:=hm;exact#[o,es,ep,k _ o (Ne.symm hL) ho,r]
 .refine(I.hok b u e).stay (λc v hc q=>k c v ?_ q) (λ_ q=>q) λ_ _ q=>q;rcases hc with z|z
  .rw[z];exact nit b u e
  .exact nit c _ z
def Inv.tok(I:Inv X zB Y H s)(t:Nat):Inv X zB Y H {s with toks:=t}:=I.un (h':=s.heap) (t':=t) Un.refl I.hok
def Inv.kept{t':Nat}(I:Inv X zB Y H s)(k:∀b u,s.heap.get? b=some u->h'.get? b=some u):Inv X zB Y H {s with heap:=h',toks:=t' }:=I.un (Un.kept k) (I.hok.kept k)
def Inv.laid{a:Yt}{o:HO}{t':Nat}(I:Inv X zB Y H s)(k:∀b u,s.heap.get? b=some u->h'.get? b=some u)(hp:⇑s<=a)(new:Ah X.prog X.w (upd H a o) h' a o):
  Inv X zB Y (upd H a o) {s with heap:=h',toks:=t' }:=I.un (Un.laid k hp (I.hok.fresh hp)) (I.hok.laid k hp new)
def Inv.write{x e:Yt}{o:HO}{t':Nat}(I:Inv X zB Y H s)(mu:Mut (H x))(he:e=x\/H e=some (.own x))(k:∀b u,b≠e->s.heap.get? b=some u->h'.get? b=some u)(heo:∃u,h'.get? e=some u)
  (new:Ah X.prog X.w (upd H x o) h' x o):Inv X zB Y (upd H x o) {s with heap:=h',toks:=t' }:=I.un (Un.write mu he k heo) (I.hok.write mu he k heo new)
def Inv.weak{Y':List (Option V)}(I:Inv X zB Y H s)(hl:Y'.length=Y.length)(w:∀(i:Nat) v,Y'[i]?=some (some v)->Y[i]?=some (some v)):Inv X zB Y' H s :=
 #[I.ok,I.os,I.bare,I.base,let⟨m,hn,hl'⟩:=I.loc;#[m,hn,λi x v e1 e2 e3=>hl' i x v e1 (w i v e2) e3],I.cell,I.free,I.freeC,I.pin,I.hok,hl.trans I.len]
def Inv.pins_of{pins':Yd}(I:Inv X zB Y H s)(h:∀p∈pins',s.heap.get? p.1=some p.2/\H p.1=none/\p.1≠X.env.locals/\p.1∉X.fs/\∀v,p.2.data≠.cell v):Inv X pins' Y H s :=
 #[I.ok,I.os,I.bare,I.base,I.loc,I.cell,I.free,I.freeC,λp hp=>(Ae.mp hp).elim (λz=>I.pin p (CI _ z)) (h p),I.hok,I.len]
def Oz{N:Yk}(hN:N.Nodup){i j:Nat}{x:Str}(a:N[i]?=some x)(b:N[j]?=some x):i=j:=by
 let(h1,e1):=AI.mp a;let(h2,e2):=AI.mp b;calc(List.getElem_inj hN).mp (e1.trans e2.symm)
def bY{M:Model}{A:Yn}{E:Yc}{i:Nat}{x:Str}{v:V}{u:Yu}{Q:Unit->Shared->Prop}(I:Inv X zB Y H s)(hN:X.N.Nodup)(hi:X.N[i]?=some x)(hx:Loc X.env.scope x)(r:zh v u)
  (h:∀s',Inv X zB (Y.set i (some v)) H s'->(∃a,Heap.SameBut a s.heap s'.heap/\(a=X.env.locals\/X.env.cells.lookup x=some a))->Q Unit.unit s') (hf:X.fn x=true\/X.env.scope.names.lookup x=some .local:=by first|exact .inl rfl|exact .inr rfl|assumption):wpAny M A (storeName X.env x u) Q E s:=by
 let(m,hn,hl):=id I.loc;let hcls:(X.env.scope.kind == .class||(X.env.scope.kind == .module&&X.env.locals != X.env.globals))=false:=by rw[I.ok.kind];rfl
 let hiσ:i<Y.length:=by rw[I.len];exact(AI.mp hi).1
 let cne:=I.cne;let tracked:∀{a:Yt}{h':Heap},(∃o,s.heap.get? a=some o/\H a=none)->Heap.SameBut a s.heap h'->HOk X.prog X.w H h':=λ{a h'} ha hs b ob e=>by
  let(_,_,hfree):=ha;refine(I.hok b ob e).stay (λc w' hc q=>(hs.2 c ?_).trans q) (λ_ q=>q) λ_ _ q=>q;rintro rfl;rcases hc with rfl|hc
  .rw[hfree]at e;ext e
  .rw[hfree]at hc;ext hc
 rcases hx with hk|hk
 .refine wpAny_storeName_local hk hn (λh' hn' hs=>?_) hcls;let(oL,_,_,hoL,_):=id hn;refine h _ #[I.ok,I.os,I.bare,#[λb o e n hb hx=>?_,λb o e n hb hx=>?_,I.base.free,λb o e hx=>?_,I.base.tups,I.base.frzs,I.base.tbls],#[_,hn',λj y v' e1 e2 e3=>?_],λy c e=>?_,I.free,I.freeC,λp hp=>?_,tracked #[oL,hoL,I.free] hs,by simpa using I.len] #[_,hs,.inl rfl]
  .exact(hs.2 b (AZ (Ay (AH e) I.ok.above))).trans (I.base.keep b o e n hb hx)
  .obtain⟨sl,e1⟩:=I.base.slot b o e n hb hx;exact#[sl,(hs.2 b (AZ (Ay (AH e) I.ok.above))).trans e1]
  .obtain⟨o',e1⟩:=I.base.there b o e hx;exact#[o',(hs.2 b (AZ (Ay (AH e) I.ok.above))).trans e1]
  .by_cases hj:j=i
   .subst hj;rw[hi]at e1;ext e1;rw[B3 hiσ]at e2;ext e2;exact#[u,r,.inl #[hk,by simp]]
   .rw[Ag (Ne.symm hj)]at e2;let(u',r',q):=hl j y v' e1 e2 e3;refine#[u',r',?_];rcases q with⟨k,e⟩|⟨k,c,e,z⟩
    .refine .inl #[k,?_];have:y≠x:=λe=>hj (Oz hN e1 (e▸hi));simp[this,e]
    .exact .inr #[k,c,e,z.sameBut hs (cne y c e)]
  .obtain⟨w',z⟩:=I.cell y c e;exact#[w',z.sameBut hs (cne y c e)]
  .obtain⟨e,n,ne,nf,d⟩:=I.pin p hp;exact#[(hs.2 p.1 ne).trans e,n,ne,nf,d]
 .have hfn:X.fn x=true:=by
   rcases hf with z|z
   .exact z
   .rw[z]at hk;ext hk
  let(c,hc):=I.ok.has x (.inl hk);let(w',z):=I.cell x c hc;refine wpAny_storeName_cell I.ok.kind hk hc z (λh' hc' hs=>?_);let(oc,hoc,hocd):=id z;refine h {s with heap:=h' } #[I.ok,I.os,I.bare,#[λb o e n hb hx=>?_,λb o e n hb hx=>?_,I.base.free,λb o e hx=>?_,I.base.tups,I.base.frzs,I.base.tbls],#[m,hn.sameBut hs (Ne.symm (cne x c hc)),λj y v' e1 e2 e3=>?_],λy c' e=>?_,I.free,I.freeC,λp hp=>?_,tracked #[oc,hoc,I.freeC x c hc] hs,by simpa using I.len] #[c,hs,.inr hc]
  .exact(hs.2 b (AZ (Ay (AH e) (I.ok.cab x c hfn hc)))).trans (I.base.keep b o e n hb hx)
  .obtain⟨sl,e1⟩:=I.base.slot b o e n hb hx;exact#[sl,(hs.2 b (AZ (Ay (AH e) (I.ok.cab x c hfn hc)))).trans e1]
  .obtain⟨o',e1⟩:=I.base.there b o e hx;exact#[o',(hs.2 b (AZ (Ay (AH e) (I.ok.cab x c hfn hc)))).trans e1]
  .by_cases hj:j=i
   .subst hj;rw[hi]at e1;ext e1;rw[B3 hiσ]at e2;ext e2;exact#[u,r,.inr #[.inl hk,c,hc,hc']]
   .rw[Ag (Ne.symm hj)]at e2;let(u',r',q):=hl j y v' e1 e2 e3;refine#[u',r',?_];rcases q with q|⟨k,c',e,z'⟩
    .exact .inl q
    .refine .inr #[k,c',e,z'.sameBut hs ?_];rintro rfl;exact hj (Oz hN e1 (I.ok.inj _ _ _ e hc▸hi))
  .by_cases hcc:c'=c
   .subst hcc;exact#[_,hc']
   .obtain⟨w2,z2⟩:=I.cell y c' e;exact#[w2,z2.sameBut hs hcc]
  .obtain⟨e,n,ne,nf,d⟩:=I.pin p hp;calc#[(hs.2 p.1 ?_).trans e,n,ne,nf,d];intro q;rw[q,hoc]at e;let q':oc=p.2:=Be e;calc d w' (by rw[<-q'];calc hocd)
def UK{M:Model}{A:Yn}{E:Yc}{i:Nat}{x:Str}{v:V}{u:Yu}{Q:Unit->Shared->Prop}(I:Inv X zB Y H s)(hN:X.N.Nodup)(hi:X.N[i]?=some x)(hx:Loc X.env.scope x)(r:zh v u)
  (h:∀s',Inv X zB (Y.set i (some v)) H s'->Q Unit.unit s') (hf:X.fn x=true\/X.env.scope.names.lookup x=some .local:=by first|exact .inl rfl|exact .inr rfl|assumption):wpAny M A (storeName X.env x u) Q E s :=
 bY I hN hi hx r (λs' I' _=>h s' I') hf
def Inv.call'{s':Yl}{ch:Yg}(I:Inv X zB Y H s)(ho:s'.os=s.os)(u:Un (frs X.stack) ch H H' s.heap s'.heap)(hok:HOk X.prog X.w H' s'.heap)(hg:AllBare s'.gens)
  (hch:∀b∈ch,(b∈X.ex\/⇑X.s₀<=b)/\b≠X.env.locals/\(∀x c,X.env.cells.lookup x=some c->c≠b)/\∀p∈X.pn++zB,p.1≠b):Inv X zB Y H' s':=by
 let(h',g',d',t',o'):=s';let e:o'=s.os:=ho;subst e;calc I.call (g':=g') (t':=t') (d':=d') u hok hg hch
end
abbrev XK:=Value->Option Addr->Hp->Prop
abbrev St:=List (Option V)
abbrev VK:=V->Hp->Prop
abbrev TE:=St->Hp->VK->Prop
abbrev TT:=St->Hp->(Bool->Hp->Prop)->Prop
abbrev TA:=St->Hp->(List V->Hp->Prop)->Prop
structure Ends where
 nx:St->Hp->Prop
 rt:VK
 bk:St->Hp->Prop:=λ_ _=>False
 ct:St->Hp->Prop:=λ_ _=>False
abbrev TS:=Ends->St->Hp->Prop
def EP(X:Cx)(zB:Yd)(Y:St)(Q:VK)(u:Yu)(s':Yl):Prop:=∃v H',Inv X zB Y H' s'/\zh v u/\Q v H'
def TP(X:Cx)(zB:Yd)(Y:St)(Q:Bool->Hp->Prop)(b:Bool)(s':Yl):Prop:=∃H',Inv X zB Y H' s'/\Q b H'
def AP(X:Cx)(zB:Yd)(Y:St)(Q:List V->Hp->Prop)(us:Yf)(s':Yl):Prop:=∃vs H',Inv X zB Y H' s'/\zd vs us/\Q vs H'
def SP(X:Cx)(zB:Yd)(D:Ends)(f:Flow)(s':Yl):Prop :=
 match f with
 |.next=>∃Y' H',Inv X zB Y' H' s'/\D.nx Y' H'
 |.brk=>∃Y' H',Inv X zB Y' H' s'/\D.bk Y' H'
 |.cont=>∃Y' H',Inv X zB Y' H' s'/\D.ct Y' H'
 |.ret u=>∃v Y' H',Inv X zB Y' H' s'/\zh v u/\D.rt v H'
def PE(X:Cx)(e:Expr)(t:TE):Prop :=
 ∀(zB:Yd)(s:Yl)(Y:St)(H:Hp)(Q:VK),Inv X zB Y H s->t Y H Q->wpAny (model X.prog X.w) X.A (eval e X.env) (EP X zB Y Q) X.xe s
def PT(X:Cx)(e:Expr)(t:TT):Prop :=
 ∀(zB:Yd)(s:Yl)(Y:St)(H:Hp)(Q:Bool->Hp->Prop),Inv X zB Y H s->t Y H Q->wpAny (model X.prog X.w) X.A (isTrue e X.env (eval e X.env)) (TP X zB Y Q) X.xe s
def PW(X:Cx)(e:Expr)(t:TT):Prop :=
 ∀(whole:Sem Value)(zB:Yd)(s:Yl)(Y:St)(H:Hp)(Q:Bool->Hp->Prop),Inv X zB Y H s->t Y H Q->wpAny (model X.prog X.w) X.A (isTrue e X.env whole) (TP X zB Y Q) X.xe s
def PW.pt{X:Cx}{e:Expr}{t:TT}(h:PW X e t):PT X e t:=h _
def PA(X:Cx)(es:Yi)(t:TA):Prop :=
 ∀(pos:Pos)(zB:Yd)(s:Yl)(Y:St)(H:Hp)(Q:List V->Hp->Prop),Inv X zB Y H s->t Y H Q->wpAny (model X.prog X.w) X.A (spliced (backTo pos (starEach es X.env))) (AP X zB Y Q) X.xe s
def PS(X:Cx)(st:Stmt)(t:TS):Prop :=
 ∀(zB:Yd)(s:Yl)(Y:St)(H:Hp)(D:Ends),Inv X zB Y H s->t D Y H->wpAny (model X.prog X.w) X.A (exec st X.env) (SP X zB D) X.xe s
def PSs(X:Cx)(st:Yy)(t:TS):Prop :=
 ∀(zB:Yd)(s:Yl)(Y:St)(H:Hp)(D:Ends),Inv X zB Y H s->t D Y H->wpAny (model X.prog X.w) X.A (execs st X.env) (SP X zB D) X.xe s
def thn{α:Type}{t:Sem α}{Q Q':α->Shared->Prop}{M:Model}{A:Yn}{E:Yc}{s:Yl}(h:wpAny M A t Q E s)(hQ:∀a s,Q a s->Q' a s):wpAny M A t Q' E s:=AQ h hQ λ_ _ x=>x
section
variable{X:Cx}
def MD(i:Nat):TE:=λY H Q=>∃v,Y[i]?=some (some v)/\Q v H
def tC(v:V):TE:=λ_ H Q=>Q v H
def UO{i:Nat}{x:Str}{pos:Pos}(hN:X.N[i]?=some x)(hv:Vis X.env.scope x)(hd:(x==("__debug__" : Str))=false:=by decide)(hcd:(x==("__classdict__" : Str))=false:=by decide):PE X (.Name x pos) (MD i):=by
 intro zB s Y H Q I h;let(v,e,h):=h;let(m,hn,hl):=I.loc;let(u,r,l):=hl i x v hN e hv;let fin:EP X zB Y Q u s:=#[v,H,I,r,h];rcases l with⟨hk,hm⟩|⟨hk,c,hc,hcell⟩
 .exact wpAny_Name (wpAny_loadName_local I.ok.kind hk hn hm fin) hd
 .rcases hk with hk|hk
  .exact wpAny_Name (wpAny_loadName_cell I.ok.kind hk hc hcell fin) hd
  .exact wpAny_Name (wpAny_loadName_free I.ok.kind hk hc hcell fin hcd) hd
def Wq{i j pos}:PE X (.Constant (.int i) j pos) (tC (.int i)):=λ_ _ _ H _ I h=>wpAny_Constant_int #[.int i,H,I.tok _,#[_,rfl],h]
def jR{b j pos}:PE X (.Constant (.bool b) j pos) (tC (.bl b)):=λ_ _ _ H _ I h=>Constant_bool #[.bl b,H,I,rfl,h]
def Xi{j pos}:PE X (.Constant .none j pos) (tC .non):=λ_ _ _ H _ I h=>Constant_none #[.non,H,I,rfl,h]
def lX{x j pos}:PE X (.Constant (.str x) j pos) (tC (.str x)):=λ_ _ _ H _ I h=>Calls.Constant_str #[.str x,H,I.tok _,#[_,rfl],h]
def Gl(X:Cx)(x:Str):Prop:=X.env.kindOf x=some .globalImplicit
def SN{E:Yc}{zB:Yd}{s:Yl}{Y:St}{H:Hp}{x:Str}{u:Yu}{pos:Pos}{Q:Yc}(I:Inv X zB Y H s)(hg:Gl X x)(hm:X.mg x=some u)(h:Q u s)
  (hd:(x==("__debug__" : Str))=false:=by decide):wpAny (model X.prog X.w) X.A (eval (.Name x pos) X.env) Q E s :=
 Calls.Name_function_global I.ok.kind hg (Calls.loadGlobal_global (by rw[I.ok.glob];calc I.mod.glob.keeps I.bk) hm h) hd
def Gf{E:Yc}{zB:Yd}{s:Yl}{Y:St}{H:Hp}{x:Str}{u:Yu}{pos:Pos}{Q:Yc}(I:Inv X zB Y H s)(hg:Gl X x)(hm:X.mg x=none)(hv:bootBuiltins x=some u)(h:Q u s)
  (hn:x ≠ "__name__" := by decide) (hd:(x==("__debug__" : Str))=false:=by decide):wpAny (model X.prog X.w) X.A (eval (.Name x pos) X.env) Q E s:=by
 let(mb,h1,h2):=I.mod.blt;calc Calls.Name_function_global I.ok.kind hg (Calls.loadGlobal_builtin (by rw[I.ok.glob];calc I.mod.glob.keeps I.bk) hm (by rw[I.ok.blt];calc h1.keeps I.bk) ((h2 x hn).trans hv) h) hd
def lR{x:Str}{v:V}{u:Value}{pos:Pos}(hg:Gl X x)(hm:X.mg x=none)(hv:bootBuiltins x=some u)(r:zh v u)(hn:x ≠ "__name__" := by decide)(hd:(x==("__debug__" : Str))=false:=by decide):PE X (.Name x pos) (tC v) :=
 λ_ _ _ H _ I h=>Gf I hg hm hv #[v,H,I,r,h] hn hd
variable{a b:Expr}{ta tb:TE}{pos:Pos}
def PC(X:Cx)(op:CmpOp)(a b:Expr)(t:TE):Prop :=
 ∀(zB:Yd)(s:Yl)(Y:St)(H:Hp)(Q:VK),Inv X zB Y H s->t Y H Q ->
  wpAny (model X.prog X.w) X.A (eval a X.env) (λv s₁=>wpAny (model X.prog X.w) X.A (eval b X.env) (λu s₂=>wpAny (model X.prog X.w) X.A (compareOp op v u) (EP X zB Y Q) X.xe s₂) X.xe s₁) X.xe s
def tB(t:TE):TT:=λY H Q=>t Y H λx H1=>∃c,x=.bl c/\Q c H1
def W8{op:CmpOp}{t:TE}(h:PC X op a b t)(h1:behindInMarks op b=false:=by first|exact nobehind _ () ()|rfl):PE X (.Compare a [op] [b] pos) t:=λzB s Y H Q I hw=>wpAny_Compare1 (h zB s Y H Q I hw) h1
def UY{op:CmpOp}{t:TE}(h:PC X op a b t)(h1:behindInMarks op b=false:=by first|exact nobehind _ () ()|rfl):PT X (.Compare a [op] [b] pos) (tB t):=by
 intro zB s Y H Q I hw;refine wpAny_isTrue_Compare1 (thn (h zB s Y H _ I hw) λv s1 h1=>thn h1 λu s2 h2=>thn h2 λc s3 ⟨x,H1,I1,r1,q1⟩=>?_) h1;let(d,rfl,q):=q1;ext r1;calc EO #[H1,I1,q]
def VX{e:Expr}{t:TE}(h:PE X e t)(he:∀whole,isTrue e X.env whole=(do let v <- whole;standAt e.pos;holding [v] (truthy v)):=by intro _;rfl):PT X e (tB t):=by
 intro zB s Y H Q I hw;refine isTrue_plain (thn (h zB s Y H _ I hw) λv s1 ⟨x,H1,I1,r1,q1⟩=>?_) (he _);let(d,rfl,q):=q1;ext r1;calc EO #[H1,I1,q]
variable{tA tB':TT}{rest:Yi}
def Uj(t u:TT):TT:=λY H Q=>t Y H λc H1=>if c=true then u Y H1 Q else Q false H1
def tOr(t u:TT):TT:=λY H Q=>t Y H λc H1=>if c=true then Q true H1 else u Y H1 Q
def rB(t:TT):TT:=λY H Q=>t Y H λc H1=>Q (!c) H1
def Vi(ha:PT X a tA):PW X (.BoolOp .And [a] pos) tA:=by
 intro wh zB s Y H Q I h;refine isTrue_and (thn (ha zB s Y H Q I h) λc s1 e=>?_);cases c with
 |true=>calc isTrue_and_nil e
 |false=>calc e
def Wb(ha:PT X a tA):PW X (.BoolOp .Or [a] pos) tA:=by
 intro wh zB s Y H Q I h;refine isTrue_or (thn (ha zB s Y H Q I h) λc s1 e=>?_);cases c with
 |false=>calc isTrue_or_nil e
 |true=>calc e
def dA(ha:PT X a tA)(hb:PW X (.BoolOp .And (b::rest) pos) tB'):PW X (.BoolOp .And (a::b::rest) pos) (Uj tA tB'):=by
 intro wh zB s Y H Q I h;refine isTrue_and (thn (ha zB s Y H _ I h) λc s1 ⟨H1,I1,q1⟩=>?_);cases c with
 |true=>calc hb wh zB s1 Y H1 Q I1 q1
 |false=>calc#[H1,I1,q1]
def Zp(ha:PT X a tA)(hb:PW X (.BoolOp .Or (b::rest) pos) tB'):PW X (.BoolOp .Or (a::b::rest) pos) (tOr tA tB'):=by
 intro wh zB s Y H Q I h;refine isTrue_or (thn (ha zB s Y H _ I h) λc s1 ⟨H1,I1,q1⟩=>?_);cases c with
 |true=>calc#[H1,I1,q1]
 |false=>calc hb wh zB s1 Y H1 Q I1 q1
def Z3(ha:PT X a tA):PT X (.UnaryOp .Not a pos) (rB tA):=by
 intro zB s Y H Q I h;calc isTrue_not (ha zB s Y H (λc H1=>Q (!c) H1) I h)
def cR(ta tb:TE):TE:=λY H Q=>ta Y H λx H1=>∃c,x=.bl c/\if c=true then tb Y H1 Q else Q (.bl false) H1
def nM(ta:TE):TE:=λY H Q=>ta Y H λx H1=>∃c,x=.bl c/\Q (.bl (!c)) H1
def lG{op}{t:TE}(h:PE X a t):PE X (.BoolOp op [a] pos) t:=λzB s Y H Q I hw=>BoolOp_one (h zB s Y H Q I hw)
def V8(ha:PE X a ta)(hb:PE X (.BoolOp .And (b::rest) pos) tb):PE X (.BoolOp .And (a::b::rest) pos) (cR ta tb):=by
 intro zB s Y H Q I h;refine BoolOp_and (thn (ha zB s Y H _ I h) λv s1 ⟨x,H1,I1,r1,q1⟩=>?_);let(c,rfl,q1):=q1;ext r1;calc EO ?_;cases c with
 |true=>calc hb zB s1 Y H1 Q I1 q1
 |false=>calc#[.bl false,H1,I1,rfl,q1]
def mW(ha:PE X a ta):PE X (.UnaryOp .Not a pos) (nM ta):=by
 intro zB s Y H Q I h;refine UnaryOp_ (thn (ha zB s Y H _ I h) λv s1 ⟨x,H1,I1,r1,q1⟩=>?_);let(c,rfl,q1):=q1;ext r1;calc not_of (EO #[.bl (!c),H1,I1,rfl,q1])
def tIf(t:TT)(ta tb:TE):TE:=λY H Q=>t Y H λc H1=>if c=true then ta Y H1 Q else tb Y H1 Q
def mY{c:Expr}(hc:PT X c tA)(ha:PE X a ta)(hb:PE X b tb):PE X (.IfExp c a b pos) (tIf tA ta tb):=by
 intro zB s Y H Q I h;refine wpAny_IfExp (thn (hc zB s Y H _ I h) λd s1 ⟨H1,I1,q1⟩=>?_);cases d with
 |true=>calc ha zB s1 Y H1 Q I1 q1
 |false=>calc hb zB s1 Y H1 Q I1 q1
end
def SqL(K:Yb)(H:Hp)(a:Yt)(xs:List V):Prop :=
 Rd H a (.lst xs) \/
  ∃(o:Obj)(its:Array Value)(n:Nat),K.lookup a=some o/\o.cls=.type "list" /\ o.dict=none/\o.data=.seq its n/\its.size<=sizeLine/\zd xs its.toList
def SqT(K:Yb)(H:Hp)(a:Yt)(xs:List V):Prop :=
 Rd H a (.tup xs) \/
  ∃(o:Obj)(its:Array Value)(n:Nat),K.lookup a=some o/\o.cls=.type "tuple" /\ o.data=.seq its n/\its.size<=sizeLine/\zd xs its.toList
def W0:Value->Option V
 |.none=>some .non
 |.bool b=>some (.bl b)
 |.int i _=>some (.int i)
 |.str x _=>some (.str x)
 |.bytes b _=>some (.byt b)
 |.float b _=>some (.flt b)
 |.ref a=>some (.ref a)
 |.type n=>some (.ty n)
 |_=>none
def zh.abs{x:V}{u:Yu}(r:zh x u):W0 u=some x:=by
 cases x with
 |non=>ext r;rfl
 |bl _=>ext r;rfl
 |int _=>let(t,rfl):=r;rfl
 |str _=>let(t,rfl):=r;rfl
 |byt _=>let(t,rfl):=r;rfl
 |flt _=>let(t,rfl):=r;rfl
 |ref _=>ext r;rfl
 |ty _=>ext r;rfl
def zh.inj{x y:V}{u:Yu}(r:zh x u)(q:zh y u):x=y:=Be (r.abs.symm.trans q.abs)
def zd.inj:∀{xs ys:List V}{us:Yf},zd xs us->zd ys us->xs=ys
 |_,_,_,.nil,.nil=>rfl
 |_,_,_,.cons r t,.cons r' t'=>by rw[r.inj r',zd.inj t t']
section
variable{X:Cx}{zB:Yd}{Y:St}{H:Hp}{s:Yl}{a:Yt}{xs ys:List V}
def SqL.of{K:Yb}(h:H a=some (.lst xs)):SqL K H a xs:=.inl (.inl h)
def SqT.of{K:Yb}(h:H a=some (.tup xs)):SqT K H a xs:=.inl (.inl h)
def Inv.list(I:Inv X zB Y H s)(h:SqL X.K H a xs):∃its:List Value,zd xs its/\PlainL s.heap a its.toArray/\xs.length<=sizeLine:=by
 rcases h with h|⟨o,its,n,hk,hc,hd,hs,hz,r⟩
 .obtain⟨z,its,n,r,e⟩:=h.ok I.hok;exact#[its,r,#[_,n,e,rfl,rfl,rfl],z]
 .refine#[its.toList,r,#[o,n,I.kIn a o hk,hc,hd,by simpa using hs],?_];let e:=r.length;simp only[BU]at e;omega
def Inv.tuple(I:Inv X zB Y H s)(h:SqT X.K H a xs):∃its:List Value,zd xs its/\IsTup s.heap a its.toArray/\xs.length<=sizeLine:=by
 rcases h with h|⟨o,its,n,hk,hc,hs,hz,r⟩
 .obtain⟨z,its,r,p⟩:=h.ok I.hok;exact#[its,r,p.tup,z]
 .refine#[its.toList,r,#[o,I.kIn a o hk,hc,n,by simpa using hs],?_];let e:=r.length;simp only[BU]at e;omega
def Inv.list_inj(I:Inv X zB Y H s)(h:SqL X.K H a xs)(h':SqL X.K H a ys):xs=ys:=by
 let(its,r,(o,n,e,_,_,d),_):=I.list h;let(its',r',(o',n',e',_,_,d'),_):=I.list h';rw[e]at e';ext e';rw[d]at d';injection d' with d1 _
 have:its=its':=by simpa using Ba Array.toList d1
 subst this;calc r.inj r'
def Inv.tuple_inj(I:Inv X zB Y H s)(h:SqT X.K H a xs)(h':SqT X.K H a ys):xs=ys:=by
 let(its,r,(o,e,_,n,d),_):=I.tuple h;let(its',r',(o',e',_,n',d'),_):=I.tuple h';rw[e]at e';ext e';rw[d]at d';injection d' with d1 _
 have:its=its':=by simpa using Ba Array.toList d1
 subst this;calc r.inj r'
end
abbrev Cx.wish(X:Cx)(E:Yc):Cx:={X with xe:=E}
abbrev Cx.nox(X:Cx):Cx:=X.wish λ_ _=>False
def Cx.Ok.wish{X:Cx}(ok:X.Ok)(E:Yc):(X.wish E).Ok :=
 #[ok.mod,ok.kind,ok.glob,ok.blt,ok.above,ok.inj,ok.has,ok.cab,ok.hd,ok.frames,ok.stk,ok.exf,ok.bs,ok.bsz,ok.noex,ok.exfs,ok.funs,ok.frf]
def Cx.Ok.unwish{X:Cx}{E:Yc}(ok:(X.wish E).Ok):X.Ok :=
 #[ok.mod,ok.kind,ok.glob,ok.blt,ok.above,ok.inj,ok.has,ok.cab,ok.hd,ok.frames,ok.stk,ok.exf,ok.bs,ok.bsz,ok.noex,ok.exfs,ok.funs,ok.frf]
section
variable{X:Cx}{zB:Yd}{Y:St}{H:Hp}{s:Yl}{E:Yc}
def Inv.wish(I:Inv X zB Y H s)(E:Yc):Inv (X.wish E) zB Y H s:=#[I.ok.wish E,I.os,I.bare,I.base,I.loc,I.cell,I.free,I.freeC,I.pin,I.hok,I.len]
def Inv.unwish(I:Inv (X.wish E) zB Y H s):Inv X zB Y H s:=#[I.ok.unwish,I.os,I.bare,I.base,I.loc,I.cell,I.free,I.freeC,I.pin,I.hok,I.len]
def SP.unwish{D:Ends}{f:Flow}{s':Yl}(h:SP (X.wish E) zB D f s'):SP X zB D f s':=by
 cases f with
 |next=>let(Y',H',I,q):=h;calc#[Y',H',I.unwish,q]
 |brk=>let(Y',H',I,q):=h;calc#[Y',H',I.unwish,q]
 |cont=>let(Y',H',I,q):=h;calc#[Y',H',I.unwish,q]
 |ret u=>let(v,Y',H',I,r,q):=h;calc#[v,Y',H',I.unwish,r,q]
def PSs.nox{st:Yy}{t:TS}(h:PSs X.nox st t):PSs X st t:=λzB s Y H D I hw=>
 AQ (h zB s Y H D (I.wish _) hw) (λ_ _ q=>q.unwish) λ_ _ z=>False.elim z
end
section
variable{X:Cx}{st:Stmt}{rest:Yy}{t u:TS}{e:Expr}{te:TE}{pos:Pos}
def Zs:TS:=λD Y H=>D.nx Y H
def YO(t u:TS):TS:=λD Y H=>t {D with nx:=u D} Y H
def oM:PSs X [] Zs:=λ_ _ Y H _ I h=>wpAny_execs_nil #[Y,H,I,h]
def jH(h1:PS X st t)(h2:PSs X rest u):PSs X (st::rest) (YO t u):=by
 intro zB s Y H D I h;refine wpAny_execs_cons (thn (h1 zB s Y H {D with nx:=u D} I h) λf s1 q=>?_);cases f with
 |next=>
  let(Y',H',I',q):=q;calc h2 zB s1 Y' H' D I' q
 |ret v=>calc q
 |brk=>calc q
 |cont=>calc q
def pP(h1:PS X st t):PSs X [st] t:=by
 intro zB s Y H D I h;refine wpAny_execs_cons (thn (h1 zB s Y H D I h) λf s1 q=>?_);cases f with
 |next=>calc wpAny_execs_nil q
 |ret v=>calc q
 |brk=>calc q
 |cont=>calc q
def Inv.quiet{zB:Yd}{Y:St}{H:Hp}{s:Yl}(I:Inv X zB Y H s):interactive X.env=false:=by simp[interactive,I.ok.kind]
def mQ(te:TE):TS:=λD Y H=>te Y H λ_ H1=>D.nx Y H1
def WK(he:PE X e te)(hs:swapsWith e none pos.line X.env=pure false:=by rfl):PS X (.Expr e pos) (mQ te):=by
 intro zB s Y H D I h;calc wpAny_Expr_any (thn (he zB s Y H _ I h) λv s1 ⟨x,H1,I1,r1,q1⟩=>#[Y,H1,I1,q1]) I.quiet hs
def gF(te:TE):TS:=λD Y H=>te Y H D.rt
def pX(he:PE X e te):PS X (.Return (some e) pos) (gF te):=by
 intro zB s Y H D I h;calc wpAny_Return_some (thn (he zB s Y H _ I h) λv s1 ⟨x,H1,I1,r1,q1⟩=>#[x,Y,H1,I1,r1,q1])
def V0(c:TT)(t u:TS):TS:=λD Y H=>c Y H λb H1=>if b=true then t D Y H1 else u D Y H1
def Vf{c:Expr}{a b:Yy}{tc:TT}(hc:PT X c tc)(ha:PSs X a t)(hb:PSs X b u):PS X (.If c a b pos) (V0 tc t u):=by
 intro zB s Y H D I h;refine wpAny_If (thn (hc zB s Y H _ I h) λd s1 ⟨H1,I1,q1⟩=>?_);cases d with
 |true=>calc ha zB s1 Y H1 D I1 q1
 |false=>calc hb zB s1 Y H1 D I1 q1
end
abbrev TG:=V->St->Hp->(St->Hp->Prop)->Prop
abbrev TGs:=List V->St->Hp->(St->Hp->Prop)->Prop
def PG(X:Cx)(target:Expr)(t:TG):Prop :=
 ∀(zB:Yd)(s:Yl)(Y:St)(H:Hp)(v:V)(u:Yu)(Q:St->Hp->Prop),Inv X zB Y H s->zh v u->t v Y H Q ->
  wpAny (model X.prog X.w) X.A (assign target X.env u) (λ_ s'=>∃Y' H',Inv X zB Y' H' s'/\Q Y' H') X.xe s
def PGs(X:Cx)(ts:Yi)(t:TGs):Prop :=
 ∀(zB:Yd)(s:Yl)(Y:St)(H:Hp)(vs:List V)(us:Yf)(Q:St->Hp->Prop),Inv X zB Y H s->zd vs us->t vs Y H Q ->
  wpAny (model X.prog X.w) X.A (assignInOrder ((assignEach ts X.env).map (·.2)) us) (λ_ s'=>∃Y' H',Inv X zB Y' H' s'/\Q Y' H') X.xe s
abbrev Me:=V->V->V->Hp->(Hp->Prop)->Prop
def UH(X:Cx)(t:Me):Prop :=
 ∀(zB:Yd)(s:Yl)(Y:St)(H:Hp)(o i v:V)(ov iv u:Yu)(Q:Hp->Prop),Inv X zB Y H s->zh o ov->zh i iv->zh v u->t o i v H Q ->
  wpAny (model X.prog X.w) X.A (setItem ov iv u) (λ_ s'=>∃H',Inv X zB Y H' s'/\Q H') X.xe s
section
variable{X:Cx}{pos:Pos}
def CY(i:Nat):TG:=λv Y H Q=>Q (Y.set i (some v)) H
def OB{i:Nat}{x:Str}(hN:X.N.Nodup)(hi:X.N[i]?=some x)(hx:Loc X.env.scope x)(hf:X.fn x=true\/X.env.scope.names.lookup x=some .local:=by first|exact .inl rfl|exact .inr rfl|assumption):PG X (.Name x pos) (CY i):=by
 intro zB s Y H v u Q I r h;calc wpAny_assign_Name (UK I hN hi hx r (λs' I'=>#[_,H,I',h]) hf)
def Jd:TGs:=λvs Y H Q=>vs=[]/\Q Y H
def Ek(t:TG)(u:TGs):TGs:=λvs Y H Q=>∃v r,vs=v::r/\t v Y H λY' H'=>u r Y' H' Q
def gG:PGs X [] Jd:=by
 intro zB s Y H vs us Q I r h;let(e,h):=h;subst e;ext r;calc assignInOrder_nil #[Y,H,I,h]
def m5{e:Expr}{es:Yi}{t:TG}{u:TGs}(h1:PG X e t)(h2:PGs X es u)
  (hs:(assignEach (e::es) X.env).map (·.2)=assign e X.env::(assignEach es X.env).map (·.2):=by rfl):PGs X (e::es) (Ek t u):=by
 intro zB s Y H vs us Q I r h;let(v,vr,e1,h):=h;subst e1;cases r with
 |cons r rr=>
  rw[hs];refine assignInOrder_cons (thn (h1 zB s Y H _ _ _ I r h) λ_ s1 ⟨σ1,H1,I1,q1⟩=>?_);calc h2 zB s1 σ1 H1 _ _ Q I1 rr q1
def Ib(K:Yb)(n:Nat)(t:TGs):TG:=λv Y H Q=>∃a xs,v=.ref a/\SqT K H a xs/\xs.length=n/\t xs Y H Q
def qA{es:Yi}{k:Nat}{t:TGs}{n:Nat}(hc:X.calm=true)(h:PGs X es t)
  (hn:(assignEach es X.env).length=n:=by rfl) (hst:(assignEach es X.env).findIdx? (·.1)=none:=by rfl):PG X (.Tuple es k pos) (Ib X.K n t):=by
 intro zB s Y H v u Q I r hw;let(a,xs,e1,hq,hl,hw):=hw;subst e1;ext r;let(its,rv,ht,hz):=I.tuple hq;refine assign_Tuple_tuple (I.ok.hd hc) ht (by simp[hn,<-hl,rv.length]) hst λh' hx=>?_;let I1:Inv X zB Y H {s with heap:=h' }:=I.kept (t':=s.toks) λb o e=>hx b o (AZ (AH e)) e;calc h zB _ Y H xs _ Q I1 (~~~rv) hw
def qU(to ti:TE)(t:Me):TG:=λv Y H Q=>to Y H λo H1=>ti Y H1 λi H2=>t o i v H2 λH3=>Q Y H3
def aY{o i:Expr}{to ti:TE}{t:Me}(ho:PE X o to)(hi:PE X i ti)(hs:UH X t)
  (ha:∀v,assign (.Subscript o i pos) X.env v=(do
   let ov <- holding [v] (eval o X.env);let iv <- holding [v,ov] (eval i X.env);standAt pos;holding [v,ov,iv] (setItem ov iv v);release [v,ov,iv] []):=by intro _;rfl):PG X (.Subscript o i pos) (qU to ti t):=by
 intro zB s Y H v u Q I r h;rw[ha];refine AA (Bu (thn (ho zB s Y H _ I h) λov s1 ⟨x,H1,I1,r1,q1⟩=>?_));refine AA (Bu (thn (hi zB s1 Y H1 _ I1 q1) λiv s2 ⟨y,H2,I2,r2,q2⟩=>?_));refine AA (CA (AA (Bu (thn (hs zB s2 Y H2 x y v ov iv u _ I2 r1 r2 r q2) λ_ s3 ⟨H3,I3,q3⟩=>?_))));calc wpAny_release #[Y,H3,I3,q3]
def IY(te:TE)(g:TG):TS:=λD Y H=>te Y H λx H1=>g x Y H1 D.nx
def gB{tg e:Expr}{te:TE}{g:TG}(he:PE X e te)(hg:PG X tg g)(hs:swapsWithSole [tg] e pos.line X.env=pure false:=by rfl)(hw:swappedStores [tg] e X.env=pure none:=by rfl)
  (h1:(assignEach [tg] X.env).map (·.2)=[assign tg X.env]:=by rfl):PS X (.Assign [tg] e pos) (IY te g):=by
 intro zB s Y H D I h;refine wpAny_Assign_stores (thn (he zB s Y H _ I h) λv s1 ⟨x,H1,I1,r1,q1⟩=>?_) hs hw;rw[h1];calc thn (hg zB s1 Y H1 x v _ I1 r1 q1) λ_ s2 q=>q
def pQ{i:Nat}{x:Str}{e:Expr}{te:TE}{pos':Pos}(hN:X.N.Nodup)(hi:X.N[i]?=some x)(hx:Loc X.env.scope x)(he:PE X e te)(hs:swapsWith e (some (.Name x pos')) pos.line X.env=pure false:=by rfl)(hf:X.fn x=true\/X.env.scope.names.lookup x=some .local:=by first|exact .inl rfl|exact .inr rfl|assumption):
  PS X (.Assign [.Name x pos'] e pos) (IY te (CY i)):=by
 intro zB s Y H D I h;refine wpAny_Assign_Name (thn (he zB s Y H _ I h) λv s1 ⟨y,H1,I1,r1,q1⟩=>?_) hs;calc UK I1 hN hi hx r1 (λs2 I2=>#[_,H1,I2,q1]) hf
def Rb(c:TT)(tb:TS):TS:=λD Y H=>∃W:Nat->St->Hp->Prop,(∃m,W m Y H)/\∀m Y H,W m Y H ->
 c Y H λb H1=>if b=true then∃N:St->Hp->Prop,(∀Y' H',N Y' H'->∃m',m'<m/\W m' Y' H')/\tb {D with nx:=N,ct:=N,bk:=D.nx} Y H1 else D.nx Y H1
def XX{c:Expr}{body:Yy}{tc:TT}{tb:TS}(hp:PassesOwn (model X.prog X.w) X.A X.env X.xe)(hc:PT X c tc)(hb:PSs X body tb):PS X (.While c body [] pos) (Rb tc tb):=by
 intro zB s Y H D I h;let(W,(m0,w0),turn):=h;refine wpAny_While (codeAny_whileLoop (λn s'=>∃Y' H',Inv X zB Y' H' s'/\W n Y' H') ?_ m0 #[Y,H,I,w0]);rintro n s1 ⟨σ1,H1,I1,w1⟩;refine wpAny_passesOwn hp (thn (hc zB s1 σ1 H1 _ I1 (turn n σ1 H1 w1)) λb s2 ⟨H2,I2,q2⟩=>?_);cases b with
 |true=>
  let(N,hN,q2):=q2;rw[AB rfl];refine wpAny_passesOwn hp (thn (hb zB s2 σ1 H2 _ I2 q2) λf s3 q3=>?_);cases f with
  |next=>
   let(σ3,H3,I3,n3):=q3;let(m',hm,w3):=hN σ3 H3 n3;calc#[m',hm,σ3,H3,I3,w3]
  |cont=>
   let(σ3,H3,I3,n3):=q3;let(m',hm,w3):=hN σ3 H3 n3;calc#[m',hm,σ3,H3,I3,w3]
  |brk=>calc q3
  |ret v=>calc q3
 |false=>
  rw[AE Ax];calc wpAny_execs_nil #[σ1,H2,I2,q2]
end
structure It where
 go:Nat->Hp->Prop
 yld:Nat->Hp->V->Hp->Prop
 stop:Nat->Hp->Prop
def BN(X:Cx)(zB:Yd)(H:Hp)(b:Yt):Prop :=
 H b=none/\b≠X.env.locals/\b∉X.fs/\(b∈X.ex\/⇑X.s₀<=b)/\(∀x c,X.env.cells.lookup x=some c->c≠b)/\∀p∈X.pn++zB,p.1≠b
def Inv.fpOk{X:Cx}{zB:Yd}{Y:St}{H H':Hp}{s:Yl}{b:Yt}(I:Inv X zB Y H s)(hb:⇑s<=b)(hn:H' b=none):BN X zB H' b:=by
 refine#[hn,Cr (Ay I.lt hb),I.nofs hb,.inr (Ab I.sz hb),λx c e z=>?_,λp hp z=>?_]
 .obtain⟨v,q⟩:=I.cell x c e;exact absurd (Ay q.lt (by rw[z];calc hb)) (BS _)
 .exact absurd (Ay (AH (I.pin p hp).1) (by rw[z];calc hb)) (BS _)
structure Turn(P:Ym)(w:Yo)(K:Yb)(tg:Expr)(J:It)(fp:Yg)(it:Yt)(tn:Nat->Heap->Prop):Prop where
 mem:it∈fp
 obj:∀i h,tn i h->∀b∈fp,∃o,h.get? b=some o/\∀v,o.data≠.cell v
 keep:∀i h h',tn i h->(∀b∈fp,∀o,h.get? b=some o->h'.get? b=some o)->tn i h'
 item:∀(X:Cx),X.prog=P->X.w=w->X.K=K->X.calm=true->∀(i:Nat)(zB:Yd)(s:Yl)(Y:St)(H:Hp)(E:Yc),Inv X zB Y H s->(∀b∈fp,BN X zB H b)->tn i s.heap->J.go i H ->
  wpAny (model P w) X.A (pyNext (.ref it)) (λr s1=>∃u,r=some u /\
   wpAny (model P w) X.A (letOwnedTupleGo tg (.ref it) u) (λ_ s2=>∃x H',Inv X zB Y H' s2/\zh x u/\J.yld i H x H'/\tn (i+1) s2.heap/\∀b∈fp,H' b=none) E s1) E s
 done:∀(X:Cx),X.prog=P->X.w=w->X.K=K->X.calm=true->∀(i:Nat)(zB:Yd)(s:Yl)(Y:St)(H:Hp)(E:Yc),Inv X zB Y H s->(∀b∈fp,BN X zB H b)->tn i s.heap->J.stop i H ->
  wpAny (model P w) X.A (pyNext (.ref it)) (λr s1=>r=none/\Inv X zB Y H s1) E s
 self:∀(A:Yn)(i:Nat)(s:Yl)(Q:Yc)(E:Yc),tn i s.heap->Q (.ref it) s->wpAny (model P w) A (pyIter (.ref it)) Q E s
abbrev TI:=St->Hp->(It->Hp->Prop)->Prop
def PIE(X:Cx)(zB:Yd)(Y:St)(tg:Expr)(R:It->Hp->Prop)(itv:Yu)(s2:Yl):Prop :=
 ∃(it:Yt)(fp:Yg)(tn:Nat->Heap->Prop)(J:It)(H':Hp),itv=.ref it/\Inv X zB Y H' s2/\Turn X.prog X.w X.K tg J fp it tn/\tn 0 s2.heap/\(∀b∈fp,BN X zB H' b)/\R J H'
def PI(X:Cx)(tg iter:Expr)(wi:TI):Prop :=
  ∀(zB:Yd)(s:Yl)(Y:St)(H:Hp)(R:It->Hp->Prop),Inv X zB Y H s->wi Y H R ->
    wpAny (model X.prog X.w) X.A (eval iter X.env) (λv s1=>wpAny (model X.prog X.w) X.A (pyIter v) (PIE X zB Y tg R) X.xe s1) X.xe s
def OW{M:Model}{A:Yn}{E:Yc}{s:Yl}{tg:Expr}{it:Yt}{u:Yu}{o:Obj}{n:String}{vs:Yp}{Q:Unit->Shared->Prop}(ho:s.heap.get? it=some o)(hc:o.cls=.type n)(hd:o.data=.fields vs)
    (hn:["enumerate","zip","dict_itemiterator","dict_reverseitemiterator","odict_iterator","itertools.zip_longest","itertools.pairwise"].contains n=false) (hQ:Q Unit.unit s):wpAny M A (letOwnedTupleGo tg (.ref it) u) Q E s:=by
  erw[letOwnedTupleGo]
  cases tg <;> first
    |calc AD hQ
    | (cases u <;> first
        |calc AD hQ
        | (refine AA (wpAny_load ho ?_)
           rw[hc,hd];show wpAny M A (if(["enumerate","zip","dict_itemiterator","dict_reverseitemiterator","odict_iterator","itertools.zip_longest","itertools.pairwise"].contains n&&vs[0]?==some (rawInt _))=true then _ else _) Q E s;rw[AE (by intro h;rw[hn,Bool.false_and]at h;ext h)];calc AD hQ))
def Itl(K:Yb)(a:Yt):It :=
 #[λi H=>∃xs x,SqL K H a xs/\xs[i]?=some x,λi H x H'=>H'=H/\∀xs,SqL K H a xs->xs[i]?=some x,λi H=>∃xs,SqL K H a xs/\xs.length<=i]
def Itt(K:Yb)(a:Yt):It :=
 #[λi H=>∃xs x,SqT K H a xs/\xs[i]?=some x,λi H x H'=>H'=H/\∀xs,SqT K H a xs->xs[i]?=some x,λi H=>∃xs,SqT K H a xs/\xs.length<=i]
def Itr(lo:Int)(n:Nat):It:=#[λi _=>i<n,λi H x H'=>H'=H/\x=.int (lo+i),λi _=>n<=i]
def VI{P:Ym}{w:Yo}{K:Yb}{tg:Expr}(a it:Yt):Turn P w K tg (Itl K a) [it] it (λi h=>h.IsListIter it a i) where
 mem:=by simp
 obj:=λi h st b hb=>by
  let e:b=it:=by simpa using hb
  subst e;let(o,e,c,d):=st;exact#[o,e,λv z=>by rw[d]at z;ext z]
 keep:=λi h h' st k=>st.at λo e=>k it (by simp) o e;item:=by
  intro X hP hw hK hc i zB s Y H E I hf st hg;subst hP hw hK;let(xs,x,hq,hx):=hg;let(its,rv,p,hz):=I.list hq;let(u,hu,ru):=rv.get hx;let(f0,f1,f2,f3,f4,f5):=hf it (by simp);refine wpAny_pyNext_list_item st p.isList (x:=u) (~~~hu) λh' st' sb=>?_;let I1:Inv X zB Y H {s with heap:=h' }:=I.turned (t':=s.toks) (λb o hb e=>(sb.2 b hb).trans e) f0 f1 f3 f4 f5;let(o,e,c,d):=id st';exact#[u,rfl,OW (s:={s with heap:=h' }) e c d () #[x,H,I1,ru,#[rfl,λys hy=>by rw[I.list_inj hy hq];calc hx],st',λb hb=>(hf b hb).1]]
 done:=by
  intro X hP hw hK hc i zB s Y H E I hf st hg;subst hP hw hK;let(xs,hq,hx):=hg;let(its,rv,p,hz):=I.list hq;let(f0,f1,f2,f3,f4,f5):=hf it (by simp);let hl:=rv.length;exact wpAny_pyNext_list_end (I.ok.hd hc) st p.isList (by simp;omega) λh' eb=>#[rfl,I.turned (t':=s.toks) (λb o hb e=>eb b o hb e) f0 f1 f3 f4 f5]
 self:=λ_ _ _ _ _ st h=>wpAny_pyIter_listiter st h
def Wc{P:Ym}{w:Yo}{K:Yb}{tg:Expr}(a it:Yt):Turn P w K tg (Itt K a) [it] it (λi h=>h.IsTupleIter it a i) where
 mem:=by simp
 obj:=λi h st b hb=>by
  let e:b=it:=by simpa using hb
  subst e;let(o,e,c,d):=st;exact#[o,e,λv z=>by rw[d]at z;ext z]
 keep:=λi h h' st k=>st.at λo e=>k it (by simp) o e;item:=by
  intro X hP hw hK hc i zB s Y H E I hf st hg;subst hP hw hK;let(xs,x,hq,hx):=hg;let(its,rv,p,hz):=I.tuple hq;let(u,hu,ru):=rv.get hx;let(f0,f1,f2,f3,f4,f5):=hf it (by simp);refine wpAny_pyNext_tuple_item st (show s.heap.IsTuple a its.toArray from p) (x:=u) (~~~hu) λh' st' sb=>?_;let I1:Inv X zB Y H {s with heap:=h' }:=I.turned (t':=s.toks) (λb o hb e=>(sb.2 b hb).trans e) f0 f1 f3 f4 f5;let(o,e,c,d):=id st';exact#[u,rfl,OW (s:={s with heap:=h' }) e c d () #[x,H,I1,ru,#[rfl,λys hy=>by rw[I.tuple_inj hy hq];calc hx],st',λb hb=>(hf b hb).1]]
 done:=by
  intro X hP hw hK hc i zB s Y H E I hf st hg;subst hP hw hK;let(xs,hq,hx):=hg;let(its,rv,p,hz):=I.tuple hq;let(f0,f1,f2,f3,f4,f5):=hf it (by simp);let hl:=rv.length;exact wpAny_pyNext_tuple_end (I.ok.hd hc) st (show s.heap.IsTuple a its.toArray from p) (by simp;omega) λh' eb=>#[rfl,I.turned (t':=s.toks) (λb o hb e=>eb b o hb e) f0 f1 f3 f4 f5]
 self:=λ_ _ _ _ _ st h=>wpAny_pyIter_tupleiter st h
def jN{P:Ym}{w:Yo}{K:Yb}{tg:Expr}(it:Yt)(lo:Int)(n:Nat):Turn P w K tg (Itr lo n) [it] it (λi h=>IsRangeIter h it (lo+(i:Nat)*1) ((n:Int)-(i:Nat)) 1) where
 mem:=by simp
 obj:=λi h st b hb=>by
  let e:b=it:=by simpa using hb
  subst e;exact#[_,st,λv z=>by
   let z':Data.fields _=Data.cell v:=z;ext z']
 keep:=λi h h' st k=>k it (by simp) _ st;item:=by
  intro X hP hw hK hc i zB s Y H E I hf st hg;subst hP hw hK;let(f0,f1,f2,f3,f4,f5):=hf it (by simp);let W:=Walks.range (prog:=X.prog) (w:=X.w) (I.ok.hd hc) it lo 1 n;refine W.item i s _ _ hg st λv h' tk hv st' kk=>?_;let(t,rfl):=hv;let I1:Inv X zB Y H {s with heap:=h',toks:=tk}:=I.turned (λb o hb e=>kk b o (~~~hb) e) f0 f1 f3 f4 f5;refine#[_,rfl,OW (s:={s with heap:=h',toks:=tk}) (n := "range_iterator") st' rfl rfl () #[.int (lo+i),H,I1,#[t,?_],#[rfl,rfl],st',λb hb=>(hf b hb).1]];rw[Int.mul_one]
 done:=by
  intro X hP hw hK hc i zB s Y H E I hf st hg;subst hP hw hK;let(f0,f1,f2,f3,f4,f5):=hf it (by simp);exact wpAny_pyNext_range_end (I.ok.hd hc) st (by have:n<=i:=hg;omega) λh' eb=>#[rfl,I.turned (t':=s.toks) (λb o hb e=>eb b o hb e) f0 f1 f3 f4 f5]
 self:=λ_ _ _ _ _ st h=>wpAny_pyIter_rangeiter st h
section
variable{X:Cx}{tg:Expr}
def mJ{zB:Yd}{Y:St}{H:Hp}{s:Yl}{R:It->Hp->Prop}{E:Yc}{lo hi:Int}{t u v:Tok}{tk:Nat}(I:Inv X zB Y H s)(h1: -(2 ^ 62)<=lo)(h2:lo<2 ^ 62)(h3: -(2 ^ 62)<=hi)(h4:hi<2 ^ 62)
  (q:R (Itr lo (hi-lo).toNat) H):wpAny (model X.prog X.w) X.A (pyIter (.ref ⇑s)) (PIE X zB Y tg R) E {s with heap:=s.heap.push {cls:=.type "range",data:=.fields ([.int lo t,.int hi u,.int 1 v].toArray) },toks:=tk}:=by
 calc wpAny_pyIter_range (IsRange.new ..) (small_one h1 h2 h3 h4) ?_;let I1:Inv X zB Y H {s with heap:=s.heap.push {cls:=.type "range",data:=.fields ([.int lo t,.int hi u,.int 1 v].toArray) },toks:=tk}:=I.kept λb o e=>AJ _ e
 refine#[(s.heap.push {cls:=.type "range",data:=.fields ([.int lo t,.int hi u,.int 1 v].toArray) }).objs.size,[(s.heap.push {cls:=.type "range",data:=.fields ([.int lo t,.int hi u,.int 1 v].toArray) }).objs.size],_,_,H,rfl,
  I1.kept (t':=tk) λb o e=>AJ _ e,jN _ lo (hi-lo).toNat,?_,λb hb=>?_,q]
 .have e1:lo+((0:Nat):Int)*1=lo:=by simp
  let e2:(((hi-lo).toNat:Nat):Int)-((0:Nat):Int)=Builtin.Range.rangeSize lo hi 1:=by rw[rangeSize_one];split <;> omega
  show IsRangeIter _ _ (lo+((0:Nat):Int)*1) ((((hi-lo).toNat:Nat):Int)-((0:Nat):Int)) 1;rw[e1,e2];exact AS _ rfl
 .have e:b=(s.heap.push {cls:=.type "range",data:=.fields ([.int lo t,.int hi u,.int 1 v].toArray) }).objs.size:=by simpa using hb
  subst e;calc I1.fpOk (AF _) (I1.hok.fresh (AF _))
def VO(ta:TA):TI:=λY H R=>ta Y H λvs H1=>∃j:Int,vs=[.int j] /\ -(2 ^ 62)<=j/\j<2 ^ 62/\R (Itr 0 j.toNat) H1
def Xm{a:Expr}{ta:TA}{p pos:Pos}(hg:Gl X "range")(hm:X.mg "range" = none)(ha:PA X [a] ta)(hs:starEach [a] X.env=[(false,eval a X.env)]:=by rfl):PI X tg (.Call (.Name "range" p) [a] [] pos) (VO ta):=by
 intro zB s Y H R I h;refine Call_ (Gf I hg hm boot_range (PyProof.Rows.callWith_type1 (thn (ha pos zB s Y H _ I h) λus s1 ⟨vs,H1,I1,r1,q1⟩=>?_) hs rfl));let(j,e,q1,q2,q):=q1;subst e;cases r1 with
 |cons r rr=>
  ext rr;let(t,rfl):=r;calc call_range_1 (mJ I1 () () q1 q2 (~~~q))
def Sa(wi:TI)(g:TG)(tb:TS):TS:=λD Y H=>wi Y H λJ H1=>∃W:Nat->Nat->St->Hp->Prop,(∃m,W 0 m Y H1)/\∀i m Y H,W i m Y H ->
 (J.stop i H/\D.nx Y H)\/(J.go i H/\∃N:St->Hp->Prop,(∀Y' H',N Y' H'->∃m',m'<m/\W (i+1) m' Y' H')/\∀x H',J.yld i H x H'->g x Y H' λσ2 H2=>tb {D with nx:=N,ct:=N,bk:=D.nx} σ2 H2)
def Em(fp:Yg)(h:Heap):List (Addr×Obj):=fp.filterMap λb=>(h.get? b).map λo=>(b,o)
def Dh{fp:Yg}{h:Heap}{b:Yt}{o:Obj}(hb:b∈fp)(e:h.get? b=some o):(b,o)∈Em fp h:=List.mem_filterMap.mpr #[b,hb,by rw[e];rfl]
def Rr{fp:Yg}{h:Heap}{p:Addr×Obj}(hp:p∈Em fp h):p.1∈fp/\h.get? p.1=some p.2:=by
 let(b,hb,e):=List.mem_filterMap.mp hp;cases q:h.get? b with
 |none=>rw[q]at e;ext e
 |some o=>
  rw[q]at e;let e':(b,o)=p:=Be e;subst e';calc#[hb,q]
def Inv.pinned{zB:Yd}{Y:St}{H:Hp}{s:Yl}{fp:Yg}(I:Inv X zB Y H s)(hf:∀b∈fp,BN X zB H b)(ho:∀b∈fp,∃o,s.heap.get? b=some o/\∀v,o.data≠.cell v):Inv X (zB++Em fp s.heap) Y H s :=
 I.pins_of λp hp=>(Ae.mp hp).elim (λz=>I.pin p (Ak _ z)) λz=>by
  let(hb,e):=Rr z;let(f0,f1,f2,_):=hf p.1 hb;let(o,e',d):=ho p.1 hb;rw[e]at e';ext e';calc#[e,f0,f1,f2,d]
def Inv.unpinned{zB pl:Yd}{Y:St}{H:Hp}{s:Yl}(I:Inv X (zB++pl) Y H s):Inv X zB Y H s:=I.pins_of λp hp=>I.pin p (Ak _ (CI _ hp))
def Vh{iter:Expr}{body:Yy}{wi:TI}{g:TG}{tb:TS}{pos:Pos}(hp:PassesOwn (model X.prog X.w) X.A X.env X.xe)(hc:X.calm=true)(hi:PI X tg iter wi)(hg:PG X tg g)(hb:PSs X body tb)
  (hs:∀x,foldedSetIterable iter X.env x=pure x:=by intro _;rfl):PS X (.For tg iter body [] pos) (Sa wi g tb):=by
 intro zB s Y H D I h;refine wpAny_For (thn (hi zB s Y H _ I h) λv s1 h1=>thn h1 λitv s2 h2=>?_) hs;let(it,fp,tn,J,H2,e,I2,T,st2,f2,W,(m0,w0),turn):=h2;subst e;let stat:∀{H':Hp},(∀b∈fp,H' b=none)->∀b∈fp,BN X zB H' b:=λhn b hb=>#[hn b hb,(f2 b hb).2];refine codeAny_forLoop_any (λn s'=>∃i Y' H',Inv X zB Y' H' s'/\tn i s'.heap/\(∀b∈fp,H' b=none)/\W i n Y' H') ?_ m0 #[0,Y,H2,I2,st2,λb hb=>(f2 b hb).1,w0];rintro n s3 ⟨i,σ3,H3,I3,st3,fr3,w3⟩;rcases turn i n σ3 H3 w3 with⟨stop,qn⟩|⟨go,N,hN,step⟩
 .refine wpAny_passesOwn hp (thn (T.done X rfl rfl rfl hc i zB s3 σ3 H3 X.xe I3 (stat fr3) st3 stop) λr s4 ⟨hr,I4⟩=>?_);subst hr;exact wpAny_execs_nil #[σ3,H3,I4,qn]
 .refine wpAny_passesOwn hp (thn (T.item X rfl rfl rfl hc i zB s3 σ3 H3 X.xe I3 (stat fr3) st3 go) λr s4 ⟨u,hr,h4⟩=>?_);subst hr;refine wpAny_passesOwn hp (thn h4 λ_ s5 ⟨x,H5,I5,r5,y5,st5,fr5⟩=>?_);let I5':=I5.pinned (stat fr5) (T.obj _ _ st5);refine wpAny_passesOwn hp (thn (hg _ s5 σ3 H5 x u _ I5' r5 (step x H5 y5)) λ_ s6 ⟨σ6,H6,I6,q6⟩=>?_);refine wpAny_passesOwn hp (thn (hb _ s6 σ6 H6 _ I6 q6) λf s7 q7=>?_);let again:∀{σ7:St}{H7:Hp},Inv X (zB++Em fp s5.heap) σ7 H7 s7->N σ7 H7->∃m,m<n/\∃i Y' H',Inv X zB Y' H' s7/\tn i s7.heap/\(∀b∈fp,H' b=none)/\W i m Y' H':=λ{σ7 H7} I7 n7=>by
   let(m',hm,w7):=hN σ7 H7 n7;refine#[m',hm,i+1,σ7,H7,I7.unpinned,T.keep _ _ _ st5 λb hb o e=>(I7.pin (b,o) (Ak _ (Ak _ (Dh hb e)))).1,λb hb=>?_,w7];let(o,e,d):=T.obj _ _ st5 b hb;exact(I7.pin (b,o) (Ak _ (Ak _ (Dh hb e)))).2.1
  cases f with
  |next=>let(σ7,H7,I7,n7):=q7;calc again I7 n7
  |cont=>let(σ7,H7,I7,n7):=q7;calc again I7 n7
  |brk=>let(σ7,H7,I7,q7):=q7;calc#[σ7,H7,I7.unpinned,q7]
  |ret v=>let(x7,σ7,H7,I7,r7,q7):=q7;calc#[x7,σ7,H7,I7.unpinned,r7,q7]
end
abbrev R2:=V->V->Hp->VK->Prop
def OpR(X:Cx)(f:Y2)(r:R2):Prop :=
 ∀(zB:Yd)(s:Yl)(Y:St)(H:Hp)(x y:V)(v u:Yu)(Q:VK),Inv X zB Y H s->zh x v->zh y u->r x y H Q ->
  wpAny (model X.prog X.w) X.A (f v u) (EP X zB Y Q) X.xe s
def UnR(X:Cx)(f:Value->Sem Value)(r:V->Hp->VK->Prop):Prop :=
 ∀(zB:Yd)(s:Yl)(Y:St)(H:Hp)(x:V)(v:Yu)(Q:VK),Inv X zB Y H s->zh x v->r x H Q ->
  wpAny (model X.prog X.w) X.A (f v) (EP X zB Y Q) X.xe s
def B1(X:Cx)(f:Yu)(r:List V->Hp->VK->Prop):Prop :=
 ∀(zB:Yd)(s:Yl)(Y:St)(H:Hp)(xs:List V)(us:Yf)(Q:VK),Inv X zB Y H s->zd xs us->r xs H Q ->
  wpAny (model X.prog X.w) X.A (call f us) (EP X zB Y Q) X.xe s
def XG(X:Cx)(r:V->Hp->(Bool->Hp->Prop)->Prop):Prop :=
 ∀(zB:Yd)(s:Yl)(Y:St)(H:Hp)(x:V)(v:Yu)(Q:Bool->Hp->Prop),Inv X zB Y H s->zh x v->r x H Q ->
  wpAny (model X.prog X.w) X.A (truthy v) (TP X zB Y Q) X.xe s
def tOp(r:R2)(ta tb:TE):TE:=λY H Q=>ta Y H λx H1=>tb Y H1 λy H2=>r x y H2 Q
def tUn(r:V->Hp->VK->Prop)(ta:TE):TE:=λY H Q=>ta Y H λx H1=>r x H1 Q
def rI(C:Int->Int->Prop)(g:Int->Int->V):R2:=λx y H Q=>∃i j,x=.int i/\y=.int j/\C i j/\Q (g i j) H
def rI0(g:Int->Int->V):R2:=λx y H Q=>∃i j,x=.int i/\y=.int j/\Q (g i j) H
def rU(g:Int->V):V->Hp->VK->Prop:=λx H Q=>∃i,x=.int i/\Q (g i) H
section
variable{X:Cx}{a b c:Expr}{ta tb tc:TE}{pos:Pos}
def Np(ha:PE X a ta)(hb:PE X b tb){zB:Yd}{s:Yl}{Y:St}{H:Hp}{R:V->V->Hp->Prop}(I:Inv X zB Y H s)
  (h:ta Y H λx H1=>tb Y H1 λy H2=>R x y H2) {Q:Yc} {f:Y2}
  (hf:∀v u s2 x y H2,Inv X zB Y H2 s2->zh x v->zh y u->R x y H2->wpAny (model X.prog X.w) X.A (f v u) Q X.xe s2):
  wpAny (model X.prog X.w) X.A (eval a X.env) (λv s₁=>wpAny (model X.prog X.w) X.A (eval b X.env) (λu s₂=>wpAny (model X.prog X.w) X.A (f v u) Q X.xe s₂) X.xe s₁) X.xe s:=by
 refine thn (ha zB s Y H _ I h) λv s1 ⟨x,H1,I1,r1,q1⟩=>?_;refine thn (hb zB s1 Y H1 _ I1 q1) λu s2 ⟨y,H2,I2,r2,q2⟩=>?_;calc hf v u s2 x y H2 I2 r1 r2 q2
def n8{op:Operator}{r:R2}(ho:OpR X (binaryOp op) r)(ha:PE X a ta)(hb:PE X b tb):PE X (.BinOp a op b pos) (tOp r ta tb):=by
 intro zB s Y H Q I h;calc wpAny_BinOp (Np ha hb I h λv u s2 x y H2 I2 rx ry q=>ho zB s2 Y H2 x y v u Q I2 rx ry q)
def oQ{op:UnaryOp}{r:V->Hp->VK->Prop}(ho:UnR X (unaryOp op) r)(ha:PE X a ta):PE X (.UnaryOp op a pos) (tUn r ta):=by
 intro zB s Y H Q I h;calc UnaryOp_ (thn (ha zB s Y H _ I h) λv s1 ⟨x,H1,I1,r1,q1⟩=>ho zB s1 Y H1 x v Q I1 r1 q1)
def opI{f:Y2}{C:Int->Int->Prop}{g:Int->Int->Int}
  (rule:∀(i j:Int)(t u:Tok)(s:Yl)(Q:Yc)(E:Yc),C i j->Q (.int (g i j) s.toks) {s with toks:=s.toks+1}->wpAny (model X.prog X.w) X.A (f (.int i t) (.int j u)) Q E s):
  OpR X f (rI C λi j=> .int (g i j)):=by
 intro zB s Y H x y v u Q I rx ry h;let(i,j,rfl,rfl,hc,q):=h;let(t,rfl):=rx;let(t',rfl):=ry;calc rule i j t t' s _ _ hc #[.int (g i j),H,I.tok _,#[_,rfl],q]
def T9{f:Y2}{g:Int->Int->Int}
  (rule:∀(i j:Int)(t u:Tok)(s:Yl)(Q:Yc)(E:Yc),Q (.int (g i j) s.toks) {s with toks:=s.toks+1}->wpAny (model X.prog X.w) X.A (f (.int i t) (.int j u)) Q E s):
  OpR X f (rI0 λi j=> .int (g i j)):=by
 intro zB s Y H x y v u Q I rx ry h;let(i,j,rfl,rfl,q):=h;let(t,rfl):=rx;let(t',rfl):=ry;calc rule i j t t' s _ _ #[.int (g i j),H,I.tok _,#[_,rfl],q]
def LA{f:Y2}{g:Int->Int->Bool}
  (rule:∀(i j:Int)(t u:Tok)(s:Yl)(Q:Yc)(E:Yc),Q (.bool (g i j)) s->wpAny (model X.prog X.w) X.A (f (.int i t) (.int j u)) Q E s):
  OpR X f (rI0 λi j=> .bl (g i j)):=by
 intro zB s Y H x y v u Q I rx ry h;let(i,j,rfl,rfl,q):=h;let(t,rfl):=rx;let(t',rfl):=ry;calc rule i j t t' s _ _ #[.bl (g i j),H,I,rfl,q]
def XO(i j:Int):Prop:=0<j/\j<1073741824
def gO(i j:Int):Prop:=0<=j/\j<=1000000/\i.natAbs<2 ^ 64
def NK(i j:Int):Prop:=(-(2 ^ 64)<i/\i<2 ^ 64)\/(-(2 ^ 64)<j/\j<2 ^ 64)
def NK.ok{i j:Int}(h:NK i j):IntMulOk i j:=by
 rcases h with⟨h1,h2⟩|⟨h1,h2⟩
 .exact .of_left (intBits_le_64 h1 h2)
 .exact .of_right (intBits_le_64 h1 h2)
def Zj:OpR X (binaryOp .Add) (rI0 λi j=> .int (i+j)):=T9 λ_ _ _ _ _ _ _ q=>add_int q
def lH:OpR X (binaryOp .Sub) (rI0 λi j=> .int (i-j)):=T9 λ_ _ _ _ _ _ _ q=>sub_int q
def dM:OpR X (binaryOp .Mult) (rI NK λi j=> .int (i*j)):=opI λ_ _ _ _ _ _ _ hc q=>mul_int q hc.ok
def d7:OpR X (binaryOp .FloorDiv) (rI XO λi j=> .int (i / j)):=opI λi j _ _ _ _ _ hc q=>by
 let h1:(0:Int)<j:=hc.1;let h2:j<1073741824:=hc.2;calc floordiv_int () (by rw[Int.fdiv_eq_ediv_of_nonneg i ()];calc q) (.inl (PyProof.noPylong_small ()))
def XI:OpR X (binaryOp .Mod) (rI (λ_ j=>0<j) λi j=> .int (i % j)):=opI λi j _ _ _ _ _ hc q=>by
 let h1:(0:Int)<j:=hc;calc mod_int' () (by rw[Int.fmod_eq_emod_of_nonneg i ()];calc q)
def iC:OpR X (binaryOp .Pow) (rI gO λi j=> .int (i ^ j.toNat)):=opI λ_ _ _ _ _ _ _ hc q=>pow_int_small hc.1 hc.2.1 hc.2.2 q
def unI{f:Value->Sem Value}{g:Int->Int}
  (rule:∀(i:Int)(t:Tok)(s:Yl)(Q:Yc)(E:Yc),Q (.int (g i) s.toks) {s with toks:=s.toks+1}->wpAny (model X.prog X.w) X.A (f (.int i t)) Q E s):
  UnR X f (rU λi=> .int (g i)):=by
 intro zB s Y H x v Q I rx h;let(i,rfl,q):=h;let(t,rfl):=rx;calc rule i t s _ _ #[.int (g i),H,I.tok _,#[_,rfl],q]
def Xr:UnR X (unaryOp .USub) (rU λi=> .int (-i)):=unI λ_ _ _ _ _ q=>neg_int q
end
def Kj:V->V->Bool
 |.non,.non=>true|.non,.int _=>true|.int _,.non=>true|.non,.bl _=>true|.bl _,.non=>true|.non,.str _=>true|.str _,.non=>true
 |.int _,.int _=>true|.bl _,.bl _=>true|.str _,.str _=>true|.byt _,.byt _=>true
 |.int _,.str _=>true|.str _,.int _=>true|.bl _,.str _=>true|.str _,.bl _=>true
 |_,_=>false
def rEq:R2:=λx y H Q=>Kj x y=true/\Q (.bl (decide (x=y))) H
def rNe:R2:=λx y H Q=>Kj x y=true/\Q (.bl (!decide (x=y))) H
def RV{i j:Int}:decide (V.int i=V.int j)=(i==j):=by
 rw[Ew];simp
def Tc{i j:Bool}:decide (V.bl i=V.bl j)=(i==j):=by
 rw[Ew];simp
def SS{i j:Str}:decide (V.str i=V.str j)=(i==j):=by
 rw[Ew];simp
def RO{i j:Array UInt8}:decide (V.byt i=V.byt j)=(i.toList==j.toList):=by
 rw[Ew];ext i;ext j;simp
section
variable{X:Cx}{a b c:Expr}{ta tb tc:TE}{pos:Pos}
def zt{zB:Yd}{Y:St}{H:Hp}{s:Yl}{Q:VK}{k k':Bool}(I:Inv X zB Y H s)(q:Q (.bl k) H)(e:k=k'):EP X zB Y Q (.bool k') s:=by
 subst e;calc#[.bl k,H,I,rfl,q]
def Tj:OpR X (compareOp .Eq) rEq:=by
 intro zB s Y H x y v u Q I rx ry h;let(hs,q):=h;cases x with
 |non=>
  ext rx;cases y with
  |non=>ext ry;calc PySem.EqNone.eq_none_none (zt I q (by simp))
  |bl j=>ext ry;calc PySem.EqNone.eq_none_bool (zt I q (by simp))
  |int j=>let(t',rfl):=ry;calc PySem.EqNone.eq_none_int (zt I q (by simp))
  |str j=>let(t',rfl):=ry;calc PySem.EqNone.eq_none_str (zt I q (by simp))
  |_=>calc absurd (show false=true from hs) Ax
 |bl i=>
  ext rx;cases y with
  |non=>ext ry;calc PySem.EqNone.eq_bool_none (zt I q (by simp))
  |bl j=>ext ry;calc eq_bool (zt I q Tc)
  |str j=>let(t',rfl):=ry;calc PySem.EqMixed.eq_bool_str (zt I q (by simp))
  |_=>calc absurd (show false=true from hs) Ax
 |int i=>
  let(t,rfl):=rx;cases y with
  |non=>ext ry;calc PySem.EqNone.eq_int_none (zt I q (by simp))
  |int j=>let(t',rfl):=ry;calc eq_int (zt I q RV)
  |str j=>let(t',rfl):=ry;calc PySem.EqMixed.eq_int_str (zt I q (by simp))
  |_=>calc absurd (show false=true from hs) Ax
 |str i=>
  let(t,rfl):=rx;cases y with
  |non=>ext ry;calc PySem.EqNone.eq_str_none (zt I q (by simp))
  |bl j=>ext ry;calc PySem.EqMixed.eq_str_bool (zt I q (by simp))
  |int j=>let(t',rfl):=ry;calc PySem.EqMixed.eq_str_int (zt I q (by simp))
  |str j=>let(t',rfl):=ry;calc eq_str (zt I q SS)
  |_=>calc absurd (show false=true from hs) Ax
 |byt i=>
  let(t,rfl):=rx;cases y with
  |byt j=>let(t',rfl):=ry;calc PySem.W.eq_bytes (zt I q RO)
  |_=>calc absurd (show false=true from hs) Ax
 |_=>cases y <;> calc absurd (show false=true from hs) Ax
def Vj:OpR X (compareOp .NotEq) rNe:=by
 intro zB s Y H x y v u Q I rx ry h;let(hs,q):=h;cases x with
 |non=>
  ext rx;cases y with
  |non=>ext ry;calc PySem.EqNone.ne_none_none (zt I q (by simp))
  |bl j=>ext ry;calc PySem.EqNone.ne_none_bool (zt I q (by simp))
  |int j=>let(t',rfl):=ry;calc PySem.EqNone.ne_none_int (zt I q (by simp))
  |str j=>let(t',rfl):=ry;calc PySem.EqNone.ne_none_str (zt I q (by simp))
  |_=>calc absurd (show false=true from hs) Ax
 |bl i=>
  ext rx;cases y with
  |non=>ext ry;calc PySem.EqNone.ne_bool_none (zt I q (by simp))
  |bl j=>ext ry;calc ne_bool (zt I q (Ba not Tc))
  |str j=>let(t',rfl):=ry;calc PySem.EqMixed.ne_bool_str (zt I q (by simp))
  |_=>calc absurd (show false=true from hs) Ax
 |int i=>
  let(t,rfl):=rx;cases y with
  |non=>ext ry;calc PySem.EqNone.ne_int_none (zt I q (by simp))
  |int j=>let(t',rfl):=ry;calc ne_int (zt I q (Ba not RV))
  |str j=>let(t',rfl):=ry;calc PySem.EqMixed.ne_int_str (zt I q (by simp))
  |_=>calc absurd (show false=true from hs) Ax
 |str i=>
  let(t,rfl):=rx;cases y with
  |non=>ext ry;calc PySem.EqNone.ne_str_none (zt I q (by simp))
  |bl j=>ext ry;calc PySem.EqMixed.ne_str_bool (zt I q (by simp))
  |int j=>let(t',rfl):=ry;calc PySem.EqMixed.ne_str_int (zt I q (by simp))
  |str j=>let(t',rfl):=ry;calc ne_str (zt I q (Ba not SS))
  |_=>calc absurd (show false=true from hs) Ax
 |byt i=>
  let(t,rfl):=rx;cases y with
  |byt j=>let(t',rfl):=ry;calc PySem.W.ne_bytes (zt I q (Ba not RO))
  |_=>calc absurd (show false=true from hs) Ax
 |_=>cases y <;> calc absurd (show false=true from hs) Ax
def LY:OpR X (compareOp .Lt) (rI0 λi j=> .bl (decide (i<j))):=LA λ_ _ _ _ _ _ _ q=>lt_int q
def T8:OpR X (compareOp .LtE) (rI0 λi j=> .bl (decide (i<=j))):=LA λ_ _ _ _ _ _ _ q=>le_int q
def XW:OpR X (compareOp .Gt) (rI0 λi j=> .bl (decide (j<i))):=LA λ_ _ _ _ _ _ _ q=>gt_int q
def j5:OpR X (compareOp .GtE) (rI0 λi j=> .bl (decide (j<=i))):=LA λ_ _ _ _ _ _ _ q=>ge_int q
def OpR.or{f:Y2}{r r':R2}(h:OpR X f r)(h':OpR X f r'):OpR X f (λx y H Q=>r x y H Q\/r' x y H Q):=by
 intro zB s Y H x y v u Q I rx ry q;rcases q with q|q
 .exact h zB s Y H x y v u Q I rx ry q
 .exact h' zB s Y H x y v u Q I rx ry q
def Ej(b:Expr){op:CmpOp}(h:op≠.In:=by decide)(h2:op≠.NotIn:=by decide):behindInMarks op b=false:=by
 let e1:(op==CmpOp.In)=false:=by cases op <;> first|rfl|exact absurd rfl h
 let e2:(op==CmpOp.NotIn)=false:=by cases op <;> first|rfl|exact absurd rfl h2
 cases b <;> simp[behindInMarks,e1,e2]
def p6{op:CmpOp}{r:R2}(ho:OpR X (compareOp op) r)(ha:PE X a ta)(hb:PE X b tb)(hm:behindInMarks op b=false):PE X (.Compare a [op] [b] pos) (tOp r ta tb):=by
 intro zB s Y H Q I h;calc wpAny_Compare1 (Np ha hb I h λv u s2 x y H2 I2 rx ry q=>ho zB s2 Y H2 x y v u Q I2 rx ry q) hm
def Jy(t:TE):TT:=λY H Q=>t Y H λx H'=>∃k,x=.bl k/\Q k H'
def i6{op:CmpOp}{r:R2}(ho:OpR X (compareOp op) r)(ha:PE X a ta)(hb:PE X b tb)(hm:behindInMarks op b=false):PT X (.Compare a [op] [b] pos) (Jy (tOp r ta tb)):=by
 intro zB s Y H Q I h;refine wpAny_isTrue_Compare1 (thn (ha zB s Y H _ I h) λv s1 ⟨x,H1,I1,r1,q1⟩=>thn (hb zB s1 Y H1 _ I1 q1) λu s2 ⟨y,H2,I2,r2,q2⟩=>
  thn (ho zB s2 Y H2 x y v u _ I2 r1 r2 q2) λc s3 ⟨z,H3,I3,r3,k,e,q3⟩=>?_) hm
 subst e;ext r3;calc EO #[H3,I3,q3]
def Qm(r r':R2)(ta tb tc:TE):TE:=λY H Q=>ta Y H λx H1=>tb Y H1 λy H2=>r x y H2 λz H3=>∃k,z=.bl k /\
 (if k=true then tc Y H3 λw' H4=>r' y w' H4 Q else Q (.bl false) H3)
def Wk{op op':CmpOp}{r r':R2}(ho:OpR X (compareOp op) r)(ho':OpR X (compareOp op') r')(ha:PE X a ta)(hb:PE X b tb)(hc:PE X c tc)
  (hm:lastMarks [op,op'] [b,c]=false:=by with_unfolding_all rfl):PE X (.Compare a [op,op'] [b,c] pos) (Qm r r' ta tb tc):=by
 intro zB s Y H Q I h;refine Compare_chain (thn (ha zB s Y H _ I h) λv s1 ⟨x,H1,I1,r1,q1⟩=>chain_link (thn (hb zB s1 Y H1 _ I1 q1) λu s2 ⟨y,H2,I2,r2,q2⟩=>
  thn (ho zB s2 Y H2 x y v u _ I2 r1 r2 q2) λd s3 ⟨z,H3,I3,r3,k,e,q3⟩=>?_)) hm
 subst e;ext r3;calc EO ?_;cases k with
 |false=>calc ite_ff #[.bl false,H3,I3,rfl,q3]
 |true=>calc ite_tt (chain_last (thn (hc zB s3 Y H3 _ I3 q3) λw' s4 ⟨z',H4,I4,r4,q4⟩=>ho' zB s4 Y H4 y z' u w' Q I4 r2 r4 q4))
def SV(K:Yb)(x:V)(H:Hp)(k:Bool):Prop :=
 match x with
 |.non=>k=false
 |.bl b=>k=b
 |.int i=>k=(i != 0)
 |.str y=>y.length<=sizeLine/\k=((y.length:Int) != 0)
 |.byt y=>y.size<=sizeLine/\k=((y.size:Int) != 0)
 |.ref p=>(∃xs,SqL K H p xs/\k = !xs.isEmpty)\/(∃xs,SqT K H p xs/\k = !xs.isEmpty)\/∃kvs,H p=some (.dK kvs)/\k = !kvs.isEmpty
 |_=>False
def bV{κ:Type}{kvs:List (κ×V)}{vs:List (κ×Value)}(r:KV kvs vs):(!vs.isEmpty) = !kvs.isEmpty:=by
 cases r <;> rfl
def Qq{xs:List V}{its:Yf}(r:zd xs its):(!its.toArray.isEmpty) = !xs.isEmpty:=by
 cases r <;> simp
def G4:(sizeLine:Nat)<2 ^ 63:=by rw[sizeLine_eq];decide
def Vl:XG X (λx H Q=>∃k,SV X.K x H k/\Q k H):=by
 intro zB s Y H x v Q I rx h;let(k,e,q):=h;let hl:=G4;let hs:sizeLine=16777216:=sizeLine_eq;cases x with
 |non=>
  ext rx;let e':k=false:=e;subst e';calc truthy_none #[H,I,q]
 |bl b=>
  ext rx;let e':k=b:=e;subst e';calc EO #[H,I,q]
 |int i=>
  let(t,rfl):=rx;let e':k=(i != 0):=e;subst e';calc PySem.P.truthy_int #[H,I,q]
 |str y=>
  let(t,rfl):=rx;obtain⟨hy,e'⟩:y.length<=sizeLine/\k=((y.length:Int) != 0):=e;subst e';calc PySem.P.truthy_str () #[H,I.tok _,q]
 |byt y=>
  let(t,rfl):=rx;obtain⟨hy,e'⟩:y.size<=sizeLine/\k=((y.size:Int) != 0):=e;subst e';calc PySem.W.truthy_bytes () #[H,I.tok _,q]
 |ref p=>
  ext rx;let e':(∃xs,SqL X.K H p xs/\k = !xs.isEmpty)\/(∃xs,SqT X.K H p xs/\k = !xs.isEmpty)\/∃kvs,H p=some (.dK kvs)/\k = !kvs.isEmpty:=e;rcases e' with⟨xs,hx,e'⟩|⟨xs,hx,e'⟩|⟨kvs,hx,e'⟩
  .subst e';let(its,r,pl,hz):=I.list hx;let hlen:=r.length;exact wpAny_truthy_list pl.isList (by simp only[AX];omega) #[H,I.tok _,by rw[Qq r];calc q]
  .subst e';let(its,r,pl,hz):=I.tuple hx;let hlen:=r.length;exact truthy_tuple pl (by simp only[AX];omega) #[H,I.tok _,by rw[Qq r];calc q]
  .subst e';obtain⟨hz,hS,vs,r,m⟩:kvs.length<=sizeLine/\(p==sysModules)=false/\∃vs,KV kvs vs/\s.heap.DictOf (BY X.prog X.w) p vs:=I.hok p _ hx;let hlen:kvs.length=vs.length:=Paired.length r;calc wpAny_truthy_dict hS m () #[H,I.tok _,by rw[bV r];calc q]
 |_=>calc(show False from e).elim
def bE(ha:PE X a ta)(he:∀whole,isTrue a X.env whole=(do let v <- whole;standAt a.pos;holding [v] (truthy v))):
  PT X a (λY H Q=>ta Y H λx H'=>∃k,SV X.K x H' k/\Q k H'):=by
 intro zB s Y H Q I h;calc isTrue_plain (thn (ha zB s Y H _ I h) λv s1 ⟨x,H1,I1,r1,q1⟩=>Vl zB s1 Y H1 x v Q I1 r1 q1) (he _)
def DZ{x:V}{us:Yf}(r:zd [x] us):∃u,us=[u]/\zh x u:=by
 cases r with
 |cons r1 r2=>ext r2;calc#[_,rfl,r1]
def UJ{x y:V}{us:Yf}(r:zd [x,y] us):∃u w',us=[u,w']/\zh x u/\zh y w':=by
 cases r with
 |cons r1 r2=>
  cases r2 with
  |cons r3 r4=>ext r4;calc#[_,_,rfl,r1,r3]
def Uq:B1 X (.builtin "abs") (λxs H Q=>∃i,xs=[.int i]/\Q (.int (if i<0 then -i else i)) H):=by
 intro zB s Y H xs us Q I r h;let(i,rfl,q):=h;let(u,rfl,t,rfl):=DZ r;calc call_abs_int λu tk=>#[.int (if i<0 then -i else i),H,I.tok _,#[_,rfl],q]
def fH(hc:X.calm=true):B1 X (.builtin "max") (λxs H Q=>∃i j,xs=[.int i,.int j]/\Q (.int (if j>i then j else i)) H):=by
 intro zB s Y H xs us Q I r h;let(i,j,rfl,q):=h;let(u,w',rfl,(t,rfl),(t',rfl)):=UJ r;refine max_two_ints (I.ok.hd hc) λh' tk k=>#[_,H,I.kept k,?_,q];by_cases hj:j>i
 .rw[AB hj,AB hj];exact#[_,rfl]
 .rw[AE hj,AE hj];calc#[_,rfl]
def eN(hc:X.calm=true):B1 X (.builtin "min") (λxs H Q=>∃i j,xs=[.int i,.int j]/\Q (.int (if j<i then j else i)) H):=by
 intro zB s Y H xs us Q I r h;let(i,j,rfl,q):=h;let(u,w',rfl,(t,rfl),(t',rfl)):=UJ r;refine min_two_ints (I.ok.hd hc) λh' tk k=>#[_,H,I.kept k,?_,q];by_cases hj:j<i
 .rw[AB hj,AB hj];exact#[_,rfl]
 .rw[AE hj,AE hj];calc#[_,rfl]
def qW:B1 X (.type "int") (λxs H Q=>(∃i,xs=[.int i]/\Q (.int i) H)\/∃k,xs=[.bl k]/\Q (.int (if k then 1 else 0)) H):=by
 intro zB s Y H xs us Q I r h;rcases h with⟨i,rfl,q⟩|⟨k,rfl,q⟩
 .obtain⟨u,rfl,t,rfl⟩:=DZ r;exact call_int_int #[.int i,H,I,#[_,rfl],q]
 .obtain⟨u,rfl,r1⟩:=DZ r;ext r1;calc call_int_bool #[.int (if k then 1 else 0),H,I.tok _,#[_,rfl],q]
end
structure ObjM(h:Heap)(x dx C:Yt)(mA:Yh):Prop where
 obj:h.get? x=some (PySem.W.instObj C dx)
 ns:h.Ns1 dx mA
 ne:dx≠x
def W9{h:Heap}{dx:Yt}{mA:Yh}(n:h.Ns1 dx mA):∃od,h.get? dx=some od/\∀name,PySem.W.lookIn name od=some (mA name):=by
 let(o,es,ep,ho,hd,hk,_,hm):=n;refine#[o,ho,λname=>?_];let e:=hm name;erw[nsFind,findBy]at e;rw[<-Array.find?_toList]at e;erw[PySem.W.lookIn];rw[hd];symm;split
 .intros y q;rw[q]at e;exact Ba some e
 .intros q;rw[q]at e;let a:es.toList.any (·.refKey)=false:=by
   rw[List.any_eq_false];intro y hy;let(z,t,hkey):=hk y (Array.mem_toList_iff.mp hy);simp[DictEntry.refKey,hkey]
  let a':¬ es.toList.any (·.refKey)=true:=by rw[a];exact Ax
  rw[AE a'];calc Ba some e
def ObjM.look{h:Heap}{x dx C:Yt}{mA:Yh}(I:ObjM h x dx C mA):∃od,PySem.W.InstAt h x (PySem.W.instObj C dx) C (some od)/\∀name,PySem.W.lookIn name od=some (mA name) :=
 let⟨od,ho,hl⟩:=W9 I.ns
 #[od,#[I.obj,rfl,rfl,ho],hl]
def DG.some_of{v:V}{o:Option Value}(r:DG (some v) o):∃u,o=some u/\zh v u:=by
 cases o with
 |none=>calc(show False from r).elim
 |some u=>calc#[u,rfl,r]
section
variable{P:Ym}{w:Yo}{H H':Hp}{h h':Heap}{a C dx:Yt}{fs fs':List (Str×V)}
def nJ(hok:HOk P w H h)(e:H a=some (.ins C dx fs)):∃mA,ObjM h a dx C mA/\(∀f,DG (fs.lookup f) (mA f))/\PySem.Within mA (fs.map (·.1))/\fs.length<=1000/\H dx=some (.own a):=by
 let(d,z,ne,ob,mA,n,r,q):=(show Ah P w H h a (.ins C dx fs)from hok a _ e);calc#[mA,#[ob,n,ne],r,q,z,d]
end
structure Cls(K:Yb)(C:Yt):Prop where
 pg:PySem.W.plainGet K C Str.empty=true
 hd:PySem.W.hasDictIn K C=true
 po:PySem.W.plainOver K C=true
 sa:PySem.W.findIn K (.ref C) "__setattr__" = some (some (.builtin "object.__setattr__"))
def Cls.get{K:Yb}{C:Yt}(c:Cls K C)(f:Str):PySem.W.plainGet K C f=true:=c.pg
section
variable{X:Cx}{zB:Yd}{Y:St}{H:Hp}{s:Yl}{A:Yn}{E:Yc}{Q:Yc}{c:Yu}{b:Bool}
set_option genInjectivity true in
inductive TyOf(K:Yb)(H:Hp):V->Value->Prop where
 |non:TyOf K H .non (.type "NoneType")
 |bl (x:Bool):TyOf K H (.bl x) (.type "bool")
 |int (i:Int):TyOf K H (.int i) (.type "int")
 |str (x:Str):TyOf K H (.str x) (.type "str")
 |flt (x:UInt64):TyOf K H (.flt x) (.type "float")
 |lst {a:Addr} {xs:List V} (e:H a=some (.lst xs)):TyOf K H (.ref a) (.type "list")
 |frz {a:Addr} {o:Obj} {xs:List V} (e:H a=some (.frz o (.lst xs))):TyOf K H (.ref a) (.type "list")
 |tup {a:Addr} {xs:List V} (e:H a=some (.tup xs)):TyOf K H (.ref a) (.type "tuple")
 |dK {a:Addr} {kvs:List (Key×V)} (e:H a=some (.dK kvs)):TyOf K H (.ref a) (.type "dict")
 |dT {a:Addr} {kvs:List (List Key×V)} (e:H a=some (.dT kvs)):TyOf K H (.ref a) (.type "dict")
 |ins {a C dx:Addr} {fs:List (Str×V)} (e:H a=some (.ins C dx fs)) (cl:Cls K C) (ha:PySem.W.findIn K (.ref C) "__class__" = some (some (.builtin "object.__class__")))
   (hn:PySem.W.specialIn K (.builtin "object.__class__") "__get__" = some (some (.builtin "getset_descriptor.__get__"))) (htk:PySem.W.takesIn K (.builtin "object.__class__")=some true)
   (hm:PySem.W.mroIn K C (.type "object")=some true):TyOf K H (.ref a) (.ref C)
def mK{x:V}{u t:Yu}(I:Inv X zB Y H s)(rx:zh x u)(ty:TyOf X.K H x t)(e:PySem.W.kitOne X.K t c=some b)(h:∀tk,Q (.bool b) {s with toks:=tk}):
  wpAny (model X.prog X.w) A (call (.builtin "isinstance") [u,c]) Q E s:=by
 cases ty with
 |non=>cases (show u=Value.none from rx);exact Du PySem.W.kitx_none I.kIn True.intro e (λz=>nomatch z) h
 |bl y=>cases (show u=Value.bool y from rx);exact Du PySem.W.kitx_bool I.kIn True.intro e (λz=>nomatch z) h
 |int i=>let(t,q):=(show∃t,u=Value.int i t from rx);ext q;exact Du PySem.W.kitx_int I.kIn True.intro e (λz=>nomatch z) h
 |str y=>let(t,q):=(show∃t,u=Value.str y t from rx);ext q;exact Du PySem.W.kitx_str I.kIn True.intro e (λz=>nomatch z) h
 |flt y=>let(t,q):=(show∃t,u=Value.float y t from rx);ext q;exact Du PySem.W.kitx_float I.kIn True.intro e (λz=>nomatch z) h
 | @lst a xs ea=>
  cases (show u=Value.ref a from rx);let(_,_,n,_,h1):=(show Ah X.prog X.w H s.heap a (.lst xs)from I.hok a _ ea);exact Du PySem.W.kitx_list I.kIn #[_,h1,rfl] e (λz=>nomatch z) h
 | @frz a ob xs ea=>
  cases (show u=Value.ref a from rx);let(_,_,_,n,_,h1):=(show Ah X.prog X.w H s.heap a (.frz ob (.lst xs))from I.hok a _ ea);exact Du PySem.W.kitx_list I.kIn #[_,h1,rfl] e (λz=>nomatch z) h
 | @tup a xs ea=>
  cases (show u=Value.ref a from rx);let(_,_,_,p):=(show Ah X.prog X.w H s.heap a (.tup xs)from I.hok a _ ea);let(o,h1,h2,_):=p;exact Du PySem.W.kitx_tuple I.kIn #[o,h1,h2] e (λz=>nomatch z) h
 | @dK a kvs ea=>
  cases (show u=Value.ref a from rx);let(_,_,vs,_,p):=(show Ah X.prog X.w H s.heap a (.dK kvs)from I.hok a _ ea);let(o,es,ep,h1,h2,_):=p;exact Du PySem.W.kitx_dict I.kIn #[o,h1,h2.1] e (λz=>nomatch z) h
 | @dT a kvs ea=>
  cases (show u=Value.ref a from rx);let(_,_,xs,_,o,es,ep,h1,h2,_):=(show Ah X.prog X.w H s.heap a (.dT kvs)from I.hok a _ ea);exact Du PySem.W.kitx_dict I.kIn #[o,h1,h2.1] e (λz=>nomatch z) h
 | @ins a C dx fs ea cl ha hn htk hm=>
  cases (show u=Value.ref a from rx);let(mA,O,_):=nJ I.hok ea;let(od,J,_):=O.look;calc Du (PySem.W.kitx_own (cl.get _) cl.hd ha hn htk hm) I.kIn J e (λz=>nomatch z) h
end
structure Room(k:Nat)(A:Yn):Prop where
 hd:A.handled=none
 dp:A.depth+3*k+5<recursionLimit
 un:A.units+16*k+200<cLine
def Room.mono{j k:Nat}{A:Yn}(r:Room k A)(h:j<=k):Room j A:=#[r.hd,by have:=r.dp;omega,by have:=r.un;omega]
def Room.deeper{k:Nat}{A:Yn}(r:Room (k+1) A)(env:Env):Room k (A.deeper env) :=
 #[r.hd,by have:=r.dp;show A.depth+1+3*k+5<_;omega,by have:=r.un;show A.units+3+16*k+200<_;omega]
def Room.depth{k:Nat}{A:Yn}(r:Room k A):A.depth<recursionLimit:=by have:=r.dp;omega
def Room.units{k:Nat}{A:Yn}(r:Room k A):A.units+64<cLine:=by have:=r.un;omega
def Room.units0{k:Nat}{A:Yn}(r:Room k A):A.units<cLine:=by have:=r.un;omega
def mC:TA:=λ_ H Q=>Q [] H
def Ww(ta:TE)(tr:TA):TA:=λY H Q=>ta Y H λx H1=>tr Y H1 λxs H2=>Q (x::xs) H2
section
variable{X:Cx}{e:Expr}{es:Yi}{te:TE}{t:TA}{pos:Pos}
def Gq:PA X [] mC:=λ_ _ _ _ H Q I h=>Calls.spliced_nil #[[],H,I,.nil,h]
def EN(ha:PE X e te)(hr:PA X es t)(hs:starEach (e::es) X.env=(false,eval e X.env)::starEach es X.env:=by rfl):PA X (e::es) (Ww te t):=by
 intro pos zB s Y H Q I h;rw[hs];show wpAny _ _ (spliced ((false,eval e X.env)::backTo pos (starEach es X.env))) _ _ s;refine Calls.spliced_cons (thn (ha zB s Y H _ I h) λu s1 ⟨x,H1,I1,r1,q1⟩=>?_);calc thn (hr pos zB s1 Y H1 _ I1 q1) λus s2 ⟨xs,H2,I2,r2,q2⟩=>#[x::xs,H2,I2,.cons r1 r2,q2]
def VC(t:TA):TE:=λY H Q=>t Y H λxs H1=>xs.length<=sizeLine/\∀p,H1 p=none->Q (.ref p) (upd H1 p (.tup xs))
def Wn(t:TA):TE:=λY H Q=>t Y H λxs H1=>xs.length<=sizeLine/\∀p,H1 p=none->Q (.ref p) (upd H1 p (.lst xs))
def Wj{x1}(h:PA X es t):PE X (.Tuple es x1 pos) (VC t):=by
 intro zB s Y H Q I hq;refine wpAny_Tuple_spliced (thn (h pos zB s Y H _ I hq) λus s1 ⟨xs,H1,I1,r,z,q⟩=>#[by rw[<-r.length];calc z,?_]);let hf:H1 ⇑s1=none:=I1.hok.fresh (AF _);refine#[.ref ⇑s1,upd H1 ⇑s1 (.tup xs),I1.laid (t':=s1.toks) (λb u e=>AJ _ e) (AF _) ?_,rfl,q _ hf];calc#[z,us,r,#[_,AS _ rfl,rfl,#[_,rfl],rfl]]
def mU(h:PA X es t):PE X (.List es pos) (Wn t):=by
 intro zB s Y H Q I hq;refine wpAny_List_spliced (thn (h pos zB s Y H _ I hq) λus s1 ⟨xs,H1,I1,r,z,q⟩=>#[by rw[<-r.length];calc z,?_]);let hf:H1 ⇑s1=none:=I1.hok.fresh (AF _);refine#[.ref ⇑s1,upd H1 ⇑s1 (.lst xs),I1.laid (t':=s1.toks) (λb u e=>AJ _ e) (AF _) ?_,rfl,q _ hf];calc#[z,us,0,r,AS _ rfl]
end
abbrev Sp:=List V->Hp->VK->XK->Prop
abbrev CXT:=List Env->Hp->Shared->XK->Value->Shared->Prop
structure Env0(P:Ym)(w:Yo)(K:Yb)(mg:Yh)(base:Heap)(A:Yn)(outer:List Env)(s:Yl)(H:Hp):Prop where
 frames:A.frames=some outer
 mod:Mod K mg base
 bs:∀b o,base.get? b=some o->s.heap.get? b=some o/\H b=none
 bsz:base.objs.size<=⇑s
 funs:s.heap.FunFrames base outer
 frf:∀b∈frs outer,H b=none
 hok:HOk P w H s.heap
 bare:AllBare s.gens
def CE(outer:List Env)(P:Ym)(w:Yo)(H:Hp)(s:Yl)(Q:VK)(u:Yu)(s':Yl):Prop :=
 ∃v H',s'.os=s.os/\AllBare s'.gens/\Un (frs outer) [] H H' s.heap s'.heap/\HOk P w H' s'.heap/\zh v u/\Q v H'
def CR(CX:CXT)(outer:List Env)(P:Ym)(w:Yo)(H:Hp)(s:Yl)(Q:VK)(E:XK)(r:Result)(s':Yl):Prop :=
 match r with
 |.ok (.ret u)=>CE outer P w H s Q u s'
 |.ok _=>False
 |.error e=>CX outer H s E e s'
structure FnOk(P:Ym)(w:Yo)(K:Yb)(mg:Yh)(base:Heap)(CX:CXT)(k:Nat)(f:Yt)(fd:Yz)(ps:Yk)(sp:Sp):Prop where
 len:∀vs H Q E,sp vs H Q E->vs.length=ps.length
 run:∀(A:Yn)(outer:List Env)(s:Yl)(H:Hp)(args:Args)(us:Yf)(vs:List V)(Q:VK)(E:XK),Room k A->Env0 P w K mg base A outer s H->BindsTo s fd args (ps.zip us)->zd vs us->sp vs H Q E ->
  codeAny (model P w) A (.call (.ref f) args) (CR CX outer P w H s Q E) s
def FnOk.mono{P:Ym}{w:Yo}{K:Yb}{mg:Yh}{base:Heap}{CX:CXT}{j k:Nat}{f:Yt}{fd:Yz}{ps:Yk}{sp:Sp}(F:FnOk P w K mg base CX j f fd ps sp)(h:j<=k):
  FnOk P w K mg base CX k f fd ps sp:=#[F.len,λA outer s H args us vs Q E hr=>F.run A outer s H args us vs Q E (hr.mono h)]
def FnOk.imp{P:Ym}{w:Yo}{K:Yb}{mg:Yh}{base:Heap}{CX:CXT}{k:Nat}{f:Yt}{fd:Yz}{ps:Yk}{sp sp':Sp}(F:FnOk P w K mg base CX k f fd ps sp)
  (h:∀vs H Q E,sp' vs H Q E->sp vs H Q E):FnOk P w K mg base CX k f fd ps sp' :=
 #[λvs H Q E q=>F.len vs H Q E (h _ _ _ _ q),λA outer s H args us vs Q E hr he hb hv hs=>F.run A outer s H args us vs Q E hr he hb hv (h _ _ _ _ hs)]
section
variable{X:Cx}{zB:Yd}{Y:St}{H:Hp}{s s':Yl}
def Inv.env0(I:Inv X zB Y H s):Env0 X.prog X.w X.K X.mg X.base X.A X.stack s H :=
 #[I.ok.frames,I.ok.mod,I.bs,Ab I.ok.bsz I.sz,I.stack,I.stkFree,I.hok,I.bare]
def Inv.after{Q:VK}{u:Yu}(I:Inv X zB Y H s)(h:CE X.stack X.prog X.w H s Q u s'):EP X zB Y Q u s':=by
 let(v,H',os,bare,un,hok,r,q):=h;let(hh,g,d,t,os'):=s';obtain rfl:os'=s.os:=os;calc#[v,H',I.call (h':=hh) (g':=g) (d':=d) (t':=t) (ch:=[]) un hok bare (λb z=>absurd z (by simp)),r,q]
end
def XZ(sp:Sp)(dvs:List V)(E:XK)(t:TA):TE:=λY H Q=>t Y H λvs H1=>sp (vs++dvs) H1 Q E
def Eo(K:Yb)(fd:Yz)(ps:Yk)(ds:Yf):Prop :=
 ∀(s:Yl)(us:Yf),K.In s.heap->(us++ds).length=ps.length->BindsTo s fd #[us,[]] (ps.zip (us++ds))
def Eo.all{K:Yb}{fd:Yz}{ps:Yk}(h:∀us:List Value,us.length=ps.length->bindArgs fd #[us,[]]=pure (ps.zip us)):Eo K fd ps []:=λs us _ hl=>by
 rw[BI]at hl ⊢;calc .of_eq (h us hl)
def Ob(CX:CXT)(X:Cx)(E:XK):Prop:=∀(zB:Yd)(Y:St)(H:Hp)(s:Yl)(e:Yu)(s':Yl),Inv X zB Y H s->CX X.stack H s E e s'->X.xe e s'
section
variable{X:Cx}{CX:CXT}{k:Nat}{f C:Yt}{fd:Yz}{ps:Yk}{sp:Sp}{dvs:List V}{ds:Yf}{E:XK}{x m:Str}{p pos apos:Pos}{e o:Expr}{es:Yi}{ta:TE}{t:TA}
def Ri{zB:Yd}{Y:St}{H:Hp}{s:Yl}{Q:VK}{us:Yf}{vs:List V}(F:FnOk X.prog X.w X.K X.mg X.base CX k f fd ps sp)(hr:Room k X.A)(hb:Eo X.K fd ps ds)(hd:zd dvs ds)(hx:Ob CX X E)
  (I:Inv X zB Y H s) (r:zd vs us) (h:sp (vs++dvs) H Q E):wpAny (model X.prog X.w) X.A (call (.ref f) us) (EP X zB Y Q) X.xe s:=by
 let r2:zd (vs++dvs) (us++ds):=r.append hd;let hl:(us++ds).length=ps.length:=by rw[<-r2.length];exact F.len _ _ _ _ h
 refine wpAny_call (codeAny_mono (F.run X.A X.stack s H #[us,[]] (us++ds) (vs++dvs) Q E hr I.env0 (hb s us I.kIn hl) r2 h) λr s' hq=>?_);cases r with
 |error e=>calc hx zB Y H s e s' I hq
 |ok fl=>
  cases fl with
  |ret u=>calc I.after hq
  |next=>calc False.elim hq
  |brk=>calc False.elim hq
  |cont=>calc False.elim hq
def aS(F:FnOk X.prog X.w X.K X.mg X.base CX k f fd ps sp)(hr:Room k X.A)(hg:Gl X x)(hm:X.mg x=some (.ref f))(hk:PySem.W.keepIn X.K (.ref f)=true)(hb:Eo X.K fd ps ds)(hd:zd dvs ds)(hx:Ob CX X E)
  (ha:PA X (e::es) t) (hdb:(x==("__debug__" : Str))=false:=by decide) (he:starEach (e::es) X.env=(false,eval e X.env)::starEach es X.env:=by rfl) (hpl:(backTo pos (starEach es X.env)).any (·.1)=false:=by rfl):
  PE X (.Call (.Name x p) (e::es) [] pos) (XZ sp dvs E t):=by
 intro zB s Y H Q I h;calc wpAny_Call_Name_kw (SN I hg hm ?_ hdb);refine PySem.W.callWith_K (h₀:=X.base) I.ok.mod.kin hk (thn (ha pos zB s Y H _ I h) λus s1 ⟨vs,H1,I1,r,q⟩=>#[I1.kIn,?_]) he hpl;calc Ri F hr hb hd hx I1 r q
end
structure FnScope(N P:Yk)(sc:Y0):Prop where
 kind:sc.kind=.function
 co:sc.isCoroutine=false
 gen:sc.isGenerator=false
 nd:N.Nodup
 pre:N.take P.length=P
 par:∀x∈P,sc.names.lookup x=some .local\/sc.names.lookup x=some .cell
 nofree:∀y∈sc.names,y.2≠.free
theorem Qt{kindOf:Str->Option NameKind}{x:Str}:∀{binds:List (Str×Value)}{m:Yh},(∀v,(x,v)∉binds)->bindL kindOf binds m x=m x
 |[],_,_=>rfl
 | (n,v)::r,m,h=>by
  erw[bindL];rw[Qt λw hw=>h w (Aa _ hw)];split
  .have:x≠n:=by rintro rfl;exact h v AR
   simp[this]
  .rfl
theorem Qh{kindOf:Str->Option NameKind}{x:Str}:∀{binds:List (Str×Value)}{m:Yh},(∀v,(x,v)∉binds)->bindC kindOf binds m x=m x
 |[],_,_=>rfl
 | (n,v)::r,m,h=>by
  erw[bindC];rw[Qh λw hw=>h w (Aa _ hw)];split
  .rfl
  .have:x≠n:=by rintro rfl;exact h v AR
   simp[this]
theorem SF{kindOf:Str->Option NameKind}{x:Str}{v:Yu}:∀{P:Yk}{vs:Yf}{i:Nat}{m:Yh},P.Nodup->P[i]?=some x->vs[i]?=some v->kindOf x=some .local ->
  bindL kindOf (P.zip vs) m x=some v
 |[],_,_,_,_,h,_,_=>by simp at h
 |_::_,[],_,_,_,_,h,_=>by simp at h
 |p::P,w::vs,0,m,nd,h1,h2,hk=>by
  simp at h1 h2;subst h1;subst h2;show bindL kindOf ((p,w)::P.zip vs) m p=_;erw[bindL];rw[Qt λv hv=>(FR.mp nd).1 (List.of_mem_zip hv).1,AB hk];simp
 |p::P,w::vs,i+1,m,nd,h1,h2,hk=>by
  show bindL kindOf ((p,w)::P.zip vs) m x=_;erw[bindL];calc SF (i:=i) (FR.mp nd).2 (~~~h1) (~~~h2) hk
theorem SR{kindOf:Str->Option NameKind}{x:Str}{v:Yu}:∀{P:Yk}{vs:Yf}{i:Nat}{m:Yh},P.Nodup->P[i]?=some x->vs[i]?=some v->kindOf x≠some .local ->
  bindC kindOf (P.zip vs) m x=some v
 |[],_,_,_,_,h,_,_=>by simp at h
 |_::_,[],_,_,_,_,h,_=>by simp at h
 |p::P,w::vs,0,m,nd,h1,h2,hk=>by
  simp at h1 h2;subst h1;subst h2;show bindC kindOf ((p,w)::P.zip vs) m p=_;erw[bindC];rw[Qh λv hv=>(FR.mp nd).1 (List.of_mem_zip hv).1,AE hk];simp
 |p::P,w::vs,i+1,m,nd,h1,h2,hk=>by
  show bindC kindOf ((p,w)::P.zip vs) m x=_;erw[bindC];calc SR (i:=i) (FR.mp nd).2 (~~~h1) (~~~h2) hk
def ES(N:Yk)(vs:List V):St:=vs.map some++List.replicate (N.length-vs.length) none
def Ff(CX:CXT)(P:Ym)(w:Yo)(K:Yb)(mg:Yh)(base:Heap)(N:Yk)(qual:Str)(scope:Y0)(f:Yt)(cd:Yu)(A:Yn)(outer:List Env)(s:Yl)(H:Hp)(E:XK):Cx where
 prog:=P
 w:=w
 K:=K
 mg:=mg
 base:=base
 A:=A.deeper (envOfC qual scope ⇑s f cd)
 N:=N
 s₀:=s
 H₀:=H
 env:=envOfC qual scope ⇑s f cd
 outer:=outer
 stack:=envOfC qual scope ⇑s f cd::outer
 ex:=[]
 calm:=true
 fn:=λ_=>true
 pn:=[]
 xe:=λe s'=>wpAny (model P w) (A.deeper (envOfC qual scope ⇑s f cd)) (leaving (envOfC qual scope ⇑s f cd) e) (λ_ s''=>CX outer H s E e s'') (λe' s''=>CX outer H s E e' s'') s'
def MX{sc:Y0}{n:Nat}{x:Str}(h:sc.names.lookup x=some .cell):∃c,(cellsFrom n sc.names []).lookup x=some c:=by
 let q:=PySem.W.cellsFrom_some sc.names n [] (.inl h);calc Option.isSome_iff_exists.mp q
def Us{CX:CXT}{P:Ym}{w:Yo}{K:Yb}{mg:Yh}{base:Heap}{N ps:Yk}{qual:Str}{scope:Y0}{f:Yt}{cd:Yu}{A:Yn}{outer:List Env}{s s1:Yl}{H:Hp}{E:XK}{us:Yf}{vs:List V}
  (S:FnScope N ps scope) (hd:A.handled=none) (e0:Env0 P w K mg base A outer s H) (hl:vs.length=ps.length) (r:zd vs us)
  (x:InCallC s ⇑s (bindL (envOfC qual scope ⇑s f cd).kindOf (ps.zip us) λ_=>none) (cellsFrom (⇑s+1) scope.names []) (bindC (envOfC qual scope ⇑s f cd).kindOf (ps.zip us) λ_=>none) s1):
  Inv (Ff CX P w K mg base N qual scope f cd A outer s H E) [] (ES N vs) H s1:=by
 let hpl:ps.length<=N.length:=by have:=Ba List.length S.pre;rw[D4]at this;omega
 let(h1,tk,rfl,hk):=x.done;let noA:∀b:Addr,b∉(Ff CX P w K mg base N qual scope f cd A outer s H E).ex:=λb z=>absurd (show b∈([]:List Addr)from z) (by simp)
 refine#[#[e0.mod,S.kind,rfl,rfl,AF _,λy z c h1 h2=>?_,λy hy=>?_,λy c _ h=>?_,λ_=>hd,Around.frames_deeper e0.frames,.inr #[rfl,rfl],λb z=>absurd z (noA b),e0.bs,e0.bsz,λb _ _=>noA b,λb z=>absurd z (noA b),e0.funs,e0.frf],
  rfl,e0.bare,Un.kept hk,#[_,x.toInCall.ns,λi y v h1 h2 h3=>?_],λy c h=>#[_,x.cell y c h],e0.hok.fresh (AF _),λy c h=>?_,λp hp=>absurd (show p∈([]:List (Addr×Obj))from hp) (by simp),e0.hok.kept hk,?_]
 .exact name_of_addr x.apart (CO h1) (CO h2)
 .have hy:scope.names.lookup y=some .cell\/scope.names.lookup y=some .free:=hy;rcases hy with hy|hy
  .exact MX hy
  .exact absurd rfl (S.nofree _ (CO hy))
 .exact DW (x.above y c (CO h))
 .have hi:i<vs.length:=by
   erw[ES]at h2;by_cases hi:i<vs.length
   .exact hi
   .rw[CV (~~~hi)]at h2;rw[List.getElem?_replicate]at h2;split at h2 <;> ext h2
  let ha:vs[i]?=some v:=by
   erw[ES]at h2;rw[AM (~~~hi),Au]at h2;cases e:vs[i]? with
   |none=>rw[e]at h2;ext h2
   |some a=>rw[e]at h2;ext h2;rfl
  let(u,hu,rv):=r.get ha;let hp:ps[i]?=some y:=by
   rw[<-S.pre,List.getElem?_take_of_lt ()];exact h1
  let ndP:ps.Nodup:=by rw[<-S.pre];exact S.nd.sublist (List.take_sublist _ _)
  calc#[u,rv,?_];rcases S.par y (Ca hp)with k|k
  .exact .inl #[k,SF ndP hp hu k]
  .obtain⟨c,e⟩:=MX (n:=⇑s+1) k;calc .inr #[.inl k,c,e,?_];let q:=x.cell y c e;rw[SR ndP hp hu (by show scope.names.lookup y≠_;rw[k];decide)]at q;exact q
 .exact e0.hok.fresh (DW (x.above y c (CO h)))
 .unfold ES;show _=N.length;rw[AW,AG,List.length_replicate];omega
def Qp{CX:CXT}{P:Ym}{w:Yo}{K:Yb}{mg:Yh}{base:Heap}{k:Nat}{f:Yt}{name qual:Str}{params:Arguments}{body:Yy}{scope:Y0}{dV kV doc pm cdv ct oc:Yu}{an od:Option Addr}
  {osl:Array (Option Value)} {N ps:Yk} {sp:Sp} (lk:K.lookup f=some #[oc,od,.func (PySem.W.fnOf name qual params body scope dV kV doc pm an cdv ct),osl]) (hcd:PySem.W.codeIn K cdv qual=true) (S:FnScope N ps scope)
  (len:∀vs H Q E,sp vs H Q E->vs.length=ps.length)
  (hbody:∀(A:Yn)(outer:List Env)(s:Yl)(H:Hp)(vs:List V)(Q:VK)(E:XK),Room k (A.deeper (envOfC qual scope ⇑s f cdv))->sp vs H Q E ->
   ∃t,PSs (Ff CX P w K mg base N qual scope f cdv A outer s H E) body t/\t {nx:=λ_ H'=>Q .non H',rt:=Q} (ES N vs) H):
  FnOk P w K mg base CX (k+1) f (PySem.W.fnOf name qual params body scope dV kV doc pm an cdv ct) ps sp:=by
 refine#[len,λA outer s H args us vs Q E hr e0 hb r hsp=>?_];let hl:=len _ _ _ _ hsp;let KX:K.In s.heap:=e0.mod.kin.keeps λb o e=>(e0.bs b o e).1;let lim:s.heap.NoLimit:=e0.mod.nolimit.keeps λb o e=>(e0.bs b o e).1;let hkind:∀y∈ps.zip us,scope.names.lookup y.1=some .local\/(scope.names.lookup y.1=some .cell/\((cellsFrom (⇑s+1) scope.names []).lookup y.1).isSome=true):=λ⟨n,v⟩ hy=>by
  rcases S.par n (List.of_mem_zip hy).1 with q|q
  .exact .inl q
  .exact .inr #[q,PySem.W.cellsFrom_some _ _ _ (.inl q)]
 refine codeAny_call_function hr.depth (KX _ _ lk) rfl S.co S.gen rfl (PySem.W.codeRec_of KX hcd) (hb _ _ _ _ ?_);refine wpAny_newFunctionEnv_cells S.kind hkind λenv he s1 x=>?_;subst he;refine#[lim.keeps x.toInCall.keep,codeAny_func ?_];let(t,ht,hq):=hbody A outer s H vs Q E (hr.deeper _) hsp;let I:Inv (Ff CX P w K mg base N qual scope f cdv A outer s H E) [] (ES N vs) H s1:=Us S hr.hd e0 hl r x;refine AQ (ht [] s1 (ES N vs) H _ I hq) (λfl s' hs=>?_) λe s' hs=>hs;let fin:∀{Y':St}{H':Hp}{v:V}{u:Yu},Inv (Ff CX P w K mg base N qual scope f cdv A outer s H E) [] Y' H' s'->zh v u->Q v H'->CE outer P w H s Q u s' :=
  λ{Y' H' v u} J rv q=>#[v,H',J.os,J.bare,J.base,J.hok,rv,q]
 cases fl with
 |ret u=>
  let(v,Y',H',J,rv,q):=hs;calc fin J rv q
 |next=>
  let(Y',H',J,q):=hs;calc fin (v:=V.non) (u:=Value.none) J rfl q
 |brk=>
  let(_,_,_,q):=hs;calc False.elim q
 |cont=>
  let(_,_,_,q):=hs;calc False.elim q
section
variable{X:Cx}{x:Str}{p pos:Pos}{e:Expr}{es:Yi}{t:TA}{id T:String}{r:List V->Hp->VK->Prop}
def tCB(r:List V->Hp->VK->Prop)(t:TA):TE:=λY H Q=>t Y H λvs H1=>r vs H1 Q
def Rf(hc:B1 X (.builtin id) r)(hg:Gl X x)(hm:X.mg x=none)(hv:bootBuiltins x=some (.builtin id))(ha:PA X (e::es) t)(hn:x ≠ "__name__" := by decide)(hdb:(x==("__debug__" : Str))=false:=by decide)
  (he:starEach (e::es) X.env=(false,eval e X.env)::starEach es X.env:=by rfl) (hpl:(backTo pos (starEach es X.env)).any (·.1)=false:=by rfl):PE X (.Call (.Name x p) (e::es) [] pos) (tCB r t):=by
 intro zB s Y H Q I h;calc wpAny_Call_Name_kw (Gf I hg hm hv ?_ hn hdb);calc PyProof.Rows.callWith_builtin1 (thn (ha pos zB s Y H _ I h) λus s1 ⟨vs,H1,I1,r1,q1⟩=>hc zB s1 Y H1 vs us Q I1 r1 q1) he hpl
def JX(hc:B1 X (.type T) r)(hg:Gl X x)(hm:X.mg x=none)(hv:bootBuiltins x=some (.type T))(ha:PA X (e::es) t)(hn:x ≠ "__name__" := by decide)(hdb:(x==("__debug__" : Str))=false:=by decide)
  (he:starEach (e::es) X.env=(false,eval e X.env)::starEach es X.env:=by rfl) (hpl:(backTo pos (starEach es X.env)).any (·.1)=false:=by rfl):PE X (.Call (.Name x p) (e::es) [] pos) (tCB r t):=by
 intro zB s Y H Q I h;calc wpAny_Call_Name_kw (Gf I hg hm hv ?_ hn hdb);calc PyProof.Rows.callWith_type1 (thn (ha pos zB s Y H _ I h) λus s1 ⟨vs,H1,I1,r1,q1⟩=>hc zB s1 Y H1 vs us Q I1 r1 q1) he hpl
end
end L2
namespace HT
open PySem PyProof.Rows
section
variable{prog:Ym}{w:Yo}{A:Yn}{E:Yc}{s:Yl}
def dP{t b:Yt}{vs ws:Yf}{Q:Yc}(ht:IsTup s.heap t vs.toArray)(hb:IsTup s.heap b ws.toArray)(hv:vs≠[])
  (h1:ws=[]->Q (.ref t) s) (h2:ws≠[]->Q (.ref ⇑s) {s with heap:=s.heap.push {cls:=.type "tuple",data:=.seq (vs++ws).toArray} })
  (hsz:vs.length+ws.length<=sizeLine):wpAny (model prog w) A (binaryOp .Add (.ref t) (.ref b)) Q E s:=by
 let((cls,dd,data,sl),ho,hc,n,hd):=id ht;let((cls2,dd2,data2,sl2),ho2,hc2,n2,hd2):=id hb;simp only at hc hd hc2 hd2;subst hc hd hc2 hd2;let e:vs.toArray++ws.toArray=(vs++ws).toArray:=by simp
 by_cases hw:ws=[]
 .exact concat_meets #[_,ho,rfl] #[_,ho2,rfl] noFill_tuple_add seq_tuple_add PySem.F.slot_tuple_add PySem.F.entry_tuple_add (PySem.F.args_tuple_add_2 _ _)
   (tuple_addW1 t b vs.toArray ws.toArray n n2 dd dd2 sl sl2 (~~~hv) (by simp[hw])) #[ho,ho2,h1 hw]
 .refine concat_meets #[_,ho,rfl] #[_,ho2,rfl] noFill_tuple_add seq_tuple_add PySem.F.slot_tuple_add PySem.F.entry_tuple_add (PySem.F.args_tuple_add_2 _ _)
   (tuple_addW2 t b vs.toArray ws.toArray n n2 dd dd2 sl sl2 (~~~hv) (~~~hw) (by rw[AX,AX];calc hsz)) #[ho,ho2,?_]
  rw[e];calc h2 hw
def sIx(n d:Nat):Option Int->Nat
 |none=>d
 |some v=>if v<0 then(v+(n:Int)).toNat else min v.toNat n
def SG(n d k:Nat):sIx n d (some (k:Int))=min k n:=by
 show(if(k:Int)<0 then((k:Int)+(n:Int)).toNat else min (k:Int).toNat n)=min k n;rw[AE (),FU]
def l7(n d:Nat)(hd:d<=n)(o:Ys):sIx n d o<=n:=by
 cases o with
 |none=>calc hd
 |some v=>
  show(if v<0 then(v+(n:Int)).toNat else min v.toNat n)<=n;by_cases hv:v<0
  .rw[AB hv];omega
  .rw[AE hv];calc Nat.min_le_right _ _
def Td(v:Int)(n d:Nat):(if v<0 then max (v+(n:Int)) 0 else min v (n:Int))=((sIx n d (some v):Nat):Int):=by
 show(if v<0 then max (v+(n:Int)) 0 else min v (n:Int))=(((if v<0 then(v+(n:Int)).toNat else min v.toNat n):Nat):Int);by_cases hv:v<0
 .simp only[AB hv];omega
 .simp only[AE hv];omega
def Y3(lo hi:Ys)(n:Nat):Builtin.Slice.sliceAdjust lo hi 1 (n:Int)=(((sIx n 0 lo:Nat):Int),((sIx n n hi:Nat):Int)):=by
 let h1:¬ ((1:Int)<0):=()
 erw[Builtin.Slice.sliceAdjust];simp only[h1,if_false];refine Prod.ext ?_ ?_
 .cases lo with
  |none=>rfl
  |some v=>exact Td v n 0
 .cases hi with
  |none=>rfl
  |some v=>calc Td v n n
def fT(i j:Nat):Builtin.Slice.slicePlaces (i:Int) (j:Int) 1=j-i:=by
 erw[Builtin.Slice.slicePlaces];let h1:(1:Int)>0:=()
 simp only[h1,if_true,Int.ediv_one];split <;> omega
def S9{v:Yu}{o:Ys}{Q:Option Int->Shared->Prop}(p:IsPart v o)(h:Q o s):wpAny (model prog w) A (Builtin.Slice.slicePartIndex v) Q E s:=by
 cases p with
 |none=>calc slicePart_none h
 |int i t=>calc slicePart_int h
def Sk{sl:Yt}{vl vu:Yu}{lo hi:Ys}{n:Nat}{Q:Int×Int×Nat->Shared->Prop}(hs:s.heap.IsSliceOf sl vl vu .none)(pl:IsPart vl lo)(pu:IsPart vu hi)
  (h:Q (((sIx n 0 lo:Nat):Int),1,sIx n n hi-sIx n 0 lo) s):wpAny (model prog w) A (Builtin.Slice.sliceApplied (.ref sl) (pure (n:Int))) Q E s:=by
 let(os,hos,hcs,hds):=id hs;erw[Builtin.Slice.sliceApplied,Builtin.Slice.sliceFields];calc AA (AA (Bi hos hds (x:=vl) rfl (AA (Bi hos hds (x:=vu) rfl (AA (Bi hos hds (x:=.none) rfl (AD ?_)))))));calc AA (slicePart_none ?_);show wpAny _ _ (if((1:Int)==0)=true then _ else _) _ _ s;rw[AE ()];calc AA (S9 pl (AA (S9 pu (AA (AD ?_)))));show wpAny _ _ (match Builtin.Slice.sliceAdjust lo hi 1 (n:Int)with|(lo,hi)=>pure (lo,(1:Int),Builtin.Slice.slicePlaces lo hi 1)) _ _ s;rw[Y3 lo hi n];show wpAny _ _ (pure (((sIx n 0 lo:Nat):Int),(1:Int),Builtin.Slice.slicePlaces ((sIx n 0 lo:Nat):Int) ((sIx n n hi:Nat):Int) 1)) _ _ s;rw[fT];calc AD h
def iZ(xs:Yp)(i k:Nat):((List.range k).filterMap λ(m:Nat)=>xs[((i:Int)+(m:Int)*1).toNat]?).toArray=((xs.toList.drop i).take k).toArray:=by
 let e:(λ(m:Nat)=>xs[((i:Int)+(m:Int)*1).toNat]?)=λm=>xs[i+m]?:=by
  funext m;have:((i:Int)+(m:Int)*1).toNat=i+m:=()
  rw[this]
 rw[e];have:=pick_run xs i k;rw[List.filterMap_map]at this;let e2:((λx=>xs[x]?)∘λx=>i+x)=λm=>xs[i+m]?:=rfl;rw[e2]at this;rw[this]
def jF{t sl:Yt}{items:Yp}{vl vu:Yu}{lo hi:Ys}{Q:Yc}(ht:IsTup s.heap t items)(hs:s.heap.IsSliceOf sl vl vu .none)(pl:IsPart vl lo)(pu:IsPart vu hi)
  (hw:¬ (sIx items.size 0 lo=0/\sIx items.size items.size hi=items.size))
  (h:Q (.ref ⇑s) {s with heap:=s.heap.push {cls:=.type "tuple",data:=.seq ((items.toList.drop (sIx items.size 0 lo)).take (sIx items.size items.size hi-sIx items.size 0 lo)).toArray} })
  (hsz:items.size<=sizeLine):wpAny (model prog w) A (getItem (.ref t) (.ref sl)) Q E s:=by
 let htake:sizeOk (.seq ((items.toList.drop (sIx items.size 0 lo)).take (sIx items.size items.size hi-sIx items.size 0 lo)).toArray):=by
  show((items.toList.drop (sIx items.size 0 lo)).take (sIx items.size items.size hi-sIx items.size 0 lo)).toArray.size<=sizeLine;rw[AX,D4,FX,BU];omega
 let hj:sIx items.size items.size hi<=items.size:=l7 _ _ (AF _) hi;let(os,hos,hcs,hds):=id hs;let hTs:s.TypeIs (.ref sl) "slice" := #[os,hos,hcs];erw[getItem];try with_reducible refine Bu ?_
 first|refine AA (AD ?_)|skip
 refine AA (wpAny_sequenceKey ht.typeIs () ?_)
 refine AA (CP (name:=Str.ofString "__getitem__") ht.typeIs Hs
  (BQ Hs ht.typeIs entry_tuple_getitem ?_ (args_tuple_getitem _ _)))
 show wpAny _ _ (Builtin.Tuple.tupleItemsOf (.ref t) >>= _) _ _ s;refine AA (tupleItemsOf_ ht ?_);refine AA (wpAny_typeOf hTs ?_);rw[AB ()];refine AA (Sk hs pl pu ?_);let hno:¬ ((((sIx items.size 0 lo:Nat):Int)==0&&(1:Int)==1&&(sIx items.size items.size hi-sIx items.size 0 lo)==items.size)=true):=by
  intro q;rw[BB,BB]at q;let q1:((sIx items.size 0 lo:Nat):Int)=0:=eq_of_beq q.1.1;let q2:sIx items.size items.size hi-sIx items.size 0 lo=items.size:=eq_of_beq q.2;exact hw #[(),()]
 show wpAny _ _ (if(((sIx items.size 0 lo:Nat):Int)==0&&(1:Int)==1&&(sIx items.size items.size hi-sIx items.size 0 lo)==items.size)=true then _ else _) _ _ s;rw[AE hno,iZ]
 first
  |calc AA (m:=Builtin.Tuple.tupleExact _) (BH (AD #[_,rfl,AD h]) htake)
  |calc AA (m:=Builtin.Tuple.tupleExact _) (BH (AA (AD (AD #[_,rfl,AD h]))) htake)
  |calc AA (AA (m:=Builtin.Tuple.tupleExact _) (BH (AD (AD #[_,rfl,AD h])) htake))
  |calc AA (AA (m:=Builtin.Tuple.tupleExact _) (BH (AD #[_,rfl,AD h]) htake))
end
end HT
namespace L2
abbrev TO:=St->Hp->(Option Int->Hp->Prop)->Prop
def PO(X:Cx)(e:Option Expr)(t:TO):Prop :=
 ∀(zB:Yd)(s:Yl)(Y:St)(H:Hp)(Q:Option Int->Hp->Prop),Inv X zB Y H s->t Y H Q ->
  wpAny (model X.prog X.w) X.A (evalPart e X.env) (λu s'=>∃o H',Inv X zB Y H' s'/\IsPart u o/\Q o H') X.xe s
def bJ:TO:=λ_ H Q=>Q none H
def mO(t:TE):TO:=λY H Q=>t Y H λx H1=>∃i,x=.int i/\Q (some i) H1
section
variable{X:Cx}{e:Expr}{te:TE}{lo hi:Option Expr}{tl th:TO}{pos p2:Pos}
def VG:PO X none bJ:=by
 intro zB s Y H Q I h;rw[evalPart_none];calc AD #[none,H,I,.none,h]
def eW(h:PE X e te):PO X (some e) (mO te):=by
 intro zB s Y H Q I hw;rw[evalPart_some];refine thn (h zB s Y H _ I hw) λu s1 ⟨x,H1,I1,r1,q1⟩=>?_;let(i,rfl,q):=q1;let(t,rfl):=r1;calc#[some i,H1,I1,.int i t,q]
def SlR(X:Cx)(r:V->Option Int->Option Int->Hp->VK->Prop):Prop :=
 ∀(zB:Yd)(s:Yl)(Y:St)(H:Hp)(x:V)(v vl vu:Yu)(lo hi:Ys)(sl:Yt)(Q:VK),Inv X zB Y H s->zh x v->s.heap.IsSliceOf sl vl vu .none->IsPart vl lo->IsPart vu hi->r x lo hi H Q ->
  ∃T id,typeLookup (.type T) "__getitem__" = pure (some (.builtin id))/\s.TypeIs v T/\wpAny (model X.prog X.w) X.A (getItem v (.ref sl)) (EP X zB Y Q) X.xe s
def SlR.or{r r':V->Option Int->Option Int->Hp->VK->Prop}(h:SlR X r)(h':SlR X r'):SlR X (λx lo hi H Q=>r x lo hi H Q\/r' x lo hi H Q):=by
 intro zB s Y H x v vl vu lo hi sl Q I rx hs pl pu q;rcases q with q|q
 .exact h zB s Y H x v vl vu lo hi sl Q I rx hs pl pu q
 .exact h' zB s Y H x v vl vu lo hi sl Q I rx hs pl pu q
def tSl(r:V->Option Int->Option Int->Hp->VK->Prop)(te:TE)(tl th:TO):TE:=λY H Q=>te Y H λx H1=>tl Y H1 λl H2=>th Y H2 λu H3=>r x l u H3 Q
def eB{r:V->Option Int->Option Int->Hp->VK->Prop}(hr:SlR X r)(he:PE X e te)(hl:PO X lo tl)(hu:PO X hi th):PE X (.Subscript e (.Slice lo hi none p2) pos) (tSl r te tl th):=by
 intro zB s Y H Q I h;refine Subscript_ (thn (he zB s Y H _ I h) λv s1 ⟨x,H1,I1,r1,q1⟩=>?_);refine wpAny_Slice (thn (hl zB s1 Y H1 _ I1 q1) λvl s2 ⟨l,H2,I2,pl,q2⟩=>thn (hu zB s2 Y H2 _ I2 q2) λvu s3 ⟨u,H3,I3,pu,q3⟩=>?_);rw[evalPart_none];calc AD ?_;let I4:Inv X zB Y H3 {s3 with heap:=s3.heap.push {cls:=.type "slice",data:=.fields ([vl,vu,.none].toArray) } }:=I3.kept (t':=s3.toks) λb ob q=>AJ _ q;let(T,id,hT,ht,hg):=hr zB {s3 with heap:=s3.heap.push {cls:=.type "slice",data:=.fields ([vl,vu,.none].toArray) } } Y H3 x v vl vu l u ⇑s3 Q I4 r1 (Heap.IsSliceOf.new ..) pl pu q3;show wpAny (model X.prog X.w) X.A (subscriptTail e (.Slice lo hi none p2) v (.ref ⇑s3)) (EP X zB Y Q) X.xe {s3 with heap:=s3.heap.push {cls:=.type "slice",data:=.fields ([vl,vu,.none].toArray) } };calc tail_any (ops:=[.ref ⇑s3,v]) ht hT hg (by with_unfolding_all rfl)
def GH(xs:List V)(lo hi:Ys):List V:=(xs.drop (HT.sIx xs.length 0 lo)).take (HT.sIx xs.length xs.length hi-HT.sIx xs.length 0 lo)
def Rh(xs:List V)(lo hi:Ys):(GH xs lo hi).length<=xs.length:=by
 erw[GH];rw[D4,FX];omega
def Wy(K:Yb):V->Option Int->Option Int->Hp->VK->Prop:=λx lo hi H Q=>∃a xs,x=.ref a/\SqT K H a xs /\
 ¬ (HT.sIx xs.length 0 lo=0/\HT.sIx xs.length xs.length hi=xs.length)/\∀p,H p=none->Q (.ref p) (upd H p (.tup (GH xs lo hi)))
def gK:SlR X (Wy X.K):=by
 intro zB s Y H x v vl vu lo hi sl Q I rx hs pl pu h;let(a,xs,rfl,hx,hw,q):=h;ext rx;let(its,r,ht,hz):=I.tuple hx;let hlen:its.toArray.size=xs.length:=by rw[AX];exact r.length.symm
 calc#["tuple",_,Hs.lookup,ht.typeIs,?_];calc HT.jF ht hs pl pu (by rw[hlen];calc hw) ?_ (by rw[hlen];calc hz);rw[hlen];refine#[.ref ⇑s,_,I.laid (t':=s.toks) (o:=.tup (GH xs lo hi)) (λb ob q=>AJ _ q) (AF _) ?_,rfl,q _ (I.hok.fresh (AF _))];calc#[Ab (Rh xs lo hi) hz,_,(r.drop (HT.sIx xs.length 0 lo)).take (HT.sIx xs.length xs.length hi-HT.sIx xs.length 0 lo),D6.new _ _]
def Pa(K:Yb):R2:=λx y H Q=>∃a b xs ys,x=.ref a/\y=.ref b/\SqT K H a xs/\SqT K H b ys/\xs≠[]/\xs.length+ys.length<=sizeLine /\
 (ys=[]->Q (.ref a) H)/\(ys≠[]->∀p,H p=none->Q (.ref p) (upd H p (.tup (xs++ys))))
def zd.nil_iff{xs:List V}{us:Yf}(r:zd xs us):us=[]↔xs=[]:=by
 cases r with
 |nil=>simp
 |cons _ _=>simp
def jE:OpR X (binaryOp .Add) (Pa X.K):=by
 intro zB s Y H x y v u Q I rx ry h;let(a,b,xs,ys,rfl,rfl,ha,hb,hx,hz,q1,q2):=h;ext rx;ext ry;let(its,r1,p1,_):=I.tuple ha;let(its2,r2,p2,_):=I.tuple hb;refine HT.dP p1 p2 (λz=>hx (r1.nil_iff.mp z)) (λz=>#[.ref a,H,I,rfl,q1 (r2.nil_iff.mp z)]) (λz=>?_) (by rw[<-r1.length,<-r2.length];calc hz);refine#[.ref ⇑s,_,I.laid (t':=s.toks) (o:=.tup (xs++ys)) (λb ob q=>AJ _ q) (AF _) ?_,rfl,q2 (λw=>z (r2.nil_iff.mpr w)) _ (I.hok.fresh (AF _))];calc#[by rw[AW];calc hz,_,r1.append r2,D6.new _ _]
end
def ixN(n:Nat)(i:Int):Option Nat:=if 0<=i then(if i<n then some i.toNat else none)else if -(n:Int)<=i then some (i+n).toNat else none
def atI{α:Type}(xs:List α)(i:Int):Option α:=(ixN xs.length i).bind λj=>xs[j]?
def LW{n:Nat}{i:Int}{j:Nat}(h:ixN n i=some j):seqIndex? i n=some j/\j<n /\ -(n:Int)<=i/\i<n:=by
 erw[ixN]at h;by_cases h0:0<=i
 .rw[AB h0]at h;by_cases h1:i<n
  .rw[AB h1]at h;let e:i.toNat=j:=Be h;exact#[by rw[seqIndex_of h0 h1,e],(),(),h1]
  .rw[AE h1]at h;ext h
 .rw[AE h0]at h;by_cases h1: -(n:Int)<=i
  .rw[AB h1]at h;let e:(i+n).toNat=j:=Be h;exact#[by rw[seqIndex_neg () h1,e],(),h1,()]
  .rw[AE h1]at h;ext h
def Mg{α:Type}{xs:List α}{i:Int}{v:α}(h:atI xs i=some v):∃j,seqIndex? i xs.length=some j/\xs[j]?=some v/\j<xs.length /\ -(xs.length:Int)<=i/\i<xs.length:=by
 erw[atI]at h;cases e:ixN xs.length i with
 |none=>rw[e]at h;ext h
 |some j=>
  rw[e]at h;let(h1,h2,h3,h4):=LW e;calc#[j,h1,h,h2,h3,h4]
def EI{α:Type}{xs:List α}{j:Nat}{v:α}(h:xs[j]?=some v):atI xs (j:Int)=some v:=by
 let hj:j<xs.length:=(AI.mp h).1;let e:ixN xs.length (j:Int)=some j:=by
  erw[ixN];rw[AB (),AB ()];simp
 erw[atI];rw[e];calc h
def SA(b:Expr):Prop:=∀o i,subscripted b false o i=operate [o,i] (getItem o i)
def IxR(X:Cx)(r:R2):Prop :=
 ∀(value slice:Expr)(zB:Yd)(s:Yl)(Y:St)(H:Hp)(x y:V)(v u:Yu)(Q:VK),Inv X zB Y H s->zh x v->zh y u->r x y H Q ->
  subscripted slice false v u=operate [v,u] (getItem v u)->wpAny (model X.prog X.w) X.A (subscriptTail value slice v u) (EP X zB Y Q) X.xe s
def MtR(X:Cx)(id:String)(r:V->List V->Hp->VK->Prop):Prop :=
 ∀(zB:Yd)(s:Yl)(Y:St)(H:Hp)(x:V)(xs:List V)(v:Yu)(us:Yf)(Q:VK),Inv X zB Y H s->zh x v->zd xs us->r x xs H Q ->
  wpAny (model X.prog X.w) X.A (call (.builtin id) (v::us)) (EP X zB Y Q) X.xe s
section
variable{X:Cx}{a b:Expr}{ta tb:TE}{pos:Pos}
def IxR.or{r r':R2}(h:IxR X r)(h':IxR X r'):IxR X (λx y H Q=>r x y H Q\/r' x y H Q):=by
 intro value slice zB s Y H x y v u Q I rx ry q hs;rcases q with q|q
 .exact h value slice zB s Y H x y v u Q I rx ry q hs
 .exact h' value slice zB s Y H x y v u Q I rx ry q hs
def pS{r:R2}(hr:IxR X r)(ha:PE X a ta)(hb:PE X b tb)(hs:SA b):PE X (.Subscript a b pos) (tOp r ta tb):=by
 intro zB s Y H Q I h;calc Subscript_ (Np ha hb I h λv u s2 x y H2 I2 rx ry q=>hr a b zB s2 Y H2 x y v u Q I2 rx ry q (hs _ _))
def RN(K:Yb):R2:=λx y H Q=>∃p xs i v,x=.ref p/\y=.int i/\SqL K H p xs/\atI xs i=some v/\Q v H
def PB(K:Yb):R2:=λx y H Q=>∃p xs i v,x=.ref p/\y=.int i/\SqT K H p xs/\atI xs i=some v/\Q v H
def Q8:R2:=λx y H Q=>∃z i c,x=.str z/\y=.int i/\z.length<=sizeLine/\atI z.cps.toList i=some c/\Q (.str ⟨#[c]⟩) H
def oI:IxR X (RN X.K):=by
 intro value slice zB s Y H x y v u Q I rx ry h hs;let(p,xs,i,z,rfl,rfl,hq,he,q):=h;ext rx;let(t,rfl):=ry;let(its,r,pl,hz):=I.list hq;let(j,h1,h2,h3,h4,h5):=Mg he;let(w,ew,rw'):=r.get h2;let hl:=r.length;let hn:=G4;let fin:EP X zB Y Q w s:=#[z,H,I,rw',q];by_cases h0:0<=i
 .have hj:i.toNat=j:=by
   rw[seqIndex_of h0 h5]at h1;exact Be h1
  exact item_listR pl.isList h0 () (by rw[hj];simpa using ew) fin hs
 .have hj:(i+(its.toArray.size:Int)).toNat=j:=by
   rw[seqIndex_neg () h4]at h1;rw[AX,<-hl];exact Be h1
  exact subscriptTail_builtinR (x:=w) pl.isList.typeIs slot_list_getitem.lookup
   (wpAny_getItem_list_neg (Q:=λr s'=>r=w/\EP X zB Y Q r s') pl.isList () (by rw[AX] <;> omega) () (by rw[hj];simpa using ew) #[rfl,fin]) hs
def ZK:IxR X (PB X.K):=by
 intro value slice zB s Y H x y v u Q I rx ry h hs;let(p,xs,i,z,rfl,rfl,hq,he,q):=h;ext rx;let(t,rfl):=ry;let(its,r,pl,hz):=I.tuple hq;let(j,h1,h2,h3,h4,h5):=Mg he;let(w,ew,rw'):=r.get h2;let hl:=r.length;let hn:=G4;let fin:EP X zB Y Q w s:=#[z,H,I,rw',q]
 exact subscriptTail_builtinR (x:=w) pl.typeIs slot_tuple_getitem.lookup
  (getItem_tuple (j:=j) (Q:=λr s'=>r=w/\EP X zB Y Q r s') pl () () (by rw[AX,<-hl];calc h1) (~~~ew) #[rfl,fin]) hs
def eU:IxR X Q8:=by
 intro value slice zB s Y H x y v u Q I rx ry h hs;let(z,i,c,rfl,rfl,hz,he,q):=h;let(t,rfl):=rx;let(t',rfl):=ry;let(j,h1,h2,h3,h4,h5):=Mg he;let hl:z.cps.toList.length=z.length:=by simp[Str.length]
 rw[hl]at h1 h4 h5;let hn:=G4;exact tail_any (typeIs_str s z t) slot_str_getitem.lookup (getItem_str (c:=c) (by
  let e1:decide (i < -(2 ^ 63:Int))=false:=Aw ();let e2:decide (i≥2 ^ 63)=false:=Aw ();rw[e1,e2,Bool.or_false]) (by rw[h1];simpa using h2) #[.str ⟨#[c]⟩,H,I.tok _,#[_,rfl],q]) hs
def rIx(K:Yb):R2:=λx y H Q=>RN K x y H Q\/PB K x y H Q\/Q8 x y H Q
def ZE:IxR X (rIx X.K):=oI.or (ZK.or eU)
def W7(its:List Value)(n j:Nat)(u:Value):Obj.mapSeq (·.setIfInBounds j u) {cls:=.type "list",data:=.seq its.toArray n}={cls:=.type "list",data:=.seq (its.set j u).toArray n}:=by
 simp[Obj.mapSeq]
def Inv.lst{zB:Yd}{Y:St}{H:Hp}{s:Yl}{p:Yt}{xs:List V}(I:Inv X zB Y H s)(h:H p=some (.lst xs)):
  ∃(its:List Value)(n:Nat),zd xs its/\s.heap.get? p=some {cls:=.type "list",data:=.seq its.toArray n}/\xs.length<=sizeLine:=by
 let(z,its,n,r,e):=I.hok p _ h;calc#[its,n,r,e,z]
def Inv.lstUpd{zB:Yd}{Y:St}{H:Hp}{s:Yl}{p:Yt}{xs ys:List V}{its its':Yf}{n n':Nat}{f:Obj->Obj}(I:Inv X zB Y H s)(h:H p=some (.lst xs))
  (ho:s.heap.get? p=some {cls:=.type "list",data:=.seq its.toArray n}) (hf:f {cls:=.type "list",data:=.seq its.toArray n}={cls:=.type "list",data:=.seq its'.toArray n' }) (r:zd ys its') (hz:ys.length<=sizeLine) (t:Nat):
  Inv X zB Y (upd H p (.lst ys)) {s with heap:=s.heap.update p f,toks:=t}:=by
 let e:(s.heap.update p f).get? p=some {cls:=.type "list",data:=.seq its'.toArray n' }:=by
  rw[El f ho (by rw[hf] <;> rfl),hf]
 refine I.write (x:=p) (e:=p) (by rw[h];trivial) (.inl rfl) (λb u hb q=>(Er _ _ (Ne.symm hb)).trans q) #[_,e] ?_;calc#[hz,its',n',r,e]
def ZF:V->V->V->Hp->(Hp->Prop)->Prop:=λo i v H Q=>∃p xs k j,o=.ref p/\i=.int k/\H p=some (.lst xs)/\ixN xs.length k=some j/\Q (upd H p (.lst (xs.set j v)))
def eQ:UH X ZF:=by
 intro zB s Y H o i v ov iv u Q I ro ri rv h;let(p,xs,k,j,rfl,rfl,hp,hj,q):=h;ext ro;let(t,rfl):=ri;let(its,n,r,ho,hz):=I.lst hp;let(h1,h2,h3,h4):=LW hj;let hl:=r.length;let hn:=G4;let I':Inv X zB Y (upd H p (.lst (xs.set j v))) {s with heap:=s.heap.update p (Obj.mapSeq (·.setIfInBounds j u)) } :=
  I.lstUpd hp ho (W7 its n j u) (r.set rv j) (by rw[List.length_set];calc hz) s.toks
 by_cases h0:0<=k
 .have hk:k.toNat=j:=by
   rw[seqIndex_of h0 h4]at h1;exact Be h1
  exact PySem.W.ki_setAt ho h0 () (by rw[AX,<-hl];calc h4) (by rw[hk];calc#[_,I',q])
 .have hk:(k+(its.toArray.size:Int)).toNat=j:=by
   rw[seqIndex_neg () h3]at h1;rw[AX,<-hl];exact Be h1
  calc PySem.W.ki_setBack ho () (by rw[AX,<-hl];calc h3) () (by rw[hk];calc#[_,I',q])
def qI(lo hi:Ys)(n:Nat):(sliceBounds lo hi none n).1=((HT.sIx n 0 lo:Nat):Int)/\(sliceBounds lo hi none n).2.1=((HT.sIx n n hi:Nat):Int)/\(sliceBounds lo hi none n).2.2=1:=by
 refine#[?_,?_,rfl]
 .cases lo with
  |none=>simp[sliceBounds,HT.sIx]
  |some i=>
   simp only[sliceBounds,HT.sIx,Option.getD_none,show(1:Int)>0 by decide,if_true];by_cases h:i<0
   .simp only[h,if_true] <;> omega
   .simp only[h,if_false] <;> omega
 .cases hi with
  |none=>simp[sliceBounds,HT.sIx]
  |some i=>
   simp only[sliceBounds,HT.sIx,Option.getD_none,show(1:Int)>0 by decide,if_true];by_cases h:i<0
   .simp only[h,if_true] <;> omega
   .simp only[h,if_false] <;> omega
def j4(its:Yf)(lo hi:Ys):slicePick its.toArray lo hi none=((its.drop (HT.sIx its.length 0 lo)).take (HT.sIx its.length its.length hi-HT.sIx its.length 0 lo)).toArray:=by
 let(h1,h2,h3):=qI lo hi its.toArray.size;erw[slicePick];rw[h1,h2,h3];simp only[sliceRange_one,pick_run,AX] <;> rfl
def X4(K:Yb):V->Option Int->Option Int->Hp->VK->Prop:=λx lo hi H Q=>∃a xs,x=.ref a/\SqL K H a xs/\∀p,H p=none->Q (.ref p) (upd H p (.lst (GH xs lo hi)))
def o4:SlR X (X4 X.K):=by
 intro zB s Y H x v vl vu lo hi sl Q I rx hs pl pu h;let(a,xs,rfl,hx,q):=h;ext rx;let(its,r,ht,hz):=I.list hx;let hlen:=r.length;calc#["list",_,slot_list_getitem.lookup,ht.isList.typeIs,?_];refine wpAny_getItem_list_slice ht.isList hs pl pu .none (by simp) ?_ (by rw[AX] <;> omega);rw[j4,<-hlen];refine#[.ref ⇑s,_,I.laid (t':=s.toks) (o:=.lst (GH xs lo hi)) (λb ob q=>AJ _ q) (AF _) ?_,rfl,q _ (I.hok.fresh (AF _))];calc#[Ab (Rh xs lo hi) hz,_,0,(r.drop (HT.sIx xs.length 0 lo)).take (HT.sIx xs.length xs.length hi-HT.sIx xs.length 0 lo),AS _ rfl]
def U3:B1 X (.builtin "len") (λxs H Q=>∃p ys,xs=[.ref p]/\(SqL X.K H p ys\/SqT X.K H p ys)/\Q (.int ys.length) H):=by
 intro zB s Y H xs us Q I r h;let(p,ys,rfl,hq,q):=h;let(u,rfl,rx):=DZ r;ext rx;let hn:=G4;rcases hq with hq|hq
 .obtain⟨its,r',pl,hz⟩:=I.list hq;let hlen:=r'.length;exact Calls.call_len_list pl.isList (by simp only[AX] <;> omega) #[.int ys.length,H,I.tok _,#[s.toks+1,by rw[AX,hlen]],q]
 .obtain⟨its,r',pl,hz⟩:=I.tuple hq;let hlen:=r'.length;exact len_tuple pl (by simp only[AX] <;> omega) #[.int ys.length,H,I.tok _,#[s.toks+1,by rw[AX,hlen]],q]
def XM:B1 X (.type "tuple") (λxs H Q=>∃p ys,xs=[.ref p]/\((SqL X.K H p ys/\∀l,H l=none->Q (.ref l) (upd H l (.tup ys)))\/(SqT X.K H p ys/\Q (.ref p) H))):=by
 intro zB s Y H xs us Q I r h;let(p,ys,rfl,h):=h;let(u,rfl,rx):=DZ r;ext rx;rcases h with⟨hq,q⟩|⟨hq,q⟩
 .obtain⟨its,r',pl,hz⟩:=I.list hq;let hlen:=r'.length;refine call_tuple_list pl.isList (λh' kp=>?_) (by simp only[AX] <;> omega);let I1:Inv X zB Y H {s with heap:=h' }:=I.kept (t':=s.toks) kp;let I2:Inv X zB Y (upd H h'.objs.size (.tup ys)) {s with heap:=h'.push {cls:=.type "tuple",data:=.seq its.toArray} } :=
   I1.laid (t':=s.toks) (λb o e=>AJ _ e) (AF _) (show Ah X.prog X.w _ _ _ (.tup ys)from#[hz,its,r',D6.new _ _])
  exact#[.ref h'.objs.size,_,I2,rfl,q _ (I1.hok.fresh (AF _))]
 .obtain⟨its,r',pl,hz⟩:=I.tuple hq;calc call_tuple_same pl #[.ref p,H,I,rfl,q]
def tyV(K:Yb)(T:String)(x:V)(H:Hp):Prop:=match x with
 |.str _=>T = "str"
 |.int _=>T = "int"
 |.ref p=>(T = "list" /\ ∃xs,SqL K H p xs)\/(T = "tuple" /\ ((∃o,K.lookup p=some o/\o.cls=.type "tuple" /\ o.dict=none)\/∃xs,H p=some (.tup xs))) \/
   (T = "dict" /\ ((∃kvs,H p=some (.dK kvs))\/∃kvs,H p=some (.dT kvs)))\/(T = "set" /\ ∃S n,H p=some (.set S n))
 |_=>False
def pA{zB:Yd}{Y:St}{H:Hp}{s:Yl}{T:String}{x:V}{v:Yu}(I:Inv X zB Y H s)(r:zh x v)(ty:tyV X.K T x H):
  s.TypeIs v T/\∀a,v=.ref a->∃ob,s.heap.get? a=some ob/\ob.dict=none:=by
 cases x with
 |str z=>
  let(t,rfl):=r;cases (show T = "str" from ty);exact#[typeIs_str s z t,λ_ e=>nomatch e]
 |int i=>
  let(t,rfl):=r;cases (show T = "int" from ty);exact#[typeIs_int s i t,λ_ e=>nomatch e]
 |ref p=>
  ext r;rcases ty with⟨rfl,xs,hq⟩|⟨rfl,⟨o,hk,hc,hd⟩|⟨xs,hq⟩⟩|⟨rfl,hk⟩|⟨rfl,S,n,hk⟩
  .obtain⟨its,_,pl,_⟩:=I.list hq;refine#[pl.isList.typeIs,λa e=>?_];ext e;let(o,n,e,c,hd,_):=pl;exact#[o,e,hd]
  .refine#[#[o,I.kIn p o hk,hc],λa e=>?_];ext e;exact#[o,I.kIn _ o hk,hd]
  .obtain⟨_,its,_,o,e,c,_,hd⟩:=I.hok p _ hq;refine#[#[o,e,c],λa e2=>?_];ext e2;exact#[o,e,hd]
  .have z:∃o,s.heap.get? p=some o/\o.ExactDict:=by
    rcases hk with⟨kvs,hk⟩|⟨kvs,hk⟩
    .obtain⟨_,_,_,_,o,_,_,e,ex,_⟩:=I.hok p _ hk;exact#[o,e,ex]
    .obtain⟨_,_,_,_,o,_,_,e,ex,_⟩:=I.hok p _ hk;exact#[o,e,ex]
   let(o,e,ex):=z;refine#[#[o,e,ex.1],λa e2=>?_];ext e2;exact#[o,e,ex.2.1]
  .obtain⟨o,_,_,_,e,ex,_⟩:=I.hok p _ hk;refine#[#[o,e,ex.1],λa e2=>?_];ext e2;calc#[o,e,ex.2.1]
 |_=>calc False.elim ty
def tBM(K:Yb)(T:String)(r:V->List V->Hp->VK->Prop)(to:TE)(t:TA):TE:=λY H Q=>to Y H λx H1=>tyV K T x H1/\t Y H1 λxs H2=>r x xs H2 Q
variable{o e:Expr}{es:Yi}{to:TE}{t:TA}{name:Str}{apos cpos:Pos}{T id:String}{r:V->List V->Hp->VK->Prop}
def Jk(pa:PlainAttrs T)(slot:Slot T name id)(hty:typeOf (.builtin id)=pure (.type "method_descriptor"))(hm:MtR X id r)(ho:PE X o to)(ha:PA X (e::es) t)
  (hbase:attributeBase o name X.env (eval o X.env)=eval o X.env:=by rfl)
  (hfew:((backTo cpos (starEach (e::es) X.env)).all (λx=> !x.1)&&(backToKw cpos (keywordEach [] X.env)).all (λx=>x.1.isSome)
   && decide ((e::es).length+([]:List Keyword).length+(if([]:List Keyword).isEmpty then 0 else 1)<30))=true:=by rfl)
  (hline:(apos.endLine==cpos.line)=true:=by rfl) (hs:starEach (e::es) X.env=(false,eval e X.env)::starEach es X.env:=by rfl) (hplain:(backTo cpos (starEach es X.env)).any (·.1)=false:=by rfl):
  PE X (.Call (.Attribute o name apos) (e::es) [] cpos) (tBM X.K T r to t):=by
 intro zB s Y H Q I h;refine wpAny_Call_method_late hbase hfew hline rfl (thn (ho zB s Y H _ I h) λv s1 ⟨x,H1,I1,r1,ty,q1⟩=>?_);let(h1,h2):=pA I1 r1 ty;calc#[T,id,pa,slot,hty,h1,h2,?_];let hA:=ha cpos zB s1 Y H1 _ I1 q1;rw[hs]at hA ⊢;refine Hu (by show(false||(backTo cpos (starEach es X.env)).any (·.1))=false;rw[hplain] <;> rfl) (Calls.evalArgs_plain ?_);calc thn hA λus s2 ⟨vs,H2,I2,r2,q2⟩=>hm zB s2 Y H2 x vs v us Q I2 r1 r2 q2
end
def MtM(X:Cx)(id:String)(r:V->List V->Hp->VK->Prop):Prop :=
 ∀(zB:Yd)(s:Yl)(Y:St)(H:Hp)(x:V)(xs:List V)(v:Yu)(us:Yf)(Q:VK),Inv X zB Y H s->zh x v->zd xs us->r x xs H Q ->
  wpAny (model X.prog X.w) X.A (call (.builtin id) (v::us)) (EP X zB Y Q) X.xe s
def zd.one:∀{x:V}{us:Yf},zd [x] us->∃u,us=[u]/\zh x u:=by rintro x _ (_|⟨r,_|_⟩);exact#[_,rfl,r]
def zd.two:∀{x y:V}{us:Yf},zd [x,y] us->∃u v,us=[u,v]/\zh x u/\zh y v:=by rintro x y _ (_|⟨r,_|⟨q,_|_⟩⟩);exact#[_,_,rfl,r,q]
def zd.eraseIdx:∀{xs:List V}{us:Yf}(i:Nat),zd xs us->zd (xs.eraseIdx i) (us.eraseIdx i)
 |_,_,_,.nil=> .nil
 |_,_,0,.cons _ t=>t
 |_,_,i+1,.cons r t=> .cons r (zd.eraseIdx i t)
theorem Qr{α:Type}:∀(l:List α)(i:Nat),(l.eraseIdx i).length<=l.length
 |[],_=>AF _
 |_::_,0=>Cw _
 |_::r,i+1=>Nat.succ_le_succ (Qr r i)
section
variable{X:Cx}{zB:Yd}{Y:St}{H:Hp}{s:Yl}{l b:Yt}{xs ys zs:List V}
def Inv.lset{its its':Yf}{n:Nat}{f:Array Value->Array Value}{t':Nat}(I:Inv X zB Y H s)(hH:H l=some (.lst xs))
  (e:s.heap.get? l=some {cls:=.type "list",data:=.seq its.toArray n}) (hf:f its.toArray=its'.toArray) (hv:zd ys its') (hz:ys.length<=sizeLine):
  Inv X zB Y (upd H l (.lst ys)) {s with heap:=s.heap.update l (Obj.mapSeq f),toks:=t' }:=by
 let q:=PySem.IsL.update e f;rw[hf]at q;refine I.write (x:=l) (e:=l) (by rw[hH];calc trivial) (.inl rfl) (λb' u hb hu=>(Er s.heap (Obj.mapSeq f) (Ne.symm hb)).trans hu) #[_,q] ?_;calc#[hz,its',_,hv,q]
def Inv.lnew{its:Yf}{t':Nat}(I:Inv X zB Y H s)(hv:zd ys its)(hz:ys.length<=sizeLine):
  Inv X zB Y (upd H ⇑s (.lst ys)) {s with heap:=s.heap.push {cls:=.type "list",data:=.seq its.toArray},toks:=t' } :=
 I.laid (λ_ _ q=>AJ _ q) (AF _) #[hz,its,0,hv,AS _ rfl]
def Inv.fresh(I:Inv X zB Y H s):H ⇑s=none:=I.hok.fresh (AF _)
def Inv.lstM(I:Inv X zB Y H s)(hH:H l=some (.lst xs)):xs.length<=sizeLine/\∃(its:List Value)(n:Nat),zd xs its/\xs.length=its.length/\s.heap.get? l=some {cls:=.type "list",data:=.seq its.toArray n}:=by
 let(z,its,n,r,e):=I.hok l _ hH;calc#[z,its,n,r,r.length,e]
def fA{n:Nat}(h:n<=sizeLine):Builtin.List.listTooLong n=false:=by
 erw[Builtin.List.listTooLong];calc Aw ()
end
section
variable{X:Cx}
def Tv:V->List V->Hp->VK->Prop:=λx vs H Q=>∃l xs y,x=.ref l/\vs=[y]/\H l=some (.lst xs)/\xs.length<sizeLine/\Q .non (upd H l (.lst (xs++[y])))
def dI:MtM X "list.append" Tv:=by
 intro zB s Y H x vs v us Q I rx rv h;let(l,xs,y,rfl,rfl,hH,hz,q):=h;ext rx;let(u,rfl,ru):=rv.one;let(z,its,n,r,hl,e):=I.lstM hH;calc call_meets F.slot_list_append #[_,e,rfl] F.entry_list_append (F.args_list_append_2 _ _) (PySem.list_append l its.toArray n u (by rw[AX];omega)) #[e,?_];calc#[.non,_,I.lset (its':=its++[u]) hH e (by simp) (r.append (.cons ru .nil)) ?_,rfl,q];rw[AW,G9];omega
def Qc:V->List V->Hp->VK->Prop:=λx vs H Q=>∃l b xs zs,x=.ref l/\vs=[.ref b]/\H l=some (.lst xs)/\H b=some (.lst zs)/\xs.length+zs.length<=sizeLine/\Q .non (upd H l (.lst (xs++zs)))
def lI:MtM X "list.extend" Qc:=by
 intro zB s Y H x vs v us Q I rx rv h;let(l,b,xs,zs,rfl,rfl,hH,hB,hz,q):=h;ext rx;let(u,rfl,ru):=rv.one;ext ru;let(z,its,n,r,hl,e):=I.lstM hH;let(z2,its2,n2,r2,hl2,e2):=I.lstM hB;let hsz:its.toArray.size+its2.toArray.size<=sizeLine:=by rw[AX,AX];omega
 let hlong:¬ (!its.toArray.isEmpty&&Builtin.List.listTooLong (its.toArray.size+its2.toArray.size))=true:=by
  rw[fA hsz,Bool.and_false];exact Ax
 refine call_meets F.slot_list_extend #[_,e,rfl] F.entry_list_extend (F.args_list_extend_2 _ _)
  (AutoSeq1.list_extend_list_list_0 l its.toArray n b its2.toArray n2 hlong (by rw[AX];omega) ()) #[e,e2,?_]
 calc#[.non,_,I.lset (its':=its++its2) hH e (by simp) (r.append r2) ?_,rfl,q];rw[AW];omega
def UT:V->List V->Hp->VK->Prop:=λx vs H Q=>∃l xs i k y,x=.ref l/\vs=[.int i]/\H l=some (.lst xs) /\ -(2 ^ 63)<=i/\i<2 ^ 63/\seqIndex? i xs.length=some k/\xs[k]?=some y/\Q y (upd H l (.lst (xs.eraseIdx k)))
def Xy:MtM X "list.pop" UT:=by
 intro zB s Y H x vs v us Q I rx rv h;let(l,xs,i,k,y,rfl,rfl,hH,h1,h2,hk,hy,q):=h;ext rx;let(u,rfl,ru):=rv.one;let(t,rfl):=ru;let(z,its,n,r,hl,e):=I.lstM hH;let(w,hw,rw'):=r.get hy
 refine call_meets F.slot_list_pop #[_,e,rfl] F.entry_list_pop (F.args_list_pop_2 _ _)
  (MeetsSeq.list_pop_at l its.toArray n i t k w (fitsIndex_both h1 h2) (by rw[AX,<-hl];calc hk) (by rw[<-F7];calc hw) (by rw[AX];omega)) #[e,?_]
 refine#[y,_,I.lset (its':=its.eraseIdx k) hH e ?_ (r.eraseIdx k) ?_,rw',q]
 .show its.toArray.eraseIdxIfInBounds k=(its.eraseIdx k).toArray;rw[List.eraseIdxIfInBounds_toArray]
 .have:=Qr xs k;omega
def Rq:R2:=λx y H Q=>∃l b xs zs,x=.ref l/\y=.ref b/\H l=some (.lst xs)/\H b=some (.lst zs)/\xs.length+zs.length<=sizeLine/\∀p,H p=none->Q (.ref p) (upd H p (.lst (xs++zs)))
def dJ:OpR X (binaryOp .Add) Rq:=by
 intro zB s Y H x y v u Q I rx ry h;let(l,b,xs,zs,rfl,rfl,hH,hB,hz,q):=h;ext rx;ext ry;let(z,its,n,r,hl,e):=I.lstM hH;let(z2,its2,n2,r2,hl2,e2):=I.lstM hB;calc PySem.P.add_list e e2 ?_ (by rw[AX,AX];omega);let ea:its.toArray++its2.toArray=(its++its2).toArray:=by simp
 rw[ea];calc#[.ref _,_,I.lnew (t':=s.toks) (r.append r2) (by rw[AW];omega),rfl,q _ I.fresh]
end
end L2
namespace Att
open PySem PySem.W PySem.Calls PyProof.Rows
def rC{P:Params}{h:Heap}:∀(ns:Ye)(vs:Yf),WellAll P h vs (ns.map WData.int)->IntsAre vs ns:=by
 intro ns;induction ns with
 |nil=>
  intro vs w;rw[List.map_nil]at w;ext w;calc .nil
 |cons n ns ih=>
  intro vs w;rw[AU]at w;cases w with
  |cons a b=>
   ext a;calc .cons _ _ (ih _ b)
def lW{l:OpenLaw}{n:Nat}(hn:l.most=some n){P:Params}{h:Heap}{args:List WData}{vals:Yf}
  (hpre:l.row.toRowW.claim.pre args=true) (hwl:WellAll P h vals args):
  ∃a vs ns,vals=[Value.ref a]/\args=[WData.list (ns.map WData.int)]/\h.get? a=some {cls:=.type "list",data:=.seq vs.toArray}/\IntsAre vs ns/\ns.length<=n:=by
 let hsh:WShape.hasAll [] args [.list .int]=true:=(pre_splitW hpre).1;let hc:l.pre.holds [] {args:=args}=true:=(pre_splitW hpre).2;let(d,r,rfl,h1,h2):=hasAllW_cons hsh;obtain rfl:=hasAllW_nil h2;let(xs,rfl,h3):=hasW_list h1;let(ns,rfl):=items_int h3;let hlen:ns.length<=n:=by
  erw[OpenLaw.pre]at hc;let h4:(WTm.not (.lt (.lit (.int (n:Int))) (.len (.arg 0)))).holds [] {args:=[.list (ns.map .int)] }=true:=by
   let h4:=(holds_andW hc).1;rw[hn]at h4;exact h4
  let h5:=condW_of h4 (w_not (w_lt w_lit (w_len_list (w_arg rfl))));rw[AG]at h5;refine Nat.le_of_not_lt λq=>?_;let q':(n:Int)<((ns.length:Nat):Int):=()
  first
   | (rw[Az q']at h5;calc absurd h5 ())
   | (simp at h5;omega)
 cases hwl with
 |cons w1 w2=>
  ext w2;cases w1 with
  |list ho hall=>calc#[_,_,ns,rfl,rfl,ho,rC ns _ hall,hlen]
def dY(l:OpenLaw)(args:List WData):l.row.toRowW.claim.post args (.bool true) args=true :=
 postW_of (r:=l.row.toRowW) (X:=(true==true))
  (show WShape.has [] (.bool true) .bool=true by first|rfl|decide|simp[WShape.has,WShape.arms,WShape.armsAll])
  (show(WTm.eq .res (.lit (.bool true))).value [] {args:=args,res:=some (.bool true),after:=args}=some (.bool (true==true))from w_eq_bool (w_res rfl) w_lit) rfl
def nE{l:OpenLaw}{n:Nat}{q:Ym}{loose:Yk}{XP:(Str->Option Value)->Heap->Prop}{YP:World->Heap->Prop}{d:DefRec}
  (hn:l.most=some n) (hdf:d.params.defaults=[])
  (call:∀(w:Yo)(s₀ s₁:Yl)(mg mb:Yh)(fa:Yt)(o:Obj)(pm cd doc:Yu)(a:Yt)(vs:Yf)(ns:Ye),
   Ground q loose [] XP w s₀ mg mb s₁.heap->YP w s₁.heap ->
   s₁.heap.get? fa=some o->o.data=.func (docDef d.name d.params d.body d.scope pm cd doc)->s₁.heap.CodeRec cd d.name->mg d.name=some (.ref fa) ->
   s₁.heap.get? a=some {cls:=.type "list",data:=.seq vs.toArray}->IntsAre vs ns->ns.length<=n->s₁.gens = #[] ->
   codeAny (model l.prog w) callerA (.call (.ref fa) #[[.ref a],[]]) (λr s'=>r=.ok (.ret (.bool true))/\OldK s₁.heap s'.heap/\s'.os=s₁.os/\AllBare s'.gens) s₁):
  WalkO q loose XP YP l.row.toRowW d [] (λf vs=>PySem.call f vs):=by
 intro w s₀ s₁ mg mb G YY fa o pm cd doc dV kV ho hd hcd hD hmg hg args vals as hpre hlay hrd hwl hlo;obtain rfl:dV=.none:=Dflts.none hD hdf;obtain rfl:kV=.none:=Dflts.noKw hD;let(a,vs,ns,rfl,rfl,hobj,hints,hlen):=lW hn hpre hwl;refine enter_call (codeAny_mono (call w s₀ s₁ mg mb fa o pm cd doc a vs ns G YY ho (fd_plain hd) hcd hmg hobj hints hlen hg) λr s' hq=>?_);let(rfl,h2,h3,h4):=hq;calc#[.inl #[.bool true,.bool true,[],rfl,λ_=>rfl,.bool true,dY l _,λ_=>#[List.Pairwise.nil,λ_ hm=>(nomatch hm)]],h2,h3,h4]
end Att
namespace L2
theorem Tp:∀{vs:Yf}{ns:Ye},IntsAre vs ns->zd (ns.map V.int) vs
 |_,_,.nil=> .nil
 |_,_,.cons n t h=> .cons #[t,rfl] (Tp h)
def GN(s:Stmt):Arguments:=match s with
 |.FunctionDef _ a _ _ _ _ _ _ _ _=>a
 |_=>{posonlyargs:=[],args:=[],vararg:=none,kwonlyargs:=[],kw_defaults:=[],kwarg:=none,defaults:=[] }
def Ec(s:Stmt):List Stmt:=match s with
 |.FunctionDef _ _ b _ _ _ _ _ _ _=>b
 |_=>[]
def zI(s:Stmt):Scope:=match s with
 |.FunctionDef _ _ _ _ _ _ sc _ _ _=>sc
 |_=>{kind:=.function,names:=[],isGenerator:=false,isCoroutine:=false}
abbrev CX0:CXT:=λ_ _ _ _ _ _=>False
abbrev E0:XK:=λ_ _ _=>False
def Qy{X:Cx}:Ob CX0 X E0:=λ_ _ _ _ _ _ _ h=>h.elim
structure Fun(K:Yb)(x qual:Str)(st:Stmt)(f:Yt)(fd:Yz):Prop where
 ex:∃(oc:Yu)(od:Option Addr)(kV doc pm:Yu)(an:Option Addr)(cdv ct:Yu)(osl:Array (Option Value)),
  fd=PySem.W.fnOf x qual (GN st) (Ec st) (zI st) .none kV doc pm an cdv ct/\K.lookup f=some #[oc,od,.func fd,osl]/\PySem.W.codeIn K cdv qual=true
 kp:PySem.W.keepIn K (.ref f)=true
section
variable{P:Ym}{w:Yo}{K:Yb}{mg:Yh}{base:Heap}
def Fun.ok{x qual:Str}{st:Stmt}{f:Yt}{fd:Yz}{N ps:Yk}{k:Nat}{sp:Sp}(F:Fun K x qual st f fd)(S:FnScope N ps (zI st))(len:∀vs H Q E,sp vs H Q E->vs.length=ps.length)
  (hbody:∀(cdv:Yu)(A:Yn)(outer:List Env)(s:Yl)(H:Hp)(vs:List V)(Q:VK)(E:XK),Room k (A.deeper (envOfC qual (zI st) ⇑s f cdv))->sp vs H Q E ->
   ∃t,PSs (Ff CX0 P w K mg base N qual (zI st) f cdv A outer s H E).nox (Ec st) t/\t {nx:=λ_ H'=>Q .non H',rt:=Q} (ES N vs) H):FnOk P w K mg base CX0 (k+1) f fd ps sp:=by
 let(oc,od,kV,doc,pm,an,cdv,ct,osl,rfl,lk,hcd):=F.ex;refine Qp lk hcd S len λA outer s H vs Q E hr hsp=>?_;let(t,h,q):=hbody cdv A outer s H vs Q E hr hsp;calc#[t,h.nox,q]
def Fun.binds{x qual:Str}{st:Stmt}{f:Yt}{fd:Yz}{ps:Yk}(F:Fun K x qual st f fd)
  (h:∀(kV doc pm:Yu)(an:Option Addr)(cdv ct:Yu)(us:Yf),us.length=ps.length->bindArgs (PySem.W.fnOf x qual (GN st) (Ec st) (zI st) .none kV doc pm an cdv ct) #[us,[]]=pure (ps.zip us)):Eo K fd ps []:=by
 let(oc,od,kV,doc,pm,an,cdv,ct,osl,rfl,lk,hcd):=F.ex;calc .all (h kV doc pm an cdv ct)
def Pn{x qual:Str}{st:Stmt}{f:Yt}{oc:Yu}{od an:Option Addr}{osl:Array (Option Value)}{kV doc pm cdv ct:Yu}(l:K.lookup f=some #[oc,od,.func (PySem.W.fnOf x qual (GN st) (Ec st) (zI st) .none kV doc pm an cdv ct),osl])
  (c:PySem.W.codeIn K cdv qual=true) (k:PySem.W.keepIn K (.ref f)=true):Fun K x qual st f (PySem.W.fnOf x qual (GN st) (Ec st) (zI st) .none kV doc pm an cdv ct):=#[#[oc,od,kV,doc,pm,an,cdv,ct,osl,rfl,l,c],k]
end
def EU{A:Yn}{k:Nat}(hr:Room k A):A.units+1<cLine:=Nat.lt_of_le_of_lt (Nat.add_le_add_left (by decide:1<=64) _) hr.units
section
variable{X:Cx}
def pv(i:Nat){x:Str}{pos:Pos}(hN:X.N[i]?=some x:=by rfl)(hv:Vis X.env.scope x:=by first|exact Or.inl rfl|exact Or.inr (Or.inl rfl)|exact Or.inr (Or.inr rfl))(hd:(x==("__debug__" : Str))=false:=by decide)
  (hcd:(x==("__classdict__" : Str))=false:=by decide):PE X (.Name x pos) (MD i):=UO hN hv hd hcd
end
def DX{A B:Prop}(h:B):if false=true then A else B:=by
 rw[AE Ax];calc h
def Di{A B:Prop}(h:A):if true=true then A else B:=by
 rw[AB rfl];calc h
section
variable{κ:Type}[DecidableEq κ]
def CC(kvs:List (κ×V))(k:κ):Option V:=(kvs.find? λkv=>decide (kv.1=k)).map (·.2)
def B9(kvs:List (κ×V))(k:κ)(v:V):List (κ×V) :=
 if(kvs.any λkv=>decide (kv.1=k))=true then kvs.map (λkv=>if kv.1=k then(kv.1,v)else kv)else kvs++[(k,v)]
def K9{p:κ×V}{r:List (κ×V)}{k:κ}(e:p.1=k):CC (p::r) k=some p.2:=by simp[CC,E7,e]
def KN{p:κ×V}{r:List (κ×V)}{k:κ}(e:¬ p.1=k):CC (p::r) k=CC r k:=by simp[CC,E7,e]
theorem Tq(k:κ):∀kvs:List (κ×V),(kvs.any λkv=>decide (kv.1=k))=(CC kvs k).isSome
 |[]=>rfl
 |p::r=>by
  rw[List.any_cons];by_cases e:p.1=k
  .simp only[K9 e,Az e,Bool.true_or,Option.isSome_some]
  .rw[KN e,Aw e,Bool.false_or];calc Tq k r
def KQ(kvs:List (κ×V))(k:κ)(v:V):(B9 kvs k v).length<=kvs.length+1:=by
 erw[B9];split
 .rw[AG];omega
 .rw[AW,Bw,List.length_nil];omega
def DG.isSome_eq(r:DG o u):o.isSome=u.isSome:=by
 cases o with
 |none=>cases u with
  |none=>rfl
  |some _=>calc(show False from r).elim
 |some _=>cases u with
  |none=>calc(show False from r).elim
  |some _=>rfl
def DG.getD(r:DG o u)(rd:zh d d'):zh (o.getD d) (u.getD d'):=by
 cases o with
 |none=>cases u with
  |none=>calc rd
  |some _=>calc(show False from r).elim
 |some _=>cases u with
  |none=>calc(show False from r).elim
  |some _=>calc r
def KV.val{kvs:List (κ×V)}{vs:List (κ×Value)}(r:KV kvs vs)(k:κ):DG (CC kvs k) (valueAt vs k):=by
 erw[KV]at r;induction r with
 |nil=>calc True.intro
 | @cons p q ps qs h t ih=>
  let(h1,h2):=h;by_cases e:p.1=k
  .have e':q.1=k:=h1.symm.trans e;let b:valueAt (q::qs) k=some q.2:=by simp[valueAt,E7,e']
   rw[K9 e,b];exact h2
  .have e':¬ q.1=k:=λz=>e (h1.trans z);let b:valueAt (q::qs) k=valueAt qs k:=by simp[valueAt,E7,e']
   rw[KN e,b];calc ih
def KV.any(r:KV kvs vs)(k:κ):(kvs.any λkv=>decide (kv.1=k))=vs.any λkv=>decide (kv.1=k):=by
 erw[KV]at r;induction r with
 |nil=>rfl
 |cons h t ih=>rw[List.any_cons,List.any_cons,ih,h.1]
def KV.repl(r:KV kvs vs)(k:κ)(ry:zh y u):
  KV (kvs.map λkv=>if kv.1=k then(kv.1,y)else kv) (vs.map λkv=>if kv.1=k then(kv.1,u)else kv):=by
 unfold KV at r ⊢;induction r with
 |nil=>calc .nil
 | @cons p q ps qs h t ih=>
  rw[AU,AU];calc .cons ?_ ih;let(h1,h2):=h;by_cases e:p.1=k
  .rw[AB e,AB (h1.symm.trans e)];exact#[h1,ry]
  .rw[AE e,AE (λz=>e (h1.trans z))];calc#[h1,h2]
def KV.put(r:KV kvs vs)(k:κ)(ry:zh y u):KV (B9 kvs k y) (stored vs k u):=by
 erw[B9,stored];rw[r.any k];by_cases e:(vs.any λkv=>decide (kv.1=k))=true
 .rw[AB e,AB e];exact r.repl k ry
 .rw[AE e,AE e];calc Paired.snoc r #[rfl,ry]
def KV.length(r:KV kvs vs):kvs.length=vs.length:=Paired.length r
end
def Fw(r:zh (kV k) u):(BY P w).is k u=true:=by
 cases k with
 |inl i=>let(t,e):=(show∃t,u=Value.int i t from r);subst e;calc nX P w i t
 |inr x=>let(t,e):=(show∃t,u=Value.str x t from r);subst e;calc aK P w x t
theorem Sl:∀{ks:List Key}{us:Yf},zd (ks.map kV) us->ItemsAre (BY P w) ks us
 |[],_,r=>by rw[List.map_nil]at r;ext r;calc .nil
 |k::ks,_,r=>by
  rw[AU]at r;cases r with
  |cons h t=>calc .cons (Fw h) (Sl t)
abbrev KT(H:Hp):List (List Key×V)->List (List Key×Addr×Value)->Prop:=Paired λp q=>p.1=q.1/\H q.2.1=some (.tup (p.1.map kV))/\zh p.2 q.2.2
def KT.val{H:Hp}{kvs:List (List Key×V)}{xs:List (List Key×Addr×Value)}(r:KT H kvs xs)(k:List Key):DG (CC kvs k) ((atKey xs k).map (·.2)):=by
 induction r with
 |nil=>calc True.intro
 | @cons p q ps qs h t ih=>
  let(h1,_,h2):=h;by_cases e:p.1=k
  .have e':q.1=k:=h1.symm.trans e;let b:atKey (q::qs) k=some q.2:=by simp[atKey,E7,e']
   rw[K9 e,b];exact h2
  .have e':¬ q.1=k:=λz=>e (h1.trans z);let b:atKey (q::qs) k=atKey qs k:=by simp[atKey,E7,e']
   rw[KN e,b];calc ih
def KT.repl(r:KT H kvs xs)(k:List Key)(ry:zh y u):
  KT H (kvs.map λkv=>if kv.1=k then(kv.1,y)else kv) (xs.map (putAt k u)):=by
 induction r with
 |nil=>calc .nil
 | @cons p q ps qs h t ih=>
  rw[AU,AU];calc .cons ?_ ih;let(h1,h2,h3):=h;erw[putAt];by_cases e:p.1=k
  .rw[AB e,AB (h1.symm.trans e)];exact#[h1,h2,ry]
  .rw[AE e,AE (λz=>e (h1.trans z))];calc#[h1,h2,h3]
def KT.put(r:KT H kvs xs)(k:List Key)(hb:H b=some (.tup (k.map kV)))(ry:zh y u):
  KT H (B9 kvs k y) (storedH xs k b u):=by
 let e:(kvs.any λkv=>decide (kv.1=k))=(atKey xs k).isSome:=by
  rw[Tq,(r.val k).isSome_eq,Option.isSome_map]
 erw[B9,storedH];rw[e];by_cases q:(atKey xs k).isSome=true
 .rw[AB q,AB q];exact r.repl k ry
 .rw[AE q,AE q];calc Paired.snoc r #[rfl,hb,ry]
def KT.keeps(r:KT H kvs xs)(ht:∀b ys,H b=some (.tup ys)->H' b=some (.tup ys)):KT H' kvs xs :=
 Paired.mapP r λ_ _ z=>#[z.1,ht _ _ z.2.1,z.2.2]
section
variable{P:Ym}{w:Yo}{H:Hp}{h:Heap}{a:Yt}
def Tt(ok:HOk P w H h)(e:Rd H a u):Ah P w H h a u:=e.ok ok
def Fu(ok:HOk P w H h)(e:Rd H a (.dK kvs)):kvs.length<=sizeLine/\(a==sysModules)=false/\∃vs,KV kvs vs/\h.DictOf (BY P w) a vs :=
 show Ah P w H h a (.dK kvs)from Tt ok e
def Ui(ok:HOk P w H h)(e:H a=some (.dK kvs)):kvs.length<=sizeLine/\(a==sysModules)=false/\∃vs,KV kvs vs/\h.DictOf (BY P w) a vs:=Fu ok (.inl e)
def Fz(ok:HOk P w H h)(e:H a=some (.tup (ks.map kV))):(tupleKind (BY P w)).is h ks a:=by
 let(_,its,r,o,h1,h2,(n,h3),_):=(show Ah P w H h a (.tup (ks.map kV))from ok a _ e);calc#[o,its.toArray,n,h1,h2,h3,by simpa using Sl r]
def Fl(ok:HOk P w H h)(e:Rd H a (.dT kvs)):kvs.length<=sizeLine/\(a==sysModules)=false /\
  ∃xs,KT H kvs xs/\h.DictOfH (tupleKind (BY P w)) a xs:=by
 let(z,y,xs,r,o,es,ep,h1,h2,h3,h4,h5):=(show Ah P w H h a (.dT kvs)from Tt ok e);refine#[z,y,xs,r,o,es,ep,h1,h2,h3,h4,λx hx=>?_,h5];let all:∀{l:List (List Key×V)}{m:List (List Key×Addr×Value)},KT H l m->∀x∈m,(tupleKind (BY P w)).is h x.1 x.2.1:=by
  intro l m q;induction q with
  |nil=>intro x hx;calc nomatch hx
  | @cons p q ps qs hq t ih=>
   intro x hx;rcases AK.mp hx with e|hx
   .subst e;exact Fz ok (by rw[<-hq.1];calc hq.2.1)
   .exact ih x hx
 calc all r x hx
def T6(ok:HOk P w H h)(e:H a=some (.dT kvs)):kvs.length<=sizeLine/\(a==sysModules)=false /\
  ∃xs,KT H kvs xs/\h.DictOfH (tupleKind (BY P w)) a xs:=Fl ok (.inl e)
end
def Bm(H:Hp)(a:Yt)(y:V)(r:Option V):Prop :=
 (∃kvs k,Rd H a (.dK kvs)/\y=kV k/\r=CC kvs k)\/∃kvs k b,Rd H a (.dT kvs)/\y=.ref b/\H b=some (.tup (k.map kV))/\r=CC kvs k
def C4(H:Hp)(a:Yt)(y v:V)(H':Hp):Prop :=
 (∃kvs k,H a=some (.dK kvs)/\y=kV k/\kvs.length<sizeLine/\H'=upd H a (.dK (B9 kvs k v))) \/
 ∃kvs k b,H a=some (.dT kvs)/\y=.ref b/\H b=some (.tup (k.map kV))/\kvs.length<sizeLine/\H'=upd H a (.dT (B9 kvs k v))
theorem Bm.k{H:Hp}{a:Yt}{kvs:List (Key×V)}{k:Key}(e:H a=some (.dK kvs)):Bm H a (kV k) (CC kvs k):=.inl #[kvs,k,.inl e,rfl,rfl]
def Bm.t{k:List Key}(e:H a=some (.dT kvs))(eb:H b=some (.tup (k.map kV))):Bm H a (.ref b) (CC kvs k):=.inr #[kvs,k,b,.inl e,rfl,eb,rfl]
theorem C4.k{H:Hp}{a:Yt}{kvs:List (Key×V)}{k:Key}{v:V}(e:H a=some (.dK kvs))(hl:kvs.length<sizeLine):C4 H a (kV k) v (upd H a (.dK (B9 kvs k v))):=.inl #[kvs,k,e,rfl,hl,rfl]
def C4.t{kvs:List (List Key×V)}{k:List Key}(e:H a=some (.dT kvs))(eb:H b=some (.tup (k.map kV)))(hl:kvs.length<sizeLine):
  C4 H a (.ref b) v (upd H a (.dT (B9 kvs k v))):=.inr #[kvs,k,b,e,rfl,eb,hl,rfl]
section
variable{X:Cx}{zB:Yd}{Y:St}{H:Hp}{s:Yl}{a:Yt}{y v:V}{u r:Yu}{o:Option V}{A:Yn}{E:Yc}
def Inv.big(I:Inv X zB Y H s):sysModules<⇑s:=by
 let h:mainGlobals<⇑s:=(I.mod.glob.keeps I.bk).lt;calc Nat.lt_trans () h
def bI(hu:A.units+1<cLine)(I:Inv X zB Y H s)(g:Bm H a y (some v))(ry:zh y u)(h:∀w' s',Inv X zB Y H s'->zh v w'->Q w' s'):
  wpAny (model X.prog X.w) A (getItem (.ref a) u) Q E s:=by
 rcases g with⟨kvs,k,e,ey,l⟩|⟨kvs,k,b,e,ey,eb,l⟩
 .subst ey;let(z,hd,vs,rel,dd):=Fu I.hok e;let(w',hw,rw'):=DG.some_of (by rw[l];calc rel.val k);exact wpAny_getItem_of (Fw ry) dd.mapOf hw (h w' _ (I.tok _) rw')
 .subst ey;cases (show u=Value.ref b from ry);let(z,hd,xs,rel,dd):=Fl I.hok e;let(w',hw,rw'):=DG.some_of (by rw[l];calc rel.val k);let(p,hp,hp2):=Option.map_eq_some_iff.mp hw;calc wpAny_getItem_heap (tupleKind_room_in1 hu) (Fz I.hok eb) dd hp ?_;rw[hp2];calc h w' _ (I.tok _) rw'
def o3(hu:A.units+1<cLine)(I:Inv X zB Y H s)(g:Bm H a y o)(ry:zh y u)(h:∀s',Inv X zB Y H s'->Q (.bool o.isSome) s'):
  wpAny (model X.prog X.w) A (compareOp .In u (.ref a)) Q E s:=by
 rcases g with⟨kvs,k,e,ey,l⟩|⟨kvs,k,b,e,ey,eb,l⟩
 .subst ey;let(z,hd,vs,rel,dd):=Fu I.hok e;calc wpAny_in_of (Fw ry) hd dd.mapOf ?_;rw[<-(rel.val k).isSome_eq,<-l];exact h _ (I.tok _)
 .subst ey;cases (show u=Value.ref b from ry);let(z,hd,xs,rel,dd):=Fl I.hok e;calc wpAny_in_heap (tupleKind_room_in1 hu) (Fz I.hok eb) hd dd ?_;let q:=(rel.val k).isSome_eq;rw[Option.isSome_map]at q;rw[<-q,<-l];calc h _ (I.tok _)
def YA(hu:A.units+1<cLine)(I:Inv X zB Y H s)(g:Bm H a y o)(ry:zh y u)(h:∀s',Inv X zB Y H s'->Q (.bool (!o.isSome)) s'):
  wpAny (model X.prog X.w) A (compareOp .NotIn u (.ref a)) Q E s:=by
 rcases g with⟨kvs,k,e,ey,l⟩|⟨kvs,k,b,e,ey,eb,l⟩
 .subst ey;let(z,hd,vs,rel,dd):=Fu I.hok e;calc wpAny_notIn_of (Fw ry) hd dd.mapOf ?_;rw[<-(rel.val k).isSome_eq,<-l];exact h _ (I.tok _)
 .subst ey;cases (show u=Value.ref b from ry);let(z,hd,xs,rel,dd):=Fl I.hok e;calc wpAny_notIn_heap (tupleKind_room_in1 hu) (Fz I.hok eb) hd dd ?_;let q:=(rel.val k).isSome_eq;rw[Option.isSome_map]at q;rw[<-q,<-l];calc h _ (I.tok _)
def JQ(I:Inv X zB Y H s)(mu:Mut (H a))(hs:Heap.SameBut a s.heap h')(he:∃q,h'.get? a=some q)(new:Ah X.prog X.w (upd H a ob) h' a ob):
  Inv X zB Y (upd H a ob) {s with heap:=h',toks:=t' } :=
 I.write mu (.inl rfl) (λb q hb z=>(hs.2 b hb).trans z) he new
def T4(z:kvs.length<=sizeLine)(hd:(a==sysModules)=false)(rel:KV kvs vs)(dd:h'.DictOf (BY P w) a vs):
  Ah P w H' h' a (.dK kvs):=#[z,hd,vs,rel,dd]
def rY(hu:A.units+1<cLine)(I:Inv X zB Y H s)(g:C4 H a y v H')(ry:zh y u)(rv:zh v r)(h:∀s',Inv X zB Y H' s'->Q Unit.unit s'):
  wpAny (model X.prog X.w) A (setItem (.ref a) u r) Q E s:=by
 rcases g with⟨kvs,k,e,ey,l,eH⟩|⟨kvs,k,b,e,ey,eb,l,eH⟩
 .subst ey eH;let(z,hd,vs,rel,dd):=Ui I.hok e;let hz:vs.length<=sizeLine:=by rw[<-rel.length];exact z
  let hl:(B9 kvs k v).length<=sizeLine:=by have:=KQ kvs k v;omega
  refine wpAny_setItem_pairs (Fw ry) dd λh' dd' hs=>h _ ?_;let he:∃q,h'.get? a=some q:=let⟨q,_,_,hq,_⟩:=dd';#[q,hq];exact JQ I (by rw[e];calc True.intro) hs he (T4 hl hd (rel.put k rv) dd')
 .subst ey eH;cases (show u=Value.ref b from ry);let(z,hd,xs,rel,dd):=T6 I.hok e;let hz:xs.length<=sizeLine:=by rw[<-Paired.length rel];exact z
  let hl:(B9 kvs k v).length<=sizeLine:=by have:=KQ kvs k v;omega
  refine wpAny_setItem_heap (tupleKind_room_in1 hu) (Fz I.hok eb) dd λh' dd' hs=>h _ ?_;let(q,es,ep,hq,h2,h3,h4,_,h5):=dd';refine JQ I (by rw[e];calc True.intro) hs #[q,hq] #[hl,hd,_,(rel.put k eb rv).keeps λc ys ec=>?_,q,es,ep,hq,h2,h3,h4,h5];rw[zT (DT ec e (λz=>nomatch z))];calc ec
end
def MC(i:Expr):Prop:=∀ov iv,subscripted i false ov iv=operate [ov,iv] (getItem ov iv)
def aD{prog:Ym}{w:Yo}{A:Yn}{E:Yc}{s:Yl}{env:Env}{value slice:Expr}{pos:Pos}{T id:String}{Q:Yc}
  (hl:typeLookup (.type T) "__getitem__" = pure (some (.builtin id))) (hs:MC slice)
  (h:wpAny (model prog w) A (eval value env) (λo s₁=>wpAny (model prog w) A (eval slice env) (λi s₂=>s₂.TypeIs o T/\wpAny (model prog w) A (getItem o i) Q E s₂) E s₁) E s):
  wpAny (model prog w) A (eval (.Subscript value slice pos) env) Q E s:=by
 refine Subscript_ (AQ h (λo s₁ h₁=>AQ h₁ (λi s₂ h₂=>?_) λ_ _ x=>x) λ_ _ x=>x);let(hT,h₂):=h₂;erw[subscriptTail];refine AA ?_;rw[getitemInPython_of_ne hT.not_modules];refine AA (wpAny_specialOf hT hl ?_);let fin:wpAny (model prog w) A (subscripted slice false o i) (λr s₃=>wpAny (model prog w) A (letTemporaryGo value o r >>=λ_=>pure r) Q E s₃) E s₂:=by
  rw[hs o i];exact wpAny_operating (AQ h₂ (λr s₃ h₃=>AA (wpAny_letTemporaryGo (AD h₃))) λ_ _ x=>x)
 first
  |calc AD (AA fin)
  |calc AA (AD (AA fin))
  |calc AA fin
def Wz(I:Inv X zB Y H s)(g:Bm H a y o):s.TypeIs (.ref a) "dict" := by
 rcases g with⟨kvs,k,e,_,_⟩|⟨kvs,k,b,e,_,_,_⟩
 .obtain⟨_,_,vs,_,dd⟩:=Fu I.hok e;exact dd.typeIs
 .obtain⟨_,_,xs,_,dd⟩:=Fl I.hok e;calc dd.typeIs
def aV(td ty:TE):TE:=λY H Q=>td Y H λx H1=>ty Y H1 λy H2=>∃a v,x=.ref a/\Bm H2 a y (some v)/\Q v H2
def cA(ty td:TE):TE:=λY H Q=>ty Y H λy H1=>td Y H1 λx H2=>∃a o,x=.ref a/\Bm H2 a y o/\Q (.bl o.isSome) H2
def Wt(ty td:TE):TE:=λY H Q=>ty Y H λy H1=>td Y H1 λx H2=>∃a o,x=.ref a/\Bm H2 a y o/\Q (.bl (!o.isSome)) H2
def bQ(td ty tv:TE):TS:=λD Y H=>tv Y H λv H1=>td Y H1 λx H2=>ty Y H2 λy H3=>∃a H4,x=.ref a/\C4 H3 a y v H4/\D.nx Y H4
section
variable{X:Cx}{o i e value:Expr}{pos pos' tpos:Pos}{td ty tv:TE}
def YT(hu:X.A.units+1<cLine)(ho:PE X o td)(hi:PE X i ty)(hs:MC i):PE X (.Subscript o i pos) (aV td ty):=by
 intro zB s Y H Q I h;refine aD PySem.F.slot_dict_getitem.lookup hs (thn (ho zB s Y H _ I h) λu s1 ⟨x,H1,I1,rx,q1⟩=>thn (hi zB s1 Y H1 _ I1 q1) λiv s2 ⟨y,H2,I2,ry,a,v,ex,g,q2⟩=>?_);subst ex;obtain rfl:u=Value.ref a:=rx;calc#[Wz I2 g,bI hu I2 g ry λw' s3 I3 rw'=>#[v,H2,I3,rw',q2]]
def Sg(hu:X.A.units+1<cLine)(hi:PE X i ty)(ho:PE X o td):PC X .In i o (cA ty td):=by
 intro zB s Y H Q I h;refine thn (hi zB s Y H _ I h) λiv s1 ⟨y,H1,I1,ry,q1⟩=>thn (ho zB s1 Y H1 _ I1 q1) λu s2 ⟨x,H2,I2,rx,a,ov,ex,g,q2⟩=>?_;subst ex;obtain rfl:u=Value.ref a:=rx;calc o3 hu I2 g ry λs3 I3=>#[.bl ov.isSome,H2,I3,rfl,q2]
def rD(hu:X.A.units+1<cLine)(hi:PE X i ty)(ho:PE X o td):PC X .NotIn i o (Wt ty td):=by
 intro zB s Y H Q I h;refine thn (hi zB s Y H _ I h) λiv s1 ⟨y,H1,I1,ry,q1⟩=>thn (ho zB s1 Y H1 _ I1 q1) λu s2 ⟨x,H2,I2,rx,a,ov,ex,g,q2⟩=>?_;subst ex;obtain rfl:u=Value.ref a:=rx;calc YA hu I2 g ry λs3 I3=>#[.bl (!ov.isSome),H2,I3,rfl,q2]
def jM(hu:X.A.units+1<cLine)(ho:PE X o td)(hi:PE X i ty)(hv:PE X value tv)(hs:swapsWith value (some (.Subscript o i pos')) pos.line X.env=pure false):
  PS X (.Assign [.Subscript o i pos'] value pos) (bQ td ty tv):=by
 intro zB s Y H D I h;refine wpAny_Assign_Subscript (thn (hv zB s Y H _ I h) λr s1 ⟨v,H1,I1,rv,q1⟩=>thn (ho zB s1 Y H1 _ I1 q1) λu s2 ⟨x,H2,I2,rx,q2⟩=>thn (hi zB s2 Y H2 _ I2 q2) λiv s3 ⟨y,H3,I3,ry,a,H4,ex,g,q3⟩=>?_) hs;subst ex;obtain rfl:u=Value.ref a:=rx;calc rY hu I3 g ry rv λs4 I4=>#[Y,H4,I4,q3]
end
def Ti(h:Heap)(hb:sysModules<h.objs.size):Ah P w H (h.push {cls:=.type "dict",data:=.dict #[] }) h.objs.size (.dT []) :=
 #[BV _,beq_eq_false_iff_ne.mpr (Ne.symm (AZ hb)),[],.nil,_,#[],0,AS _ rfl,#[rfl,rfl,rfl],rfl,rfl,List.nodup_nil]
def X7:TE:=λ_ H Q=>∀p,H p=none->Q (.ref p) (upd H p (.dT []))
section
variable{X:Cx}{pos:Pos}
def Zb:PE X (.Dict [] [] pos) X7:=λzB s Y H Q I h=>
 wpAny_Dict_empty #[.ref ⇑s,_,I.laid (λ_ _ q=>AJ _ q) (AF _) (Ti s.heap I.big),rfl,h _ (I.hok.fresh (AF _))]
end
def Ub:List (TE×TE)->St->Hp->(List (V×V)->Hp->Prop)->Prop
 |[],_,H,Q=>Q [] H
 | (tk,tv)::r,Y,H,Q=>tk Y H λx H1=>tv Y H1 λy H2=>Ub r Y H2 λps H3=>Q ((x,y)::ps) H3
abbrev VV:List (V×V)->List (Value×Value)->Prop:=Paired λp q=>zh p.1 q.1/\zh p.2 q.2
def PPs(X:Cx)(pos:Pos)(keys:List (Option Expr))(values:Yi)(trs:List (TE×TE)):Prop :=
 ∀(zB:Yd)(s:Yl)(Y:St)(H:Hp)(Q:List (V×V)->Hp->Prop),Inv X zB Y H s->Ub trs Y H Q ->
  wpAny (model X.prog X.w) X.A (evalPairs (pairTrees keys values X.env pos)) (λvs s'=>∃ps H',Inv X zB Y H' s'/\VV ps vs/\Q ps H') X.xe s
def mP:PPs X pos [] [] []:=λzB s Y H Q I h=>pairTrees_nil_walk #[[],H,I,.nil,h]
def bA(hk:PE X k tk)(hv:PE X v tv)(hr:PPs X pos ks vs trs):
  PPs X pos (some k::ks) (v::vs) ((tk,tv)::trs):=λzB s Y H Q I h=>
 pairTrees_cons_walk (thn (hk zB s Y H _ I h) λu s1 ⟨x,H1,I1,rx,q1⟩=>thn (hv zB s1 Y H1 _ I1 q1) λw2 s2 ⟨y,H2,I2,ry,q2⟩=>
  thn (hr zB s2 Y H2 _ I2 q2) λws s3 ⟨ps,H3,I3,rel,q3⟩=>#[(x,y)::ps,H3,I3,.cons #[rx,ry] rel,q3])
structure M1(X:Cx)(o:Expr)(m:Str)(apos:Pos)(e:Expr)(cpos:Pos):Prop where
 base:attributeBase o m X.env (eval o X.env)=eval o X.env
 few:((backTo cpos (starEach [e] X.env)).all (λx=> !x.1)&&(backToKw cpos (keywordEach [] X.env)).all (λx=>x.1.isSome)
  && decide (([e]:List Expr).length+([]:List Keyword).length+(if([]:List Keyword).isEmpty then 0 else 1)<30))=true
 line:(apos.endLine==cpos.line)=true
 trees:backTo cpos (starEach [e] X.env)=[(false,eval e X.env)]
structure M2(X:Cx)(o:Expr)(m:Str)(apos:Pos)(e f:Expr)(cpos:Pos):Prop where
 base:attributeBase o m X.env (eval o X.env)=eval o X.env
 few:((backTo cpos (starEach [e,f] X.env)).all (λx=> !x.1)&&(backToKw cpos (keywordEach [] X.env)).all (λx=>x.1.isSome)
  && decide (([e,f]:List Expr).length+([]:List Keyword).length+(if([]:List Keyword).isEmpty then 0 else 1)<30))=true
 line:(apos.endLine==cpos.line)=true
 trees:backTo cpos (starEach [e,f] X.env)=[(false,eval e X.env),(false,eval f X.env)]
def IsD(H:Hp)(a:Yt):Prop:=(∃kvs,Rd H a (.dK kvs))\/∃kvs,Rd H a (.dT kvs)
def JZ(I:Inv X zB Y H s)(d:IsD H a):
  s.TypeIs (.ref a) "dict" /\ (∀b,Value.ref a=.ref b->∃ob,s.heap.get? b=some ob/\ob.dict=none)/\(a==sysModules)=false:=by
 rcases d with⟨kvs,e⟩|⟨kvs,e⟩
 .obtain⟨_,hd,vs,_,dd⟩:=Fu I.hok e;refine#[dd.typeIs,λb q=>?_,hd];ext q;let(ob,_,_,h1,h2,_):=dd;exact#[ob,h1,h2.2.1]
 .obtain⟨_,hd,xs,_,dd⟩:=Fl I.hok e;refine#[dd.typeIs,λb q=>?_,hd];ext q;let(ob,_,_,h1,h2,_):=dd;calc#[ob,h1,h2.2.1]
section
variable{X:Cx}{zB:Yd}{Y:St}{H:Hp}{s:Yl}{a:Yt}{y d:V}{u r:Yu}{o:Option V}{A:Yn}{E:Yc}
def WR(hu:A.units+1<cLine)(I:Inv X zB Y H s)(g:Bm H a y o)(ry:zh y u)(h:∀w' s',Inv X zB Y H s'->zh (o.getD .non) w'->Q w' s'):
  wpAny (model X.prog X.w) A (call (.builtin "dict.get") [.ref a,u]) Q E s:=by
 rcases g with⟨kvs,k,e,ey,l⟩|⟨kvs,k,b,e,ey,eb,l⟩
 .subst ey;let(z,hd,vs,rel,dd):=Fu I.hok e;calc call_meetsIn PySem.F.slot_dict_get dd.typeIs PySem.F.entry_dict_get (PySem.F.args_dict_get_2 _ _) (meets_dict_get (BY X.prog X.w) a (Fw ry) hd) #[_,dd.mapOf,h _ _ (I.tok _) ?_];rw[l];exact(rel.val k).getD rfl
 .subst ey;cases (show u=Value.ref b from ry);let(z,hd,xs,rel,dd):=Fl I.hok e;calc call_meetsIn PySem.F.slot_dict_get dd.typeIs PySem.F.entry_dict_get (PySem.F.args_dict_get_2 _ _) (meetsH_dict_get (tupleKind (BY X.prog X.w)) a b hd) #[tupleKind_room_in1 hu,k,xs,Fz I.hok eb,dd,h _ _ (I.tok _) ?_];rw[l];calc(rel.val k).getD rfl
def a7(hu:A.units+1<cLine)(I:Inv X zB Y H s)(g:Bm H a y o)(ry:zh y u)(rd:zh d r)(h:∀w' s',Inv X zB Y H s'->zh (o.getD d) w'->Q w' s'):
  wpAny (model X.prog X.w) A (call (.builtin "dict.get") [.ref a,u,r]) Q E s:=by
 rcases g with⟨kvs,k,e,ey,l⟩|⟨kvs,k,b,e,ey,eb,l⟩
 .subst ey;let(z,hd,vs,rel,dd):=Fu I.hok e;calc call_meetsIn PySem.F.slot_dict_get dd.typeIs PySem.F.entry_dict_get (PySem.F.args_dict_get_3 _ _ _) (meets_dict_get_default (BY X.prog X.w) a (Fw ry) hd r) #[_,dd.mapOf,h _ _ (I.tok _) ?_];rw[l];exact(rel.val k).getD rd
 .subst ey;cases (show u=Value.ref b from ry);let(z,hd,xs,rel,dd):=Fl I.hok e;calc call_meetsIn PySem.F.slot_dict_get dd.typeIs PySem.F.entry_dict_get (PySem.F.args_dict_get_3 _ _ _) (meetsH_dict_get_default (tupleKind (BY X.prog X.w)) a b hd r) #[tupleKind_room_in1 hu,k,xs,Fz I.hok eb,dd,h _ _ (I.tok _) ?_];rw[l];calc(rel.val k).getD rd
end
def oN(td ty:TE):TE:=λY H Q=>td Y H λx H1=>∃a,x=.ref a/\IsD H1 a/\ty Y H1 λy H2=>∃o,Bm H2 a y o/\Q (o.getD .non) H2
def Qs(td ty tx:TE):TE:=λY H Q=>td Y H λx H1=>∃a,x=.ref a/\IsD H1 a/\ty Y H1 λy H2=>tx Y H2 λz H3=>∃o,Bm H3 a y o/\Q (o.getD z) H3
section
variable{X:Cx}{o e f:Expr}{apos cpos:Pos}{td ty tx:TE}
def qG(hu:X.A.units+1<cLine)(ho:PE X o td)(he:PE X e ty)(m:M1 X o "get" apos e cpos):PE X (.Call (.Attribute o "get" apos) [e] [] cpos) (oN td ty):=by
 intro zB s Y H Q I h;refine wpAny_Call_method m.base m.few m.line PySem.F.plainAttrs_dict PySem.F.slot_dict_get PySem.F.type_dict_get (thn (ho zB s Y H _ I h) λu s1 ⟨x,H1,I1,rx,a,ex,d,q1⟩=>?_);subst ex;obtain rfl:u=Value.ref a:=rx;let(t1,t2,_):=JZ I1 d;calc#[t1,t2,?_];rw[m.trees];refine Hu rfl (Calls.evalArgs_plain (Calls.spliced_cons (thn (he zB s1 Y H1 _ I1 q1) λiv s2 ⟨y,H2,I2,ry,ov,g,q2⟩=>Calls.spliced_nil ?_)));calc WR hu I2 g ry λw' s3 I3 rw'=>#[_,H2,I3,rw',q2]
def fF(hu:X.A.units+1<cLine)(ho:PE X o td)(he:PE X e ty)(hf:PE X f tx)(m:M2 X o "get" apos e f cpos):PE X (.Call (.Attribute o "get" apos) [e,f] [] cpos) (Qs td ty tx):=by
 intro zB s Y H Q I h;refine wpAny_Call_method m.base m.few m.line PySem.F.plainAttrs_dict PySem.F.slot_dict_get PySem.F.type_dict_get (thn (ho zB s Y H _ I h) λu s1 ⟨x,H1,I1,rx,a,ex,d,q1⟩=>?_);subst ex;obtain rfl:u=Value.ref a:=rx;let(t1,t2,_):=JZ I1 d;refine#[t1,t2,?_];rw[m.trees];refine Hu rfl (Calls.evalArgs_plain (Calls.spliced_cons (thn (he zB s1 Y H1 _ I1 q1) λiv s2 ⟨y,H2,I2,ry,q2⟩=>
  Calls.spliced_cons (thn (hf zB s2 Y H2 _ I2 q2) λfv s3 ⟨z,H3,I3,rz,ov,g,q3⟩=>Calls.spliced_nil ?_))))
 calc a7 hu I3 g ry rz λw' s4 I4 rw'=>#[_,H3,I4,rw',q3]
end
theorem Gw:∀(names:List (Str×NameKind))(n:Nat)(acc:Yv),cellsFrom n names acc=cellsFrom n names []++acc
 |[],_,_=>rfl
 | (name,kind)::r,n,acc=>by
  erw[cellsFrom];split
  .rw[Gw r (n+1) ((name,n)::acc),Gw r (n+1) [(name,n)],Bx];rfl
  .exact Gw r n acc
theorem JN{α:Type}(x:Str):∀(l r:List (Str×α)),(l++r).lookup x=(match l.lookup x with|some c=>some c|none=>r.lookup x)
 |[],r=>rfl
 | (k,v)::l,r=>by
  rw[List.cons_append,Ei,Ei];cases hb:x==k with
  |true=>rfl
  |false=>calc JN x l r
theorem MN:∀(names:List (Str×NameKind))(acc:Yv),
  (∀y∈names,y.2=.free->∃c,env.cells.lookup y.1=some c) ->
  (∀x c,acc.lookup x=some c->env.cells.lookup x=some c) ->
  ∃cl:List (Str×Addr),(forIn names acc (λ(p:Str×NameKind) (cs:Yv)=>(do
    if p.2 == .free then
     let a <- cellOf env p.1;pure (ForInStep.yield ((p.1,a)::cs))
    else pure (ForInStep.yield cs):Sem (ForInStep (List (Str×Addr))))))=pure cl /\
   (∀x c,cl.lookup x=some c->env.cells.lookup x=some c) /\
   (∀x,(acc.lookup x).isSome=true->(cl.lookup x).isSome=true)/\∀y∈names,y.2=.free->(cl.lookup y.1).isSome=true
 |[],acc,_,ha=>#[acc,by rw[List.forIn_nil],ha,λ_ h=>h,λ_ h=>nomatch h]
 | (n,k)::r,acc,hf,ha=>by
  rw[List.forIn_cons];by_cases hk:k=.free
  .subst hk;let(c,hc):=hf (n,.free) AR rfl;let hco:cellOf env n=pure c:=by erw[cellOf];rw[hc]
   let(cl,e,h1,h2,h3):=MN r ((n,c)::acc) (λy hy=>hf y (Aa _ hy)) (λx d hx=>by
    rw[Ei]at hx;cases hb:x==n with
    |true=>rw[hb]at hx;ext hx;rw[beq_iff_eq.mp hb];calc hc
    |false=>rw[hb]at hx;calc ha x d hx)
   refine#[cl,?_,h1,λx hx=>h2 x ?_,λy hy hk=>?_]
   .rw[<-e];simp only[beq_self_eq_true,if_true,hco];rfl
   .rw[Ei];cases hb:x==n with
    |true=>rfl
    |false=>exact hx
   .rcases AK.mp hy with z|z
    .subst z;exact h2 n (by rw[Ei];simp)
    .exact h3 y z hk
  .obtain⟨cl,e,h1,h2,h3⟩:=MN r acc (λy hy=>hf y (Aa _ hy)) ha;refine#[cl,?_,h1,h2,λy hy hk'=>?_]
   .rw[<-e];have:(k==NameKind.free)=false:=by simpa using hk
    simp only[this,Cv,if_false];rfl
   .rcases AK.mp hy with z|z
    .subst z;exact absurd hk' hk
    .exact h3 y z hk'
def P5(hf:∀y∈scope.names,y.2=.free->∃c,env.cells.lookup y.1=some c):
  ∃cl,closureFor scope env=pure cl/\(∀x c,cl.lookup x=some c->env.cells.lookup x=some c)/\∀y∈scope.names,y.2=.free->(cl.lookup y.1).isSome=true:=by
 let(cl,e,h1,_,h3):=MN scope.names [] hf (λx c h=>nomatch h);calc#[cl,?_,h1,h3];erw[closureFor];rw[show(pure cl:Sem _)=pure cl >>= pure from rfl,<-e]
def LO
  (hQ:Q (newEnv scope ⇑s globals (cellsFrom (⇑s+1) scope.names cl) qual none .none (some env) builtinsNs)
   {s with heap:=pushCells (s.heap.push {cls:=.type "dict",data:=.dict #[] }) scope.names}):
  wpAny M A (newFunctionEnv scope globals cl [] qual none .none (some env)) Q E s:=by
 simp only[newFunctionEnv,Option.isSome_some,if_true];calc AA (wpAny_alloc ?_);refine AA (wpAny_layCells _ (λname kind cells=>by cases hkc:kind==NameKind.cell <;> simp[hkc]) _ _ _ _ ?_);rw[show({s with heap:=s.heap.push {cls:=.type "dict",data:=.dict #[] } }:Shared).heap.objs.size=⇑s+1 from Bo ..];calc AA (AD (AD hQ))
def zK(X:Cx)(zB:Yd)(scope:Y0)(cl:Yv)(s:Yl)(H:Hp)(fp:Yg):Cx where
 prog:=X.prog
 w:=X.w
 K:=X.K
 mg:=X.mg
 base:=X.base
 A:=X.A
 N:=X.N
 s₀:=s
 H₀:=H
 env:={scope:=relabel scope X.env,locals:=⇑s+1,globals:=X.env.globals,cells:=cellsFrom (⇑s+1+1) scope.names cl,qual:=X.env.qual,func:=none,code:=X.env.code,frame:=X.env.frame,builtins:=X.env.builtins}
 outer:=X.stack
 stack:=X.stack
 ex:=fp
 fn:=λx=>decide (scope.names.lookup x=some .cell)
 calm:=X.calm
 pn:=X.pn++zB
 xe:=λ_ _=>False
theorem HJ{scope:Y0}{env:Env}(x:Str):∀{names:List (Str×NameKind)}{k:NameKind},
  (names.map λ(n,k)=>if(k==NameKind.free&&env.scope.kind == .function&&env.kindOf n==some .cell)then(n,NameKind.cell)else(n,k)).lookup x=some k ->
  names.lookup x=some k\/(names.lookup x=some .free/\k=.cell)
 |[],_,h=>by simp at h
 | (n,k')::r,k,h=>by
  rw[AU]at h;by_cases hc:(k'==NameKind.free&&env.scope.kind == .function&&env.kindOf n==some .cell)=true
  .simp only[hc,if_true]at h;rw[Ei]at h ⊢;cases hb:x==n with
   |true=>
    rw[hb]at h;simp only[BB,beq_iff_eq]at hc;calc .inr #[by rw[hc.1.1],(Be h).symm]
   |false=>rw[hb]at h;exact HJ (scope:=scope) x h
  .simp only[hc,Cv,if_false]at h;rw[Ei]at h ⊢;cases hb:x==n with
   |true=>rw[hb]at h;calc .inl h
   |false=>rw[hb]at h;calc HJ (scope:=scope) x h
theorem Mb:∀(names:List (Str×NameKind))(n:Nat)(acc:Yv)(x:Str)(c:Yt),(x,c)∈cellsFrom n names acc->(x,c)∉acc->(x,NameKind.cell)∈names
 |[],_,_,_,_,h,h'=>absurd h h'
 | (name,kind)::r,n,acc,x,c,h,h'=>by
  erw[cellsFrom]at h;cbv at h
  .intros hk;by_cases e:(x,c)=(name,n)
   .cases e;rw[beq_iff_eq]at hk;subst hk;exact AR
   .exact Aa _ (Mb r _ _ x c h λz=>(AK.mp z).elim e h')
  .exact Aa _ (Mb r _ _ x c h h')
structure CompScope(X:Cx)(scope:Y0):Prop where
 kind:scope.kind=.function
 names:∀y∈scope.names,y.2=.local->scope.names.lookup y.1=some .local
 cells:∀y∈scope.names,y.2=.cell->scope.names.lookup y.1=some .cell
 free:∀y∈scope.names,y.2=.free->X.env.kindOf y.1=some .cell\/X.env.kindOf y.1=some .free
def Kx(S:CompScope X scope)(I:Inv X zB Y H s)(hf:∀b∈fp,BN X zB H b)(ho:∀b:Nat,b∈fp->b<⇑s)
  (c1:∀x c,cl.lookup x=some c->X.env.cells.lookup x=some c) (c2:∀y∈scope.names,y.2=.free->(cl.lookup y.1).isSome=true)
  (hl:σc.length=Y.length) (hσ:∀(i:Nat) x v,X.N[i]?=some x->σc[i]?=some (some v)->(relabel scope X.env).names.lookup x≠none->scope.names.lookup x=some .free/\Y[i]?=some (some v))
  (lo:Obj) (hlo:∀v,lo.data≠.cell v) (hfr:lo.isFreed=false)
  (h4:s4={s with heap:=pushCells ((s.heap.push lo).push {cls:=.type "dict",data:=.dict #[] }) scope.names}):
  Inv (zK X zB scope cl s H fp) [(⇑s,lo)] σc H s4:=by
 subst h4;let sz1:(s.heap.push lo).objs.size=⇑s+1:=Bo ..;let sz2:((s.heap.push lo).push {cls:=.type "dict",data:=.dict #[] }).objs.size=⇑s+1+1:=by rw[Bo,sz1]
 let hk:∀b o,s.heap.get? b=some o->(pushCells ((s.heap.push lo).push {cls:=.type "dict",data:=.dict #[] }) scope.names).get? b=some o:=λb o e=>
  pushCells_keeps _ _ b o (AJ _ (AJ _ e))
 let ok:=cellsFrom_ok scope.names ((s.heap.push lo).push {cls:=.type "dict",data:=.dict #[] }) (⇑s+1+1) [] #[λ_ _ hm=>(nomatch hm),List.Pairwise.nil] (by rw[sz2];exact AF _);rw[sz2]at ok;let look:∀x c,(cellsFrom (⇑s+1+1) scope.names cl).lookup x=some c->((cellsFrom (⇑s+1+1) scope.names []).lookup x=some c)\/((cellsFrom (⇑s+1+1) scope.names []).lookup x=none/\X.env.cells.lookup x=some c):=λx c e=>by
  rw[Gw,JN]at e;cases q:(cellsFrom (⇑s+1+1) scope.names []).lookup x with
  |some d=>rw[q]at e;calc .inl e
  |none=>rw[q]at e;exact .inr #[rfl,c1 x c e]
 let old:∀x (c:Nat),X.env.cells.lookup x=some c->c<⇑s:=λx c e=>let⟨_,q⟩:=I.cell x c e;q.lt;let new:∀x (c:Nat),(cellsFrom (⇑s+1+1) scope.names []).lookup x=some c->⇑s+1+1<=c:=λx c e=>(ok.empty x c (CO e)).2;let own:∀x,scope.names.lookup x=some .cell->∃c,(cellsFrom (⇑s+1+1) scope.names []).lookup x=some c:=λx e=>MX e;let cne:∀x (c:Nat),(cellsFrom (⇑s+1+1) scope.names cl).lookup x=some c->c<⇑s\/⇑s+1+1<=c:=λx c e=>by
  rcases look x c e with q|⟨_,q⟩
  .exact .inr (new x c q)
  .exact .inl (old x c q)
 refine#[#[I.ok.mod,S.kind,I.ok.glob,I.ok.blt,Cw _,λx y c h1 h2=>?_,λx hx=>?_,λx c hx h=>?_,I.ok.hd,I.ok.frames,.inl rfl,λb hb=>#[?_,λx c e z=>?_],I.bs,Ab I.ok.bsz I.sz,λb o e hb=>?_,λb hb z=>?_,I.stack,I.stkFree],
  rfl,I.bare,Un.kept hk,#[λ_=>none,?_,λi x v h1 h2 h3=>?_],λx c e=>?_,I.hok.fresh (Cw _),λx c e=>?_,λp hp=>?_,I.hok.kept hk,hl.trans I.len]
 .rcases look x c h1 with a|⟨_,a⟩ <;> rcases look y c h2 with b|⟨_,b⟩
  .exact name_of_addr ok.apart (CO a) (CO b)
  .exact absurd (Nat.lt_of_le_of_lt (new x c a) (old y c b)) ()
  .exact absurd (Nat.lt_of_le_of_lt (new y c b) (old x c a)) ()
  .exact I.ok.inj x y c a b
 .have hx':(relabel scope X.env).names.lookup x=some .cell\/(relabel scope X.env).names.lookup x=some .free:=hx;let go:scope.names.lookup x=some .cell\/scope.names.lookup x=some .free:=by
   rcases hx' with q|q
   .rcases HJ (scope:=scope) x q with z|z
    .exact .inl z
    .exact .inr z.1
   .rcases HJ (scope:=scope) x q with z|z
    .exact .inr z
    .exact .inr z.1
  show∃c,(cellsFrom (⇑s+1+1) scope.names cl).lookup x=some c;rw[Gw,JN];rcases go with q|q
  .obtain⟨c,e⟩:=own x q;exact#[c,by rw[e]]
  .cases e:(cellsFrom (⇑s+1+1) scope.names []).lookup x with
   |some d=>calc#[d,rfl]
   |none=>exact Option.isSome_iff_exists.mp (c2 (x,.free) (CO q) rfl)
 .obtain⟨d,e⟩:=own x (Cs hx);let h':(cellsFrom (⇑s+1+1) scope.names cl).lookup x=some c:=h;rw[Gw,JN,e]at h';ext h';exact Ab (Ab (Cw _) (Cw _)) (new x _ e)
 .exact AZ (C5 (ho b hb))
 .rcases look x c e with q|⟨_,q⟩
  .have a:=new x c q;rw[z]at a;exact absurd (Nat.lt_of_le_of_lt a (ho b hb)) ()
  .exact(hf b hb).2.2.2.2.1 x c q z
 .rcases(hf b hb).2.2.2.1 with z|z
  .exact I.ok.noex b o e z
  .exact absurd (Ay (AH e) (Ab I.ok.bsz z)) (BS _)
 .rcases AK.mp (I.stkSub b z)with q|q
  .exact(hf b hb).2.1 q
  .exact(hf b hb).2.2.1 q
 .have q:((s.heap.push lo).push {cls:=.type "dict",data:=.dict #[] }).Ns (s.heap.push lo).objs.size (λ_=>none):=Heap.Ns.new ..;rw[sz1]at q;exact q.keeps (pushCells_keeps _ _)
 .have h3':(relabel scope X.env).names.lookup x≠none:=by
   rcases h3 with z|z|z <;> (intro q;let z':(relabel scope X.env).names.lookup x=_:=z;rw[q]at z';ext z')
  let(fr,hv):=hσ i x v h1 h2 h3';let(m,hn,hlk):=I.loc;let kx:=S.free (x,.free) (CO fr) rfl;let(u,rv,lk):=hlk i x v h1 hv (by rcases kx with z|z;calc .inr (.inl z);calc .inr (.inr z));calc#[u,rv,?_];rcases lk with⟨z,_⟩|⟨_,c,e,ic⟩
  .rcases kx with k|k <;> (rw[k]at z;ext z)
  .have kind:(relabel scope X.env).names.lookup x=some .cell\/(relabel scope X.env).names.lookup x=some .free:=by
    cases q:(relabel scope X.env).names.lookup x with
    |none=>calc absurd q h3'
    |some k=>
     rcases HJ (scope:=scope) x q with z|z
     .rw[fr]at z;ext z;exact .inr rfl
     .rw[z.2];exact .inl rfl
   refine .inr #[kind,c,?_,ic.keeps hk];show(cellsFrom (⇑s+1+1) scope.names cl).lookup x=some c;rw[Gw,JN];let(d,hd):=Option.isSome_iff_exists.mp (c2 (x,.free) (CO fr) rfl);have:=c1 x d hd;rw[e]at this;ext this;let nn:(cellsFrom (⇑s+1+1) scope.names []).lookup x=none:=by
    cases q:(cellsFrom (⇑s+1+1) scope.names []).lookup x with
    |none=>rfl
    |some d'=>
     let z:=S.cells (x,.cell) (Mb scope.names _ [] x d' (CO q) λz=>nomatch z) rfl;rw[fr]at z;ext z
   rw[nn];exact hd
 .rcases look x c e with q|⟨_,q⟩
  .exact#[none,(ok.empty x c (CO q)).1]
  .obtain⟨v,z⟩:=I.cell x c q;exact#[v,z.keeps hk]
 .rcases look x c e with q|⟨_,q⟩
  .exact I.hok.fresh (by have:=new x c q;omega)
  .exact I.freeC x c q
 .have hp':p∈X.pn++zB\/p=(⇑s,lo):=by
   rcases Ae.mp hp with z|z
   .exact .inl z
   .exact .inr (~~~z)
  rcases hp' with z|z
  .obtain⟨e,n,ne,nf,d⟩:=I.pin p z;let lt:(p.1:Nat)<⇑s:=AH e;refine#[hk _ _ e,n,?_,λq=>?_,d]
   .exact AZ (C5 lt)
   .rcases AK.mp (I.stkSub _ q)with r|r
    .exact ne r
    .exact nf r
  .subst z;refine#[pushCells_keeps _ _ _ _ (AJ _ (AS _ hfr)),I.hok.fresh (AF _),?_,λq=>?_,hlo]
   .show⇑s≠⇑s+1;omega
   .rcases AK.mp (I.stkSub _ q)with r|r
    .exact absurd I.lt (by rw[<-r];calc BS _)
    .exact I.nofs (AF _) r
def clr(own:Yj)(Y:St):St:=own.foldl (λY i=>Y.set i none) Y
theorem GP:∀(own:Yj)(Y:St),(clr own Y).length=Y.length
 |[],_=>rfl
 |i::r,Y=>by
  show(clr r (Y.set i none)).length=_;rw[GP r,List.length_set]
theorem GI:∀(own:Yj)(Y:St)(j:Nat)(v:V),(clr own Y)[j]?=some (some v)->Y[j]?=some (some v)/\j∉own
 |[],_,_,_,h=>#[h,λz=>nomatch z]
 |i::r,Y,j,v,h=>by
  let h':(clr r (Y.set i none))[j]?=some (some v):=h;let(a,b):=GI r _ j v h';rw[Ea]at a;cbv at a
  .split at a <;> ext a
  .intros hne;calc#[a,λz=>(AK.mp z).elim (λe=>hne e.symm) b]
def Ext(a b:St):Prop:=b.length=a.length/\∀(i:Nat) v,a[i]?=some (some v)->b[i]?=some (some v)
def Ext.refl(a:St):Ext a a:=#[rfl,λ_ _ h=>h]
def Ext.set(e:Ext (clr own Y) a)(h:i∈own):Ext (clr own Y) (a.set i (some v)):=by
 refine#[by rw[List.length_set];exact e.1,λj u q=>?_];rw[Ea];split
 .intros z;exact absurd (z▸h) (GI own Y j u q).2
 .exact e.2 j u q
def DV(X:Cx)(ifs:Yi)(t:TT):Prop :=
 ∀(zB:Yd)(s:Yl)(Y:St)(H:Hp)(Q:Bool->Hp->Prop),Inv X zB Y H s->t Y H Q ->
  wpAny (model X.prog X.w) X.A (forIn ifs true λc r=>if r=true then do let ok <- isTrue c X.env (eval c X.env);pure (ForInStep.yield ok)else pure (ForInStep.yield r)) (TP X zB Y Q) X.xe s
def fI:TT:=λ_ H Q=>Q true H
def sC:DV X [] fI:=λ_ _ _ H _ I h=>wpAny_tests_nil #[H,I,h]
def p7(h:PT X c t):DV X [c] t:=λzB s Y H Q I hq=>wpAny_tests_one (h zB s Y H Q I hq)
def rN(I:Nat->Shared->Prop)
  (turn:∀n s,I n s->wpAny (model prog w) A (pyNext it) (λr s₁=>match r with
   |none=>R (.ok .next) s₁
   |some v=>wpAny (model prog w) A (letOwnedTupleGo target it v) (λ_ s₁'=>wpAny (model prog w) A (assign target env v) (λ_ s₂=>
     wpAny (model prog w) A (forIn ifs true λc r=>if r=true then do let ok <- isTrue c env (eval c env);pure (ForInStep.yield ok)else pure (ForInStep.yield r)) (λok s₃=>
      if ok=true then wpAny (model prog w) A (eval elt env) (λx s₄=>
       wpAny (model prog w) A (call (.builtin "list.append") [acc,x]) (λ_ s₅=>∃m,m<n/\I m s₅) (λ_ _=>False) s₄) (λ_ _=>False) s₃
      else∃m,m<n/\I m s₃) (λ_ _=>False) s₂) (λ_ _=>False) s₁') (λ_ _=>False) s₁) (λ_ _=>False) s)
  (n:Nat) (h:I n s):
  codeAny (model prog w) A (.compLoop (.ListComp elt [#[target,iter,ifs,0]] scope pos) 0 it acc env) R s:=by
 refine codeAny_loop rfl I (λn s hI=>?_) n h;show wpAny _ A ((compTurn (.ListComp elt [#[target,iter,ifs,0]] scope pos) 0 it acc env).onRaise (λx=>do noteFrame x env;theTreesLotGoes x)) _ _ s;calc wpAny_noted ?_;rw[compTurn_list];refine AA (CA (AA (AQ (turn n s hI) (λr s₁ h₁=>?_) λ_ _ h'=>h'.elim)));cases r with
 |none=>calc AD h₁
 |some v=>
  refine AA (AQ h₁ (λ_ s₁' h₁'=>?_) λ_ _ h'=>h'.elim);refine AA (AQ h₁' (λ_ s₂ h₂=>AA (AQ h₂ (λok s₃ h₃=>?_) λ_ _ h'=>h'.elim)) λ_ _ h'=>h'.elim);cases ok with
  |false=>calc AD #[rfl,h₃]
  |true=>
   calc AA (AA (AQ h₃ (λx s₄ h₄=>AA (AQ h₄ (λ_ s₅ h₅=>AD (AD #[rfl,h₅])) λ_ _ h'=>h'.elim)) λ_ _ h'=>h'.elim))
def OR(own:Yj)(wi:TI)(g:TG)(tc:TT)(te:TE):TE:=λY H Q=>wi Y H λJ H1=>∃W:Nat->Nat->List V->Hp->Prop,(∃m,W 0 m [] H1)/\∀i m ys H,W i m ys H ->
 (J.stop i H/\ys.length<=sizeLine/\∀D,H D=none->Q (.ref D) (upd H D (.lst ys))) \/
 (J.go i H/\∀x H',J.yld i H x H'->g x (clr own Y) H' λσ2 H2=>Ext (clr own Y) σ2/\tc σ2 H2 λb H3=>
  if b=true then te σ2 H3 λv H4=>ys.length<sizeLine/\∃m',m'<m/\W (i+1) m' (ys++[v]) H4 else∃m',m'<m/\W (i+1) m' ys H3)
abbrev zg(its:List Value)(n:Nat):Obj:={cls:=.type "list",data:=.seq its.toArray n}
def Inv.repin(I:Inv X (pl++[(D,o)]) Y H s)(hpl:∀p∈X.pn++pl,p.1≠D)(hs:Heap.SameBut D s.heap h')(hD:⇑X.s₀<=D)(hc:∀x c,X.env.cells.lookup x=some c->c≠D)
  (e:h'.get? D=some o') (hn:∀v,o'.data≠.cell v):Inv X (pl++[(D,o')]) Y H {s with heap:=h' }:=by
 let(e0,n0,ne0,nf0,d0):=I.pin (D,o) (by simp);let I1:Inv X pl Y H s:=I.pins_of λp hp=>I.pin p (by simp[hp]);let I2:Inv X pl Y H {s with heap:=h' }:=I1.turned (λb u hb q=>hs.extBut b u hb q) n0 ne0 (.inr hD) hc hpl;exact I2.pins_of λp hp=>by
  rcases Ae.mp hp with z|z
  .exact I2.pin p (Ak _ z)
  .have:p=(D,o'):=by simpa using z
   subst this;calc#[e,n0,ne0,nf0,hn]
section
variable{pos:Pos}
 {own:Yj} {g:TG} {tc:TT} {te:TE} {E:Yc}
structure CompIn(X:Cx)(scope:Y0)(own:Yj):Prop where
 sc:CompScope X scope
 nm:∀(i:Nat) x,X.N[i]?=some x->i∈own\/scope.names.lookup x=none\/scope.names.lookup x=some .free
def K1(x:Str)(h:scope.names.lookup x=none):(relabel scope env).names.lookup x=none:=by
 cases q:(relabel scope env).names.lookup x with
 |none=>rfl
 |some k=>
  rcases HJ (scope:=scope) x q with z|z
  .rw[h]at z;ext z
  .rw[h]at z;cases z.1
def RS(C:CompIn X scope own)(hcalm:X.calm=true)(I:Inv X zB Y H s)(T:Turn X.prog X.w X.K tg J fp it tn)(st:tn 0 s.heap)(hf:∀b∈fp,BN X zB H b)
  (c1:∀x c,cl.lookup x=some c->X.env.cells.lookup x=some c) (c2:∀y∈scope.names,y.2=.free->(cl.lookup y.1).isSome=true)
  (hg:PG (zK X zB scope cl s H fp) tg g) (hi:DV (zK X zB scope cl s H fp) ifs tc) (he:PE (zK X zB scope cl s H fp) elt te)
  {RR:Value->Addr->Result->Shared->Prop} {QQ:List V->Hp->Prop} {W:Nat->Nat->List V->Hp->Prop} {m0:Nat} (w0:W 0 m0 [] H)
  (turn:∀i m ys H,W i m ys H->(J.stop i H/\ys.length<=sizeLine/\QQ ys H) \/
   (J.go i H/\∀x H',J.yld i H x H'->g x (clr own Y) H' λσ2 H2=>Ext (clr own Y) σ2/\tc σ2 H2 λb H3=>
    if b=true then te σ2 H3 λv H4=>ys.length<sizeLine/\∃m',m'<m/\W (i+1) m' (ys++[v]) H4 else∃m',m'<m/\W (i+1) m' ys H3))
  (fin:∀σc H' s' its n ys,Inv (zK X zB scope cl s H fp) [(⇑s,zg its n)] σc H' s'->zd ys its->ys.length<=sizeLine->QQ ys H'->RR (.ref ⇑s) (⇑s+1) (.ok .next) s'):
  wpAny (model X.prog X.w) X.A (newList []) (λacc s₃=>wpAny (model X.prog X.w) X.A (newFunctionEnv scope X.env.globals cl [] X.env.qual none .none (some X.env)) (λcenv s₄=>
   codeAny (model X.prog X.w) X.A (.compStart (.ListComp elt [#[tg,iter,ifs,0]] scope pos) 0 (.ref it) acc {cenv with scope:=relabel scope X.env}) (RR acc cenv.locals) s₄) E s₃) E s:=by
 let ob:∀b:Nat,b∈fp->b<⇑s:=λb hb=>let⟨_,e,_⟩:=T.obj 0 _ st b hb;AH e;refine BH (LO ?_);let sz1:(s.heap.push (zg [] 0)).objs.size=⇑s+1:=Bo ..;let I4:=Kx C.sc I hf ob c1 c2 (GP own Y) (λi x v h1 h2 h3=>by
  let(a,b):=GI own Y i v h2;rcases C.nm i x h1 with z|z|z
  .exact absurd z b
  .exact absurd (K1 x z) h3
  .exact#[z,a]) (zg [] 0) (by intro v z;ext z) rfl rfl
 let st4:tn 0 (pushCells ((s.heap.push (zg [] 0)).push {cls:=.type "dict",data:=.dict #[] }) scope.names):=T.keep 0 _ _ st λb _ o e=>pushCells_keeps _ _ b o (AJ _ (AJ _ e));erw[newEnv];rw[sz1];let hDfp:⇑s∉fp:=λz=>BS _ (ob _ z);let hcD:∀x c,(zK X zB scope cl s H fp).env.cells.lookup x=some c->c≠⇑s:=λx c e z=>by
  let(v,o,ho,hd):=I4.cell x c e;let(q,_):=I4.pin (⇑s,zg [] 0) (by simp);rw[z,q]at ho;ext ho;ext hd
 let fpk:∀{H':Hp}{pl:Yd},(∀b∈fp,H' b=none)->(∀p∈pl,p.1=⇑s)->∀b∈fp,BN (zK X zB scope cl s H fp) pl H' b:=λ{H' pl} hn hp b hb=>
  #[hn b hb,(I4.ok.exf b hb).1,I4.ok.exfs b hb,.inl hb,(I4.ok.exf b hb).2,λp hq=>by
   rcases Ae.mp hq with z|z
   .exact(hf b hb).2.2.2.2.2 p z
   .intro e;let e2:=hp p z;rw[e]at e2;calc hDfp (e2▸hb)]
 let loop:codeAny (model X.prog X.w) X.A (.compLoop (.ListComp elt [⟨tg,iter,ifs,0⟩] scope pos) 0 (.ref it) (.ref ⇑s) (zK X zB scope cl s H fp).env) (RR (.ref ⇑s) (⇑s+1))
   {s with heap:=pushCells ((s.heap.push (zg [] 0)).push {cls:=.type "dict",data:=.dict #[] }) scope.names}:=by
  refine rN (λn s'=>∃i H' ys its k,Inv (zK X zB scope cl s H fp) [(⇑s,zg its k)] (clr own Y) H' s'/\zd ys its/\tn i s'.heap/\(∀b∈fp,H' b=none)/\W i n ys H') ?_ m0
   #[0,H,[],[],0,I4,.nil,st4,λb hb=>(hf b hb).1,w0]
  rintro n s5 ⟨i,H5,ys,its,k,I5,r5,st5,f5,w5⟩;let pinD:∀p∈[(⇑s,zg its k)],p.1=⇑s:=λp hp=>by
   have:p=(⇑s,zg its k):=by simpa using hp
   rw[this]
  rcases turn i n ys H5 w5 with⟨stop,hz,qq⟩|⟨go,step⟩
  .refine thn (T.done (zK X zB scope cl s H fp) rfl rfl rfl hcalm i _ s5 _ H5 _ I5 (fpk f5 pinD) st5 stop) λr s6 ⟨hr,I6⟩=>?_;subst hr;exact fin _ H5 s6 its k ys I6 r5 hz qq
  .refine thn (T.item (zK X zB scope cl s H fp) rfl rfl rfl hcalm i _ s5 _ H5 _ I5 (fpk f5 pinD) st5 go) λr s6 ⟨u,hr,h6⟩=>?_;subst hr;refine thn h6 λ_ s7 ⟨x,H7,I7,r7,y7,st7,f7⟩=>?_;let I7':=I7.pinned (fpk f7 pinD) (T.obj _ _ st7);refine thn (hg _ s7 _ H7 x u _ I7' r7 (step x H7 y7)) λ_ s8 ⟨σ8,H8,I8,x8,q8⟩=>?_;refine thn (hi _ s8 σ8 H8 _ I8 q8) λok s9 ⟨H9,I9,q9⟩=>?_;let back:∀{s':Yl}{Hx:Hp},Inv (zK X zB scope cl s H fp) ([(⇑s,zg its k)]++Em fp s7.heap) σ8 Hx s'->tn (i+1) s'.heap/\∀b∈fp,Hx b=none:=λ{s' Hx} Ix=>
    #[T.keep _ _ _ st7 λb hb o e=>(Ix.pin (b,o) (Ak _ (Ak _ (Dh hb e)))).1,λb hb=>by
     let(o,e,d):=T.obj _ _ st7 b hb;calc(Ix.pin (b,o) (Ak _ (Ak _ (Dh hb e)))).2.1]
   cases ok with
   |false=>
    let(m',hm,w'):=q9;let(b1,b2):=back I9;calc#[m',hm,i+1,H9,ys,its,k,(I9.weak (by rw[x8.1]) x8.2).unpinned,r5,b1,b2,w']
   |true=>
    refine thn (he _ s9 σ8 H9 _ I9 q9) λv s10 ⟨y,H10,I10,r10,hlt,m',hm,w'⟩=>?_;let(b1,b2):=back I10;let J10:=(I10.weak (by rw[x8.1]) x8.2).unpinned;let(e10,n10,ne10,nf10,d10):=J10.pin (⇑s,zg its k) (by simp);let hlen:its.toArray.size<=sizeLine:=by
     have:=r5.length;rw[AX,<-this];exact DW hlt
    refine wpAny_list_append_plain (show s10.heap.PlainList ⇑s its.toArray from#[k,e10]) λh' hl' hs'=>?_;let(k',e'):=hl';let e'':h'.get? ⇑s=some (zg (its++[v]) k'):=by rw[e'];simp[zg]
    refine#[m',hm,i+1,H10,ys++[y],its++[v],k',?_,r5.append (.cons r10 .nil),T.keep _ _ _ b1 λb hb o e=>hs'.extBut b o (λz=>hDfp (z▸hb)) e,b2,w'];refine Inv.repin (pl:=[]) J10 (λp hp=>?_) hs' (AF _) hcD e'' (by intro v z;ext z);rw[BI]at hp;let hp':p∈X.pn++zB:=hp;exact AZ (AH (I.pin p hp').1)
 calc codeAny_compStart_list loop (T.self _ 0 _ _ _ st4 loop)
end
def Mw(I:Inv X zB Y H s)(hf:∀b∈fp,BN X zB H b)
  (Ic:Inv (zK X zB scope cl s H fp) [(⇑s,zg its n)] σc H' s') (rv:zd ys its) (hz:ys.length<=sizeLine) (hs:Heap.SameBut (⇑s+1) s'.heap h'):
  Inv X zB Y (upd H' ⇑s (.lst ys)) {s' with heap:=h' }/\H' ⇑s=none:=by
 let(eD,nD,_):=Ic.pin (⇑s,zg its n) (by simp);let nC:H' (⇑s+1)=none:=Ic.free;let eD':h'.get? ⇑s=some (zg its n):=hs.extBut _ _ (AZ (D3 _)) eD;let lt1:∀{b:Yt}{o:Obj},s.heap.get? b=some o->b≠⇑s+1/\b≠⇑s:=λe=>#[AZ (C5 (AH e)),AZ (AH e)];let tr:∀b u,H' b=some u->b≠⇑s+1/\b≠⇑s:=λb u e=>#[λz=>(by rw[z,nC]at e;ext e),λz=>(by rw[z,nD]at e;ext e)];refine#[?_,nD];let B:=Ic.base;let un:Un (frs X.stack) fp H (upd H' ⇑s (.lst ys)) s.heap h':=by
  refine#[λb o e q hb hx=>hs.extBut b o (lt1 e).1 (B.keep b o e q hb hx),λb o e q hb hx=>?_,λb o e q hx=>?_,λb o e hx=>?_,λb xs e=>?_,λb o xs e=>?_,λb ps e=>?_]
  .obtain⟨sl,e1⟩:=B.slot b o e q hb hx;exact#[sl,hs.extBut b _ (lt1 e).1 e1]
  .rw[zT (lt1 e).2];exact B.free b o e q hx
  .obtain⟨o',e1⟩:=B.there b o e hx;exact#[o',hs.extBut b _ (lt1 e).1 e1]
  .have q:=B.tups b xs e;rw[zT (tr b _ q).2];exact q
  .have q:=B.frzs b o xs e;rw[zT (tr b _ q).2];exact q
  .obtain⟨more,q⟩:=B.tbls b ps e;exact#[more,by rw[zT (tr b _ q).2];calc q]
 let hok:HOk X.prog X.w (upd H' ⇑s (.lst ys)) h':=λb u e=>by
  by_cases hb:b=⇑s
  .subst hb;rw[zk]at e;ext e;exact#[hz,its,n,rv,eD']
  .rw[zT hb]at e;refine(Ic.hok b u e).stay (λc v hc q=>hs.extBut c v ?_ q) (λc q=>by rw[zT (tr c _ q).2];exact q) λc xs q=>by rw[zT (tr c _ q).2];exact q
   rcases hc with z|z
   .rw[z];exact(tr b u e).1
   .exact(tr c _ z).1
 calc I.call' Ic.os un hok Ic.bare λb hb=>#[(hf b hb).2.2.2.1,(hf b hb).2.1,(hf b hb).2.2.2.2.1,(hf b hb).2.2.2.2.2]
structure CompParts(X:Cx)(scope:Y0)(tg:Expr)(ifs:Yi)(elt:Expr)(g:TG)(tc:TT)(te:TE):Prop where
 g:∀zB cl s H fp,PG (zK X zB scope cl s H fp) tg g
 c:∀zB cl s H fp,DV (zK X zB scope cl s H fp) ifs tc
 e:∀zB cl s H fp,PE (zK X zB scope cl s H fp) elt te
def CompScope.closure(S:CompScope X scope)(I:Inv X zB Y H s):
  ∃cl,closureFor scope X.env=pure cl/\(∀x c,cl.lookup x=some c->X.env.cells.lookup x=some c)/\∀y∈scope.names,y.2=.free->(cl.lookup y.1).isSome=true :=
 P5 λy hy hk=>I.ok.has y.1 (S.free y hy hk)
def nG(C:CompIn X scope own)(hcalm:X.calm=true)(hi:PI X tg iter wi)(p:CompParts X scope tg ifs elt g tc te)(hs:∀x,foldedSetIterable iter X.env x=pure x:=by intro _;rfl):
  PE X (.ListComp elt [#[tg,iter,ifs,0]] scope pos) (OR own wi g tc te):=by
 intro zB s Y H Q I h;let(cl,hcl,c1,c2):=C.sc.closure I;rw[eval_ListComp];refine HY rfl hs hcl C.sc.kind C.sc.names (thn (hi zB s Y H _ I h) λv s1 h1=>thn h1 λitv s2 h2=>?_);let(it,fp,tn,J,H2,e,I2,T,st2,f2,W,(m0,w0),turn):=h2;subst e;calc RS C hcalm I2 T st2 f2 c1 c2 (p.g _ _ _ _ _) (p.c _ _ _ _ _) (p.e _ _ _ _ _) w0 turn ?_;intro σc H' s' its n ys Ic rv hz qq;let(m,hn,_):=Ic.loc;refine#[m,hn,λh' hs'=>?_];let(J',nD):=Mw I2 f2 Ic rv hz hs';calc#[.ref ⇑s2,_,J',rfl,qq _ nD]
def X8(hN:X.N.Nodup)(hi':X.N[i]?=some x)(hx:Loc X.env.scope x)(hfn:X.fn x=true\/X.env.scope.names.lookup x=some .local)
  (C:CompIn X scope own) (hcalm:X.calm=true) (hi:PI X tg iter wi) (p:CompParts X scope tg ifs elt g tc te)
  (hsw:swapsWith (.ListComp elt [#[tg,iter,ifs,0]] scope pos) (some (.Name x pos')) pos''.line X.env=pure true) (hs:∀x,foldedSetIterable iter X.env x=pure x:=by intro _;rfl):
  PS X (.Assign [.Name x pos'] (.ListComp elt [#[tg,iter,ifs,0]] scope pos) pos'') (IY (OR own wi g tc te) (CY i)):=by
 intro zB s Y H D I h;let(cl,hcl,c1,c2):=C.sc.closure I;rw[exec_Assign_Name_used _ _ _ _ hsw];refine AA (CA (AA ?_))
 refine AA (AQ (HY rfl hs hcl C.sc.kind C.sc.names
  (thn (hi zB s Y H _ I h) λv s1 h1=>thn h1 λitv s2 h2=>?_)) (λ_ s' hq=>AD (AD hq)) λ_ _ e=>e)
 let(it,fp,tn,J,H2,e,I2,T,st2,f2,W,(m0,w0),turn):=h2;subst e
 refine RS C hcalm I2 T st2 f2 c1 c2 (p.g _ _ _ _ _) (p.c _ _ _ _ _) (p.e _ _ _ _ _)
  w0 turn ?_
 intro σc H' s' its n ys Ic rv hz qq;let(m,hn,_):=Ic.loc;let(J',nD):=Mw I2 f2 Ic rv hz (.refl ..);let(oC,es,ep,hoC,hdC,r1,r2):=id hn;let nC:upd H' ⇑s2 (.lst ys) (⇑s2+1)=none:=by rw[zT (Cr (D3 _))];exact Ic.free
 let K':Inv X (zB++[(⇑s2+1,oC)]) Y (upd H' ⇑s2 (.lst ys)) s':=J'.pins_of λq hq=>by
  rcases Ae.mp hq with z|z
  .exact J'.pin q (Ak _ z)
  .have e:q=(⇑s2+1,oC):=by simpa using z
   subst e;refine#[hoC,nC,Cr (C5 I2.lt),I2.nofs (Cw _),λv z=>?_];let z':oC.data=.cell v:=z;rw[hdC]at z';ext z'
 refine thn (OB hN hi' hx hfn _ s' Y _ (.ref ⇑s2) (.ref ⇑s2) _ K' rfl (qq _ nD)) λ_ s'' ⟨Y'',H'',I'',q''⟩=>?_;let(eC,_):=I''.pin (⇑s2+1,oC) (by simp);refine#[m,#[oC,es,ep,eC,hdC,r1,r2],λh' hs'=>#[Y'',H'',?_,q'']];let I3:Inv X zB Y'' H'' s'':=I''.unpinned;let(_,nC'',neC,_,_):=I''.pin (⇑s2+1,oC) (by simp);refine I3.turned (λb o hb e=>hs'.extBut b o hb e) nC'' neC (.inr (Ab I2.sz (Cw _))) (λx c e z=>?_) (λq hq z=>?_)
 .obtain⟨v,o,ho,hd⟩:=I3.cell x c e;rw[z,eC]at ho;ext ho;rw[hdC]at hd;ext hd
 .obtain⟨e,_⟩:=I2.pin q hq;calc AZ (C5 (AH e)) z
abbrev Bt(elt t1 i1:Expr)(f1:Yi)(t2 i2:Expr)(f2:Yi)(scope:Y0)(pos:Pos):Expr:=.ListComp elt [#[t1,i1,f1,0],#[t2,i2,f2,0]] scope pos
def We(elt t1 i1:Expr)(f1:Yi)(t2 i2:Expr)(f2:Yi)(scope:Y0)(pos:Pos)(it acc:Yu)(env:Env):
  compTurn (Bt elt t1 i1 f1 t2 i2 f2 scope pos) 0 it acc env=(do
   standAt i1.pos;match <- pyNext it with
   |none=>pure (.done .next)
   |some v=>
    letOwnedTupleGo t1 it v;assign t1 env v;let mut ok:=true
    for c in f1 do
     if ok then ok <- isTrue c env (eval c env)
    if ok then
     let x <- eval i2 env;standAt i2.pos;let x <- foldedSetIterable i2 env x;let _ <- runOwn (.compStart (Bt elt t1 i1 f1 t2 i2 f2 scope pos) 1 (<- holding [x] (pyIter x)) acc env) env
    again (.compLoop (Bt elt t1 i1 f1 t2 i2 f2 scope pos) 0 it acc env)):=by rfl
def pO(elt t1 i1:Expr)(f1:Yi)(t2 i2:Expr)(f2:Yi)(scope:Y0)(pos:Pos)(it acc:Yu)(env:Env):
  compTurn (Bt elt t1 i1 f1 t2 i2 f2 scope pos) 1 it acc env=(do
   standAt i2.pos;match <- pyNext it with
   |none=>pure (.done .next)
   |some v=>
    letOwnedTupleGo t2 it v;assign t2 env v;let mut ok:=true
    for c in f2 do
     if ok then ok <- isTrue c env (eval c env)
    if ok then
     (do let _ <- call (.builtin "list.append") [acc,<-eval elt env])
    again (.compLoop (Bt elt t1 i1 f1 t2 i2 f2 scope pos) 1 it acc env)):=by rfl
def Zo(I:Nat->Shared->Prop)
  (turn:∀n s,I n s->wpAny (model prog w) A (pyNext it) (λr s₁=>match r with
   |none=>R (.ok .next) s₁
   |some v=>wpAny (model prog w) A (letOwnedTupleGo t2 it v) (λ_ s₁'=>wpAny (model prog w) A (assign t2 env v) (λ_ s₂=>
     wpAny (model prog w) A (forIn f2 true λc r=>if r=true then do let ok <- isTrue c env (eval c env);pure (ForInStep.yield ok)else pure (ForInStep.yield r)) (λok s₃=>
      if ok=true then wpAny (model prog w) A (eval elt env) (λx s₄=>
       wpAny (model prog w) A (call (.builtin "list.append") [acc,x]) (λ_ s₅=>∃m,m<n/\I m s₅) (λ_ _=>False) s₄) (λ_ _=>False) s₃
      else∃m,m<n/\I m s₃) (λ_ _=>False) s₂) (λ_ _=>False) s₁') (λ_ _=>False) s₁) (λ_ _=>False) s)
  (n:Nat) (h:I n s):
  codeAny (model prog w) A (.compLoop (Bt elt t1 i1 f1 t2 i2 f2 scope pos) 1 it acc env) R s:=by
 refine codeAny_loop rfl I (λn s hI=>?_) n h;show wpAny _ A ((compTurn (Bt elt t1 i1 f1 t2 i2 f2 scope pos) 1 it acc env).onRaise (λx=>do noteFrame x env;theTreesLotGoes x)) _ _ s;calc wpAny_noted ?_;rw[pO];refine AA (CA (AA (AQ (turn n s hI) (λr s₁ h₁=>?_) λ_ _ h'=>h'.elim)));cases r with
 |none=>calc AD h₁
 |some v=>
  refine AA (AQ h₁ (λ_ s₁' h₁'=>?_) λ_ _ h'=>h'.elim);refine AA (AQ h₁' (λ_ s₂ h₂=>AA (AQ h₂ (λok s₃ h₃=>?_) λ_ _ h'=>h'.elim)) λ_ _ h'=>h'.elim);cases ok with
  |false=>calc AD #[rfl,h₃]
  |true=>
   calc AA (AA (AQ h₃ (λx s₄ h₄=>AA (AQ h₄ (λ_ s₅ h₅=>AD (AD #[rfl,h₅])) λ_ _ h'=>h'.elim)) λ_ _ h'=>h'.elim))
def bR
  (h0:codeAny (model prog w) A (.compLoop (Bt elt t1 i1 f1 t2 i2 f2 scope pos) 1 it acc env) R s)
  (h:wpAny (model prog w) A (pyIter it) (λit' s'=>codeAny (model prog w) A (.compLoop (Bt elt t1 i1 f1 t2 i2 f2 scope pos) 1 it' acc env) R s')
   (notedBy (model prog w) A env λx s'=>R (.error x) s') s):
  codeAny (model prog w) A (.compStart (Bt elt t1 i1 f1 t2 i2 f2 scope pos) 1 it acc env) R s:=by
 calc codeAny_of_tree ?_;show wpAny _ _ ((compStart (Bt elt t1 i1 f1 t2 i2 f2 scope pos) 1 it acc env).onRaise (λx=>do noteFrame x env;standAt theWindowsPlace)) _ _ s;calc wpAny_notedAt ?_;erw[compStart];calc AA (wpAny_askSetting (wpAny_ite ?_));split
 .first
   |calc AA (AD (AD (And.intro rfl h0)))
   |exact AD (And.intro rfl h0)
 .first
   |exact AA (CS (AA (CA (AA (AQ h (λit' s' h'=>AD (And.intro rfl h')) λ_ _ x=>x)))))
   | (calc AA (CS ?_);show wpAny _ _ (standAt i2.pos >>= _) _ _ s;calc AA (CA (AA (AQ h (λit' s' h'=>AD (And.intro rfl h')) λ_ _ x=>x))))
def aI(hs2:∀x,foldedSetIterable i2 env x=pure x)(I:Nat->Shared->Prop)
  (turn:∀n s,I n s->wpAny (model prog w) A (pyNext it) (λr s₁=>match r with
   |none=>R (.ok .next) s₁
   |some v=>wpAny (model prog w) A (letOwnedTupleGo t1 it v) (λ_ s₁'=>wpAny (model prog w) A (assign t1 env v) (λ_ s₂=>
     wpAny (model prog w) A (forIn f1 true λc r=>if r=true then do let ok <- isTrue c env (eval c env);pure (ForInStep.yield ok)else pure (ForInStep.yield r)) (λok s₃=>
      if ok=true then wpAny (model prog w) A (eval i2 env) (λx s₄=>wpAny (model prog w) A (pyIter x) (λit2 s₅=>
       codeAny (model prog w) A (.compStart (Bt elt t1 i1 f1 t2 i2 f2 scope pos) 1 it2 acc env) (λr s₆=>r=.ok .next/\∃m,m<n/\I m s₆) s₅) (λ_ _=>False) s₄) (λ_ _=>False) s₃
      else∃m,m<n/\I m s₃) (λ_ _=>False) s₂) (λ_ _=>False) s₁') (λ_ _=>False) s₁) (λ_ _=>False) s)
  (n:Nat) (h:I n s):
  codeAny (model prog w) A (.compLoop (Bt elt t1 i1 f1 t2 i2 f2 scope pos) 0 it acc env) R s:=by
 refine codeAny_loop rfl I (λn s hI=>?_) n h;show wpAny _ A ((compTurn (Bt elt t1 i1 f1 t2 i2 f2 scope pos) 0 it acc env).onRaise (λx=>do noteFrame x env;theTreesLotGoes x)) _ _ s;calc wpAny_noted ?_;rw[We];refine AA (CA (AA (AQ (turn n s hI) (λr s₁ h₁=>?_) λ_ _ h'=>h'.elim)));cases r with
 |none=>calc AD h₁
 |some v=>
  refine AA (AQ h₁ (λ_ s₁' h₁'=>?_) λ_ _ h'=>h'.elim);refine AA (AQ h₁' (λ_ s₂ h₂=>AA (AQ h₂ (λok s₃ h₃=>?_) λ_ _ h'=>h'.elim)) λ_ _ h'=>h'.elim);cases ok with
  |false=>calc AD #[rfl,h₃]
  |true=>
   refine AA (AQ h₃ (λx s₄ h₄=>AA (CA (AA (wpAny_of_eq (hs2 x) (AA (Bu (AQ h₄ (λit2 s₅ h₅=>?_) λ_ _ h'=>h'.elim))))))) λ_ _ h'=>h'.elim);refine AA (wpAny_runOwn (codeAny_mono h₅ λr s₆ hr=>?_));let(rfl,hr):=hr;calc AD #[rfl,hr]
def tIn(own2:Yj)(wi2:TI)(g2:TG)(tc2:TT)(te:TE)(σ2:St)(H3:Hp)(ys:List V)(QQ:List V->Hp->Prop):Prop :=
 wi2 σ2 H3 λJ2 H4=>∃W2:Nat->Nat->List V->Hp->Prop,(∃m,W2 0 m ys H4)/\∀j m zs H,W2 j m zs H ->
  (J2.stop j H/\QQ zs H) \/
  (J2.go j H/\∀x H',J2.yld j H x H'->g2 x (clr own2 σ2) H' λσ3 H5=>Ext (clr own2 σ2) σ3/\tc2 σ3 H5 λb H6=>
   if b=true then te σ3 H6 λv H7=>zs.length<sizeLine/\∃m',m'<m/\W2 (j+1) m' (zs++[v]) H7 else∃m',m'<m/\W2 (j+1) m' zs H6)
section
variable{D:Yt}
 {own2:Yj} {wi2:TI} {g2:TG} {tc2:TT} {te:TE} {R:Yx}
def l6(hxe:C.xe=λ_ _=>False)(hcalm:C.calm=true)(hi:PI C t2 i2 wi2)(hg:PG C t2 g2)(hc:DV C f2 tc2)(he:PE C elt te)(hD:⇑C.s₀<=D)
  (hcD:∀x c,C.env.cells.lookup x=some c->c≠D) (hpl:∀p∈C.pn++pl,p.1≠D) (I:Inv C (pl++[(D,zg its k)]) Y H s) (rv:zd ys its) (h:tIn own2 wi2 g2 tc2 te Y H ys QQ)
  (fin:∀s' H' its' k' zs,Inv C (pl++[(D,zg its' k')]) (clr own2 Y) H' s'->zd zs its'->QQ zs H'->R (.ok .next) s'):
  wpAny (model C.prog C.w) C.A (eval i2 C.env) (λx s₄=>wpAny (model C.prog C.w) C.A (pyIter x) (λit2 s₅=>
   codeAny (model C.prog C.w) C.A (.compStart (Bt elt t1 i1 f1 t2 i2 f2 scope pos) 1 it2 (.ref D) C.env) R s₅) (λ_ _=>False) s₄) (λ_ _=>False) s:=by
 let hpi:=hi _ s Y H _ I h;rw[hxe]at hpi;refine thn hpi λv s1 h1=>thn h1 λitv s2 h2=>?_;let(it,fp,tn,J,H2,e,I2,T,st2,f2',W,(m0,w0),turn):=h2;subst e;let hDfp:D∉fp:=λz=>(f2' D z).2.2.2.2.2 (D,zg its k) (by simp) rfl;let loop:∀s',(∃H',Inv C (pl++[(D,zg its k)]) (clr own2 Y) H' s'/\tn 0 s'.heap/\(∀b∈fp,H' b=none)/\W 0 m0 ys H')->codeAny (model C.prog C.w) C.A (.compLoop (Bt elt t1 i1 f1 t2 i2 f2 scope pos) 1 (.ref it) (.ref D) C.env) R s':=by
  rintro s' ⟨H',I',st',hn',w'⟩;let fpk:∀{H':Hp}{its:Yf}{k:Nat},(∀b∈fp,H' b=none)->∀b∈fp,BN C (pl++[(D,zg its k)]) H' b:=λ{H' its k} hn b hb=>by
   let(_,a2,a3,a4,a5,a6):=f2' b hb;refine#[hn b hb,a2,a3,a4,a5,λp hp=>?_];rcases Ae.mp hp with z|z
   .exact a6 p (CI _ z)
   .rcases Ae.mp z with z|z
    .exact a6 p (Ak _ (CI _ z))
    .have:p=(D,zg its k):=by simpa using z
     rw[this];intro q;let q':D=b:=q;exact hDfp (q'▸hb)
  refine Zo (λn s'=>∃i H' ys its k,Inv C (pl++[(D,zg its k)]) (clr own2 Y) H' s'/\zd ys its/\tn i s'.heap/\(∀b∈fp,H' b=none)/\W i n ys H') ?_ m0 #[0,H',ys,its,k,I',rv,st',hn',w'];rintro n s5 ⟨i,H5,ys,its,k,I5,r5,st5,f5,w5⟩;rcases turn i n ys H5 w5 with⟨stop,qq⟩|⟨go,step⟩
  .refine thn (T.done C rfl rfl rfl hcalm i _ s5 _ H5 _ I5 (fpk f5) st5 stop) λr s6 ⟨hr,I6⟩=>?_;subst hr;exact fin s6 H5 its k ys I6 r5 qq
  .refine thn (T.item C rfl rfl rfl hcalm i _ s5 _ H5 _ I5 (fpk f5) st5 go) λr s6 ⟨u,hr,h6⟩=>?_;subst hr;refine thn h6 λ_ s7 ⟨x,H7,I7,r7,y7,st7,f7⟩=>?_;let I7':=I7.pinned (fpk f7) (T.obj _ _ st7);let hgg:=hg _ s7 _ H7 x u _ I7' r7 (step x H7 y7);rw[hxe]at hgg;refine thn hgg λ_ s8 ⟨σ8,H8,I8,x8,q8⟩=>?_;let hcc:=hc _ s8 σ8 H8 _ I8 q8;rw[hxe]at hcc;refine thn hcc λok s9 ⟨H9,I9,q9⟩=>?_;let back:∀{s':Yl}{Hx:Hp},Inv C ((pl++[(D,zg its k)])++Em fp s7.heap) σ8 Hx s'->tn (i+1) s'.heap/\∀b∈fp,Hx b=none:=λ{s' Hx} Ix=>
    #[T.keep _ _ _ st7 λb hb o e=>(Ix.pin (b,o) (Ak _ (Ak _ (Dh hb e)))).1,λb hb=>by
     let(o,e,d):=T.obj _ _ st7 b hb;calc(Ix.pin (b,o) (Ak _ (Ak _ (Dh hb e)))).2.1]
   cases ok with
   |false=>
    let(m',hm,w'):=q9;let(b1,b2):=back I9;calc#[m',hm,i+1,H9,ys,its,k,(I9.weak (by rw[x8.1]) x8.2).unpinned,r5,b1,b2,w']
   |true=>
    let hee:=he _ s9 σ8 H9 _ I9 q9;rw[hxe]at hee;refine thn hee λv s10 ⟨y,H10,I10,r10,hlt,m',hm,w'⟩=>?_;let(b1,b2):=back I10;let J10:=(I10.weak (by rw[x8.1]) x8.2).unpinned;let(e10,n10,ne10,nf10,d10):=J10.pin (D,zg its k) (by simp);let hlen:its.toArray.size<=sizeLine:=by
     have:=r5.length;rw[AX,<-this];exact DW hlt
    refine wpAny_list_append_plain (show s10.heap.PlainList D its.toArray from#[k,e10]) λh' hl' hs'=>?_;let(k',e'):=hl';let e'':h'.get? D=some (zg (its++[v]) k'):=by rw[e'];simp[zg]
    refine#[m',hm,i+1,H10,ys++[y],its++[v],k',?_,r5.append (.cons r10 .nil),T.keep _ _ _ b1 λb hb o e=>hs'.extBut b o (λz=>hDfp (z▸hb)) e,b2,w'];exact Inv.repin J10 hpl hs' hD hcD e'' (by intro v z;ext z)
 let l0:=loop s2 #[H2,I2.weak (GP own2 Y) (λi v h=>(GI own2 Y i v h).1),st2,λb hb=>(f2' b hb).1,w0];calc bR l0 (T.self _ 0 _ _ _ st2 l0)
end
section
variable{pos:Pos}
 {own own2:Yj} {g g2:TG} {tc tc2:TT} {te:TE} {wi wi2:TI} {E:Yc}
theorem R0:∀(own:Yj)(Y:St)(j:Nat),j∉own->(clr own Y)[j]?=Y[j]?
 |[],_,_,_=>rfl
 |i::r,Y,j,h=>by
  show(clr r (Y.set i none))[j]?=_;rw[R0 r _ j (λz=>h (Aa _ z)),Ag (λz=>h (by rw[z];calc AR))]
def cK(hsub:∀i∈own2,i∈own)(C:CompIn X scope own)(hcalm:X.calm=true)(I:Inv X zB Y H s)(T:Turn X.prog X.w X.K t1 J fp it tn)(st:tn 0 s.heap)(hf:∀b∈fp,BN X zB H b)
  (c1:∀x c,cl.lookup x=some c->X.env.cells.lookup x=some c) (c2:∀y∈scope.names,y.2=.free->(cl.lookup y.1).isSome=true)
  (hg:PG (zK X zB scope cl s H fp) t1 g) (hi:DV (zK X zB scope cl s H fp) f1 tc)
  (hi2:PI (zK X zB scope cl s H fp) t2 i2 wi2) (hg2:PG (zK X zB scope cl s H fp) t2 g2) (hc2:DV (zK X zB scope cl s H fp) f2 tc2) (he:PE (zK X zB scope cl s H fp) elt te)
  (hs2:∀x,foldedSetIterable i2 (zK X zB scope cl s H fp).env x=pure x)
  {RR:Value->Addr->Result->Shared->Prop} {QQ:List V->Hp->Prop} {W:Nat->Nat->List V->Hp->Prop} {m0:Nat} (w0:W 0 m0 [] H)
  (turn:∀i m ys H,W i m ys H->(J.stop i H/\ys.length<=sizeLine/\QQ ys H) \/
   (J.go i H/\∀x H',J.yld i H x H'->g x (clr own Y) H' λσ2 H2=>Ext (clr own Y) σ2/\tc σ2 H2 λb H3=>
    if b=true then tIn own2 wi2 g2 tc2 te σ2 H3 ys λzs H4=>∃m',m'<m/\W (i+1) m' zs H4 else∃m',m'<m/\W (i+1) m' ys H3))
  (fin:∀σc H' s' its n ys,Inv (zK X zB scope cl s H fp) [(⇑s,zg its n)] σc H' s'->zd ys its->ys.length<=sizeLine->QQ ys H'->RR (.ref ⇑s) (⇑s+1) (.ok .next) s'):
  wpAny (model X.prog X.w) X.A (newList []) (λacc s₃=>wpAny (model X.prog X.w) X.A (newFunctionEnv scope X.env.globals cl [] X.env.qual none .none (some X.env)) (λcenv s₄=>
   codeAny (model X.prog X.w) X.A (.compStart (Bt elt t1 i1 f1 t2 i2 f2 scope pos) 0 (.ref it) acc {cenv with scope:=relabel scope X.env}) (RR acc cenv.locals) s₄) E s₃) E s:=by
 let ob:∀b:Nat,b∈fp->b<⇑s:=λb hb=>let⟨_,e,_⟩:=T.obj 0 _ st b hb;AH e;refine BH (LO ?_);let sz1:(s.heap.push (zg [] 0)).objs.size=⇑s+1:=Bo ..;let I4:=Kx C.sc I hf ob c1 c2 (GP own Y) (λi x v h1 h2 h3=>by
  let(a,b):=GI own Y i v h2;rcases C.nm i x h1 with z|z|z
  .exact absurd z b
  .exact absurd (K1 x z) h3
  .exact#[z,a]) (zg [] 0) (by intro v z;ext z) rfl rfl
 let st4:tn 0 (pushCells ((s.heap.push (zg [] 0)).push {cls:=.type "dict",data:=.dict #[] }) scope.names):=T.keep 0 _ _ st λb _ o e=>pushCells_keeps _ _ b o (AJ _ (AJ _ e));erw[newEnv];rw[sz1];let hDfp:⇑s∉fp:=λz=>BS _ (ob _ z);let hcD:∀x c,(zK X zB scope cl s H fp).env.cells.lookup x=some c->c≠⇑s:=λx c e z=>by
  let(v,o,ho,hd):=I4.cell x c e;let(q,_):=I4.pin (⇑s,zg [] 0) (by simp);rw[z,q]at ho;ext ho;ext hd
 let fpk:∀{H':Hp}{pl:Yd},(∀b∈fp,H' b=none)->(∀p∈pl,p.1=⇑s)->∀b∈fp,BN (zK X zB scope cl s H fp) pl H' b:=λ{H' pl} hn hp b hb=>
  #[hn b hb,(I4.ok.exf b hb).1,I4.ok.exfs b hb,.inl hb,(I4.ok.exf b hb).2,λp hq=>by
   rcases Ae.mp hq with z|z
   .exact(hf b hb).2.2.2.2.2 p z
   .intro e;let e2:=hp p z;rw[e]at e2;calc hDfp (e2▸hb)]
 let loop:codeAny (model X.prog X.w) X.A (.compLoop (Bt elt t1 i1 f1 t2 i2 f2 scope pos) 0 (.ref it) (.ref ⇑s) (zK X zB scope cl s H fp).env) (RR (.ref ⇑s) (⇑s+1))
   {s with heap:=pushCells ((s.heap.push (zg [] 0)).push {cls:=.type "dict",data:=.dict #[] }) scope.names}:=by
  refine aI hs2 (λn s'=>∃i H' ys its k,Inv (zK X zB scope cl s H fp) [(⇑s,zg its k)] (clr own Y) H' s'/\zd ys its/\tn i s'.heap/\(∀b∈fp,H' b=none)/\W i n ys H') ?_ m0
   #[0,H,[],[],0,I4,.nil,st4,λb hb=>(hf b hb).1,w0]
  rintro n s5 ⟨i,H5,ys,its,k,I5,r5,st5,f5,w5⟩;let pinD:∀p∈[(⇑s,zg its k)],p.1=⇑s:=λp hp=>by
   have:p=(⇑s,zg its k):=by simpa using hp
   rw[this]
  rcases turn i n ys H5 w5 with⟨stop,hz,qq⟩|⟨go,step⟩
  .refine thn (T.done (zK X zB scope cl s H fp) rfl rfl rfl hcalm i _ s5 _ H5 _ I5 (fpk f5 pinD) st5 stop) λr s6 ⟨hr,I6⟩=>?_;subst hr;exact fin _ H5 s6 its k ys I6 r5 hz qq
  .refine thn (T.item (zK X zB scope cl s H fp) rfl rfl rfl hcalm i _ s5 _ H5 _ I5 (fpk f5 pinD) st5 go) λr s6 ⟨u,hr,h6⟩=>?_;subst hr;refine thn h6 λ_ s7 ⟨x,H7,I7,r7,y7,st7,f7⟩=>?_;let I7':=I7.pinned (fpk f7 pinD) (T.obj _ _ st7);refine thn (hg _ s7 _ H7 x u _ I7' r7 (step x H7 y7)) λ_ s8 ⟨σ8,H8,I8,x8,q8⟩=>?_;refine thn (hi _ s8 σ8 H8 _ I8 q8) λok s9 ⟨H9,I9,q9⟩=>?_;let back:∀{σx:St}{s':Yl}{Hx:Hp}{its:Yf}{k:Nat},(clr own Y).length=σx.length->(∀(i:Nat) v,(clr own Y)[i]?=some (some v)->σx[i]?=some (some v))->Inv (zK X zB scope cl s H fp) (Em fp s7.heap++[(⇑s,zg its k)]) σx Hx s'->Inv (zK X zB scope cl s H fp) [(⇑s,zg its k)] (clr own Y) Hx s'/\tn (i+1) s'.heap/\∀b∈fp,Hx b=none:=λ{σx s' Hx its k} hl hk Ix=>
    #[(Ix.weak hl hk).pins_of λp hp=>Ix.pin p (Ak _ (Ak _ hp)),
     T.keep _ _ _ st7 λb hb o e=>(Ix.pin (b,o) (Ak _ (CI _ (Dh hb e)))).1,λb hb=>by
     let(o,e,d):=T.obj _ _ st7 b hb;calc(Ix.pin (b,o) (Ak _ (CI _ (Dh hb e)))).2.1]
   let I9':Inv (zK X zB scope cl s H fp) (Em fp s7.heap++[(⇑s,zg its k)]) σ8 H9 s9:=I9.pins_of λp hp=>I9.pin p (Ak _ (by
    rcases Ae.mp hp with z|z
    .exact Ak _ z
    .exact CI _ z))
   cases ok with
   |false=>
    let(m',hm,w'):=q9;let(b0,b1,b2):=back (by rw[x8.1]) x8.2 I9';calc#[m',hm,i+1,H9,ys,its,k,b0,r5,b1,b2,w']
   |true=>
    refine l6 (C:=zK X zB scope cl s H fp) rfl hcalm hi2 hg2 hc2 he (AF _) hcD (λp hp=>?_) I9' r5 q9 λs' H' its' k' zs I' rv' q'=>?_
    .rcases Ae.mp hp with z|z
     .exact AZ (AH (I.pin p z).1)
     .obtain⟨hb,_⟩:=Rr z;exact AZ (ob _ hb)
    .obtain⟨m',hm,w'⟩:=q';let(b0,b1,b2):=back (by rw[GP own2,x8.1]) (λi v hv=>by rw[R0 own2 _ i (λz=>(GI own Y i v hv).2 (hsub i z))];calc x8.2 i v hv) I';exact#[rfl,m',hm,i+1,H',zs,its',k',b0,rv',b1,b2,w']
 calc codeAny_compStart_list loop (T.self _ 0 _ _ _ st4 loop)
def PM(own own2:Yj)(wi:TI)(g:TG)(tc:TT)(wi2:TI)(g2:TG)(tc2:TT)(te:TE):TE:=λY H Q=>wi Y H λJ H1=>∃W:Nat->Nat->List V->Hp->Prop,(∃m,W 0 m [] H1)/\∀i m ys H,W i m ys H ->
 (J.stop i H/\ys.length<=sizeLine/\∀D,H D=none->Q (.ref D) (upd H D (.lst ys))) \/
 (J.go i H/\∀x H',J.yld i H x H'->g x (clr own Y) H' λσ2 H2=>Ext (clr own Y) σ2/\tc σ2 H2 λb H3=>
  if b=true then tIn own2 wi2 g2 tc2 te σ2 H3 ys λzs H4=>∃m',m'<m/\W (i+1) m' zs H4 else∃m',m'<m/\W (i+1) m' ys H3)
structure CompParts2(X:Cx)(scope:Y0)(t1:Expr)(f1:Yi)(t2 i2:Expr)(f2:Yi)(elt:Expr)(g:TG)(tc:TT)(wi2:TI)(g2:TG)(tc2:TT)(te:TE):Prop where
 g:∀zB cl s H fp,PG (zK X zB scope cl s H fp) t1 g
 c:∀zB cl s H fp,DV (zK X zB scope cl s H fp) f1 tc
 w2:∀zB cl s H fp,PI (zK X zB scope cl s H fp) t2 i2 wi2
 g2:∀zB cl s H fp,PG (zK X zB scope cl s H fp) t2 g2
 c2:∀zB cl s H fp,DV (zK X zB scope cl s H fp) f2 tc2
 e:∀zB cl s H fp,PE (zK X zB scope cl s H fp) elt te
 s2:∀zB cl s H fp x,foldedSetIterable i2 (zK X zB scope cl s H fp).env x=pure x
def mS(hsub:∀i∈own2,i∈own)(C:CompIn X scope own)(hcalm:X.calm=true)(hi:PI X t1 i1 wi)(p:CompParts2 X scope t1 f1 t2 i2 f2 elt g tc wi2 g2 tc2 te)(hs:∀x,foldedSetIterable i1 X.env x=pure x:=by intro _;rfl):
  PE X (Bt elt t1 i1 f1 t2 i2 f2 scope pos) (PM own own2 wi g tc wi2 g2 tc2 te):=by
 intro zB s Y H Q I h;let(cl,hcl,c1,c2):=C.sc.closure I;rw[eval_ListComp];refine HY rfl hs hcl C.sc.kind C.sc.names (thn (hi zB s Y H _ I h) λv s1 h1=>thn h1 λitv s2 h2=>?_);let(it,fp,tn,J,H2,e,I2,T,st2,f2,W,(m0,w0),turn):=h2;subst e;calc cK hsub C hcalm I2 T st2 f2 c1 c2 (p.g _ _ _ _ _) (p.c _ _ _ _ _) (p.w2 _ _ _ _ _) (p.g2 _ _ _ _ _) (p.c2 _ _ _ _ _) (p.e _ _ _ _ _) (p.s2 _ _ _ _ _) w0 turn ?_;intro σc H' s' its n ys Ic rv hz qq;let(m,hn,_):=Ic.loc;refine#[m,hn,λh' hs'=>?_];let(J',nD):=Mw I2 f2 Ic rv hz hs';calc#[.ref ⇑s2,_,J',rfl,qq _ nD]
end
end L2
namespace L3
open L2
abbrev Sv:=List (Option V)
def D2(H:Hp)(v:Yu):Prop:=∃a oc vs q t,v=.ref a/\H a=some (.frz oc (.ext λ_=>True))/\oc.data=.fields vs/\vs[1]?=some (.str q t)
structure Lm where
 f:Addr
 c:Value
 us:List V
set_option genInjectivity true in
inductive D where
 |non|bl (b:Bool)|int (i:Int)|str (x:Str)|tup (xs:List D)|ref (n:Nat)|fn (l:Lm) (ds:List D)
set_option genInjectivity true in
inductive MO where
 |lst (xs:List D)|fro (xs:List D)|dict (kvs:List (D×D))|dicT (kvs:List (D×D))|set (xs:List D)|froT (kvs:List (D×D))|froK (kvs:List (D×D))
mutual
def Rep(L:Yg)(H:Hp):D->V->Prop
 |.non,v=>v=.non
 |.bl b,v=>v=.bl b
 |.int i,v=>v=.int i
 |.str x,v=>v=.str x
 |.tup ds,v=>∃a vs,v=.ref a/\H a=some (.tup vs)/\zH L H ds vs
 |.ref n,v=>∃a,v=.ref a/\L[n]?=some a
 |.fn l ds,v=>v=.ref l.f/\D2 H l.c/\zH L H ds l.us
def zH(L:Yg)(H:Hp):List D->List V->Prop
 |[],vs=>vs=[]
 |d::ds,vs=>∃v r,vs=v::r/\Rep L H d v/\zH L H ds r
end
def zH.length:∀{ds:List D}{vs:List V},zH L H ds vs->vs.length=ds.length
 |[],_,h=>by erw[zH]at h;subst h;rfl
 |d::ds,_,h=>by
  erw[zH]at h;let(v,r,rfl,_,h2):=h;simp[zH.length h2]
def zH.nil:zH L H [] []:=by erw[zH];rfl
def zH.cons(h:Rep L H d v)(t:zH L H ds vs):zH L H (d::ds) (v::vs):=by
 erw[zH];calc#[v,vs,rfl,h,t]
def zH.get:∀{ds:List D}{vs:List V}{i:Nat}{d:D},zH L H ds vs->ds[i]?=some d->∃v,vs[i]?=some v/\Rep L H d v
 |[],_,_,_,_,e=>by simp at e
 |d::ds,_,0,d',h,e=>by
  erw[zH]at h;let(v,r,rfl,h1,h2):=h;simp at e;subst e;calc#[v,rfl,h1]
 |d::ds,_,i+1,d',h,e=>by
  erw[zH]at h;let(v,r,rfl,h1,h2):=h;let(u,e1,e2):=zH.get (i:=i) h2 (~~~e);calc#[u,by simpa using e1,e2]
def zH.app:∀{ds es:List D}{vs ws:List V},zH L H ds vs->zH L H es ws->zH L H (ds++es) (vs++ws)
 |[],_,_,_,h,t=>by erw[zH]at h;subst h;calc t
 |d::ds,_,_,_,h,t=>by
  erw[zH]at h;let(v,r,rfl,h1,h2):=h;calc .cons h1 (zH.app h2 t)
def zH.set(h:Rep L H d v):∀{ds:List D}{vs:List V}(i:Nat),zH L H ds vs->zH L H (ds.set i d) (vs.set i v)
 |[],_,_,t=>by erw[zH]at t;subst t;calc .nil
 |_::_,_,0,t=>by
  erw[zH]at t;let(v',r,rfl,h1,h2):=t;calc .cons h h2
 |_::_,_,i+1,t=>by
  erw[zH]at t;let(v',r,rfl,h1,h2):=t;calc .cons h1 (zH.set h i h2)
def zH.drop:∀{ds:List D}{vs:List V}(n:Nat),zH L H ds vs->zH L H (ds.drop n) (vs.drop n)
 |_,_,0,t=>t
 |[],_,n+1,t=>by erw[zH]at t;subst t;calc .nil
 |_::_,_,n+1,t=>by
  erw[zH]at t;let(v',r,rfl,h1,h2):=t;calc zH.drop n h2
def zH.take:∀{ds:List D}{vs:List V}(n:Nat),zH L H ds vs->zH L H (ds.take n) (vs.take n)
 |_,_,0,t=> .nil
 |[],_,n+1,t=>by erw[zH]at t;subst t;calc .nil
 |_::_,_,n+1,t=>by
  erw[zH]at t;let(v',r,rfl,h1,h2):=t;calc .cons h1 (zH.take n h2)
def zH.eraseIdx:∀{ds:List D}{vs:List V}(n:Nat),zH L H ds vs->zH L H (ds.eraseIdx n) (vs.eraseIdx n)
 |[],_,n,t=>by erw[zH]at t;subst t;calc .nil
 |_::_,_,0,t=>by
  erw[zH]at t;let(v',r,rfl,h1,h2):=t;calc h2
 |_::_,_,n+1,t=>by
  erw[zH]at t;let(v',r,rfl,h1,h2):=t;calc .cons h1 (zH.eraseIdx n h2)
def D2.keep(h:∀a o u,H a=some (.frz o u)->H' a=some (.frz o u))(x:D2 H v):D2 H' v :=
 let⟨a,oc,vs,q,t,e1,e2,r⟩:=x;#[a,oc,vs,q,t,e1,h _ _ _ e2,r]
def E1(H:Hp)(ps:Yp):Prop:=PySem.TriplesOk ps.toList/\∀pos v,codeAmong pos ps.toList=some v->D2 H v
def E1.keep(h:∀a o u,H a=some (.frz o u)->H' a=some (.frz o u))(g:E1 H ps):E1 H' ps :=
 #[g.1,λpos v e=>(g.2 pos v e).keep h]
abbrev NT(o:HO):Prop:=∀ps,o≠.tbl ps
structure Stp(L:Yg)(H:Hp)(L':Yg)(H':Hp):Prop where
 pre:∃N,L'=L++N
 new:∀a∈L',a∈L\/H a=none
 old:∀a o,H a=some o->a∉L->NT o->H' a=some o
 tup:∀a xs,H a=some (.tup xs)->H' a=some (.tup xs)
 frz:∀a o u,H a=some (.frz o u)->H' a=some (.frz o u)
 tbl:∀a ps,H a=some (.tbl ps)->∃ps',H' a=some (.tbl ps')/\(E1 H ps->E1 H' ps')
def Stp.refl(L:Yg)(H:Hp):Stp L H L H:=#[#[[],by simp],λ_ h=> .inl h,λ_ _ h _ _=>h,λ_ _ h=>h,λ_ _ _ h=>h,λ_ ps h=>#[ps,h,id]]
def Ju(hf:∀a o u,H a=some (.frz o u)->H' a=some (.frz o u))(h:∀a ps,H a=some (.tbl ps)->H' a=some (.tbl ps)):
  ∀a ps,H a=some (.tbl ps)->∃ps',H' a=some (.tbl ps')/\(E1 H ps->E1 H' ps'):=λa ps e=>#[ps,h a ps e,.keep hf]
def Stp.trans(a:Stp L H L1 H1)(b:Stp L1 H1 L2 H2):Stp L H L2 H2:=by
 let(N,rfl):=a.pre;let(N',rfl):=b.pre;let back:∀c,c∉L->H1 c=none->H c=none:=λc hc h1=>by
  cases q:H c with
  |none=>rfl
  |some o=>
   by_cases z:NT o
   .rw[a.old c o q hc z]at h1;ext h1
   .obtain⟨ps,z⟩:=Classical.not_forall.mp z;rw[Classical.not_not.mp z]at q;let(ps',e,_):=a.tbl c ps q;rw[e]at h1;ext h1
 refine#[#[N++N',by simp],λc hc=>?_,λc o e hc nt=>?_,λc xs e=>b.tup c xs (a.tup c xs e),λc o u e=>b.frz c o u (a.frz c o u e),λc ps e=>?_]
 .by_cases hL:c∈L
  .exact .inl hL
  .rcases b.new c hc with z|z
   .exact a.new c z
   .exact .inr (back c hL z)
 .refine b.old c o (a.old c o e hc nt) (λz=>?_) nt;rcases a.new c z with q|q
  .exact hc q
  .rw[q]at e;ext e
 .obtain⟨p1,e1,g1⟩:=a.tbl c ps e;let(p2,e2,g2):=b.tbl c p1 e1;calc#[p2,e2,λg=>g2 (g1 g)]
def Stp.grow(h:∀a o,H a=some o->H' a=some o):Stp L H L H':=#[#[[],by simp],λ_ h=> .inl h,λa o e _ _=>h a o e,λa _ e=>h a _ e,λa _ _ e=>h a _ e,Ju (λa _ _ e=>h a _ e) λa _ e=>h a _ e]
def Stp.bare(s:Stp [] H N H'):Stp L H L H':=#[#[[],by simp],λ_ h=> .inl h,λa o e _ nt=>s.old a o e (by simp) nt,s.tup,s.frz,s.tbl]
theorem Stp.upd(h:H p=none):Stp L H L (upd H p o):=.grow λa u e=>by rw[zT (zf e h)];calc e
def Dz{L N:Yg}{n:Nat}{a:Yt}(h:L[n]?=some a):(L++N)[n]?=some a:=by
 rw[AM (AI.mp h).1];calc h
mutual
theorem Rep.stp{L L':Yg}{H H':Hp}(s:Stp L H L' H'):∀{d:D}{v:V},Rep L H d v->Rep L' H' d v
 |.non,_,h=>by unfold Rep at h ⊢;calc h
 |.bl _,_,h=>by unfold Rep at h ⊢;calc h
 |.int _,_,h=>by unfold Rep at h ⊢;calc h
 |.str _,_,h=>by unfold Rep at h ⊢;calc h
 |.tup ds,_,h=>by
  unfold Rep at h ⊢;let(a,vs,rfl,e,r):=h;calc#[a,vs,rfl,s.tup a vs e,zH.stp s r]
 |.ref n,_,h=>by
  unfold Rep at h ⊢;let(a,rfl,e):=h;let(N,rfl):=s.pre;calc#[a,rfl,Dz e]
 |.fn _ ds,_,h=>by
  unfold Rep at h ⊢;calc#[h.1,h.2.1.keep s.frz,zH.stp s h.2.2]
theorem zH.stp(s:Stp L H L' H'):∀{ds:List D}{vs:List V},zH L H ds vs->zH L' H' ds vs
 |[],_,h=>by unfold zH at h ⊢;calc h
 |d::ds,_,h=>by
  unfold zH at h ⊢;let(v,r,rfl,h1,h2):=h;calc#[v,r,rfl,Rep.stp s h1,zH.stp s h2]
end
def CK:D->Option Key
 |.int i=>some (.inl i)
 |.str x=>some (.inr x)
 |_=>none
def DO:List D->Option (List Key)
 |[]=>some []
 |d::r=>match CK d,DO r with
  |some k,some ks=>some (k::ks)
  |_,_=>none
def tkD:D->Option (List Key)
 |.tup ds=>DO ds
 |_=>none
def AY{κ:Type}(kf:D->Option κ)(L:Yg)(H:Hp):List (D×D)->List (κ×V)->Prop
 |[],vs=>vs=[]
 |p::r,vs=>∃k v r',vs=(k,v)::r'/\kf p.1=some k/\Rep L H p.2 v/\AY kf L H r r'
def AY.stp{κ:Type}{kf:D->Option κ}{L L':Yg}{H H':Hp}(s:Stp L H L' H'):∀{ps:List (D×D)}{vs:List (κ×V)},AY kf L H ps vs->AY kf L' H' ps vs
 |[],_,h=>h
 |p::r,_,h=>by
  let(k,v,r',rfl,e,h1,h2):=h;calc#[k,v,r',rfl,e,h1.stp s,AY.stp s h2]
def AY.length{κ:Type}{kf:D->Option κ}{L:Yg}{H:Hp}:∀{ps:List (D×D)}{vs:List (κ×V)},AY kf L H ps vs->vs.length=ps.length
 |[],_,h=>by erw[AY]at h;subst h;rfl
 |p::r,_,h=>by
  let(k,v,r',rfl,e,h1,h2):=h;simp[AY.length h2]
def CZ(K:Yb)(L:Yg)(H:Hp)(a:Yt):MO->Prop
 |.lst xs=>∃vs,H a=some (.lst vs)/\zH L H xs vs
 |.fro xs=>∃o vs,H a=some (.frz o (.lst vs))/\zH L H xs vs
 |.dict ps=>∃vs,H a=some (.dK vs)/\AY CK L H ps vs
 |.dicT ps=>∃vs,H a=some (.dT vs)/\AY tkD L H ps vs
 |.set _=>∃o u,H a=some (.frz o u)
 |.froT ps=>∃o vs,H a=some (.frz o (.dT vs))/\AY tkD L H ps vs
 |.froK ps=>∃o vs,H a=some (.frz o (.dK vs))/\AY CK L H ps vs
def CZ.there{K:Yb}{L:Yg}{H:Hp}{a:Yt}{m:MO}(h:CZ K L H a m):∃o,H a=some o:=by
 cases m with
 |lst xs=>let(vs,e,_):=h;calc#[_,e]
 |fro xs=>let(o,vs,e,_):=h;calc#[_,e]
 |dict ps=>let(vs,e,_):=h;calc#[_,e]
 |dicT ps=>let(vs,e,_):=h;calc#[_,e]
 |set _=>let(o,u,e):=h;calc#[_,e]
 |froT ps=>let(o,vs,e,_):=h;calc#[_,e]
 |froK ps=>let(o,vs,e,_):=h;calc#[_,e]
def CZ.stp{K:Yb}{L L':Yg}{H H':Hp}{a:Yt}{m:MO}(s:Stp L H L' H')(hk:∀o,NT o->H a=some o->H' a=some o)(h:CZ K L H a m):CZ K L' H' a m:=by
 cases m with
 |lst xs=>let(vs,e,r):=h;calc#[vs,hk _ (by intro _ z;ext z) e,r.stp s]
 |fro xs=>let(o,vs,e,r):=h;calc#[o,vs,hk _ (by intro _ z;ext z) e,r.stp s]
 |dict ps=>let(vs,e,r):=h;calc#[vs,hk _ (by intro _ z;ext z) e,r.stp s]
 |dicT ps=>let(vs,e,r):=h;calc#[vs,hk _ (by intro _ z;ext z) e,r.stp s]
 |set _=>let(o,u,e):=h;calc#[o,u,hk _ (by intro _ z;ext z) e]
 |froT ps=>let(o,vs,e,r):=h;calc#[o,vs,hk _ (by intro _ z;ext z) e,r.stp s]
 |froK ps=>let(o,vs,e,r):=h;calc#[o,vs,hk _ (by intro _ z;ext z) e,r.stp s]
def HW:List Str:=["levels","least_word","word_into","shows_least","shows_into"]
def Hk(K:Yb)(H:Hp):Prop:=∀x∈HW,∀c P,PySem.W.tabIn K x=some (c,P)->∃ps,H P=some (.tbl ps)/\E1 H ps
def Hk.stp{K:Yb}{L L':Yg}{H H':Hp}(s:Stp L H L' H')(t:Hk K H):Hk K H':=λx hx c P e=>
 let⟨ps,e1,g⟩:=t x hx c P e;let⟨ps',e2,g2⟩:=s.tbl P ps e1
 #[ps',e2,g2 g]
structure Cor(K:Yb)(L:Yg)(M:List MO)(H:Hp):Prop where
 len:L.length=M.length
 nd:L.Nodup
 obj:∀(n:Nat) a m,L[n]?=some a->M[n]?=some m->CZ K L H a m
 tab:Hk K H
def Aj(L:Yg)(H:Hp)(Y:List (Option D))(τ:Sv):Prop:=τ.length=Y.length/\∀(i:Nat) d,Y[i]?=some (some d)->∃v,τ[i]?=some (some v)/\Rep L H d v
def Aj.stp(s:Stp L H L' H')(h:Aj L H Y τ):Aj L' H' Y τ :=
 #[h.1,λi d e=>let⟨v,e1,r⟩:=h.2 i d e;#[v,e1,r.stp s]]
def Cor.tracked{K:Yb}{L:Yg}{M:List MO}{H:Hp}(c:Cor K L M H){a:Yt}(h:a∈L):∃o,H a=some o:=by
 let(n,hn):=List.getElem?_of_mem h;let hl:n<M.length:=by rw[<-c.len];exact(AI.mp hn).1
 let m:=c.obj n a M[n] hn (AO hl);calc m.there
def Cor.grow{K:Yb}{L:Yg}{M:List MO}{H H':Hp}(c:Cor K L M H)(h:∀a o,H a=some o->H' a=some o):Cor K L M H':=by
 calc#[c.len,c.nd,λn a m e1 e2=>(c.obj n a m e1 e2).stp (.grow h) λo _ e=>h a o e,c.tab.stp (Stp.grow (L:=L) h)]
def Cor.bare{K:Yb}{L N:Yg}{M:List MO}{H H':Hp}(c:Cor K L M H)(s:Stp [] H N H'):Cor K L M H' :=
 #[c.len,c.nd,λn a m e1 e2=>(c.obj n a m e1 e2).stp s.bare λo nt e=>s.old a o e (by simp) nt,c.tab.stp s]
theorem Cor.upd{K:Yb}{L:Yg}{M:List MO}{H:Hp}{p:Yt}{o:HO}(c:Cor K L M H)(h:H p=none):Cor K L M (upd H p o):=c.grow λa u e=>by rw[zT (zf e h)];calc e
def Cor.write{K:Yb}{L:Yg}{M:List MO}{H:Hp}{n:Nat}{p:Yt}{xs xs':List D}{vs':List V}(c:Cor K L M H)(h1:L[n]?=some p)(h2:M[n]?=some (.lst xs))(r:zH L H xs' vs'):
  Cor K L (M.set n (.lst xs')) (L2.upd H p (.lst vs'))/\Stp L H L (L2.upd H p (.lst vs')):=by
 let(vs,hp,_):=c.obj n p _ h1 h2;let st:Stp L H L (L2.upd H p (.lst vs')):=by
  refine#[#[[],by simp],λa ha=> .inl ha,λa o e ha _=>?_,λa o e=>?_,λa o u e=>?_,Ju (λa o u e=>?_) λa ps e=>?_]
  .rw[zT (show a≠p fromλz=>ha (by rw[z];calc Ca h1))];exact e
  all_goals (rw[zT (DT e hp (by intro z;ext z))];calc e)
 refine#[#[by simp[c.len],c.nd,λk a m e1 e2=>?_,c.tab.stp st],st];rw[Ea]at e2;cbv at e2
 .intros hk;subst hk;rw[h1]at e1;ext e1;cbv at e2
  .cases e2;exact#[vs',zk,r.stp st]
  .ext e2
 .intros hk;let hne:a≠p:=λz=>hk (by
   subst z;calc(List.getElem?_inj (AI.mp h1).1 c.nd).mp (h1.trans e1.symm))
  exact(c.obj k a m e1 e2).stp st λo _ e=>by rw[zT hne];exact e
set_option genInjectivity true in
inductive EV where
 |dat (d:D)|fl (xs:List D)
def zX(H0:Hp)(L:Yg)(H:Hp):EV->V->Prop
 |.dat d,v=>Rep L H d v
 |.fl xs,v=>∃p vs,v=.ref p/\H0 p=none/\H p=some (.lst vs)/\p∉L/\zH L H xs vs
abbrev Sd:=List (Option D)
abbrev Mem:=List MO
abbrev FE:=Sd->Mem->Option (EV×Mem)
abbrev FD:=Sd->Mem->Option (D×Mem)
abbrev FT:=Sd->Mem->Option (Bool×Mem)
abbrev FA:=Sd->Mem->Option (List D×Mem)
def Stp.there{L L':Yg}{H H':Hp}(s:Stp L H L' H'){p:Yt}{o:HO}(h:H p=some o)(hp:p∉L):∃o',H' p=some o':=by
  by_cases z:NT o
  .exact#[o,s.old p o h hp z]
  . let(ps,z):=Classical.not_forall.mp z
    rw[Classical.not_not.mp z]at h;let(ps',e,_):=s.tbl p ps h;calc#[_,e]
def Stp.out(s:Stp L H L' H')(h:H p=some o)(hp:p∉L):p∉L':=λz=>by
 rcases s.new p z with q|q
 .exact hp q
 .rw[h]at q;ext q
def zX.stp(s:Stp L H L' H')(h:zX H0 L H e v):zX H0 L' H' e v:=by
 cases e with
 |dat d=>calc Rep.stp s h
 |fl xs=>
  let(p,vs,rfl,e0,e1,e2,r):=h;calc#[p,vs,rfl,e0,s.old p _ e1 e2 (by intro _ z;ext z),s.out e1 e2,r.stp s]
def zX.back{H0 H1:Hp}{L0 L1 L:Yg}{H:Hp}(s:Stp L0 H0 L1 H1){M:List MO}{K:Yb}(c:Cor K L0 M H0){e:EV}{v:V}(h:zX H1 L H e v)(hL:∀a∈L1,a∈L):zX H0 L H e v:=by
 cases e with
 |dat d=>calc h
 |fl xs=>
  let(p,vs,rfl,e0,e1,e2,r):=h;calc#[p,vs,rfl,?_,e1,e2,r];cases q:H0 p with
  |none=>rfl
  |some o=>
   by_cases hp:p∈L0
   .obtain⟨N,hN⟩:=s.pre;exact absurd (hL p (by rw[hN];calc CI _ hp)) e2
   .obtain⟨o',z⟩:=s.there q hp;rw[z]at e0;ext e0
section
variable(K:Yb)
def trE(f:FE):TE:=λτ H Q=>∃L Y M d M',Cor K L M H/\Aj L H Y τ/\f Y M=some (d,M')/\∀L' H' v,Stp L H L' H'->Cor K L' M' H'->zX H L' H' d v->Q v H'
def trD(f:FD):TE:=λτ H Q=>∃L Y M d M',Cor K L M H/\Aj L H Y τ/\f Y M=some (d,M')/\∀L' H' v,Stp L H L' H'->Cor K L' M' H'->Rep L' H' d v->Q v H'
def trT(f:FT):TT:=λτ H Q=>∃L Y M d M',Cor K L M H/\Aj L H Y τ/\f Y M=some (d,M')/\∀L' H',Stp L H L' H'->Cor K L' M' H'->Q d H'
def trA(f:FA):TA:=λτ H Q=>∃L Y M ds M',Cor K L M H/\Aj L H Y τ/\f Y M=some (ds,M')/\∀L' H' vs,Stp L H L' H'->Cor K L' M' H'->zH L' H' ds vs->Q vs H'
end
def mkE{K:Yb}{f:FE}{τ:Sv}{H:Hp}{Q:VK}{Y:Sd}{M M':Mem}{d:EV}(c:Cor K L M H)(r:Aj L H Y τ)(e:f Y M=some (d,M'))(q:∀L' H' v,Stp L H L' H'->Cor K L' M' H'->zX H L' H' d v->Q v H'):trE K f τ H Q:=#[_,_,_,_,_,c,r,e,q]
def mkD{K:Yb}{f:FD}{τ:Sv}{H:Hp}{Q:VK}{Y:Sd}{M M':Mem}{d:D}(c:Cor K L M H)(r:Aj L H Y τ)(e:f Y M=some (d,M'))(q:∀L' H' v,Stp L H L' H'->Cor K L' M' H'->Rep L' H' d v->Q v H'):trD K f τ H Q:=#[_,_,_,_,_,c,r,e,q]
def mkT{K:Yb}{f:FT}{τ:Sv}{H:Hp}{Q}{Y:Sd}{M M':Mem}{d}(c:Cor K L M H)(r:Aj L H Y τ)(e:f Y M=some (d,M'))(q:∀L' H',Stp L H L' H'->Cor K L' M' H'->Q d H'):trT K f τ H Q:=#[_,_,_,_,_,c,r,e,q]
def mkA{K:Yb}{f:FA}{τ:Sv}{H:Hp}{Q}{Y:Sd}{M M':Mem}{ds}(c:Cor K L M H)(r:Aj L H Y τ)(e:f Y M=some (ds,M'))(q:∀L' H' vs,Stp L H L' H'->Cor K L' M' H'->zH L' H' ds vs->Q vs H'):trA K f τ H Q:=#[_,_,_,_,_,c,r,e,q]
def PE.imp(h:PE X e t)(hi:∀τ H Q,t' τ H Q->t τ H Q):PE X e t':=λzB s Y H Q I q=>h zB s Y H Q I (hi _ _ _ q)
def PT.imp(h:PT X e t)(hi:∀τ H Q,t' τ H Q->t τ H Q):PT X e t':=λzB s Y H Q I q=>h zB s Y H Q I (hi _ _ _ q)
def PS.imp{st:Stmt}{t t':TS}(h:PS X st t)(hi:∀D τ H,t' D τ H->t D τ H):PS X st t':=λzB s Y H D I q=>h zB s Y H D I (hi _ _ _ q)
def PSs.imp{st:Yy}{t t':TS}(h:PSs X st t)(hi:∀D τ H,t' D τ H->t D τ H):PSs X st t':=λzB s Y H D I q=>h zB s Y H D I (hi _ _ _ q)
structure QE(X:Cx)(e:Expr)(f:FE):Prop where
 un:PE X e (trE X.K f)
structure QD(X:Cx)(e:Expr)(f:FD):Prop where
 un:PE X e (trD X.K f)
structure QT(X:Cx)(e:Expr)(f:FT):Prop where
 un:PT X e (trT X.K f)
structure QA(X:Cx)(es:Yi)(f:FA):Prop where
 un:PA X es (trA X.K f)
def toD(f:FE):FD:=λY M=>match f Y M with
 |some (.dat d,M')=>some (d,M')
 |some (.fl xs,M')=>some (.ref M'.length,M'++[.lst xs])
 |none=>none
mutual
theorem Rep.more(N:Yg):∀{d:D}{v:V},Rep L H d v->Rep (L++N) H d v
 |.non,_,h=>by unfold Rep at h ⊢;calc h
 |.bl _,_,h=>by unfold Rep at h ⊢;calc h
 |.int _,_,h=>by unfold Rep at h ⊢;calc h
 |.str _,_,h=>by unfold Rep at h ⊢;calc h
 |.tup ds,_,h=>by
  unfold Rep at h ⊢;let(a,vs,rfl,e,r):=h;calc#[a,vs,rfl,e,zH.more N r]
 |.ref n,_,h=>by
  unfold Rep at h ⊢;let(a,rfl,e):=h;calc#[a,rfl,Dz e]
 |.fn _ ds,_,h=>by
  unfold Rep at h ⊢;calc#[h.1,h.2.1,zH.more N h.2.2]
theorem zH.more(N:Yg):∀{ds:List D}{vs:List V},zH L H ds vs->zH (L++N) H ds vs
 |[],_,h=>by unfold zH at h ⊢;calc h
 |d::ds,_,h=>by
  unfold zH at h ⊢;let(v,r,rfl,h1,h2):=h;calc#[v,r,rfl,Rep.more N h1,zH.more N h2]
end
def AY.more{κ:Type}{kf:D->Option κ}{L:Yg}{H:Hp}(N:Yg):∀{ps:List (D×D)}{vs:List (κ×V)},AY kf L H ps vs->AY kf (L++N) H ps vs
 |[],_,h=>h
 |p::r,_,h=>by
  let(k,v,r',rfl,e,h1,h2):=h;calc#[k,v,r',rfl,e,h1.more N,AY.more N h2]
def CZ.more{K:Yb}{L:Yg}{H:Hp}{a:Yt}{m:MO}(N:Yg)(h:CZ K L H a m):CZ K (L++N) H a m:=by
 cases m with
 |lst xs=>let(vs,e,r):=h;calc#[vs,e,r.more N]
 |fro xs=>let(o,vs,e,r):=h;calc#[o,vs,e,r.more N]
 |dict ps=>let(vs,e,r):=h;calc#[vs,e,r.more N]
 |dicT ps=>let(vs,e,r):=h;calc#[vs,e,r.more N]
 |set _=>calc h
 |froT ps=>let(o,vs,e,r):=h;calc#[o,vs,e,r.more N]
 |froK ps=>let(o,vs,e,r):=h;calc#[o,vs,e,r.more N]
def PX{K:Yb}{L L':Yg}{M':List MO}{H H':Hp}{p:Yt}{xs:List D}{vs:List V}(s:Stp L H L' H')(c:Cor K L' M' H')(h0:H p=none)(h1:H' p=some (.lst vs))(h2:p∉L')(r:zH L' H' xs vs):
  Cor K (L'++[p]) (M'++[.lst xs]) H'/\Stp L H (L'++[p]) H':=by
 refine#[#[by simp[c.len],?_,λn a m e1 e2=>?_,c.tab],?_]
 .rw[DN];exact#[c.nd,by simp,λa ha b hb z=>by
   have:b=p:=by simpa using hb
   subst this;subst z;calc h2 ha]
 .by_cases hn:n<L'.length
  .rw[AM hn]at e1;rw[AM (by rw[<-c.len];calc hn)]at e2;exact(c.obj n a m e1 e2).more [p]
  .have hn':n=L'.length:=by
    have:=(AI.mp e1).1;rw[AW]at this;simp at this;omega
   subst hn';simp at e1;rw[c.len]at e2;simp at e2;subst e1;subst e2;exact#[vs,h1,r.more [p]]
 .obtain⟨N,hN⟩:=s.pre;refine#[#[N++[p],by rw[hN];simp],λa ha=>?_,s.old,s.tup,s.frz,s.tbl];rcases Ae.mp ha with z|z
  .exact s.new a z
  .have:a=p:=by simpa using z
   subst this;calc .inr h0
def Rep.last{L:Yg}{M:List MO}{H:Hp}{K:Yb}{p:Yt}(c:Cor K L M H):Rep (L++[p]) H (.ref M.length) (.ref p):=by
 erw[Rep];calc#[p,rfl,by rw[<-c.len];simp]
def BL{f:FE}(h:QE X e f):QD X e (toD f):=.mk <| PE.imp h.un λτ H Q zz=>by
 let(L,Y,M,d,M',c,rs,hf,q):=zz;erw[toD]at hf;cbv at hf
 .intros d' M1 e1;ext hf;exact#[L,Y,M,_,_,c,rs,e1,λL' H' v s c' r=>q L' H' v s c' r]
 .intros xs M1 e1;ext hf;refine#[L,Y,M,_,_,c,rs,e1,λL' H' v s c' r=>?_];let(p,vs,rfl,e0,e2,e3,r):=r;let(c2,s2):=PX s c' e0 e2 e3 r;exact q _ H' _ s2 c2 (Rep.last c')
 .ext hf
def zC(i:Nat):FE:=λY M=>match Y[i]? with
 |some (some d)=>some (.dat d,M)
 |_=>none
def ET(h:PE X (.Name x pos) (MD i)):QE X (.Name x pos) (zC i):=.mk <| PE.imp h λτ H Q zz=>by
 let(L,Y,M,d,M',c,rs,hf,q):=zz;erw[zC]at hf;cbv at hf
 .intros d' e1;ext hf;let(v,e2,r):=rs.2 i d' e1;exact#[v,e2,q L H v (.refl L H) c r]
 .ext hf
def fC(d:D):FE:=λ_ M=>some (.dat d,M)
def Ko(hd:∀L H,Rep L H d v)(h:PE X e (tC v)):QE X e (fC d):=.mk <| PE.imp h λτ H Q zz=>by
 let(L,Y,M,d',M',c,rs,hf,q):=zz;erw[fC]at hf;ext hf;calc q L H v (.refl L H) c (hd L H)
def V5{i j pos}:QE X (.Constant (.int i) j pos) (fC (.int i)):=Ko (λ_ _=>by erw[Rep];rfl) Wq
def YV{b j pos}:QE X (.Constant (.bool b) j pos) (fC (.bl b)):=Ko (λ_ _=>by erw[Rep];rfl) jR
def ZW{j pos}:QE X (.Constant .none j pos) (fC .non):=Ko (λ_ _=>by erw[Rep];rfl) Xi
def V6{x j pos}:QE X (.Constant (.str x) j pos) (fC (.str x)):=Ko (λ_ _=>by erw[Rep];rfl) lX
def zG:FA:=λ_ M=>some ([],M)
def zD(f:FD)(g:FA):FA:=λY M=>match f Y M with
 |some (d,M1)=>match g Y M1 with
  |some (ds,M2)=>some (d::ds,M2)
  |none=>none
 |none=>none
def PA.imp(h:PA X es t)(hi:∀τ H Q,t' τ H Q->t τ H Q):PA X es t':=λpos zB s Y H Q I q=>h pos zB s Y H Q I (hi _ _ _ q)
def NU:QA X [] zG:=.mk <| PA.imp Gq λτ H Q zz=>by
 let(L,Y,M,d,M',c,rs,hf,q):=zz;erw[zG]at hf;ext hf;calc q L H [] (.refl L H) c .nil
def Sh(h1:QD X e f)(h2:QA X es g)(hs:starEach (e::es) X.env=(false,eval e X.env)::starEach es X.env:=by rfl):QA X (e::es) (zD f g) :=
 .mk <| PA.imp (EN h1.un h2.un hs) λτ H Q zz=>by
  let(L,Y,M,d,M',c,rs,hf,q):=zz;erw[zD]at hf;cbv at hf
  .intros d1 M1 e1;cbv at hf
   .intros ds M2 e2;ext hf;refine#[L,Y,M,_,_,c,rs,e1,λL1 H1 v s1 c1 r1=>#[L1,Y,M1,_,_,c1,rs.stp s1,e2,λL2 H2 vs s2 c2 r2=>?_]];exact q L2 H2 _ (s1.trans s2) c2 (.cons (r1.stp s2) r2)
   .ext hf
  .ext hf
def A1(g:FA):FE:=λY M=>match g Y M with
 |some (ds,M1)=>if ds.length<=sizeLine then some (.dat (.tup ds),M1)else none
 |none=>none
def Ar(g:FA):FE:=λY M=>match g Y M with
 |some (ds,M1)=>if ds.length<=sizeLine then some (.fl ds,M1)else none
 |none=>none
def Rep.newTup(h:H p=none)(r:zH L H ds vs):Rep L (upd H p (.tup vs)) (.tup ds) (.ref p):=by
 erw[Rep];calc#[p,vs,rfl,zk,r.stp (.upd h)]
def mG{x1 pos}(h:QA X es g):QE X (.Tuple es x1 pos) (A1 g):=.mk <| PE.imp (Wj h.un) λτ H Q zz=>by
 let(L,Y,M,d,M',c,rs,hf,q):=zz;erw[A1]at hf;cbv at hf
 .intros ds M1 e1;cbv at hf
  .intros hz;ext hf;refine#[L,Y,M,_,_,c,rs,e1,λL1 H1 vs s1 c1 r1=>#[by rw[r1.length];exact hz,λp hp=>?_]];exact q L1 _ _ (s1.trans (.upd hp)) (c1.upd hp) (Rep.newTup hp r1)
  .ext hf
 .ext hf
def UL{L L1:Yg}{H H1:Hp}{K:Yb}{M M1:List MO}(s:Stp L H L1 H1)(c:Cor K L M H)(c1:Cor K L1 M1 H1){p:Yt}(hp:H1 p=none):H p=none/\p∉L1:=by
 let hp1:p∉L1:=λz=>by let(o,e):=c1.tracked z;rw[hp]at e;ext e
 calc#[?_,hp1];cases q:H p with
 |none=>rfl
 |some o=>
  have:p∉L:=λz=>hp1 (by let(N,hN):=s.pre;rw[hN];calc CI _ z);let(o',z):=s.there q this;rw[z]at hp;ext hp
def zX.newLst{L L1:Yg}{H H1:Hp}{K:Yb}{M M1:List MO}{p:Yt}{ds:List D}{vs:List V}(s:Stp L H L1 H1)(c:Cor K L M H)(c1:Cor K L1 M1 H1)(hp:H1 p=none)(r:zH L1 H1 ds vs):
  zX H L1 (upd H1 p (.lst vs)) (.fl ds) (.ref p):=by
 let(a,b):=UL s c c1 hp;calc#[p,vs,rfl,a,zk,b,r.stp (.upd hp)]
def pT{pos}(h:QA X es g):QE X (.List es pos) (Ar g):=.mk <| PE.imp (mU h.un) λτ H Q zz=>by
 let(L,Y,M,d,M',c,rs,hf,q):=zz;erw[Ar]at hf;cbv at hf
 .intros ds M1 e1;cbv at hf
  .intros hz;ext hf;refine#[L,Y,M,_,_,c,rs,e1,λL1 H1 vs s1 c1 r1=>#[by rw[r1.length];exact hz,λp hp=>?_]];exact q L1 _ _ (s1.trans (.upd hp)) (c1.upd hp) (zX.newLst s1 c c1 hp r1)
  .ext hf
 .ext hf
abbrev FAE:=Sd->Mem->Option (List EV×Mem)
def C9(H0:Hp)(L:Yg)(H:Hp):List EV->List V->Prop
 |[],vs=>vs=[]
 |e::es,vs=>∃v r,vs=v::r/\zX H0 L H e v/\C9 H0 L H es r
def Stp.sub(s:Stp L H L' H'):∀a∈L,a∈L':=λa h=>by
 let(N,hN):=s.pre;rw[hN];calc CI _ h
def C9.back{H0 H1:Hp}{L0 L1 L:Yg}{H:Hp}(s:Stp L0 H0 L1 H1){M:List MO}{K:Yb}(c:Cor K L0 M H0)(hL:∀a∈L1,a∈L):∀{es:List EV}{vs:List V},C9 H1 L H es vs->C9 H0 L H es vs
 |[],_,h=>h
 |e::es,_,h=>by
  let(v,r,rfl,h1,h2):=h;calc#[v,r,rfl,h1.back s c hL,C9.back s c hL h2]
def R1(K:Yb)(f:FAE):TA:=λτ H Q=>∃L Y M ds M',Cor K L M H/\Aj L H Y τ/\f Y M=some (ds,M')/\∀L' H' vs,Stp L H L' H'->Cor K L' M' H'->C9 H L' H' ds vs->Q vs H'
structure QAE(X:Cx)(es:Yi)(f:FAE):Prop where
 un:PA X es (R1 X.K f)
section
variable{X:Cx}{a b e:Expr}{es:Yi}{pos:Pos}
def ze:FAE:=λ_ M=>some ([],M)
def zQ(f:FE)(g:FAE):FAE:=λY M=>match f Y M with
 |some (d,M1)=>match g Y M1 with
  |some (ds,M2)=>some (d::ds,M2)
  |none=>none
 |none=>none
def OM:QAE X [] ze:=.mk <| PA.imp Gq λτ H Q zz=>by
 let(L,Y,M,d,M',c,rs,hf,q):=zz;erw[ze]at hf;ext hf;calc q L H [] (.refl L H) c rfl
def MZ(h1:QE X e f)(h2:QAE X es g)(hs:starEach (e::es) X.env=(false,eval e X.env)::starEach es X.env:=by rfl):QAE X (e::es) (zQ f g) :=
 .mk <| PA.imp (EN h1.un h2.un hs) λτ H Q zz=>by
  let(L,Y,M,d,M',c,rs,hf,q):=zz;erw[zQ]at hf;cbv at hf
  .intros d1 M1 e1;cbv at hf
   .intros ds M2 e2;ext hf;refine#[L,Y,M,_,_,c,rs,e1,λL1 H1 v s1 c1 r1=>#[L1,Y,M1,_,_,c1,rs.stp s1,e2,λL2 H2 vs s2 c2 r2=>?_]];exact q L2 H2 _ (s1.trans s2) c2 #[v,vs,rfl,r1.stp s2,r2.back s1 c s2.sub]
   .ext hf
  .ext hf
abbrev K2:=EV->EV->Mem->Option (EV×Mem)
def BM(K:Yb)(r:R2)(k:K2):Prop:=∀{L:Yg}{M M':Mem}{H H0:Hp}{x y d:EV}{v w:V}{Q:VK},Cor K L M H->zX H0 L H x v->zX H0 L H y w->k x y M=some (d,M') ->
 (∀L' H' u,Stp L H L' H'->Cor K L' M' H'->zX H L' H' d u->Q u H')->r v w H Q
def fOp(k:K2)(f g:FE):FE:=λY M=>match f Y M with
 |some (x,M1)=>match g Y M1 with
  |some (y,M2)=>k x y M2
  |none=>none
 |none=>none
def Fm{K:Yb}{r:R2}{k:K2}{f g:FE}(hk:BM K r k){τ:Sv}{H:Hp}{Q:VK}(h:trE K (fOp k f g) τ H Q):tOp r (trE K f) (trE K g) τ H Q:=by
 let(L,Y,M,d,M',c,rs,hf,q):=h;erw[fOp]at hf;cbv at hf
 .intros x M1 e1;cbv at hf
  .intros y M2 e2;refine(mkE c rs e1 (λL1 H1 v s1 c1 r1=>(mkE c1 (rs.stp s1) e2 (λL2 H2 w s2 c2 r2=>?_))));refine hk (H0:=H) c2 (r1.stp s2) (r2.back s1 c s2.sub) hf λL3 H3 u s3 c3 r3=>?_;exact q L3 H3 u ((s1.trans s2).trans s3) c3 (r3.back (s1.trans s2) c s3.sub)
  .ext hf
 .ext hf
def Gs(hk:BM X.K r k)(ho:OpR X (binaryOp op) r)(h1:QE X a f)(h2:QE X b g):QE X (.BinOp a op b pos) (fOp k f g):=.mk <| PE.imp (n8 ho h1.un h2.un) λ_ _ _ h=>Fm hk h
def NJ(hk:BM X.K r k)(ho:OpR X (compareOp op) r)(h1:QE X a f)(h2:QE X b g)(hm:behindInMarks op b=false):QE X (.Compare a [op] [b] pos) (fOp k f g) :=
 .mk <| PE.imp (p6 ho h1.un h2.un hm) λ_ _ _ h=>Fm hk h
def tst(f:FE):FT:=λY M=>match f Y M with
 |some (.dat (.bl c),M')=>some (c,M')
 |_=>none
def Kd{K:Yb}{f:FE}{τ:Sv}{H:Hp}{Q:Bool->Hp->Prop}(h:trT K (tst f) τ H Q):Jy (trE K f) τ H Q:=by
 let(L,Y,M,d,M',c,rs,hf,q):=h;erw[tst]at hf;cbv at hf
 .intros k M1 e1;ext hf;refine(mkE c rs e1 (λL1 H1 v s1 c1 r1=>?_));have:v=.bl d:=by erw[zX,Rep]at r1;exact r1
  exact#[d,this,q L1 H1 s1 c1]
 .ext hf
def ND(h:∀τ H Q,t τ H Q->t' τ H Q)(q:Jy t τ H Q):Jy t' τ H Q:=h _ _ _ q
def E4{op:CmpOp}{r:R2}{k:K2}{f g:FE}(hk:BM X.K r k)(ho:OpR X (compareOp op) r)(h1:QE X a f)(h2:QE X b g)(hm:behindInMarks op b=false):QT X (.Compare a [op] [b] pos) (tst (fOp k f g)) :=
 .mk <| PT.imp (i6 ho h1.un h2.un hm) λ_ _ _ h=>ND (λ_ _ _ z=>Fm hk z) (Kd h)
def o7(h:QE X e f)(he:∀whole,isTrue e X.env whole=(do let v <- whole;standAt e.pos;holding [v] (truthy v)):=by intro _;rfl):QT X e (tst f) :=
 .mk <| PT.imp (VX h.un he) λ_ _ _ h=>Kd h
def kI(C:Int->Int->Bool)(g:Int->Int->D):K2:=λx y M=>match x,y with
 |.dat (.int i),.dat (.int j)=>if C i j then some (.dat (g i j),M)else none
 |_,_=>none
def kI0(g:Int->Int->D):K2:=kI (λ_ _=>true) g
def IZ{K:Yb}{C:Int->Int->Bool}{C':Int->Int->Prop}{g:Int->Int->D}{g':Int->Int->V}(hC:∀i j,C i j=true->C' i j)(hg:∀L H i j,Rep L H (g i j) (g' i j)):BM K (rI C' g') (kI C g):=by
 intro L M M' H H0 x y d v w Q c rx ry hk q;erw[kI]at hk;cbv at hk
 .intros i j;cbv at hk
  .intros hc;ext hk;refine#[i,j,by erw[zX,Rep]at rx;calc rx,by erw[zX,Rep]at ry;calc ry,hC i j hc,q L H _ (.refl L H) c (hg L H i j)]
  .ext hk
 .ext hk
def FC{K:Yb}{g:Int->Int->D}{g':Int->Int->V}(hg:∀L H i j,Rep L H (g i j) (g' i j)):BM K (rI0 g') (kI0 g):=by
 intro L M M' H H0 x y d v w Q c rx ry hk q;let(i,j,h1,h2,_,h4):=IZ (C:=λ_ _=>true) (C':=λ_ _=>True) (λ_ _ _=>trivial) hg c rx ry hk q;calc#[i,j,h1,h2,h4]
def By:Rep L H (.int i) (.int i):=by erw[Rep];rfl
def B7:Rep L H (.bl i) (.bl i):=by erw[Rep];rfl
def HM(i j:Int):Bool:=(decide (-(2 ^ 64)<i)&&decide (i<2 ^ 64))||(decide (-(2 ^ 64)<j)&&decide (j<2 ^ 64))
abbrev Md:K2:=kI0 λi j=> .int (i+j)
abbrev Ga:K2:=kI0 λi j=> .int (i-j)
abbrev IG:K2:=kI HM λi j=> .int (i*j)
abbrev DB:K2:=kI (λ_ j=>decide (0<j)) λi j=> .int (i % j)
abbrev HL:K2:=kI (λ_ j=>decide (0<j)&&decide (j<1073741824)) λi j=> .int (i / j)
abbrev Jb:K2:=kI (λi j=>decide (0<=j)&&decide (j<=1000000)&&decide (i.natAbs<2 ^ 64)) λi j=> .int (i ^ j.toNat)
abbrev kLt:K2:=kI0 λi j=> .bl (decide (i<j))
abbrev kLe:K2:=kI0 λi j=> .bl (decide (i<=j))
abbrev kGt:K2:=kI0 λi j=> .bl (decide (j<i))
abbrev kGe:K2:=kI0 λi j=> .bl (decide (j<=i))
section
variable{f g:FE}
def jW(h1:QE X a f)(h2:QE X b g):QE X (.BinOp a .Sub b pos) (fOp Ga f g):=Gs (FC λ_ _ _ _=>By) lH h1 h2
def Xv(h1:QE X a f)(h2:QE X b g):QE X (.BinOp a .Mult b pos) (fOp IG f g):=Gs (IZ (λi j h=>by
 erw[HM]at h;simp only[Bool.or_eq_true,BB,DM]at h;calc h) λ_ _ _ _=>By) dM h1 h2
def Xt(h1:QE X a f)(h2:QE X b g):QE X (.BinOp a .Mod b pos) (fOp DB f g):=Gs (IZ (λi j h=>Cs h) λ_ _ _ _=>By) XI h1 h2
def qL(h1:QE X a f)(h2:QE X b g):QE X (.BinOp a .FloorDiv b pos) (fOp HL f g):=Gs (IZ (λi j h=>by
 simp only[BB,DM]at h;calc h) λ_ _ _ _=>By) d7 h1 h2
def VY(h1:QE X a f)(h2:QE X b g):QE X (.BinOp a .Pow b pos) (fOp Jb f g):=Gs (IZ (λi j h=>by
 simp only[BB,DM]at h;calc#[h.1.1,h.1.2,h.2]) λ_ _ _ _=>By) iC h1 h2
def Wr(h1:QE X a f)(h2:QE X b g):QE X (.Compare a [.Lt] [b] pos) (fOp kLt f g):=NJ (FC λ_ _ _ _=>B7) LY h1 h2 (Ej _)
def MA(h1:QE X a f)(h2:QE X b g):QE X (.Compare a [.LtE] [b] pos) (fOp kLe f g):=NJ (FC λ_ _ _ _=>B7) T8 h1 h2 (Ej _)
def rH(h1:QE X a f)(h2:QE X b g):QT X (.Compare a [.Lt] [b] pos) (tst (fOp kLt f g)):=E4 (FC λ_ _ _ _=>B7) LY h1 h2 (Ej _)
def jZ(h1:QE X a f)(h2:QE X b g):QT X (.Compare a [.Gt] [b] pos) (tst (fOp kGt f g)):=E4 (FC λ_ _ _ _=>B7) XW h1 h2 (Ej _)
def WQ(h1:QE X a f)(h2:QE X b g):QT X (.Compare a [.GtE] [b] pos) (tst (fOp kGe f g)):=E4 (FC λ_ _ _ _=>B7) j5 h1 h2 (Ej _)
end
end
def Bb(M:Mem):EV->Option (List D)
 |.fl xs=>some xs
 |.dat (.ref n)=>match M[n]? with
  |some (.lst xs)=>some xs
  |some (.fro xs)=>some xs
  |_=>none
 |_=>none
def Cc:EV->Option (List D)
 |.dat (.tup xs)=>some xs
 |_=>none
def A7(M:Mem)(x:EV):Option (List D):=match Cc x with
 |some xs=>some xs
 |none=>Bb M x
def Cm{K:Yb}{L:Yg}{M:Mem}{H H0:Hp}{x:EV}{v:V}{xs:List D}(c:Cor K L M H)(r:zX H0 L H x v)(h:Bb M x=some xs):∃a vs,v=.ref a/\Rd H a (.lst vs)/\zH L H xs vs:=by
 cases x with
 |fl ys=>
  ext h;let(p,vs,rfl,_,e,_,r):=r;calc#[p,vs,rfl,.inl e,r]
 |dat d=>
  cases d with
  |ref n=>
   erw[zX,Rep]at r;let(a,rfl,e):=r;erw[Bb]at h;dsimp only at h;cases q:M[n]? with
   |none=>rw[q]at h;ext h
   |some m=>
    rw[q]at h;let z:=c.obj n a m e q;cases m with
    |lst ys=>ext h;let(vs,e1,r1):=z;calc#[a,vs,rfl,.inl e1,r1]
    |fro ys=>ext h;let(o,vs,e1,r1):=z;calc#[a,vs,rfl,.inr #[o,e1],r1]
    |dict _=>ext h
    |dicT _=>ext h
    |set _=>ext h
    |froT _=>ext h
    |froK _=>ext h
  |_=>ext h
def D7{L:Yg}{H H0:Hp}{x:EV}{v:V}{xs:List D}(r:zX H0 L H x v)(h:Cc x=some xs):∃a vs,v=.ref a/\H a=some (.tup vs)/\zH L H xs vs:=by
 cases x with
 |fl ys=>ext h
 |dat d=>
  cases d with
  |tup ys=>ext h;erw[zX,Rep]at r;calc r
  |_=>ext h
def OA{K:Yb}{L:Yg}{M:Mem}{H H0:Hp}{x:EV}{v:V}{xs:List D}(c:Cor K L M H)(r:zX H0 L H x v)(h:A7 M x=some xs):∃a vs,v=.ref a/\(SqL K H a vs\/SqT K H a vs)/\zH L H xs vs:=by
 erw[A7]at h;cases q:Cc x with
 |some ys=>
  rw[q]at h;ext h;let(a,vs,e,h1,h2):=D7 r q;calc#[a,vs,e,.inr (.of h1),h2]
 |none=>
  rw[q]at h;let(a,vs,e,h1,h2):=Cm c r h;calc#[a,vs,e,.inl (.inl h1),h2]
def lS{L:Yg}{H:Hp}{xs:List D}{vs:List V}{i:Int}{d:D}(r:zH L H xs vs)(h:atI xs i=some d):∃v,atI vs i=some v/\Rep L H d v:=by
 unfold atI at h ⊢;rw[r.length];cases q:ixN xs.length i with
 |none=>rw[q]at h;ext h
 |some j=>rw[q]at h;calc r.get h
def sA{L:Yg}{H:Hp}{i:Str}:Rep L H (.str i) (.str i):=by erw[Rep];rfl
def kIx:K2:=λx y M=>match y with
 |.dat (.int i)=>match A7 M x with
  |some xs=>match atI xs i with
   |some d=>some (.dat d,M)
   |none=>none
  |none=>match x with
   |.dat (.str z)=>if z.length<=sizeLine then match atI z.cps.toList i with
     |some c=>some (.dat (.str ⟨#[c]⟩),M)
     |none=>none
    else none
   |_=>none
 |_=>none
def iO{K:Yb}:BM K (rIx K) kIx:=by
 intro L M M' H H0 x y d v w Q c rx ry hk q;erw[kIx]at hk;cbv at hk
 .intros i;let ew:w=.int i:=by erw[zX,Rep]at ry;exact ry
  cbv at hk
  .intros xs e1;cbv at hk
   .intros d' e2;ext hk;let(a,vs,rfl,hs,r):=OA c rx e1;let(u,e3,r3):=lS r e2;rcases hs with hs|hs
    .exact .inl #[a,vs,i,u,rfl,ew,hs,e3,q L H u (.refl L H) c r3]
    .exact .inr (.inl #[a,vs,i,u,rfl,ew,hs,e3,q L H u (.refl L H) c r3])
   .ext hk
  .split at hk
   .intros z _;cbv at hk
    .intros hz;cbv at hk
     .intros ch e2;ext hk;let ev:v=.str z:=by erw[zX,Rep]at rx;exact rx
      exact .inr (.inr #[z,i,ch,ev,ew,hz,e2,q L H _ (.refl L H) c (sA (L:=L) (H:=H))])
     .ext hk
    .ext hk
   .ext hk
 .ext hk
section
variable{prog:Ym}{w:Yo}{A:Yn}{E:Yc}{s:Yl}
def ZD{t sl:Yt}{items:Yp}{vl vu:Yu}{lo hi:Ys}{Q:Yc}(T:IsTup s.heap t items)(S:s.heap.IsSliceOf sl vl vu .none)(pl:IsPart vl lo)(pu:IsPart vu hi)
  (h1:HT.sIx items.size 0 lo=0) (h2:HT.sIx items.size items.size hi=items.size) (h:Q (.ref t) s):wpAny (model prog w) A (getItem (.ref t) (.ref sl)) Q E s:=by
 let(o,O,C,G):=id S;let TS:s.TypeIs (.ref sl) "slice" := #[o,O,C];erw[getItem];try with_reducible refine Bu ?_
 first|refine AA (AD ?_)|skip
 calc AA (wpAny_sequenceKey T.typeIs () ?_);calc AA (CP (name:=Str.ofString "__getitem__") T.typeIs Hs (BQ Hs T.typeIs entry_tuple_getitem ?_ (args_tuple_getitem _ _)));calc AA (m:=Builtin.Tuple.tupleItemsOf (.ref t)) (tupleItemsOf_ T (AA (wpAny_typeOf TS ?_)));rw[AB ()];calc AA (HT.Sk S pl pu ?_);rw[h1,h2];show wpAny _ _ (if((((0:Nat):Int)==0&&(1:Int)==1&&(items.size-0)==items.size))=true then _ else _) _ _ s;rw[AB (by simp)];erw[Builtin.Tuple.tupleIsExact];calc AA (AA (wpAny_typeOf T.typeIs (AD ?_)));rw[AB ()];calc AA (CS (AD #[_,rfl,AD h]))
end
def lM(K:Yb):V->Option Int->Option Int->Hp->VK->Prop:=λx lo hi H Q=>∃a xs,x=.ref a/\SqT K H a xs/\(HT.sIx xs.length 0 lo=0/\HT.sIx xs.length xs.length hi=xs.length)/\Q (.ref a) H
def Zx{X:Cx}:SlR X (lM X.K):=by
 intro zB s Y H x v vl vu lo hi sl Q I rx hs pl pu h;let(a,xs,rfl,hx,hw,q):=h;ext rx;let(its,r,ht,hz):=I.tuple hx;let hlen:its.toArray.size=xs.length:=by rw[AX];exact r.length.symm
 calc#["tuple",_,Hs.lookup,ht.typeIs,ZD ht hs pl pu (by rw[hlen];calc hw.1) (by rw[hlen];calc hw.2) #[.ref a,H,I,rfl,q]]
section
variable{X:Cx}{a b e:Expr}{es:Yi}{pos:Pos}{f g:FE}
def cF(h1:QE X a f)(h2:QE X b g)(hs:SA b:=by intro _ _;rfl):QE X (.Subscript a b pos) (fOp kIx f g):=.mk <| PE.imp (pS ZE h1.un h2.un hs) λ_ _ _ h=>Fm iO h
abbrev FO:=Sd->Mem->Option (Option Int×Mem)
def trO(K:Yb)(f:FO):TO:=λτ H Q=>∃L Y M d M',Cor K L M H/\Aj L H Y τ/\f Y M=some (d,M')/\∀L' H',Stp L H L' H'->Cor K L' M' H'->Q d H'
structure QO(X:Cx)(e:Option Expr)(f:FO):Prop where
 un:PO X e (trO X.K f)
def DR:FO:=λ_ M=>some (none,M)
def Cz(f:FE):FO:=λY M=>match f Y M with
 |some (.dat (.int i),M')=>some (some i,M')
 |_=>none
def PO.imp{e:Option Expr}{t t':TO}(h:PO X e t)(hi:∀τ H Q,t' τ H Q->t τ H Q):PO X e t':=λzB s Y H Q I q=>h zB s Y H Q I (hi _ _ _ q)
def iD:QO X none DR:=.mk <| PO.imp VG λτ H Q zz=>by
 let(L,Y,M,d,M',c,rs,hf,q):=zz;erw[DR]at hf;ext hf;calc q L H (.refl L H) c
def eE(h:QE X e f):QO X (some e) (Cz f):=.mk <| PO.imp (eW h.un) λτ H Q zz=>by
 let(L,Y,M,d,M',c,rs,hf,q):=zz;erw[Cz]at hf;cbv at hf
 .intros i M1 e1;ext hf;refine(mkE c rs e1 (λL1 H1 v s1 c1 r1=>?_));exact#[i,by erw[zX,Rep]at r1;calc r1,q L1 H1 s1 c1]
 .ext hf
def B0(xs:List D)(lo hi:Ys):List D:=(xs.drop (HT.sIx xs.length 0 lo)).take (HT.sIx xs.length xs.length hi-HT.sIx xs.length 0 lo)
def S4{L:Yg}{H:Hp}{xs:List D}{vs:List V}{lo hi:Ys}(r:zH L H xs vs):zH L H (B0 xs lo hi) (GH vs lo hi):=by
 erw[B0,GH];rw[r.length];calc(r.drop _).take _
def kSl(x:EV)(lo hi:Ys)(M:Mem):Option (EV×Mem):=match Cc x with
 |some xs=>some (.dat (.tup (B0 xs lo hi)),M)
 |none=>match Bb M x with
  |some xs=>some (.fl (B0 xs lo hi),M)
  |none=>none
def fSl(f:FE)(fl fh:FO):FE:=λY M=>match f Y M with
 |some (x,M1)=>match fl Y M1 with
  |some (lo,M2)=>match fh Y M2 with
   |some (hi,M3)=>kSl x lo hi M3
   |none=>none
  |none=>none
 |none=>none
def YE{lo hi:Option Expr}{p2:Pos}{fl fh:FO}(h:QE X e f)(hl:QO X lo fl)(hh:QO X hi fh):QE X (.Subscript e (.Slice lo hi none p2) pos) (fSl f fl fh) :=
 .mk <| PE.imp (eB (SlR.or o4 (SlR.or gK Zx)) h.un hl.un hh.un) λτ H Q zz=>by
  let(L,Y,M,d,M',c,rs,hf,q):=zz;erw[fSl]at hf;cbv at hf
  .intros x M1 e1;cbv at hf
   .intros l M2 e2;cbv at hf
    .intros u M3 e3;refine#[L,Y,M,_,_,c,rs,e1,λL1 H1 v s1 c1 r1=>#[L1,Y,M1,_,_,c1,rs.stp s1,e2,λL2 H2 s2 c2=>#[L2,Y,M2,_,_,c2,rs.stp (s1.trans s2),e3,λL3 H3 s3 c3=>?_]]];let s:=(s1.trans s2).trans s3;let r3:zX H L3 H3 x v:=(r1.stp s2).stp s3;erw[kSl]at hf;cases t:Cc x with
     |some xs=>
      rw[t]at hf;dsimp only at hf;ext hf;let(a,vs,rfl,e4,r4):=D7 r3 t;by_cases hw:HT.sIx vs.length 0 l=0/\HT.sIx vs.length vs.length u=vs.length
      .refine .inr (.inr #[a,vs,rfl,.of e4,hw,?_]);let ec:B0 xs l u=xs:=by
        erw[B0];rw[<-r4.length,hw.1,hw.2,r4.length];simp
       rw[ec]at q;calc q L3 H3 _ s c3 ?_;erw[zX,Rep];exact#[a,vs,rfl,e4,r4]
      .refine .inr (.inl #[a,vs,rfl,.of e4,hw,λp hp=>?_]);calc q L3 _ _ (s.trans (.upd hp)) (c3.upd hp) (Rep.newTup hp (S4 r4))
     |none=>
      rw[t]at hf;dsimp only at hf;cbv at hf
      .intros xs e4;ext hf;let(a,vs,rfl,e5,r5):=Cm c3 r3 e4;refine .inl #[a,vs,rfl,.inl e5,λp hp=>?_];exact q L3 _ _ (s.trans (.upd hp)) (c3.upd hp) (zX.newLst s c c3 hp (S4 r5))
      .ext hf
    .ext hf
   .ext hf
  .ext hf
abbrev KB:=List EV->Mem->Option (EV×Mem)
def Dk(K:Yb)(r:List V->Hp->VK->Prop)(k:KB):Prop:=∀{L:Yg}{M M':Mem}{H H0:Hp}{xs:List EV}{d:EV}{vs:List V}{Q:VK},Cor K L M H->C9 H0 L H xs vs->k xs M=some (d,M') ->
 (∀L' H' u,Stp L H L' H'->Cor K L' M' H'->zX H L' H' d u->Q u H')->r vs H Q
def fB(k:KB)(f:FAE):FE:=λY M=>match f Y M with
 |some (xs,M1)=>k xs M1
 |none=>none
def Rn{K:Yb}{r:List V->Hp->VK->Prop}{k:KB}{f:FAE}(hk:Dk K r k){τ:Sv}{H:Hp}{Q:VK}(h:trE K (fB k f) τ H Q):tCB r (R1 K f) τ H Q:=by
 let(L,Y,M,d,M',c,rs,hf,q):=h;erw[fB]at hf;cbv at hf
 .intros xs M1 e1;refine#[L,Y,M,_,_,c,rs,e1,λL1 H1 vs s1 c1 r1=>?_];refine hk c1 r1 hf λL2 H2 u s2 c2 r2=>?_;exact q L2 H2 u (s1.trans s2) c2 (r2.back s1 c s2.sub)
 .ext hf
def C9.one{H0:Hp}{L:Yg}{H:Hp}{x:EV}{vs:List V}(h:C9 H0 L H [x] vs):∃v,vs=[v]/\zX H0 L H x v:=by
 let(v,r,rfl,h1,h2):=h;erw[C9]at h2;subst h2;calc#[v,rfl,h1]
def An:KB:=λxs M=>match xs with
 |[x]=>match A7 M x with
  |some ys=>some (.dat (.int ys.length),M)
  |none=>none
 |_=>none
def dW:Dk X.K (λxs H Q=>∃p ys,xs=[.ref p]/\(SqL X.K H p ys\/SqT X.K H p ys)/\Q (.int ys.length) H) An:=by
 intro L M M' H H0 xs d vs Q c r hk q;erw[An]at hk;cbv at hk
 .intros x;cbv at hk
  .intros ys e1;ext hk;let(v,rfl,r1):=r.one;let(a,ws,rfl,hs,r2):=OA c r1 e1;calc#[a,ws,rfl,hs,q L H _ (.refl L H) c ?_];rw[r2.length];exact(By (L:=L) (H:=H))
  .ext hk
 .ext hk
def GC{x:Str}{p:Pos}{id:String}{r:List V->Hp->VK->Prop}{k:KB}{f:FAE}(hk:Dk X.K r k)(hc:B1 X (.builtin id) r)(hv:bootBuiltins x=some (.builtin id))(hg:Gl X x)(hm:X.mg x=none)(ha:QAE X (e::es) f)(hn:x ≠ "__name__" := by decide)(hdb:(x==("__debug__" : Str))=false:=by decide)
  (he:starEach (e::es) X.env=(false,eval e X.env)::starEach es X.env:=by rfl) (hpl:(backTo pos (starEach es X.env)).any (·.1)=false:=by rfl):QE X (.Call (.Name x p) (e::es) [] pos) (fB k f) :=
 .mk <| PE.imp (Rf hc hg hm hv ha.un hn hdb he hpl) λ_ _ _ h=>Rn hk h
def Ox{x:Str}{p:Pos}{T:String}{r:List V->Hp->VK->Prop}{k:KB}{f:FAE}(hk:Dk X.K r k)(hc:B1 X (.type T) r)(hv:bootBuiltins x=some (.type T))(hg:Gl X x)(hm:X.mg x=none)(ha:QAE X (e::es) f)(hn:x ≠ "__name__" := by decide)(hdb:(x==("__debug__" : Str))=false:=by decide)
  (he:starEach (e::es) X.env=(false,eval e X.env)::starEach es X.env:=by rfl) (hpl:(backTo pos (starEach es X.env)).any (·.1)=false:=by rfl):QE X (.Call (.Name x p) (e::es) [] pos) (fB k f) :=
 .mk <| PE.imp (JX hc hg hm hv ha.un hn hdb he hpl) λ_ _ _ h=>Rn hk h
def BP:KB:=λxs M=>match xs with
 |[x]=>match A7 M x with
  |some ys=>some (.dat (.tup ys),M)
  |none=>none
 |_=>none
def ZL:Dk X.K (λxs H Q=>∃p ys,xs=[.ref p]/\((SqL X.K H p ys/\∀l,H l=none->Q (.ref l) (upd H l (.tup ys)))\/(SqT X.K H p ys/\Q (.ref p) H))) BP:=by
 intro L M M' H H0 xs d vs Q c r hk q;erw[BP]at hk;cbv at hk
 .intros x;cbv at hk
  .intros ys e1;ext hk;let(v,rfl,r1):=r.one;erw[A7]at e1;cases t:Cc x with
   |some zs=>
    rw[t]at e1;ext e1;let(a,ws,rfl,e2,r2):=D7 r1 t;calc#[a,ws,rfl,.inr #[.of e2,q L H _ (.refl L H) c ?_]];erw[zX,Rep];calc#[a,ws,rfl,e2,r2]
   |none=>
    rw[t]at e1;let(a,ws,rfl,e2,r2):=Cm c r1 e1;refine#[a,ws,rfl,.inl #[.inl e2,λp hp=>?_]];exact q L _ _ (.upd hp) (c.upd hp) (Rep.newTup hp r2)
  .ext hk
 .ext hk
end
set_option genInjectivity true in
inductive Out where
  |nx|ret (d:D)|brk|cnt
abbrev FS:=Sd->Mem->Option (Out×Sd×Mem)
def VA(E:Ends)(L:Yg)(H:Hp)(Y:Sd):Out->Prop
  |.nx=>∀τ,Aj L H Y τ->E.nx τ H
  |.ret d=>∀v,Rep L H d v->E.rt v H
  |.brk=>∀τ,Aj L H Y τ->E.bk τ H
  |.cnt=>∀τ,Aj L H Y τ->E.ct τ H
def trS(K:Yb)(f:FS):TS:=λE τ H=>∃L Y M o Y' M',Cor K L M H/\Aj L H Y τ/\f Y M=some (o,Y',M')/\∀L' H',Stp L H L' H'->Cor K L' M' H'->VA E L' H' Y' o
structure QS(X:Cx)(st:Stmt)(f:FS):Prop where
  un:PS X st (trS X.K f)
structure QSs(X:Cx)(st:Yy)(f:FS):Prop where
  un:PSs X st (trS X.K f)
def Aj.set{L:Yg}{H:Hp}{Y:Sd}{τ:Sv}{i:Nat}{d:D}{v:V}(h:Aj L H Y τ)(r:Rep L H d v):Aj L H (Y.set i (some d)) (τ.set i (some v)):=by
  refine#[by simp[h.1],λj e q=>?_];rw[Ea]at q ⊢;cbv at q
  . intros z
    subst z;cbv at q
    . intros hl
      ext q;rw[AB rfl,AB (by rw[h.1];calc hl)];exact#[v,rfl,r]
    .ext q
  . intros z
    rw[AE z];calc h.2 j e q
def Uw{K:Yb}{f:FE}{τ:Sv}{H:Hp}{Q:VK}(h:trD K (toD f) τ H Q):trE K f τ H Q:=by
  let(L,Y,M,d,M',c,rs,hf,q):=h;erw[toD]at hf;cbv at hf
  . intros d' M1 e1
    ext hf;exact(mkE c rs e1 (λL' H' v s c' r=>q L' H' v s c' r))
  . intros xs M1 e1
    ext hf;refine(mkE c rs e1 (λL' H' v s c' r=>?_));let(p,vs,rfl,e0,e2,e3,r):=r;let(c2,s2):=PX s c' e0 e2 e3 r;exact q _ H' _ s2 c2 (Rep.last c')
  .ext hf
def Ao:FS:=λY M=>some (.nx,Y,M)
def zW(f g:FS):FS:=λY M=>match f Y M with
  |some (.nx,σ1,M1)=>g σ1 M1
  |r=>r
def sIf(c:FT)(f g:FS):FS:=λY M=>match c Y M with
  |some (true,M1)=>f Y M1
  |some (false,M1)=>g Y M1
  |none=>none
def zq(f:FE):FS:=λY M=>match toD f Y M with
  |some (d,M1)=>some (.ret d,Y,M1)
  |none=>none
def zw(i:Nat)(f:FE):FS:=λY M=>match toD f Y M with
  |some (d,M1)=>some (.nx,Y.set i (some d),M1)
  |none=>none
def Bz(f:FE):FS:=λY M=>match f Y M with
  |some (_,M1)=>some (.nx,Y,M1)
  |none=>none
section
variable{X:Cx}{st:Stmt}{rest:Yy}{e c:Expr}{pos:Pos}
def lB:QSs X [] Ao:=.mk <| PSs.imp oM λE τ H zz=>by
  let(L,Y,M,o,Y',M',c,rs,hf,q):=zz;erw[Ao]at hf;ext hf;calc q L H (.refl L H) c τ rs
def dG{f g:FS}(h1:QS X st f)(h2:QSs X rest g):QSs X (st::rest) (zW f g):=.mk <| PSs.imp (jH h1.un h2.un) λE τ H zz=>by
  let(L,Y,M,o,Y',M',c,rs,hf,q):=zz;erw[zW]at hf;cbv at hf
  . intros σ1 M1 e1
    refine#[L,Y,M,_,_,_,c,rs,e1,λL1 H1 s1 c1 τ1 r1=>#[L1,σ1,M1,_,_,_,c1,r1,hf,λL2 H2 s2 c2=>q L2 H2 (s1.trans s2) c2]]
  . intros hne
    refine#[L,Y,M,_,_,_,c,rs,hf,λL1 H1 s1 c1=>?_];let z:=q L1 H1 s1 c1;cases o with
    |nx=>calc absurd hf (hne Y' M')
    |ret d=>calc z
    |brk=>calc z
    |cnt=>calc z
def NW{f:FS}(h1:QS X st f):QSs X [st] f:=.mk <| PSs.imp (pP h1.un) λ_ _ _ h=>h
def d5{a b:Yy}{fc:FT}{f g:FS}(hc:QT X c fc)(ha:QSs X a f)(hb:QSs X b g):QS X (.If c a b pos) (sIf fc f g):=.mk <| PS.imp (Vf hc.un ha.un hb.un) λE τ H zz=>by
  let(L,Y,M,o,Y',M',c,rs,hf,q):=zz;erw[sIf]at hf;cbv at hf
  . intros M1 e1
    refine(mkT c rs e1 (λL1 H1 s1 c1=>?_));exact Di #[L1,Y,M1,_,_,_,c1,rs.stp s1,hf,λL2 H2 s2 c2=>q L2 H2 (s1.trans s2) c2]
  . intros M1 e1
    refine(mkT c rs e1 (λL1 H1 s1 c1=>?_));exact DX #[L1,Y,M1,_,_,_,c1,rs.stp s1,hf,λL2 H2 s2 c2=>q L2 H2 (s1.trans s2) c2]
  .ext hf
def NR{f:FE}(h:QE X e f):QS X (.Return (some e) pos) (zq f):=.mk <| PS.imp (pX (BL h).un) λE τ H zz=>by
  let(L,Y,M,o,Y',M',c,rs,hf,q):=zz;erw[zq]at hf;cbv at hf
  . intros d M1 e1
    ext hf;exact(mkD c rs e1 (λL1 H1 v s1 c1 r1=>q L1 H1 s1 c1 v r1))
  .ext hf
def MR{K:Yb}{i:Nat}{f:FE}{t:TE}(ht:∀τ H Q,trE K f τ H Q->t τ H Q){E:Ends}{τ:Sv}{H:Hp}(h:trS K (zw i f) E τ H):IY t (CY i) E τ H:=by
  let(L,Y,M,o,Y',M',c,rs,hf,q):=h;erw[zw]at hf;cbv at hf
  . intros d M1 e1
    ext hf;exact ht _ _ _ (Uw (mkD c rs e1 (λL1 H1 v s1 c1 r1=>q L1 H1 s1 c1 _ ((rs.stp s1).set r1))))
  .ext hf
def bB{i:Nat}{x:Str}{f:FE}{pos':Pos}(hN:X.N.Nodup)(hi:X.N[i]?=some x)(hx:Loc X.env.scope x)(h:QE X e f)(hs:swapsWith e (some (.Name x pos')) pos.line X.env=pure false:=by rfl)
    (hf:X.fn x=true\/X.env.scope.names.lookup x=some .local:=by first|exact .inl rfl|exact .inr rfl|assumption):QS X (.Assign [.Name x pos'] e pos) (zw i f) := 
  .mk <| PS.imp (pQ hN hi hx h.un hs hf) λ_ _ _ z=>MR (λ_ _ _ z=>z) z
def Xk{f:FE}(h:QE X e f)(hs:swapsWith e none pos.line X.env=pure false:=by rfl):QS X (.Expr e pos) (Bz f):=.mk <| PS.imp (WK h.un hs) λE τ H zz=>by
  let(L,Y,M,o,Y',M',c,rs,hf,q):=zz;erw[Bz]at hf;cbv at hf
  . intros d M1 e1
    ext hf;exact(mkE c rs e1 (λL1 H1 v s1 c1 r1=>q L1 H1 s1 c1 τ (rs.stp s1)))
  .ext hf
abbrev FG:=D->Sd->Option Sd
def GOk(g:TG)(fg:FG):Prop:=∀{L:Yg}{H:Hp}{Y Y':Sd}{τ:Sv}{d:D}{v:V}{Q:Sv->Hp->Prop},Aj L H Y τ->Rep L H d v->fg d Y=some Y'->(∀τ',Aj L H Y' τ'->Q τ' H)->g v τ H Q
def gN(i:Nat):FG:=λd Y=>some (Y.set i (some d))
def U5{i:Nat}:GOk (CY i) (gN i):=by
  intro L H Y Y' τ d v Q rs r hf q;erw[gN]at hf;ext hf;calc q _ (rs.set r)
abbrev FI:=Sd->Mem->Option (List D×Option (Mem->Prop)×Mem)
def BG(g:Option (Mem->Prop))(xs:List D)(M:Mem):Prop:=match g with
  |none=>True
  |some p=>p M
def ME(K:Yb)(J:It)(L:Yg)(H:Hp)(xs:List D)(g:Option (Mem->Prop)):Prop:=∀L' H' M',Stp L H L' H'->Cor K L' M' H'->BG g xs M' ->
  (∀(i:Nat) d,xs[i]?=some d->J.go i H'/\∀v H'',J.yld i H' v H''->(∀a o,H' a=some o->H'' a=some o)/\Rep L' H'' d v)/\J.stop xs.length H'
def trI(K:Yb)(f:FI):TI:=λτ H R=>∃L Y M xs g M',Cor K L M H/\Aj L H Y τ/\f Y M=some (xs,g,M')/\∀L' H' J,Stp L H L' H'->Cor K L' M' H'->ME K J L' H' xs g->R J H'
def mkI{K:Yb}{f:FI}{τ:Sv}{H:Hp}{R}{Y:Sd}{M M':Mem}{xs g}(c:Cor K L M H)(r:Aj L H Y τ)(e:f Y M=some (xs,g,M'))(q:∀L' H' J,Stp L H L' H'->Cor K L' M' H'->ME K J L' H' xs g->R J H'):trI K f τ H R:=#[_,_,_,_,_,_,c,r,e,q]
structure QI(X:Cx)(tg e:Expr)(f:FI):Prop where
  un:PI X tg e (trI X.K f)
def PI.imp{tg e:Expr}{t t':TI}(h:PI X tg e t)(hi:∀τ H R,t' τ H R->t τ H R):PI X tg e t':=λzB s Y H R I q=>h zB s Y H R I (hi _ _ _ q)
def DC(g:FG)(b:FS)(all:List D)(gd:Option (Mem->Prop)):List D->Sd->Mem->Option (Out×Sd×Mem)
  |[],Y,M=>open Classical in if BG gd all M then some (.nx,Y,M)else none
  |x::r,Y,M=>open Classical in if BG gd all M then match g x Y with
      |some σ1=>match b σ1 M with
        |some (.nx,σ2,M2)=>DC g b all gd r σ2 M2
        |some (.cnt,σ2,M2)=>DC g b all gd r σ2 M2
        |some (.brk,σ2,M2)=>some (.nx,σ2,M2)
        |some (.ret d,σ2,M2)=>some (.ret d,σ2,M2)
        |none=>none
      |none=>none
    else none
def BO(fi:FI)(g:FG)(b:FS):FS:=λY M=>match fi Y M with
  |some (xs,gd,M1)=>DC g b xs gd xs Y M1
  |none=>none
def Hf{α:Type}{xs:List α}{i:Nat}(h:i<xs.length):xs.drop i=xs[i]::xs.drop (i+1):=List.drop_eq_getElem_cons h
def Stp.yld{L L':Yg}{H H' H'':Hp}(s:Stp L H L' H')(h:∀a o,H' a=some o->H'' a=some o):Stp L H L' H'':=s.trans (.grow h)
set_option genInjectivity true in
inductive FW(K:Yb)(fg:FG)(b:FS)(xs:List D)(gd:Option (Mem->Prop))(r:Option (Out×Sd×Mem))(L1:Yg)(H1:Hp):Nat->Nat->Sv->Hp->Prop
  |mk {i:Nat} {τ':Sv} {H':Hp} {L':Yg} {Y':Sd} {M':Mem}:i<=xs.length->Stp L1 H1 L' H'->Cor K L' M' H'->Aj L' H' Y' τ'->DC fg b xs gd (xs.drop i) Y' M'=r->FW K fg b xs gd r L1 H1 i (xs.length-i) τ' H'
def rS{K:Yb}{fi:FI}{g:TG}{fg:FG}{b:FS}(hg:GOk g fg){E:Ends}{τ:Sv}{H:Hp}(h:trS K (BO fi fg b) E τ H):Sa (trI K fi) g (trS K b) E τ H:=by
  let(L,Y,M,o,σf,Mf,c,rs,hf,q):=h;erw[BO]at hf;cbv at hf
  . intros xs gd M1 e1
    refine(mkI c rs e1 (λL1 H1 J s1 c1 it=>?_));calc#[FW K fg b xs gd (some (o,σf,Mf)) L1 H1,#[_,.mk (BV _) (.refl _ _) c1 (rs.stp s1) (~~~hf)],?_];rintro i m τ' H' ⟨hi,s',c',rs',e'⟩;intros L' Y' M';by_cases hlt:i<xs.length
    . rw[Hf hlt]at e'
      erw[DC]at e';cbv at e'
      . intros hgd
        let(step,_):=it L' H' M' s' c' hgd;let(go,yl):=step i xs[i] (AO hlt);cases eg:fg xs[i] Y' with
        |none=>rw[eg]at e';ext e'
        |some σ1=>
          rw[eg]at e';dsimp only at e';refine .inr #[go,FW K fg b xs gd (some (o,σf,Mf)) L1 H1 (i+1) (xs.length-(i+1)),λτ2 H2 a=>#[xs.length-(i+1),(),a],λv H2 hy=>?_];let(gr,rv):=yl v H2 hy;refine hg (Aj.stp (.grow gr) rs') rv eg λτ2 r2=>?_;cases eb:b σ1 M' with
          |none=>rw[eb]at e';ext e'
          |some r=>
            let(o2,σ2,M2):=r;rw[eb]at e';refine#[L',σ1,M',_,_,_,c'.grow gr,r2,eb,λL3 H3 s3 c3=>?_];let s13:Stp L1 H1 L3 H3:=(s'.yld gr).trans s3;cases o2 with
            |nx=>exactλτ3 r3=> .mk hlt s13 c3 r3 e'
            |cnt=>exactλτ3 r3=> .mk hlt s13 c3 r3 e'
            |brk=>ext e';calc q L3 H3 (s1.trans s13) c3
            |ret d=>ext e';exact q L3 H3 (s1.trans s13) c3
      .ext e'
    . have hi':i=xs.length:=()
      subst hi';rw[List.drop_length]at e';erw[DC]at e';cbv at e'
      . intros hgd
        ext e';let(_,stop):=it L' H' _ s' c' hgd;exact .inl #[stop,q L' H' (s1.trans s') c' τ' rs']
      .ext e'
  .ext hf
def Lc{tg iter:Expr}{body:Yy}{fi:FI}{g:TG}{fg:FG}{b:FS}(hg:GOk g fg)(hp:PassesOwn (model X.prog X.w) X.A X.env X.xe)(hc:X.calm=true)(hi:QI X tg iter fi)(ht:PG X tg g)(hb:QSs X body b)
    (hs:∀x,foldedSetIterable iter X.env x=pure x:=by intro _;rfl):QS X (.For tg iter body [] pos) (BO fi fg b):=.mk <| PS.imp (Vh hp hc hi.un ht hb.un hs) λ_ _ _ h=>rS hg h
end
section
variable{X:Cx}{e c iter tg elt:Expr}{pos:Pos}{scope:Y0}{ifs:Yi}
def Bs(c:FT)(b:FS):Nat->Sd->Mem->Option (Out×Sd×Mem)
  |0,_,_=>none
  |n+1,Y,M=>match c Y M with
    |some (true,M1)=>match b Y M1 with
      |some (.nx,σ2,M2)=>Bs c b n σ2 M2
      |some (.cnt,σ2,M2)=>Bs c b n σ2 M2
      |some (.brk,σ2,M2)=>some (.nx,σ2,M2)
      |some (.ret d,σ2,M2)=>some (.ret d,σ2,M2)
      |none=>none
    |some (false,M1)=>some (.nx,Y,M1)
    |none=>none
def WO{K:Yb}{fc:FT}{b:FS}{n:Nat}{E:Ends}{τ:Sv}{H:Hp}(h:trS K (Bs fc b n) E τ H):Rb (trT K fc) (trS K b) E τ H:=by
  let(L,Y,M,o,σf,Mf,c,rs,hf,q):=h;refine#[λm τ' H'=>∃L' Y' M',Stp L H L' H'/\Cor K L' M' H'/\Aj L' H' Y' τ'/\Bs fc b m Y' M'=some (o,σf,Mf),#[n,L,Y,M,.refl _ _,c,rs,hf],?_];rintro m τ' H' ⟨L',Y',M',s',c',rs',e'⟩;cases m with
  |zero=>erw[Bs]at e';ext e'
  |succ m=>
    erw[Bs]at e';cbv at e'
    . intros M1 e1
      refine(mkT c' rs' e1 (λL1 H1 s1 c1=>Di ?_));refine#[λτ2 H2=>∃L2 σ2 M2,Stp L H L2 H2/\Cor K L2 M2 H2/\Aj L2 H2 σ2 τ2/\Bs fc b m σ2 M2=some (o,σf,Mf),λτ2 H2 h2=>#[m,D3 m,h2],?_];cases eb:b Y' M1 with
      |none=>rw[eb]at e';ext e'
      |some r=>
        let(o2,σ2,M2):=r;rw[eb]at e';refine#[L1,Y',M1,_,_,_,c1,rs'.stp s1,eb,λL3 H3 s3 c3=>?_];let s13:Stp L H L3 H3:=(s'.trans s1).trans s3;cases o2 with
        |nx=>exactλτ3 r3=>#[L3,σ2,M2,s13,c3,r3,e']
        |cnt=>exactλτ3 r3=>#[L3,σ2,M2,s13,c3,r3,e']
        |brk=>ext e';calc q L3 H3 s13 c3
        |ret d=>ext e';exact q L3 H3 s13 c3
    . intros M1 e1
      ext e';exact#[L',_,M',_,_,c',rs',e1,λL1 H1 s1 c1=>DX (q L1 H1 (s'.trans s1) c1 τ' (rs'.stp s1))]
    .ext e'
def Zr{body:Yy}{fc:FT}{b:FS}(n:Nat)(hp:PassesOwn (model X.prog X.w) X.A X.env X.xe)(hc:QT X c fc)(hb:QSs X body b):QS X (.While c body [] pos) (Bs fc b n) := 
  .mk <| PS.imp (XX hp hc.un hb.un) λ_ _ _ h=>WO h
def Al(own:Yj)(Y:Sd):Sd:=own.foldl (λY i=>Y.set i none) Y
theorem Hv{L:Yg}{H:Hp}:∀(own:Yj){Y:Sd}{τ:Sv},Aj L H Y τ->Aj L H (Al own Y) (clr own τ)
  |[],_,_,h=>h
  |i::r,Y,τ,h=>by
    refine Hv r (Y:=Y.set i none) (τ:=τ.set i none) #[by simp[h.1],λj d q=>?_];rw[Ea]at q ⊢;cbv at q
    .split at q <;> ext q
    . intros z
      rw[AE z];calc h.2 j d q
def BK(g:FG)(tc:FT)(te:FE)(Y:Sd)(all:List D)(gd:Option (Mem->Prop)):List D->Mem->Option (List D×Mem)
  |[],M=>open Classical in if BG gd all M then some ([],M)else none
  |x::r,M=>open Classical in if BG gd all M then match g x Y with
      |some σ1=>match tc σ1 M with
        |some (true,M1)=>match toD te σ1 M1 with
          |some (d,M2)=>match BK g tc te Y all gd r M2 with
            |some (ds,M3)=>some (d::ds,M3)
            |none=>none
          |none=>none
        |some (false,M1)=>BK g tc te Y all gd r M1
        |none=>none
      |none=>none
    else none
def zu(own:Yj)(fi:FI)(g:FG)(tc:FT)(te:FE):FE:=λY M=>match fi Y M with
  |some (xs,gd,M1)=>if xs.length<=sizeLine then match BK g tc te (Al own Y) xs gd xs M1 with
      |some (ys,M2)=>some (.fl ys,M2)
      |none=>none
    else none
  |none=>none
/-- what a target of a comprehension does: it sets names of its own -/
def Cf(own:Yj)(g:TG)(fg:FG):Prop:=∀{L:Yg}{H:Hp}{Y Y':Sd}{τ τ0:Sv}{d:D}{v:V}{Q:Sv->Hp->Prop},Aj L H Y τ->Ext (clr own τ0) τ->Rep L H d v->fg d Y=some Y'->(∀τ',Aj L H Y' τ'->Ext (clr own τ0) τ'->Q τ' H)->g v τ H Q
def Eu{own:Yj}{i:Nat}(hi:i∈own):Cf own (CY i) (gN i):=by
  intro L H Y Y' τ τ0 d v Q rs ex r hf q;erw[gN]at hf;ext hf;exact q _ (rs.set r) (ex.set hi)
set_option genInjectivity true in
inductive CW(K:Yb)(fg:FG)(tc:FT)(te:FE)(σ0:Sd)(xs:List D)(gd:Option (Mem->Prop))(Mf:Mem)(zs:List D)(L1:Yg)(H1:Hp):Nat->Nat->List V->Hp->Prop
  |mk {i:Nat} {ys:List V} {H':Hp} {L':Yg} {M':Mem} {as bs:List D}:i<=xs.length->Stp L1 H1 L' H'->Cor K L' M' H'->zH L' H' as ys->as.length<=i->BK fg tc te σ0 xs gd (xs.drop i) M'=some (bs,Mf)->as++bs=zs->CW K fg tc te σ0 xs gd Mf zs L1 H1 i (xs.length-i) ys H'
def UD{K:Yb}{own:Yj}{fi:FI}{g:TG}{fg:FG}{tc:FT}{te:FE}(hg:Cf own g fg){τ:Sv}{H:Hp}{Q:VK}(h:trE K (zu own fi fg tc te) τ H Q):OR own (trI K fi) g (trT K tc) (trD K (toD te)) τ H Q:=by
  let(L,Y,M,d,Mf,c,rs,hf,q):=h;erw[zu]at hf;cbv at hf
  . intros xs gd M1 e1
    cbv at hf
    . intros hz
      cbv at hf
      . intros zs M2 e2
        ext hf;refine(mkI c rs e1 (λL1 H1 J s1 c1 it=>?_));calc#[CW K fg tc te (Al own Y) xs gd Mf zs L1 H1,#[_,.mk (BV _) (.refl _ _) c1 .nil (AF _) (~~~e2) rfl],?_];rintro i m ys H' ⟨hi,s',c',r',hl,e',hab⟩;intros L' M' as bs;let hys:ys.length<=i:=by rw[r'.length];exact hl
        by_cases hlt:i<xs.length
        . rw[Hf hlt]at e'
          erw[BK]at e';cbv at e'
          . intros hgd
            let(step,_):=it L' H' M' s' c' hgd;let(go,yl):=step i xs[i] (AO hlt);cbv at e'
            . intros σ1 eg
              refine .inr #[go,λv H2 hy=>?_];let(gr,rv):=yl v H2 hy;let s2:Stp L1 H1 L' H2:=s'.yld gr;refine hg (Hv own ((rs.stp s1).stp s2)) (.refl _) rv eg λτ2 r2 x2=>#[x2,?_];cbv at e'
              . intros M3 e3
                cbv at e'
                . intros d M4 e4
                  cbv at e'
                  . intros ds M5 e5
                    ext e';refine(mkT (c'.grow gr) r2 e3 (λL3 H3 s3 c3=>Di ?_));refine(mkD c3 (r2.stp s3) e4 (λL4 H4 w s4 c4 r4=>?_));let st:Stp L' H' L4 H4:=((Stp.grow gr).trans s3).trans s4;refine#[Nat.lt_of_le_of_lt hys (Ay hlt hz),xs.length-(i+1),(),.mk (as:=as++[d]) hlt (s'.trans st) c4 ((r'.stp st).app (.cons r4 .nil)) (by simp;omega) e5 (by rw[<-hab];simp)]
                  .ext e'
                .ext e'
              . intros M3 e3
                refine(mkT (c'.grow gr) r2 e3 (λL3 H3 s3 c3=>DX ?_));let st:Stp L' H' L3 H3:=(Stp.grow gr).trans s3;exact#[xs.length-(i+1),(),.mk hlt (s'.trans st) c3 (r'.stp st) () e' hab]
              .ext e'
            .ext e'
          .ext e'
        . have hi':i=xs.length:=()
          subst hi';rw[List.drop_length]at e';erw[BK]at e';cbv at e'
          . intros hgd
            ext e';let(_,stop):=it L' H' _ s' c' hgd;refine .inl #[stop,Ab hys hz,λp hp=>?_];rw[BI]at hab;subst hab;exact q L' _ _ ((s1.trans s').trans (.upd hp)) (c'.upd hp) (zX.newLst (s1.trans s') c c' hp r')
          .ext e'
      .ext hf
    .ext hf
  .ext hf
structure QIfs(X:Cx)(ifs:Yi)(f:FT):Prop where
  un:DV X ifs (trT X.K f)
def zc:FT:=λ_ M=>some (true,M)
def nA:QIfs X [] zc:=.mk λzB s Y H Q I h=>by
  let(L,Y',M,d,M',c,rs,hf,q):=h;erw[zc]at hf;ext hf;calc sC zB s Y H Q I (q L H (.refl L H) c)
def WJ{f:FT}(h:QT X c f):QIfs X [c] f:=.mk (p7 h.un)
/-- the parts of a comprehension in its block -/
structure QParts(X:Cx)(scope:Y0)(tg:Expr)(ifs:Yi)(elt:Expr)(g:TG)(tc:FT)(te:FE):Prop where
  g:∀zB cl s H fp,PG (zK X zB scope cl s H fp) tg g
  c:∀zB cl s H fp,QIfs (zK X zB scope cl s H fp) ifs tc
  e:∀zB cl s H fp,QE (zK X zB scope cl s H fp) elt te
def QParts.parts{g:TG}{tc:FT}{te:FE}(p:QParts X scope tg ifs elt g tc te):CompParts X scope tg ifs elt g (trT X.K tc) (trD X.K (toD te)) :=
  #[p.g,λzB cl s H fp=>(p.c zB cl s H fp).un,λzB cl s H fp=>(BL (p.e zB cl s H fp)).un]
def K3{own:Yj}{fi:FI}{g:TG}{fg:FG}{tc:FT}{te:FE}(hg:Cf own g fg)(C:CompIn X scope own)(hcalm:X.calm=true)(hi:QI X tg iter fi)(p:QParts X scope tg ifs elt g tc te)(hs:∀x,foldedSetIterable iter X.env x=pure x:=by intro _;rfl):
    QE X (.ListComp elt [#[tg,iter,ifs,0]] scope pos) (zu own fi fg tc te):=.mk <| PE.imp (nG C hcalm hi.un p.parts hs) λ_ _ _ h=>UD hg h
def XD{i:Nat}{x:Str}{pos' pos'':Pos}{own:Yj}{fi:FI}{g:TG}{fg:FG}{tc:FT}{te:FE}(hN:X.N.Nodup)(hi':X.N[i]?=some x)(hx:Loc X.env.scope x)(hfn:X.fn x=true\/X.env.scope.names.lookup x=some .local)
    (hsw:swapsWith (.ListComp elt [#[tg,iter,ifs,0]] scope pos) (some (.Name x pos')) pos''.line X.env=pure true)
    (hg:Cf own g fg) (C:CompIn X scope own) (hcalm:X.calm=true) (hi:QI X tg iter fi) (p:QParts X scope tg ifs elt g tc te) (hs:∀x,foldedSetIterable iter X.env x=pure x:=by intro _;rfl):
    QS X (.Assign [.Name x pos'] (.ListComp elt [#[tg,iter,ifs,0]] scope pos) pos'') (zw i (zu own fi fg tc te)) := 
  .mk <| PS.imp (X8 hN hi' hx hfn C hcalm hi.un p.parts hsw hs) λ_ _ _ z=>MR (λ_ _ _ z=>UD hg z) z
end
abbrev FF:=List D->Mem->Option (D×Mem)
def spF(K:Yb)(n:Nat)(g:FF):Sp:=λvs H Q _=>∃L ds M d M',Cor K L M H/\zH L H ds vs/\ds.length=n/\g ds M=some (d,M')/\∀L' H' v,Stp L H L' H'->Cor K L' M' H'->Rep L' H' d v->Q v H'
def zP(g:FF)(fa:FA):FE:=λY M=>match fa Y M with
 |some (ds,M1)=>match g ds M1 with
  |some (d,M2)=>some (.dat d,M2)
  |none=>none
 |none=>none
section
variable{X:Cx}{e:Expr}{es:Yi}{pos p:Pos}{x:Str}{k:Nat}{f:Yt}{fd:Yz}{ps:Yk}
def Xc(F:FnOk X.prog X.w X.K X.mg X.base CX0 k f fd ps (spF X.K (e::es).length g))(hr:Room k X.A)(hg:Gl X x)(hm:X.mg x=some (.ref f))(hk:PySem.W.keepIn X.K (.ref f)=true)(hb:Eo X.K fd ps [])
  (ha:QA X (e::es) fa) (hl:∀Y M ds M1,fa Y M=some (ds,M1)->ds.length=(e::es).length) (hdb:(x==("__debug__" : Str))=false:=by decide) (he:starEach (e::es) X.env=(false,eval e X.env)::starEach es X.env:=by rfl) (hpl:(backTo pos (starEach es X.env)).any (·.1)=false:=by rfl):
  QE X (.Call (.Name x p) (e::es) [] pos) (zP g fa) :=
 .mk <| PE.imp (aS F hr hg hm hk hb .nil Qy ha.un hdb he hpl) λτ H Q zz=>by
  let(L,Y,M,d,M',c,rs,hf,q):=zz;erw[zP]at hf;cbv at hf
  .intros ds M1 e1;cbv at hf
   .intros d' M2 e2;ext hf;refine#[L,Y,M,_,_,c,rs,e1,λL1 H1 vs s1 c1 r1=>?_];symm;rw[BI];exact#[L1,ds,M1,d',_,c1,r1,hl _ _ _ _ e1,e2,λL2 H2 v s2 c2 r2=>q L2 H2 v (s1.trans s2) c2 r2]
   .ext hf
  .ext hf
def GZ(fa:FA)(n:Nat):Prop:=∀Y M ds M1,fa Y M=some (ds,M1)->ds.length=n
def JF:GZ zG 0:=λY M ds M1 h=>by erw[zG]at h;ext h;rfl
def HH{f:FD}{g:FA}{n:Nat}(h:GZ g n):GZ (zD f g) (n+1):=λY M ds M1 q=>by
 erw[zD]at q;cbv at q
 .split at q
  .intros e2;ext q;simp[h _ _ _ _ e2]
  .ext q
 .ext q
def AV(n:Nat)(b:FS):FF:=λds M=>match b (ds.map some++List.replicate (n-ds.length) none) M with
 |some (.ret d,_,M')=>some (d,M')
 |some (.nx,_,M')=>some (.non,M')
 |_=>none
def KC:∀{ds:List D}{vs:List V},zH L H ds vs->Aj L H (ds.map some++List.replicate (N.length-ds.length) none) (L2.ES N vs):=λ{ds vs} r=>by
 erw[L2.ES];let hl:=r.length;refine#[by simp[hl],λi d q=>?_];by_cases hi:i<ds.length
 .rw[AM (~~~hi),Au]at q;rw[AM (by simpa [hl]using hi),Au];cases e1:ds[i]? with
  |none=>rw[e1]at q;ext q
  |some d'=>
   rw[e1]at q;ext q;let(v,e2,r2):=r.get e1;exact#[v,by rw[e2];rfl,r2]
 .rw[CV (~~~hi),List.getElem?_replicate]at q;split at q <;> ext q
def zj{P:Ym}{w:Yo}{K:Yb}{mg:Yh}{base:Heap}{qual:Str}{st:Stmt}{N:Yk}{b:FS}{n:Nat}(F:Fun K x qual st f fd)(S:FnScope N ps (zI st))(hn:ps.length=n)
  (hb:∀(cdv:Yu)(A:Yn)(outer:List Env)(s:Yl)(H:Hp)(E:XK),Room k (A.deeper (envOfC qual (zI st) ⇑s f cdv))->QSs (Ff CX0 P w K mg base N qual (zI st) f cdv A outer s H E).nox (Ec st) b):
  FnOk P w K mg base CX0 (k+1) f fd ps (spF K n (AV N.length b)):=by
 refine F.ok S (λvs H Q E h=>?_) (λcdv A outer s H vs Q E hr h=>#[_,(hb cdv A outer s H E hr).un,?_])
 .obtain⟨L,ds,M,d,M',c,r,hl,_⟩:=h;rw[r.length,hl,hn]
 .obtain⟨L,ds,M,d,M',c,r,hl,hf,q⟩:=h;erw[AV]at hf;cbv at hf
  .intros d' Y' M1 e1;ext hf;exact#[L,_,M,_,_,_,c,KC r,e1,λL1 H1 s1 c1 v r1=>q L1 H1 v s1 c1 r1]
  .intros Y' M1 e1;ext hf;exact#[L,_,M,_,_,_,c,KC r,e1,λL1 H1 s1 c1 τ' r1=>q L1 H1 .non s1 c1 (by erw[Rep];rfl)]
  .ext hf
mutual
def D.und(n:Nat):D->Bool
 |.tup ds=>D.unds n ds
 |.ref k=>decide (k<n)
 |.fn _ ds=>D.unds n ds
 |_=>true
def D.unds(n:Nat):List D->Bool
 |[]=>true
 |d::ds=>D.und n d&&D.unds n ds
end
mutual
theorem Rep.less:∀{d:D}{v:V},D.und L.length d=true->Rep (L++N) H d v->Rep L H d v
 |.non,_,_,h=>by unfold Rep at h ⊢;calc h
 |.bl _,_,_,h=>by unfold Rep at h ⊢;calc h
 |.int _,_,_,h=>by unfold Rep at h ⊢;calc h
 |.str _,_,_,h=>by unfold Rep at h ⊢;calc h
 |.tup ds,_,hb,h=>by
  erw[D.und]at hb;unfold Rep at h ⊢;let(a,vs,rfl,e,r):=h;calc#[a,vs,rfl,e,zH.less hb r]
 |.ref n,_,hb,h=>by
  erw[D.und]at hb;unfold Rep at h ⊢;let(a,rfl,e):=h;calc#[a,rfl,by rwa [AM (Cs hb)]at e]
 |.fn _ ds,_,hb,h=>by
  erw[D.und]at hb;unfold Rep at h ⊢;calc#[h.1,h.2.1,zH.less hb h.2.2]
theorem zH.less:∀{ds:List D}{vs:List V},D.unds L.length ds=true->zH (L++N) H ds vs->zH L H ds vs
 |[],_,_,h=>by unfold zH at h ⊢;calc h
 |d::ds,_,hb,h=>by
  erw[D.unds]at hb;rw[BB]at hb;unfold zH at h ⊢;let(v,r,rfl,h1,h2):=h;calc#[v,r,rfl,Rep.less hb.1 h1,zH.less hb.2 h2]
end
def AY.less{κ:Type}{kf:D->Option κ}{L N:Yg}{H:Hp}:∀{ps:List (D×D)}{vs:List (κ×V)},(ps.all λp=>D.und L.length p.1&&D.und L.length p.2)=true->AY kf (L++N) H ps vs->AY kf L H ps vs
 |[],_,_,h=>h
 |p::r,_,hb,h=>by
  rw[List.all_cons,BB,BB]at hb;let(k,v,r',rfl,e,h1,h2):=h;calc#[k,v,r',rfl,e,Rep.less hb.1.2 h1,AY.less hb.2 h2]
def MO.und(n:Nat):MO->Bool
 |.lst xs=>D.unds n xs
 |.fro xs=>D.unds n xs
 |.dict kvs=>kvs.all λp=>D.und n p.1&&D.und n p.2
 |.dicT kvs=>kvs.all λp=>D.und n p.1&&D.und n p.2
 |.set xs=>D.unds n xs
 |.froT kvs=>kvs.all λp=>D.und n p.1&&D.und n p.2
 |.froK kvs=>kvs.all λp=>D.und n p.1&&D.und n p.2
def F8(g:FF):FF:=λds M=>match g ds M with
 |some (d,M')=>if D.und M.length d&&(M'.take M.length).all (MO.und M.length)&&decide (M.length<=M'.length)then some (d,M'.take M.length)else none
 |none=>none
def Lf{P:Ym}{w:Yo}{K:Yb}{mg:Yh}{base:Heap}{n:Nat}{g:FF}(h:FnOk P w K mg base CX0 k f fd ps (spF K n g)):FnOk P w K mg base CX0 k f fd ps (spF K n (F8 g)) :=
 h.imp λvs H Q E ⟨L,ds,M,d,M',c,r,hl,hf,q⟩=>by
  erw[F8]at hf;cbv at hf
  .intros d' M1 e1;cbv at hf
   .intros hb;ext hf;simp only[BB,DM,Am]at hb;let((hb1,hb2),hb3):=hb;refine#[L,ds,M,_,_,c,r,hl,e1,λL1 H1 v s1 c1 r1=>?_];let(N,rfl):=s1.pre;rw[<-c.len]at hb1 hb2 hb3;refine q L H1 v #[#[[],by simp],λa ha=> .inl ha,s1.old,s1.tup,s1.frz,s1.tbl] #[?_,?_,λi a m e2 e3=>?_,c1.tab] (Rep.less hb1 r1)
    .rw[D4,<-c.len];omega
    .exact(DN.mp c1.nd).1
    .rw[<-c.len]at e3;let hi:i<L.length:=(AI.mp e2).1;let hm:m∈M1.take L.length:=Ca e3;rw[List.getElem?_take_of_lt hi]at e3;let z:=c1.obj i a m (Dz e2) e3;let bl:=hb2 m hm;cases m with
     |lst xs=>let(ws,e4,r4):=z;calc#[ws,e4,zH.less bl r4]
     |fro xs=>let(o,ws,e4,r4):=z;calc#[o,ws,e4,zH.less bl r4]
     |dict ps=>let(vs,e,r):=z;calc#[vs,e,AY.less bl r]
     |dicT ps=>let(vs,e,r):=z;calc#[vs,e,AY.less bl r]
     |set _=>calc z
     |froT ps=>let(o,vs,e,r):=z;calc#[o,vs,e,AY.less bl r]
     |froK ps=>let(o,vs,e,r):=z;exact#[o,vs,e,AY.less bl r]
   .ext hf
  .ext hf
def DY(g:FF):FF:=λds M=>if D.unds 0 ds then match g ds []with
  |some (d,_)=>if D.und 0 d then some (d,M)else none
  |none=>none
 else none
def GG{P:Ym}{w:Yo}{K:Yb}{mg:Yh}{base:Heap}{n:Nat}{g:FF}(h:FnOk P w K mg base CX0 k f fd ps (spF K n g)):FnOk P w K mg base CX0 k f fd ps (spF K n (DY g)) :=
 h.imp λvs H Q E ⟨L,ds,M,d,M',c,r,hl,hf,q⟩=>by
  erw[DY]at hf;cbv at hf
  .intros hb0;cbv at hf
   .intros d' M1 e1;cbv at hf
    .intros hb;ext hf;refine#[[],ds,[],_,_,#[rfl,.nil,λi a m e=>by simp at e,c.tab],zH.less (L:=[]) (N:=L) hb0 (~~~r),hl,e1,λL1 H1 v s1 c1 r1=>?_];exact q L H1 v s1.bare (c.bare s1) ((Rep.less (L:=[]) (N:=L1) hb (~~~r1)).more L |>λz=>by simpa using z)
    .ext hf
   .ext hf
  .ext hf
def VJ(hl:PE X l tl):PI X tg l (λY H R=>tl Y H λx H1=>∃a,x=.ref a/\((∃xs,SqL X.K H1 a xs)/\R (Itl X.K a) H1\/(∃xs,SqT X.K H1 a xs)/\R (Itt X.K a) H1)):=by
 intro zB s Y H R I h;refine thn (hl zB s Y H _ I h) λv s1 ⟨y,H1,I1,r1,a,hy,h1⟩=>?_;subst hy;ext r1;let fpk:∀b∈[⇑s1],BN X zB H1 b:=λb hb=>by
  let e:b=⇑s1:=by simpa using hb
  subst e;exact I1.fpOk (AF _) (I1.hok.fresh (AF _))
 rcases h1 with⟨⟨xs,hq⟩,q⟩|⟨⟨xs,hq⟩,q⟩
 .obtain⟨its,rv,pl,hz⟩:=I1.list hq;exact wpAny_pyIter_list pl.isList #[⇑s1,[⇑s1],_,_,H1,rfl,I1.kept (t':=s1.toks) λb o e=>AJ _ e,VI a _,#[_,AS _ rfl,rfl,rfl],fpk,q]
 .obtain⟨its,rv,pl,hz⟩:=I1.tuple hq;calc wpAny_pyIter_tuple (show s1.heap.IsTuple a its.toArray from pl) #[⇑s1,[⇑s1],_,_,H1,rfl,I1.kept (t':=s1.toks) λb o e=>AJ _ e,Wc a _,#[_,AS _ rfl,rfl,rfl],fpk,q]
def CQ(x:EV)(xs:List D):Option (Mem->Prop):=match x with
 |.dat (.ref n)=>some λM=>M[n]?=some (.lst xs)\/M[n]?=some (.fro xs)
 |_=>none
def AN(f:FE):FI:=λY M=>match f Y M with
 |some (x,M1)=>match A7 M1 x with
  |some xs=>some (xs,CQ x xs,M1)
  |none=>none
 |none=>none
def BJ(f:FA):FI:=λY M=>match f Y M with
 |some ([.int j],M1)=>if -(2 ^ 62)<=j/\j<2 ^ 62 then some ((List.range j.toNat).map λ(k:Nat)=>D.int k,none,M1)else none
 |some ([.int i,.int j],M1)=>if -(2 ^ 62)<=i/\i<2 ^ 62 /\ -(2 ^ 62)<=j/\j<2 ^ 62 then some ((List.range (j-i).toNat).map λ(k:Nat)=>D.int (i+k),none,M1)else none
 |_=>none
def Zz(h:QE X e g):QI X tg e (AN g):=.mk <| PI.imp (VJ h.un) λτ H R zz=>by
 let(L,Y,M,xs,gd,M',c,rs,hf,q):=zz;erw[AN]at hf;cbv at hf
 .intros y M1 e1;cbv at hf
  .intros zs e2;ext hf;refine(mkE c rs e1 (λL1 H1 v s1 c1 r1=>?_));erw[A7]at e2;cases t:Cc y with
   |some ws=>
    rw[t]at e2;ext e2;let(a,vs,rfl,e3,r3):=D7 r1 t;refine#[a,rfl,.inr #[#[vs,.of e3],q L1 H1 _ s1 c1 λL2 H2 M2 s2 c2 _=>?_]];let e4:=s2.tup a vs e3;let r4:=r3.stp s2;refine#[λi d hd=>?_,#[vs,.of e4,by rw[r4.length];calc AF _]];let(u,hu,ru):=r4.get hd;refine#[#[vs,u,.of e4,hu],λv H3 ⟨hH,hv⟩=>?_];subst hH;have:=hv vs (.of e4);rw[hu]at this;ext this;exact#[λ_ _ z=>z,ru]
   |none=>
    rw[t]at e2;dsimp only at e2;let(a,vs,rfl,e3,r3):=Cm c1 r1 e2;refine#[a,rfl,.inl #[#[vs,.inl e3],q L1 H1 _ s1 c1 λL2 H2 M2 s2 c2 hgd=>?_]];let key:∃vs',SqL X.K H2 a vs'/\zH L2 H2 xs vs':=by
     cases y with
     |fl ys=>
      ext e2;let(p',vs',hp',_,e5,e6,r6):=r1;ext hp';calc#[vs',.of (s2.old _ _ e5 e6 (by intro _ z;ext z)),r6.stp s2]
     |dat d=>
      cases d with
      |ref n=>
       erw[zX,Rep]at r1;let(a',ha',e5):=r1;ext ha';let e6:L2[n]?=some a:=by let(N,hN):=s2.pre;rw[hN];exact Dz e5
       rcases hgd with z|z
       .obtain⟨vs',e7,r7⟩:=c2.obj n a _ e6 z;exact#[vs',.of e7,r7]
       .obtain⟨o,vs',e7,r7⟩:=c2.obj n a _ e6 z;calc#[vs',.inl (.inr #[o,e7]),r7]
      |_=>ext e2
    let(vs',hq,r7):=key;refine#[λi d hd=>?_,#[vs',hq,by rw[r7.length];calc AF _]];let(u,hu,ru):=r7.get hd;refine#[#[vs',u,hq,hu],λv H3 ⟨hH,hv⟩=>?_];subst hH;have:=hv vs' hq;rw[hu]at this;ext this;exact#[λ_ _ z=>z,ru]
  .ext hf
 .ext hf
def TX(h:zH L H [.int j] vs):vs=[.int j]:=by
 erw[zH]at h;let(v,r,rfl,h1,h2):=h;erw[zH]at h2;erw[Rep]at h1;subst h1 h2;rfl
def YD{K:Yb}{L:Yg}{H:Hp}{lo:Int}{n:Nat}:ME K (Itr lo n) L H ((List.range n).map λ(k:Nat)=>D.int (lo+k)) none:=by
 intro L' H' M' s c _;refine#[λi d hd=>?_,by simp[Itr]];rw[Au]at hd;cases q:(List.range n)[i]? with
 |none=>rw[q]at hd;ext hd
 |some k=>
  rw[q]at hd;ext hd;let hi:i<n:=by have:=(AI.mp q).1;simpa using this
  rw[List.getElem?_range hi]at q;ext q;refine#[hi,λv H'' ⟨hH,hv⟩=>?_];subst hH hv;calc#[λ_ _ z=>z,By]
def gM{tg a:Expr}{g:FA}(hg:Gl X "range")(hm:X.mg "range" = none)(ha:QA X [a] g)(hl:GZ g 1)(hs:starEach [a] X.env=[(false,eval a X.env)]:=by rfl):QI X tg (.Call (.Name "range" p) [a] [] pos) (BJ g) :=
 .mk <| PI.imp (Xm hg hm ha.un hs) λτ H R zz=>by
  let(L,Y,M,xs,gd,M',c,rs,hf,q):=zz;erw[BJ]at hf;cbv at hf
  .intros j M1 e1;cbv at hf
   .intros hb;ext hf;refine(mkA c rs e1 (λL1 H1 vs s1 c1 r1=>#[j,TX r1,hb.1,hb.2,q L1 H1 _ s1 c1 ?_]));let z:=YD (K:=X.K) (L:=L1) (H:=H1) (lo:=0) (n:=j.toNat);simpa using z
   .ext hf
  .intros e1;have:=hl _ _ _ _ e1;simp at this
  .ext hf
end
section
variable{X:Cx}{a b c e:Expr}{es rest:Yi}{pos p apos cpos:Pos}
def Cb(f g:FT):FT:=λY M=>match f Y M with
 |some (true,M1)=>g Y M1
 |r=>r
def Bl(f g:FT):FT:=λY M=>match f Y M with
 |some (false,M1)=>g Y M1
 |r=>r
def C1(f:FT):FT:=λY M=>match f Y M with
 |some (k,M1)=>some (!k,M1)
 |none=>none
structure QW(X:Cx)(e:Expr)(f:FT):Prop where
 un:PW X e (trT X.K f)
def PW.imp(h:PW X e t)(hi:∀τ H Q,t' τ H Q->t τ H Q):PW X e t':=λwh zB s Y H Q I q=>h wh zB s Y H Q I (hi _ _ _ q)
def Uy(h:QT X a f):QW X (.BoolOp .And [a] pos) f:=.mk (Vi h.un)
def qJ(h:QT X a f):QW X (.BoolOp .Or [a] pos) f:=.mk (Wb h.un)
def dO(h1:QT X a f)(h2:QW X (.BoolOp .And (b::rest) pos) g):QW X (.BoolOp .And (a::b::rest) pos) (Cb f g):=.mk <| PW.imp (dA h1.un h2.un) λτ H Q zz=>by
 let(L,Y,M,d,M',c,rs,hf,q):=zz;erw[Cb]at hf;cbv at hf
 .intros M1 e1;exact(mkT c rs e1 (λL1 H1 s1 c1=>Di (mkT c1 (rs.stp s1) hf (λL2 H2 s2 c2=>q L2 H2 (s1.trans s2) c2))))
 .intros hne;cases d with
  |true=>calc absurd hf (hne M')
  |false=>calc(mkT c rs hf (λL1 H1 s1 c1=>DX (q L1 H1 s1 c1)))
def PJ(h1:QT X a f)(h2:QW X (.BoolOp .Or (b::rest) pos) g):QW X (.BoolOp .Or (a::b::rest) pos) (Bl f g):=.mk <| PW.imp (Zp h1.un h2.un) λτ H Q zz=>by
 let(L,Y,M,d,M',c,rs,hf,q):=zz;erw[Bl]at hf;cbv at hf
 .intros M1 e1;exact(mkT c rs e1 (λL1 H1 s1 c1=>DX (mkT c1 (rs.stp s1) hf (λL2 H2 s2 c2=>q L2 H2 (s1.trans s2) c2))))
 .intros hne;cases d with
  |false=>calc absurd hf (hne M')
  |true=>calc(mkT c rs hf (λL1 H1 s1 c1=>Di (q L1 H1 s1 c1)))
def QL(h:QW X e f):QT X e f:=.mk (PW.pt h.un)
def cG(h:QT X a f):QT X (.UnaryOp .Not a pos) (C1 f):=.mk <| PT.imp (Z3 h.un) λτ H Q zz=>by
 let(L,Y,M,d,M',c,rs,hf,q):=zz;erw[C1]at hf;cbv at hf
 .intros k M1 e1;ext hf;exact(mkT c rs e1 (λL1 H1 s1 c1=>q L1 H1 s1 c1))
 .ext hf
def Co(f g:FE):FE:=λY M=>match f Y M with
 |some (.dat (.bl true),M1)=>g Y M1
 |some (.dat (.bl false),M1)=>some (.dat (.bl false),M1)
 |_=>none
def FY(f:FE):FE:=λY M=>match f Y M with
 |some (.dat (.bl k),M1)=>some (.dat (.bl (!k)),M1)
 |_=>none
def Fj(h:zX H0 L H (.dat (.bl k)) v):v=.bl k:=by erw[zX,Rep]at h;calc h
def aG{op}(h:QE X a f):QE X (.BoolOp op [a] pos) f:=.mk (lG h.un)
def qO(h1:QE X a f)(h2:QE X (.BoolOp .And (b::rest) pos) g):QE X (.BoolOp .And (a::b::rest) pos) (Co f g):=.mk <| PE.imp (V8 h1.un h2.un) λτ H Q zz=>by
 let(L,Y,M,d,M',c,rs,hf,q):=zz;erw[Co]at hf;cbv at hf
 .intros M1 e1;exact(mkE c rs e1 (λL1 H1 v s1 c1 r1=>#[true,Fj r1,Di (mkE c1 (rs.stp s1) hf (λL2 H2 w s2 c2 r2=>q L2 H2 w (s1.trans s2) c2 (r2.back s1 c s2.sub)))]))
 .intros M1 e1;ext hf;exact(mkE c rs e1 (λL1 H1 v s1 c1 r1=>#[false,Fj r1,DX (q L1 H1 _ s1 c1 (by have:=Fj r1;subst this;calc r1))]))
 .ext hf
def mV(h:QE X a f):QE X (.UnaryOp .Not a pos) (FY f):=.mk <| PE.imp (mW h.un) λτ H Q zz=>by
 let(L,Y,M,d,M',c,rs,hf,q):=zz;erw[FY]at hf;cbv at hf
 .intros k M1 e1;ext hf;exact(mkE c rs e1 (λL1 H1 v s1 c1 r1=>#[k,Fj r1,q L1 H1 _ s1 c1 (by erw[zX,Rep];rfl)]))
 .ext hf
def vIf(t:FT)(f g:FE):FE:=λY M=>match t Y M with
 |some (true,M1)=>f Y M1
 |some (false,M1)=>g Y M1
 |none=>none
def VP(hc:QT X c t)(h1:QE X a f)(h2:QE X b g):QE X (.IfExp c a b pos) (vIf t f g):=.mk <| PE.imp (mY hc.un h1.un h2.un) λτ H Q zz=>by
 let(L,Y,M,d,M',c,rs,hf,q):=zz;erw[vIf]at hf;cbv at hf
 .intros M1 e1;exact(mkT c rs e1 (λL1 H1 s1 c1=>Di (mkE c1 (rs.stp s1) hf (λL2 H2 w s2 c2 r2=>q L2 H2 w (s1.trans s2) c2 (r2.back s1 c s2.sub)))))
 .intros M1 e1;exact(mkT c rs e1 (λL1 H1 s1 c1=>DX (mkE c1 (rs.stp s1) hf (λL2 H2 w s2 c2 r2=>q L2 H2 w (s1.trans s2) c2 (r2.back s1 c s2.sub)))))
 .ext hf
abbrev KM:=EV->List D->Mem->Option (D×Mem)
def fM(k:KM)(f:FE)(g:FA):FE:=λY M=>match f Y M with
 |some (x,M1)=>match Bb M1 x with
  |some _=>match g Y M1 with
   |some (ds,M2)=>match k x ds M2 with
    |some (d,M3)=>some (.dat d,M3)
    |none=>none
   |none=>none
  |none=>none
 |none=>none
def JT(K:Yb)(r:V->List V->Hp->VK->Prop)(k:KM):Prop:=∀{L:Yg}{M M':Mem}{H H0:Hp}{x:EV}{ds:List D}{d:D}{v:V}{vs:List V}{Q:VK},Cor K L M H->zX H0 L H x v->zH L H ds vs->k x ds M=some (d,M') ->
 (∀L' H' u,Stp L H L' H'->Cor K L' M' H'->Rep L' H' d u->Q u H')->r v vs H Q
def Jz{K:PySem.W.Frag}{r:V->List V->Hp->VK->Prop}{k:KM}{f:FE}{g:FA}(hk:JT K r k){τ:Sv}{H:Hp}{Q:VK}(h:trE K (fM k f g) τ H Q):tBM K "list" r (trE K f) (trA K g) τ H Q:=by
 let(L,Y,M,d,M',c,rs,hf,q):=h;erw[fM]at hf;cbv at hf
 .intros x M1 e1;cbv at hf
  .intros xs e2;cbv at hf
   .intros ds M2 e3;cbv at hf
    .intros d' M3 e4;ext hf;refine(mkE c rs e1 (λL1 H1 v s1 c1 r1=>?_));let(a,vs,rfl,e5,r5):=Cm c1 r1 e2;refine#[.inl #[rfl,vs,.inl e5],L1,Y,M1,_,_,c1,rs.stp s1,e3,λL2 H2 ws s2 c2 r2=>?_];exact hk c2 (r1.stp s2) r2 e4 λL3 H3 u s3 c3 r3=>q L3 H3 u ((s1.trans s2).trans s3) c3 r3
    .ext hf
   .ext hf
  .ext hf
 .ext hf
def CL:KM:=λx ds M=>match x,ds with
 |.dat (.ref n),[d]=>match M[n]? with
  |some (.lst xs)=>if xs.length<sizeLine then some (.non,M.set n (.lst (xs++[d])))else none
  |_=>none
 |_,_=>none
def zH.one(h:zH L H [d] vs):∃v,vs=[v]/\Rep L H d v:=by
 erw[zH]at h;let(v,r,rfl,h1,h2):=h;erw[zH]at h2;subst h2;calc#[v,rfl,h1]
def Xe{K:Yb}:JT K Tv CL:=by
 intro L M M' H H0 x ds d v vs Q c rx rd hk q;erw[CL]at hk;cbv at hk
 .intros n d';cbv at hk
  .intros xs e1;cbv at hk
   .intros hz;ext hk;erw[zX,Rep]at rx;let(a,rfl,e2):=rx;let(ws,e3,r3):=c.obj n a _ e2 e1;let(w,rfl,r4):=rd.one;let(c5,s5):=c.write e2 e1 (r3.app (.cons r4 .nil));exact#[a,ws,w,rfl,rfl,e3,by rw[r3.length];calc hz,q L _ _ s5 c5 (by erw[Rep];rfl)]
   .ext hk
  .ext hk
 .ext hk
def mB(h:QE X a f)(hg:QA X [e] g)(hbase:attributeBase a "append" X.env (eval a X.env)=eval a X.env:=by rfl)
  (hfew:((backTo cpos (starEach [e] X.env)).all (λx=> !x.1)&&(backToKw cpos (keywordEach [] X.env)).all (λx=>x.1.isSome)&&decide ([e].length+([]:List Keyword).length+(if([]:List Keyword).isEmpty then 0 else 1)<30))=true:=by rfl)
  (hline:(apos.endLine==cpos.line)=true:=by rfl) (hs:starEach [e] X.env=(false,eval e X.env)::starEach [] X.env:=by rfl) (hplain:(backTo cpos (starEach [] X.env)).any (·.1)=false:=by rfl):
  QE X (.Call (.Attribute a "append" apos) [e] [] cpos) (fM CL f g) :=
 .mk <| PE.imp (Jk PySem.F.plainAttrs_list PySem.F.slot_list_append PySem.F.type_list_append dI h.un hg.un hbase hfew hline hs hplain) λ_ _ _ z=>Jz Xe z
def F1:KM:=λx ds M=>match x,ds with
 |.dat (.ref n),[.int i]=>match M[n]? with
  |some (.lst xs)=>match ixN xs.length i with
   |some k=>match xs[k]? with
    |some d=>if -(2 ^ 63)<=i/\i<2 ^ 63 then some (d,M.set n (.lst (xs.eraseIdx k)))else none
    |none=>none
   |none=>none
  |_=>none
 |_,_=>none
def lF{K:Yb}:JT K UT F1:=by
 intro L M M' H H0 x ds d v vs Q c rx rd hk q;erw[F1]at hk;cbv at hk
 .intros n i;cbv at hk
  .intros xs e1;cbv at hk
   .intros k e2;cbv at hk
    .intros d' e3;cbv at hk
     .intros hb;ext hk;erw[zX,Rep]at rx;let(a,rfl,e4):=rx;let(ws,e5,r5):=c.obj n a _ e4 e1;let(u,e6,r6):=r5.get e3;let(c5,s5):=c.write e4 e1 (r5.eraseIdx k);exact#[a,ws,i,k,u,rfl,TX rd,e5,hb.1,hb.2,by rw[r5.length];calc(LW e2).1,e6,q L _ _ s5 c5 (r6.stp s5)]
     .ext hk
    .ext hk
   .ext hk
  .ext hk
 .ext hk
def Wi(h:QE X a f)(hg:QA X [e] g)(hbase:attributeBase a "pop" X.env (eval a X.env)=eval a X.env:=by rfl)
  (hfew:((backTo cpos (starEach [e] X.env)).all (λx=> !x.1)&&(backToKw cpos (keywordEach [] X.env)).all (λx=>x.1.isSome)&&decide ([e].length+([]:List Keyword).length+(if([]:List Keyword).isEmpty then 0 else 1)<30))=true:=by rfl)
  (hline:(apos.endLine==cpos.line)=true:=by rfl) (hs:starEach [e] X.env=(false,eval e X.env)::starEach [] X.env:=by rfl) (hplain:(backTo cpos (starEach [] X.env)).any (·.1)=false:=by rfl):
  QE X (.Call (.Attribute a "pop" apos) [e] [] cpos) (fM F1 f g) :=
 .mk <| PE.imp (Jk PySem.F.plainAttrs_list PySem.F.slot_list_pop PySem.F.type_list_pop Xy h.un hg.un hbase hfew hline hs hplain) λ_ _ _ z=>Jz lF z
def JA(x:EV)(i:D)(d:D)(M:Mem):Option Mem:=match x,i with
 |.dat (.ref n),.int i=>match M[n]? with
  |some (.lst xs)=>match ixN xs.length i with
   |some j=>some (M.set n (.lst (xs.set j d)))
   |none=>none
  |_=>none
 |_,_=>none
def Gm(fv fo fi:FE):FS:=λY M=>match toD fv Y M with
 |some (d,M1)=>match fo Y M1 with
  |some (x,M2)=>match toD fi Y M2 with
   |some (i,M3)=>match JA x i d M3 with
    |some M4=>some (.nx,Y,M4)
    |none=>none
   |none=>none
  |none=>none
 |none=>none
def eZ(hv:QE X v fv)(ho:QE X o fo)(hi:QE X i fi)
  (ha:∀v,assign (.Subscript o i p) X.env v=(do
   let ov <- holding [v] (eval o X.env);let iv <- holding [v,ov] (eval i X.env);standAt p;holding [v,ov,iv] (setItem ov iv v);release [v,ov,iv] []):=by intro _;rfl)
  (hs:swapsWithSole [.Subscript o i p] v pos.line X.env=pure false:=by rfl) (hw:swappedStores [.Subscript o i p] v X.env=pure none:=by rfl) (h1:(assignEach [.Subscript o i p] X.env).map (·.2)=[assign (.Subscript o i p) X.env]:=by rfl):
  QS X (.Assign [.Subscript o i p] v pos) (Gm fv fo fi):=.mk <| PS.imp (gB (BL hv).un (aY ho.un (BL hi).un eQ ha) hs hw h1) λE τ H zz=>by
 let(L,Y,M,out,Y',M',c,rs,hf,q):=zz;erw[Gm]at hf;cbv at hf
 .intros d M1 e1;cbv at hf
  .intros x M2 e2;cbv at hf
   .intros j M3 e3;cbv at hf
    .intros M4 e4;ext hf;refine#[L,Y,M,_,_,c,rs,e1,λL1 H1 u s1 c1 r1=>#[L1,Y,M1,_,_,c1,rs.stp s1,e2,λL2 H2 w s2 c2 r2=>#[L2,Y,M2,_,_,c2,rs.stp (s1.trans s2),e3,λL3 H3 z s3 c3 r3=>?_]]];let st:=(s1.trans s2).trans s3;erw[JA]at e4;cbv at e4
     .intros n k;cbv at e4
      .intros xs e5;cbv at e4
       .intros m e6;ext e4;let r2':=r2.stp s3;erw[zX,Rep]at r2';let(a,rfl,e7):=r2';let(ws,e8,r8):=c3.obj n a _ e7 e5;let(c9,s9):=c3.write e7 e5 (zH.set ((r1.stp s2).stp s3) m r8);exact#[a,ws,k,m,rfl,by erw[Rep]at r3;calc r3,e8,by rw[r8.length];calc e6,q L3 _ (st.trans s9) c9 τ ((rs.stp st).stp s9)]
       .ext e4
      .ext e4
     .ext e4
    .ext hf
   .ext hf
  .ext hf
 .ext hf
def HB:D->Option V
 |.non=>some .non
 |.bl k=>some (.bl k)
 |.int i=>some (.int i)
 |.str x=>some (.str x)
 |_=>none
def LC(h:Rep L H d v)(e:HB d=some u):v=u:=by
 cases d with
 |non=>ext e;erw[Rep]at h;calc h
 |bl _=>ext e;erw[Rep]at h;calc h
 |int _=>ext e;erw[Rep]at h;calc h
 |str _=>ext e;erw[Rep]at h;calc h
 |tup _=>ext e
 |ref _=>ext e
 |fn _ _=>ext e
def Gd(neg:Bool):K2:=λx y M=>match x,y with
 |.dat d,.dat d'=>match HB d,HB d' with
  |some u,some w=>if Kj u w then some (.dat (.bl (if neg then !decide (u=w)else decide (u=w))),M)else none
  |_,_=>none
 |_,_=>none
def Sn(h:Gd neg x y M=some (r,M')):∃d d' u w,x=.dat d/\y=.dat d'/\HB d=some u/\HB d'=some w/\Kj u w=true/\r=.dat (.bl (if neg then !decide (u=w)else decide (u=w)))/\M'=M:=by
 erw[Gd]at h;cbv at h
 .intros d d';cbv at h
  .intros u w e1 e2;cbv at h
   .intros hs;ext h;exact#[d,d',u,w,rfl,rfl,e1,e2,hs,rfl,rfl]
   .ext h
  .ext h
 .ext h
def Pt{K:Yb}:BM K rEq (Gd false):=by
 intro L M M' H H0 x y d v w Q c rx ry hk q;let(d1,d2,u,z,rfl,rfl,e1,e2,hs,rfl,rfl):=Sn hk;let a1:=LC rx e1;let a2:=LC ry e2;subst a1 a2;calc#[hs,q L H _ (.refl L H) c (B7 (L:=L) (H:=H))]
def p8{K:Yb}:BM K rNe (Gd true):=by
 intro L M M' H H0 x y d v w Q c rx ry hk q;let(d1,d2,u,z,rfl,rfl,e1,e2,hs,rfl,rfl):=Sn hk;let a1:=LC rx e1;let a2:=LC ry e2;subst a1 a2;calc#[hs,q L H _ (.refl L H) c (B7 (L:=L) (H:=H))]
def OD(neg:Bool)(K:Yb):R2:=λx y H Q=>∃p q xs,x=.ref p/\y=.ref q/\SqL K H p xs/\SqL K H q []/\Q (.bl (if neg then !xs.isEmpty else xs.isEmpty)) H
def N5(r:zd [] its):its=[]:=by ext r;rfl
def RK(hu:X.A.units<cLine):OpR X (compareOp .Eq) (OD false X.K):=by
 intro zB s Y H x y v u Q I rx ry h;let(p,q,xs,rfl,rfl,h1,h2,hq):=h;ext rx;ext ry;let(its,rv,pl,_):=I.list h1;let(its2,rv2,pl2,_):=I.list h2;cases N5 rv2;cases rv with
 |nil=>exact SeqAt.eq_listAt (e:=λ_=>true) pl.isList pl2.isList rfl hu (λj h1=>by simp at h1) #[.bl true,H,I,rfl,hq]
 |cons _ _=>calc SeqAt.eq_list_lengthsAt pl.isList pl2.isList (by simp) hu #[.bl false,H,I,rfl,hq]
def i5(hu:X.A.units<cLine):OpR X (compareOp .NotEq) (OD true X.K):=by
 intro zB s Y H x y v u Q I rx ry h;let(p,q,xs,rfl,rfl,h1,h2,hq):=h;ext rx;ext ry;let(its,rv,pl,_):=I.list h1;let(its2,rv2,pl2,_):=I.list h2;cases N5 rv2;cases rv with
 |nil=>exact SeqAt.RcNeAt.lists (e:=λ_=>true) pl.isList pl2.isList rfl hu (λj h1=>by simp at h1) _ _ _ _ #[.bl false,H,I,rfl,hq]
 |cons _ _=>calc SeqAt.RcNeAt.lists_lengths pl.isList pl2.isList (by simp) hu _ _ _ _ #[.bl true,H,I,rfl,hq]
def Iy(neg:Bool):K2:=λx y M=>match Bb M x,Bb M y with
 |some xs,some []=>some (.dat (.bl (if neg then !xs.isEmpty else xs.isEmpty)),M)
 |_,_=>none
def NC{K:Yb}{neg:Bool}:BM K (OD neg K) (Iy neg):=by
 intro L M M' H H0 x y d v w Q c rx ry hk q;erw[Iy]at hk;cbv at hk
 .intros xs e1 e2;ext hk;let(p1,vs,rfl,h1,r1):=Cm c rx e1;let(p2,ws,rfl,h2,r2):=Cm c ry e2;erw[zH]at r2;subst r2;refine#[p1,p2,vs,rfl,rfl,.inl h1,.inl h2,q L H _ (.refl L H) c ?_];have:vs.isEmpty=xs.isEmpty:=by
   have:=r1.length;cases vs <;> cases xs <;> simp_all
  rw[this];exact(B7 (L:=L) (H:=H))
 .ext hk
def kOr(k1 k2:K2):K2:=λx y M=>match k1 x y M with
 |some r=>some r
 |none=>k2 x y M
def J6{K:Yb}{r1 r2:R2}{k1 k2:K2}(h1:BM K r1 k1)(h2:BM K r2 k2):BM K (λx y H Q=>r1 x y H Q\/r2 x y H Q) (kOr k1 k2):=by
 intro L M M' H H0 x y d v w Q c rx ry hk q;erw[kOr]at hk;cbv at hk
 .intros r e1;ext hk;exact .inl (h1 c rx ry e1 q)
 .exact .inr (h2 c rx ry hk q)
abbrev kEq:K2:=kOr (Gd false) (Iy false)
abbrev kNe:K2:=kOr (Gd true) (Iy true)
variable{f g:FE}
def WV(hu:X.A.units<cLine)(h1:QE X a f)(h2:QE X b g):QE X (.Compare a [.Eq] [b] pos) (fOp kEq f g):=NJ (J6 Pt NC) (Tj.or (RK hu)) h1 h2 (Ej _)
def WM(hu:X.A.units<cLine)(h1:QE X a f)(h2:QE X b g):QT X (.Compare a [.Eq] [b] pos) (tst (fOp kEq f g)):=E4 (J6 Pt NC) (Tj.or (RK hu)) h1 h2 (Ej _)
def dS(hu:X.A.units<cLine)(h1:QE X a f)(h2:QE X b g):QT X (.Compare a [.NotEq] [b] pos) (tst (fOp kNe f g)):=E4 (J6 p8 NC) (Vj.or (i5 hu)) h1 h2 (Ej _)
def Hc:KB:=λxs M=>match xs with
 |[.dat (.int i)]=>some (.dat (.int (if i<0 then -i else i)),M)
 |_=>none
def dQ{K:Yb}:Dk K (λxs H Q=>∃i,xs=[.int i]/\Q (.int (if i<0 then -i else i)) H) Hc:=by
 intro L M M' H H0 xs d vs Q c r hk q;erw[Hc]at hk;cbv at hk
 .intros i;ext hk;let(v,rfl,r1):=r.one;have:v=.int i:=by erw[zX,Rep]at r1;exact r1
  subst this;exact#[i,rfl,q L H _ (.refl L H) c (By (L:=L) (H:=H))]
 .ext hk
def Gk:KB:=λxs M=>match xs with
 |[.dat (.int i)]=>some (.dat (.int i),M)
 |[.dat (.bl k)]=>some (.dat (.int (if k then 1 else 0)),M)
 |_=>none
def l9{K:Yb}:Dk K (λxs H Q=>(∃i,xs=[.int i]/\Q (.int i) H)\/∃k,xs=[.bl k]/\Q (.int (if k then 1 else 0)) H) Gk:=by
 intro L M M' H H0 xs d vs Q c r hk q;erw[Gk]at hk;cbv at hk
 .intros i;ext hk;let(v,rfl,r1):=r.one;have:v=.int i:=by erw[zX,Rep]at r1;exact r1
  subst this;exact .inl #[i,rfl,q L H _ (.refl L H) c (By (L:=L) (H:=H))]
 .intros k;ext hk;let(v,rfl,r1):=r.one;have:=Fj r1;subst this;exact .inr #[k,rfl,q L H _ (.refl L H) c (By (L:=L) (H:=H))]
 .ext hk
end
section
variable{X:Cx}{a b c e:Expr}{es rest:Yi}{pos p apos cpos:Pos}
def gU{prog:Ym}{w:Yo}{A:Yn}{E:Yc}{s:Yl}{t b:Yt}{ws:Yf}{Q:Yc}(ht:IsTup s.heap t #[])(hb:IsTup s.heap b ws.toArray)(h1:Q (.ref b) s):
  wpAny (model prog w) A (binaryOp .Add (.ref t) (.ref b)) Q E s:=by
 let((cls,dd,data,sl),ho,hc,n,hd):=id ht;let((cls2,dd2,data2,sl2),ho2,hc2,n2,hd2):=id hb;simp only at hc hd hc2 hd2;subst hc hd hc2 hd2
 exact concat_meets #[_,ho,rfl] #[_,ho2,rfl] noFill_tuple_add seq_tuple_add PySem.F.slot_tuple_add PySem.F.entry_tuple_add (PySem.F.args_tuple_add_2 _ _)
   (tuple_addW0 t b #[] ws.toArray n n2 dd dd2 sl sl2 (by simp)) #[ho,ho2,h1]
def TC(K:Yb):R2:=λx y H Q=>∃a b ys,x=.ref a/\y=.ref b/\SqT K H a []/\SqT K H b ys/\Q (.ref b) H
def WX:OpR X (binaryOp .Add) (TC X.K):=by
 intro zB s Y H x y v u Q I rx ry h;let(a,b,ys,rfl,rfl,ha,hb,q):=h;ext rx;ext ry;let(its,r1,p1,_):=I.tuple ha;let(its2,r2,p2,_):=I.tuple hb;cases N5 r1;calc gU p1 p2 #[.ref b,H,I,rfl,q]
def Hq:K2:=λx y M=>match Cc x,Cc y with
 |some xs,some ys=>if xs.length+ys.length<=sizeLine then some (.dat (.tup (xs++ys)),M)else none
 |_,_=>none
def qP{K:Yb}:BM K (λx y H Q=>Pa K x y H Q\/TC K x y H Q) Hq:=by
 intro L M M' H H0 x y d v w Q c rx ry hk q;erw[Hq]at hk;cbv at hk
 .intros xs ys e1 e2;cbv at hk
  .intros hz;ext hk;let(p1,vs,rfl,h1,r1):=D7 rx e1;let(p2,ws,rfl,h2,r2):=D7 ry e2;cases xs with
   |nil=>
    calc .inr #[p1,p2,ws,rfl,rfl,.of (by erw[zH]at r1;subst r1;calc h1),.of h2,q L H _ (.refl L H) c ?_];erw[zX,Rep];calc#[p2,ws,rfl,h2,r2]
   |cons x0 xr=>
    let hv:vs≠[]:=λz=>by have:=r1.length;rw[z]at this;simp at this
    refine .inl #[p1,p2,vs,ws,rfl,rfl,.of h1,.of h2,hv,by rw[r1.length,r2.length];exact hz,λz=>?_,λz pp hp=>?_]
    .have:ys=[]:=by
      have:=r2.length;rw[z]at this;cases ys with
      |nil=>rfl
      |cons _ _=>simp at this
     subst this;calc q L H _ (.refl L H) c ?_;erw[zX,Rep];rw[BI];exact#[p1,vs,rfl,h1,r1]
    .exact q L _ _ (.upd hp) (c.upd hp) (Rep.newTup hp (r1.app r2))
  .ext hk
 .ext hk
abbrev BA:K2:=kOr Md Hq
variable{f g:FE}
def Vt(h1:QE X a f)(h2:QE X b g):QE X (.BinOp a .Add b pos) (fOp BA f g):=Gs (J6 (FC λ_ _ _ _=>By) qP) (Zj.or (jE.or WX)) h1 h2
structure Kinds(K:Yb):Prop where
 k:∀t T,t∈["NoneType","bool","int","str","list","tuple","dict"]->T∈["int","bool","str","tuple"]->PySem.W.kitOne K (.type t) (.type T)=some (decide (t=T)||(decide (t = "bool")&&decide (T = "int")))
def Gb(M:Mem):EV->Option String
 |.dat .non=>some "NoneType"
 |.dat (.bl _)=>some "bool"
 |.dat (.int _)=>some "int"
 |.dat (.str _)=>some "str"
 |.dat (.tup _)=>some "tuple"
 |.fl _=>some "list"
 |.dat (.ref n)=>match M[n]? with
  |some (.lst _)=>some "list"
  |some (.fro _)=>some "list"
  |some (.dict _)=>some "dict"
  |some (.dicT _)=>some "dict"
  |_=>none
 |.dat (.fn _ _)=>none
def oY{K:PySem.W.Frag}{L:List Addr}{M:Mem}{H H0:Hp}{x:EV}{v:V}{t:String}(c:Cor K L M H)(r:zX H0 L H x v)(h:Gb M x=some t):TyOf K H v (.type t)/\t∈["NoneType","bool","int","str","list","tuple","dict"]:=by
 erw[Gb]at h;cbv at h
 .cases h;erw[zX,Rep]at r;subst r;exact#[.non,by simp]
 .cases h;erw[zX,Rep]at r;subst r;exact#[.bl _,by simp]
 .cases h;erw[zX,Rep]at r;subst r;exact#[.int _,by simp]
 .cases h;erw[zX,Rep]at r;subst r;exact#[.str _,by simp]
 .cases h;erw[zX,Rep]at r;let(a,vs,rfl,e,_):=r;exact#[.tup e,by simp]
 .cases h;let(p,vs,rfl,_,e,_):=r;exact#[.lst e,by simp]
 .unfold zX Rep at r;let(a,rfl,e):=r;cbv at h
  .intros e1;ext h;let(vs,q,_):=c.obj _ a _ e e1;exact#[.lst q,by simp]
  .intros e1;ext h;let(o,vs,q,_):=c.obj _ a _ e e1;exact#[.frz q,by simp]
  .intros e1;ext h;let(vs,q,_):=c.obj _ a _ e e1;exact#[.dK q,by simp]
  .intros e1;ext h;let(vs,q,_):=c.obj _ a _ e e1;exact#[.dT q,by simp]
  .ext h
 .ext h
def isT(t T:String):Bool:=decide (t=T)||(decide (t = "bool")&&decide (T = "int"))
def DP(T:String)(f:FE):FE:=λY M=>match f Y M with
 |some (x,M1)=>match Gb M1 x with
  |some t=>some (.dat (.bl (isT t T)),M1)
  |none=>none
 |none=>none
def Sb(K:Yb)(T:String):List V->Hp->VK->Prop:=λxs H Q=>∃x t b,xs=[x,.ty T]/\TyOf K H x t/\PySem.W.kitOne K t (.type T)=some b/\Q (.bl b) H
def jL:B1 X (.builtin "isinstance") (Sb X.K T):=by
 intro zB s Y H xs us Q I r h;let(x,t,b,rfl,ty,e,q):=h;cases r with
 |cons r1 r2=>
  cases r2 with
  |cons r3 r4=>
   ext r4;ext r3;calc mK I r1 ty e λtk=>#[.bl b,H,I.tok _,rfl,q]
def Ji(hK:Kinds X.K)(hT:T∈["int","bool","str","tuple"])(hg:Gl X "isinstance")(hm:X.mg "isinstance" = none)(hg2:Gl X y)(hm2:X.mg y=none)(hv2:bootBuiltins y=some (.type T))(hn2:y ≠ "__name__")(hd2:(y==("__debug__" : Str))=false)(h:QE X e f)
  (he:starEach (e::[.Name y p2]) X.env=(false,eval e X.env)::starEach [.Name y p2] X.env:=by rfl) (he2:starEach [.Name y p2] X.env=(false,eval (.Name y p2) X.env)::starEach [] X.env:=by rfl) (hpl:(backTo pos (starEach [.Name y p2] X.env)).any (·.1)=false:=by rfl):
  QE X (.Call (.Name "isinstance" p1) [e,.Name y p2] [] pos) (DP T f) :=
 .mk <| PE.imp (Rf (r:=Sb X.K T) jL hg hm (by rfl) (EN h.un (EN (lR (v:=.ty T) hg2 hm2 hv2 rfl hn2 hd2) Gq he2) he) () () he hpl) λτ H Q zz=>by
  let(L,Y,M,d,M',c,rs,hf,q):=zz;erw[DP]at hf;cbv at hf
  .intros x M1 e1;cbv at hf
   .intros t e2;ext hf;refine(mkE c rs e1 (λL1 H1 v s1 c1 r1=>?_));let(ty,ht):=oY c1 r1 e2;exact#[v,_,_,rfl,ty,hK.k t T ht hT,q L1 H1 _ s1 c1 (B7 (L:=L1) (H:=H1))]
   .ext hf
  .ext hf
def zH.two(h:zH L H [d,d'] vs):∃v v',vs=[v,v']/\Rep L H d v/\Rep L H d' v':=by
 erw[zH]at h;let(v,r,rfl,h1,h2):=h;let(v',rfl,h3):=h2.one;calc#[v,v',rfl,h1,h3]
section
variable{fa:FAE}
def Ll(hg:Gl X "len")(hm:X.mg "len" = none)(ha:QAE X [e] fa)(he:starEach [e] X.env=(false,eval e X.env)::starEach [] X.env:=by rfl)(hpl:(backTo pos (starEach [] X.env)).any (·.1)=false:=by rfl):QE X (.Call (.Name "len" p) [e] [] pos) (fB An fa) :=
 GC dW U3 PySem.boot_len hg hm ha () () he hpl
def ZZ(hg:Gl X "tuple")(hm:X.mg "tuple" = none)(ha:QAE X [e] fa)(he:starEach [e] X.env=(false,eval e X.env)::starEach [] X.env:=by rfl)(hpl:(backTo pos (starEach [] X.env)).any (·.1)=false:=by rfl):QE X (.Call (.Name "tuple" p) [e] [] pos) (fB BP fa) :=
 Ox ZL XM (by rfl) hg hm ha () () he hpl
def dU(hg:Gl X "abs")(hm:X.mg "abs" = none)(ha:QAE X [e] fa)(he:starEach [e] X.env=(false,eval e X.env)::starEach [] X.env:=by rfl)(hpl:(backTo pos (starEach [] X.env)).any (·.1)=false:=by rfl):QE X (.Call (.Name "abs" p) [e] [] pos) (fB Hc fa) :=
 GC dQ Uq (by rfl) hg hm ha () () he hpl
def fE(hg:Gl X "int")(hm:X.mg "int" = none)(ha:QAE X [e] fa)(he:starEach [e] X.env=(false,eval e X.env)::starEach [] X.env:=by rfl)(hpl:(backTo pos (starEach [] X.env)).any (·.1)=false:=by rfl):QE X (.Call (.Name "int" p) [e] [] pos) (fB Gk fa) :=
 Ox l9 qW (by rfl) hg hm ha () () he hpl
end
end
def LD(sc scope:Y0):Bool:=scope.names.all λy=>
 (y.2 != .local||scope.names.lookup y.1==some .local)&&(y.2 != .cell||scope.names.lookup y.1==some .cell)&&(y.2 != .free||(sc.names.lookup y.1==some .cell||sc.names.lookup y.1==some .free))
def Kq(N:Yk)(scope:Y0)(own:Yj):Bool:=(List.range N.length).all λi=>match N[i]? with
 |some x=>decide (i∈own)||(scope.names.lookup x==none)||(scope.names.lookup x==some .free)
 |none=>true
def Sq(hk:scope.kind=.function)(hs:X.env.scope=sc)(hN:X.N=N)(h1:LD sc scope=true)(h2:Kq N scope own=true):CompIn X scope own:=by
 erw[LD]at h1;rw[Am]at h1;refine#[#[hk,λy hy e=>?_,λy hy e=>?_,λy hy e=>?_],λi x e=>?_]
 .have:=h1 y hy;simp[e]at this;exact this
 .have:=h1 y hy;simp[e]at this;exact this
 .have:=h1 y hy;simp[e]at this;show X.env.scope.names.lookup y.1=_\/X.env.scope.names.lookup y.1=_;rw[hs];exact this
 .unfold Kq at h2;rw[Am]at h2;rw[hN]at e;let hi:i<N.length:=(AI.mp e).1;have:=h2 i (~~~hi);rw[e]at this;simp only[Bool.or_eq_true,DM,beq_iff_eq,or_assoc]at this;calc this
def Hh(K:Yb):Bool:=K.all λp=>match p.2.cls with
 |.type n=>n != "list"
 |_=>true
theorem L9:∀{K:Yb},K.lookup a=some o->(a,o)∈K
 |[],h=>by ext h
 | (b,u)::r,h=>by
  let h':List.lookup a ((b,u)::r)=some o:=h;rw[Ei]at h';cases q:a==b with
  |true=>rw[q]at h';ext h';rw[beq_iff_eq.mp q];calc AR
  |false=>rw[q]at h';calc Aa _ (L9 h')
def R4{K:PySem.W.Frag}(h:Hh K=true){o:Obj}(e:K.lookup a=some o)(hc:o.cls=.type "list"):False:=by
 erw[Hh]at h;rw[Am]at h;have:=h (a,o) (L9 e);simp[hc]at this
theorem QJ:∀(ns:Ye),zH L H (ns.map D.int) (ns.map V.int)
 |[]=> .nil
 |n::r=> .cons (by erw[Rep];rfl) (QJ r)
def bC{K:Yb}{m:FF}{H:Hp}{a:Yt}{ns:Ye}{E:XK}(hL:Hh K=true)(hT:Hk K H)(hO:∀b xs,H b≠some (.lst xs))(hS:SqL K H a (ns.map V.int))(h:∃M',m [.ref 0] [.fro (ns.map D.int)]=some (.bl true,M')):
  spF K 1 m [.ref a] H (λv _=>v=.bl true) E:=by
 let(M',e):=h;let hf:∃o,H a=some (.frz o (.lst (ns.map V.int))):=by
  rcases hS with(h1|h1)|⟨o,its,n,h1,h2,_⟩
  .exact(hO _ _ h1).elim
  .exact h1
  .exact(R4 hL h1 h2).elim
 let(o,hf):=hf;refine#[[a],[.ref 0],[.fro (ns.map D.int)],_,_,#[rfl,by simp,λn b m e1 e2=>?_,hT],.cons ?_ .nil,rfl,e,λL' H' v s c r=>?_]
 .cases n with
  |zero=>simp at e1 e2;subst e1;subst e2;calc#[o,_,hf,QJ ns]
  |succ n=>simp at e1
 .unfold Rep;exact#[a,rfl,rfl]
 .unfold Rep at r;calc r
def Ok{α:Type}(x:Option (α×Mem))(P:α->Mem->Prop):Prop:=∃a M,x=some (a,M)/\P a M
def OkS(x:Option (Out×Sd×Mem))(P:Out->Sd->Mem->Prop):Prop:=∃o Y M,x=some (o,Y,M)/\P o Y M
def Ok.mono{α:Type}{x:Option (α×Mem)}{P Q:α->Mem->Prop}(h:Ok x P)(hq:∀a M,P a M->Q a M):Ok x Q:=let⟨a,M,e,p⟩:=h;#[a,M,e,hq a M p]
def OkS.mono{x:Option (Out×Sd×Mem)}{P Q:Out->Sd->Mem->Prop}(h:OkS x P)(hq:∀o Y M,P o Y M->Q o Y M):OkS x Q:=let⟨a,Y,M,e,p⟩:=h;#[a,Y,M,e,hq a Y M p]
def zx{α:Type}{a:α}{M:Mem}{P:α->Mem->Prop}:Ok (some (a,M)) P↔P a M:=#[λ⟨_,_,e,p⟩=>by ext e;exact p,λp=>#[a,M,rfl,p]]
def Jv{α:Type}{P:α->Mem->Prop}:Ok (none:Option (α×Mem)) P↔False:=#[(λ⟨_,_,e,_⟩=>(nomatch e)),λh=>h.elim]
def nP{o:Out}{Y:Sd}{M:Mem}{P:Out->Sd->Mem->Prop}:OkS (some (o,Y,M)) P↔P o Y M:=#[λ⟨_,_,_,e,p⟩=>by ext e;exact p,λp=>#[o,Y,M,rfl,p]]
def A8{i:Nat}:Ok (zC i Y M) P↔∃d,Y[i]?=some (some d)/\P (.dat d) M:=by
 erw[zC];constructor
 .rintro⟨a,M1,e,p⟩;cbv at e
  .intros d e1;ext e;exact#[d,e1,p]
  .ext e
 .rintro⟨d,e1,p⟩;rw[e1];calc#[_,_,rfl,p]
def BX{d:D}:Ok (fC d Y M) P↔P (.dat d) M:=zx
def A4{k:K2}:Ok (fOp k f g Y M) P↔Ok (f Y M) λx M1=>Ok (g Y M1) λy M2=>Ok (k x y M2) P:=by
 erw[fOp];constructor
 .rintro⟨a,M1,e,p⟩;cbv at e
  .intros x M2 e1;cbv at e
   .intros y M3 e2;exact#[x,M2,e1,y,M3,e2,a,M1,e,p]
   .ext e
  .ext e
 .rintro⟨x,M2,e1,y,M3,e2,a,M1,e,p⟩;rw[e1];symm;rw[e2];calc#[a,M1,e,p]
def ED(P:D->Mem->Prop):EV->Mem->Prop
 |.dat d,M=>P d M
 |.fl xs,M=>P (.ref M.length) (M++[.lst xs])
def Bp{P:D->Mem->Prop}:Ok (toD f Y M) P↔Ok (f Y M) (ED P):=by
 erw[toD];constructor
 .rintro⟨a,M1,e,p⟩;cbv at e
  .intros d M2 e1;ext e;exact#[_,_,e1,p]
  .intros xs M2 e1;ext e;exact#[_,_,e1,p]
  .ext e
 .rintro⟨x,M2,e1,p⟩;rw[e1];cases x with
  |dat d=>calc#[d,M2,rfl,p]
  |fl xs=>calc#[_,_,rfl,p]
def zO{P:D->Mem->Prop}{d:D}{M:Mem}:ED P (.dat d) M↔P d M:=Iff.rfl
def IX{P:D->Mem->Prop}{xs:List D}{M:Mem}:ED P (.fl xs) M↔P (.ref M.length) (M++[.lst xs]):=Iff.rfl
def EC:Ok (zG Y M) P↔P [] M:=zx
def C2{f:FD}{g:FA}:Ok (zD f g Y M) P↔Ok (f Y M) λd M1=>Ok (g Y M1) λds M2=>P (d::ds) M2:=by
 erw[zD];constructor
 .rintro⟨a,M1,e,p⟩;cbv at e
  .intros x M2 e1;cbv at e
   .intros y M3 e2;ext e;exact#[x,M2,e1,y,_,e2,p]
   .ext e
  .ext e
 .rintro⟨x,M2,e1,y,M3,e2,p⟩;rw[e1];symm;rw[e2];calc#[_,_,rfl,p]
def II:Ok (ze Y M) P↔P [] M:=zx
def IP{f:FE}{g:FAE}:Ok (zQ f g Y M) P↔Ok (f Y M) λd M1=>Ok (g Y M1) λds M2=>P (d::ds) M2:=by
 erw[zQ];constructor
 .rintro⟨a,M1,e,p⟩;cbv at e
  .intros x M2 e1;cbv at e
   .intros y M3 e2;ext e;exact#[x,M2,e1,y,_,e2,p]
   .ext e
  .ext e
 .rintro⟨x,M2,e1,y,M3,e2,p⟩;rw[e1];symm;rw[e2];calc#[_,_,rfl,p]
def JK{a:FA}:Ok (Ar a Y M) P↔Ok (a Y M) λds M1=>ds.length<=sizeLine/\P (.fl ds) M1:=by
 erw[Ar];constructor
 .rintro⟨x,M1,e,p⟩;cbv at e
  .intros ds M2 e1;cbv at e
   .intros hz;ext e;exact#[ds,_,e1,hz,p]
   .ext e
  .ext e
 .rintro⟨ds,M1,e1,hz,p⟩;rw[e1];symm;rw[AB hz];calc#[_,_,rfl,p]
def JV{k:KB}{a:FAE}:Ok (fB k a Y M) P↔Ok (a Y M) λxs M1=>Ok (k xs M1) P:=by
 erw[fB];constructor
 .rintro⟨x,M1,e,p⟩;cbv at e
  .intros ds M2 e1;exact#[ds,_,e1,x,M1,e,p]
  .ext e
 .rintro⟨ds,M1,e1,p⟩;rw[e1];calc p
def EW{m:FF}{a:FA}:Ok (zP m a Y M) P↔Ok (a Y M) λds M1=>Ok (m ds M1) λd M2=>P (.dat d) M2:=by
 erw[zP];constructor
 .rintro⟨x,M1,e,p⟩;cbv at e
  .intros ds M2 e1;cbv at e
   .intros d M3 e2;ext e;exact#[ds,_,e1,d,_,e2,p]
   .ext e
  .ext e
 .rintro⟨ds,M1,e1,d,M2,e2,p⟩;rw[e1];symm;rw[e2];calc#[_,_,rfl,p]
def F0{k:KM}{a:FA}:Ok (fM k f a Y M) P↔Ok (f Y M) λx M1=>(∃xs,Bb M1 x=some xs)/\Ok (a Y M1) λds M2=>Ok (k x ds M2) λd M3=>P (.dat d) M3:=by
 erw[fM];constructor
 .rintro⟨x,M1,e,p⟩;cbv at e
  .intros y M2 e1;cbv at e
   .intros xs e2;cbv at e
    .intros ds M3 e3;cbv at e
     .intros d M4 e4;ext e;exact#[y,_,e1,#[xs,e2],ds,_,e3,d,_,e4,p]
     .ext e
    .ext e
   .ext e
  .ext e
 .rintro⟨y,M1,e1,⟨xs,e2⟩,ds,M2,e3,d,M3,e4,p⟩;rw[e1];symm;rw[e2];symm;rw[e3];symm;rw[e4];calc#[_,_,rfl,p]
def Ud:Ok (DR Y M) P↔P none M:=zx
def Uc(P:Option Int->Mem->Prop):EV->Mem->Prop
 |.dat (.int i),M=>P (some i) M
 |_,_=>False
def SU{i:Int}{M:Mem}:Uc P (.dat (.int i)) M↔P (some i) M:=Iff.rfl
def Rz:Ok (Cz f Y M) P↔Ok (f Y M) (Uc P):=by
 erw[Cz];constructor
 .rintro⟨x,M1,e,p⟩;cbv at e
  .intros i M2 e1;ext e;exact#[_,_,e1,p]
  .ext e
 .rintro⟨x,M1,e1,p⟩;rw[e1];cases x with
  |fl xs=>calc p.elim
  |dat d=>
   cases d with
   |int i=>calc#[_,_,rfl,p]
   |_=>calc p.elim
def RI{l h:FO}:Ok (fSl f l h Y M) P↔Ok (f Y M) λx M1=>Ok (l Y M1) λlo M2=>Ok (h Y M2) λhi M3=>Ok (kSl x lo hi M3) P:=by
 erw[fSl];constructor
 .rintro⟨x,M1,e,p⟩;cbv at e
  .intros y M2 e1;cbv at e
   .intros lo M3 e2;cbv at e
    .intros hi M4 e3;exact#[y,_,e1,lo,_,e2,hi,_,e3,x,M1,e,p]
    .ext e
   .ext e
  .ext e
 .rintro⟨y,M1,e1,lo,M2,e2,hi,M3,e3,p⟩;rw[e1];symm;rw[e2];symm;rw[e3];calc p
def blP(P:Bool->Mem->Prop):EV->Mem->Prop
 |.dat (.bl k),M=>P k M
 |_,_=>False
def G7{P:Bool->Mem->Prop}{k:Bool}{M:Mem}:blP P (.dat (.bl k)) M↔P k M:=Iff.rfl
def NG{P:Bool->Mem->Prop}:Ok (tst f Y M) P↔Ok (f Y M) (blP P):=by
 erw[tst];constructor
 .rintro⟨x,M1,e,p⟩;cbv at e
  .intros i M2 e1;ext e;exact#[_,_,e1,p]
  .ext e
 .rintro⟨x,M1,e1,p⟩;rw[e1];cases x with
  |fl xs=>calc p.elim
  |dat d=>
   cases d with
   |bl i=>calc#[_,_,rfl,p]
   |_=>calc p.elim
def Pe:Ok (zc Y M) P↔P true M:=zx
def Xw:Ok (Cb s t Y M) P↔Ok (s Y M) λk M1=>if k then Ok (t Y M1) P else P false M1:=by
 erw[Cb];constructor
 .rintro⟨x,M1,e,p⟩;cbv at e
  .intros M2 e1;exact#[true,M2,e1,by symm;rw[AB rfl];calc#[x,M1,e,p]]
  .intros hn;cases x with
   |true=>calc absurd e (hn M1)
   |false=>exact#[false,M1,e,by simpa using p]
 .rintro⟨x,M1,e1,p⟩;rw[e1];cases x with
  |true=>simpa using p
  |false=>calc#[false,M1,rfl,by simpa using p]
def PQ:Ok (C1 s Y M) P↔Ok (s Y M) λk M1=>P (!k) M1:=by
 erw[C1];constructor
 .rintro⟨x,M1,e,p⟩;cbv at e
  .intros k M2 e1;ext e;exact#[k,_,e1,p]
  .ext e
 .rintro⟨k,M1,e1,p⟩;rw[e1];calc#[_,_,rfl,p]
def ZT{t:FT}:Ok (vIf t f g Y M) P↔Ok (t Y M) λk M1=>if k then Ok (f Y M1) P else Ok (g Y M1) P:=by
 erw[vIf];constructor
 .rintro⟨x,M1,e,p⟩;cbv at e
  .intros M2 e1;exact#[_,_,e1,by symm;rw[AB rfl];calc#[x,M1,e,p]]
  .intros M2 e1;exact#[_,_,e1,by simpa using#[x,M1,e,p]]
  .ext e
 .rintro⟨x,M1,e1,p⟩;rw[e1];cases x with
  |true=>simpa using p
  |false=>simpa using p
def nxP(k:Sd->Mem->Prop)(P:Out->Sd->Mem->Prop):Out->Sd->Mem->Prop
 |.nx,Y,M=>k Y M
 |o,Y,M=>P o Y M
def zS{k:Sd->Mem->Prop}:nxP k P .nx Y M↔k Y M:=Iff.rfl
def FH{k:Sd->Mem->Prop}{d:D}:nxP k P (.ret d) Y M↔P (.ret d) Y M:=Iff.rfl
def Cj:OkS (Ao Y M) P↔P .nx Y M:=nP
def zM:OkS (zW f g Y M) P↔OkS (f Y M) (nxP (λσ1 M1=>OkS (g σ1 M1) P) P):=by
 erw[zW];constructor
 .rintro⟨o,σ1,M1,e,p⟩;cbv at e
  .intros σ2 M2 e1;exact#[_,_,_,e1,o,σ1,M1,e,p]
  .intros hn;calc#[o,σ1,M1,e,?_];cases o with
   |nx=>calc absurd e (hn σ1 M1)
   |_=>exact p
 .rintro⟨o,σ1,M1,e1,p⟩;rw[e1];cases o with
  |nx=>calc p
  |_=>calc#[_,_,_,rfl,p]
def CH{c:FT}:OkS (sIf c f g Y M) P↔Ok (c Y M) λk M1=>if k then OkS (f Y M1) P else OkS (g Y M1) P:=by
 erw[sIf];constructor
 .rintro⟨o,σ1,M1,e,p⟩;cbv at e
  .intros M2 e1;exact#[_,_,e1,by symm;rw[AB rfl];calc#[o,σ1,M1,e,p]]
  .intros M2 e1;exact#[_,_,e1,by simpa using#[o,σ1,M1,e,p]]
  .ext e
 .rintro⟨x,M1,e1,p⟩;rw[e1];cases x with
  |true=>simpa using p
  |false=>simpa using p
def CG{h:FE}:OkS (zq h Y M) P↔Ok (h Y M) (ED λd M1=>P (.ret d) Y M1):=by
 rw[<-Bp];erw[zq];constructor
 .rintro⟨o,σ1,M1,e,p⟩;cbv at e
  .intros d M2 e1;ext e;exact#[_,_,e1,p]
  .ext e
 .rintro⟨x,M1,e1,p⟩;rw[e1];calc#[_,_,_,rfl,p]
def za{i:Nat}{h:FE}:OkS (zw i h Y M) P↔Ok (h Y M) (ED λd M1=>P .nx (Y.set i (some d)) M1):=by
 rw[<-Bp];erw[zw];constructor
 .rintro⟨o,σ1,M1,e,p⟩;cbv at e
  .intros d M2 e1;ext e;exact#[_,_,e1,p]
  .ext e
 .rintro⟨x,M1,e1,p⟩;rw[e1];calc#[_,_,_,rfl,p]
def GF{h:FE}:OkS (Bz h Y M) P↔Ok (h Y M) λ_ M1=>P .nx Y M1:=by
 erw[Bz];constructor
 .rintro⟨o,σ1,M1,e,p⟩;cbv at e
  .intros d M2 e1;ext e;exact#[_,_,e1,p]
  .ext e
 .rintro⟨x,M1,e1,p⟩;rw[e1];calc#[_,_,_,rfl,p]
def Nb{v o i:FE}:OkS (Gm v o i Y M) P↔Ok (v Y M) (ED λd M1=>Ok (o Y M1) λx M2=>Ok (i Y M2) (ED λj M3=>∃M4,JA x j d M3=some M4/\P .nx Y M4)):=by
 rw[<-Bp];erw[Gm];constructor
 .rintro⟨o,σ1,M1,e,p⟩;cbv at e
  .intros d M2 e1;cbv at e
   .intros x M3 e2;cbv at e
    .intros j M4 e3;cbv at e
     .intros M5 e4;ext e;calc#[_,_,e1,_,_,e2,?_];symm;rw[<-Bp];exact#[_,_,e3,_,e4,p]
     .ext e
    .ext e
   .ext e
  .ext e
 .rintro⟨d,M1,e1,x,M2,e2,p⟩;rw[<-Bp]at p;let(j,M3,e3,M4,e4,p):=p;rw[e1];symm;rw[e2];symm;rw[e3];symm;rw[e4];calc#[_,_,_,rfl,p]
def zn{n:Nat}{ds:List D}{Q:D->Mem->Prop}:Ok (AV n f ds M) Q↔OkS (f (ds.map some++List.replicate (n-ds.length) none) M) λo _ M1=>match o with|.ret d=>Q d M1|.nx=>Q .non M1|_=>False:=by
 erw[AV];constructor
 .rintro⟨o,M1,e,p⟩;cbv at e
  .intros d σ1 M2 e1;ext e;exact#[_,_,_,e1,p]
  .intros σ1 M2 e1;ext e;exact#[_,_,_,e1,p]
  .ext e
 .rintro⟨o,σ1,M1,e1,p⟩;rw[e1];cases o with
  |ret d=>calc#[_,_,rfl,p]
  |nx=>calc#[_,_,rfl,p]
  |brk=>calc p.elim
  |cnt=>calc p.elim
theorem JR{c:FT}{b:FS}(I:Nat->Sd->Mem->Prop)(hs:∀m Y M,I m Y M->Ok (c Y M) λk M1=>if k then OkS (b Y M1) λo σ2 M2=>match o with|.nx=>∃m',m'<m/\I m' σ2 M2|.cnt=>∃m',m'<m/\I m' σ2 M2|.brk=>P .nx σ2 M2|.ret d=>P (.ret d) σ2 M2 else P .nx Y M1):
  ∀(n m:Nat)(Y:Sd)(M:Mem),m<n->I m Y M->OkS (Bs c b n Y M) P
 |0,m,Y,M,h,_=>absurd h (Nat.not_lt_zero _)
 |n+1,m,Y,M,h,hi=>by
  let(k,M1,e,q):=hs m Y M hi;erw[Bs];rw[e];cases k with
  |false=>calc#[_,_,_,rfl,by simpa using q]
  |true=>
   rw[AB rfl]at q;let(o,σ2,M2,e2,q):=q;symm;rw[e2];cases o with
   |nx=>let(m',hm,q):=q;calc JR I hs n m' σ2 M2 () q
   |cnt=>let(m',hm,q):=q;calc JR I hs n m' σ2 M2 () q
   |brk=>calc#[_,_,_,rfl,q]
   |ret d=>calc#[_,_,_,rfl,q]
theorem Cy{g:FG}{b:FS}{all:List D}{gd:Option (Mem->Prop)}(I:List D->Sd->Mem->Prop)
  (hs:∀x r Y M,I (x::r) Y M->BG gd all M/\∃σ1,g x Y=some σ1/\OkS (b σ1 M) λo σ2 M2=>match o with|.nx=>I r σ2 M2|.cnt=>I r σ2 M2|.brk=>P .nx σ2 M2|.ret d=>P (.ret d) σ2 M2)
  (he:∀Y M,I [] Y M->BG gd all M/\P .nx Y M):∀(xs:List D)(Y:Sd)(M:Mem),I xs Y M->OkS (DC g b all gd xs Y M) P
 |[],Y,M,hi=>by
  erw[DC];let(h1,h2):=he Y M hi;rw[AB h1];calc#[_,_,_,rfl,h2]
 |x::r,Y,M,hi=>by
  erw[DC];let(h1,σ1,e1,o,σ2,M2,e2,q):=hs x r Y M hi;rw[AB h1,e1];symm;rw[e2];cases o with
  |nx=>calc Cy I hs he r σ2 M2 q
  |cnt=>calc Cy I hs he r σ2 M2 q
  |brk=>calc#[_,_,_,rfl,q]
  |ret d=>calc#[_,_,_,rfl,q]
def Cg{i:FI}{g:FG}{b:FS}:OkS (BO i g b Y M) P↔∃xs gd M1,i Y M=some (xs,gd,M1)/\OkS (DC g b xs gd xs Y M1) P:=by
 erw[BO];constructor
 .rintro⟨o,σ1,M1,e,p⟩;cbv at e
  .intros xs gd M2 e1;exact#[_,_,_,e1,_,_,_,e,p]
  .ext e
 .rintro⟨xs,gd,M1,e1,p⟩;rw[e1];calc p
theorem Im{g:FG}{tc:FT}{te:FE}{all:List D}{gd:Option (Mem->Prop)}(I:List D->List D->Mem->Prop)
  (hs:∀x r acc M,I (x::r) acc M->BG gd all M/\∃σ1,g x Y=some σ1/\Ok (tc σ1 M) λk M1=>if k then Ok (te σ1 M1) (ED λd M2=>I r (acc++[d]) M2)else I r acc M1)
  {Q:List D->Mem->Prop} (he:∀acc M,I [] acc M->BG gd all M/\Q acc M):∀(xs acc:List D)(M:Mem),I xs acc M->Ok (BK g tc te Y all gd xs M) λys M1=>Q (acc++ys) M1
 |[],acc,M,hi=>by
  erw[BK];let(h1,h2):=he acc M hi;rw[AB h1];calc#[_,_,rfl,by simpa using h2]
 |x::r,acc,M,hi=>by
  erw[BK];let(h1,σ1,e1,k,M1,e2,q):=hs x r acc M hi;rw[AB h1,e1];symm;rw[e2];cases k with
  |false=>calc Im I hs he r acc M1 (~~~q)
  |true=>
   rw[AB rfl,<-Bp]at q;let(d,M2,e3,q):=q;symm;rw[e3];let(ys,M3,e4,p):=Im I hs he r (acc++[d]) M2 q;symm;rw[e4];calc#[_,_,rfl,by simpa using p]
def Iw{own:Yj}{i:FI}{g:FG}{tc:FT}{te:FE}{Q:EV->Mem->Prop}:Ok (zu own i g tc te Y M) Q↔∃xs gd M1,i Y M=some (xs,gd,M1)/\xs.length<=sizeLine/\Ok (BK g tc te (Al own Y) xs gd xs M1) λys M2=>Q (.fl ys) M2:=by
 erw[zu];constructor
 .rintro⟨o,M1,e,p⟩;cbv at e
  .intros xs gd M2 e1;cbv at e
   .intros hz;cbv at e
    .intros ys M3 e2;ext e;exact#[_,_,_,e1,hz,_,_,e2,p]
    .ext e
   .ext e
  .ext e
 .rintro⟨xs,gd,M1,e1,hz,ys,M2,e2,p⟩;rw[e1];symm;rw[AB hz,e2];calc#[_,_,rfl,p]
def E3{h:FE}{x:EV}{M1:Mem}{xs:List D}(e:h Y M=some (x,M1))(e2:A7 M1 x=some xs):AN h Y M=some (xs,CQ x xs,M1):=by
 erw[AN];rw[e];symm;rw[e2]
def YQ{a:FA}{M1:Mem}{j:Int}(e:a Y M=some ([.int j],M1))(h1:0<=j)(h2:j<2 ^ 62):BJ a Y M=some ((List.range j.toNat).map λ(k:Nat)=>D.int k,none,M1):=by
 erw[BJ];rw[e];symm;rw[AB #[(),h2]]
def GK:Ok (BA (.dat (.int i)) (.dat (.int j)) M) P↔P (.dat (.int (i+j))) M:=zx
def NM:Ok (IG (.dat (.int i)) (.dat (.int j)) M) P↔HM i j=true/\P (.dat (.int (i*j))) M:=by
 erw[IG,kI];symm;split
 .intros h;rw[zx];simp[h]
 .intros h;rw[Jv];simp[h]
def Fo:Ok (DB (.dat (.int i)) (.dat (.int j)) M) P↔0<j/\P (.dat (.int (i % j))) M:=by
 erw[DB,kI];symm;split
 .intros h;rw[zx];simp at h;simp[h]
 .intros h;rw[Jv];simp at h;simp;intro h';omega
def Lb:Ok (HL (.dat (.int i)) (.dat (.int j)) M) P↔(0<j/\j<1073741824)/\P (.dat (.int (i / j))) M:=by
 erw[HL,kI];symm;split
 .intros h;rw[zx];simp at h;simp[h]
 .intros h;rw[Jv];simp at h;simp;intro h' h2;have:=h h';omega
def RX:Ok (Jb (.dat (.int i)) (.dat (.int j)) M) P↔(0<=j/\j<=1000000/\i.natAbs<2 ^ 64)/\P (.dat (.int (i ^ j.toNat))) M:=by
 erw[Jb,kI];symm;split
 .intros h;rw[zx];simp only[BB,DM]at h;simp[h]
 .intros h;rw[Jv];simp only[BB,DM,not_and]at h;simp only[false_iff,not_and];intro⟨a,b,c⟩;calc absurd c (h #[a,b])
def TF:Ok (kLt (.dat (.int i)) (.dat (.int j)) M) P↔P (.dat (.bl (decide (i<j)))) M:=zx
def MU:Ok (kLe (.dat (.int i)) (.dat (.int j)) M) P↔P (.dat (.bl (decide (i<=j)))) M:=zx
def Za:Ok (kGe (.dat (.int i)) (.dat (.int j)) M) P↔P (.dat (.bl (decide (j<=i)))) M:=zx
def FV:Ok (kEq (.dat (.int i)) (.dat (.int j)) M) P↔P (.dat (.bl (decide (i=j)))) M:=by
 have:kEq (.dat (.int i)) (.dat (.int j)) M=some (.dat (.bl (decide (V.int i=V.int j))),M):=rfl;rw[this,zx];simp
def Vv:Ok (kNe (.dat (.int i)) (.dat (.int j)) M) P↔P (.dat (.bl (decide (i≠j)))) M:=by
 have:kNe (.dat (.int i)) (.dat (.int j)) M=some (.dat (.bl (!decide (V.int i=V.int j))),M):=rfl;rw[this,zx];simp
def gC{x:EV}{xs:List D}(h:Bb M x=some xs)(hx:∀d,x=.dat d->HB d=none):Ok (kNe x (.fl []) M) P↔P (.dat (.bl (!xs.isEmpty))) M:=by
 let e1:Gd true x (.fl []) M=none:=by cases x <;> rfl
 let e2:kNe x (.fl []) M=some (.dat (.bl (!xs.isEmpty)),M):=by
  erw[kNe,kOr];rw[e1];erw[Iy];rw[h];rfl
 rw[e2,zx]
def IV{x:EV}{xs:List D}{d:D}(h:A7 M x=some xs)(hd:atI xs i=some d)(p:P (.dat d) M):Ok (kIx x (.dat (.int i)) M) P:=by
 have:kIx x (.dat (.int i)) M=some (.dat d,M):=by erw[kIx];symm;rw[h];symm;rw[hd]
 rw[this,zx];calc p
def N3{xs:List D}{k:Nat}{d:D}(h:xs[k]?=some d):atI xs (k:Int)=some d:=EI h
def UA{xs:List D}{i:Int}{d:D}(h0:0<=i)(h:xs[i.toNat]?=some d):atI xs i=some d:=by
 have:i=((i.toNat:Nat):Int):=()
 rw[this];calc EI h
def TM{x:EV}{xs:List D}(h:A7 M x=some xs):Ok (An [x] M) P↔P (.dat (.int xs.length)) M:=by
 have:An [x] M=some (.dat (.int xs.length),M):=by erw[An];symm;rw[h]
 rw[this,zx]
def MG{x:EV}{xs:List D}(h:A7 M x=some xs):Ok (BP [x] M) P↔P (.dat (.tup xs)) M:=by
 have:BP [x] M=some (.dat (.tup xs),M):=by erw[BP];symm;rw[h]
 rw[this,zx]
def RZ:Ok (Hc [.dat (.int i)] M) P↔P (.dat (.int (if i<0 then -i else i))) M:=zx
def QB{x:EV}{xs:List D}{lo hi:Ys}(h:Bb M x=some xs)(ht:Cc x=none):Ok (kSl x lo hi M) P↔P (.fl (B0 xs lo hi)) M:=by
 have:kSl x lo hi M=some (.fl (B0 xs lo hi),M):=by erw[kSl];rw[ht];symm;rw[h]
 rw[this,zx]
def zb{xs:List D}:A7 M (.dat (.tup xs))=some xs:=rfl
def Fh{xs:List D}:A7 M (.fl xs)=some xs:=rfl
def Rj{xs:List D}:Bb M (.fl xs)=some xs:=rfl
def Dv{n:Nat}{xs:List D}(h:M[n]?=some (.lst xs)):Bb M (.dat (.ref n))=some xs:=by erw[Bb];symm;rw[h]
def O9{n:Nat}{xs:List D}(h:M[n]?=some (.fro xs)):Bb M (.dat (.ref n))=some xs:=by erw[Bb];symm;rw[h]
def zy{n:Nat}{xs:List D}(h:M[n]?=some (.lst xs)):A7 M (.dat (.ref n))=some xs:=Dv h
def dC{n:Nat}{xs:List D}(h:M[n]?=some (.fro xs)):A7 M (.dat (.ref n))=some xs:=O9 h
def JY{n:Nat}{xs:List D}{d:D}{Q:D->Mem->Prop}(h:M[n]?=some (.lst xs))(hz:xs.length<sizeLine):Ok (CL (.dat (.ref n)) [d] M) Q↔Q .non (M.set n (.lst (xs++[d]))):=by
 have:CL (.dat (.ref n)) [d] M=some (.non,M.set n (.lst (xs++[d]))):=by erw[CL];symm;rw[h];symm;rw[AB hz]
 rw[this,zx]
def rQ{n:Nat}{x:D}{xs:List D}{Q:D->Mem->Prop}(h:M[n]?=some (.lst (x::xs))):Ok (F1 (.dat (.ref n)) [.int 0] M) Q↔Q x (M.set n (.lst xs)):=by
 have:F1 (.dat (.ref n)) [.int 0] M=some (x,M.set n (.lst xs)):=by
  erw[F1];symm;rw[h];symm;let e:ixN (x::xs).length 0=some 0:=by erw[ixN];rw[AB (),AB (by simp)];rfl
  rw[e];dsimp only[List.getElem?_cons_zero];rw[AB ()];rfl
 rw[this,zx]
def MS{n k:Nat}{xs:List D}{d:D}(h:M[n]?=some (.lst xs))(hk:k<xs.length):JA (.dat (.ref n)) (.int k) d M=some (M.set n (.lst (xs.set k d))):=by
 erw[JA];symm;rw[h];symm;let e:ixN xs.length (k:Int)=some k:=by erw[ixN];rw[AB (),AB ()];simp
 rw[e]
def Ue{m:FF}{ds:List D}{M:Mem}{Q:D->Mem->Prop}(h:Ok (m ds M) λd M1=>(D.und M.length d=true/\M.length<=M1.length/\∀(j:Nat) u,j<M.length->M1[j]?=some u->MO.und M.length u=true)/\Q d (M1.take M.length)):Ok (F8 m ds M) Q:=by
 let(d,M1,e,(h1,h2,h3),q):=h;erw[F8];rw[e];symm;rw[AB]
 .exact#[_,_,rfl,q]
 .simp only[BB,DM,Am];refine#[#[h1,λu hu=>?_],h2];let(j,hj):=List.getElem?_of_mem hu;let hlt:j<M.length:=by
   have:=(AI.mp hj).1;rw[D4]at this;omega
  rw[List.getElem?_take_of_lt hlt]at hj;calc h3 j u hlt hj
def Fp{m:FF}{ds:List D}{M:Mem}{Q:D->Mem->Prop}(h0:D.unds 0 ds=true)(h:Ok (m ds []) λd _=>D.und 0 d=true/\Q d M):Ok (DY m ds M) Q:=by
 let(d,M1,e,h1,q):=h;erw[DY];rw[AB h0,e];symm;rw[AB h1];calc#[_,_,rfl,q]
def TIt.but(x:h.IsTupleIter a t i)(hs:Heap.ExtBut b h h')(n:a≠b):h'.IsTupleIter a t i:=x.extBut hs n
def Tup.but(x:h.IsTuple a its)(hs:Heap.ExtBut b h h')(n:a≠b):h'.IsTuple a its:=x.extBut hs n
def LI(I:s.heap.IsTupleIter it t i)(T:s.heap.IsTuple t its)(hx:its[i]?=some x)
  (q:∀h',h'.IsTupleIter it t (i+1)->Heap.SameBut it s.heap h'->Q x {s with heap:=h' }):wpAny (model prog w) A (Builtin.SmallTypes.nextOf (.ref it)) Q E s:=by
 let(o,O,C,FD):=id I;let(u,U,_,m,G):=T;erw[Builtin.SmallTypes.nextOf];calc AA (CP I.typeIs PySem.F.slot_tuple_iterator_next (BQ PySem.F.slot_tuple_iterator_next I.typeIs PySem.F.entry_tuple_iterator_next ?_ (PySem.F.args_tuple_iterator_next_1 _)));calc AA (m:=field (.ref it) 0) (Bi O FD (x:=.ref t) rfl ?_);rw[AE (show¬ ((Value.ref t==Value.none)=true)by calc Ax)];calc AA (Bi O FD rfl ?_);calc AA (Ef U G ?_);simp only[hx,FU];calc AA (Dt O FD (by simp) (AD #[x,rfl,AD (q _ #[_,El _ O (Obj.isFreed_of_fields (EB FD _)),(Obj.cls_mapFields ..).trans C,?_] (DL ..))]));rw[EB FD];simp[rawInt]
def KA(hh:A.handled=none)(I:s.heap.IsTupleIter it t i)(T:s.heap.IsTuple t its)(hx:its[i]?=none)
  (q:∀h' e,Heap.ExtBut it s.heap h'->(∃o,h'.get? e=some o/\o.cls=.type "StopIteration")->E (.ref e) {s with heap:=h' }):wpAny (model prog w) A (Builtin.SmallTypes.nextOf (.ref it)) Q E s:=by
 let(o,O,C,FD):=id I;let(u,U,_,m,G):=T;erw[Builtin.SmallTypes.nextOf];calc AA (CP I.typeIs PySem.F.slot_tuple_iterator_next (BQ PySem.F.slot_tuple_iterator_next I.typeIs PySem.F.entry_tuple_iterator_next ?_ (PySem.F.args_tuple_iterator_next_1 _)));calc AA (m:=field (.ref it) 0) (Bi O FD (x:=.ref t) rfl ?_);rw[AE (show¬ ((Value.ref t==Value.none)=true)by calc Ax)];calc AA (Bi O FD rfl ?_);calc AA (Ef U G ?_);simp only[hx,FU];calc AA (CS (AA (Dt O FD (by simp) ?_)));calc AA ?_;simp only[newTuple,newExc];calc AA (BH (AA (wpAny_of_eq (by first|rfl|(simp only[firstArgMember];rfl)) (BH ?_ (by size_fits)))) (by size_fits));simp only[raiseNew];calc AA (wpAny_handled ?_);first|rw[hh]|rw[show A.in1.handled=none from hh]
 calc AA (AD (wpAny_throw (q _ _ (((DL ..).extBut.push _).push _) #[_,AS _ rfl,rfl])))
structure ZipT(h:Heap)(z TI TO i1 i2 t1 t2:Yt)(f:Yu)(k1 k2:Nat):Prop where
 z:IsZip h z TI TO f
 ti:IsPair h TI (.ref i1) (.ref i2)
 to:∃a b,IsPair h TO a b
 a:h.IsTupleIter i1 t1 k1
 b:h.IsTupleIter i2 t2 k2
def lN{z TI TO i1 i2 t1 t2:Yt}{k:Nat}{xs ys:Yp}{x y:Yu}{Q:Option Value->Shared->Prop}(D:ZipApart z TI TO i1 i2 t1 t2)(Z:ZipT s.heap z TI TO i1 i2 t1 t2 .none k k)
  (T1:s.heap.IsTuple t1 xs) (T2:s.heap.IsTuple t2 ys) (hx:xs[k]?=some x) (hy:ys[k]?=some y)
  (q:∀h',ZipT h' z TI TO i1 i2 t1 t2 (rawInt ⇑s) (k+1) (k+1)->IsPair h' ⇑s x y ->
   (∀c o,c∉[z,TO,i1,i2]->s.heap.get? c=some o->h'.get? c=some o)->Q (some (.ref ⇑s)) {s with heap:=h' }):wpAny (model prog w) A (pyNext (.ref z)) Q E s:=by
 let(Z0,P0,(a,b,O0),I1,I2):=Z;let ty:s.TypeIs (.ref z) "zip" := #[_,Z0,rfl];erw[pyNext];calc AA (DS (CP ty PySem.F.slot_zip_next (BQ PySem.F.slot_zip_next ty PySem.F.entry_zip_next ?_ (PySem.F.args_zip_next_1 _))));calc AA (m:=field (.ref z) 2) (Bi Z0 rfl rfl ?_);calc AA (Bi Z0 rfl rfl ?_);calc AA (Ef P0 rfl ?_);calc AA ?_;erw[Builtin.SmallTypes.ownedTupleIsFree];calc AA (Bi Z0 rfl rfl (AD ?_));simp only[if_true];refine AA (CS (AA (Bi Z0 rfl rfl (AA (D5 Z0 (by simp) λh1 Z1 e1=>?_)))));replace Z1:IsZip h1 z TI TO .ellipsis:=Z1;calc AA ?_;simp only[List.forIn_cons,List.forIn_nil,List.zipIdx_cons,List.zipIdx_nil];refine AA (AA (wpAny_onRaise (AA (LI (TIt.but I1 e1.extBut D.i1z) (Tup.but T1 e1.extBut D.l1z) hx λh2 J1 e2=>AD ?_))));let O2:IsPair h2 TO a b:=e2.extBut _ _ D.TOi1 (e1.extBut _ _ D.TOz O0);refine AA (Ef O2 rfl (AA (wpAny_updateSeq_pair O2 λh3 O3 e3=>AA (wpAny_letGo (AD ?_)))));replace O3:IsPair h3 TO x b:=O3
 refine AA (AA (wpAny_onRaise (AA (LI (TIt.but (TIt.but (TIt.but I2 e1.extBut D.i2z) e2.extBut D.i12.symm) e3.extBut D.TOi2.symm)
  (Tup.but (Tup.but (Tup.but T2 e1.extBut D.l2z) e2.extBut D.l2i1) e3.extBut D.l2TO) hy λh4 J2 e4=>AD ?_))))
 let O4:IsPair h4 TO x b:=e4.extBut _ _ D.TOi2 O3;refine AA (Ef O4 rfl (AA (wpAny_updateSeq_pair O4 λh5 O5 e5=>AA (wpAny_letGo (AD (AD ?_))))));replace O5:IsPair h5 TO x y:=O5;calc AA (Ef O5 rfl (AA (wpAny_newTuple ?_)));let sz:h5.objs.size=⇑s:=by rw[e5.1,e4.1,e3.1,e2.1,e1.1]
 let Z5:IsZip h5 z TI TO .ellipsis:=e5.extBut _ _ D.TOz.symm (e4.extBut _ _ D.i2z.symm (e3.extBut _ _ D.TOz.symm (e2.extBut _ _ D.i1z.symm Z1)));let kp:∀c o,c∉[z,TO,i1,i2]->s.heap.get? c=some o->h5.get? c=some o:=λc o n e=>by
  simp only[AK,Bq,Br,not_or]at n;let(n1,n2,n3,n4):=n;exact e5.extBut _ _ n2 (e4.extBut _ _ n4 (e3.extBut _ _ n2 (e2.extBut _ _ n3 (e1.extBut _ _ n1 e))))
 let A5:h5.IsTupleIter i1 t1 (k+1):=TIt.but (TIt.but (TIt.but J1 e3.extBut D.TOi1.symm) e4.extBut D.i12) e5.extBut D.TOi1.symm;let B5:h5.IsTupleIter i2 t2 (k+1):=TIt.but J2 e5.extBut D.TOi2.symm;let zl:z<h5.objs.size:=AH Z5;calc AA ?_;erw[Builtin.SmallTypes.ownedTupleHandOut];let Z6:IsZip (h5.push {cls:=.type "tuple",data:=.seq ([x,y].toArray) }) z TI TO .ellipsis:=AJ _ Z5;refine AA (D5 Z6 (by simp) λh7 Z7 e7=>?_);replace Z7:IsZip h7 z TI TO (rawInt h5.objs.size):=Z7;refine D5 Z7 (by simp) λh8 Z8 e8=>?_;replace Z8:IsZip h8 z TI TO (rawInt h5.objs.size):=Z8;let up:∀c o,c≠z->h5.get? c=some o->h8.get? c=some o:=λc o n e=>e8.extBut _ _ n (e7.extBut _ _ n (AJ _ e));let N8:IsPair h8 h5.objs.size x y:=e8.extBut _ _ (Cr zl) (e7.extBut _ _ (Cr zl) (AS _ rfl));rw[sz]at Z8 N8;calc AD #[_,rfl,?_];rw[sz];refine AD (q h8 #[Z8,up _ _ D.TIz (kp _ _ (by simp[D.TIz,D.TITO,D.TIi1,D.TIi2]) P0),#[_,_,up _ _ D.TOz O5],?_,?_] N8 λc o n e=>up c o (λm=>n (by simp[m])) (kp c o n e))
 .obtain⟨o,e,r⟩:=A5;exact#[o,up _ _ D.i1z e,r]
 .obtain⟨o,e,r⟩:=B5;calc#[o,up _ _ D.i2z e,r]
def X0{z TI TO i1 i2 t1 t2:Yt}{k:Nat}{xs ys:Yp}{Q:Option Value->Shared->Prop}(hh:A.handled=none)(D:ZipApart z TI TO i1 i2 t1 t2)(Z:ZipT s.heap z TI TO i1 i2 t1 t2 .none k k)
  (T1:s.heap.IsTuple t1 xs) (T2:s.heap.IsTuple t2 ys) (he:xs[k]?=none\/ys[k]?=none)
  (q:∀h',(∀c o,c∉[z,TO,i1,i2]->s.heap.get? c=some o->h'.get? c=some o)->Q none {s with heap:=h' }):wpAny (model prog w) A (pyNext (.ref z)) Q E s:=by
 let(Z0,P0,(a,b,O0),I1,I2):=Z;let ty:s.TypeIs (.ref z) "zip" := #[_,Z0,rfl]
 let stop:∀(e:Addr)(h':Heap),(∀c o,c∉[z,TO,i1,i2]->s.heap.get? c=some o->h'.get? c=some o)->(∃o,h'.get? e=some o/\o.cls=.type "StopIteration") ->
   wpAny (model prog w) A (do if(<- isInstance (.ref e) (.type "StopIteration"))then pure none else throw (.ref e):Sem (Option Value)) Q E {s with heap:=h' }:=λe h' k1 ⟨o,e1,e2⟩=>
  AA (wpAny_isInstance #[o,e1,e2] isSubtype_stop (AD (q h' k1)))
 erw[pyNext];calc AA (DS (CP ty PySem.F.slot_zip_next (BQ PySem.F.slot_zip_next ty PySem.F.entry_zip_next ?_ (PySem.F.args_zip_next_1 _))));calc AA (m:=field (.ref z) 2) (Bi Z0 rfl rfl ?_);calc AA (Bi Z0 rfl rfl ?_);calc AA (Ef P0 rfl ?_);calc AA ?_;erw[Builtin.SmallTypes.ownedTupleIsFree];calc AA (Bi Z0 rfl rfl (AD ?_));simp only[if_true];refine AA (CS (AA (Bi Z0 rfl rfl (AA (D5 Z0 (by simp) λh1 Z1 e1=>?_)))));replace Z1:IsZip h1 z TI TO .ellipsis:=Z1;calc AA ?_;simp only[List.forIn_cons,List.forIn_nil,List.zipIdx_cons,List.zipIdx_nil];cases hx:xs[k]? with
 |none=>
  refine AA (AA (wpAny_onRaise (AA (KA hh (TIt.but I1 e1.extBut D.i1z) (Tup.but T1 e1.extBut D.l1z) hx λh2 e e2 he=>?_))));let(oe,o1,o2):=he;let Z2:IsZip h2 z TI TO .ellipsis:=e2 _ _ D.i1z.symm Z1;let ne:e≠z:=λm=>by subst m;rw[Z2]at o1;ext o1;simp at o2
  refine D5 Z2 (by simp) λh3 _ e3=>stop e h3 (λc o n x=>?_) #[oe,e3.extBut _ _ ne o1,o2];simp only[AK,Bq,Br,not_or]at n;calc e3.extBut _ _ n.1 (e2 _ _ n.2.2.1 (e1.extBut _ _ n.1 x))
 |some x=>
  let hy:ys[k]?=none:=by
   rcases he with m|m
   .rw[hx]at m;ext m
   .exact m
  refine AA (AA (wpAny_onRaise (AA (LI (TIt.but I1 e1.extBut D.i1z) (Tup.but T1 e1.extBut D.l1z) hx λh2 J1 e2=>AD ?_))));let O2:IsPair h2 TO a b:=e2.extBut _ _ D.TOi1 (e1.extBut _ _ D.TOz O0);refine AA (Ef O2 rfl (AA (wpAny_updateSeq_pair O2 λh3 O3 e3=>AA (wpAny_letGo (AD ?_)))))
  refine AA (AA (wpAny_onRaise (AA (KA hh (TIt.but (TIt.but (TIt.but I2 e1.extBut D.i2z) e2.extBut D.i12.symm) e3.extBut D.TOi2.symm)
   (Tup.but (Tup.but (Tup.but T2 e1.extBut D.l2z) e2.extBut D.l2i1) e3.extBut D.l2TO) hy λh4 e e4 he=>?_))))
  let(oe,o1,o2):=he;let Z4:IsZip h4 z TI TO .ellipsis:=e4 _ _ D.i2z.symm (e3.extBut _ _ D.TOz.symm (e2.extBut _ _ D.i1z.symm Z1));let ne:e≠z:=λm=>by subst m;rw[Z4]at o1;ext o1;simp at o2
  refine D5 Z4 (by simp) λh5 _ e5=>stop e h5 (λc o n x=>?_) #[oe,e5.extBut _ _ ne o1,o2];simp only[AK,Bq,Br,not_or]at n;calc e5.extBut _ _ n.1 (e4 _ _ n.2.2.2 (e3.extBut _ _ n.2.1 (e2.extBut _ _ n.2.2.1 (e1.extBut _ _ n.1 x))))
abbrev Ia(h:Heap)(a:Addr):Heap:=h.push {cls:=.type "tuple_iterator",data:=.fields ([.ref a,.int 0 0].toArray) }
abbrev J9(h:Heap)(a b:Yt):Heap:=Ia (Ia h a) b
abbrev Kl(h:Heap)(a b:Addr):Heap:=(J9 h a b).push {cls:=.type "tuple",data:=.seq ([.ref h.objs.size,.ref (Ia h a).objs.size].toArray) }
abbrev KG(h:Heap)(a b:Addr):Heap:=(Kl h a b).push {cls:=.type "tuple",data:=.seq ([.none,.none].toArray) }
abbrev HQ(h:Heap)(a b:Addr):Heap:=(KG h a b).push {cls:=.type "zip",data:=.fields ([.none,.bool false,.bool false,.ref (J9 h a b).objs.size,.ref (Kl h a b).objs.size].toArray) }
def jB(a b:Addr)(xs ys:Array Value):Meets (Builtin.«zip.__new__» #[[.type "zip", .ref a,.ref b],[]]) (λ_ R s=>s.heap.IsTuple a xs/\s.heap.IsTuple b ys/\R (.ok (.ret (.ref (KG s.heap a b).objs.size))) {s with heap:=HQ s.heap a b}) :=
 .of_wp λprog w A R s h=>by
  let(hp,g,d,tk,os):=s;let(Ta,Tb,h):=h;let sz:=sub_zip;let U1:Heap.IsTuple (Shared.heap ⟨hp,g,d,tk,os⟩) a xs:=Ta;let U2:Heap.IsTuple (Shared.heap ⟨hp.push {cls:=.type "tuple_iterator",data:=.fields ([.ref a,.int 0 0].toArray) },g,d,tk,os⟩) b ys:=Heap.IsTuple.push Tb _;wp_walk using wpAny_pyIter_tuple U1,wpAny_pyIter_tuple U2;calc#[_,rfl,h]
def Wf(Ta:s.heap.IsTuple a xs)(Tb:s.heap.IsTuple b ys)
  (h:∀h',ZipT h' (⇑s+4) (⇑s+2) (⇑s+3) ⇑s (⇑s+1) a b .none 0 0->(∀c o,s.heap.get? c=some o->h'.get? c=some o)->Q (.ref (⇑s+4)) {s with heap:=h' }):
  wpAny (model prog w) A (call (.type "zip") [.ref a,.ref b]) Q E s:=by
 refine callType_new PySem.F.called_zip () (PySem.F.typeCall_zip_2 _ _) (PySem.F.newCall_zip_2 _ _) (λobj=>PySem.F.args_object_init_3 obj _ _) PySem.F.entry_zip_new (jB a b xs ys) #[Ta,Tb,?_];let q1:(Ia s.heap a).objs.size=⇑s+1:=Bo ..;let q2:(J9 s.heap a b).objs.size=⇑s+2:=by rw[Bo,q1]
 let q3:(Kl s.heap a b).objs.size=⇑s+3:=by rw[Bo,q2]
 let q4:(KG s.heap a b).objs.size=⇑s+4:=by rw[Bo,q3]
 let u:∀{h:Heap}{c:Yt}{o p:Obj},h.get? c=some o->(h.push p).get? c=some o:=λe=>AJ _ e;let p5:(HQ s.heap a b).get? (KG s.heap a b).objs.size=some _:=AS _ rfl;let p4:(HQ s.heap a b).get? (Kl s.heap a b).objs.size=some _:=u (AS _ rfl);let p3:(HQ s.heap a b).get? (J9 s.heap a b).objs.size=some _:=u (u (AS _ rfl));let p2:(HQ s.heap a b).get? (Ia s.heap a).objs.size=some _:=u (u (u (AS _ rfl)));let p1:(HQ s.heap a b).get? ⇑s=some _:=u (u (u (u (AS _ rfl))));rw[q2,q3,q4]at p5;rw[q1,q2]at p3;rw[q3]at p4;rw[q1]at p2;rw[q4];calc#[#[_,p5,rfl],h _ #[p5,p3,#[_,_,p4],#[_,p1,rfl,rfl],#[_,p2,rfl,rfl]] λc o x=>u (u (u (u (u x))))]
def MB{X:Cx}{zB:Yd}{Y:L2.St}{H:Hp}{s:Yl}{h':Heap}{t':Nat}{ch:Yg}{T:Yt}{o:HO}(I:Inv X zB Y H s)(hf:∀b∈ch,BN X zB H b)
  (k:∀b u,b∉ch->s.heap.get? b=some u->h'.get? b=some u) (hT:⇑s<=T) (new:Ah X.prog X.w (upd H T o) h' T o):Inv X zB Y (upd H T o) {s with heap:=h',toks:=t' }:=by
 let hn:H T=none:=I.hok.fresh hT;let nch:∀b u,H b=some u->b∉ch:=λb u e z=>by rw[(hf b z).1]at e;ext e
 let un:∀b u,H b=some u->upd H T o b=some u:=λb u e=>by rw[zT (zf e hn)];exact e
 refine I.step (λb hb=>#[(hf b hb).2.2.2.1,(hf b hb).2.1,(hf b hb).2.2.2.2.1,(hf b hb).2.2.2.2.2]) (λb u _ _ hc e _=>k b u hc e) (λb u _ _ hc e _=>#[u.slots,k b u hc e])
  (λb u _ e n=>by rw[zT (λz=>by rw[z]at e;calc absurd (AH e) (Nat.not_lt.mpr hT))];calc n) (λb u hc e=>#[u,k b u hc e]) (λb xs e=>un b _ e) (λb p u e=>un b _ e) (λb ps e=>#[#[],by rw[un b _ e];simp]) (λm hm=>?_) (λb u e=>?_) I.bare
 .obtain⟨p,es,ep,ho,r⟩:=hm;exact#[p,es,ep,k _ p (λz=>(hf _ z).2.1 rfl) ho,r]
 .by_cases hb:b=T
  .subst hb;rw[zk]at e;ext e;exact new
  .rw[zT hb]at e;refine(I.hok b u e).stay (λc v hc q=>k c v ?_ q) (λc q=>un c _ q) λc xs q=>un c _ q;rcases hc with z|z
   .rw[z];exact nch b u e
   .exact nch c _ z
def MP{X:Cx}{zB:Yd}{Y:L2.St}{H:Hp}{s:Yl}{h':Heap}{t':Nat}{ch:Yg}(I:Inv X zB Y H s)(hf:∀b∈ch,BN X zB H b)
  (k:∀b u,b∉ch->s.heap.get? b=some u->h'.get? b=some u):Inv X zB Y H {s with heap:=h',toks:=t' }:=by
 let nch:∀b u,H b=some u->b∉ch:=λb u e z=>by rw[(hf b z).1]at e;ext e
 refine I.step (λb hb=>#[(hf b hb).2.2.2.1,(hf b hb).2.1,(hf b hb).2.2.2.2.1,(hf b hb).2.2.2.2.2]) (λb u _ _ hc e _=>k b u hc e) (λb u _ _ hc e _=>#[u.slots,k b u hc e])
  (λb u _ e n=>n) (λb u hc e=>#[u,k b u hc e]) (λb xs e=>e) (λb p u e=>e) (λb ps e=>#[#[],by rw[e];simp]) (λm hm=>?_) (λb u e=>?_) I.bare
 .obtain⟨p,es,ep,ho,r⟩:=hm;exact#[p,es,ep,k _ p (λz=>(hf _ z).2.1 rfl) ho,r]
 .refine(I.hok b u e).stay (λc v hc q=>k c v ?_ q) (λc q=>q) λc xs q=>q;rcases hc with z|z
  .rw[z];exact nch b u e
  .exact nch c _ z
def Itz(K:Yb)(a b:Yt):It :=
 #[λi H=>∃xs ys x y,SqT K H a xs/\SqT K H b ys/\xs[i]?=some x/\ys[i]?=some y,
  λi H v H'=>∃T x y,v=.ref T/\H T=none/\H'=upd H T (.tup [x,y])/\(∀xs,SqT K H a xs->xs[i]?=some x)/\∀ys,SqT K H b ys->ys[i]?=some y,
  λi H=>∃xs ys,SqT K H a xs/\SqT K H b ys/\(xs.length<=i\/ys.length<=i)]
def ZR{P:Ym}{w:Yo}{K:Yb}{es:Yi}{ek:Nat}{ep:Pos}{z TI TO i1 i2 a b:Yt}(D:ZipApart z TI TO i1 i2 a b):
  Turn P w K (.Tuple es ek ep) (Itz K a b) [z,TI,TO,i1,i2] z (λi h=>ZipT h z TI TO i1 i2 a b .none i i) where
 mem:=by simp
 obj:=λi h Z c hc=>by
  let(Z0,P0,(x,y,O0),(o1,e1,_,d1),(o2,e2,_,d2)):=Z;simp only[AK,Bq,Br]at hc;rcases hc with rfl|rfl|rfl|rfl|rfl
  .exact#[_,Z0,λv m=>by ext m]
  .exact#[_,P0,λv m=>by ext m]
  .exact#[_,O0,λv m=>by ext m]
  .exact#[_,e1,λv m=>by rw[d1]at m;ext m]
  .exact#[_,e2,λv m=>by rw[d2]at m;ext m]
 keep:=λi h h' Z k=>by
  let(Z0,P0,(x,y,O0),(o1,e1,r1),(o2,e2,r2)):=Z;exact#[k z (by simp) _ Z0,k TI (by simp) _ P0,#[x,y,k TO (by simp) _ O0],#[o1,k i1 (by simp) _ e1,r1],#[o2,k i2 (by simp) _ e2,r2]]
 item:=by
  intro X hP hw hK hc i zB s Y H E I hf Z hg;subst hP hw hK;let(xs,ys,x,y,sa,sb,hx,hy):=hg;let(its,rv,p1,z1):=I.tuple sa;let(its2,rv2,p2,z2):=I.tuple sb;let(u,hu,ru):=rv.get hx;let(u2,hu2,ru2):=rv2.get hy;refine lN D Z (show s.heap.IsTuple a its.toArray from p1) (show s.heap.IsTuple b its2.toArray from p2) (~~~hu) (~~~hu2) λh' Z' N' kp=>#[_,rfl,?_];refine wpAny_letOwnedTupleGo_zip Z'.z λh2 Z2 e2=>?_;let hch:∀c∈[z,TO,i1,i2],BN X zB H c:=λc hm=>hf c (by
   simp only[AK,Bq,Br]at hm ⊢;rcases hm with q|q|q|q <;> simp[q])
  let kk:∀c o,c∉[z,TO,i1,i2]->s.heap.get? c=some o->h2.get? c=some o:=λc o n e=>e2.extBut _ _ (λm=>n (by simp[m])) (kp c o n e);let zlt:z<⇑s:=AH Z.z;let NT:IsPair h2 ⇑s u u2:=e2.extBut _ _ (Cr zlt) N';let hfr:H ⇑s=none:=I.hok.fresh (AF _);refine#[.ref ⇑s,upd H ⇑s (.tup [x,y]),MB (s:=s) I hch kk (AF _) ?_,rfl,#[_,x,y,rfl,hfr,rfl,λws hw=>?_,λws hw=>?_],?_,λc hm=>?_]
  .exact#[by show 2<=sizeLine;decide,[u,u2],.cons ru (.cons ru2 .nil),#[_,NT,rfl,#[_,rfl],rfl]]
  .rw[I.tuple_inj hw sa];exact hx
  .rw[I.tuple_inj hw sb];exact hy
  .obtain⟨_,P1,⟨q1,q2,O1⟩,⟨o1,f1,r1⟩,⟨o2,f2,r2⟩⟩:=Z';exact#[Z2,e2.extBut _ _ D.TIz P1,#[q1,q2,e2.extBut _ _ D.TOz O1],#[o1,e2.extBut _ _ D.i1z f1,r1],#[o2,e2.extBut _ _ D.i2z f2,r2]]
  .have lt:c<⇑s:=by
    let(Z0,P0,(q1,q2,O0),(o1,f1,_),(o2,f2,_)):=Z;simp only[AK,Bq,Br]at hm;rcases hm with rfl|rfl|rfl|rfl|rfl
    .exact AH Z0
    .exact AH P0
    .exact AH O0
    .exact AH f1
    .exact AH f2
   rw[zT (AZ lt)];exact(hf c hm).1
 done:=by
  intro X hP hw hK hc i zB s Y H E I hf Z hg;subst hP hw hK;let(xs,ys,sa,sb,hz):=hg;let(its,rv,p1,z1):=I.tuple sa;let(its2,rv2,p2,z2):=I.tuple sb;let l1:=rv.length;let l2:=rv2.length;refine X0 (I.ok.hd hc) D Z (show s.heap.IsTuple a its.toArray from p1) (show s.heap.IsTuple b its2.toArray from p2) ?_ λh' kp=>#[rfl,MP I (λc hm=>hf c (by
   simp only[AK,Bq,Br]at hm ⊢;rcases hm with q|q|q|q <;> simp[q])) kp]
  rcases hz with q|q
  .exact .inl (by simp;omega)
  .exact .inr (by simp;omega)
 self:=λ_ _ _ _ _ Z h=>wpAny_pyIter_zip Z.z h
def XT{ta:TA}(hg:Gl X "zip")(hm:X.mg "zip" = none)(ha:PA X [a,b] ta)(hs:starEach [a,b] X.env=[(false,eval a X.env),(false,eval b X.env)]:=by rfl)(hs2:starEach [b] X.env=[(false,eval b X.env)]:=by rfl):
  PI X (.Tuple es ek ep) (.Call (.Name "zip" p) [a,b] [] pos) (λY H R=>ta Y H λvs H1=>∃l1 l2 xs ys,vs=[.ref l1,.ref l2]/\SqT X.K H1 l1 xs/\SqT X.K H1 l2 ys/\R (Itz X.K l1 l2) H1):=by
 intro zB s Y H R I h;refine Call_ (Gf I hg hm (by rfl) (PyProof.Rows.callWith_type1 (thn (ha pos zB s Y H _ I h) λus s1 ⟨vs,H1,I1,r1,q1⟩=>?_) (by rw[hs,hs2]) (by rw[hs2];rfl)));let(l1,l2,xs,ys,rfl,s1',s2',q):=q1;cases r1 with
 |cons r rr=>
  cases rr with
  |cons r' rr=>
   ext rr;ext r;ext r';let(its,rv,p1,_):=I1.tuple s1';let(its2,rv2,p2,_):=I1.tuple s2';let d1:l1<⇑s1:=by let(_,e,_):=p1;exact AH e
   let d2:l2<⇑s1:=by let(_,e,_):=p2;exact AH e
   refine Wf (show s1.heap.IsTuple l1 its.toArray from p1) (show s1.heap.IsTuple l2 its2.toArray from p2) λh' Z kp=>wpAny_pyIter_zip Z.z ?_;refine#[⇑s1+4,[⇑s1+4,⇑s1+2,⇑s1+3,⇑s1,⇑s1+1],_,_,H1,rfl,I1.kept kp,ZR (zipApart_new d1 d2),Z,λc hc=>?_,q];let ge:⇑s1<=c:=by
    simp only[AK,Bq,Br]at hc;rcases hc with rfl|rfl|rfl|rfl|rfl
    .exact Nat.le_add_right _ 4
    .exact Nat.le_add_right _ 2
    .exact Nat.le_add_right _ 3
    .exact AF _
    .exact Nat.le_add_right _ 1
   calc I1.fpOk ge (I1.hok.fresh ge)
def Iv(g:FA):FI:=λY M=>match g Y M with
 |some ([.tup xs,.tup ys],M1)=>some ((xs.zip ys).map λq=>D.tup [q.1,q.2],none,M1)
 |_=>none
def bD(hg:Gl X "zip")(hm:X.mg "zip" = none)(ha:QA X [a,b] g)(hs:starEach [a,b] X.env=[(false,eval a X.env),(false,eval b X.env)]:=by rfl)(hs2:starEach [b] X.env=[(false,eval b X.env)]:=by rfl):
  QI X (.Tuple es ek ep) (.Call (.Name "zip" p) [a,b] [] pos) (Iv g):=.mk <| PI.imp (XT hg hm ha.un hs hs2) λτ H R zz=>by
 let(L,Y,M,xs,gd,M',c,rs,hf,q):=zz;erw[Iv]at hf;cbv at hf
 .intros ds es' M1 e1;ext hf;refine#[L,Y,M,_,_,c,rs,e1,λL1 H1 vs s1 c1 r1=>?_];let(v,v',rfl,r2,r3):=r1.two;unfold Rep at r2 r3;let(l1,ws1,rfl,h1,q1):=r2;let(l2,ws2,rfl,h2,q2):=r3;refine#[l1,l2,ws1,ws2,rfl,.of h1,.of h2,q L1 H1 _ s1 c1 λL2 H2 M2 s2 c2 _=>?_];let k1:=s2.tup l1 ws1 h1;let k2:=s2.tup l2 ws2 h2;let p1:=q1.stp s2;let p2:=q2.stp s2;refine#[λi d hd=>?_,#[ws1,ws2,.of k1,.of k2,?_]]
  .rw[Au]at hd;cases e2:(ds.zip es')[i]? with
   |none=>rw[e2]at hd;ext hd
   |some pr=>
    rw[e2]at hd;ext hd;let(f1,f2):=List.getElem?_zip_eq_some.mp e2;let(u,hu,ru):=p1.get f1;let(u2,hu2,ru2):=p2.get f2;refine#[#[ws1,ws2,u,u2,.of k1,.of k2,hu,hu2],λv H3 hy=>?_];let(T,x,y,rfl,hT,rfl,hxx,hyy):=hy;let ex:=hxx ws1 (.of k1);let ey:=hyy ws2 (.of k2);rw[hu]at ex;ext ex;rw[hu2]at ey;ext ey;exact#[λa o e=>by rw[zT (zf e hT)];calc e,Rep.newTup hT (.cons ru (.cons ru2 .nil))]
  .rw[AG,List.length_zip,p1.length,p2.length];omega
 .ext hf
def C0(i j:Nat):FG:=λd Y=>match d with
 |.tup [x,y]=>some ((Y.set i (some x)).set j (some y))
 |_=>none
abbrev gP2(K:Yb)(i j:Nat):TG:=Ib K 2 (Ek (CY i) (Ek (CY j) Jd))
def jS{K:Yb}{i j:Nat}:GOk (gP2 K i j) (C0 i j):=by
 intro L H Y Y' τ d v Q rs r hf q;erw[C0]at hf;cbv at hf
 .intros x y;ext hf;erw[Rep]at r;let(a,vs,rfl,e,r):=r;let(v1,v2,rfl,r1,r2):=r.two;exact#[a,_,rfl,.of e,rfl,v1,[v2],rfl,v2,[],rfl,rfl,q _ ((rs.set r1).set r2)]
 .ext hf
def Q7{K:Yb}{own:Yj}{i j:Nat}(hi:i∈own)(hj:j∈own):Cf own (gP2 K i j) (C0 i j):=by
 intro L H Y Y' τ τ0 d v Q rs ex r hf q;erw[C0]at hf;cbv at hf
 .intros x y;ext hf;erw[Rep]at r;let(a,vs,rfl,e,r):=r;let(v1,v2,rfl,r1,r2):=r.two;exact#[a,_,rfl,.of e,rfl,v1,[v2],rfl,v2,[],rfl,rfl,q _ ((rs.set r1).set r2) ((ex.set hi).set hj)]
 .ext hf
section
variable{X:Cx}{a b c e:Expr}{es:Yi}{pos p p2 pos2:Pos}{f g h:FE}
theorem LV:∀{bs:List Bool}{its:Yf},zd (bs.map V.bl) its->∀(i:Nat) v,its[i]?=some v->∃k,bs[i]?=some k/\v=.bool k
 |[],_,.nil,_,_,h=>by simp at h
 |k::bs,_,.cons r t,0,v,h=>by
  simp at h;subst h;calc#[k,rfl,r]
 |k::bs,_,.cons r t,i+1,v,h=>by
  let(k',e1,e2):=LV t i v (~~~h);calc#[k',by simpa using e1,e2]
def Zc(bs:List Bool):((List.range bs.length).all λi=>(bs[i]?).getD true)=bs.all id:=by
 rw[Ew,Am,Am];constructor
 .intro q k hk;let(i,hi,rfl):=Dm hk;have:=q i (A9.mpr hi);rw[AO hi]at this;exact this
 .intro q i hi;rw[AO (A9.mp hi)];calc q _ (Bc _)
def oX(bs:List Bool):((List.range bs.length).any λi=>(bs[i]?).getD false)=bs.any id:=by
 rw[Ew,List.any_eq_true,List.any_eq_true];constructor
 .rintro⟨i,hi,q⟩;rw[AO (A9.mp hi)]at q;exact#[_,Bc _,q]
 .rintro⟨k,hk,q⟩;let(i,hi,rfl):=Dm hk;calc#[i,A9.mpr hi,by rw[AO hi];calc q]
def OI(K:Yb)(F:List Bool->Bool):List V->Hp->VK->Prop:=λxs H Q=>∃q bs,xs=[.ref q]/\SqL K H q (bs.map V.bl)/\Q (.bl (F bs)) H
def Wm(hc:X.calm=true):B1 X (.builtin "all") (OI X.K λbs=>bs.all id):=by
 intro zB s Y H xs us Q I r h;let(l,bs,rfl,hq,q):=h;let(u,rfl,rx):=DZ r;ext rx;let(its,rv,pl,_):=I.list hq;let hlt:l<⇑s:=by let(_,z,_):=pl.isList;exact AH z
 refine call_all_walk (wpAny_pyIter_list pl.isList #[⇑s,[⇑s,l],[⇑s],its.toArray.size,_,_,λi=>(bs[i]?).getD true,rfl,Walks.list (A:=X.A.in1) (I.ok.hd hc) _ l (AZ hlt) its.toArray,
  #[#[_,AS _ rfl,rfl,rfl],pl.isList.push _],λi v s' Q' E' hP hQ=>?_,λh' tk hk=>?_])
 .obtain⟨k,z,rfl⟩:=LV rv i v (~~~hP);dsimp only at hQ;rw[z]at hQ;exact EO hQ
 .have hl:=rv.length;rw[AG]at hl;rw[AX,<-hl,Zc];calc#[.bl _,H,I.kept (t':=tk) λb o z=>hk b o (λm=>by rw[Ac.mp m]at z;calc BS _ (AH z)) (AJ _ z),rfl,q]
def oJ(hc:X.calm=true):B1 X (.builtin "any") (OI X.K λbs=>bs.any id):=by
 intro zB s Y H xs us Q I r h;let(l,bs,rfl,hq,q):=h;let(u,rfl,rx):=DZ r;ext rx;let(its,rv,pl,_):=I.list hq;let hlt:l<⇑s:=by let(_,z,_):=pl.isList;exact AH z
 refine call_any_walk (wpAny_pyIter_list pl.isList #[⇑s,[⇑s,l],[⇑s],its.toArray.size,_,_,λi=>(bs[i]?).getD false,rfl,Walks.list (A:=X.A.in1) (I.ok.hd hc) _ l (AZ hlt) its.toArray,
  #[#[_,AS _ rfl,rfl,rfl],pl.isList.push _],λi v s' Q' E' hP hQ=>?_,λh' tk hk=>?_])
 .obtain⟨k,z,rfl⟩:=LV rv i v (~~~hP);dsimp only at hQ;rw[z]at hQ;exact EO hQ
 .have hl:=rv.length;rw[AG]at hl;rw[AX,<-hl,oX];calc#[.bl _,H,I.kept (t':=tk) λb o z=>hk b o (λm=>by rw[Ac.mp m]at z;calc BS _ (AH z)) (AJ _ z),rfl,q]
def F9:List D->Option (List Bool)
 |[]=>some []
 |.bl k::r=>match F9 r with
  |some bs=>some (k::bs)
  |none=>none
 |_=>none
theorem PR:∀{ds:List D}{bs:List Bool}{vs:List V},F9 ds=some bs->zH L H ds vs->vs=bs.map V.bl
 |[],bs,vs,e,r=>by ext e;erw[zH]at r;calc r
 |d::ds,bs,vs,e,r=>by
  erw[zH]at r;let(v,r',rfl,r1,r2):=r;cases d with
  |bl k=>
   erw[F9]at e;cases q:F9 ds with
   |none=>rw[q]at e;ext e
   |some bs'=>
    rw[q]at e;ext e;erw[Rep]at r1;rw[r1,PR q r2];rfl
  |_=>ext e
def Gp(F:List Bool->Bool):KB:=λxs M=>match xs with
 |[x]=>match Bb M x with
  |some ds=>match F9 ds with
   |some bs=>some (.dat (.bl (F bs)),M)
   |none=>none
  |none=>none
 |_=>none
def UG{K:Yb}{F:List Bool->Bool}:Dk K (OI K F) (Gp F):=by
 intro L M M' H H0 xs d vs Q c r hk q;erw[Gp]at hk;cbv at hk
 .intros x;cbv at hk
  .intros ds e1;cbv at hk
   .intros bs e2;ext hk;let(v,rfl,r1):=r.one;let(l,ws,rfl,h1,r2):=Cm c r1 e1;have:=PR e2 r2;subst this;exact#[l,bs,rfl,.inl h1,q L H _ (.refl L H) c (B7 (L:=L) (H:=H))]
   .ext hk
  .ext hk
 .ext hk
abbrev Eg:KB:=Gp λbs=>bs.all id
abbrev Nu:KB:=Gp λbs=>bs.any id
section
variable{fa:FAE}
def m7(hc:X.calm=true)(hg:Gl X "all")(hm:X.mg "all" = none)(ha:QAE X [e] fa)(he:starEach [e] X.env=(false,eval e X.env)::starEach [] X.env:=by rfl)(hpl:(backTo pos (starEach [] X.env)).any (·.1)=false:=by rfl):QE X (.Call (.Name "all" p) [e] [] pos) (fB Eg fa) :=
 GC UG (Wm hc) (by rfl) hg hm ha () () he hpl
def l8(hc:X.calm=true)(hg:Gl X "any")(hm:X.mg "any" = none)(ha:QAE X [e] fa)(he:starEach [e] X.env=(false,eval e X.env)::starEach [] X.env:=by rfl)(hpl:(backTo pos (starEach [] X.env)).any (·.1)=false:=by rfl):QE X (.Call (.Name "any" p) [e] [] pos) (fB Nu fa) :=
 GC UG (oJ hc) (by rfl) hg hm ha () () he hpl
end
def Sm(h:Bb M x=some ds)(hb:F9 ds=some bs):Ok (Gp F [x] M) P↔P (.dat (.bl (F bs))) M:=by
 have:Gp F [x] M=some (.dat (.bl (F bs)),M):=by erw[Gp];symm;rw[h];symm;rw[hb]
 rw[this,zx]
theorem MK:∀bs:List Bool,F9 (bs.map D.bl)=some bs
 |[]=>rfl
 |k::bs=>by rw[AU];erw[F9];rw[MK bs]
def Nn:V->Bool
 |.non=>true
 |.bl _=>true
 |_=>false
def bK:OpR X (compareOp .IsNot) (λx y H Q=>Nn y=true/\Q (.bl (!decide (x=y))) H):=by
 intro zB s Y H x y v u Q I rx ry h;let(hp,q):=h;cases y with
 |non=>
  ext ry;refine wpAny_isNot_plain (by cases x <;> first|(ext rx;rfl)|(let(t,rfl):=rx;rfl)) (zt I q ?_);cases x <;> first|(ext rx;rfl)|(let(t,rfl):=rx;rfl)
 |bl k=>
  ext ry;refine wpAny_isNot_plain (by cases x <;> first|(ext rx;rfl)|(let(t,rfl):=rx;rfl)) (zt I q ?_);cases x with
  |bl k'=>ext rx;cases k <;> cases k' <;> rfl
  |_=>first|(ext rx;rfl)|(let(t,rfl):=rx;rfl)
 |_=>ext hp
def isD:EV->D->Option Bool
 |x,.non=>match x with
  |.dat .non=>some true
  |_=>some false
 |x,.bl k=>match x with
  |.dat (.bl k')=>some (decide (k'=k))
  |_=>some false
 |_,_=>none
def kIs(neg:Bool):K2:=λx y M=>match y with
 |.dat d=>match isD x d with
  |some k=>some (.dat (.bl (if neg then !k else k)),M)
  |none=>none
 |_=>none
def Um(rx:zX H0 L H x v)(ry:Rep L H d w)(e:isD x d=some k):Nn w=true/\decide (v=w)=k:=by
 cases d with
 |non=>
  erw[Rep]at ry;subst ry;calc#[rfl,?_];cases x with
  |fl xs=>let(q,vs,rfl,_):=rx;ext e;rfl
  |dat d'=>
   cases d' with
   |non=>erw[zX,Rep]at rx;subst rx;ext e;rfl
   |bl _=>erw[zX,Rep]at rx;subst rx;ext e;rfl
   |int _=>erw[zX,Rep]at rx;subst rx;ext e;rfl
   |str _=>erw[zX,Rep]at rx;subst rx;ext e;rfl
   |tup _=>erw[zX,Rep]at rx;let(q,vs,rfl,_):=rx;ext e;rfl
   |ref _=>erw[zX,Rep]at rx;let(q,rfl,_):=rx;ext e;rfl
   |fn _ _=>erw[zX,Rep]at rx;let(rfl,_):=rx;ext e;rfl
 |bl k'=>
  erw[Rep]at ry;subst ry;calc#[rfl,?_];cases x with
  |fl xs=>let(q,vs,rfl,_):=rx;ext e;rfl
  |dat d'=>
   cases d' with
   |non=>erw[zX,Rep]at rx;subst rx;ext e;rfl
   |bl j=>erw[zX,Rep]at rx;subst rx;ext e;cases j <;> cases k' <;> rfl
   |int _=>erw[zX,Rep]at rx;subst rx;ext e;rfl
   |str _=>erw[zX,Rep]at rx;subst rx;ext e;rfl
   |tup _=>erw[zX,Rep]at rx;let(q,vs,rfl,_):=rx;ext e;rfl
   |ref _=>erw[zX,Rep]at rx;let(q,rfl,_):=rx;ext e;rfl
   |fn _ _=>erw[zX,Rep]at rx;let(rfl,_):=rx;ext e;rfl
 |_=>ext e
def gS(h:kIs neg x y M=some (r,M')):∃d k,y=.dat d/\isD x d=some k/\r=.dat (.bl (if neg then !k else k))/\M'=M:=by
 erw[kIs]at h;cbv at h
 .intros d;cbv at h
  .intros k e1;ext h;exact#[d,k,rfl,e1,rfl,rfl]
  .ext h
 .ext h
def pC{K:Yb}:BM K (λx y H Q=>Nn y=true/\Q (.bl (!decide (x=y))) H) (kIs true):=by
 intro L M M' H H0 x y d v w Q cc rx ry hk q;let(d',k,rfl,e,rfl,rfl):=gS hk;let(h1,h2):=Um rx ry e;calc#[h1,?_];rw[h2];calc q L H _ (.refl L H) cc (B7 (L:=L) (H:=H))
def mL(h1:QE X a f)(h2:QE X b g):QT X (.Compare a [.IsNot] [b] pos) (tst (fOp (kIs true) f g)):=E4 pC bK h1 h2 (Ej _)
def Hb(k k':K2)(f g h:FE):FE:=λY M=>match f Y M with
 |some (x,M1)=>match g Y M1 with
  |some (y,M2)=>match k x y M2 with
   |some (.dat (.bl true),M3)=>match h Y M3 with
    |some (w,M4)=>k' y w M4
    |none=>none
   |some (.dat (.bl false),M3)=>some (.dat (.bl false),M3)
   |_=>none
  |none=>none
 |none=>none
def XN{K:Yb}{r r':R2}{k k':K2}(hk:BM K r k)(hk':BM K r' k'){τ:Sv}{H:Hp}{Q:VK}(z:trE K (Hb k k' f g h) τ H Q):Qm r r' (trE K f) (trE K g) (trE K h) τ H Q:=by
 let(L,Y,M,d,M',cc,rs,hf,q):=z;erw[Hb]at hf;cbv at hf
 .intros x M1 e1;cbv at hf
  .intros y M2 e2;refine(mkE cc rs e1 (λL1 H1 v s1 c1 r1=>(mkE c1 (rs.stp s1) e2 (λL2 H2 w s2 c2 r2=>?_))));cbv at hf
   .intros M3 e3;cbv at hf
    .intros u M4 e4;refine hk (H0:=H) c2 (r1.stp s2) (r2.back s1 cc s2.sub) e3 λL3 H3 t s3 c3 r3=>#[true,Fj r3,Di ?_];refine(mkE c3 (rs.stp ((s1.trans s2).trans s3)) e4 (λL4 H4 w4 s4 c4 r4=>?_));let s13:=(s1.trans s2).trans s3;refine hk' (H0:=H) c4 (((r2.back s1 cc s2.sub).stp s3).stp s4) (r4.back s13 cc s4.sub) hf λL5 H5 u5 s5 c5 r5=>?_;exact q L5 H5 u5 ((s13.trans s4).trans s5) c5 (r5.back (s13.trans s4) cc s5.sub)
    .ext hf
   .intros M3 e3;ext hf;refine hk (H0:=H) c2 (r1.stp s2) (r2.back s1 cc s2.sub) e3 λL3 H3 t s3 c3 r3=>#[false,Fj r3,DX ?_];exact q L3 H3 _ ((s1.trans s2).trans s3) c3 (by have:=Fj r3;subst this;calc r3)
   .ext hf
  .ext hf
 .ext hf
def jD(hk:BM X.K r k)(hk':BM X.K r' k')(ho:OpR X (compareOp op) r)(ho':OpR X (compareOp op') r')(h1:QE X a f)(h2:QE X b g)(h3:QE X c h)
  (hm:lastMarks [op,op'] [b,c]=false:=by with_unfolding_all rfl):QE X (.Compare a [op,op'] [b,c] pos) (Hb k k' f g h):=.mk <| PE.imp (Wk ho ho' h1.un h2.un h3.un hm) λ_ _ _ z=>XN hk hk' z
section
variable{M:Mem}{Y:Sd}{P:EV->Mem->Prop}
def aW:Ok (Hb k k' f g h Y M) P↔Ok (f Y M) λx M1=>Ok (g Y M1) λy M2=>Ok (k x y M2) (blP λt M3=>if t then Ok (h Y M3) λw M4=>Ok (k' y w M4) P else P (.dat (.bl false)) M3):=by
 erw[Hb];constructor
 .rintro⟨x,M1,z,q⟩;cbv at z
  .intros y M2 e1;cbv at z
   .intros y' M3 e2;cbv at z
    .intros M4 e3;cbv at z
     .intros w M5 e4;exact#[_,_,e1,_,_,e2,_,_,e3,by rw[G7,AB rfl];calc#[_,_,e4,_,_,z,q]]
     .ext z
    .intros M4 e3;ext z;exact#[_,_,e1,_,_,e2,_,_,e3,by rw[G7];simpa using q]
    .ext z
   .ext z
  .ext z
 .rintro⟨x,M1,e1,y,M2,e2,t,M3,e3,q⟩;rw[e1];symm;rw[e2];symm;rw[e3];cases t with
  |fl _=>calc q.elim
  |dat d=>
   cases d with
   |bl t=>
    rw[G7]at q;cases t with
    |true=>
     rw[AB rfl]at q;let(w,M4,e4,q):=q;symm;rw[e4];calc q
    |false=>calc#[_,_,rfl,by simpa using q]
   |_=>calc q.elim
end
def JB(f:FE):FE:=λY M=>match f Y M with
 |some (.dat (.int i),M1)=>some (.dat (.int (-i)),M1)
 |_=>none
def cD(h1:QE X a f):QE X (.UnaryOp .USub a pos) (JB f):=.mk <| PE.imp (oQ Xr h1.un) λτ H Q zz=>by
 let(L,Y,M,d,M',cc,rs,hf,q):=zz;erw[JB]at hf;cbv at hf
 .intros i M1 e1;ext hf;refine(mkE cc rs e1 (λL1 H1 v s1 c1 r1=>?_));exact#[i,by erw[zX,Rep]at r1;calc r1,q L1 H1 _ s1 c1 (By (L:=L1) (H:=H1))]
 .ext hf
end
open AutoSeq1 (wpAny_loadPart')
def oG{r:Yt}{lo hi:Int}{t u v:Tok}{n:Nat}{Q:List Value->Shared->Prop}(hh:A.handled=none)(R:IsRange s.heap r lo hi 1 t u v)(sm:Builtin.Range.small lo hi 1=true)(hn:Builtin.Range.rangeSize lo hi 1=n)(hz:n<=2 ^ 24)
  (q:∀h' tk (acc:Yp),(∀b o,s.heap.get? b=some o->h'.get? b=some o)->ItemsOf (λi v=>∃t,v=.int (lo+i*1) t) acc n->Q acc.toList {s with heap:=h',toks:=tk}):wpAny (model prog w) A (collect (.ref r)) Q E s:=by
 erw[collect];calc AA (wpAny_runValue (codeAny_builtin PySem.F.entry_proto_collect ?_));rw[GY PySem.F.plain_proto_collect _];calc AA (BH (AD #[plainId_quiet PySem.F.plain_list_iadd _,codeAny_builtin PySem.F.entry_list_iadd ?_]));rw[GY PySem.F.plain_list_iadd _];let S0:(s.heap.push {cls:=.type "list",data:=.seq ([]:List Value).toArray}).get? ⇑s=some {cls:=.type "list",data:=.seq #[] 0}:=AS _ rfl
 let fin:∀(h':Heap)(tk:Nat)(acc:Array Value)(k:Nat),(∀b o,b≠⇑s->(s.heap.push {cls:=.type "list",data:=.seq ([]:List Value).toArray}).get? b=some o->h'.get? b=some o) ->
   h'.get? ⇑s=some {cls:=.type "list",dict:=none,data:=.seq acc k,slots:=#[] }->ItemsOf (λi v=>∃t,v=.int (lo+i*1) t) acc n ->
   wpAny (model prog w) A (match Value.ref ⇑s with
    |Value.ref a=>do
     match(<- load a).data with
      |Data.seq xs _=>pure xs.toList
      |_=>unsupported "internal:collect"
    |_=>unsupported "internal:collect") Q E {s with heap:=h',toks:=tk}:=λh' tk acc k kp e it=>by
  refine AA (wpAny_load e (AD (q h' tk acc (λb o m=>kp b o (AZ (AH m)) (AJ _ m)) it)))
 refine AQ (wpAny_extend_range
  (R:=λr s'=>r=.ok (.ret (.ref ⇑s))/\∃h' tk acc k,s'={s with heap:=h',toks:=tk}/\(∀b o,b≠⇑s->(s.heap.push {cls:=.type "list",data:=.seq ([]:List Value).toArray}).get? b=some o->h'.get? b=some o) /\
   h'.get? ⇑s=some {cls:=.type "list",dict:=none,data:=.seq acc k,slots:=#[] }/\ItemsOf (λi v=>∃t,v=.int (lo+i*1) t) acc n)
  hh (AJ _ R) sm hn hz ⇑s (.ref ⇑s) 0 S0 λh' tk acc k kp e it=>#[rfl,h',tk,acc,k,rfl,kp,e,it]) (λf s' z=>?_) (λe s' z=>?_)
 .cases f with
  |done f=>
   let(e,h',tk,acc,k,rfl,z1,z2,z3):=z;ext e;calc fin h' tk acc k z1 z2 z3
  |again c'=>exact#[z.1,codeAny_mono z.2 λr s'' z=>by let(rfl,h',tk,acc,k,rfl,z1,z2,z3):=z;calc fin h' tk acc k z1 z2 z3]
 .exact absurd z.1 (by simp)
def gQ(r:Yt)(lo hi:Int)(t u v:Tok)(n:Nat)(sm:Builtin.Range.small lo hi 1=true)(hn:Builtin.Range.rangeSize lo hi 1=n)(hz:n<=2 ^ 24):
  Meets (Builtin.«tuple.__new__» #[[.type "tuple", .ref r],[]]) (λA R s=>A.handled=none/\IsRange s.heap r lo hi 1 t u v /\
   ∀(h':Heap)(tk:Nat)(acc:Array Value),(∀b o,s.heap.get? b=some o->h'.get? b=some o)->ItemsOf (λi v=>∃t,v=.int (lo+i*1) t) acc n->R (.ok (.ret (.ref h'.objs.size))) {s with heap:=h'.push {cls:=.type "tuple",data:=.seq acc},toks:=tk}) :=
 .of_wp λprog w A R s h=>by
  let(hp,g,d,tk,os):=s;let(hh,Ra,h):=h;let h1:=sub_tuple_self;let h2:=init_tuple_lookup;let h3:=madeHere_tuple;let T:Shared.TypeIs ⟨hp,g,d,tk,os⟩ (.ref r) "range" := #[_,Ra,rfl];wp_walk using wpAny_loadPart' Ra,wpAny_typeOf T,oG (show A.in1.handled=none from hh) Ra sm hn hz;intro h' tk' acc kp it;calc AA (m:=Builtin.Tuple.tupleExact acc.toList.toArray) ?_;erw[Builtin.Tuple.tupleExact];let sz:acc.toList.toArray.size<=sizeLine:=by rw[AX,BU,it.1,sizeLine_eq];omega
  calc BH (AD #[_,rfl,?_]) sz;let e:acc.toList.toArray=acc:=by simp
  rw[e];calc h h' tk' acc kp it
section
variable{X:Cx}{a e:Expr}{es:Yi}{pos p p2 pos2:Pos}{f:FE}
def P4:B1 X (.type "range") (λxs H Q=>∃j,xs=[.int j]/\∀l,H l=none->Q (.ref l) (upd H l (.rng 0 j))):=by
 intro zB s Y H xs us Q I r h;let(j,rfl,q):=h;let(u,rfl,rx):=DZ r;let(t,rfl):=rx;refine call_range_1 #[.ref ⇑s,_,I.laid (λb o z=>AJ _ z) (AF _) ?_,rfl,q _ (I.hok.fresh (AF _))];calc#[_,_,_,AS _ rfl]
def upV(n:Nat):List V:=(List.range n).map λ(k:Nat)=>V.int k
def QP(h:ItemsOf (λi v=>∃t,v=.int ((0:Int)+i*1) t) acc n):zd (upV n) acc.toList:=by
 let(hz,hi):=h;have:∀(xs:Yf)(k:Nat),(∀j v,xs[j]?=some v->∃t,v=Value.int ((k+j:Nat):Int) t)->zd ((List.range' k xs.length).map λ(k:Nat)=>V.int k) xs:=by
  intro xs;induction xs with
  |nil=>intro k _;calc .nil
  |cons x xs ih=>
   intro k hk;rw[Bw,List.range'_succ,AU];refine .cons ?_ (ih (k+1) λj v e=>?_)
   .obtain⟨t,e⟩:=hk 0 x rfl;exact#[t,by simpa using e]
   .obtain⟨t,e'⟩:=hk (j+1) v (~~~e);exact#[t,by rw[e'];congr 2;omega]
 let q:=this acc.toList 0 (λj v e=>by
  let(t,e'):=hi j v (~~~e);calc#[t,by rw[e'];congr 1;omega])
 erw[upV];rw[List.range_eq_range'];rw[BU,hz]at q;calc q
def P9(h0:0<=j)(h1:j<=16777216):Builtin.Range.small 0 j 1=true/\Builtin.Range.rangeSize 0 j 1=(j.toNat:Int):=by
 calc#[small_one () () () (),?_];rw[rangeSize_one];split <;> omega
def R5(mk:List V->HO):List V->Hp->VK->Prop:=λxs H Q=>∃r j,xs=[.ref r]/\H r=some (.rng 0 j)/\0<=j/\j<=16777216/\∀l,H l=none->Q (.ref l) (upd H l (mk (upV j.toNat)))
def Ru(n:Nat):(upV n).length=n:=by erw[upV];simp
def VF(hc:X.calm=true):B1 X (.type "tuple") (R5 HO.tup):=by
 intro zB s Y H xs us Q I r h;let(l,j,rfl,hr,h0,h1,q):=h;let(u,rfl,rx):=DZ r;ext rx;let(t,u,v,er):=(show Ah X.prog X.w H s.heap l (.rng 0 j)from I.hok l _ hr);let(sm,sz):=P9 h0 h1
 refine callType_new PySem.F.called_tuple () (PySem.F.typeCall_tuple_1 _) (PySem.F.newCall_tuple_1 _) (λobj=>PySem.F.args_object_init_2 obj _) PySem.F.entry_tuple_new (gQ l 0 j t u v j.toNat sm sz ())
  #[I.ok.hd hc,er,λh' tk acc kp it=>#[#[_,AS _ rfl,rfl],?_]]
 let I1:Inv X zB Y H {s with heap:=h',toks:=tk}:=I.kept kp;refine#[.ref h'.objs.size,_,I1.laid (t':=tk) (λb o z=>AJ _ z) (AF _) ?_,rfl,q _ (I1.hok.fresh (AF _))];calc#[by rw[Ru,sizeLine_eq];omega,acc.toList,QP it,by simpa using D6.new h' acc]
def fD(hc:X.calm=true):B1 X (.type "list") (R5 HO.lst):=by
 intro zB s Y H xs us Q I r h;let(l,j,rfl,hr,h0,h1,q):=h;let(u,rfl,rx):=DZ r;ext rx;let(t,u,v,er):=(show Ah X.prog X.w H s.heap l (.rng 0 j)from I.hok l _ hr);let(sm,sz):=P9 h0 h1;refine call_list_range (I.ok.hd hc) er sm sz () λh' tk acc k kp z it=>?_;calc#[.ref ⇑s,_,I.laid (t':=tk) kp (AF _) (show Ah X.prog X.w _ h' _ (.lst (upV j.toNat))from#[by rw[Ru,sizeLine_eq];omega,acc.toList,k,QP it,by simpa using z]),rfl,q _ (I.hok.fresh (AF _))]
def upD(n:Nat):List D:=(List.range n).map λ(k:Nat)=>D.int k
def QM(n:Nat):zH L H (upD n) (upV n):=by
 have:∀xs:List Nat,zH L H (xs.map λ(k:Nat)=>D.int k) (xs.map λ(k:Nat)=>V.int k):=by
  intro xs;induction xs with
  |nil=>calc .nil
  |cons x xs ih=>exact .cons By ih
 calc this _
def Jg(f:FE):FE:=λY M=>match f Y M with
 |some (.dat (.int j),M1)=>if 0<=j/\j<=16777216 then some (.dat (.tup (upD j.toNat)),M1)else none
 |_=>none
def HS(f:FE):FE:=λY M=>match f Y M with
 |some (.dat (.int j),M1)=>if 0<=j/\j<=16777216 then some (.fl (upD j.toNat),M1)else none
 |_=>none
def Ut(hc:X.calm=true)(hg:Gl X "tuple")(hm:X.mg "tuple" = none)(hg2:Gl X "range")(hm2:X.mg "range" = none)(ha:QE X a f)
  (he:starEach [Expr.Call (.Name "range" p2) [a] [] pos2] X.env=(false,eval (Expr.Call (.Name "range" p2) [a] [] pos2) X.env)::starEach [] X.env:=by rfl) (hpl:(backTo pos (starEach [] X.env)).any (·.1)=false:=by rfl)
  (he2:starEach [a] X.env=(false,eval a X.env)::starEach [] X.env:=by rfl) (hpl2:(backTo pos2 (starEach [] X.env)).any (·.1)=false:=by rfl):
  QE X (.Call (.Name "tuple" p) [.Call (.Name "range" p2) [a] [] pos2] [] pos) (Jg f) :=
 .mk <| PE.imp (JX (VF hc) hg hm (by rfl) (EN (JX P4 hg2 hm2 boot_range (EN ha.un Gq he2) () () he2 hpl2) Gq he) () () he hpl) λτ H Q zz=>by
  let(L,Y,M,d,M',c,rs,hf,q):=zz;erw[Jg]at hf;cbv at hf
  .intros j M1 e1;cbv at hf
   .intros hb;ext hf;refine(mkE c rs e1 (λL1 H1 v s1 c1 r1=>#[j,by erw[zX,Rep]at r1;rw[r1],λl hl=>#[l,j,rfl,zk,hb.1,hb.2,λk hk=>?_]]));exact q L1 _ _ ((s1.trans (.upd hl)).trans (.upd hk)) ((c1.upd hl).upd hk) (Rep.newTup hk (QM _))
   .ext hf
  .ext hf
def rV(hc:X.calm=true)(hg:Gl X "list")(hm:X.mg "list" = none)(hg2:Gl X "range")(hm2:X.mg "range" = none)(ha:QE X a f)
  (he:starEach [Expr.Call (.Name "range" p2) [a] [] pos2] X.env=(false,eval (Expr.Call (.Name "range" p2) [a] [] pos2) X.env)::starEach [] X.env:=by rfl) (hpl:(backTo pos (starEach [] X.env)).any (·.1)=false:=by rfl)
  (he2:starEach [a] X.env=(false,eval a X.env)::starEach [] X.env:=by rfl) (hpl2:(backTo pos2 (starEach [] X.env)).any (·.1)=false:=by rfl):
  QE X (.Call (.Name "list" p) [.Call (.Name "range" p2) [a] [] pos2] [] pos) (HS f) :=
 .mk <| PE.imp (JX (fD hc) hg hm (by rfl) (EN (JX P4 hg2 hm2 boot_range (EN ha.un Gq he2) () () he2 hpl2) Gq he) () () he hpl) λτ H Q zz=>by
  let(L,Y,M,d,M',c,rs,hf,q):=zz;erw[HS]at hf;cbv at hf
  .intros j M1 e1;cbv at hf
   .intros hb;ext hf;refine(mkE c rs e1 (λL1 H1 v s1 c1 r1=>#[j,by erw[zX,Rep]at r1;rw[r1],λl hl=>#[l,j,rfl,zk,hb.1,hb.2,λk hk=>?_]]));let s2:Stp L H L1 (upd H1 l (.rng 0 j)):=s1.trans (.upd hl);exact q L1 _ _ (s2.trans (.upd hk)) ((c1.upd hl).upd hk) (zX.newLst s2 c (c1.upd hl) hk (QM _))
   .ext hf
  .ext hf
section
variable{M:Mem}{Y:Sd}{P:EV->Mem->Prop}
def V3(e:f Y M=some (.dat (.int j),M))(h0:0<=j)(h1:j<=16777216)(q:P (.fl (upD j.toNat)) M):Ok (HS f Y M) P:=by
 calc#[_,_,?_,q];erw[HS];rw[e];symm;rw[AB #[h0,h1]]
end
end
def JL:Expr->Bool
 |.Starred .. =>false
 |_=>true
def zN(h:JL e=true):starEach (e::es) env=(false,eval e env)::starEach es env:=by
 cases e <;> first|rfl|ext h
def Lg(h:JL e=true):starEach [e] env=[(false,eval e env)]:=zN h
def YK(h:JL e=true)(h':JL e'=true):starEach [e,e'] env=[(false,eval e env),(false,eval e' env)]:=by rw[zN h,Lg h']
theorem D9:∀{es:Yi},es.all JL=true->(backTo pos (starEach es env)).any (·.1)=false
 |[],_=>rfl
 |e::es,h=>by
  rw[List.all_cons,BB]at h;rw[zN h.1];have:=D9 (pos:=pos) (env:=env) h.2;simpa [backTo]using this
def Cor.pushO{K:Yb}{L:Yg}{M:List MO}{H:Hp}{p:Yt}{o:HO}{m:MO}(c:Cor K L M H)(h:H p=none)(new:CZ K (L++[p]) (L2.upd H p o) p m):
  Cor K (L++[p]) (M++[m]) (L2.upd H p o)/\Stp L H (L++[p]) (L2.upd H p o):=by
 let hp:p∉L:=λz=>by let(o,e):=c.tracked z;rw[h]at e;ext e
 let st:Stp L H (L++[p]) (L2.upd H p o):=by
  refine#[#[[p],rfl],λa ha=>?_,λa o e _ _=>?_,λa o e=>?_,λa o u e=>?_,Ju (λa o u e=>?_) λa ps e=>?_]
  .rcases Ae.mp ha with z|z
   .exact .inl z
   .have:a=p:=by simpa using z
    subst this;exact .inr h
  all_goals (rw[zT (zf e h)];calc e)
 refine#[#[by simp[c.len],?_,λn a m e1 e2=>?_,c.tab.stp st],st]
 .rw[DN];exact#[c.nd,by simp,λa ha b hb z=>by
   have:b=p:=by simpa using hb
   subst this;subst z;calc hp ha]
 .by_cases hn:n<L.length
  .rw[AM hn]at e1;rw[AM (by rw[<-c.len];calc hn)]at e2;exact(c.obj n a m e1 e2).stp st λo _ e=>by rw[zT (zf e h)];exact e
  .have hn':n=L.length:=by
    have:=(AI.mp e1).1;rw[AW]at this;simp at this;omega
   subst hn';simp at e1;rw[c.len]at e2;simp at e2;subst e1;subst e2;calc new
def CZ.nt{K:Yb}{L:Yg}{H:Hp}{a:Yt}{m:MO}(h:CZ K L H a m){o:HO}(e:H a=some o):NT o:=λps z=>by
 subst z;cases m with
 |lst xs=>let(vs,e',_):=h;rw[e]at e';ext e'
 |fro xs=>let(o,vs,e',_):=h;rw[e]at e';ext e'
 |dict ps=>let(vs,e',_):=h;rw[e]at e';ext e'
 |dicT ps=>let(vs,e',_):=h;rw[e]at e';ext e'
 |set _=>let(o,u,e'):=h;rw[e]at e';ext e'
 |froT ps=>let(o,vs,e',_):=h;rw[e]at e';ext e'
 |froK ps=>let(o,vs,e',_):=h;rw[e]at e';ext e'
def Cor.nt{K:Yb}{L:Yg}{M:List MO}{H:Hp}{n:Nat}{p:Yt}{o:HO}(c:Cor K L M H)(h1:L[n]?=some p)(ho:H p=some o):NT o :=
 (c.obj n p _ h1 (AO (by rw[<-c.len];calc(AI.mp h1).1))).nt ho
def Cor.put{K:Yb}{L:Yg}{M:List MO}{H:Hp}{n:Nat}{p:Yt}{o o':HO}{m:MO}(c:Cor K L M H)(h1:L[n]?=some p)(ho:H p=some o)(ht:∀xs,o≠.tup xs)(hf:∀a u,o≠.frz a u)
  (new:Stp L H L (L2.upd H p o')->CZ K L (L2.upd H p o') p m):Cor K L (M.set n m) (L2.upd H p o')/\Stp L H L (L2.upd H p o'):=by
 let st:Stp L H L (L2.upd H p o'):=by
  let nt:=c.nt h1 ho;refine#[#[[],by simp],λa ha=> .inl ha,λa o e ha _=>?_,λa xs e=>?_,λa b u e=>?_,Ju (λa b u e=>?_) λa ps e=>?_]
  .rw[zT (show a≠p fromλz=>ha (by rw[z];calc Ca h1))];exact e
  .rw[zT (DT e ho (λz=>ht xs z.symm))];exact e
  .rw[zT (DT e ho (λz=>hf b u z.symm))];exact e
  .rw[zT (DT e ho (λz=>hf b u z.symm))];exact e
  .rw[zT (DT e ho (λz=>nt ps z.symm))];exact e
 refine#[#[by simp[c.len],c.nd,λk a m' e1 e2=>?_,c.tab.stp st],st];rw[Ea]at e2;cbv at e2
 .intros hk;subst hk;rw[h1]at e1;ext e1;cbv at e2
  .cases e2;exact new st
  .ext e2
 .intros hk;let hne:a≠p:=λz=>hk (by
   subst z;calc(List.getElem?_inj (AI.mp h1).1 c.nd).mp (h1.trans e1.symm))
  exact(c.obj k a m' e1 e2).stp st λo _ e=>by rw[zT hne];calc e
section
variable{X:Cx}{a b e:Expr}{pos:Pos}{f g:FE}
def IE:FE:=λ_ M=>some (.dat (.ref M.length),M++[.dicT []])
def oF:QE X (.Dict [] [] pos) IE:=.mk <| PE.imp Zb λτ H Q ⟨L,Y,M,d,M',c,rs,hf,q⟩ p hp=>by
 erw[IE]at hf;ext hf;let(c2,s2):=c.pushO (m:=.dicT []) hp #[[],zk,rfl];calc q _ _ _ s2 c2 ?_;erw[zX,Rep];calc#[p,rfl,by rw[<-c.len];simp]
def Kp(h:Rep L H d v)(e:CK d=some k):v=kV k:=by
 cases d with
 |int i=>ext e;erw[Rep]at h;calc h
 |str x=>ext e;erw[Rep]at h;calc h
 |_=>ext e
def Gh(M:Mem):EV->Option (List D)
 |.fl xs=>some xs
 |.dat (.ref n)=>match M[n]? with
  |some (.lst xs)=>some xs
  |_=>none
 |_=>none
def Pd{K:Yb}{L:Yg}{M:Mem}{H H0:Hp}{x:EV}{v:V}{xs:List D}(c:Cor K L M H)(r:zX H0 L H x v)(h:Gh M x=some xs):∃a vs,v=.ref a/\H a=some (.lst vs)/\zH L H xs vs:=by
 cases x with
 |fl ys=>
  ext h;let(p,vs,rfl,_,e,_,r):=r;calc#[p,vs,rfl,e,r]
 |dat d=>
  cases d with
  |ref n=>
   erw[zX,Rep]at r;let(a,rfl,e):=r;erw[Gh]at h;dsimp only at h;cbv at h
   .intros ys q;ext h;let(vs,e1,r1):=c.obj n a _ e q;exact#[a,vs,rfl,e1,r1]
   .ext h
  |_=>ext h
def IH:K2:=λx y M=>match Gh M x,Gh M y with
 |some xs,some ys=>if xs.length+ys.length<=sizeLine then some (.fl (xs++ys),M)else none
 |_,_=>none
def nH{K:Yb}:BM K Rq IH:=by
 intro L M M' H H0 x y d v w Q c rx ry hk q;erw[IH]at hk;cbv at hk
 .intros xs ys e1 e2;cbv at hk
  .intros hz;ext hk;let(l,vs,rfl,h1,r1):=Pd c rx e1;let(l2,ws,rfl,h2,r2):=Pd c ry e2;refine#[l,l2,vs,ws,rfl,rfl,h1,h2,by rw[r1.length,r2.length];exact hz,λp hp=>?_];exact q L _ _ (.upd hp) (c.upd hp) (zX.newLst (.refl L H) c c hp (r1.app r2))
  .ext hk
 .ext hk
def iI(h1:QE X a f)(h2:QE X b g):QE X (.BinOp a .Add b pos) (fOp IH f g):=Gs nH dJ h1 h2
def Vs(h1:Gh M x=some xs)(h2:Gh M y=some ys)(hz:xs.length+ys.length<=100000)(q:P (.fl (xs++ys)) M):Ok (IH x y M) P:=by
 calc#[_,_,?_,q];erw[IH];rw[h1,h2];symm;rw[AB (Ab hz ())]
end
def BR:List D->Option (List Int)
 |[]=>some []
 |.int i::r=>match BR r with
  |some bs=>some (i::bs)
  |none=>none
 |_=>none
theorem L6:∀{ds:List D}{bs:Ye}{vs:List V},BR ds=some bs->zH L H ds vs->vs=bs.map V.int
 |[],bs,vs,e,r=>by ext e;erw[zH]at r;calc r
 |d::ds,bs,vs,e,r=>by
  erw[zH]at r;let(v,r',rfl,r1,r2):=r;cases d with
  |int k=>
   erw[BR]at e;cases q:BR ds with
   |none=>rw[q]at e;ext e
   |some bs'=>
    rw[q]at e;ext e;erw[Rep]at r1;rw[r1,L6 q r2];rfl
  |_=>ext e
theorem IJ:∀xs:List Int,BR (xs.map D.int)=some xs
 |[]=>rfl
 |x::r=>by rw[AU];erw[BR];rw[IJ r]
end L3
namespace L2
def j7(I:Nat->Shared->Prop)
  (turn:∀n s,I n s->wpAny (model prog w) A (pyNext it) (λr s₁=>match r with
   |none=>R (.ok .next) s₁
   |some v=>wpAny (model prog w) A (letOwnedTupleGo target it v) (λ_ s₁'=>wpAny (model prog w) A (assign target env v) (λ_ s₂=>
     wpAny (model prog w) A (forIn ifs true λc r=>if r=true then do let ok <- isTrue c env (eval c env);pure (ForInStep.yield ok)else pure (ForInStep.yield r)) (λok s₃=>
      if ok=true then wpAny (model prog w) A (eval kx env) (λkv s₄=>wpAny (model prog w) A (eval vx env) (λvv s₅=>
       wpAny (model prog w) A (dictSet D kv vv) (λ_ s₆=>∃m,m<n/\I m s₆) (λ_ _=>False) s₅) (λ_ _=>False) s₄) (λ_ _=>False) s₃
      else∃m,m<n/\I m s₃) (λ_ _=>False) s₂) (λ_ _=>False) s₁') (λ_ _=>False) s₁) (λ_ _=>False) s)
  (n:Nat) (h:I n s):
  codeAny (model prog w) A (.compLoop (.DictComp kx vx [#[target,iter,ifs,0]] scope pos) 0 it (.ref D) env) R s:=by
 refine codeAny_loop rfl I (λn s hI=>?_) n h;show wpAny _ A ((compTurn (.DictComp kx vx [#[target,iter,ifs,0]] scope pos) 0 it (.ref D) env).onRaise (λx=>do noteFrame x env;theTreesLotGoes x)) _ _ s;calc wpAny_noted ?_;rw[compTurn_dict];refine AA (CA (AA (AQ (turn n s hI) (λr s₁ h₁=>?_) λ_ _ h'=>h'.elim)));cases r with
 |none=>calc AD h₁
 |some v=>
  refine AA (AQ h₁ (λ_ s₁' h₁'=>?_) λ_ _ h'=>h'.elim);refine AA (AQ h₁' (λ_ s₂ h₂=>AA (AQ h₂ (λok s₃ h₃=>?_) λ_ _ h'=>h'.elim)) λ_ _ h'=>h'.elim);cases ok with
  |false=>calc AD #[rfl,h₃]
  |true=>
   calc AA (AA (AQ h₃ (λkv s₄ h₄=>AA (Bu (AQ h₄ (λvv s₅ h₅=>AA (CA (Bu (AQ h₅ (λ_ s₆ h₆=>AD #[rfl,h₆]) λ_ _ h'=>h'.elim)))) λ_ _ h'=>h'.elim))) λ_ _ h'=>h'.elim))
def gJ(elt target iter:Expr)(ifs:Yi)(scope:Y0)(pos:Pos)(it acc:Yu)(env:Env):
  compTurn (.SetComp elt [#[target,iter,ifs,0]] scope pos) 0 it acc env=(do
   standAt iter.pos;match <- pyNext it with
   |none=>pure (.done .next)
   |some v=>
    letOwnedTupleGo target it v;assign target env v;let mut ok:=true
    for c in ifs do
     if ok then ok <- isTrue c env (eval c env)
    if ok then(do let v <- eval elt env;standAt elt.pos;let _ <- call (.builtin "set.add") [acc,v])
    again (.compLoop (.SetComp elt [#[target,iter,ifs,0]] scope pos) 0 it acc env)):=by rfl
def fV(I:Nat->Shared->Prop)
  (turn:∀n s,I n s->wpAny (model prog w) A (pyNext it) (λr s₁=>match r with
   |none=>R (.ok .next) s₁
   |some v=>wpAny (model prog w) A (letOwnedTupleGo target it v) (λ_ s₁'=>wpAny (model prog w) A (assign target env v) (λ_ s₂=>
     wpAny (model prog w) A (forIn ifs true λc r=>if r=true then do let ok <- isTrue c env (eval c env);pure (ForInStep.yield ok)else pure (ForInStep.yield r)) (λok s₃=>
      if ok=true then wpAny (model prog w) A (eval elt env) (λx s₄=>
       wpAny (model prog w) A (call (.builtin "set.add") [acc,x]) (λ_ s₅=>∃m,m<n/\I m s₅) (λ_ _=>False) s₄) (λ_ _=>False) s₃
      else∃m,m<n/\I m s₃) (λ_ _=>False) s₂) (λ_ _=>False) s₁') (λ_ _=>False) s₁) (λ_ _=>False) s)
  (n:Nat) (h:I n s):
  codeAny (model prog w) A (.compLoop (.SetComp elt [#[target,iter,ifs,0]] scope pos) 0 it acc env) R s:=by
 refine codeAny_loop rfl I (λn s hI=>?_) n h;show wpAny _ A ((compTurn (.SetComp elt [#[target,iter,ifs,0]] scope pos) 0 it acc env).onRaise (λx=>do noteFrame x env;theTreesLotGoes x)) _ _ s;calc wpAny_noted ?_;rw[gJ];refine AA (CA (AA (AQ (turn n s hI) (λr s₁ h₁=>?_) λ_ _ h'=>h'.elim)));cases r with
 |none=>calc AD h₁
 |some v=>
  refine AA (AQ h₁ (λ_ s₁' h₁'=>?_) λ_ _ h'=>h'.elim);refine AA (AQ h₁' (λ_ s₂ h₂=>AA (AQ h₂ (λok s₃ h₃=>?_) λ_ _ h'=>h'.elim)) λ_ _ h'=>h'.elim);cases ok with
  |false=>calc AD #[rfl,h₃]
  |true=>
   calc AA (AA (AQ h₃ (λx s₄ h₄=>AA (CA (AA (AQ h₄ (λ_ s₅ h₅=>AD (AD #[rfl,h₅])) λ_ _ h'=>h'.elim)))) λ_ _ h'=>h'.elim))
end L2
end
namespace ST
open PySem
abbrev Up(xs:Array Nat):Prop:=xs.toList.Pairwise (· < ·)
def Up.get(h:Up xs)(hik:i<k)(hk:k<xs.size):xs[i]'()<xs[k]:=by
 have:=List.pairwise_iff_getElem.mp h i k (by simpa using(show i<xs.size by omega)) (~~~hk) hik;simpa using this
theorem NA(h:Up xs)(j:Nat):∀(fuel lo hi:Nat),lo<=hi->hi<=xs.size->hi-lo<=fuel->(∀i (hi':i<xs.size),i<lo->xs[i]<j)->(∀i (hi':i<xs.size),hi<=i->j<=xs[i]) ->
  (SetTable.below.go xs j fuel lo hi<=xs.size)/\(∀i (hi':i<xs.size),i<SetTable.below.go xs j fuel lo hi->xs[i]<j)/\(∀i (hi':i<xs.size),SetTable.below.go xs j fuel lo hi<=i->j<=xs[i])
 |0,lo,hi,h1,h2,h3,a,b=>by
  have:lo=hi:=()
  subst this;erw[SetTable.below.go];calc#[h2,a,b]
 |fuel+1,lo,hi,h1,h2,h3,a,b=>by
  erw[SetTable.below.go];by_cases hl:lo<hi
  .rw[AB hl];symm;let hm:(lo+hi) / 2<xs.size:=()
   let eg:xs.getD ((lo+hi) / 2) j=xs[(lo+hi) / 2]:=by simp[Array.getD,hm]
   rw[eg];by_cases hc:xs[(lo+hi) / 2]<j
   .rw[AB hc];refine NA h j fuel _ _ () h2 () (λi hi' hlt=>?_) b;rcases DE i ((lo+hi) / 2)with z|z
    .exact Nat.lt_trans (h.get z hm) hc
    .have:i=(lo+hi) / 2:=()
     subst this;exact hc
   .rw[AE hc];refine NA h j fuel _ _ () () () a (λi hi' hge=>?_);rcases DE ((lo+hi) / 2) i with z|z
    .have:=h.get z hi';omega
    .have:i=(lo+hi) / 2:=()
     subst this;omega
  .rw[AE hl];have:lo=hi:=()
   subst this;calc#[h2,a,b]
def KP(h:Up xs)(j:Nat):SetTable.below xs j<=xs.size/\(∀i (hi':i<xs.size),i<SetTable.below xs j->xs[i]<j)/\(∀i (hi':i<xs.size),SetTable.below xs j<=i->j<=xs[i]):=by
 erw[SetTable.below];calc NA h j xs.size 0 xs.size (BV _) (AF _) () (λi _ z=>()) (λi hi' z=>())
def aE(h:Up xs):SetTable.below xs 0=0:=by
 let(a,b,c):=KP h 0;rcases Nat.eq_zero_or_pos (SetTable.below xs 0)with z|z
 .exact z
 .have:=b 0 () z;omega
def Vn(h:Up xs)(hk:k<xs.size):SetTable.below xs (xs[k]+1)=k+1:=by
 let(a,b,c):=KP h (xs[k]+1);rcases Nat.lt_trichotomy (SetTable.below xs (xs[k]+1)) (k+1)with z|z|z
 .have:=c k hk ();omega
 .exact z
 .have h1:k+1<xs.size:=()
  have:=b (k+1) h1 z;have:=h.get (show k<k+1 by omega) h1;omega
def Uv{α:Type}(xs:Array α)(p:Nat)(x:α):(SetTable.insertAt xs p x).toList=xs.toList.take p++x::xs.toList.drop p:=by
  erw[SetTable.insertAt];simp;have:xs.toList.length<=xs.size:=by simp
  rw[List.take_of_length_le (by simp)]
def ZY (h : Up xs) (hj : j ∉ xs.toList) : Up (SetTable.insertAt xs (SetTable.below xs j) j) := by
  obtain ⟨a, b, c⟩ := KP h j;unfold Up;rw [Uv];rw [List.pairwise_append];have hT : ∀ x ∈ xs.toList.take (SetTable.below xs j), x < j := fun x hx => by
    let(i,hi,e):=Dm hx;rw[List.getElem_take]at e;rw[D4]at hi
    have h1 : i < xs.size := by have : xs.toList.length = xs.size := by simp
                                omega
    have:=b i h1 ();rw[<-e];simpa using this
  have hD : ∀ x ∈ xs.toList.drop (SetTable.below xs j), j < x := fun x hx => by
    let(i,hi,e):=Dm hx;rw[List.getElem_drop]at e;rw[FX]at hi
    have h1 : SetTable.below xs j + i < xs.size := by have : xs.toList.length = xs.size := by simp
                                                      omega
    let h2:=c _ h1 ();let h3:x≠j:=λz=>hj (z▸List.mem_of_mem_drop hx);let e':xs[SetTable.below xs j+i]=x:=by simpa using e
    omega
  refine#[h.sublist (List.take_sublist _ _),Dd.mpr #[hD,h.sublist (List.drop_sublist _ _)],λx hx y hy=>?_];rcases AK.mp hy with z|z
  .rw[z];exact hT x hx
  .exact Nat.lt_trans (hT x hx) (hD y z)
def S3(j:Nat):SetTable.has #[] j=false:=by
 erw[SetTable.has];simp
def VZ{t:SetTable}(h:Up t.place)(he:t.slot j=.empty):j∉t.place.toList:=λhm=>by
 let(a,b,c):=KP h j;let(k,hk,e):=Dm hm;let hk':k<t.place.size:=by simpa using hk
 let e':t.place[k]=j:=by simpa using e
 let eb:SetTable.below t.place j=k:=by
  rcases Nat.lt_trichotomy (SetTable.below t.place j) k with z|z|z
  .have h1:SetTable.below t.place j<t.place.size:=()
   have:=c _ h1 (AF _);have:=h.get z hk';omega
  .exact z
  .have:=b k hk' z;omega
 erw[SetTable.slot]at he;rw[eb,AB (by simp[hk',e'])]at he;ext he
theorem QF(hd:t.dummies = #[]):∀(fuel:Nat)(p:SetTable.Probe){j:Nat}{d:Option Nat},p.dummy=none->SetTable.probe.go t hashAt h fuel p=some (.empty j d)->d=none/\t.slot j=.empty
 |0,_,_,_,_,e=>by erw[SetTable.probe.go]at e;ext e
 |fuel+1,p,j,d,hp,e=>by
  erw[SetTable.probe.go]at e;cbv at e
  .intros hs;ext e;exact#[hp,hs]
  .intros hs;erw[SetTable.slot]at hs;dsimp only at hs;rw[hd,S3]at hs;split at hs <;> first|cases hs|simp at hs
  .split at e
   .ext e
   .refine QF hd fuel _ ?_ e;erw[SetTable.advance];split <;> simp[hp]
def Y8{t:SetTable}(hu:Up t.place)(hd:t.dummies = #[])(e:t.freeSlot h=some (j,b)):b=false/\j∉t.place.toList:=by
 erw[SetTable.freeSlot]at e;cbv at e
 .intros j' d hp;erw[SetTable.probe]at hp;let(h1,h2):=QF hd _ _ (by rfl) hp;subst h1;simp at e;let(rfl,rfl):=e;exact#[rfl,VZ hu h2]
 .ext e
structure A6(w:Yo)(t:SetTable):Prop where
 led:t.led = !w.params.followText "set-order"
 up:Up t.place
 nod:t.dummies = #[]
def nN(n:Nat):Up (Array.range n):=by
 erw[Up];rw[Array.toList_range];calc List.pairwise_lt_range
def A6.standIn(h:A6 w t)(n:Nat):A6 w (t.standIn n):=#[h.led,nN n,rfl]
def A6.orStandIn(h:A6 w t)(n:Nat):A6 w (t.orStandIn n):=by
 erw[SetTable.orStandIn];split
 .exact h
 .exact h.standIn n
def A6.put(h:A6 w t)(hj:j∉t.place.toList):A6 w (t.put j).1:=by
 erw[SetTable.put];calc#[h.led,ZY h.up hj,?_];rw[h.nod,S3];rfl
theorem A6.layNew(h:A6 w t)(es:Yw)(hh:Int)(x:Yu):A6 w (layNew t es hh x).2.1:=by
 erw[PySem.layNew];split
 .intros j b e;exact(h.put (Y8 h.up h.nod e).2).orStandIn _
 .exact h.standIn _
def A6.relaid(h:A6 w t)(e:t.relaid hs wanted=some (t',order)):A6 w t':=by
 erw[SetTable.relaid,SetTable.laid]at e;cases q:SetTable.layClean (SetTable.sizeAbove wanted-1) hs with
 |none=>rw[q]at e;ext e
 |some owner=>
  rw[q]at e;simp only[Option.bind_eq_bind,Option.bind_some,Option.pure_def,Option.some.injEq,Prod.mk.injEq]at e;let(rfl,_):=e;calc#[h.led,?_,rfl];erw[Up];rw[FL,List.pairwise_filterMap];refine List.pairwise_lt_range.imp λ{a b} hab x hx y hy=>?_;cases o1:owner.getD a none with
  |none=>rw[o1]at hx;ext hx
  |some u=>
   cases o2:owner.getD b none with
   |none=>rw[o2]at hy;ext hy
   |some v=>
    rw[o1]at hx;rw[o2]at hy;ext hx;ext hy;calc hab
theorem A6.relayAll(h:A6 w t)(es:Yw)(wanted:Nat):A6 w (relayAll t es wanted).2.1:=by
 erw[PySem.relayAll];split
 .intros t' order e;symm;split
  .exact h.relaid e
  .exact h.standIn _
 .exact h.standIn _
theorem A6.plain(h:A6 w t)(b:Bool):A6 w {t with plain:=b}:=#[h.led,h.up,h.nod]
def A6.fresh:A6 w (SetTable.fresh 0 0 (!w.params.followText "set-order")):=#[rfl,List.Pairwise.nil,rfl]
open Sem (wp)
set_option genInjectivity true in
inductive F2{α β:Type}(R:α->β->Prop):List α->List β->Prop
 |nil:F2 R [] []
 |cons {x y xs ys}:R x y->F2 R xs ys->F2 R (x::xs) (y::ys)
section
variable[DecidableEq K]
def Mu(knd:KeyKind prog w K)(e:Int×Value)(k:K):Prop:=(knd.is k e.2=true/\e.1=knd.hash k)/\e.2.scannable=true
structure SetK(knd:KeyKind prog w K)(o:Obj)(es:Yw)(ep:Nat)(t:SetTable)(ks:List K):Prop where
 ex:o.ExactSet
 data:o.data=.set es ep t
 tab:A6 w t
 fits:t.fits es.size=true
 bound:es.size<scanBound
 ent:∃ks',ks'.Perm ks/\F2 (Mu knd) es.toList ks'
def ins(ks:List K)(k:K):List K:=if k∈ks then ks else ks++[k]
variable{knd:KeyKind prog w K}
theorem UR{α β:Type}{R:α->β->Prop}:∀{xs:List α}{ys:List β},F2 R xs ys->xs.length=ys.length
 |_,_,.nil=>rfl
 |_,_,.cons _ h=>by simp[UR h]
theorem Og{α β:Type}{R:α->β->Prop}:∀{xs:List α}{ys:List β},F2 R xs ys->∀x∈xs,∃y∈ys,R x y
 |_,_,.nil,x,hx=>by ext hx
 |_,_,.cons h r,x,hx=>by
  rcases AK.mp hx with z|z
  .subst z;exact#[_,AR,h]
  .obtain⟨y,hy,q⟩:=Og r x z;calc#[y,Aa _ hy,q]
theorem PV{α β:Type}{R:α->β->Prop}:∀{xs:List α}{ys:List β},F2 R xs ys->∀y∈ys,∃x∈xs,R x y
 |_,_,.nil,x,hx=>by ext hx
 |_,_,.cons h r,x,hx=>by
  rcases AK.mp hx with z|z
  .subst z;exact#[_,AR,h]
  .obtain⟨y,hy,q⟩:=PV r x z;calc#[y,Aa _ hy,q]
theorem Qe{α β:Type}{R:α->β->Prop}:∀{xs:List α}{ys:List β}{us:List α}{vs:List β},F2 R xs ys->F2 R us vs->F2 R (xs++us) (ys++vs)
 |_,_,_,_,.nil,h=>h
 |_,_,_,_,.cons h r,q=> .cons h (Qe r q)
def RG{α β:Type}{R:α->β->Prop}{xs xs':List α}(p:xs'.Perm xs):∀{ys:List β},F2 R xs ys->∃ys',ys'.Perm ys/\F2 R xs' ys':=by
 let p':=p.symm;clear p;induction p' with
 |nil=>intro ys h;calc#[ys,.refl _,h]
 |cons x _ ih=>
  intro ys h;cases h with
  |cons h r=>
   let(ys',q1,q2):=ih r;calc#[_,q1.cons _,.cons h q2]
 |swap x y l=>
  intro ys h;cases h with
  |cons h r=>
   cases r with
   |cons h2 r=>
    calc#[_,List.Perm.swap _ _ _,.cons h2 (.cons h r)]
 |trans _ _ ih1 ih2=>
  intro ys h;let(ys',q1,q2):=ih1 h;let(ys'',r1,r2):=ih2 q2;calc#[ys'',r1.trans q1,r2]
def SetK.size(h:SetK knd o es ep t ks):es.size=ks.length:=by
 let(ks',p,f):=h.ent;rw[<-p.length_eq,<-UR f,BU]
def SetK.elems(h:SetK knd o es ep t ks):ElemsOf knd es.toList:=λe he=>by
 let(ks',p,f):=h.ent;let(k,_,q):=Og f e he;calc#[#[k,q.1],q.2]
def SetK.mem(h:SetK knd o es ep t ks)(k:K):k∈ks↔∃e∈es.toList,knd.is k e.2=true:=by
 let(ks',p,f):=h.ent;rw[<-p.mem_iff];constructor
 .intro hk;let(e,he,q):=PV f k hk;exact#[e,he,q.1.1]
 .rintro⟨e,he,q⟩;let(k',hk',q'):=Og f e he;rw[knd.inj e.2 k k' q q'.1.1];calc hk'
variable{s:Yl}
def SetK.typeIs(h:SetK knd o es ep t ks)(ho:s.heap.get? a=some o):s.TypeIs (.ref a) "set" := #[o,ho,h.ex.1]
def Pg{h:Heap}(ho:h.get? a=some o)(hd:o.data=.set es ep t):
  (h.update a (Obj.putSet es' t')).get? a=some {o with data:=.set es' (ep+1) t' }:=by
 have:=El (Obj.putSet es' t') ho (by rw[putSet_of es' t' hd];rfl);rw[putSet_of es' t' hd]at this;calc this
def eM{Q:Bool->Shared->Prop}(hkey:knd.is k x=true)(hsc:x.scannable=true)(ho:s.heap.get? a=some o)(hS:SetK knd o es ep t ks)(hroom:ks.length+1<scanBound)
  (h:∀h' o' es' ep' t' b,Heap.SameBut a s.heap h'->h'.get? a=some o'->SetK knd o' es' ep' t' (ins ks k)->Q b {s with heap:=h' }):
  wpAny (model prog w) A (setAddHashed a x (knd.hash k)) Q E s:=by
 let hd:=hS.data;let hf:=hS.fits;let hel:=hS.elems;let hb:=hS.bound;let hb1:es.size+1<scanBound:=by rw[hS.size];exact hroom
 erw[setAddHashed,setAddHashedIn];calc Bu (AA (wpAny_setState_of ho hd hf ?_));symm;rw[byScan_of hsc hb hel];simp only[↓reduceIte];erw[setAddByScan];calc AA ?_;calc AA (CS ?_);calc AA (wpAny_setScan_of hkey ho hd hf hel ?_);cases hr:List.findIdx? (λe=>knd.is k e.2) es.toList with
 |some j=>
  let(hj,hpj,_):=List.findIdx?_eq_some_iff_getElem.mp hr;let hSk:k∈ks:=(hS.mem k).mpr #[es.toList[j],Bc hj,hpj];calc AD (AD ?_);let e:s={s with heap:=s.heap}:=by ext s;rfl
  rw[e];calc h s.heap o es ep t _ (Heap.SameBut.refl a s.heap) ho ?_;erw[ins];rw[AB hSk];calc hS
 |none=>
  let hSk:k∉ks:=λhk=>by
   let(e,he,hp):=(hS.mem k).mp hk;have:=List.findIdx?_eq_none_iff.mp hr e he;rw[hp]at this;exact Bool.noConfusion this
  let hgw:∀(b:Bool){s₁:Shared}{Q':Unit->Shared->Prop},Q' Unit.unit s₁->wpAny (model prog w) A (match b with|true=>rule "set.scan.the-table-gave-way" |false=>pure Unit.unit) Q' E s₁ :=
   λb s₁ Q' hq=>by cases b <;> first|exact AD hq|exact CS hq
  let hperm:=layNew_perm t es (knd.hash k) x;let hfits:=layNew_fits t es (knd.hash k) x;let htab:=hS.tab.layNew es (knd.hash k) x;generalize hL:layNew t es (knd.hash k) x=L at hperm hfits htab ⊢;let(es1,t1,wasDummy,gave):=L;rw[Array.toList_push]at hperm;let hb1':es1.size<scanBound:=by rw[<-BU,hperm.length_eq,AW,BU];simpa using hb1
  let(ks',p,f):=hS.ent;let f1:F2 (Mu knd) (es.toList++[(knd.hash k,x)]) (ks'++[k]):=Qe f (.cons #[#[hkey,rfl],hsc] .nil);let(ks1,p1,f2):=RG hperm f1;let pI:ks1.Perm (ins ks k):=by
   erw[ins];rw[AE hSk];exact p1.trans (p.append_right _)
  refine AA (hgw _ ?_)
  let tail:∀t2:SetTable,A6 w t2->t2.fits es1.size=true->wpAny (model prog w) A (do
    storeSet a es1 t2
    if(!wasDummy&&t2.tooFull)=true then do
      (match(relayAll t2 es1 (SetTable.grown es1.size)).2.2 with|true=>rule "set.scan.the-table-gave-way" |false=>pure Unit.unit)
      storeSet a (relayAll t2 es1 (SetTable.grown es1.size)).1 (relayAll t2 es1 (SetTable.grown es1.size)).2.1;pure (some true)
     else pure (some true)) (λr s'=>wpAny (model prog w) A (match r with|some added=>pure added|none=>setAddHashedIn a x (knd.hash k) 99999) Q E s') E s:=by
   intro t2 T2 F2;calc AA (wpAny_storeSet_of ho hd ?_ (fits_of_scanBound hb1'));let g1:=Pg (es':=es1) (t':=t2) ho hd;let sb1:=DL s.heap a (Obj.putSet es1 t2);let S1:SetK knd {o with data:=.set es1 (ep+1) t2} es1 (ep+1) t2 (ins ks k):=#[hS.ex,rfl,T2,F2,hb1',ks1,pI,f2];split
   .have hp:=relayAll_perm t2 es1 (SetTable.grown es1.size);let hfr:=relayAll_fits t2 es1 (SetTable.grown es1.size);let htr:=T2.relayAll es1 (SetTable.grown es1.size);generalize hRl:relayAll t2 es1 (SetTable.grown es1.size)=Rl at hp hfr htr ⊢;let(es2,t3,gave2):=Rl;let hsz:es2.size=es1.size:=by rw[<-BU,hp.length_eq,BU]
    let hb2:es2.size<scanBound:=by rw[hsz];exact hb1'
    let(ks2,p2,f3):=RG hp f2;calc AA (hgw _ ?_);calc AA (wpAny_storeSet_of g1 rfl ?_ (fits_of_scanBound hb2));let g2:=Pg (es':=es2) (t':=t3) g1 rfl;exact AD (AD (h _ _ _ _ _ _ (sb1.trans (DL _ a _)) g2 #[hS.ex,rfl,htr,hfr,hb2,ks2,p2.trans pI,f3]))
   .exact AD (AD (h _ _ _ _ _ _ sb1 g1 S1))
  split
  .refine AA ?_;rw[hashByValue_scannable 8 hsc];refine AD ?_;refine tail _ ?_ ?_
   .split
    .exact htab
    .exact htab.plain _
   .split
    .exact hfits
    .exact SetTable.fits_plain_off hfits
  .refine AA (AD ?_);simp only[↓reduceIte];calc tail _ htab hfits
def Ur(hkey:knd.is k x=true)(hsc:x.scannable=true)(ho:s.heap.get? a=some o)(hS:SetK knd o es ep t ks)(hroom:ks.length+1<scanBound)
  (h:∀h' o' es' ep' t',Heap.SameBut a s.heap h'->h'.get? a=some o'->SetK knd o' es' ep' t' (ins ks k)->Q .none {s with heap:=h',toks:=s.toks+1}):
  wpAny (model prog w) A (call (.builtin "set.add") [.ref a,x]) Q E s:=by
 calc BQ F.slot_set_add (hS.typeIs ho) F.entry_set_add ?_ (F.args_set_add_2 _ _);unfold Builtin.«set.add» Builtin.Frozenset.oneOther;simp only[List.isEmpty_nil,bind_assoc];erw[Builtin.Frozenset.addrOf,setAdd];calc AA (AD ?_);try symm
 calc AA (AD ?_);try symm
 calc AA ?_;calc Bu ?_;calc AA (knd.pyHash hkey ?_);refine eM hkey hsc ho hS hroom λh' o' es' ep' t' b hsb ho' hS'=>?_;calc AD #[_,rfl,h h' o' es' ep' t' hsb ho' hS']
def F6(w:World):Obj:={cls:=.type "set",dict:=none,data:=.set #[] 0 (.fresh 0 0 (!w.params.followText "set-order")) }
def SetK.fresh:SetK knd (F6 w) #[] 0 (.fresh 0 0 (!w.params.followText "set-order")) []:=#[#[rfl,rfl,rfl],rfl,.fresh,by rfl,(),[],.refl _,.nil]
def iF(h:Q (.ref ⇑s) {s with heap:=s.heap.push (F6 w) }):
  wpAny (model prog w) A (newSet (.type "set")) Q E s:=by
 erw[newSet,setsByText];calc AA (AA (wpAny_askSetting (AD ?_)));simp only[newObj];calc AA (wpAny_alloc (AD h))
end
open PySem.Spec PyProof.Rows
open Sem (wp)
def Q3:Manifest.owners.lookup (String.ofList ['r','o','t','a','r','e','t','i','_','t','e','s'].reverse)=some Manifest.sig_set_iterator:=by kernel_rfl
def Eh:Slot "set_iterator" "__next__" "set_iterator.__next__" := .of (owner := "set_iterator") (n := "__next__") (by rw[typeLookup_type,builtinLookup_eq_fast];kernel_rfl) (by decide+kernel) (by decide+kernel) (by decide+kernel) (by first|exact .inl (by decide+kernel)|calc .inr (by decide+kernel)) (by rw[isSubtype_type];kernel_rfl)
def S8:Slot "set_iterator" "__iter__" "set_iterator.__iter__" := .of (owner := "set_iterator") (n := "__iter__") (by rw[typeLookup_type,builtinLookup_eq_fast];kernel_rfl) (by decide+kernel) (by decide+kernel) (by decide+kernel) (by first|exact .inl (by decide+kernel)|calc .inr (by decide+kernel)) (by rw[isSubtype_type];kernel_rfl)
def Kv(a:Value):argsOk "set_iterator.__next__" #[[a],[]]:=by
 erw[argsOk];rw[signature?_of (n:=['_','_','t','x','e','n','_','_']) (by kernel_rfl) Q3];kernel_rfl
def Zg(a:Value):argsOk "set_iterator.__iter__" #[[a],[]]:=by
 erw[argsOk];rw[signature?_of (n:=['_','_','r','e','t','i','_','_']) (by kernel_rfl) Q3];kernel_rfl
def K6:entryFor table "set_iterator.__next__" = some Builtin.«set_iterator.__next__»:=entryFor_of_tree (by kernel_rfl)
def Xp:entryFor table "set_iterator.__iter__" = some Builtin.«dict_keyiterator.__iter__» :=
 entryFor_alias (id' := "dict_keyiterator.__iter__") (by kernel_rfl) (by first|rfl|decide+kernel|(erw[String.splitOn];simp +decide [String.splitOnAux])) (by decide+kernel) (by kernel_rfl)
def VT:entryFor table "set.__iter__" = some Builtin.«frozenset.__iter__» :=
 entryFor_alias (id' := "frozenset.__iter__") (by kernel_rfl) rfl (by decide+kernel) (by kernel_rfl)
def Bj(f:Value)(i:Nat)(a:Addr)(n ep:Nat):Obj:={cls:=.type "set_iterator",data:=.fields ([f,rawInt i,.ref a,rawInt n,rawInt ep].toArray) }
theorem MY{α:Type}:∀{l:List α}{i:Nat}(h:i<l.length),(l[i]::l.eraseIdx i).Perm l
 |[],i,h=>by simp at h
 |x::l,0,h=>by simp
 |x::l,i+1,h=>by
  have:=MY (~~~h);rw[List.getElem_cons_succ,List.eraseIdx_cons_succ];calc(List.Perm.swap _ _ _).trans (this.cons x)
def TU{α:Type}{l:List α}(h:i<l.length)(e:n+1=l.length):n=(l.eraseIdx i).length:=by
 rw[List.length_eraseIdx,AB h];omega
theorem UP{α:Type}(next:Nat->Nat):∀(fuel k:Nat)(left:List α)(out:Array α),fuel=left.length->(pickOrder.go next fuel k left out).toList.Perm (out.toList++left)
 |0,k,left,out,h=>by
  have:left=[]:=EF.mp h.symm;subst this;erw[pickOrder.go];simp
 |fuel+1,k,left,out,h=>by
  erw[pickOrder.go];let hl:0<left.length:=()
  let hm:next k % left.length<left.length:=Nat.mod_lt _ hl
  rw[AO hm];calc(UP next fuel (k+1) _ _ (TU hm h)).trans ?_;rw[Array.toList_push,Bx];calc(MY hm).append_left _
def Qf{α:Type}(next:Nat->Nat)(xs:Array α):(pickOrder next xs).toList.Perm xs.toList:=by
 erw[pickOrder];simpa using UP next xs.size 0 xs.toList #[] (by simp)
section
variable{s:Yl}
def qX(h0:n≠0)(h:∀r d,r<n->Q r {s with drawn:=d}):wpAny (model prog w) A (choose src n) Q E s :=
 λΓ p hΓ=>#[h0,h _ _ (Nat.mod_lt _ ())]
theorem Qa{α:Type}:∀(n:Nat)(xs:List α){s:Yl}{Q:List α->Shared->Prop},n=xs.length->(∀ys d,ys.Perm xs->Q ys {s with drawn:=d})->wpAny (model prog w) A (drawOrder n xs) Q E s
 |0,xs,s,Q,h,q=>by
  have:xs=[]:=EF.mp h.symm;subst this;let e:s={s with drawn:=s.drawn}:=by ext s;rfl
  rw[e];calc AD (q [] s.drawn (.refl _))
 |n+1,[],s,Q,h,q=>by ext h
 |n+1,x::xs,s,Q,h,q=>by
  erw[drawOrder];refine AA (qX (by simp) λr d hr=>?_);rw[AO hr];refine AA (Qa n _ (TU hr h) λys d' hp=>AD ?_);calc q _ d' ((hp.cons _).trans (MY hr))
variable{K:Type}[DecidableEq K]{ks:List K}
def G6(h:s.heap.get? I=some (Bj f i a n ep)):s.TypeIs (.ref I) "set_iterator" := #[_,h,rfl]
def SW(hI:s.heap.get? I=some (Bj f i a n ep))(h:Q (.ref I) s):wpAny (model prog w) A (pyIter (.ref I)) Q E s:=by
 calc wpAny_pyIter_slot (G6 hI) S8 (BQ S8 (G6 hI) Xp ?_ (Zg _));calc AD #[_,rfl,"set_iterator",_,G6 hI,Eh.lookup,h]
structure Nexts(prog:Ym)(w:Yo)(o:Obj)(a:Yt)(ep:Nat)(n:Nat)(at_:Nat->Nat)(ord:Yf):Prop where
 len:ord.length=n
 nx:∀(A:Yn)(E:Yc)(i:Nat)(s:Yl)(Q:Option (Value×Nat)->Shared->Prop),i<=n->s.heap.get? a=some o->Q ((ord[i]?).map λx=>(x,at_ (i+1))) s->wpAny (model prog w) A (setNext a (at_ i) i ep) Q E s
def fK(N:Nexts prog w o a ep ks.length at_ ord)(hS:SetK knd o es ep t ks)(hI:s.heap.get? I=some (Bj (rawInt (at_ i)) i a ks.length ep))(ho:s.heap.get? a=some o)
  (hx:ord[i]?=some x) (hQ:∀h',h'.get? I=some (Bj (rawInt (at_ (i+1))) (i+1) a ks.length ep)->Heap.SameBut I s.heap h'->Q (some x) {s with heap:=h' }):wpAny (model prog w) A (pyNext (.ref I)) Q E s:=by
 let hT:=G6 hI;let hi:i<ks.length:=by have:=(AI.mp hx).1;rw[N.len]at this;exact this
 erw[pyNext];calc AA (DS (CP hT Eh (BQ Eh hT K6 ?_ (Kv _))));unfold Builtin.«set_iterator.__next__» slotArgs;simp only[List.isEmpty_nil,Bool.not_true,Cv,↓reduceIte,List.length_nil,bne_self_eq_false,pure_bind,bind_assoc];calc AA (wpAny_fieldsOf hI rfl ?_);dsimp only[rawInt];calc AA (wpAny_setEntries_of ho hS.data hS.fits ?_);rw[AE (by rw[hS.size];simp)];calc AA (N.nx _ _ i s _ () ho ?_);rw[hx];dsimp only[Option.map];calc AA (Dt hI rfl (by simp) ?_);let e1:=El (Obj.mapFields λvs=>vs.set! 0 (rawInt (at_ (i+1)))) hI (Obj.isFreed_of_fields (EB rfl _));calc AA (Dt e1 (EB rfl _) (by simp) ?_);let e2:=El (Obj.mapFields λvs=>vs.set! 1 (rawInt ((i:Int)+1))) e1 (Obj.isFreed_of_fields (EB (EB rfl _) _));calc AD #[x,rfl,AD (hQ _ ?_ ((DL ..).trans (DL ..)))];calc e2.trans ?_;simp[Obj.mapFields,Bj,rawInt]
end
open Sem (wp)
section
variable{K:Type}[DecidableEq K]{knd:KeyKind prog w K}
def Mr(hh:A.handled=none)(N:Nexts prog w o a ep ks.length at_ ord)(hS:SetK knd o es ep t ks)(hI:s.heap.get? I=some (Bj (rawInt (at_ ks.length)) ks.length a ks.length ep))(ho:s.heap.get? a=some o)
  (hQ:∀h',Heap.ExtBut I s.heap h'->Q none {s with heap:=h' }):wpAny (model prog w) A (pyNext (.ref I)) Q E s:=by
 let hT:=G6 hI;erw[pyNext];calc AA (DS (CP hT Eh (BQ Eh hT K6 ?_ (Kv _))));unfold Builtin.«set_iterator.__next__» slotArgs;simp only[List.isEmpty_nil,Bool.not_true,Cv,↓reduceIte,List.length_nil,bne_self_eq_false,pure_bind,bind_assoc];calc AA (wpAny_fieldsOf hI rfl ?_);dsimp only[rawInt];calc AA (wpAny_setEntries_of ho hS.data hS.fits ?_);rw[AE (by rw[hS.size];simp)];calc AA (N.nx _ _ ks.length s _ (AF _) ho ?_);rw[Ge (by rw[N.len];calc AF _)];dsimp only[Option.map];calc AA (Dt hI rfl (by simp) ?_);simp only[newExc,newTuple,bind_assoc,pure_bind];calc AA (BH (AA (wpAny_of_eq (by first|rfl|(simp only[firstArgMember];rfl)) (AA (BH ?_ (by size_fits))))) (by size_fits));simp only[raiseNew];calc AA (wpAny_handled ?_);rw[show A.in1.handled=none from hh];calc AA (AD (wpAny_throw ?_));calc AA (wpAny_isInstance #[_,AS _ rfl,rfl] isSubtype_stop (AD ?_));calc hQ _ (((DL ..).extBut.push _).push _)
def pY(hh:A.handled=none)(hne:a≠I)(N:Nexts prog w o a ep ks.length at_ ord)(hS:SetK knd o es ep t ks):
  Walks prog w A I [I,a] [I] ks.length (λi v=>ord[i]?=some v) (λi h=>h.get? I=some (Bj (rawInt (at_ i)) i a ks.length ep)/\h.get? a=some o) where
 sub:=λb hb=>by simp at hb;simp[hb]
 frame:=λ_ _ _ st hk=>#[hk I (by simp) _ st.1,hk a (by simp) _ st.2];item:=λi s Q E hi st hQ=>by
  let hx:ord[i]?=some (ord[i]'(by rw[N.len];calc hi)):=AO _;refine fK N hS st.1 st.2 hx λh' hI' hs'=>?_;exact hQ _ h' s.toks hx #[hI',hs'.extBut a o hne st.2] λb u hb ee=>hs'.extBut b u (λh=>hb (by simp[h])) ee
 done:=λs Q E st hQ=>Mr hh N hS st.1 st.2 λh' he'=>hQ h' s.toks λb u hb ee=>he' b u (λh=>hb (by simp[h])) ee;self:=λ_ _ _ _ st hQ=>SW st.1 hQ
def gV{pl:Yj}(hS:SetK knd o es ep t ks)(hl:pl.length=ks.length)(hI:s.heap.get? I=some (Bj (.ref T) i a ks.length ep))(ho:s.heap.get? a=some o)
  (hT:IsTup s.heap T (pl.map λ(k:Nat)=>rawInt k).toArray)
  (hx:(pl[i]?).bind (λk=>(es[k]?).map (·.2))=some x) (hQ:∀h',h'.get? I=some (Bj (.ref T) (i+1) a ks.length ep)->Heap.SameBut I s.heap h'->Q (some x) {s with heap:=h' }):wpAny (model prog w) A (pyNext (.ref I)) Q E s:=by
 let hTy:=G6 hI;let(oT,hoT,hcT,nT,hdT):=id hT;cases hp:pl[i]? with
 |none=>rw[hp]at hx;ext hx
 |some k=>
  rw[hp]at hx;cases he:es[k]? with
  |none=>simp only[Option.bind_some]at hx;rw[he]at hx;ext hx
  |some e=>
   simp only[Option.bind_some]at hx;rw[he]at hx;ext hx;erw[pyNext];calc AA (DS (CP hTy Eh (BQ Eh hTy K6 ?_ (Kv _))));unfold Builtin.«set_iterator.__next__» slotArgs;simp only[List.isEmpty_nil,Bool.not_true,Cv,↓reduceIte,List.length_nil,bne_self_eq_false,pure_bind,bind_assoc];calc AA (wpAny_fieldsOf hI rfl ?_);dsimp only[rawInt];calc AA (wpAny_setEntries_of ho hS.data hS.fits ?_);rw[AE (by rw[hS.size];simp)];calc AA (Ef hoT hdT ?_);symm;let e5:(List.map (λ(k:Nat)=>rawInt k) pl).toArray[(i:Int).toNat]?=some (rawInt k):=by simp[hp]
   rw[e5];dsimp only[rawInt];erw[setNextDrawn];simp only[bind_assoc];calc AA (wpAny_setState_of ho hS.data hS.fits ?_);rw[AE (by simp)];let e6:es[(k:Int).toNat]?=some e:=by simpa using he
   rw[e6];let(e1,e2):=e;simp only[pure_bind];calc AA (Dt hI rfl (by simp) ?_);calc AD #[e2,rfl,AD (hQ _ ?_ (DL ..))];calc(El _ hI (Obj.isFreed_of_fields (EB rfl _))).trans ?_;simp[Obj.mapFields,Bj,rawInt]
def Vq{pl:Yj}(hh:A.handled=none)(hS:SetK knd o es ep t ks)(hl:pl.length=ks.length)(hI:s.heap.get? I=some (Bj (.ref T) ks.length a ks.length ep))(ho:s.heap.get? a=some o)
  (hT:IsTup s.heap T (pl.map λ(k:Nat)=>rawInt k).toArray) (hQ:∀h',Heap.ExtBut I s.heap h'->Q none {s with heap:=h' }):wpAny (model prog w) A (pyNext (.ref I)) Q E s:=by
 let hTy:=G6 hI;let(oT,hoT,hcT,nT,hdT):=id hT;erw[pyNext];calc AA (DS (CP hTy Eh (BQ Eh hTy K6 ?_ (Kv _))));unfold Builtin.«set_iterator.__next__» slotArgs;simp only[List.isEmpty_nil,Bool.not_true,Cv,↓reduceIte,List.length_nil,bne_self_eq_false,pure_bind,bind_assoc];calc AA (wpAny_fieldsOf hI rfl ?_);dsimp only[rawInt];calc AA (wpAny_setEntries_of ho hS.data hS.fits ?_);rw[AE (by rw[hS.size];simp)];calc AA (Ef hoT hdT ?_);symm;let e5:(List.map (λ(k:Nat)=>rawInt k) pl).toArray[(ks.length:Int).toNat]?=none:=by simp[hl]
 rw[e5];dsimp only[rawInt];calc AA (Dt hI rfl (by simp) ?_);let e1:=El (Obj.mapFields λvs=>vs.set! 0 (rawInt 0)) hI (Obj.isFreed_of_fields (EB rfl _));calc AA (Dt e1 (EB rfl _) (by simp) ?_);simp only[newExc,newTuple,bind_assoc,pure_bind];calc AA (BH (AA (wpAny_of_eq (by first|rfl|(simp only[firstArgMember];rfl)) (AA (BH ?_ (by size_fits))))) (by size_fits));simp only[raiseNew];calc AA (wpAny_handled ?_);rw[show A.in1.handled=none from hh];calc AA (AD (wpAny_throw ?_));calc AA (wpAny_isInstance #[_,AS _ rfl,rfl] isSubtype_stop (AD ?_));calc hQ _ ((((DL ..).trans (DL ..)).extBut.push _).push _)
def Vb{pl:Yj}(hh:A.handled=none)(hne:a≠I)(hneT:T≠I)(hS:SetK knd o es ep t ks)(hl:pl.length=ks.length)(hb:∀k∈pl,k<es.size):
  Walks prog w A I [I,a,T] [I] ks.length (λi v=>(pl[i]?).bind (λk=>(es[k]?).map (·.2))=some v) (λi h=>h.get? I=some (Bj (.ref T) i a ks.length ep)/\h.get? a=some o/\IsTup h T (pl.map λ(k:Nat)=>rawInt k).toArray) where
 sub:=λb hb=>by simp at hb;simp[hb]
 frame:=λ_ _ _ st hk=>#[hk I (by simp) _ st.1,hk a (by simp) _ st.2.1,let⟨oT,ho,r⟩:=st.2.2;#[oT,hk T (by simp) oT ho,r]];item:=λi s Q E hi st hQ=>by
  let hi':i<pl.length:=by rw[hl];exact hi
  let hk:pl[i]<es.size:=hb _ (Bc hi');let hx:(pl[i]?).bind (λk=>(es[k]?).map (·.2))=some (es[pl[i]].2):=by
   rw[AO hi'];simp[hk]
  refine gV hS hl st.1 st.2.1 st.2.2 hx λh' hI' hs'=>?_;exact hQ _ h' s.toks hx #[hI',hs'.extBut a o hne st.2.1,st.2.2.extBut hs'.extBut hneT] λb u hb ee=>hs'.extBut b u (λh=>hb (by simp[h])) ee
 done:=λs Q E st hQ=>Vq hh hS hl st.1 st.2.1 st.2.2 λh' he'=>hQ h' s.toks λb u hb ee=>he' b u (λh=>hb (by simp[h])) ee;self:=λ_ _ _ _ st hQ=>SW st.1 hQ
end
open Sem (wp)
def ZI{prog:Ym}{w:Yo}{A:Yn}{I:Yt}{fp wr:Yg}{n:Nat}{P P':Nat->Value->Prop}{St:Nat->Heap->Prop}(W:Walks prog w A I fp wr n P St)(h:∀i v,P i v->P' i v):Walks prog w A I fp wr n P' St where
 sub:=W.sub;frame:=W.frame;item:=λi s Q E hi st hQ=>W.item i s Q E hi st λv h' tk hP=>hQ v h' tk (h i v hP);done:=W.done;self:=W.self
section
variable{K:Type}[DecidableEq K]{knd:KeyKind prog w K}
def KJ(h:Q (w.params.followText "set-order") s):wpAny (model prog w) A setsByText Q E s:=by
 erw[setsByText];calc AA (wpAny_askSetting (AD h))
def rR(hS:SetK knd o es ep t ks)(hT:w.params.followText "set-order" = true):Nexts prog w o a ep ks.length (λ_=>0) ((pickOrder (w.params.setOrder a ep) es).toList.map (·.2)) where
 len:=by rw[AG,(Qf _ es).length_eq,BU,hS.size]
 nx:=λA E i s Q hi ho hQ=>by
  erw[setNext];refine AA (wpAny_setState_of ho hS.data hS.fits ?_);refine AA (KJ ?_);rw[hT,AB rfl,AE (by simp)];refine AA ?_;erw[setWalk];refine AA (wpAny_setState_of ho hS.data hS.fits ?_);refine AA (KJ ?_);rw[hT,AB rfl];refine AA (wpAny_askSetting (AD ?_));refine AD ?_;let e:(Option.map (λ(e:Int×Value)=>(e.2,0)) (pickOrder (w.params.setOrder a ep) es)[i]?)=Option.map (λx=>(x,0)) ((pickOrder (w.params.setOrder a ep) es).toList.map (·.2))[i]?:=by
   rw[Au,F7];cases (pickOrder (w.params.setOrder a ep) es)[i]? <;> rfl
  show Q (Option.map (λ(e:Int×Value)=>(e.2,0)) (pickOrder (w.params.setOrder a ep) es)[i]?) s;rw[e];calc hQ
def MJ(t:SetTable):Nat->Nat
 |0=>0
 |i+1=>t.place.getD i 0+1
def mR(h:Up t.place)(hi:i<=t.place.size):SetTable.below t.place (MJ t i)=i:=by
 cases i with
 |zero=>calc aE h
 |succ i=>
  show SetTable.below t.place (t.place.getD i 0+1)=i+1;let hl:i<t.place.size:=()
  let e:t.place.getD i 0=t.place[i]:=by simp[Array.getD,hl]
  rw[e];calc Vn h hl
def cI(hS:SetK knd o es ep t ks):t.place.size=es.size:=by
 have:=hS.fits;simp only[SetTable.fits,BB,beq_iff_eq]at this;calc this.1
def dB(hS:SetK knd o es ep t ks)(hT:w.params.followText "set-order" = false)(hd:(!t.plain&&decide (es.size>1))=false):Nexts prog w o a ep ks.length (MJ t) (es.toList.map (·.2)) where
 len:=by rw[AG,BU,hS.size]
 nx:=λA E i s Q hi ho hQ=>by
  let hz:=cI hS;erw[setNext];calc AA (wpAny_setState_of ho hS.data hS.fits ?_);calc AA (KJ ?_);rw[hT,AE ()];show wpAny _ _ (if(!t.plain&&decide (es.size>1))=true then _ else _) _ _ _;rw[AE (by rw[hd];decide)];let hl:t.led=true:=by rw[hS.tab.led,hT];rfl
  calc AA ?_;show wpAny _ _ (if(!t.led && !es.isEmpty)=true then unsupported "set:maker-not-led" else pure Unit.unit) _ _ _;rw[AE (by rw[hl];simp)];calc AD ?_;rw[mR hS.tab.up (by rw[hz,hS.size];calc hi)];calc AD ?_;rw[Au,F7]at hQ;by_cases q:i<es.size
  .have q2:i<t.place.size:=by rw[hz];exact q
   rw[Cq q,Cq q2];rw[Cq q]at hQ;let e:MJ t (i+1)=t.place[i]+1:=by
    show t.place.getD i 0+1=_;simp[Array.getD,q2]
   simp only[Option.map]at hQ;rw[e]at hQ;exact hQ
  .have:i=es.size:=by rw[hS.size]at q ⊢;omega
   rw[Array.getElem?_eq_none ()]at hQ ⊢;calc hQ
def mN(ho:s.heap.get? a=some o)(hS:SetK knd o es ep t ks)
  (h:∀(h':Heap)(d:Drawn)(I:Yt)(fp:Yg)(ord:Yf)(St:Nat->Heap->Prop),(∀b u,s.heap.get? b=some u->h'.get? b=some u)->⇑s<=I->(∀b∈fp,b<h'.objs.size/\(b=a\/⇑s<=b)) ->
   (∀A:Around,A.handled=none->Walks prog w A I fp [I] ks.length (λi v=>ord[i]?=some v) St)->St 0 h'->ord.Perm (es.toList.map (·.2))->Q (.ref I) {s with heap:=h',drawn:=d}):
  wpAny (model prog w) A (pyIter (.ref a)) Q E s:=by
 let hT:=hS.typeIs ho;let hal:a<⇑s:=AH ho;refine wpAny_pyIter_slot hT F.slot_set_iter (BQ F.slot_set_iter hT VT ?_ (F.args_set_iter_1 _));unfold Builtin.«frozenset.__iter__» Builtin.Frozenset.slot0 slotArgs Builtin.Frozenset.addrOf Builtin.Frozenset.sizeOf;simp only[List.isEmpty_nil,Bool.not_true,Cv,↓reduceIte,List.length_nil,bne_self_eq_false,pure_bind,bind_assoc];refine AA (wpAny_setEntries_of ho hS.data hS.fits ?_);erw[setDrawn];simp only[bind_assoc];refine AA (wpAny_setState_of ho hS.data hS.fits ?_);refine AA (KJ ?_);simp only[pure_bind];let hsz:=hS.size;let plain:∀(at_:Nat->Nat)(ord:Yf),at_ 0=0->Nexts prog w o a ep ks.length at_ ord->ord.Perm (es.toList.map (·.2))->Q (.ref ⇑s) {s with heap:=s.heap.push (Bj (rawInt 0) 0 a ks.length ep) }:=by
  intro at_ ord h0 N hp;let e:s.heap.push (Bj (rawInt 0) 0 a ks.length ep)=s.heap.push (Bj (rawInt 0) 0 a ks.length ep):=rfl
  have:=h (s.heap.push (Bj (rawInt 0) 0 a ks.length ep)) s.drawn ⇑s [⇑s,a] ord (λi h=>h.get? ⇑s=some (Bj (rawInt (at_ i)) i a ks.length ep)/\h.get? a=some o)
   (λb u e=>AJ _ e) (AF _) (λb hb=>by
    rw[Bo];rcases AK.mp hb with z|z
    .rw[z];exact#[D3 _,.inr (AF _)]
    .rw[Ac.mp z];calc#[C5 hal,.inl rfl])
   (λA hh=>pY hh (AZ hal) N hS) #[by rw[h0];calc AS _ rfl,AJ _ ho] hp
  exact this
 let mk:∀(s1:Yl)(f:Yu)(hv:s1.heap.get? a=some o){Q':Fin->Shared->Prop},Q' (.done (.ret (.ref ⇑s1))) {s1 with heap:=s1.heap.push (Bj f 0 a ks.length ep) }->wpAny (model prog w) A.in1 (do
   let e <- setEpoch a;let r <- newFields "set_iterator" [f,rawInt 0,Value.ref a,rawInt es.size,rawInt e];ret r) Q' E s1:=by
  intro s1 f hv Q' hq;calc AA (wpAny_setEpoch_of hv hS.data hS.fits ?_);erw[newFields];calc AA (BH (AD ?_));rw[hsz];exact hq
 let ty:∀(s1:Shared)(f:Value),(∃T' r,Shared.TypeIs {s1 with heap:=s1.heap.push (Bj f 0 a ks.length ep) } (.ref ⇑s1) T'/\typeLookup (Value.type T') (Str.ofString "__next__")=pure (some r)/\True):=λs1 f=>#["set_iterator",_,#[_,AS _ rfl,rfl],Eh.lookup,trivial];show wpAny _ _ (if(!w.params.followText "set-order" && (!t.plain&&decide (es.size>1)))=true then _ else _) _ _ _;by_cases hc:(!w.params.followText "set-order" && (!t.plain&&decide (es.size>1)))=true
 .rw[AB hc];refine AA (Qa _ _ (by simp) λpl d hp=>?_);refine AA ?_;erw[newTuple];let hpl:pl.length=ks.length:=by rw[hp.length_eq,Et,hsz]
  refine BH ?_ (by
   show(List.map (λ(i:Nat)=>rawInt i) pl).toArray.size<=sizeLine;rw[AX,AG,hpl,<-hsz];calc fits_of_scanBound hS.bound)
  generalize hH:s.heap.push {cls:=.type "tuple",data:=.seq (List.map (λ(i:Nat)=>rawInt i) pl).toArray}=H;let kH:∀b u,s.heap.get? b=some u->H.get? b=some u:=λb u e=>by rw[<-hH];exact AJ _ e
  let hT1:IsTup H ⇑s (pl.map λ(k:Nat)=>rawInt k).toArray:=#[_,by rw[<-hH];calc AS _ rfl,rfl,0,rfl];let szH:H.objs.size=⇑s+1:=by rw[<-hH];exact Bo ..
  let szlt:⇑s<H.objs.size:=by rw[szH];exact D3 _
  let alt:a<H.objs.size:=Nat.lt_trans hal szlt;calc mk {s with heap:=H,drawn:=d} (.ref ⇑s) (kH _ _ ho) ?_;let(T',r,e1,e2,_):=ty {s with heap:=H,drawn:=d} (.ref ⇑s);calc#[_,rfl,T',r,e1,e2,?_];let kH2:∀b u,s.heap.get? b=some u->(H.push (Bj (.ref ⇑s) 0 a ks.length ep)).get? b=some u:=λb u e=>AJ _ (kH b u e);refine h _ d H.objs.size [H.objs.size,a,⇑s] (pl.map λk=>((es[k]?).map (·.2)).getD .none) (λi h=>h.get? H.objs.size=some (Bj (.ref ⇑s) i a ks.length ep)/\h.get? a=some o/\IsTup h ⇑s (pl.map λ(k:Nat)=>rawInt k).toArray) kH2 (by rw[szH];calc Cw _) (λb hb=>?_) (λA hh=>?_) #[AS _ rfl,kH2 a o ho,?_] ?_
  .rw[Bo];simp only[AK,Bq,Br]at hb;rcases hb with z|z|z
   .rw[z];exact#[D3 _,.inr (DW szlt)]
   .rw[z];exact#[C5 alt,.inl rfl]
   .rw[z];exact#[C5 szlt,.inr (AF _)]
  .have hb:∀k∈pl,k<es.size:=λk hk=>by have:=hp.mem_iff.mp hk;simpa using this
   refine ZI (Vb hh (AZ alt) (AZ szlt) hS hpl hb) λi v hv=>?_;rw[Au];cases q:pl[i]? with
   |none=>rw[q]at hv;ext hv
   |some k=>
    rw[q]at hv;simp only[Option.bind_some]at hv;rw[Option.map_some,hv];rfl
  .exact hT1.push _
  .have e:es.toList.map (·.2)=(List.range es.size).map λk=>((es[k]?).map (·.2)).getD .none:=by
    apply List.ext_getElem?;intro i;rw[Au,Au,F7];by_cases q:i<es.size
    .rw[List.getElem?_range q,Cq q];simp[q]
    .rw[Array.getElem?_eq_none (),Ge (by simp;omega)];rfl
   rw[e];exact hp.map _
 .rw[AE hc];calc mk s (rawInt 0) ho ?_;let(T',r,e1,e2,_):=ty s (rawInt 0);calc#[_,rfl,T',r,e1,e2,?_];cases hX:w.params.followText "set-order" with
  |true=>calc plain _ _ rfl (rR hS hX) ((Qf _ es).map _)
  |false=>
   rw[hX]at hc;calc plain _ _ rfl (dB hS hX (~~~hc)) (.refl _)
end
open Sem (wp)
section
variable{K:Type}[DecidableEq K]{knd:KeyKind prog w K}
def bH:isSubtype (.type "set") (.type "set")=pure true:=sub_set_self
def pH(hT:s.TypeIs (.ref a) "set")(h:Q false s):wpAny (model prog w) A (Builtin.List.listLengthHint (.ref a)) Q E s:=by
 erw[Builtin.List.listLengthHint];calc AA (wpAny_specialOf hT F.slot_set_len.lookup ?_);let hsp:splitId "set.__len__" = some ("set","__len__"):=by decide+kernel
 symm;rw[hsp];calc AA (wpAny_isInstance hT bH ?_);rw[AE (),AB (by decide+kernel)];calc AA (wpAny_typeOf hT ?_);calc AD h
def U0(hh:A.handled=none)(ho:s.heap.get? a=some o)(hS:SetK knd o es ep t ks)
  (hQ:∀(s':Yl)(acc:Yf),(∀b u,s.heap.get? b=some u->s'.heap.get? b=some u)->s'.os=s.os->s'.gens=s.gens->acc.Perm (es.toList.map (·.2))->Q acc s'):wpAny (model prog w) A (collect (.ref a)) Q E s:=by
 let hal:a<⇑s:=AH ho;let hn:ks.length<=sizeLine:=by rw[<-hS.size];exact fits_of_scanBound hS.bound
 erw[collect];calc AA (wpAny_runValue (codeAny_builtin F.entry_proto_collect ?_));rw[GY F.plain_proto_collect _];calc AA (BH (AD #[plainId_quiet F.plain_list_iadd _,codeAny_builtin F.entry_list_iadd ?_]));rw[GY F.plain_list_iadd _];generalize hH:s.heap.push {cls:=.type "list",data:=.seq ([]:List Value).toArray}=H;let kH:∀b u,s.heap.get? b=some u->H.get? b=some u:=λb u e=>by rw[<-hH];exact AJ _ e
 let szH:H.objs.size=⇑s+1:=by rw[<-hH];exact Bo ..
 let hL1:H.get? ⇑s=some {cls:=.type "list",data:=.seq ([]:List Value).toArray}:=by rw[<-hH];exact AS _ rfl
 let ho1:=kH a o ho;show wpAny _ A.in1 (Builtin.List.listExtendWith (.ref ⇑s) (.ref a) (.ref ⇑s)) _ _ {s with heap:=H};erw[Builtin.List.listExtendWith];let hT1:Shared.TypeIs {s with heap:=H} (.ref a) "set" := #[o,ho1,hS.ex.1];calc AA (wpAny_typeOf hT1 ?_);let hneL:⇑s≠a:=Cr hal;let h1:Builtin.List.listSameRef (.ref ⇑s) (.ref a)=false:=by simp[Builtin.List.listSameRef,hneL]
 let h2:(Value.type "set" == Value.type "list")=false:=()
 let h3:(Value.type "set" == Value.type "tuple")=false:=()
 simp only[h1,h2,h3,Bool.or_false,Cv,if_false];refine AA (mN ho1 hS λh2 d I fp ord St k2 hI2 hfp W st0 hp=>?_);let ho2:=k2 a o ho1;refine AA (Bu (pH #[o,ho2,hS.ex.1] ?_));rw[AB (by decide+kernel)];refine AA (CS (AA ?_));let hL2:=k2 _ _ hL1;refine AA (wpAny_updateSeq hL2 rfl ?_);let hS2:=El (Obj.mapSeq (·.push Value.none)) hL2 rfl;refine wpAny_updateSeq hS2 rfl ?_;let hS3:=El (Obj.mapSeq (·.pop)) hS2 rfl;generalize hH3:(h2.update ⇑s (Obj.mapSeq (·.push Value.none))).update ⇑s (Obj.mapSeq (·.pop))=H3 at hS3;let oth:∀b u,b≠⇑s->h2.get? b=some u->H3.get? b=some u:=λb u hb e=>by
  rw[<-hH3];exact(Er _ _ (Ne.symm hb)).trans ((Er _ _ (Ne.symm hb)).trans e)
 let hSf:⇑s∉fp:=λhm=>by
  rcases(hfp _ hm).2 with z|z
  .exact hneL z
  .have z':H.objs.size<=⇑s:=z;rw[szH]at z';exact absurd z' (Nat.not_succ_le_self _)
 let WS:=(W A.in1.in1 hh).toS;let st3:St 0 H3:=(W A.in1.in1 hh).frame 0 _ _ st0 λb hb u e=>oth b u (λz=>hSf (z▸hb)) e;let hI3:I≠⇑s:=λz=>by
  let z':H.objs.size<=I:=hI2;rw[szH,z]at z';exact absurd z' (Nat.not_succ_le_self _)
 refine AD #[plainId_quiet F.plain_extend_loop _,codeAny_extend_loopS (WalksS.of_in1 WS) hn _ hSf _ ks.length 0 {s with heap:=H3,drawn:=d} _ _ rfl (BV _) st3 hS3 (ItemsOf.nil _) λs' acc' c' hm hS' hacc=>?_];refine AA (wpAny_load hS' (AD (hQ s' _ (λb u e=>hm.heap b u (λq=>?_) (oth b u (λz=>BS _ (z▸AH e)) (k2 b u (kH b u e)))) hm.os hm.gens ?_)))
 .rcases AK.mp q with z|z
  .exact BS _ (z▸AH e)
  .have z':H.objs.size<=I:=hI2;rw[<-Ac.mp z,szH]at z';exact BS _ (Nat.lt_trans (Ay (D3 _) z') (AH e))
 .have e:acc'.toList=ord:=by
   let hl:ord.length=ks.length:=by rw[hp.length_eq,AG,BU,hS.size]
   apply List.ext_getElem?;intro i;rw[F7];by_cases q:i<ks.length
   .have q':i<acc'.size:=by rw[hacc.1];exact q
    rw[Cq q'];exact(hacc.2 i _ (Cq q')).symm
   .rw[Array.getElem?_eq_none (by rw[hacc.1];omega),Ge ()]
  rw[e];calc hp
end
end ST
section
open PySem PySem.Spec PyProof.Rows
namespace L2
open ST
def YN{elt target iter ifs rest scope pos it acc env}
  (h0:codeAny (model prog w) A (.compLoop (.SetComp elt (#[target,iter,ifs,0]::rest) scope pos) 0 it acc env) R s)
  (h:wpAny (model prog w) A (pyIter it) (λit' s'=>codeAny (model prog w) A (.compLoop (.SetComp elt (#[target,iter,ifs,0]::rest) scope pos) 0 it' acc env) R s')
   (notedBy (model prog w) A env λx s'=>R (.error x) s') s):
  codeAny (model prog w) A (.compStart (.SetComp elt (#[target,iter,ifs,0]::rest) scope pos) 0 it acc env) R s:=by
 calc codeAny_of_tree ?_;show wpAny _ _ ((compStart (.SetComp elt (#[target,iter,ifs,0]::rest) scope pos) 0 it acc env).onRaise (λx=>do noteFrame x env;standAt theWindowsPlace)) _ _ s;calc wpAny_notedAt ?_;erw[compStart];calc AA (wpAny_askSetting (wpAny_ite ?_));split
 .first
   |calc AA (AD (AD (And.intro rfl h0)))
   |exact AD (And.intro rfl h0)
 .first
   |exact AA (CS (AA (CA (AA (AQ h (λit' s' h'=>AD (And.intro rfl h')) λ_ _ x=>x)))))
   | (calc AA (CS ?_);show wpAny _ _ (standAt iter.pos >>= _) _ _ s;calc AA (CA (AA (AQ h (λit' s' h'=>AD (And.intro rfl h')) λ_ _ x=>x))))
section
variable{pos:Pos}
 {own:Yj} {g:TG} {tc:TT} {te:TE} {E:Yc}
def YC(h:SetK (intKind prog w) o es ep t ks):∀v,o.data≠.cell v:=λv z=>by rw[h.data]at z;ext z
def fU(C:CompIn X scope own)(hcalm:X.calm=true)(I:Inv X zB Y H s)(T:Turn X.prog X.w X.K tg J fp it tn)(st:tn 0 s.heap)(hf:∀b∈fp,BN X zB H b)
  (c1:∀x c,cl.lookup x=some c->X.env.cells.lookup x=some c) (c2:∀y∈scope.names,y.2=.free->(cl.lookup y.1).isSome=true)
  (hg:PG (zK X zB scope cl s H fp) tg g) (hi:DV (zK X zB scope cl s H fp) ifs tc) (he:PE (zK X zB scope cl s H fp) elt te)
  {RR:Value->Addr->Result->Shared->Prop} {QQ:List Int->Hp->Prop} {W:Nat->Nat->List Int->Hp->Prop} {m0:Nat} (w0:W 0 m0 [] H)
  (turn:∀i m ys H,W i m ys H->(J.stop i H/\QQ ys H) \/
   (J.go i H/\∀x H',J.yld i H x H'->g x (clr own Y) H' λσ2 H2=>Ext (clr own Y) σ2/\tc σ2 H2 λb H3=>
    if b=true then te σ2 H3 λv H4=>∃k,v=.int k/\ys.length+1<scanBound/\∃m',m'<m/\W (i+1) m' (ins ys k) H4 else∃m',m'<m/\W (i+1) m' ys H3))
  (fin:∀σc H' s' o es ep t ys,Inv (zK X zB scope cl s H fp) [(⇑s,o)] σc H' s'->SetK (intKind X.prog X.w) o es ep t ys->QQ ys H'->RR (.ref ⇑s) (⇑s+1) (.ok .next) s'):
  wpAny (model X.prog X.w) X.A (newSet (.type "set")) (λacc s₃=>wpAny (model X.prog X.w) X.A (newFunctionEnv scope X.env.globals cl [] X.env.qual none .none (some X.env)) (λcenv s₄=>
   codeAny (model X.prog X.w) X.A (.compStart (.SetComp elt [#[tg,iter,ifs,0]] scope pos) 0 (.ref it) acc {cenv with scope:=relabel scope X.env}) (RR acc cenv.locals) s₄) E s₃) E s:=by
 let ob:∀b:Nat,b∈fp->b<⇑s:=λb hb=>let⟨_,e,_⟩:=T.obj 0 _ st b hb;AH e;refine iF (LO ?_);let sz1:(s.heap.push (F6 X.w)).objs.size=⇑s+1:=Bo ..;let I4:=Kx C.sc I hf ob c1 c2 (GP own Y) (λi x v h1 h2 h3=>by
  let(a,b):=GI own Y i v h2;rcases C.nm i x h1 with z|z|z
  .exact absurd z b
  .exact absurd (K1 x z) h3
  .exact#[z,a]) (F6 X.w) (by intro v z;ext z) rfl rfl
 let st4:tn 0 (pushCells ((s.heap.push (F6 X.w)).push {cls:=.type "dict",data:=.dict #[] }) scope.names):=T.keep 0 _ _ st λb _ o e=>pushCells_keeps _ _ b o (AJ _ (AJ _ e));erw[newEnv];rw[sz1];let hDfp:⇑s∉fp:=λz=>BS _ (ob _ z);let hcD:∀x c,(zK X zB scope cl s H fp).env.cells.lookup x=some c->c≠⇑s:=λx c e z=>by
  let(v,o,ho,hd):=I4.cell x c e;let(q,_):=I4.pin (⇑s,F6 X.w) (by simp);rw[z,q]at ho;ext ho;ext hd
 let fpk:∀{H':Hp}{pl:Yd},(∀b∈fp,H' b=none)->(∀p∈pl,p.1=⇑s)->∀b∈fp,BN (zK X zB scope cl s H fp) pl H' b:=λ{H' pl} hn hp b hb=>
  #[hn b hb,(I4.ok.exf b hb).1,I4.ok.exfs b hb,.inl hb,(I4.ok.exf b hb).2,λp hq=>by
   rcases Ae.mp hq with z|z
   .exact(hf b hb).2.2.2.2.2 p z
   .intro e;let e2:=hp p z;rw[e]at e2;calc hDfp (e2▸hb)]
 let loop:codeAny (model X.prog X.w) X.A (.compLoop (.SetComp elt [⟨tg,iter,ifs,0⟩] scope pos) 0 (.ref it) (.ref ⇑s) (zK X zB scope cl s H fp).env) (RR (.ref ⇑s) (⇑s+1))
   {s with heap:=pushCells ((s.heap.push (F6 X.w)).push {cls:=.type "dict",data:=.dict #[] }) scope.names}:=by
  refine fV (λn s'=>∃i H' ys o es ep t,Inv (zK X zB scope cl s H fp) [(⇑s,o)] (clr own Y) H' s'/\SetK (intKind X.prog X.w) o es ep t ys/\tn i s'.heap/\(∀b∈fp,H' b=none)/\W i n ys H') ?_ m0
   #[0,H,[],F6 X.w,_,_,_,I4,.fresh,st4,λb hb=>(hf b hb).1,w0]
  rintro n s5 ⟨i,H5,ys,o,es,ep,t,I5,r5,st5,f5,w5⟩;let pinD:∀p∈[(⇑s,o)],p.1=⇑s:=λp hp=>by
   have:p=(⇑s,o):=by simpa using hp
   rw[this]
  rcases turn i n ys H5 w5 with⟨stop,qq⟩|⟨go,step⟩
  .refine thn (T.done (zK X zB scope cl s H fp) rfl rfl rfl hcalm i _ s5 _ H5 _ I5 (fpk f5 pinD) st5 stop) λr s6 ⟨hr,I6⟩=>?_;subst hr;exact fin _ H5 s6 o es ep t ys I6 r5 qq
  .refine thn (T.item (zK X zB scope cl s H fp) rfl rfl rfl hcalm i _ s5 _ H5 _ I5 (fpk f5 pinD) st5 go) λr s6 ⟨u,hr,h6⟩=>?_;subst hr;refine thn h6 λ_ s7 ⟨x,H7,I7,r7,y7,st7,f7⟩=>?_;let I7':=I7.pinned (fpk f7 pinD) (T.obj _ _ st7);refine thn (hg _ s7 _ H7 x u _ I7' r7 (step x H7 y7)) λ_ s8 ⟨σ8,H8,I8,x8,q8⟩=>?_;refine thn (hi _ s8 σ8 H8 _ I8 q8) λok s9 ⟨H9,I9,q9⟩=>?_;let back:∀{s':Yl}{Hx:Hp},Inv (zK X zB scope cl s H fp) ([(⇑s,o)]++Em fp s7.heap) σ8 Hx s'->tn (i+1) s'.heap/\∀b∈fp,Hx b=none:=λ{s' Hx} Ix=>
    #[T.keep _ _ _ st7 λb hb o e=>(Ix.pin (b,o) (Ak _ (Ak _ (Dh hb e)))).1,λb hb=>by
     let(o,e,d):=T.obj _ _ st7 b hb;calc(Ix.pin (b,o) (Ak _ (Ak _ (Dh hb e)))).2.1]
   cases ok with
   |false=>
    let(m',hm,w'):=q9;let(b1,b2):=back I9;calc#[m',hm,i+1,H9,ys,o,es,ep,t,(I9.weak (by rw[x8.1]) x8.2).unpinned,r5,b1,b2,w']
   |true=>
    refine thn (he _ s9 σ8 H9 _ I9 q9) λv s10 ⟨y,H10,I10,r10,k,hk,hlt,m',hm,w'⟩=>?_;subst hk;let(b1,b2):=back I10;let J10:=(I10.weak (by rw[x8.1]) x8.2).unpinned;let(e10,n10,ne10,nf10,d10):=J10.pin (⇑s,o) (by simp);obtain⟨tk,hv⟩:∃tk,v=.int k tk:=r10;subst hv;refine Ur (intKind_is _ _ _ _) rfl e10 r5 hlt λh' o' es' ep' t' hs' e' S'=>?_;refine#[m',hm,i+1,H10,ins ys k,o',es',ep',t',?_,S',T.keep _ _ _ b1 λb hb o e=>hs'.extBut b o (λz=>hDfp (z▸hb)) e,b2,w'];refine(Inv.repin (pl:=[]) J10 (λp hp=>?_) hs' (AF _) hcD e' (YC S')).tok _;rw[BI]at hp;let hp':p∈X.pn++zB:=hp;exact AZ (AH (I.pin p hp').1)
 calc YN loop (T.self _ 0 _ _ _ st4 loop)
def fR(I:Inv X zB Y H s)(hf:∀b∈fp,BN X zB H b)
  (Ic:Inv (zK X zB scope cl s H fp) [(⇑s,oD)] σc H' s') (hs:Heap.SameBut (⇑s+1) s'.heap h'):
  Inv X zB Y H' {s' with heap:=h' }/\h'.get? ⇑s=some oD:=by
 let(eD,nD,_):=Ic.pin (⇑s,oD) (by simp);let nC:H' (⇑s+1)=none:=Ic.free;let eD':h'.get? ⇑s=some oD:=hs.extBut _ _ (AZ (D3 _)) eD;let lt1:∀{b:Yt}{o:Obj},s.heap.get? b=some o->b≠⇑s+1:=λe=>AZ (C5 (AH e));let tr:∀b u,H' b=some u->b≠⇑s+1:=λb u e z=>by rw[z,nC]at e;ext e
 refine#[?_,eD'];let B:=Ic.base;let un:Un (frs X.stack) fp H H' s.heap h':=by
  refine#[λb o e q hb hx=>hs.extBut b o (lt1 e) (B.keep b o e q hb hx),λb o e q hb hx=>?_,λb o e q hx=>B.free b o e q hx,λb o e hx=>?_,λb xs e=>B.tups b xs e,λb o xs e=>B.frzs b o xs e,λb ps e=>B.tbls b ps e]
  .obtain⟨sl,e1⟩:=B.slot b o e q hb hx;exact#[sl,hs.extBut b _ (lt1 e) e1]
  .obtain⟨o',e1⟩:=B.there b o e hx;exact#[o',hs.extBut b _ (lt1 e) e1]
 let hok:HOk X.prog X.w H' h':=λb u e=>by
  refine(Ic.hok b u e).stay (λc v hc q=>hs.extBut c v ?_ q) (λc q=>q) λc xs q=>q;rcases hc with z|z
  .rw[z];exact tr b u e
  .exact tr c _ z
 calc I.call' Ic.os un hok Ic.bare λb hb=>#[(hf b hb).2.2.2.1,(hf b hb).2.1,(hf b hb).2.2.2.2.1,(hf b hb).2.2.2.2.2]
end
abbrev TZ:=St->Hp->(List Int->Hp->Prop)->Prop
def PZ(X:Cx)(e:Expr)(t:TZ):Prop:=∀(zB:Yd)(s:Yl)(Y:St)(H:Hp)(Q:List Int->Hp->Prop),Inv X zB Y H s->t Y H Q ->
 wpAny (model X.prog X.w) X.A (eval e X.env) (λv s'=>∃a o es ep tb ks H',v=.ref a/\s'.heap.get? a=some o/\SetK (intKind X.prog X.w) o es ep tb ks/\Inv X zB Y H' s'/\Q ks H') X.xe s
def RU(own:Yj)(wi:TI)(g:TG)(tc:TT)(te:TE):TZ:=λY H Q=>wi Y H λJ H1=>∃W:Nat->Nat->List Int->Hp->Prop,(∃m,W 0 m [] H1)/\∀i m ys H,W i m ys H ->
 (J.stop i H/\Q ys H) \/
 (J.go i H/\∀x H',J.yld i H x H'->g x (clr own Y) H' λσ2 H2=>Ext (clr own Y) σ2/\tc σ2 H2 λb H3=>
  if b=true then te σ2 H3 λv H4=>∃k,v=.int k/\ys.length+1<scanBound/\∃m',m'<m/\W (i+1) m' (ins ys k) H4 else∃m',m'<m/\W (i+1) m' ys H3)
def YG(C:CompIn X scope own)(hcalm:X.calm=true)(hi:PI X tg iter wi)(p:CompParts X scope tg ifs elt g tc te)(hs:∀x,foldedSetIterable iter X.env x=pure x:=by intro _;rfl):
  PZ X (.SetComp elt [#[tg,iter,ifs,0]] scope pos) (RU own wi g tc te):=by
 intro zB s Y H Q I h;let(cl,hcl,c1,c2):=C.sc.closure I;rw[arm_eval_SetComp];refine HY rfl hs hcl C.sc.kind C.sc.names (thn (hi zB s Y H _ I h) λv s1 h1=>thn h1 λitv s2 h2=>?_);let(it,fp,tn,J,H2,e,I2,T,st2,f2,W,(m0,w0),turn):=h2;subst e;calc fU C hcalm I2 T st2 f2 c1 c2 (p.g _ _ _ _ _) (p.c _ _ _ _ _) (p.e _ _ _ _ _) w0 turn ?_;intro σc H' s' o es ep t ys Ic rv qq;let(m,hn,_):=Ic.loc;refine#[m,hn,λh' hs'=>?_];let(J',eD):=fR I2 f2 Ic hs';calc#[_,o,es,ep,t,ys,H',rfl,eD,rv,J',qq]
end L2
namespace ST
open PySem.Sem (wp)
section
variable{prog:Ym}{w:Yo}{A:Yn}{E:Yc}{s:Yl}
variable{K:Type}[DecidableEq K]{knd:KeyKind prog w K}
def CT(ks:List K):List K:=ks.foldl ins []
def rX(ks:List K)(k:K):CT (ks++[k])=ins (CT ks) k:=by erw[CT];rw[Dr];rfl
def bL(ks:List K)(k:K):(ins ks k).length<=ks.length+1:=by erw[ins];split <;> simp
def Ln(ks:List K):(CT ks).length<=ks.length:=by
 have:∀(l acc:List K),(l.foldl ins acc).length<=acc.length+l.length:=by
  intro l;induction l with
  |nil=>intro acc;simp
  |cons x r ih=>intro acc;have:=ih (ins acc x);have:=bL acc x;simp only[List.foldl_cons,Bw];omega
 simpa [CT]using this ks []
def hJ(ks:List K)(k x:K):x∈ins ks k↔x∈ks\/x=k:=by
 erw[ins];split
 .intros h;constructor
  .exact .inl
  .rintro(z|z)
   .exact z
   .rw[z];exact h
 .simp
def d9(ks:List K)(x:K):x∈CT ks↔x∈ks:=by
  have:∀(l acc:List K),x∈l.foldl ins acc↔x∈acc\/x∈l:=by
    intro l;induction l with
    |nil=>intro acc;simp
    |cons y r ih=>intro acc;rw[List.foldl_cons,ih,hJ,AK];simp[or_assoc]
  simpa [CT]using this ks []
def dX (h : ks.Nodup) (k : K) : (ins ks k).Nodup := by
  erw[ins];split
  .exact h
  · rename_i q
    rw[DN]
    exact ⟨h, by simp, fun a ha b hb z => by have : b = k := by simpa using hb
                                             subst this;subst z;calc q ha⟩
def iB(ks:List K):(CT ks).Nodup:=by
 have:∀(l acc:List K),acc.Nodup->(l.foldl ins acc).Nodup:=by
  intro l;induction l with
  |nil=>intro acc h;calc h
  |cons y r ih=>intro acc h;exact ih _ (dX h y)
 calc this ks [] (by simp)
variable{R:Yx}{I:Yt}{fp wr:Yg}{G:Array GenState->Array GenState->Prop}{n:Nat}{P:Nat->Value->Prop}{St:Nat->Shared->Prop}
end
def DU(ks:Ye):List Int:=ks.mergeSort λa b=>decide (a<=b)
def IF(ks:Ye):(DU ks).Perm ks:=List.mergeSort_perm _ _
def Oh(ks:Ye):(DU ks).Pairwise (· <= ·):=by
 have:=List.pairwise_mergeSort (le:=λ(a b:Int)=>decide (a<=b)) (λa b c h1 h2=>by simp at h1 h2 ⊢;omega) (λa b=>by simp;omega) ks;calc this.imp λh=>by simpa using h
theorem Rx:∀{xs ys:Ye},xs.Perm ys->xs.Pairwise (· <= ·)->ys.Pairwise (· <= ·)->xs=ys
 |[],ys,p,_,_=>by have:=p.length_eq;simp at this;rw[EF.mp this.symm]
 |x::xs,[],p,_,_=>by have:=p.length_eq;simp at this
 |x::xs,y::ys,p,h1,h2=>by
  let hx:=Dd.mp h1;let hy:=Dd.mp h2;let e:x=y:=by
   let a:x∈y::ys:=p.mem_iff.mp AR;let b:y∈x::xs:=p.mem_iff.mpr AR;rcases AK.mp a with z|z
   .exact z
   .rcases AK.mp b with q|q
    .exact q.symm
    .exact Int.le_antisymm (hx.1 y q) (hy.1 x z)
  subst e;rw[Rx (p.cons_inv) hx.2 hy.2]
def SX(p:xs.Perm ys)(h:xs.Pairwise (· <= ·)):xs=DU ys:=Rx (p.trans (IF ys).symm) h (Oh ys)
def WB
  (hc:wpAny (model prog w) A.in1 (collect v) (λvs s1=>∃ns,IntsAre vs ns/\vs.length<64/\∀(h':Heap)(out:List Value)(n:Nat),(∀b u,s1.heap.get? b=some u->h'.get? b=some u)->h'.get? ⇑s1=some (seqObj "list" out.toArray n)->IntsAre out (DU ns)->Q (.ref ⇑s1) {s1 with heap:=h' }) E s):
  wpAny (model prog w) A (call (.builtin "sorted") [v]) Q E s:=by
 calc Calls.call_function_entry kind_sorted plain_sorted entry_sorted (args_sorted1 _) ?_;unfold Builtin.«sorted»;calc AA (AD ?_);refine AA (AQ hc (λvs s1 h1=>?_) λ_ _ h'=>h');let(ns,hI,h64,h):=h1;calc AA (wpAny_newList ?_ (by rw[sizeLine_eq];omega));let hoL:(s1.heap.push (seqObj "list" vs.toArray 0)).get? ⇑s1=some (seqObj "list" vs.toArray 0):=AS _ rfl;refine AA (Bu (BQ slot_list_sort #[_,hoL,rfl] entry_list_sort (list_sort_tree hoL hI h64 λout ns' a1 a2 a3=>#[_,rfl,?_]) (args_list_sort _)));calc AD #[_,rfl,?_];let g1:=get?_update_seq hoL (λ_=> #[]);let g2:(((s1.heap.push (seqObj "list" vs.toArray 0)).update ⇑s1 (Obj.mapSeq λ_=> #[])).push (seqObj "tuple" vs.toArray 0)).get? ⇑s1=_:=AJ _ g1;let g3:=AJ (seqObj "list" #[] 0) g2;let g4:=get?_update_seq g3 (λ_=>out);let eS:=SX a2 a3;subst eS;refine h _ out.toList _ (λb u e=>?_) (by rw[Array.toArray_toList];calc g4) a1;let hb:⇑s1≠b:=λz=>BS _ (z▸AH e);calc(Er _ _ hb).trans (AJ _ (AJ _ ((Er _ _ hb).trans (AJ _ e))))
def jU(h:F2 (Mu (intKind prog w)) es ks):IntsAre (es.map (·.2)) ks:=by
 induction h with
 |nil=>calc .nil
 |cons h _ ih=>
  let((h1,_),_):=h;let(t,e):=Value.isInt_shape h1;rw[AU,e];calc .cons _ _ ih
def pR(p:us.Perm vs):∀{ks:Ye},IntsAre vs ks->∃ks',ks'.Perm ks/\IntsAre us ks':=by
 let p':=p.symm;clear p;induction p' with
 |nil=>intro ks h;calc#[ks,.refl _,h]
 |cons x _ ih=>
  intro ks h;cases h with
  |cons n t r=>
   let(ys',q1,q2):=ih r;calc#[_,q1.cons _,.cons _ _ q2]
 |swap x y l=>
  intro ks h;cases h with
  |cons n t r=>
   cases r with
   |cons n2 t2 r=>calc#[_,List.Perm.swap _ _ _,.cons _ _ (.cons _ _ r)]
 |trans _ _ ih1 ih2=>
  intro ks h;let(ys',q1,q2):=ih1 h;let(ys'',r1,r2):=ih2 q2;calc#[ys'',r1.trans q1,r2]
def jC(p:xs.Perm ys):DU xs=DU ys:=SX ((IF xs).trans p) (Oh xs)
def b8(hh:A.handled=none)(ho:s.heap.get? a=some o)(hS:SetK (intKind prog w) o es ep t ks)(h64:ks.length<64)
  (h:∀(s1:Shared)(h':Heap)(out:List Value)(n:Nat),(∀b u,s.heap.get? b=some u->s1.heap.get? b=some u)->s1.os=s.os->s1.gens=s.gens->(∀b u,s1.heap.get? b=some u->h'.get? b=some u)->h'.get? ⇑s1=some (seqObj "list" out.toArray n)->IntsAre out (DU ks)->Q (.ref ⇑s1) {s1 with heap:=h' }):
  wpAny (model prog w) A (call (.builtin "sorted") [.ref a]) Q E s:=by
 refine WB (U0 hh ho hS λs' acc k1 k2 k3 hp=>?_);let(ks',p,f):=hS.ent;let(ks2,p2,f2):=pR hp (jU f);refine#[ks2,f2,?_,λh' out n e1 e2 e3=>?_]
 .rw[hp.length_eq,AG,BU,hS.size];exact h64
 .rw[jC (p2.trans p)]at e3;calc h s' h' out n k1 k2 k3 e1 e2 e3
end ST
namespace L2
open ST
def Inv.kept'(I:Inv X zB Y H s)(k:∀b u,s.heap.get? b=some u->s1.heap.get? b=some u)(ho:s1.os=s.os)(hg:s1.gens=s.gens):Inv X zB Y H s1 :=
 I.call' (ch:=[]) ho (Un.kept k) (I.hok.kept k) (by rw[hg];calc I.bare) λb hb=>nomatch hb
theorem Q6:∀{ns:Ye}{us:Yf},IntsAre us ns->zd (ns.map V.int) us
 |_,_,.nil=> .nil
 |_,_,.cons n t h=> .cons #[t,rfl] (Q6 h)
def ZX(ks:Ye):(DU ks).length=ks.length:=(IF ks).length_eq
def XU(hc:X.calm=true)(hg:Gl X "sorted")(hm:X.mg "sorted" = none)(ha:PZ X e t)(hs:starEach [e] X.env=(false,eval e X.env)::starEach [] X.env:=by rfl)(hpl:(backTo pos (starEach [] X.env)).any (·.1)=false:=by rfl):
  PE X (.Call (.Name "sorted" p) [e] [] pos) (λY H Q=>t Y H λks H1=>ks.length<64/\∀q,H1 q=none->Q (.ref q) (upd H1 q (.lst ((DU ks).map V.int)))):=by
 intro zB s Y H Q I h;calc wpAny_Call_Name_kw (Gf I hg hm (by rfl) ?_ () ());calc callWith_builtin1 ?_ hs hpl;rw[hs];refine Calls.spliced_cons (thn (ha zB s Y H _ I h) ?_);rintro u s1 ⟨a,o,es,ep,tb,ks,H1,hv,ho,hS,I1,h64,q⟩;refine Calls.spliced_nil ?_;subst hv;refine b8 (I1.ok.hd hc) ho hS h64 λs2 h' out n k1 k2 k3 k4 e4 i4=>?_;let I2:Inv X zB Y H1 s2:=I1.kept' k1 k2 k3;let hf:H1 ⇑s2=none:=I2.hok.fresh (AF _);calc#[.ref ⇑s2,upd H1 ⇑s2 (.lst ((DU ks).map V.int)),I2.laid k4 (AF _) #[by rw[AG,ZX,sizeLine_eq];omega,out,n,Q6 i4,e4],rfl,q _ hf]
end L2
namespace L3
open L2 ST
abbrev FZ:=Sd->Mem->Option (List Int×Mem)
def trZ(K:Yb)(f:FZ):TZ:=λτ H Q=>∃L Y M ks M',Cor K L M H/\Aj L H Y τ/\f Y M=some (ks,M')/\∀L' H',Stp L H L' H'->Cor K L' M' H'->Q ks H'
structure QZ(X:Cx)(e:Expr)(f:FZ):Prop where
 un:PZ X e (trZ X.K f)
def PZ.imp(h:PZ X e t)(hi:∀τ H Q,t' τ H Q->t τ H Q):PZ X e t':=λzB s Y H Q I q=>h zB s Y H Q I (hi _ _ _ q)
def HK(own:Yj)(fi:FI)(g:FG)(tc:FT)(te:FE):FZ:=λY M=>match zu own fi g tc te Y M with
 |some (.fl ys,M2)=>match BR ys with
  |some ks=>if ks.length+1<scanBound then some (CT ks,M2)else none
  |none=>none
 |_=>none
theorem Q0:∀{as bs:List D}{zs:Ye},BR (as++bs)=some zs->∃xs ys,BR as=some xs/\BR bs=some ys/\zs=xs++ys
 |[],bs,zs,h=>#[[],zs,rfl,h,rfl]
 |a::as,bs,zs,h=>by
  cases a with
  |int i=>
   rw[List.cons_append]at h;erw[BR]at h;cbv at h
   .intros us e;ext h;let(xs,ys,e1,e2,e3):=Q0 e;calc#[i::xs,ys,?_,e2,by rw[e3];rfl];erw[BR];rw[e1]
   .ext h
  |_=>ext h
def iN(h:BR as=some xs):BR (as++[.int i])=some (xs++[i]):=by
 induction as generalizing xs with
 |nil=>ext h;rfl
 |cons a as ih=>
  cases a with
  |int j=>
   erw[BR]at h;cbv at h
   .intros us e;ext h;rw[List.cons_append];erw[BR];rw[ih e];rfl
   .ext h
  |_=>ext h
def ZA{K:Yb}{own:Yj}{fi:FI}{g:TG}{fg:FG}{tc:FT}{te:FE}(hg:Cf own g fg){τ:Sv}{H:Hp}{Q:List Int->Hp->Prop}(h:trZ K (HK own fi fg tc te) τ H Q):RU own (trI K fi) g (trT K tc) (trD K (toD te)) τ H Q:=by
 let(L,Y,M,d,Mf,c,rs,hf,q):=h;erw[HK,zu]at hf;cases e1:fi Y M with
 |none=>rw[e1]at hf;ext hf
 |some r=>
  let(xs,gd,M1):=r;rw[e1]at hf;dsimp only at hf;by_cases hz:xs.length<=sizeLine
  .rw[AB hz]at hf;cases e2:BK fg tc te (Al own Y) xs gd xs M1 with
   |none=>rw[e2]at hf;ext hf
   |some r=>
    let(zs,M2):=r;rw[e2]at hf;dsimp only at hf;cbv at hf
    .intros kz ez;cbv at hf
     .intros hb;ext hf;refine(mkI c rs e1 (λL1 H1 J s1 c1 it=>?_))
      refine#[λi m ys H'=>m=xs.length-i/\i<=xs.length/\∃L' M' as bs ka,Stp L1 H1 L' H'/\Cor K L' M' H'/\BR as=some ka/\ys=CT ka/\BK fg tc te (Al own Y) xs gd (xs.drop i) M'=some (bs,Mf)/\as++bs=zs,
       #[xs.length,by simp,BV _,L1,M1,[],zs,[],.refl _ _,c1,rfl,rfl,by simpa using e2,rfl],?_]
      intro i m ys H' hI;refine qz λG=>?_;let(eI1,hi,L',M',as,bs,ka,s',c',r',hl,e',hab):=hI;calc G ?_;clear G;subst eI1;by_cases hlt:i<xs.length
      .rw[Hf hlt]at e';erw[BK]at e';cbv at e'
       .intros hgd;let(step,_):=it L' H' M' s' c' hgd;let(go,yl):=step i xs[i] (AO hlt);cbv at e'
        .intros σ1 eg;refine .inr #[go,λv H2 hy=>?_];let(gr,rv):=yl v H2 hy;let s2:Stp L1 H1 L' H2:=s'.yld gr;refine hg (Hv own ((rs.stp s1).stp s2)) (.refl _) rv eg λτ2 r2 x2=>#[x2,?_];cbv at e'
         .intros M3 e3;cbv at e'
          .intros d M4 e4;cbv at e'
           .intros ds M5 e5;ext e';refine(mkT (c'.grow gr) r2 e3 (λL3 H3 s3 c3=>Di ?_));refine(mkD c3 (r2.stp s3) e4 (λL4 H4 w s4 c4 r4=>?_));let st:Stp L' H' L4 H4:=((Stp.grow gr).trans s3).trans s4;let ez':=ez;rw[<-hab]at ez';let(x1,y1,g1,g2,g3):=Q0 ez';obtain⟨k,hk⟩:∃k,d=.int k:=by
             cases d with
             |int k=>calc#[k,rfl]
             |_=>ext g2
            subst hk;let ew:w=.int k:=by erw[Rep]at r4;exact r4
            let hka:ka.length<=kz.length:=by
             rw[r']at g1;ext g1;rw[g3,AW];omega
            calc#[k,ew,?_,xs.length-(i+1),(),rfl,hlt,L4,M4,as++[.int k],ds,ka++[k],s'.trans st,c4,iN r',by rw[hl,rX],e5,by rw[<-hab];simp];rw[hl];have:=Ln ka;omega
           .ext e'
          .ext e'
         .intros M3 e3;refine(mkT (c'.grow gr) r2 e3 (λL3 H3 s3 c3=>DX ?_));let st:Stp L' H' L3 H3:=(Stp.grow gr).trans s3;exact#[xs.length-(i+1),(),rfl,hlt,L3,M3,as,bs,ka,s'.trans st,c3,r',hl,e',hab]
         .ext e'
        .ext e'
       .ext e'
      .have hi':i=xs.length:=()
       subst hi';rw[List.drop_length]at e';erw[BK]at e';cbv at e'
       .intros hgd;ext e';let(_,stop):=it L' H' _ s' c' hgd;rw[BI]at hab;subst hab;rw[r']at ez;ext ez;calc .inl #[stop,?_];rw[hl];exact q L' H' (s1.trans s') c'
       .ext e'
     .ext hf
    .ext hf
  .rw[AE hz]at hf;ext hf
section
variable{X:Cx}{scope:Y0}{tg elt iter:Expr}{ifs:Yi}{pos p:Pos}{own:Yj}{e:Expr}{f:FE}
def f6(hg:Cf own g fg)(C:CompIn X scope own)(hcalm:X.calm=true)(hi:QI X tg iter fi)(p:QParts X scope tg ifs elt g tc te)(hs:∀x,foldedSetIterable iter X.env x=pure x:=by intro _;rfl):
  QZ X (.SetComp elt [#[tg,iter,ifs,0]] scope pos) (HK own fi fg tc te) :=
 .mk <| PZ.imp (YG C hcalm hi.un p.parts hs) λ_ _ _ h=>ZA hg h
def Iu(f:FZ):FE:=λY M=>match f Y M with
 |some (ks,M1)=>if ks.length<64 then some (.fl ((DU ks).map D.int),M1)else none
 |none=>none
theorem QN:∀(ns:Ye),zH L H (ns.map D.int) (ns.map V.int)
 |[]=> .nil
 |n::ns=> .cons By (QN ns)
def lD(hc:X.calm=true)(hg:Gl X "sorted")(hm:X.mg "sorted" = none)(h:QZ X e fz)(hs:starEach [e] X.env=(false,eval e X.env)::starEach [] X.env:=by rfl)(hpl:(backTo pos (starEach [] X.env)).any (·.1)=false:=by rfl):
  QE X (.Call (.Name "sorted" p) [e] [] pos) (Iu fz):=.mk <| PE.imp (XU hc hg hm h.un hs hpl) λτ H Q zz=>by
 let(L,Y,M,d,M',c,rs,hf,q):=zz;erw[Iu]at hf;cbv at hf
 .intros ks M1 e1;cbv at hf
  .intros hb;ext hf;refine#[L,Y,M,_,_,c,rs,e1,λL1 H1 s1 c1=>#[hb,λp hp=>?_]];exact q L1 _ _ (s1.trans (.upd hp)) (c1.upd hp) (zX.newLst s1 c c1 hp (QN _))
  .ext hf
 .ext hf
def zX.newLst'{L:Yg}{H:Hp}{K:Yb}{M:List MO}{p:Yt}{ds:List D}{vs:List V}(c:Cor K L M H)(hp:H p=none)(r:zH L H ds vs):zX H L (upd H p (.lst vs)) (.fl ds) (.ref p):=zX.newLst (.refl L H) c c hp r
end
open AutoSeq1 (wpAny_loadPart')
def pM(hh:A.handled=none)(it l:Yt)(hne:l≠it)(items:Yp):
  Draws prog w A it [it,l] items.size (λi v=>items[i]?=some v) (λi h=>h.IsTupleIter it l i/\h.IsTuple l items) where
 live:=λ_ _ st=>let⟨o,ho,_⟩:=st.1;#[o,ho];frame:=λ_ _ _ st hk=>#[let⟨o,ho,r⟩:=st.1;#[o,hk it (by simp) o ho,r],let⟨o,ho,r⟩:=st.2;#[o,hk l (by simp) o ho,r]];item:=λi s Q E hi st hQ=>by
  refine LI st.1 st.2 (x:=items[i]) (by simp[hi]) λh' hit' hs'=>?_;exact hQ _ h' s.toks (by simp[hi]) #[hit',Tup.but st.2 hs'.extBut hne] hs'
 done:=λs Q E st hE=>KA hh st.1 st.2 (by simp) hE
def W5(l:Yt)(items:Yp)(n:Nat)(dct:Option Addr)(sl:Array (Option Value)):
  Meets (Builtin.«enumerate.__new__» #[[.type "enumerate", .ref l],[]]) (λ_ R s=>s.heap.get? l=some {cls:=.type "tuple",dict:=dct,data:=.seq items n,slots:=sl} /\
   R (.ok (.ret (.ref (s.heap.push {cls:=.type "tuple_iterator",data:=.fields ([.ref l,.int 0 0].toArray) }).objs.size)))
    {s with heap:=(s.heap.push {cls:=.type "tuple_iterator",data:=.fields ([.ref l,.int 0 0].toArray) }).push {cls:=.type "enumerate",data:=.fields ([.none,.bool false,.ref ⇑s,rawInt 0,.none,.none].toArray) } }) :=
 .of_wp λprog w A R s h=>by
  let(hp,g,d,tk,os):=s;let(hl,h):=h;let hsub:=sub_enumerate;let hL:Heap.IsTuple (Shared.heap ⟨hp,g,d,tk,os⟩) l items:=#[_,hl,rfl,n,rfl];wp_walk using wpAny_loadPart' hl;refine wpAny_stack_any λst=>AD ?_;split
  .intros c _ _ _ _ _;cases (c==Value.type "enumerate")
   .wp_walk using wpAny_loadPart' hl,wpAny_pyIter_tuple hL;exact#[_,rfl,h]
   .wp_walk using wpAny_loadPart' hl,wpAny_pyIter_tuple hL;exact#[_,rfl,h]
  .wp_walk using wpAny_loadPart' hl,wpAny_pyIter_tuple hL;calc#[_,rfl,h]
def oE(hL:s.heap.IsTuple l items)
  (h:∀h',IsEnum h' (⇑s+1) ⇑s 0 .none->h'.IsTupleIter ⇑s l 0->(∀c o,s.heap.get? c=some o->h'.get? c=some o)->Q (.ref (⇑s+1)) {s with heap:=h' }):
  wpAny (model prog w) A (call (.type "enumerate") [.ref l]) Q E s:=by
 let(o,ho,hc,n,hd):=hL;let(ocls,odict,odata,oslots):=o;simp only at hc hd;subst hc;subst hd;refine callType_new PySem.F.called_enumerate () (PySem.F.typeCall_enumerate_1 _) (PySem.F.newCall_enumerate_1 _) (λobj=>PySem.F.args_object_init_2 obj _) PySem.F.entry_enumerate_new (W5 l items n odict oslots) #[ho,?_];let q1:(s.heap.push {cls:=.type "tuple_iterator",data:=.fields ([.ref l,.int 0 0].toArray) }).objs.size=⇑s+1:=Bo ..;let p2:((s.heap.push {cls:=.type "tuple_iterator",data:=.fields ([.ref l,.int 0 0].toArray) }).push {cls:=.type "enumerate",data:=.fields ([.none,.bool false,.ref ⇑s,rawInt 0,.none,.none].toArray) }).get? (s.heap.push {cls:=.type "tuple_iterator",data:=.fields ([.ref l,.int 0 0].toArray) }).objs.size=some _:=AS _ rfl;rw[q1]at p2;rw[q1];calc#[#[_,p2,rfl],h _ p2 #[_,AJ _ (AS _ rfl),rfl,rfl] λc o x=>AJ _ (AJ _ x)]
def T3(he:IsEnum s.heap e it i old)
  (hn:∀(Q':Value->Shared->Prop)(E':Value->Shared->Prop),(∀h' x,Heap.ExtBut it s.heap h'->(∃o,h'.get? x=some o/\o.cls=.type "StopIteration")->E' (.ref x) {s with heap:=h' })->wpAny (model prog w) A.in1 (Builtin.SmallTypes.nextOf (.ref it)) Q' E' s)
  (hQ:∀h',Heap.ExtBut it s.heap h'->Q none {s with heap:=h' }):wpAny (model prog w) A (pyNext (.ref e)) Q E s:=by
 let hT:s.TypeIs (.ref e) "enumerate" := #[_,he,rfl];erw[pyNext]
 refine AA (DS (CP hT PySem.F.slot_enumerate_next
  (BQ PySem.F.slot_enumerate_next hT PySem.F.entry_enumerate_next ?_ (PySem.F.args_enumerate_next_1 _))))
 show wpAny _ _ (field (.ref e) 2 >>= _) _ _ _;calc AA (Bi he rfl rfl ?_);refine AA (hn _ _ λh' x he' hx'=>?_);let(o,ho,hc):=hx';calc AA (wpAny_isInstance #[o,ho,hc] isSubtype_stop ?_);calc AD (hQ _ he')
def GB(K:Yb)(isT:Bool)(a:Yt):It :=
 #[λi H=>∃xs x,(if isT then SqT K H a xs else SqL K H a xs)/\xs[i]?=some x,
  λi H v H'=>∃T x,v=.ref T/\H T=none/\H'=upd H T (.tup [.int i,x])/\∀xs,(if isT then SqT K H a xs else SqL K H a xs)->xs[i]?=some x,
  λi H=>∃xs,(if isT then SqT K H a xs else SqL K H a xs)/\xs.length<=i]
def Kr(isT:Bool)(it a:Yt)(i:Nat)(h:Heap):Prop:=if isT then h.IsTupleIter it a i else h.IsListIter it a i
def X1{P:Ym}{w:Yo}{K:Yb}{es:Yi}{ek:Nat}{ep:Pos}{isT:Bool}{e it a:Yt}(hei:e≠it)(hae:a≠e)(hai:a≠it):
  Turn P w K (.Tuple es ek ep) (GB K isT a) [e,it] e (λi h=>(∃old,IsEnum h e it i old)/\Kr isT it a i h) where
 mem:=by simp
 obj:=λi h ⟨⟨old,he⟩,st⟩ c hc=>by
  simp only[AK,Bq,Br]at hc;rcases hc with rfl|rfl
  .exact#[_,he,λv m=>by ext m]
  .cases isT with
   |true=>let(o1,e1,_,d1):=(show h.IsTupleIter c a i from st);exact#[_,e1,λv m=>by rw[d1]at m;ext m]
   |false=>let(o1,e1,_,d1):=(show h.IsListIter c a i from st);exact#[_,e1,λv m=>by rw[d1]at m;ext m]
 keep:=λi h h' ⟨⟨old,he⟩,st⟩ k=>by
  calc#[#[old,k e (by simp) _ he],?_];cases isT with
  |true=>let(o1,e1,r):=(show h.IsTupleIter it a i from st);calc#[o1,k it (by simp) _ e1,r]
  |false=>let(o1,e1,r):=(show h.IsListIter it a i from st);exact#[o1,k it (by simp) _ e1,r]
 item:=by
  intro X hP hw hK hc i zB s Y H E I hf Z hg;subst hP hw hK;let((old,he),st):=Z;let(xs,x,sa,hx):=hg;let hch:∀c∈[e,it],BN X zB H c:=hf;let elt:e<⇑s:=AH he
  let fin:∀(its:List Value)(u:Value)(h':Heap)(tk:Nat),zd xs its->its[i]?=some u->IsEnumOut h' e it ((i:Int)+1) u ⇑s->Kr isT it a (i+1) h'->h'.get? ⇑s=some {cls:=.type "tuple",data:=.seq ([.int i tk,u].toArray) } ->
    (∀b o,b≠e->b≠it->s.heap.get? b=some o->h'.get? b=some o)->it<⇑s ->
    ∃u',some (Value.ref ⇑s)=some u'/\wpAny (model X.prog X.w) X.A (letOwnedTupleGo (.Tuple es ek ep) (.ref e) u') (λ_ s2=>∃x H',Inv X zB Y H' s2/\zh x u'/\(GB X.K isT a).yld i H x H'/\((∃old,IsEnum s2.heap e it ((i+1:Nat):Int) old)/\Kr isT it a (i+1) s2.heap)/\∀b∈[e,it],H' b=none) E {s with heap:=h',toks:=tk+1}:=by
   intro its u h' tk rv hu ho st' hT hk ilt;refine#[_,rfl,wpAny_letOwnedTupleGo_enum ho λh2 he2 e2=>?_];let kk:∀c o,c∉[e,it]->s.heap.get? c=some o->h2.get? c=some o:=λc o n q=>by
    simp only[AK,Bq,Br,not_or]at n;exact e2.extBut _ _ n.1 (hk c o n.1 n.2 q)
   let NT:=e2.extBut _ _ (Cr elt) hT;let hfr:H ⇑s=none:=I.hok.fresh (AF _);let(u2,hu2,ru):=rv.get hx;rw[hu]at hu2;ext hu2;refine#[.ref ⇑s,upd H ⇑s (.tup [.int i,x]),MB (s:=s) I hch kk (AF _) ?_,rfl,#[_,x,rfl,hfr,rfl,λws hw=>?_],#[#[u,by simpa using he2],?_],λc hm=>?_]
   .exact#[by show 2<=sizeLine;decide,[.int i tk,u],.cons #[tk,rfl] (.cons ru .nil),#[_,NT,rfl,#[_,rfl],rfl]]
   .cases isT with
    |true=>rw[I.tuple_inj hw sa];calc hx
    |false=>rw[I.list_inj hw sa];exact hx
   .cases isT with
    |true=>let(o1,e1,r):=(show h'.IsTupleIter it a (i+1)from st');calc#[o1,e2.extBut _ _ hei.symm e1,r]
    |false=>let(o1,e1,r):=(show h'.IsListIter it a (i+1)from st');exact#[o1,e2.extBut _ _ hei.symm e1,r]
   .have lt:c<⇑s:=by
     simp only[AK,Bq,Br]at hm;rcases hm with rfl|rfl
     .exact elt
     .exact ilt
    rw[zT (AZ lt)];exact(hf c hm).1
  let hef:e∉[it,a]:=by simp only[AK,Bq,Br,not_or];exact#[hei,hae.symm]
  cases isT with
  |true=>
   let(its,rv,p1,z1):=I.tuple sa;let st':s.heap.IsTupleIter it a i:=st;let(o1,e1,_):=id st';refine wpAny_pyNext_enum_itemD (pM (prog:=X.prog) (w:=X.w) (A:=X.A.in1) (I.ok.hd hc) it a hai its.toArray) he #[st',show s.heap.IsTuple a its.toArray from p1] (by have:=rv.length;have:=(AI.mp hx).1;rw[AX];omega) hei hef λu h' tk hu ho hs hT _ hk=>?_;calc fin its u h' tk rv (~~~hu) ho hs.1 hT hk (AH e1)
  |false=>
   let(its,rv,p1,z1):=I.list sa;let st':s.heap.IsListIter it a i:=st;let(o1,e1,_):=id st';refine wpAny_pyNext_enum_itemD (Draws.list (prog:=X.prog) (w:=X.w) (A:=X.A.in1) (I.ok.hd hc) it a hai its.toArray) he #[st',p1.isList] (by have:=rv.length;have:=(AI.mp hx).1;rw[AX];omega) hei hef λu h' tk hu ho hs hT _ hk=>?_;exact fin its u h' tk rv (~~~hu) ho hs.1 hT hk (AH e1)
 done:=by
  intro X hP hw hK hc i zB s Y H E I hf Z hg;subst hP hw hK;let((old,he),st):=Z;let(xs,sa,hz):=hg;let out:∀h',Heap.ExtBut it s.heap h'->(none:Option Value)=none/\Inv X zB Y H {s with heap:=h' }:=λh' x=>#[rfl,MP I hf λc o n q=>x c o (λm=>n (by simp[m])) q];cases isT with
  |true=>
   let(its,rv,p1,z1):=I.tuple sa;refine T3 he (λQ' E' hq=>KA (I.ok.hd hc) (show s.heap.IsTupleIter it a i from st) (show s.heap.IsTuple a its.toArray from p1) (by have:=rv.length;simp;omega) hq) out
  |false=>
   let(its,rv,p1,z1):=I.list sa;refine T3 he (λQ' E' hq=>wpAny_nextOf_list_end (I.ok.hd hc) (show s.heap.IsListIter it a i from st) p1.isList (by have:=rv.length;simp;omega) hq) out
 self:=λ_ _ _ _ _ Z h=>let⟨⟨_,he⟩,_⟩:=Z;wpAny_pyIter_enum he h
def Xd{te:TE}(hg:Gl X "enumerate")(hm:X.mg "enumerate" = none)(ha:PE X a te)(hs:starEach [a] X.env=(false,eval a X.env)::starEach [] X.env:=by rfl)(hpl:(backTo pos (starEach [] X.env)).any (·.1)=false:=by rfl):
  PI X (.Tuple es ek ep) (.Call (.Name "enumerate" p) [a] [] pos) (λY H R=>te Y H λx H1=>∃l,x=.ref l/\((∃xs,SqT X.K H1 l xs)/\R (GB X.K true l) H1\/(∃xs,SqL X.K H1 l xs)/\R (GB X.K false l) H1)):=by
 intro zB s Y H R I h;calc wpAny_Call_Name_kw (Gf I hg hm (by rfl) ?_ () ());calc callWith_type1 ?_ hs hpl;rw[hs];refine Calls.spliced_cons (thn (ha zB s Y H _ I h) λu s1 ⟨x,H1,I1,r1,l,hx,q⟩=>Calls.spliced_nil ?_);subst hx;ext r1
 let out:∀(isT:Bool)(h':Heap),l<⇑s1->IsEnum h' (⇑s1+1) ⇑s1 0 .none->Kr isT ⇑s1 l 0 h'->(∀c o,s1.heap.get? c=some o->h'.get? c=some o)->R (GB X.K isT l) H1 ->
   wpAny (model X.prog X.w) X.A (pyIter (.ref (⇑s1+1))) (PIE X zB Y (.Tuple es ek ep) R) X.xe {s1 with heap:=h' }:=by
  intro isT h' hl he st kp q;refine wpAny_pyIter_enum he ?_;refine#[⇑s1+1,[⇑s1+1,⇑s1],_,_,H1,rfl,I1.kept kp,X1 (Cr (D3 _)) (AZ (C5 hl)) (AZ hl),#[#[_,he],st],λc hc=>?_,q];let ge:⇑s1<=c:=by
   simp only[AK,Bq,Br]at hc;rcases hc with rfl|rfl
   .exact Cw _
   .exact AF _
  exact I1.fpOk ge (I1.hok.fresh ge)
 rcases q with⟨⟨xs,hq⟩,q⟩|⟨⟨xs,hq⟩,q⟩
 .obtain⟨its,rv,p1,_⟩:=I1.tuple hq;let hl:l<⇑s1:=by let(_,e,_):=p1;exact AH e
  exact oE (show s1.heap.IsTuple l its.toArray from p1) λh' he st kp=>out true h' hl he st kp q
 .obtain⟨its,rv,p1,_⟩:=I1.list hq;let hl:l<⇑s1:=by let(_,_,e,_):=p1;exact AH e
  calc call_enumerate_list p1.isList λh' he st _ kp=>out false h' hl he st kp q
def Dq(xs:List D):List D:=((List.range xs.length).zip xs).map λq=>D.tup [.int (q.1:Nat),q.2]
def aU{xs:List D}{i:Nat}{d:D}(h:(Dq xs)[i]?=some d):∃x,xs[i]?=some x/\d=.tup [.int (i:Nat),x]:=by
 erw[Dq]at h;rw[Au]at h;cases e:((List.range xs.length).zip xs)[i]? with
 |none=>rw[e]at h;ext h
 |some pr=>
  rw[e]at h;ext h;let(f1,f2):=List.getElem?_zip_eq_some.mp e;let hi:i<xs.length:=(AI.mp f2).1;rw[List.getElem?_range hi]at f1;ext f1;calc#[pr.2,f2,rfl]
def nI(xs:List D):(Dq xs).length=xs.length:=by erw[Dq];simp
def D8(f:FE):FI:=λY M=>match f Y M with
 |some (x,M1)=>match A7 M1 x with
  |some xs=>some (Dq xs,CQ x xs,M1)
  |none=>none
 |none=>none
def Z9{g:FE}(hg:Gl X "enumerate")(hm:X.mg "enumerate" = none)(h:QE X a g)(hs:starEach [a] X.env=(false,eval a X.env)::starEach [] X.env:=by rfl)(hpl:(backTo pos (starEach [] X.env)).any (·.1)=false:=by rfl):
  QI X (.Tuple es ek ep) (.Call (.Name "enumerate" p) [a] [] pos) (D8 g):=.mk <| PI.imp (Xd hg hm h.un hs hpl) λτ H R zz=>by
 let(L,Y,M,xs,gd,M',c,rs,hf,q):=zz;erw[D8]at hf;cbv at hf
 .intros y M1 e1;cbv at hf
  .intros zs e2;ext hf;refine#[L,Y,M,_,_,c,rs,e1,λL1 H1 v s1 c1 r1=>?_]
   let step:∀(isT:Bool)(l:Yt)(L2:Yg)(H2:Hp)(vs:List V),(if isT then SqT X.K H2 l vs else SqL X.K H2 l vs)->zH L2 H2 zs vs ->
     (∀(i:Nat) d,(Dq zs)[i]?=some d->(GB X.K isT l).go i H2/\∀v H'',(GB X.K isT l).yld i H2 v H''->(∀a o,H2 a=some o->H'' a=some o)/\Rep L2 H'' d v)/\(GB X.K isT l).stop (Dq zs).length H2:=by
    intro isT l L2 H2 vs hq r;refine#[λi d hd=>?_,#[vs,hq,by rw[nI,r.length];calc AF _]];let(x,hx,rfl):=aU hd;let(u,hu,ru):=r.get hx;refine#[#[vs,u,hq,hu],λv H3 hy=>?_];let(T,x',rfl,hT,rfl,hxx):=hy;let ex:=hxx vs hq;rw[hu]at ex;ext ex;exact#[λa o e=>by rw[zT (zf e hT)];calc e,Rep.newTup hT (.cons By (.cons ru .nil))]
   erw[A7]at e2;cases t:Cc y with
   |some ws=>
    rw[t]at e2;ext e2;let(a,vs,rfl,e3,r3):=D7 r1 t;refine#[a,rfl,.inl #[#[vs,.of e3],q L1 H1 _ s1 c1 λL2 H2 M2 s2 c2 _=>?_]];calc step true a L2 H2 vs (.of (s2.tup a vs e3)) (r3.stp s2)
   |none=>
    rw[t]at e2;let(a,vs,rfl,e3,r3):=Cm c1 r1 e2;refine#[a,rfl,.inr #[#[vs,.inl e3],q L1 H1 _ s1 c1 λL2 H2 M2 s2 c2 hgd=>?_]];let key:∃vs',SqL X.K H2 a vs'/\zH L2 H2 zs vs':=by
     cases y with
     |fl ys=>
      ext e2;let(p',vs',hp',_,e5,e6,r6):=r1;ext hp';calc#[vs',.of (s2.old _ _ e5 e6 (by intro _ z;ext z)),r6.stp s2]
     |dat d=>
      cases d with
      |ref n=>
       erw[zX,Rep]at r1;let(a',ha',e5):=r1;ext ha';let e6:L2[n]?=some a:=by let(N,hN):=s2.pre;rw[hN];exact Dz e5
       rcases hgd with z|z
       .obtain⟨vs',e7,r7⟩:=c2.obj n a _ e6 z;exact#[vs',.of e7,r7]
       .obtain⟨o,vs',e7,r7⟩:=c2.obj n a _ e6 z;calc#[vs',.inl (.inr #[o,e7]),r7]
      |_=>ext e2
    let(vs',hq,r7):=key;exact step false a L2 H2 vs' hq r7
  .ext hf
 .ext hf
section
variable{κ:Type}[DecidableEq κ]
def Dj(kf:D->Option κ)(kvs:List (D×D))(k:κ):Option D:=(kvs.find? λp=>decide (kf p.1=some k)).map (·.2)
def Fi(kf:D->Option κ)(kvs:List (D×D))(k:κ)(kd v:D):List (D×D) :=
 if(kvs.any λp=>decide (kf p.1=some k))=true then kvs.map λp=>if kf p.1=some k then(p.1,v)else p else kvs++[(kd,v)]
theorem Ig(k:κ):∀{kvs:List (D×D)}{vs:List (κ×V)},AY kf L H kvs vs->(Dj kf kvs k=none/\CC vs k=none)\/∃d v,Dj kf kvs k=some d/\CC vs k=some v/\Rep L H d v
 |[],vs,h=>by erw[AY]at h;subst h;calc .inl #[rfl,rfl]
 |p::r,vs,h=>by
  let(k',v,r',rfl,e,h1,h2):=h;by_cases q:k'=k
  .subst q;exact .inr #[p.2,v,by erw[Dj];rw[E7,e];simp,by rw[K9 rfl],h1]
  .have e1:Dj kf (p::r) k=Dj kf r k:=by erw[Dj];rw[E7,e];simp[q]
   rw[e1,KN q];calc Ig k h2
theorem Tz(k:κ):∀{kvs:List (D×D)}{vs:List (κ×V)},AY kf L H kvs vs->(kvs.any λp=>decide (kf p.1=some k))=(vs.any λkv=>decide (kv.1=k))
 |[],vs,h=>by erw[AY]at h;subst h;rfl
 |p::r,vs,h=>by
  let(k',v,r',rfl,e,h1,h2):=h;rw[List.any_cons,List.any_cons,Tz k h2,e];simp
theorem OC(k:κ)(hd:Rep L H d u):∀{kvs:List (D×D)}{vs:List (κ×V)},AY kf L H kvs vs->AY kf L H (kvs.map λp=>if kf p.1=some k then(p.1,d)else p) (vs.map λkv=>if kv.1=k then(kv.1,u)else kv)
 |[],vs,h=>by erw[AY]at h;subst h;rfl
 |p::r,vs,h=>by
  let(k',v,r',rfl,e,h1,h2):=h;rw[AU,AU];by_cases q:k'=k
  .subst q;rw[AB e,AB rfl];exact#[k',u,_,rfl,e,hd,OC k' hd h2]
  .rw[AE (by rw[e];simpa using q),AE q];calc#[k',v,_,rfl,e,h1,OC k hd h2]
theorem O6(hk:kf kd=some k)(hd:Rep L H d u):∀{kvs:List (D×D)}{vs:List (κ×V)},AY kf L H kvs vs->AY kf L H (kvs++[(kd,d)]) (vs++[(k,u)])
 |[],vs,h=>by erw[AY]at h;subst h;calc#[k,u,[],rfl,hk,hd,rfl]
 |p::r,vs,h=>by
  let(k',v,r',rfl,e,h1,h2):=h;calc#[k',v,_,rfl,e,h1,O6 hk hd h2]
def QH{kf:D->Option κ}{L:Yg}{H:Hp}{k:κ}{kd d:D}{u:V}(hk:kf kd=some k)(hd:Rep L H d u){kvs:List (D×D)}{vs:List (κ×V)}(h:AY kf L H kvs vs):AY kf L H (Fi kf kvs k kd d) (B9 vs k u):=by
 erw[Fi,B9];rw[Tz k h];split
 .exact OC k hd h
 .exact O6 hk hd h
end
theorem Pz:∀{ds:List D}{vs:List V}{ks:List Key},zH L H ds vs->DO ds=some ks->vs=ks.map kV
 |[],vs,ks,h,e=>by ext e;erw[zH]at h;calc h
 |d::ds,vs,ks,h,e=>by
  erw[zH]at h;let(v,r,rfl,h1,h2):=h;erw[DO]at e;cases e1:CK d with
  |none=>rw[e1]at e;ext e
  |some k=>
   cases e2:DO ds with
   |none=>rw[e1,e2]at e;ext e
   |some ks'=>
    rw[e1,e2]at e;ext e;rw[Kp h1 e1,Pz h2 e2];rfl
def OG(h:Rep L H d v)(e:tkD d=some ks):∃b,v=.ref b/\H b=some (.tup (ks.map kV)):=by
 cases d with
 |tup ds=>
  erw[Rep]at h;let(a,vs,rfl,e1,r):=h;calc#[a,rfl,by rw[e1,Pz r e]]
 |_=>ext e
def EM(M:Mem)(x:EV)(k:D):Option (Option D):=match x with
 |.dat (.ref n)=>match M[n]? with
  |some (.dict kvs)=>match CK k with
   |some kk=>some (Dj CK kvs kk)
   |none=>none
  |some (.dicT kvs)=>match tkD k with
   |some kk=>some (Dj tkD kvs kk)
   |none=>none
  |some (.froK kvs)=>match CK k with
   |some kk=>some (Dj CK kvs kk)
   |none=>none
  |some (.froT kvs)=>match tkD k with
   |some kk=>some (Dj tkD kvs kk)
   |none=>none
  |_=>none
 |_=>none
def Ow(L:Yg)(H:Hp):Option D->Option V->Prop
 |none,o=>o=none
 |some d,o=>∃v,o=some v/\Rep L H d v
def JJ{K:Yb}{L:Yg}{M:Mem}{H H0:Hp}{x:EV}{v w:V}{k:D}{o:Option D}(c:Cor K L M H)(rx:zX H0 L H x v)(rk:Rep L H k w)(e:EM M x k=some o):∃a ov,v=.ref a/\Bm H a w ov/\Ow L H o ov:=by
 cases x with
 |fl xs=>ext e
 |dat d=>
  cases d with
  |ref n=>
   erw[zX,Rep]at rx;let(a,rfl,ea):=rx;erw[EM]at e;dsimp only at e;cases q:M[n]? with
   |none=>rw[q]at e;ext e
   |some m=>
    rw[q]at e;let z:=c.obj n a m ea q;cases m with
    |dict kvs=>
     dsimp only at e;cases e2:CK k with
     |none=>rw[e2]at e;ext e
     |some kk=>
      rw[e2]at e;ext e;let(vs,e3,r):=z;refine#[a,CC vs kk,rfl,?_,?_]
      .rw[Kp rk e2];exact Bm.k e3
      .rcases Ig kk r with⟨h1,h2⟩|⟨d,v,h1,h2,h3⟩
       .rw[h1,h2];rfl
       .rw[h1,h2];calc#[v,rfl,h3]
    |dicT kvs=>
     dsimp only at e;cases e2:tkD k with
     |none=>rw[e2]at e;ext e
     |some kk=>
      rw[e2]at e;ext e;let(vs,e3,r):=z;let(b,rfl,eb):=OG rk e2;calc#[a,CC vs kk,rfl,Bm.t e3 eb,?_];rcases Ig kk r with⟨h1,h2⟩|⟨d,v,h1,h2,h3⟩
      .rw[h1,h2];rfl
      .rw[h1,h2];calc#[v,rfl,h3]
    |froK kvs=>
     dsimp only at e;cases e2:CK k with
     |none=>rw[e2]at e;ext e
     |some kk=>
      rw[e2]at e;ext e;let(ob,vs,e3,r):=z;calc#[a,CC vs kk,rfl,.inl #[vs,kk,.inr #[ob,e3],Kp rk e2,rfl],?_];rcases Ig kk r with⟨h1,h2⟩|⟨d,v,h1,h2,h3⟩
      .rw[h1,h2];rfl
      .rw[h1,h2];calc#[v,rfl,h3]
    |froT kvs=>
     dsimp only at e;cases e2:tkD k with
     |none=>rw[e2]at e;ext e
     |some kk=>
      rw[e2]at e;ext e;let(ob,vs,e3,r):=z;let(b,rfl,eb):=OG rk e2;calc#[a,CC vs kk,rfl,.inr #[vs,kk,b,.inr #[ob,e3],rfl,eb,rfl],?_];rcases Ig kk r with⟨h1,h2⟩|⟨d,v,h1,h2,h3⟩
      .rw[h1,h2];rfl
      .rw[h1,h2];calc#[v,rfl,h3]
    |_=>ext e
  |_=>ext e
def Ee(M:Mem)(n:Nat)(k v:D):Option Mem:=match M[n]? with
 |some (.dict kvs)=>match CK k with
  |some kk=>if kvs.length<sizeLine then some (M.set n (.dict (Fi CK kvs kk k v)))else none
  |none=>none
 |some (.dicT kvs)=>match tkD k with
  |some kk=>if kvs.length<sizeLine then some (M.set n (.dicT (Fi tkD kvs kk k v)))else none
  |none=>none
 |_=>none
def Mo{K:Yb}{L:Yg}{M M':Mem}{H:Hp}{n:Nat}{a:Yt}{k v:D}{w u:V}(c:Cor K L M H)(ea:L[n]?=some a)(rk:Rep L H k w)(rv:Rep L H v u)(e:Ee M n k v=some M'):∃H',C4 H a w u H'/\Cor K L M' H'/\Stp L H L H':=by
 erw[Ee]at e;cases q:M[n]? with
 |none=>rw[q]at e;ext e
 |some m=>
  rw[q]at e;let z:=c.obj n a m ea q;cases m with
  |dict kvs=>
   dsimp only at e;cases e2:CK k with
   |none=>rw[e2]at e;ext e
   |some kk=>
    rw[e2]at e;dsimp only at e;cbv at e
    .intros hl;ext e;let(vs,e3,r):=z;let(c3,s3):=c.put (m:=.dict (Fi CK kvs kk k v)) (o':=.dK (B9 vs kk u)) ea e3 (λ_ z=>by ext z) (λ_ _ z=>by ext z) λs3=>#[_,zk,(QH e2 rv r).stp s3];calc#[_,?_,c3,s3];rw[Kp rk e2];exact C4.k e3 (by rw[r.length];calc hl)
    .ext e
  |dicT kvs=>
   dsimp only at e;cases e2:tkD k with
   |none=>rw[e2]at e;ext e
   |some kk=>
    rw[e2]at e;dsimp only at e;cbv at e
    .intros hl;ext e;let(vs,e3,r):=z;let(b,rfl,eb):=OG rk e2;let(c3,s3):=c.put (m:=.dicT (Fi tkD kvs kk k v)) (o':=.dT (B9 vs kk u)) ea e3 (λ_ z=>by ext z) (λ_ _ z=>by ext z) λs3=>#[_,zk,(QH e2 rv r).stp s3];exact#[_,C4.t e3 eb (by rw[r.length];calc hl),c3,s3]
    .ext e
  |_=>ext e
section
variable{X:Cx}{a b e o i value:Expr}{pos pos' apos cpos:Pos}{f g h:FE}
def BE:K2:=λx y M=>match y with
 |.dat k=>match EM M x k with
  |some (some d)=>some (.dat d,M)
  |_=>none
 |_=>none
def qD{K:Yb}:BM K (λx y H Q=>∃a v,x=.ref a/\Bm H a y (some v)/\Q v H) BE:=by
 intro L M M' H H0 x y d v w Q c rx ry hk q;erw[BE]at hk;cbv at hk
 .intros k;cbv at hk
  .intros d' e1;ext hk;let(a,ov,rfl,h1,h2):=JJ c rx ry e1;let(u,rfl,r):=h2;exact#[a,u,rfl,h1,q L H u (.refl L H) c r]
  .ext hk
 .ext hk
def pV(hu:X.A.units+1<cLine)(h1:QE X o f)(h2:QE X i g)(hs:MC i:=by intro _ _;rfl):QE X (.Subscript o i pos) (fOp BE f g):=.mk <| PE.imp (YT hu h1.un h2.un hs) λ_ _ _ h=>Fm qD h
def As(neg:Bool):K2:=λx y M=>match x with
  |.dat k=>match EM M y k with
    |some o=>some (.dat (.bl (if neg then !o.isSome else o.isSome)),M)
    |none=>none
  |_=>none
def UE{o:Option D}{ov:Option V}(h:Ow L H o ov):ov.isSome=o.isSome:=by
  cases o with
  | none => have h' : ov = none := h
            rw[h'];rfl
  |some d=>let(v,rfl,_):=h;rfl
def UN{K:Yb}:BM K (λy x H Q=>∃a o,x=.ref a/\Bm H a y o/\Q (.bl o.isSome) H) (As false):=by
 intro L M M' H H0 x y d v w Q c rx ry hk q;erw[As]at hk;cbv at hk
 .intros k;cbv at hk
  .intros o e1;ext hk;let(a,ov,rfl,h1,h2):=JJ c ry rx e1;calc#[a,ov,rfl,h1,?_];rw[UE h2];exact q L H _ (.refl L H) c (B7 (L:=L) (H:=H))
  .ext hk
 .ext hk
def W6{K:Yb}:BM K (λy x H Q=>∃a o,x=.ref a/\Bm H a y o/\Q (.bl (!o.isSome)) H) (As true):=by
 intro L M M' H H0 x y d v w Q c rx ry hk q;erw[As]at hk;cbv at hk
 .intros k;cbv at hk
  .intros o e1;ext hk;let(a,ov,rfl,h1,h2):=JJ c ry rx e1;calc#[a,ov,rfl,h1,?_];rw[UE h2];exact q L H _ (.refl L H) c (B7 (L:=L) (H:=H))
  .ext hk
 .ext hk
def eR(hu:X.A.units+1<cLine)(h1:QE X a f)(h2:QE X b g)(hm:behindInMarks .In b=false:=by rfl):QE X (.Compare a [.In] [b] pos) (fOp (As false) f g):=.mk <| PE.imp (W8 (Sg hu h1.un h2.un) hm) λ_ _ _ h=>Fm UN h
def rL(hu:X.A.units+1<cLine)(h1:QE X a f)(h2:QE X b g)(hm:behindInMarks .In b=false:=by rfl):QT X (.Compare a [.In] [b] pos) (tst (fOp (As false) f g)):=.mk <| PT.imp (UY (Sg hu h1.un h2.un) hm) λ_ _ _ h=>ND (λ_ _ _ z=>Fm UN z) (Kd h)
def Xz(hu:X.A.units+1<cLine)(h1:QE X a f)(h2:QE X b g)(hm:behindInMarks .NotIn b=false:=by rfl):QT X (.Compare a [.NotIn] [b] pos) (tst (fOp (As true) f g)):=.mk <| PT.imp (UY (rD hu h1.un h2.un) hm) λ_ _ _ h=>ND (λ_ _ _ z=>Fm W6 z) (Kd h)
def Bd(fv fo fi:FE):FS:=λY M=>match toD fv Y M with
 |some (v,M1)=>match toD fo Y M1 with
  |some (.ref n,M2)=>match toD fi Y M2 with
   |some (k,M3)=>match Ee M3 n k v with
    |some M4=>some (.nx,Y,M4)
    |none=>none
   |none=>none
  |_=>none
 |none=>none
def oW(hu:X.A.units+1<cLine)(hv:QE X value f)(ho:QE X o g)(hi:QE X i h)(hs:swapsWith value (some (.Subscript o i pos')) pos.line X.env=pure false:=by rfl):QS X (.Assign [.Subscript o i pos'] value pos) (Bd f g h) :=
 .mk <| PS.imp (jM hu (BL ho).un (BL hi).un (BL hv).un hs) λE τ H zz=>by
  let(L,Y,M,out,Y',M',c,rs,hf,q):=zz;erw[Bd]at hf;cbv at hf
  .intros v M1 e1;cbv at hf
   .intros n M2 e2;cbv at hf
    .intros k M3 e3;cbv at hf
     .intros M4 e4;ext hf;refine(mkD c rs e1 (λL1 H1 u s1 c1 r1=>(mkD c1 (rs.stp s1) e2 (λL2 H2 y s2 c2 r2=>(mkD c2 ((rs.stp s1).stp s2) e3 (λL3 H3 z s3 c3 r3=>?_))))));erw[Rep]at r2;let(a,rfl,ea):=r2;let ea3:L3[n]?=some a:=by let(N,hN):=s3.pre;rw[hN];exact Dz ea
      let(H4,h1,h2,h3):=Mo c3 ea3 r3 ((r1.stp s2).stp s3) e4;exact#[a,H4,rfl,h1,q L3 H4 (((s1.trans s2).trans s3).trans h3) h2 τ ((((rs.stp s1).stp s2).stp s3).stp h3)]
     .ext hf
    .ext hf
   .ext hf
  .ext hf
def DF(fo fi fx:FE):FE:=λY M=>match toD fo Y M with
 |some (.ref n,M1)=>match M1[n]? with
  |some (.dict _)|some (.dicT _)=>match toD fi Y M1 with
   |some (k,M2)=>match toD fx Y M2 with
    |some (x,M3)=>match EM M3 (.dat (.ref n)) k with
     |some o=>some (.dat (o.getD x),M3)
     |none=>none
    |none=>none
   |none=>none
  |_=>none
 |_=>none
def bS(hu:X.A.units+1<cLine)(ho:QE X o f)(hi:QE X i g)(hx:QE X e h)(m:M2 X o "get" apos i e cpos):QE X (.Call (.Attribute o "get" apos) [i,e] [] cpos) (DF f g h) :=
 .mk <| PE.imp (fF hu (BL ho).un (BL hi).un (BL hx).un m) λτ H Q zz=>by
  let(L,Y,M,d,M',c,rs,hf,q):=zz
  let key:∀n M1,toD f Y M=some (.ref n,M1)->(∃kvs,M1[n]?=some (.dict kvs)\/M1[n]?=some (.dicT kvs))->(match toD g Y M1 with
   |some (k,M2)=>match toD h Y M2 with
    |some (x,M3)=>match EM M3 (.dat (.ref n)) k with
     |some o=>some (EV.dat (o.getD x),M3)
     |none=>none
    |none=>none
   |none=>none)=some (d,M')->Qs (trD X.K (toD f)) (trD X.K (toD g)) (trD X.K (toD h)) τ H Q:=by
   intro n M1 e1 hd hf;cbv at hf
   .intros k M2 e2;cbv at hf
    .intros x M3 e3;cbv at hf
     .intros ov e4;ext hf;refine(mkD c rs e1 (λL1 H1 u s1 c1 r1=>?_));erw[Rep]at r1;let(a,rfl,ea):=r1;refine#[a,rfl,?_,L1,Y,M1,_,_,c1,rs.stp s1,e2,λL2 H2 y s2 c2 r2=>(mkD c2 ((rs.stp s1).stp s2) e3 (λL3 H3 z s3 c3 r3=>?_))]
      .obtain⟨kvs,hk|hk⟩:=hd
       .obtain⟨vs,e5,_⟩:=c1.obj n a _ ea hk;exact .inl #[vs,.inl e5]
       .obtain⟨vs,e5,_⟩:=c1.obj n a _ ea hk;exact .inr #[vs,.inl e5]
      .have ra:zX H L3 H3 (.dat (.ref n)) (.ref a):=by
        erw[zX,Rep];exact#[a,rfl,by let(N,hN):=(s2.trans s3).pre;rw[hN];calc Dz ea]
       let(a',o',e6,h1,h2):=JJ c3 ra (r2.stp s3) e4;ext e6;calc#[o',h1,?_];cases ov with
       |none=>
        let h':o'=none:=h2;subst h';calc q L3 H3 _ ((s1.trans s2).trans s3) c3 r3
       |some dd=>
        let(v,rfl,rv):=h2;exact q L3 H3 _ ((s1.trans s2).trans s3) c3 rv
     .ext hf
    .ext hf
   .ext hf
  erw[DF]at hf;cbv at hf
  .intros n M1 e1;cbv at hf
   .intros kvs e5;exact key n M1 e1 #[kvs,.inl e5] hf
   .intros kvs e5;exact key n M1 e1 #[kvs,.inr e5] hf
   .ext hf
  .ext hf
end
end L3
namespace L2
def jP{kx vx target iter ifs rest scope pos it acc env}
  (h0:codeAny (model prog w) A (.compLoop (.DictComp kx vx (#[target,iter,ifs,0]::rest) scope pos) 0 it acc env) R s)
  (h:wpAny (model prog w) A (pyIter it) (λit' s'=>codeAny (model prog w) A (.compLoop (.DictComp kx vx (#[target,iter,ifs,0]::rest) scope pos) 0 it' acc env) R s')
   (notedBy (model prog w) A env λx s'=>R (.error x) s') s):
  codeAny (model prog w) A (.compStart (.DictComp kx vx (#[target,iter,ifs,0]::rest) scope pos) 0 it acc env) R s:=by
 calc codeAny_of_tree ?_;show wpAny _ _ ((compStart (.DictComp kx vx (#[target,iter,ifs,0]::rest) scope pos) 0 it acc env).onRaise (λx=>do noteFrame x env;standAt theWindowsPlace)) _ _ s;calc wpAny_notedAt ?_;erw[compStart];calc AA (wpAny_askSetting (wpAny_ite ?_));split
 .first
   |calc AA (AD (AD (And.intro rfl h0)))
   |exact AD (And.intro rfl h0)
 .first
   |exact AA (CS (AA (CA (AA (AQ h (λit' s' h'=>AD (And.intro rfl h')) λ_ _ x=>x)))))
   | (calc AA (CS ?_);show wpAny _ _ (standAt iter.pos >>= _) _ _ s;calc AA (CA (AA (AQ h (λit' s' h'=>AD (And.intro rfl h')) λ_ _ x=>x))))
def Inv.trackAt(I:Inv X zB Y H s)(ho:s.heap.get? D=some o)(hn:H D=none)(h0:⇑X.s₀<=D)(hL:D≠X.env.locals)(hc:∀x c,X.env.cells.lookup x=some c->c≠D)(hp:∀p∈X.pn++zB,p.1≠D)
  (new:Ah X.prog X.w (upd H D u) s.heap D u):Inv X zB Y (upd H D u) s:=by
 let un:∀b v,H b=some v->upd H D u b=some v:=λb v e=>by rw[zT (zf e hn)];exact e
 let e0:s={s with heap:=s.heap,gens:=s.gens,drawn:=s.drawn,toks:=s.toks}:=by ext s;rfl
 rw[e0];refine I.step (ch:=[D]) (λb hb=>?_) (λb v _ _ _ e _=>e) (λb v _ _ _ e _=>#[v.slots,e]) (λb v hb e n=>?_) (λb v _ e=>#[v,e]) (λb xs e=>un b _ e) (λb p v e=>un b _ e) (λb ps e=>#[#[],by rw[un b _ e];simp]) (λm hm=>hm) (λb v e=>?_) I.bare
 .have:b=D:=by simpa using hb
  subst this;exact#[.inr h0,hL,hc,hp]
 .rw[zT (λz=>hb (by simp[z]))];exact n
 .by_cases hb:b=D
  .subst hb;rw[zk]at e;ext e;exact new
  .rw[zT hb]at e;calc(I.hok b v e).stay (λc v hc q=>q) (λc q=>un c _ q) λc xs q=>un c _ q
def RY(hu:A.units+1<cLine)(I:Inv X zB Y H s)(g:C4 H a y v H')(ry:zh y u)(rv:zh v r)(h:∀s',Inv X zB Y H' s'->Heap.SameBut a s.heap s'.heap->Q Unit.unit s'):
  wpAny (model X.prog X.w) A (dictSet a u r) Q E s:=by
 rcases g with⟨kvs,k,e,ey,l,eH⟩|⟨kvs,k,b,e,ey,eb,l,eH⟩
 .subst ey eH;let(z,hd,vs,rel,dd):=Ui I.hok e;let hz:vs.length<=sizeLine:=by rw[<-rel.length];exact z
  let hl:(B9 kvs k v).length<=sizeLine:=by have:=KQ kvs k v;omega
  refine wpAny_dictSet_pairs (Fw ry) dd λh' dd' hs=>h _ ?_ hs;let he:∃q,h'.get? a=some q:=let⟨q,_,_,hq,_⟩:=dd';#[q,hq];exact JQ I (by rw[e];calc True.intro) hs he (T4 hl hd (rel.put k rv) dd')
 .subst ey eH;cases (show u=Value.ref b from ry);let(z,hd,xs,rel,dd):=T6 I.hok e;let hz:xs.length<=sizeLine:=by rw[<-Paired.length rel];exact z
  let hl:(B9 kvs k v).length<=sizeLine:=by have:=KQ kvs k v;omega
  refine wpAny_dictSet_heap (show(tupleKind (BY X.prog X.w)).room A from Nat.lt_of_succ_lt hu) (Fz I.hok eb) dd λh' dd' hs=>h _ ?_ hs;let(q,es,ep,hq,h2,h3,h4,_,h5):=dd';refine JQ I (by rw[e];calc True.intro) hs #[q,hq] #[hl,hd,_,(rel.put k eb rv).keeps λc ys ec=>?_,q,es,ep,hq,h2,h3,h4,h5];rw[zT (DT ec e (λz=>nomatch z))];calc ec
def Gn(isT:Bool):HO:=if isT then .dT []else .dK []
abbrev FJ:Obj:={cls:=.type "dict",data:=.dict #[] }
section
variable{pos:Pos}
 {own:Yj} {g:TG} {tc:TT} {tk tv:TE} {E:Yc} {isT:Bool}
def Qv(hu:X.A.units+1<cLine)(C:CompIn X scope own)(hcalm:X.calm=true)(I:Inv X zB Y H s)(T:Turn X.prog X.w X.K tg J fp it tn)(st:tn 0 s.heap)(hf:∀b∈fp,BN X zB H b)
  (c1:∀x c,cl.lookup x=some c->X.env.cells.lookup x=some c) (c2:∀y∈scope.names,y.2=.free->(cl.lookup y.1).isSome=true)
  (hg:PG (zK X zB scope cl s H fp) tg g) (hi:DV (zK X zB scope cl s H fp) ifs tc) (hk:PE (zK X zB scope cl s H fp) kx tk) (hv:PE (zK X zB scope cl s H fp) vx tv)
  {RR:Value->Addr->Result->Shared->Prop} {QQ:Hp->Prop} {W:Nat->Nat->Hp->Prop} {m0:Nat} (w0:W 0 m0 (upd H ⇑s (Gn isT)))
  (turn:∀i m H,W i m H->(J.stop i H/\QQ H) \/
   (J.go i H/\∀x H',J.yld i H x H'->g x (clr own Y) H' λσ2 H2=>Ext (clr own Y) σ2/\tc σ2 H2 λb H3=>
    if b=true then tk σ2 H3 λk H4=>tv σ2 H4 λv H5=>∃H6 m',C4 H5 ⇑s k v H6/\m'<m/\W (i+1) m' H6 else∃m',m'<m/\W (i+1) m' H3))
  (fin:∀σc H' s',Inv (zK X zB scope cl s H fp) [] σc H' s'->QQ H'->RR (.ref ⇑s) (⇑s+1) (.ok .next) s'):
  wpAny (model X.prog X.w) X.A newDict (λacc s₃=>wpAny (model X.prog X.w) X.A (newFunctionEnv scope X.env.globals cl [] X.env.qual none .none (some X.env)) (λcenv s₄=>
   codeAny (model X.prog X.w) X.A (.compStart (.DictComp kx vx [#[tg,iter,ifs,0]] scope pos) 0 (.ref it) acc {cenv with scope:=relabel scope X.env}) (RR acc cenv.locals) s₄) E s₃) E s:=by
 let ob:∀b:Nat,b∈fp->b<⇑s:=λb hb=>let⟨_,e,_⟩:=T.obj 0 _ st b hb;AH e;refine BH (LO ?_);let sz1:(s.heap.push FJ).objs.size=⇑s+1:=Bo ..;let I4:=Kx C.sc I hf ob c1 c2 (GP own Y) (λi x v h1 h2 h3=>by
  let(a,b):=GI own Y i v h2;rcases C.nm i x h1 with z|z|z
  .exact absurd z b
  .exact absurd (K1 x z) h3
  .exact#[z,a]) FJ (by intro v z;ext z) rfl rfl
 let st4:tn 0 (pushCells ((s.heap.push FJ).push {cls:=.type "dict",data:=.dict #[] }) scope.names):=T.keep 0 _ _ st λb _ o e=>pushCells_keeps _ _ b o (AJ _ (AJ _ e));erw[newEnv];rw[sz1];let hDfp:⇑s∉fp:=λz=>BS _ (ob _ z);let(pD,nD,neD,nfD,dD):=I4.pin (⇑s,FJ) (by simp);let hcD:∀x c,(zK X zB scope cl s H fp).env.cells.lookup x=some c->c≠⇑s:=λx c e z=>by
  let(v,o,ho,hd):=I4.cell x c e;rw[z,pD]at ho;ext ho;ext hd
 let hpn:∀p∈(zK X zB scope cl s H fp).pn++[],p.1≠⇑s:=λp hp=>by
  rw[BI]at hp;let hp':p∈X.pn++zB:=hp;exact AZ (AH (I.pin p hp').1)
 let big:sysModules<⇑s:=I.big;let hsm:(⇑s==sysModules)=false:=by rw[beq_eq_false_iff_ne];exact Cr big
 let I5:Inv (zK X zB scope cl s H fp) [] (clr own Y) (upd H ⇑s (Gn isT)) {s with heap:=pushCells ((s.heap.push FJ).push {cls:=.type "dict",data:=.dict #[] }) scope.names}:=by
  let I4':Inv (zK X zB scope cl s H fp) [] (clr own Y) H {s with heap:=pushCells ((s.heap.push FJ).push {cls:=.type "dict",data:=.dict #[] }) scope.names}:=I4.pins_of λp hp=>nomatch hp;calc I4'.trackAt pD nD (AF _) neD hcD hpn ?_;cases isT with
  |false=>exact#[BV _,hsm,[],.nil,FJ,#[],0,pD,#[rfl,rfl,rfl],rfl,λ_ he=>by simp at he,.nil,List.nodup_nil]
  |true=>exact#[BV _,hsm,[],.nil,FJ,#[],0,pD,#[rfl,rfl,rfl],rfl,rfl,List.nodup_nil]
 let fpk:∀{H':Hp},(∀b∈fp,H' b=none)->∀b∈fp,BN (zK X zB scope cl s H fp) [] H' b:=λ{H'} hn b hb=>
  #[hn b hb,(I4.ok.exf b hb).1,I4.ok.exfs b hb,.inl hb,(I4.ok.exf b hb).2,λp hq=>by
   rw[BI]at hq;calc(hf b hb).2.2.2.2.2 p hq]
 let loop:codeAny (model X.prog X.w) X.A (.compLoop (.DictComp kx vx [⟨tg,iter,ifs,0⟩] scope pos) 0 (.ref it) (.ref ⇑s) (zK X zB scope cl s H fp).env) (RR (.ref ⇑s) (⇑s+1))
   {s with heap:=pushCells ((s.heap.push FJ).push {cls:=.type "dict",data:=.dict #[] }) scope.names}:=by
  refine j7 (λn s'=>∃i H',Inv (zK X zB scope cl s H fp) [] (clr own Y) H' s'/\tn i s'.heap/\(∀b∈fp,H' b=none)/\W i n H') ?_ m0
   #[0,_,I5,st4,λb hb=>by rw[zT (show b≠⇑s fromλz=>hDfp (by rw[<-z];calc hb))];calc(hf b hb).1,w0]
  rintro n s5 ⟨i,H5,J5,st5,f5,w5⟩;rcases turn i n H5 w5 with⟨stop,qq⟩|⟨go,step⟩
  .refine thn (T.done (zK X zB scope cl s H fp) rfl rfl rfl hcalm i _ s5 _ H5 _ J5 (fpk f5) st5 stop) λr s6 ⟨hr,I6⟩=>?_;subst hr;exact fin _ H5 s6 I6 qq
  .refine thn (T.item (zK X zB scope cl s H fp) rfl rfl rfl hcalm i _ s5 _ H5 _ J5 (fpk f5) st5 go) λr s6 ⟨u,hr,h6⟩=>?_;subst hr;refine thn h6 λ_ s7 ⟨x,H7,I7,r7,y7,st7,f7⟩=>?_;let I7':=I7.pinned (fpk f7) (T.obj _ _ st7);refine thn (hg _ s7 _ H7 x u _ I7' r7 (step x H7 y7)) λ_ s8 ⟨σ8,H8,I8,x8,q8⟩=>?_;refine thn (hi _ s8 σ8 H8 _ I8 q8) λok s9 ⟨H9,I9,q9⟩=>?_;let back:∀{s':Yl}{Hx:Hp},Inv (zK X zB scope cl s H fp) ([]++Em fp s7.heap) σ8 Hx s'->tn (i+1) s'.heap/\∀b∈fp,Hx b=none:=λ{s' Hx} Ix=>
    #[T.keep _ _ _ st7 λb hb o e=>(Ix.pin (b,o) (Ak _ (Ak _ (Dh hb e)))).1,λb hb=>by
     let(o,e,d):=T.obj _ _ st7 b hb;calc(Ix.pin (b,o) (Ak _ (Ak _ (Dh hb e)))).2.1]
   cases ok with
   |false=>
    let(m',hm,w'):=q9;let(b1,b2):=back I9;calc#[m',hm,i+1,H9,(I9.weak (by rw[x8.1]) x8.2).unpinned,b1,b2,w']
   |true=>
    refine thn (hk _ s9 σ8 H9 _ I9 q9) λkv s10 ⟨y,H10,I10,r10,q10⟩=>?_;refine thn (hv _ s10 σ8 H10 _ I10 q10) λvv s11 ⟨z,H11,I11,r11,H12,m',hp,hm,w'⟩=>?_;refine RY (X:=zK X zB scope cl s H fp) hu I11 hp r10 r11 λs12 I12 hs=>?_;let(b1,b2):=back I12;exact#[m',hm,i+1,H12,(I12.weak (by rw[x8.1]) x8.2).unpinned,b1,b2,w']
 calc jP loop (T.self _ 0 _ _ _ st4 loop)
def UZ(I:Inv X zB Y H s)(hf:∀b∈fp,BN X zB H b)
  (Ic:Inv (zK X zB scope cl s H fp) [] σc H' s') (hs:Heap.SameBut (⇑s+1) s'.heap h'):Inv X zB Y H' {s' with heap:=h' }:=by
 let nC:H' (⇑s+1)=none:=Ic.free;let lt1:∀{b:Yt}{o:Obj},s.heap.get? b=some o->b≠⇑s+1:=λe=>AZ (C5 (AH e));let tr:∀b u,H' b=some u->b≠⇑s+1:=λb u e z=>by rw[z,nC]at e;ext e
 let B:=Ic.base;let un:Un (frs X.stack) fp H H' s.heap h':=by
  refine#[λb o e q hb hx=>hs.extBut b o (lt1 e) (B.keep b o e q hb hx),λb o e q hb hx=>?_,λb o e q hx=>B.free b o e q hx,λb o e hx=>?_,λb xs e=>B.tups b xs e,λb o xs e=>B.frzs b o xs e,λb ps e=>B.tbls b ps e]
  .obtain⟨sl,e1⟩:=B.slot b o e q hb hx;exact#[sl,hs.extBut b _ (lt1 e) e1]
  .obtain⟨o',e1⟩:=B.there b o e hx;exact#[o',hs.extBut b _ (lt1 e) e1]
 let hok:HOk X.prog X.w H' h':=λb u e=>by
  refine(Ic.hok b u e).stay (λc v hc q=>hs.extBut c v ?_ q) (λc q=>q) λc xs q=>q;rcases hc with z|z
  .rw[z];exact tr b u e
  .exact tr c _ z
 calc I.call' Ic.os un hok Ic.bare λb hb=>#[(hf b hb).2.2.2.1,(hf b hb).2.1,(hf b hb).2.2.2.2.1,(hf b hb).2.2.2.2.2]
end
def Ni(isT:Bool)(own:Yj)(wi:TI)(g:TG)(tc:TT)(tk tv:TE):TE:=λY H Q=>wi Y H λJ H1=>∀D,H1 D=none->∃W:Nat->Nat->Hp->Prop,(∃m,W 0 m (upd H1 D (Gn isT)))/\∀i m H,W i m H ->
 (J.stop i H/\Q (.ref D) H) \/
 (J.go i H/\∀x H',J.yld i H x H'->g x (clr own Y) H' λσ2 H2=>Ext (clr own Y) σ2/\tc σ2 H2 λb H3=>
  if b=true then tk σ2 H3 λk H4=>tv σ2 H4 λv H5=>∃H6 m',C4 H5 D k v H6/\m'<m/\W (i+1) m' H6 else∃m',m'<m/\W (i+1) m' H3)
def gX(hu:X.A.units+1<cLine)(C:CompIn X scope own)(hcalm:X.calm=true)(hi:PI X tg iter wi)(p:CompParts X scope tg ifs kx g tc tk)(p2:∀zB cl s H fp,PE (zK X zB scope cl s H fp) vx tv)(hs:∀x,foldedSetIterable iter X.env x=pure x:=by intro _;rfl):
  PE X (.DictComp kx vx [#[tg,iter,ifs,0]] scope pos) (Ni isT own wi g tc tk tv):=by
 intro zB s Y H Q I h;let(cl,hcl,c1,c2):=C.sc.closure I;rw[arm_eval_DictComp];refine HY rfl hs hcl C.sc.kind C.sc.names (thn (hi zB s Y H _ I h) λv s1 h1=>thn h1 λitv s2 h2=>?_);let(it,fp,tn,J,H2,e,I2,T,st2,f2,hD):=h2;subst e;let(W,(m0,w0),turn):=hD ⇑s2 (I2.hok.fresh (AF _));calc Qv hu C hcalm I2 T st2 f2 c1 c2 (p.g _ _ _ _ _) (p.c _ _ _ _ _) (p.e _ _ _ _ _) (p2 _ _ _ _ _) w0 turn ?_;intro σc H' s' Ic qq;let(m,hn,_):=Ic.loc;refine#[m,hn,λh' hs'=>?_];calc#[.ref ⇑s2,_,UZ I2 f2 Ic hs',rfl,qq]
end L2
namespace L3
open L2
def Jt(isT:Bool):MO:=if isT then .dicT []else .dict []
def Ck(g:FG)(tc:FT)(tk tv:FE)(Y:Sd)(n:Nat)(all:List D)(gd:Option (Mem->Prop)):List D->Mem->Option Mem
 |[],M=>open Classical in if BG gd all M then some M else none
 |x::r,M=>open Classical in if BG gd all M then match g x Y with
   |some σ1=>match tc σ1 M with
    |some (true,M1)=>match toD tk σ1 M1 with
     |some (k,M2)=>match toD tv σ1 M2 with
      |some (v,M3)=>match Ee M3 n k v with
       |some M4=>Ck g tc tk tv Y n all gd r M4
       |none=>none
      |none=>none
     |none=>none
    |some (false,M1)=>Ck g tc tk tv Y n all gd r M1
    |none=>none
   |none=>none
  else none
def EG(isT:Bool)(own:Yj)(fi:FI)(g:FG)(tc:FT)(tk tv:FE):FE:=λY M=>match fi Y M with
 |some (xs,gd,M1)=>match Ck g tc tk tv (Al own Y) M1.length xs gd xs (M1++[Jt isT])with
  |some M2=>some (.dat (.ref M1.length),M2)
  |none=>none
 |none=>none
def QG{K:Yb}{isT:Bool}{own:Yj}{fi:FI}{g:TG}{fg:FG}{tc:FT}{tk tv:FE}(hg:Cf own g fg){τ:Sv}{H:Hp}{Q:VK}(h:trE K (EG isT own fi fg tc tk tv) τ H Q):Ni isT own (trI K fi) g (trT K tc) (trD K (toD tk)) (trD K (toD tv)) τ H Q:=by
 let(L,Y,M,d,Mf,c,rs,hf,q):=h;erw[EG]at hf;cbv at hf
 .intros xs gd M1 e1;cbv at hf
  .intros M2 e2;ext hf;refine(mkI c rs e1 (λL1 H1 J s1 c1 it p hp=>?_));obtain⟨c0,s0⟩:Cor K (L1++[p]) (M1++[Jt isT]) (upd H1 p (Gn isT))/\Stp L1 H1 (L1++[p]) (upd H1 p (Gn isT)):=by
    cases isT with
    |true=>calc c1.pushO (m:=.dicT []) hp #[[],zk,rfl]
    |false=>exact c1.pushO (m:=.dict []) hp #[[],zk,rfl]
   let lp0:(L1++[p])[M1.length]?=some p:=by rw[<-c1.len];simp
   refine#[λi m H'=>m=xs.length-i/\i<=xs.length/\∃L' M',Stp (L1++[p]) (upd H1 p (Gn isT)) L' H'/\Cor K L' M' H'/\Ck fg tc tk tv (Al own Y) M1.length xs gd (xs.drop i) M'=some Mf,
    #[xs.length,by simp,BV _,_,_,.refl _ _,c0,by simpa using e2],?_]
   intro i m H' hI;refine qz λG=>?_;let(eI1,hi,L',M',s',c',e'):=hI;calc G ?_;clear G;subst eI1;let lp:L'[M1.length]?=some p:=by let(N,hN):=s'.pre;rw[hN];exact Dz lp0
   by_cases hlt:i<xs.length
   .rw[Hf hlt]at e';erw[Ck]at e';cbv at e'
    .intros hgd;let(step,_):=it L' H' M' (s0.trans s') c' hgd;let(go,yl):=step i xs[i] (AO hlt);cbv at e'
     .intros σ1 eg;refine .inr #[go,λv H2 hy=>?_];let(gr,rv):=yl v H2 hy;let s2:Stp (L1++[p]) (upd H1 p (Gn isT)) L' H2:=s'.yld gr;refine hg (Hv own (((rs.stp s1).stp s0).stp s2)) (.refl _) rv eg λτ2 r2 x2=>#[x2,?_];cbv at e'
      .intros M3 e3;cbv at e'
       .intros kd M4 e4;cbv at e'
        .intros vd M5 e5;cbv at e'
         .intros M6 e6;refine(mkT (c'.grow gr) r2 e3 (λL3 H3 s3 c3=>Di ?_));refine(mkD c3 (r2.stp s3) e4 (λL4 H4 w s4 c4 r4=>?_));refine(mkD c4 ((r2.stp s3).stp s4) e5 (λL5 H5 u s5 c5 r5=>?_));let st:Stp L' H' L5 H5:=(((Stp.grow gr).trans s3).trans s4).trans s5;let lp5:L5[M1.length]?=some p:=by let(N,hN):=st.pre;rw[hN];exact Dz lp
          let(H6,h1,h2,h3):=Mo c5 lp5 (r4.stp s5) r5 e6;exact#[H6,xs.length-(i+1),h1,(),rfl,hlt,L5,M6,(s'.trans st).trans h3,h2,e']
         .ext e'
        .ext e'
       .ext e'
      .intros M3 e3;refine(mkT (c'.grow gr) r2 e3 (λL3 H3 s3 c3=>DX ?_));let st:Stp L' H' L3 H3:=(Stp.grow gr).trans s3;exact#[xs.length-(i+1),(),rfl,hlt,L3,M3,s'.trans st,c3,e']
      .ext e'
     .ext e'
    .ext e'
   .have hi':i=xs.length:=()
    subst hi';rw[List.drop_length]at e';erw[Ck]at e';cbv at e'
    .intros hgd;ext e';let(_,stop):=it L' H' _ (s0.trans s') c' hgd;calc .inl #[stop,?_];calc q L' _ _ ((s1.trans s0).trans s') c' ?_;erw[zX,Rep];exact#[p,rfl,lp]
    .ext e'
  .ext hf
 .ext hf
section
variable{X:Cx}{scope:Y0}{tg kx vx iter:Expr}{ifs:Yi}{pos:Pos}{own:Yj}{isT:Bool}
def qM{fi:FI}{g:TG}{fg:FG}{tc:FT}{tk tv:FE}(hu:X.A.units+1<cLine)(hg:Cf own g fg)(C:CompIn X scope own)(hcalm:X.calm=true)(hi:QI X tg iter fi)(p:QParts X scope tg ifs kx g tc tk)(p2:∀zB cl s H fp,QE (zK X zB scope cl s H fp) vx tv)(hs:∀x,foldedSetIterable iter X.env x=pure x:=by intro _;rfl):
  QE X (.DictComp kx vx [#[tg,iter,ifs,0]] scope pos) (EG isT own fi fg tc tk tv) :=
 .mk <| PE.imp (gX (isT:=isT) hu C hcalm hi.un p.parts (λ_ _ _ _ _=>(BL (p2 _ _ _ _ _)).un) hs) λ_ _ _ h=>QG hg h
end
def zm:Nat->D->Bool
 |0,.int _=>true
 |n+1,.tup ds=>ds.all (zm n)
 |_,_=>false
def Aq:Nat->D->D->Bool
 |0,.int i,.int j=>decide (i=j)
 |n+1,.tup xs,.tup ys=>xs.length==ys.length&&(xs.zip ys).all λq=>Aq n q.1 q.2
 |_,_,_=>false
theorem Jf:∀(n:Nat)(x:D),zm n x=true->Aq n x x=true:=by
 intro n;induction n with
 |zero=>
  intro x h;cases x <;> first|exact decide_eq_true rfl|cases h
 |succ n ih=>
  intro x h;cases x <;> first|cases h|skip
  erw[zm]at h;erw[Aq];rw[Am]at h;simp only[beq_self_eq_true,Bool.true_and];rw[Am];intro q hq;have:q.1=q.2:=by
   let(i,hi,e):=Dm hq;rw[List.getElem_zip]at e;rw[<-e]
  rw[<-this];calc ih _ (h q.1 (List.of_mem_zip hq).1)
def oP:∀(n:Nat)(x y:D),zm n x=true->zm n y=true->Aq n x y=true->x=y:=by
 intro n;induction n with
 |zero=>
  intro x y hx hy h;cases x <;> first|cases hx|skip
  cases y <;> first|cases hy|skip
  erw[Aq]at h;rw[Cs h]
 |succ n ih=>
  intro x y hx hy h;cases x <;> first|cases hx|skip
  cases y <;> first|cases hy|skip
  intros xs ys;unfold zm at hx hy;erw[Aq]at h;rw[Am]at hx hy;rw[BB,beq_iff_eq,Am]at h;congr 1;apply List.ext_getElem h.1;intro i h1 h2;refine ih _ _ (hx _ (Bc h1)) (hy _ (Bc h2)) ?_;exact h.2 (xs[i],ys[i]) (by
   let hz:i<(xs.zip ys).length:=by rw[List.length_zip];omega
   have:=Bc hz;rw[List.getElem_zip]at this;calc this)
def QR:∀(n:Nat)(x y:D)(v:V),zm n x=true->zm n y=true->Rep L H x v->Rep L H y v->x=y:=by
 intro n;induction n with
 |zero=>
  intro x y v hx hy rx ry;cases x <;> first|cases hx|skip
  cases y <;> first|cases hy|skip
  unfold Rep at rx ry;rw[rx]at ry;ext ry;rfl
 |succ n ih=>
  intro x y v hx hy rx ry;cases x <;> first|cases hx|skip
  cases y <;> first|cases hy|skip
  intros xs ys;unfold zm at hx hy;rw[Am]at hx hy;unfold Rep at rx ry;let(a,vs,rfl,e,r):=rx;let(a',vs',e1,e2,r'):=ry;ext e1;rw[e]at e2;ext e2;congr 1;let hl:xs.length=ys.length:=by rw[<-r.length,r'.length]
  apply List.ext_getElem hl;intro i h1 h2;let(u,hu,ru):=r.get (AO h1);let(u',hu',ru'):=r'.get (AO h2);rw[hu]at hu';ext hu';calc ih _ _ u (hx _ (Bc h1)) (hy _ (Bc h2)) ru ru'
def Pp{xs ys:List D}(f:D->D->Bool)(h:xs.length=ys.length):((List.range xs.length).all λj=>f (xs.getD j .non) (ys.getD j .non))=(xs.zip ys).all λq=>f q.1 q.2:=by
  rw[Ew,Am,Am];constructor
  . intro hh q hq
    let(i,hi,e):=Dm hq;rw[List.getElem_zip]at e;rw[List.length_zip]at hi;have:=hh i (by simp;omega);rw[<-e];simpa [Bn,show i<xs.length by omega,show i<ys.length by omega]using this
  . intro hh i hi
    let h1:i<xs.length:=by simpa using hi
    let h2:i<ys.length:=()
    let hz:i<(xs.zip ys).length:=by rw[List.length_zip];omega
    have:=hh (xs.zip ys)[i] (Bc hz);rw[List.getElem_zip]at this;simpa [Bn,h1,h2]using this
def RC (I : Inv X zB Y H s) : ∀ (n : Nat) (A : Around) (x y : D) (v w : V) (u u' : Value), A.units + n < cLine -> zm n x = true -> zm n y = true -> Rep L H x v -> Rep L H y w -> zh v u -> zh w u' -> SeqAt.EqAt A s u u' (Aq n x y) := by
  intro n;induction n with
  |zero=>
    intro A x y v w u u' hu hx hy rx ry ru ru';cases x <;> first|cases hx|skip
    cases y <;> first|cases hy|skip
    unfold Rep at rx ry;subst rx;subst ry;let(t,rfl):=ru;let(t',rfl):=ru';have:=SeqAt.EqAt.int_int (A:=A) (s:=s) ‹Int› t ‹Int› t';erw[Aq];intros i j;let h:=SeqAt.EqAt.int_int (A:=A) (s:=s) i t j t';let e:(i==j)=decide (i=j):=by by_cases q:i=j <;> simp[q]
    rw[e]at h;calc h
  | succ n ih =>
    intro A x y v w u u' hu hx hy rx ry ru ru';cases x <;> first|cases hx|skip
    cases y <;> first|cases hy|skip
    intros xs ys;let hx':=hx;let hy':=hy;let rx':=rx;let ry':=ry;unfold zm at hx hy;rw[Am]at hx hy;unfold Rep at rx ry;let(a,vs,rfl,e,r):=rx;let(b,ws,rfl,e2,r2):=ry;ext ru;ext ru';by_cases hab:a=b
    . subst hab
      have:=QR (n+1) _ _ _ hx' hy' rx' ry';rw[this,Jf (n+1) _ hy'];exact SeqAt.EqAt.same _
    · refine SeqAt.EqAt.of_refs hab ?_
      let(its,rv,p1,_):=I.tuple (.of e);let(its2,rv2,p2,_):=I.tuple (.of e2);let l1:its.toArray.size=xs.length:=by rw[AX,<-rv.length,r.length]
      let l2:its2.toArray.size=ys.length:=by rw[AX,<-rv2.length,r2.length]
      have key := SeqAt.RcAt.tuples (A := A) (items := its.toArray) (items2 := its2.toArray) (e := fun j => Aq n (xs.getD j .non) (ys.getD j .non)) p1 p2 (by omega) (fun j h1 h2 => by
        let j1:j<xs.length:=()
        let j2:j<ys.length:=()
        let(q1,g1,t1):=r.get (AO j1);let(q2,g2,t2):=r2.get (AO j2);let(o1,k1,m1):=rv.get g1;let(o2,k2,m2):=rv2.get g2
        have z1 : its.toArray[j] = o1 := by have : its.toArray[j]? = some o1 := by simpa using k1
                                            rw[Cq h1]at this;exact Be this
        have z2 : its2.toArray[j] = o2 := by have : its2.toArray[j]? = some o2 := by simpa using k2
                                             rw[Cq h2]at this;exact Be this
        rw[z1,z2];let w1:xs.getD j .non=xs[j]:=by simp[Bn,j1]
        let w2:ys.getD j .non=ys[j]:=by simp[Bn,j2]
        rw[w1,w2];calc ih A.in1 _ _ _ _ _ _ (by show A.units+1+n<cLine;omega) (hx _ (Bc j1)) (hy _ (Bc j2)) t1 t2 m1 m2)
      let fin:((List.range (min its.toArray.size its2.toArray.size)).all (λj=>Aq n (xs.getD j .non) (ys.getD j .non))&&its.toArray.size==its2.toArray.size)=Aq (n+1) (.tup xs) (.tup ys):=by
        rw[l1,l2];show _=(xs.length==ys.length&&(xs.zip ys).all λq=>Aq n q.1 q.2);by_cases hl:xs.length=ys.length
        .rw[hl,Nat.min_self,<-hl,Pp (Aq n) hl,Bool.and_comm]
        . have:(xs.length==ys.length)=false:=by simpa using hl
          rw[this];simp
      rw[fin]at key;calc key
def nb(neg b:Bool):Bool:=if neg then !b else b
def rTr(neg:Bool)(K:Yb)(n:Nat):R2:=λx y H Q=>∃(L:Yg)(xs ys:List D),(xs.all (zm n)=true/\ys.all (zm n)=true) /\
 ((Rep L H (.tup xs) x/\Rep L H (.tup ys) y)\/∃a b vs ws,x=.ref a/\y=.ref b/\SqL K H a vs/\SqL K H b ws/\zH L H xs vs/\zH L H ys ws)/\Q (.bl (nb neg (Aq (n+1) (.tup xs) (.tup ys)))) H
def Qi(I:Inv X zB Y H s)(hu:A.units+n<cLine)(hx:xs.all (zm n)=true)(hy:ys.all (zm n)=true)(r:zH L H xs vs)(r2:zH L H ys ws)(rv:zd vs its)(rv2:zd ws its2)(j:Nat)(h1:j<its.toArray.size)(h2:j<its2.toArray.size):
  SeqAt.EqAt A s its.toArray[j] its2.toArray[j] (Aq n (xs.getD j .non) (ys.getD j .non)):=by
 rw[Am]at hx hy;let l1:its.toArray.size=xs.length:=by rw[AX,<-rv.length,r.length]
 let l2:its2.toArray.size=ys.length:=by rw[AX,<-rv2.length,r2.length]
 let j1:j<xs.length:=()
 let j2:j<ys.length:=()
 let(q1,g1,t1):=r.get (AO j1);let(q2,g2,t2):=r2.get (AO j2);let(o1,k1,m1):=rv.get g1;let(o2,k2,m2):=rv2.get g2;let z1:its.toArray[j]=o1:=by
  have:its.toArray[j]?=some o1:=by simpa using k1
  rw[Cq h1]at this;exact Be this
 let z2:its2.toArray[j]=o2:=by
  have:its2.toArray[j]?=some o2:=by simpa using k2
  rw[Cq h2]at this;exact Be this
 let w1:xs.getD j .non=xs[j]:=by simp[Bn,j1]
 let w2:ys.getD j .non=ys[j]:=by simp[Bn,j2]
 rw[z1,z2,w1,w2];calc RC I n A _ _ _ _ _ _ hu (hx _ (Bc j1)) (hy _ (Bc j2)) t1 t2 m1 m2
def SH(l1:a=xs.length)(l2:b=ys.length):((List.range (min a b)).all (λj=>Aq n (xs.getD j .non) (ys.getD j .non))&&a==b)=Aq (n+1) (.tup xs) (.tup ys):=by
 subst l1 l2;show _=(xs.length==ys.length&&(xs.zip ys).all λq=>Aq n q.1 q.2);by_cases hl:xs.length=ys.length
 .rw[hl,Nat.min_self,<-hl,Pp (Aq n) hl,Bool.and_comm]
 .have:(xs.length==ys.length)=false:=by simpa using hl
  rw[this];simp
def n9(hl:xs.length=ys.length):((List.range xs.length).all λj=>Aq n (xs.getD j .non) (ys.getD j .non))=Aq (n+1) (.tup xs) (.tup ys):=by
 rw[<-SH rfl rfl,hl,Nat.min_self];simp
def rO(hl:xs.length≠ys.length):Aq (n+1) (.tup xs) (.tup ys)=false:=by
 show(xs.length==ys.length&&_)=false;rw[show(xs.length==ys.length)=false by simpa using hl];rfl
def jI(n:Nat)(hu:X.A.units+1+n<cLine):OpR X (compareOp .NotEq) (rTr true X.K n):=by
 intro zB s Y H x y v u Q I rx ry h;let(L,xs,ys,(hx,hy),hc,q):=h;let hu1:X.A.in1.units+n<cLine:=hu;rcases hc with⟨p1,p2⟩|⟨a,b,vs,ws,rfl,rfl,s1,s2,r1,r2⟩
 .unfold Rep at p1 p2;let(a,vs,rfl,e1,r1):=p1;let(b,ws,rfl,e2,r2):=p2;ext rx;ext ry;let(its,rv,t1,_):=I.tuple (.of e1);let(its2,rv2,t2,_):=I.tuple (.of e2);refine SeqAt.RcNeAt.tuples t1 t2 () (λj h1 h2=>Qi I hu1 hx hy r1 r2 rv rv2 j h1 h2) _ _ _ _ ?_;rw[SH (by rw[AX,<-rv.length,r1.length]) (by rw[AX,<-rv2.length,r2.length])];exact#[.bl _,H,I,rfl,q]
 .cases rx;ext ry;let(its,rv,t1,_):=I.list s1;let(its2,rv2,t2,_):=I.list s2;let l1:its.toArray.size=xs.length:=by rw[AX,<-rv.length,r1.length]
  let l2:its2.toArray.size=ys.length:=by rw[AX,<-rv2.length,r2.length]
  by_cases hl:xs.length=ys.length
  .refine SeqAt.RcNeAt.lists t1.isList t2.isList () () (λj h1 h2=>Qi I hu1 hx hy r1 r2 rv rv2 j h1 h2) _ _ _ _ ?_;rw[l1,n9 hl];exact#[.bl _,H,I,rfl,q]
  .refine SeqAt.RcNeAt.lists_lengths t1.isList t2.isList (by rw[l1,l2];simpa using hl) () _ _ _ _ ?_;rw[rO hl]at q;calc#[.bl true,H,I,rfl,q]
def kTr(neg:Bool)(n:Nat):K2:=λx y M=>match Cc x,Cc y with
 |some xs,some ys=>if xs.all (zm n)&&ys.all (zm n)then some (.dat (.bl (nb neg (Aq (n+1) (.tup xs) (.tup ys)))),M)else none
 |_,_=>match Bb M x,Bb M y with
  |some xs,some ys=>if xs.all (zm n)&&ys.all (zm n)then some (.dat (.bl (nb neg (Aq (n+1) (.tup xs) (.tup ys)))),M)else none
  |_,_=>none
def pF{K:Yb}{neg:Bool}{n:Nat}:BM K (rTr neg K n) (kTr neg n):=by
 intro L M M' H H0 x y d v w Q c rx ry hk q;erw[kTr]at hk;cbv at hk
 .intros xs ys e1 e2;cbv at hk
  .intros hb;ext hk;rw[BB]at hb;let(p,vs,rfl,h1,r1):=D7 rx e1;let(p',ws,rfl,h2,r2):=D7 ry e2;refine#[L,xs,ys,hb,.inl #[?_,?_],q L H _ (.refl L H) c (B7 (L:=L) (H:=H))]
   .unfold Rep;exact#[p,vs,rfl,h1,r1]
   .unfold Rep;exact#[p',ws,rfl,h2,r2]
  .ext hk
 .split at hk
  .intros xs ys e1 e2;cbv at hk
   .intros hb;ext hk;rw[BB]at hb;let(p,vs,rfl,h1,r1):=Cm c rx e1;let(p',ws,rfl,h2,r2):=Cm c ry e2;exact#[L,xs,ys,hb,.inr #[p,p',vs,ws,rfl,rfl,.inl h1,.inl h2,r1,r2],q L H _ (.refl L H) c (B7 (L:=L) (H:=H))]
   .ext hk
  .ext hk
def a9(n:Nat)(hu:X.A.units+1+n<cLine)(h1:QE X a f)(h2:QE X b g):QT X (.Compare a [.NotEq] [b] pos) (tst (fOp (kTr true n) f g)):=E4 pF (jI n hu) h1 h2 (Ej _)
def NS(n:Nat)(hn:n<=8)(hr:Room k A):A.units+1+n<cLine:=by
 have:=hr.units;omega
open Builtin
def JM:KB:=λxs M=>match xs with
 |[.dat (.int i),.dat (.int j)]=>some (.dat (.int (if j>i then j else i)),M)
 |_=>none
def Jc:KB:=λxs M=>match xs with
 |[.dat (.int i),.dat (.int j)]=>some (.dat (.int (if j<i then j else i)),M)
 |_=>none
def Rk(r:C9 H0 L H [.dat (.int i),.dat (.int j)] vs):vs=[.int i,.int j]:=by
 erw[C9]at r;let(v,r1,rfl,a1,a2):=r;erw[C9]at a2;let(v2,r2,rfl,b1,b2):=a2;erw[C9]at b2;subst b2;unfold zX Rep at a1 b1;subst a1 b1;rfl
def YH{K:Yb}:Dk K (λxs H Q=>∃i j,xs=[.int i,.int j]/\Q (.int (if j>i then j else i)) H) JM:=by
 intro L M M' H H0 xs d vs Q c r hk q;erw[JM]at hk;cbv at hk
 .intros i j;ext hk;exact#[i,j,Rk r,q L H _ (.refl L H) c (By (L:=L) (H:=H))]
 .ext hk
def Wa{K:Yb}:Dk K (λxs H Q=>∃i j,xs=[.int i,.int j]/\Q (.int (if j<i then j else i)) H) Jc:=by
 intro L M M' H H0 xs d vs Q c r hk q;erw[Jc]at hk;cbv at hk
 .intros i j;ext hk;exact#[i,j,Rk r,q L H _ (.refl L H) c (By (L:=L) (H:=H))]
 .ext hk
def Xq(hcalm:X.calm=true)(hg:Gl X "max")(hm:X.mg "max" = none)(ha:QAE X [e,e2] fa)(he:starEach [e,e2] X.env=(false,eval e X.env)::starEach [e2] X.env:=by rfl)(hpl:(backTo pos (starEach [e2] X.env)).any (·.1)=false:=by rfl):QE X (.Call (.Name "max" p) [e,e2] [] pos) (fB JM fa) :=
 GC YH (fH hcalm) (by rfl) hg hm ha () () he hpl
def XS(hcalm:X.calm=true)(hg:Gl X "min")(hm:X.mg "min" = none)(ha:QAE X [e,e2] fa)(he:starEach [e,e2] X.env=(false,eval e X.env)::starEach [e2] X.env:=by rfl)(hpl:(backTo pos (starEach [e2] X.env)).any (·.1)=false:=by rfl):QE X (.Call (.Name "min" p) [e,e2] [] pos) (fB Jc fa) :=
 GC Wa (eN hcalm) (by rfl) hg hm ha () () he hpl
def IC:KM:=λx ds M=>match x,ds with
 |.dat (.ref n),[.ref m]=>match M[n]?,M[m]? with
  |some (.lst xs),some (.lst ys)=>if xs.length+ys.length<=sizeLine then some (.non,M.set n (.lst (xs++ys)))else none
  |_,_=>none
 |_,_=>none
def cL{K:Yb}:JT K Qc IC:=by
 intro L M M' H H0 x ds d v vs Q c rx rd hk q;erw[IC]at hk;cbv at hk
 .intros n m;cbv at hk
  .intros xs ys e1 e1';cbv at hk
   .intros hz;ext hk;erw[zX,Rep]at rx;let(a,rfl,e2):=rx;let(ws,e3,r3):=c.obj n a _ e2 e1;let(w,rfl,r4):=rd.one;erw[Rep]at r4;let(b,rfl,e4):=r4;let(zs,e5,r5):=c.obj m b _ e4 e1';let(c5,s5):=c.write e2 e1 (r3.app r5);exact#[a,b,ws,zs,rfl,rfl,e3,e5,by rw[r3.length,r5.length];calc hz,q L _ _ s5 c5 (by erw[Rep];rfl)]
   .ext hk
  .ext hk
 .ext hk
def c6(h:QE X a f)(hg:QA X [e] fg)(hbase:attributeBase a "extend" X.env (eval a X.env)=eval a X.env:=by rfl)
  (hfew:((backTo cpos (starEach [e] X.env)).all (λx=> !x.1)&&(backToKw cpos (keywordEach [] X.env)).all (λx=>x.1.isSome)&&decide ([e].length+([]:List Keyword).length+(if([]:List Keyword).isEmpty then 0 else 1)<30))=true:=by rfl)
  (hline:(apos.endLine==cpos.line)=true:=by rfl) (hs:starEach [e] X.env=(false,eval e X.env)::starEach [] X.env:=by rfl) (hplain:(backTo cpos (starEach [] X.env)).any (·.1)=false:=by rfl):
  QE X (.Call (.Attribute a "extend" apos) [e] [] cpos) (fM IC f fg) :=
 .mk <| PE.imp (Jk PySem.F.plainAttrs_list PySem.F.slot_list_extend PySem.F.type_list_extend lI h.un hg.un hbase hfew hline hs hplain) λ_ _ _ z=>Jz cL z
def SI(b:Bool)(h:Heap)(it t:Yt)(k:Nat):Prop:=if b then h.IsTupleIter it t k else h.IsListIter it t k
def SO(b:Bool)(h:Heap)(t:Yt)(xs:Yp):Prop:=if b then h.IsTuple t xs else h.IsList t xs
abbrev itO(b:Bool)(t:Addr):Obj:={cls:=.type (if b then "tuple_iterator" else "list_iterator"),data:=.fields ([.ref t,.int 0 0].toArray) }
def SO.keep(x:SO b h t xs)(e:∀o,h.get? t=some o->h'.get? t=some o):SO b h' t xs:=by
 cases b with
 |true=>let(o,q,r):=(show h.IsTuple t xs from x);calc(show h'.IsTuple t xs from#[o,e o q,r])
 |false=>let(o,q,r):=(show h.IsList t xs from x);calc(show h'.IsList t xs from#[o,e o q,r])
def UM(hl:SO b s.heap l items)(hQ:Q (.ref ⇑s) {s with heap:=s.heap.push (itO b l) }):wpAny (model prog w) A (pyIter (.ref l)) Q E s:=by
 cases b with
 |true=>calc wpAny_pyIter_tuple (show s.heap.IsTuple l items from hl) hQ
 |false=>calc wpAny_pyIter_list (show s.heap.IsList l items from hl) hQ
def U8(e:h.get? it=some (itO b t)):SI b h it t 0:=by
 cases b with
 |true=>calc(show h.IsTupleIter it t 0 from#[_,e,rfl,rfl])
 |false=>calc(show h.IsListIter it t 0 from#[_,e,rfl,rfl])
def SqG(K:Yb)(b:Bool)(H:Hp)(a:Yt)(xs:List V):Prop:=if b then SqT K H a xs else SqL K H a xs
def XR(I:Inv X zB Y H s)(h:SqG X.K b H a xs):∃its,zd xs its/\SO b s.heap a its.toArray:=by
 cases b with
 |true=>let(its,rv,p1,_):=I.tuple h;calc#[its,rv,p1]
 |false=>let(its,rv,p1,_):=I.list h;calc#[its,rv,p1.isList]
def k7(x:SO b h a its):a<h.objs.size:=by
 cases b with
 |true=>let(_,e,_):=(show h.IsTuple a its from x);calc AH e
 |false=>let(_,e,_):=(show h.IsList a its from x);calc AH e
def ZH{K:Yb}{L1:Yg}{M1:Mem}{H1:Hp}{x:D}{v:V}{xs:List D}(c1:Cor K L1 M1 H1)(r1:Rep L1 H1 x v)(e:A7 M1 (.dat x)=some xs):
  ∃b l,v=.ref l/\(∃vs,SqG K b H1 l vs)/\∀L2 H2 M2,Stp L1 H1 L2 H2->Cor K L2 M2 H2->A7 M2 (.dat x)=some xs->∃vs',SqG K b H2 l vs'/\zH L2 H2 xs vs':=by
 let r1':zX H1 L1 H1 (.dat x) v:=r1;cases x with
 |tup ds=>
  ext e;let(a,vs,rfl,e3,r3):=D7 r1' rfl;exact#[true,a,rfl,#[vs,(show SqT K H1 a vs from .of e3)],λL2 H2 M2 s2 c2 _=>#[vs,(show SqT K H2 a vs from .of (s2.tup a vs e3)),r3.stp s2]]
 |ref n=>
  let e2:Bb M1 (.dat (.ref n))=some xs:=e;let(a,vs,rfl,e3,r3):=Cm c1 r1' e2;refine#[false,a,rfl,#[vs,(show SqL K H1 a vs from .inl e3)],λL2 H2 M2 s2 c2 hq=>?_];erw[Rep]at r1;let(a',ha',e5):=r1;ext ha';let e6:L2[n]?=some a:=by let(N,hN):=s2.pre;rw[hN];exact Dz e5
  let r2:zX H2 L2 H2 (.dat (.ref n)) (.ref a):=by erw[zX,Rep];exact#[a,rfl,e6]
  let(a2,vs',h2,e7,r7):=Cm c2 r2 (show Bb M2 (.dat (.ref n))=some xs from hq);ext h2;calc#[vs',(show SqL K H2 a vs' from .inl e7),r7]
 |_=>ext e
def Mv{ns:Ye}{its:Yf}(r:zd (ns.map V.int) its){i:Nat}{v:Yu}(h:its.toArray[i]?=some v):∃t,v=.int (ns.getD i 0) t:=by
 let h':its[i]?=some v:=by simpa using h
 let hi:i<its.length:=(AI.mp h').1;let hl:=r.length;rw[AG]at hl;let hx:(ns.map V.int)[i]?=some (.int (ns.getD i 0)):=by
  rw[Au,Bn,AO ()];rfl
 let(u,hu,ru):=r.get hx;rw[h']at hu;ext hu;let(t,rfl):=ru;calc#[t,rfl]
def Qu(hh:A.handled=none)(b:Bool)(I ax:Yt)(hne:ax≠I)(items:Yp):
  Walks prog w A I [I,ax] [I] items.size (λi v=>items[i]?=some v) (λi h=>SI b h I ax i/\SO b h ax items):=by
 cases b with
 |true=>calc Walks.tuple hh I ax hne items
 |false=>calc Walks.list hh I ax hne items
def o9(gt:Bool)(hc:X.calm=true):B1 X (.builtin (if gt then "max" else "min")) (λxs H Q=>∃(b:Bool)(a:Addr)(ns:List Int)(m:Int),xs=[.ref a]/\SqG X.K b H a (ns.map V.int)/\m∈ns/\(∀x∈ns,if gt then x<=m else m<=x)/\Q (.int m) H):=by
 intro zB s Y H xs us Q I r h;let(b,a,ns,m,rfl,hs,hm,hb,q):=h;let(u,rfl,ru):=DZ r;ext ru;let(its,rv,p1):=XR I hs;let hl:its.toArray.size=ns.length:=by have:=rv.length;simp at this ⊢;omega
 let hpos:0<ns.length:=List.length_pos_of_mem hm;let hlt:=k7 p1;let hfp:∀c∈[⇑s,a],c<(s.heap.push (itO b a)).objs.size:=λc hc'=>by
  rw[Bo];simp only[AK,Bq,Br]at hc';rcases hc' with rfl|rfl
  .exact D3 _
  .exact C5 hlt
 let st:SI b (s.heap.push (itO b a)) ⇑s a 0/\SO b (s.heap.push (itO b a)) a its.toArray:=#[U8 (AS _ rfl),p1.keep λo e=>AJ _ e];let kp:∀h':Heap,(∀c o,c∉[⇑s]->(s.heap.push (itO b a)).get? c=some o->h'.get? c=some o)->∀c o,s.heap.get? c=some o->h'.get? c=some o:=λh' hk c o e0=>
  hk c o (by simp only[AK,Bq,Br];calc AZ (AH e0)) (AJ _ e0)
 let fin:∀(i:Nat)(v:Yu)(h':Heap)(tk:Nat),its.toArray[i]?=some v->ns.getD i 0=m->(∀c o,s.heap.get? c=some o->h'.get? c=some o)->EP X zB Y Q v {s with heap:=h',toks:=tk}:=λi v h' tk hv hi hk=>by
  let(t,rfl):=Mv rv hv;rw[hi];exact#[.int m,H,I.kept hk,#[t,rfl],q]
 cases gt with
 |true=>
  refine call_max_walk (UM p1 #[⇑s,[⇑s,a],[⇑s],its.toArray.size,λi v=>its.toArray[i]?=some v,λi h=>SI b h ⇑s a i/\SO b h a its.toArray,_,rfl,Qu (A:=X.A.in1) (I.ok.hd hc) b _ a (AZ hlt) its.toArray,st,hfp,(),CmpOf.ints_gt (λi=>ns.getD i 0) (λ_ _ hv=>Mv rv hv),λv h' tk hP hk=>?_]);calc fin _ v h' tk hP ?_ (kp h' hk);let(h1,h2):=argBest_gt (λi=>ns.getD i 0) (its.toArray.size-1);rw[hl]at h1 h2 ⊢;generalize argBest _ (ns.length-1)=q at h1 h2 ⊢;let(j,hj,ej):=List.mem_iff_getElem.mp hm;let h3:=h2 j ();let e3:ns.getD j 0=m:=by rw[Bn,AO hj];exact ej
  let hq:q<ns.length:=()
  let h4:ns.getD q 0<=m:=by
   have:=hb (ns.getD q 0) (by rw[Bn,AO hq];calc Bc hq);simpa using this
  rw[e3]at h3;omega
 |false=>
  refine call_min_walk (UM p1 #[⇑s,[⇑s,a],[⇑s],its.toArray.size,λi v=>its.toArray[i]?=some v,λi h=>SI b h ⇑s a i/\SO b h a its.toArray,_,rfl,Qu (A:=X.A.in1) (I.ok.hd hc) b _ a (AZ hlt) its.toArray,st,hfp,(),CmpOf.ints_lt (λi=>ns.getD i 0) (λ_ _ hv=>Mv rv hv),λv h' tk hP hk=>?_]);calc fin _ v h' tk hP ?_ (kp h' hk);let(h1,h2):=argBest_lt (λi=>ns.getD i 0) (its.toArray.size-1);rw[hl]at h1 h2 ⊢;generalize argBest _ (ns.length-1)=q at h1 h2 ⊢;let(j,hj,ej):=List.mem_iff_getElem.mp hm;let h3:=h2 j ();let e3:ns.getD j 0=m:=by rw[Bn,AO hj];exact ej
  let hq:q<ns.length:=()
  let h4:m<=ns.getD q 0:=by
   have:=hb (ns.getD q 0) (by rw[Bn,AO hq];calc Bc hq);simpa using this
  rw[e3]at h3;omega
def DJ(gt:Bool):Int->List Int->Int
 |m,[]=>m
 |m,x::r=>DJ gt (if(if gt then m<x else x<m)then x else m) r
theorem Jp(gt:Bool):∀(r:Ye)(m:Int),DJ gt m r∈m::r/\∀x∈m::r,if gt then x<=DJ gt m r else DJ gt m r<=x
 |[],m=>by
  refine#[by simp[DJ],λx hx=>?_];have:x=m:=by simpa using hx
  subst this;cases gt <;> simp[DJ]
 |y::r,m=>by
  erw[DJ];let(h1,h2):=Jp gt r (if(if gt then m<y else y<m)then y else m);generalize hb:DJ gt (if(if gt then m<y else y<m)then y else m) r=B at h1 h2;constructor
  .rcases AK.mp h1 with q|q
   .rw[q];by_cases hc:(if gt=true then m<y else y<m)
    .rw[AB hc];simp
    .rw[AE hc];simp
   .simp[q]
  .intro x hx;let h0:=h2 _ AR;rcases AK.mp hx with q|q
   .subst q;cases gt with
    |true=>simp at h0 ⊢;split at h0 <;> omega
    |false=>simp at h0 ⊢;split at h0 <;> omega
   .rcases AK.mp q with z|z
    .subst z;cases gt with
     |true=>simp at h0 ⊢;split at h0 <;> omega
     |false=>simp at h0 ⊢;split at h0 <;> omega
    .exact h2 x (Aa _ z)
def Hy(gt:Bool):KB:=λxs M=>match xs with
 |[.dat d]=>match A7 M (.dat d)with
  |some ds=>match BR ds with
   |some (n::ns)=>some (.dat (.int (DJ gt n ns)),M)
   |_=>none
  |none=>none
 |[.fl ds]=>match BR ds with
  |some (n::ns)=>some (.dat (.int (DJ gt n ns)),M)
  |_=>none
 |_=>none
def oB{K:Yb}{gt:Bool}:Dk K (λxs H Q=>∃(b:Bool)(a:Yt)(ns:Ye)(m:Int),xs=[.ref a]/\SqG K b H a (ns.map V.int)/\m∈ns/\(∀x∈ns,if gt then x<=m else m<=x)/\Q (.int m) H) (Hy gt):=by
 intro L M M' H H0 xs d vs Q c r hk q;erw[Hy]at hk;cbv at hk
 .intros d0;cbv at hk
  .intros ds e1;cbv at hk
   .intros n ns e2;ext hk;let(v,rfl,r1):=r.one;let r1':Rep L H d0 v:=r1;let(b,l,rfl,_,key):=ZH c r1' e1;let(vs',hq,rr):=key L H M (.refl L H) c e1;let ev:=L6 e2 rr;subst ev;let(h1,h2):=Jp gt ns n;exact#[b,l,n::ns,DJ gt n ns,rfl,hq,h1,h2,q L H _ (.refl L H) c (By (L:=L) (H:=H))]
   .ext hk
  .ext hk
 .intros ds;cbv at hk
  .intros n ns e2;ext hk;let(v,rfl,r1):=r.one;let(l,vs',rfl,hq,rr):=Cm c r1 (show Bb M (.fl ds)=some ds from rfl);let ev:=L6 e2 rr;subst ev;let(h1,h2):=Jp gt ns n;exact#[false,l,n::ns,DJ gt n ns,rfl,.inl hq,h1,h2,q L H _ (.refl L H) c (By (L:=L) (H:=H))]
  .ext hk
 .ext hk
def jV(hcalm:X.calm=true)(hg:Gl X "min")(hm:X.mg "min" = none)(ha:QAE X [e] fa)(he:starEach [e] X.env=(false,eval e X.env)::starEach [] X.env:=by rfl)(hpl:(backTo pos (starEach [] X.env)).any (·.1)=false:=by rfl):QE X (.Call (.Name "min" p) [e] [] pos) (fB (Hy false) fa) :=
 GC oB (o9 false hcalm) (by rfl) hg hm ha () () he hpl
section
variable{X:Cx}{a e e2 o:Expr}{pos p apos cpos:Pos}{f:FE}
def Hr(f:FE):FT:=λY M=>match f Y M with
 |some (x,M1)=>match A7 M1 x with
  |some xs=>some (!xs.isEmpty,M1)
  |none=>none
 |none=>none
def qQ(h:QE X a f)(he:∀whole,isTrue a X.env whole=(do let v <- whole;standAt a.pos;holding [v] (truthy v)):=by intro _;rfl):QT X a (Hr f) :=
 .mk <| PT.imp (bE h.un he) λτ H Q zz=>by
  let(L,Y,M,d,M',c,rs,hf,q):=zz;erw[Hr]at hf;cbv at hf
  .intros x M1 e1;cbv at hf
   .intros xs e2;ext hf;refine(mkE c rs e1 (λL1 H1 v s1 c1 r1=>#[!xs.isEmpty,?_,q L1 H1 s1 c1]));erw[A7]at e2;let emp:∀{vs:List V},zH L1 H1 xs vs->(!xs.isEmpty) = !vs.isEmpty:=λ{vs} r=>by
     have:=r.length;cases xs <;> cases vs <;> first|rfl|simp at this
    cases t:Cc x with
    |some ws=>
     rw[t]at e2;ext e2;let(l,vs,rfl,e3,r3):=D7 r1 t;calc .inr (.inl #[vs,.of e3,emp r3])
    |none=>
     rw[t]at e2;dsimp only at e2;let(l,vs,rfl,e3,r3):=Cm c1 r1 e2;exact .inl #[vs,.inl e3,emp r3]
   .ext hf
  .ext hf
def Mc(i j k:Nat):FG:=λd Y=>match d with
 |.tup [x,y,z]=>some (((Y.set i (some x)).set j (some y)).set k (some z))
 |_=>none
abbrev gP3(K:Yb)(i j k:Nat):TG:=Ib K 3 (Ek (CY i) (Ek (CY j) (Ek (CY k) Jd)))
def sH(r:zH L H [x,y,z] vs):∃v1 v2 v3,vs=[v1,v2,v3]/\Rep L H x v1/\Rep L H y v2/\Rep L H z v3:=by
 erw[zH]at r;let(v1,r',rfl,h1,r):=r;let(v2,v3,rfl,h2,h3):=r.two;calc#[v1,v2,v3,rfl,h1,h2,h3]
def V4{K:Yb}{i j k:Nat}:GOk (gP3 K i j k) (Mc i j k):=by
 intro L H Y Y' τ d v Q rs r hf q;erw[Mc]at hf;cbv at hf
 .intros x y z;ext hf;erw[Rep]at r;let(a,vs,rfl,e,r):=r;let(v1,v2,v3,rfl,r1,r2,r3):=sH r;exact#[a,_,rfl,.of e,rfl,v1,[v2,v3],rfl,v2,[v3],rfl,v3,[],rfl,rfl,q _ (((rs.set r1).set r2).set r3)]
 .ext hf
end
def fY{its:List Value}{i:Int}(e:s.heap.get? l=some {cls:=.type "list",data:=.seq its.toArray n})(hfit:¬ (!Builtin.List.listFitsIndex i)=true)(h0:¬ (i<0))(hz:its.toArray.size<=sizeLine)
  (h:∀g:Array Value->Array Value,g its.toArray=(its.take (min i.toNat its.length)++[u2]++its.drop (min i.toNat its.length)).toArray->Q .none {s with heap:=s.heap.update l (Obj.mapSeq g),toks:=s.toks}):
  wpAny (model prog w) A (call (.builtin "list.insert") [.ref l,.int i t,u2]) Q E s:=by
 let hm:=@AutoSeq1.list_insert_list_int_val_1 l its.toArray n i t u2 hfit hz;let h1:s.TypeIs (.ref l) "list" := #[_,e,rfl];calc call_meets F.slot_list_insert h1 F.entry_list_insert (F.args_list_insert_3 _ _ _) hm #[e,?_];calc h _ ?_;simp only[h0,if_false,AX];simp;calc List.take_of_length_le (by simp)
def Ss:V->List V->Hp->VK->Prop:=λx vs H Q=>∃(l:Yt)(i:Int)(y:V)(xs:List V),x=.ref l/\vs=[.int i,y]/\H l=some (.lst xs)/\0<=i/\i.toNat<=xs.length/\xs.length<sizeLine/\Q .non (upd H l (.lst (xs.take i.toNat++[y]++xs.drop i.toNat)))
def bW:MtM X "list.insert" Ss:=by
 intro zB s Y H x vs v us Q I rx rv h;let(l,i,y,xs,rfl,rfl,hH,h0,hi,hz,q):=h;ext rx;let(u,u2,rfl,(t,rfl),ru2):=rv.two;let(z,its,n,r,hl,e):=I.lstM hH;let hs:(sizeLine:Nat)<2 ^ 62:=()
 let hi1: -(2 ^ 63)<=i:=()
 let hi2:i<2 ^ 63:=()
 refine fY e (by rw[fitsIndex_both hi1 hi2];calc Ax) () (by rw[AX,<-hl];calc DW hz) λg hg=>?_;rw[Nat.min_eq_left ()]at hg;calc#[.non,_,I.lset hH e hg (((r.take i.toNat).append (.cons ru2 .nil)).append (r.drop i.toNat)) (by simp;omega),rfl,q]
def Hd:KM:=λx ds M=>match x,ds with
 |.dat (.ref n),[.int i,d]=>match M[n]? with
  |some (.lst xs)=>if 0<=i/\i.toNat<=xs.length/\xs.length<sizeLine then some (.non,M.set n (.lst (xs.take i.toNat++[d]++xs.drop i.toNat)))else none
  |_=>none
 |_,_=>none
theorem TQ:∀(k:Nat){ds:List D}{vs:List V},zH L H ds vs->zH L H (ds.take k) (vs.take k)
 |0,_,_,_=> .nil
 |k+1,[],vs,h=>by erw[zH]at h;subst h;calc .nil
 |k+1,d::ds,vs,h=>by
  erw[zH]at h;let(v,r,rfl,h1,h2):=h;calc .cons h1 (TQ k h2)
theorem Sw:∀(k:Nat){ds:List D}{vs:List V},zH L H ds vs->zH L H (ds.drop k) (vs.drop k)
 |0,_,_,h=>h
 |k+1,[],vs,h=>by erw[zH]at h;subst h;calc .nil
 |k+1,d::ds,vs,h=>by
  erw[zH]at h;let(v,r,rfl,h1,h2):=h;calc Sw k h2
def nL{K:Yb}:JT K Ss Hd:=by
 intro L M M' H H0 x ds d v vs Q c rx rd hk q;erw[Hd]at hk;cbv at hk
 .intros n i d';cbv at hk
  .intros xs e1;cbv at hk
   .intros hz;ext hk;erw[zX,Rep]at rx;let(a,rfl,e2):=rx;let(ws,e3,r3):=c.obj n a _ e2 e1;let(w1,w2,rfl,r4,r5):=rd.two;let hw:w1=.int i:=by erw[Rep]at r4;exact r4
    subst hw;let(c5,s5):=c.write e2 e1 (((TQ i.toNat r3).app (.cons r5 .nil)).app (Sw i.toNat r3));exact#[a,i,w2,ws,rfl,rfl,e3,hz.1,by rw[r3.length];calc hz.2.1,by rw[r3.length];calc hz.2.2,q L _ _ s5 c5 (by erw[Rep];rfl)]
   .ext hk
  .ext hk
 .ext hk
def cE(h:QE X a f)(hg:QA X [x1,x2] fg)(hbase:attributeBase a "insert" X.env (eval a X.env)=eval a X.env:=by rfl)
  (hfew:((backTo cpos (starEach [x1,x2] X.env)).all (λx=> !x.1)&&(backToKw cpos (keywordEach [] X.env)).all (λx=>x.1.isSome)&&decide ([x1,x2].length+([]:List Keyword).length+(if([]:List Keyword).isEmpty then 0 else 1)<30))=true:=by rfl)
  (hline:(apos.endLine==cpos.line)=true:=by rfl) (hs:starEach [x1,x2] X.env=(false,eval x1 X.env)::starEach [x2] X.env:=by rfl) (hplain:(backTo cpos (starEach [x2] X.env)).any (·.1)=false:=by rfl):
  QE X (.Call (.Attribute a "insert" apos) [x1,x2] [] cpos) (fM Hd f fg) :=
 .mk <| PE.imp (Jk PySem.F.plainAttrs_list PySem.F.slot_list_insert PySem.F.type_list_insert bW h.un hg.un hbase hfew hline hs hplain) λ_ _ _ z=>Jz nL z
def DQ(fg:FG)(tc:FT)(fi2:FI)(own2:Yj)(fg2:FG)(tc2:FT)(te:FE)(Y:Sd)(all:List D)(gd:Option (Mem->Prop)):List D->List D->Mem->Option (List D×Mem)
 |[],acc,M=>open Classical in if BG gd all M then some (acc,M)else none
 |x::r,acc,M=>open Classical in if BG gd all M then match fg x Y with
   |some σ1=>match tc σ1 M with
    |some (true,M1)=>match fi2 σ1 M1 with
     |some (ys,gd2,M2)=>if acc.length+ys.length<=sizeLine then match BK fg2 tc2 te (Al own2 σ1) ys gd2 ys M2 with
       |some (ds,M3)=>DQ fg tc fi2 own2 fg2 tc2 te Y all gd r (acc++ds) M3
       |none=>none
      else none
     |none=>none
    |some (false,M1)=>DQ fg tc fi2 own2 fg2 tc2 te Y all gd r acc M1
    |none=>none
   |none=>none
  else none
def EE(own own2:Yj)(fi:FI)(fg:FG)(tc:FT)(fi2:FI)(fg2:FG)(tc2:FT)(te:FE):FE:=λY M=>match fi Y M with
 |some (xs,gd,M1)=>match DQ fg tc fi2 own2 fg2 tc2 te (Al own Y) xs gd xs [] M1 with
  |some (ys,M2)=>some (.fl ys,M2)
  |none=>none
 |none=>none
def VU{K:Yb}{own own2:Yj}{fi fi2:FI}{g g2:TG}{fg fg2:FG}{tc tc2:FT}{te:FE}(hg:Cf own g fg)(hg2:Cf own2 g2 fg2){τ:Sv}{H:Hp}{Q:VK}(h:trE K (EE own own2 fi fg tc fi2 fg2 tc2 te) τ H Q):
  PM own own2 (trI K fi) g (trT K tc) (trI K fi2) g2 (trT K tc2) (trD K (toD te)) τ H Q:=by
 let(L,Y,M,d,Mf,c,rs,hf,q):=h;erw[EE]at hf;cbv at hf
 .intros xs gd M1 e1;cbv at hf
  .intros zs M2 e2;ext hf;refine(mkI c rs e1 (λL1 H1 J s1 c1 it=>?_))
   refine#[λi m ys H'=>m=xs.length-i/\i<=xs.length/\∃L' M' as,Stp L1 H1 L' H'/\Cor K L' M' H'/\zH L' H' as ys/\as.length<=sizeLine/\DQ fg tc fi2 own2 fg2 tc2 te (Al own Y) xs gd (xs.drop i) as M'=some (zs,Mf),
    #[xs.length,by simp,BV _,L1,M1,[],.refl _ _,c1,.nil,BV _,by simpa using e2],?_]
   intro i m ys H' hI;refine qz λG=>?_;let(eI1,hi,L',M',as,s',c',r',hl,e'):=hI;calc G ?_;clear G;subst eI1;by_cases hlt:i<xs.length
   .rw[Hf hlt]at e';erw[DQ]at e';cbv at e'
    .intros hgd;let(step,_):=it L' H' M' s' c' hgd;let(go,yl):=step i xs[i] (AO hlt);cbv at e'
     .intros σ1 eg;refine .inr #[go,λv H2 hy=>?_];let(gr,rv):=yl v H2 hy;let s2:Stp L1 H1 L' H2:=s'.yld gr;refine hg (Hv own ((rs.stp s1).stp s2)) (.refl _) rv eg λτ2 r2 x2=>#[x2,?_];cbv at e'
      .intros M3 e3;cbv at e'
       .intros ys2 gd2 M4 e4;cbv at e'
        .intros hz2;cbv at e'
         .intros ds M5 e5;refine(mkT (c'.grow gr) r2 e3 (λL3 H3 s3 c3=>Di ?_));let st3:Stp L' H' L3 H3:=(Stp.grow gr).trans s3;refine(mkI c3 (r2.stp s3) e4 (λL4 H4 J2 s4 c4 it2=>?_))
          refine#[λj m2 ws H5=>m2=ys2.length-j/\j<=ys2.length/\∃L5 M6 bs cs,Stp L4 H4 L5 H5/\Cor K L5 M6 H5/\zH L5 H5 (as++bs) ws/\bs.length<=j/\BK fg2 tc2 te (Al own2 σ1) ys2 gd2 (ys2.drop j) M6=some (cs,M5)/\bs++cs=ds,
           #[ys2.length,by simp,BV _,L4,M4,[],ds,.refl _ _,c4,by simpa using(r'.stp st3).stp s4,AF _,by simpa using e5,rfl],?_]
          intro j m2 ws H5 hI;refine qz λG=>?_;let(eI1,hj,L5,M6,bs,cs,s5,c5,r5,hbl,e6,hbc):=hI;calc G ?_;clear G;subst eI1;let hws:ws.length<=as.length+j:=by rw[r5.length,AW];omega
          by_cases hlt2:j<ys2.length
          .rw[Hf hlt2]at e6;erw[BK]at e6;cbv at e6
           .intros hgd2;let(step2,_):=it2 L5 H5 M6 s5 c5 hgd2;let(go2,yl2):=step2 j ys2[j] (AO hlt2);cbv at e6
            .intros σ2 eg2;refine .inr #[go2,λv2 H6 hy2=>?_];let(gr2,rv2):=yl2 v2 H6 hy2;let s6:Stp L4 H4 L5 H6:=s5.yld gr2;refine hg2 (Hv own2 (((r2.stp s3).stp s4).stp s6)) (.refl _) rv2 eg2 λτ3 r3 x3=>#[x3,?_];cbv at e6
             .intros M7 e7;cbv at e6
              .intros d M8 e8;cbv at e6
               .intros ds' M9 e9;ext e6;refine(mkT (c5.grow gr2) r3 e7 (λL7 H7 s7 c7=>Di ?_));refine(mkD c7 (r3.stp s7) e8 (λL8 H8 w s8 c8 r8=>?_));let st:Stp L5 H5 L8 H8:=((Stp.grow gr2).trans s7).trans s8;calc#[(),ys2.length-(j+1),(),rfl,hlt2,L8,M8,bs++[d],ds',s5.trans st,c8,?_,by simp;omega,e9,by rw[<-hbc];simp];have:=(r5.stp st).app (.cons r8 .nil);simpa using this
               .ext e6
              .ext e6
             .intros M7 e7;refine(mkT (c5.grow gr2) r3 e7 (λL7 H7 s7 c7=>DX ?_));let st:Stp L5 H5 L7 H7:=(Stp.grow gr2).trans s7;exact#[ys2.length-(j+1),(),rfl,hlt2,L7,M7,bs,cs,s5.trans st,c7,r5.stp st,(),e6,hbc]
             .ext e6
            .ext e6
           .ext e6
          .have hj':j=ys2.length:=()
           subst hj';rw[List.drop_length]at e6;erw[BK]at e6;cbv at e6
           .intros hgd2;ext e6;let(_,stop2):=it2 L5 H5 _ s5 c5 hgd2;rw[BI]at hbc;subst hbc;refine .inl #[stop2,xs.length-(i+1),(),rfl,hlt,L5,M5,as++bs,s'.trans ((st3.trans s4).trans s5),c5,r5,by rw[AW];omega,e']
           .ext e6
         .ext e'
        .ext e'
       .ext e'
      .intros M3 e3;refine(mkT (c'.grow gr) r2 e3 (λL3 H3 s3 c3=>DX ?_));let st:Stp L' H' L3 H3:=(Stp.grow gr).trans s3;exact#[xs.length-(i+1),(),rfl,hlt,L3,M3,as,s'.trans st,c3,r'.stp st,hl,e']
      .ext e'
     .ext e'
    .ext e'
   .have hi':i=xs.length:=()
    subst hi';rw[List.drop_length]at e';erw[DQ]at e';cbv at e'
    .intros hgd;ext e';let(_,stop):=it L' H' _ s' c' hgd;refine .inl #[stop,by rw[r'.length];exact hl,λp hp=>?_];exact q L' _ _ ((s1.trans s').trans (.upd hp)) (c'.upd hp) (zX.newLst (s1.trans s') c c' hp r')
    .ext e'
  .ext hf
 .ext hf
section
variable{X:Cx}{scope:Y0}{elt t1 i1 t2 i2:Expr}{f1 f2:Yi}{pos:Pos}
structure QParts2(X:Cx)(scope:Y0)(t1:Expr)(f1:Yi)(t2 i2:Expr)(f2:Yi)(elt:Expr)(g:TG)(tc:FT)(fi2:FI)(g2:TG)(tc2:FT)(te:FE):Prop where
 g:∀zB cl s H fp,PG (zK X zB scope cl s H fp) t1 g
 c:∀zB cl s H fp,QIfs (zK X zB scope cl s H fp) f1 tc
 w2:∀zB cl s H fp,QI (zK X zB scope cl s H fp) t2 i2 fi2
 g2:∀zB cl s H fp,PG (zK X zB scope cl s H fp) t2 g2
 c2:∀zB cl s H fp,QIfs (zK X zB scope cl s H fp) f2 tc2
 e:∀zB cl s H fp,QE (zK X zB scope cl s H fp) elt te
 s2:∀zB cl s H fp x,foldedSetIterable i2 (zK X zB scope cl s H fp).env x=pure x
def Q4{own own2:Yj}{fi fi2:FI}{g g2:TG}{fg fg2:FG}{tc tc2:FT}{te:FE}(hsub:∀i∈own2,i∈own)(hg:Cf own g fg)(hg2:Cf own2 g2 fg2)(C:CompIn X scope own)(hcalm:X.calm=true)(hi:QI X t1 i1 fi)(p:QParts2 X scope t1 f1 t2 i2 f2 elt g tc fi2 g2 tc2 te)(hs:∀x,foldedSetIterable i1 X.env x=pure x:=by intro _;rfl):
  QE X (Bt elt t1 i1 f1 t2 i2 f2 scope pos) (EE own own2 fi fg tc fi2 fg2 tc2 te) :=
 .mk <| PE.imp (mS hsub C hcalm hi.un ⟨p.g,λzB cl s H fp=>(p.c zB cl s H fp).un,λzB cl s H fp=>(p.w2 zB cl s H fp).un,p.g2,λzB cl s H fp=>(p.c2 zB cl s H fp).un,λzB cl s H fp=>(BL (p.e zB cl s H fp)).un,p.s2⟩ hs) λ_ _ _ h=>VU hg hg2 h
end
end L3
namespace L2
def pK(hN:X.N.Nodup)(hi':X.N[i]?=some x)(hx:Loc X.env.scope x)(hfn:X.fn x=true\/X.env.scope.names.lookup x=some .local)
  (hsw:swapsWith (.DictComp kx vx [#[tg,iter,ifs,0]] scope pos) (some (.Name x pos')) pos''.line X.env=pure true)
  (hu:X.A.units+1<cLine) (C:CompIn X scope own) (hcalm:X.calm=true) (hi:PI X tg iter wi) (p:CompParts X scope tg ifs kx g tc tk) (p2:∀zB cl s H fp,PE (zK X zB scope cl s H fp) vx tv) (hs:∀x,foldedSetIterable iter X.env x=pure x:=by intro _;rfl):
  PS X (.Assign [.Name x pos'] (.DictComp kx vx [#[tg,iter,ifs,0]] scope pos) pos'') (IY (Ni isT own wi g tc tk tv) (CY i)):=by
 intro zB s Y H D I h;let(cl,hcl,c1,c2):=C.sc.closure I;rw[exec_Assign_Name_used _ _ _ _ hsw];refine AA (CA (AA ?_))
 refine AA (AQ (HY rfl hs hcl C.sc.kind C.sc.names
  (thn (hi zB s Y H _ I h) λv s1 h1=>thn h1 λitv s2 h2=>?_)) (λ_ s' hq=>AD (AD hq)) λ_ _ e=>e)
 let(it,fp,tn,J,H2,e,I2,T,st2,f2,hD):=h2;subst e;let(W,(m0,w0),turn):=hD ⇑s2 (I2.hok.fresh (AF _))
 refine Qv hu C hcalm I2 T st2 f2 c1 c2 (p.g _ _ _ _ _) (p.c _ _ _ _ _) (p.e _ _ _ _ _) (p2 _ _ _ _ _)
  w0 turn ?_
 intro σc H' s' Ic qq;let(m,hn,_):=Ic.loc;let J':=UZ I2 f2 Ic (.refl ..);let(oC,es,ep,hoC,hdC,r1,r2):=id hn;let nC:H' (⇑s2+1)=none:=Ic.free;let K':Inv X (zB++[(⇑s2+1,oC)]) Y H' s':=J'.pins_of λq hq=>by
  rcases Ae.mp hq with z|z
  .exact J'.pin q (Ak _ z)
  .have e:q=(⇑s2+1,oC):=by simpa using z
   subst e;refine#[hoC,nC,Cr (C5 I2.lt),I2.nofs (Cw _),λv z=>?_];let z':oC.data=.cell v:=z;rw[hdC]at z';ext z'
 refine thn (OB hN hi' hx hfn _ s' Y _ (.ref ⇑s2) (.ref ⇑s2) _ K' rfl qq) λ_ s'' ⟨Y'',H'',I'',q''⟩=>?_;let(eC,_):=I''.pin (⇑s2+1,oC) (by simp);refine#[m,#[oC,es,ep,eC,hdC,r1,r2],λh' hs'=>#[Y'',H'',?_,q'']];let I3:Inv X zB Y'' H'' s'':=I''.unpinned;let(_,nC'',neC,_,_):=I''.pin (⇑s2+1,oC) (by simp);refine I3.turned (λb o hb e=>hs'.extBut b o hb e) nC'' neC (.inr (Ab I2.sz (Cw _))) (λx c e z=>?_) (λq hq z=>?_)
 .obtain⟨v,o,ho,hd⟩:=I3.cell x c e;rw[z,eC]at ho;ext ho;rw[hdC]at hd;ext hd
 .obtain⟨e,_⟩:=I2.pin q hq;calc AZ (C5 (AH e)) z
end L2
namespace L3
open L2
section
variable{isT:Bool}
def b7(hN:X.N.Nodup)(hi':X.N[i]?=some x)(hx:Loc X.env.scope x)(hfn:X.fn x=true\/X.env.scope.names.lookup x=some .local)
  (hsw:swapsWith (.DictComp kx vx [#[tg,iter,ifs,0]] scope pos) (some (.Name x pos')) pos''.line X.env=pure true)
  (hu:X.A.units+1<cLine) (hg:Cf own g fg) (C:CompIn X scope own) (hcalm:X.calm=true) (hi:QI X tg iter fi) (p:QParts X scope tg ifs kx g tc tk) (p2:∀zB cl s H fp,QE (zK X zB scope cl s H fp) vx tv) (hs:∀x,foldedSetIterable iter X.env x=pure x:=by intro _;rfl):
  QS X (.Assign [.Name x pos'] (.DictComp kx vx [#[tg,iter,ifs,0]] scope pos) pos'') (zw i (EG isT own fi fg tc tk tv)) :=
 .mk <| PS.imp (pK hN hi' hx hfn hsw hu C hcalm hi.un p.parts (λ_ _ _ _ _=>(BL (p2 _ _ _ _ _)).un) hs) λ_ _ _ z=>MR (λ_ _ _ z=>QG hg z) z
end
end L3
namespace L2
def gH(hu:X.A.units+1<cLine)(hk:PE X k tk)(hv:PE X v tv):
  PE X (.Dict [some k] [v] pos) (λY H Q=>∀p,H p=none->tk Y (upd H p (.dT [])) λx H1=>tv Y H1 λy H2=>∃H3,C4 H2 p x y H3/\Q (.ref p) H3):=by
 intro zB s Y H Q I q;let hn:=I.hok.fresh (AF ⇑s);let I1:=I.laid (t':=s.toks) (λ_ _ q=>AJ _ q) (AF _) (Ti s.heap I.big);rw[arm_eval_Dict,zip_pairTrees [some k] [v] X.env pos rfl rfl,dictDisplay_pairs _ (by simp[pairTrees]) (by simp[pairTrees])];calc AA (CA (AA ?_));erw[subDict];calc AA (wpAny_alloc ?_);calc AA (Bu ?_);rw[AB (by simp[pairTrees])];refine AA (thn (bA hk hv mP zB _ Y _ (λps H2=>match ps with | [(x,y)]=>∃H3,C4 H2 ⇑s x y H3/\Q (.ref ⇑s) H3|_=>False) I1 (q _ hn)) λvs s1 ⟨ps,H2,I2,rel,hq⟩=>?_);cases rel with
 |nil=>calc hq.elim
 | @cons a b as bs hab t=>
  cases t with
  |cons _ _=>calc hq.elim
  |nil=>
   let(x,y):=a;let(H3,hp,q3):=hq;let(u,r):=b;calc Bu ?_;rw[List.forIn_cons];calc AA (AA ?_);refine AA (RY hu I2 hp hab.1 hab.2 λs' I' hs=>AD ?_);show wpAny _ _ (forIn [] PUnit.unit _) _ _ s';rw[List.forIn_nil];calc AD (AD (AD (AD #[.ref ⇑s,H3,I',rfl,q3])))
end L2
namespace L3
open L2
def HI(fk fv:FE):FE:=λY M=>match toD fk Y (M++[.dicT []])with
 |some (k,M1)=>match toD fv Y M1 with
  |some (v,M2)=>match Ee M2 M.length k v with
   |some M3=>some (.dat (.ref M.length),M3)
   |none=>none
  |none=>none
 |none=>none
def Zq(hu:X.A.units+1<cLine)(h1:QE X a fk)(h2:QE X b fv):QE X (.Dict [some a] [b] pos) (HI fk fv):=.mk <| PE.imp (gH hu (BL h1).un (BL h2).un) λτ H Q ⟨L,Y,M,d,M',c,rs,hf,q⟩ p hp=>by
 erw[HI]at hf;cbv at hf
 .intros k M1 e1;cbv at hf
  .intros v M2 e2;cbv at hf
   .intros M3 e3;ext hf;let(c0,s0):=c.pushO (m:=.dicT []) hp #[[],zk,rfl];refine#[L++[p],Y,_,_,_,c0,rs.stp s0,e1,λL1 H1 x st1 c1 r1=>#[L1,Y,M1,_,_,c1,(rs.stp s0).stp st1,e2,λL2 H2 y st2 c2 r2=>?_]];let st:=(s0.trans st1).trans st2;let lp:L2[M.length]?=some p:=by
     let(N,hN):=(st1.trans st2).pre;rw[hN,<-c.len];simp
    let(H3,hd,c3,s3):=Mo c2 lp (r1.stp st2) r2 e3;calc#[H3,hd,q _ _ _ (st.trans s3) c3 ?_];erw[zX,Rep];exact#[p,rfl,lp]
   .ext hf
  .ext hf
 .ext hf
open SeqAt
structure Df(K:Yb)(mg:Yh)(x:Str)(st:Stmt)(ps:Yk) where
 f:Addr
 fd:FuncData
 F:Fun K x x st f fd
 b:Eo K fd ps []
 m:mg x=some (.ref f)
structure Dg(K:Yb)(x:Str)(st:Stmt) where
 f:Addr
 {od an:Option Addr}
 {sl:Array (Option Value)}
 {oc kV dc pm cd ct:Yu}
 a:PySem.W.nsIn K mainGlobals x=some (some (.ref f))
 l:K.lookup f=some #[oc,od,.func (PySem.W.fnOf x x (GN st) (Ec st) (zI st) .none kV dc pm an cd ct),sl]
 c:PySem.W.codeIn K cd x=true
 k:PySem.W.keepIn K (.ref f)=true
abbrev Dg.df{K:Yb}{x:Str}{st:Stmt}{ps:Yk}{h:Heap}{mg:Yh}(g:Dg K x st)(X:K.In h)(G:h.Ns mainGlobals mg)
  (hb:∀(kV doc pm:Yu)(an:Option Addr)(cdv ct:Yu)(us:Yf),us.length=ps.length->bindArgs (PySem.W.fnOf x x (GN st) (Ec st) (zI st) .none kV doc pm an cdv ct) #[us,[]]=pure (ps.zip us)):Df K mg x st ps :=
 #[g.f,_,Pn g.l g.c g.k,(Pn g.l g.c g.k).binds hb,PySem.W.mg_of X G g.a]
abbrev Od(P:Ym)(w:Yo)(base:Heap)(k:Nat){K:Yb}{mg:Yh}{x:Str}{st:Stmt}{ps:Yk}(d:Df K mg x st ps)(m:FF):Prop:=FnOk P w K mg base CX0 k d.f d.fd ps (spF K ps.length m)
abbrev Zn(K:Yb)(x:Str):Prop:=PySem.W.nsIn K mainGlobals x=some none
abbrev Ki(K:Yb)(t T:String)(b:Bool):Prop:=PySem.W.kitOne K (.type t) (.type T)=some b
theorem qSl{P:List Value->Prop}{n:Nat}(h:∀a us,us.length=n->P (a::us)):∀us:List Value,us.length=n+1->P us
 |a::us,e=>h a us (Nat.succ.inj e)
def C8{P:List Value->Prop}(h:∀a,P [a]):∀us:List Value,us.length=1->P us:=qSl λa us z=>List.length_eq_zero_iff.mp z▸h a
def EZ{P:List Value->Prop}(h:∀a b,P [a,b]):∀us:List Value,us.length=2->P us:=qSl λa=>qSl λb us z=>List.length_eq_zero_iff.mp z▸h a b
def Ds{P:List Value->Prop}(h:∀a b c,P [a,b,c]):∀us:List Value,us.length=3->P us:=qSl λa=>qSl λb=>qSl λc us z=>List.length_eq_zero_iff.mp z▸h a b c
def JS{P:List Value->Prop}(h:∀a b c d,P [a,b,c,d]):∀us:List Value,us.length=4->P us:=qSl λa=>qSl λb=>qSl λc=>qSl λd us z=>List.length_eq_zero_iff.mp z▸h a b c d
def lT{P:List Value->Prop}(h:∀a b c d e,P [a,b,c,d,e]):∀us:List Value,us.length=5->P us:=qSl λa=>qSl λb=>qSl λc=>qSl λd=>qSl λe us z=>List.length_eq_zero_iff.mp z▸h a b c d e
section
variable{st:Stmt}
def pJ{d:Df X.K X.mg x st ps}(F:FnOk X.prog X.w X.K X.mg X.base CX0 k d.f d.fd ps (spF X.K (e::es).length g))(hr:Room k X.A)(hg:Gl X x)
  (ha:QA X (e::es) fa) (hl:∀Y M ds M1,fa Y M=some (ds,M1)->ds.length=(e::es).length) (hdb:(x==("__debug__" : Str))=false) (he:starEach (e::es) X.env=(false,eval e X.env)::starEach es X.env) (hpl:(backTo pos (starEach es X.env)).any (·.1)=false):
  QE X (.Call (.Name x p) (e::es) [] pos) (zP g fa):=Xc F hr hg d.m d.F.kp d.b ha hl hdb he hpl
def bF(hN:X.N.Nodup)(hi:X.N[i]?=some x)(h:QE X e f)(hx:Loc X.env.scope x:=by first|exact Or.inl rfl|exact Or.inr rfl)(hs:swapsWith e (some (.Name x pos')) pos.line X.env=pure false:=by rfl)
  (hf:X.fn x=true\/X.env.scope.names.lookup x=some .local:=by first|exact .inl rfl|exact .inr rfl|assumption):QS X (.Assign [.Name x pos'] e pos) (zw i f):=bB hN hi hx h hs hf
def m4(hN:X.N.Nodup)(hi:X.N[i]?=some x)(hx:Loc X.env.scope x:=by first|exact Or.inl rfl|calc Or.inr rfl)(hf:X.fn x=true\/X.env.scope.names.lookup x=some .local:=by first|exact .inl rfl|exact .inr rfl|assumption):PG X (.Name x pos) (CY i):=OB hN hi hx hf
end
def Mt(hv:s.heap.IsItemsView v d)(ho:s.heap.get? d=some o)(hdat:o.data=.dict es ep)
  (hQ:Q (.ref ⇑s) {s with heap:=s.heap.push {cls:=.type "dict_itemiterator",data:=.fields ([.none,.bool false,.ref d,.int 0 0,.int es.size 0,.int ep 0,.none,.none].toArray) } }):wpAny (model prog w) A (pyIter (.ref v)) Q E s:=by
 let(q,hq,_,hd):=id hv;calc wpAny_pyIter_slot hv.typeIs F.slot_dict_items_iter (BQ F.slot_dict_items_iter hv.typeIs F.entry_dict_items_iter ?_ (F.args_dict_items_iter_1 _));unfold Builtin.«dict_items.__iter__»;calc AA (AD (AA ?_));erw[Builtin.Dict_items.dictOf];calc AA (Bi hq hd rfl (AD (AA ?_)));erw[Builtin.Dict_items.newIterator];calc AA (wpAny_dictEntries ho hdat (AA (wpAny_dictEpoch ho hdat ?_)));simp only[show Builtin.Dict_items.ownsTuple "dict_itemiterator" = true by decide,if_true];calc BH (AD #[_,rfl,"dict_itemiterator",_,#[_,AS _ rfl,rfl],F.slot_dict_itemiterator_next.lookup,?_]) (by simp only[sizeOk,Builtin.Dict_items.ownedTupleFields,AX,AW,Bw,List.length_nil,sizeLine_eq];omega);simpa [rawInt,Builtin.Dict_items.ownedTupleFields]using hQ
def Mr(hh:A.handled=none)(hit:IsItemIter s.heap it d i es.size ep ok ov)(hod:s.heap.get? d=some o)(hdd:o.data=.dict es ep)(hge:es.size<=i)
  (hQ:∀h',Heap.ExtBut it s.heap h'->Q none {s with heap:=h' }):wpAny (model prog w) A (pyNext (.ref it)) Q E s:=by
 let hT:s.TypeIs (.ref it) "dict_itemiterator" := #[_,hit,rfl];erw[pyNext];calc AA (DS (CP hT F.slot_dict_itemiterator_next (BQ F.slot_dict_itemiterator_next hT F.entry_dict_itemiterator_next ?_ (F.args_dict_itemiterator_next_1 _))));calc AA (AD (AA (AA ?_)));first|refine AA (wpAny_typeNameOfWhole_itemiter hT (AD ?_))|refine AA (wpAny_typeNameOf_itemiter hT (AD ?_))
 calc AA (wpAny_fieldsOf hit rfl ?_);simp only[show Builtin.Dict_items.ownsTuple "dict_itemiterator" = true by decide,if_true];show wpAny _ _ (if(Value.ref d==Value.none)=true then _ else _) _ _ s;rw[AE (show¬ ((Value.ref d==Value.none)=true)from Ax)];calc AA (AD (AA (wpAny_dictEntries hod hdd ?_)));rw[AE (by simp)];calc AA (AD (AA (wpAny_dictEpoch hod hdd ?_)));rw[AE (by simp)];calc AD ?_;simp only[show¬ ((i:Int)<0)from by omega,if_false,FU,Array.getElem?_eq_none hge];calc AA ?_;first|refine AA (wpAny_typeNameOfWhole_itemiter hT (AD ?_))|refine AA (wpAny_typeNameOf_itemiter hT (AD ?_))
 show wpAny _ _ (setField (.ref it) 2 .none >>= _) _ _ s;calc AA (Dt hit rfl (by simp) ?_);calc AA ?_;simp only[newExc,newTuple];calc AA (BH ?_ (by size_fits));calc AA (wpAny_of_eq (by first|rfl|(simp only[firstArgMember];rfl)) ?_);calc BH ?_ (by size_fits);simp only[raiseNew];calc AA (wpAny_handled ?_);rw[show A.in1.handled=none from hh];calc AA (AD (wpAny_throw ?_));calc AA (wpAny_isInstance #[_,AS _ rfl,rfl] isSubtype_stop ?_);calc AD (hQ _ (((DL ..).extBut.push _).push _))
def dH(hit:IsItemIter s.heap it d i es.size ep ok ov)(hod:s.heap.get? d=some o)(hdd:o.data=.dict es ep)(hx:es[i]?=some e)
  (hQ:∀h',IsItemIterOut h' it d (i+1) es.size ep e.key e.val ⇑s->h'.get? ⇑s=some {cls:=.type "tuple",data:=.seq ([e.key,e.val].toArray) }->(∀b o,b≠it->s.heap.get? b=some o->h'.get? b=some o)->Q (some (.ref ⇑s)) {s with heap:=h' }):
  wpAny (model prog w) A (pyNext (.ref it)) Q E s:=by
 let(hp,g,dr,tk,os):=s;let hT:Shared.TypeIs ⟨hp,g,dr,tk,os⟩ (.ref it) "dict_itemiterator" := #[_,hit,rfl];let(hlt,hxe):=Array.getElem?_eq_some_iff.mp hx;erw[pyNext];calc AA (DS (CP hT F.slot_dict_itemiterator_next (BQ F.slot_dict_itemiterator_next hT F.entry_dict_itemiterator_next ?_ (F.args_dict_itemiterator_next_1 _))));calc AA (AD (AA (AA ?_)));first|refine AA (wpAny_typeNameOfWhole_itemiter hT (AD ?_))|refine AA (wpAny_typeNameOf_itemiter hT (AD ?_))
 calc AA (wpAny_fieldsOf hit rfl ?_);simp only[show Builtin.Dict_items.ownsTuple "dict_itemiterator" = true by decide,if_true];show wpAny _ _ (if(Value.ref d==Value.none)=true then _ else _) _ _ _;rw[AE (show¬ ((Value.ref d==Value.none)=true)from Ax)];calc AA (AD (AA (wpAny_dictEntries hod hdd ?_)));rw[AE (by simp)];calc AA (AD (AA (wpAny_dictEpoch hod hdd ?_)));rw[AE (by simp)];calc AD ?_;simp only[show¬ ((i:Int)<0)from by omega,if_false,FU,Cq hlt,hxe];calc AA ?_;first|refine AA (wpAny_typeNameOfWhole_itemiter hT (AD ?_))|refine AA (wpAny_typeNameOf_itemiter hT (AD ?_))
 refine AA (wpAny_isOneOf_itemiter hT ?_);show wpAny _ _ (setField (.ref it) 3 (rawInt ((i:Int)+1)) >>= _) _ _ #[hp,g,dr,tk,os];refine AA (D5 hit (by simp) λh1 he1 hs1=>?_);replace hs1:Heap.SameBut it hp h1:=hs1;replace he1:IsItemIter h1 it d (i+1) es.size ep ok ov:=by
  let q:((i+1:Nat):Int)=(i:Int)+1:=()
  erw[IsItemIter];rw[q];simpa [rawInt]using he1
 let hT1:Shared.TypeIs ⟨h1,g,dr,tk,os⟩ (.ref it) "dict_itemiterator" := #[_,he1,rfl];calc AA (Bu (AA (wpAny_isOneOf_itemiter hT1 (AA (wpAny_isOneOf_itemiter hT1 ?_)))));erw[Builtin.Dict_items.pairFromOwner];calc AA (wpAny_newTuple ?_);let he2:IsItemIter (h1.push {cls:=.type "tuple",data:=.seq ([e.key,e.val].toArray) }) it d (i+1) es.size ep ok ov:=AJ _ he1;generalize hh2:h1.push {cls:=.type "tuple",data:=.seq ([e.key,e.val].toArray) }=h2 at he2;let z1:h1.objs.size=hp.objs.size:=hs1.1;let hil:it<hp.objs.size:=AH hit;let t2:h2.get? hp.objs.size=some {cls:=.type "tuple",data:=.seq ([e.key,e.val].toArray) }:=by rw[<-hh2,<-z1];exact AS _ rfl
 let k2:∀b o,b≠it->hp.get? b=some o->h2.get? b=some o:=λb o hb q=>by rw[<-hh2];exact AJ _ (hs1.extBut b o hb q)
 rw[z1];calc AA ?_;erw[Builtin.Dict_items.ownedTupleIsFree];calc AA (Bi he2 rfl rfl (AD ?_));simp only[if_true];calc AA (Bi he2 rfl rfl (AA (Bi he2 rfl rfl ?_)));refine AA (D5 he2 (by simp) λh3 he3 hs3=>?_);replace he3:IsItemIter h3 it d (i+1) es.size ep e.key ov:=he3;replace hs3:Heap.SameBut it h2 h3:=hs3;refine AA (D5 he3 (by simp) λh4 he4 hs4=>?_);replace he4:IsItemIter h4 it d (i+1) es.size ep e.key e.val:=he4;replace hs4:Heap.SameBut it h3 h4:=hs4;refine AA (D5 he4 (by simp) λh5 he5 hs5=>?_);replace he5:IsItemIterOut h5 it d (i+1) es.size ep e.key e.val hp.objs.size:=he5;replace hs5:Heap.SameBut it h4 h5:=hs5;refine AA (D5 he5 (by simp) λh6 he6 hs6=>?_);replace he6:IsItemIterOut h6 it d (i+1) es.size ep e.key e.val hp.objs.size:=he6;replace hs6:Heap.SameBut it h5 h6:=hs6;let up:∀b o,b≠it->h2.get? b=some o->h6.get? b=some o:=λb o hb q=>hs6.extBut b o hb (hs5.extBut b o hb (hs4.extBut b o hb (hs3.extBut b o hb q)));calc AA (wpAny_letGo (AD (AD #[_,rfl,AD (hQ h6 he6 (up _ _ (Cr hil) t2) λb o hb q=>up b o hb (k2 b o hb q))])))
def OJ(d:Yt)(hd:(d==sysModules)=false):
  MeetsIn prog w (Builtin.«dict.items» #[[.ref d],[]]) (λ_ R s=>s.TypeIs (.ref d) "dict" /\ R (.ok (.ret (.ref ⇑s))) {s with heap:=s.heap.push {cls:=.type "dict_items",data:=.fields #[.ref d] } }) :=
 .of_wp λA R s ⟨hT,h⟩=>by
  unfold Builtin.«dict.items»;calc AA ?_;erw[Builtin.Dict.noArgs];calc AA (wpAny_notOrdered_dict hT ?_);calc AD ?_;erw[Builtin.Dict.showsAll];rw[AE (by rw[hd];calc Ax)];calc AA (AD (AA (BH (AD #[_,rfl,h]))))
def aR:entryFor table "dict_itemiterator.__iter__" = some Builtin.«dict_keyiterator.__iter__»:=entryFor_alias (id' := "dict_keyiterator.__iter__") (by kernel_rfl) rfl (by decide+kernel) (by kernel_rfl)
def YR(he:IsItemIter s.heap it d i n ep ok ov)(h:Q (.ref it) s):wpAny (model prog w) A (pyIter (.ref it)) Q E s:=by
 let hT:s.TypeIs (.ref it) "dict_itemiterator" := #[_,he,rfl];calc wpAny_pyIter_slot hT F.slot_dict_itemiterator_iter (BQ F.slot_dict_itemiterator_iter hT aR ?_ (F.args_dict_itemiterator_iter_1 _));calc AD #[_,rfl,"dict_itemiterator",_,hT,F.slot_dict_itemiterator_next.lookup,h]
def HX(d:Yt)(o:Obj)(kvs:List (List Key×V)):It :=
 #[λi H=>H d=some (.frz o (.dT kvs))/\i<kvs.length,
  λi H v H'=>∃T b k x,kvs[i]?=some (k,x)/\v=.ref T/\H T=none/\H b=some (.tup (k.map kV))/\H'=upd H T (.tup [.ref b,x]),
  λi H=>H d=some (.frz o (.dT kvs))/\kvs.length<=i]
def RA(I:Inv X zB Y H s)(hd:o.data=.dict es ep)(e:H d=some (.frz o (.dT kvs))):
  s.heap.get? d=some o/\∃xs,KT H kvs xs/\es.toList=xs.map (entryOfKey (tupleKind (BY X.prog X.w)))/\kvs.length=es.size:=by
 let(h0,_,_,xs,r,o',es',ep',h1,_,h3,h4,_):=(show Ah X.prog X.w H s.heap d (.frz o (.dT kvs))from I.hok d _ e);rw[h0]at h1;ext h1;rw[hd]at h3;ext h3;calc#[h0,xs,r,h4,?_];let h5:es.toList.length=xs.length:=by rw[h4,AG]
 rw[Paired.length r,<-h5,BU]
def Qk:∀{kvs:List (List Key×V)}{xs:List (List Key×Addr×Value)}{i:Nat}{k:List Key}{x:V},KT H kvs xs->kvs[i]?=some (k,x)->∃b u,xs[i]?=some (k,b,u)/\H b=some (.tup (k.map kV))/\zh x u:=by
 intro kvs xs i k x r;induction r generalizing i with
 |nil=>intro e;ext e
 | @cons p q ps qs hq t ih=>
  intro e;cases i with
  |zero=>
   ext e;let(q1,q2,q3):=q;calc#[q2,q3,by rw[show k=q1 from hq.1];rfl,hq.2.1,hq.2.2]
  |succ j=>calc ih e
def N9{P:Ym}{w:Yo}{K:Yb}{tes:Yi}{ek:Nat}{ep:Pos}{it d:Yt}{o:Obj}{kvs:List (List Key×V)}{es:Array DictEntry}{en:Nat}(hd:o.data=.dict es en):
  Turn P w K (.Tuple tes ek ep) (HX d o kvs) [it] it (λi h=>∃ok ov,IsItemIter h it d i es.size en ok ov) where
 mem:=Ac.mpr rfl;obj:=λi h ⟨ok,ov,he⟩ c hc=>by
  cases Ac.mp hc;exact#[_,he,λv m=>by ext m]
 keep:=λi h h' ⟨ok,ov,he⟩ k=>#[ok,ov,k it (Ac.mpr rfl) _ he];item:=by
  intro X hP hw hK hc i zB s Y H E I hf Z hg;subst hP hw hK;let(ok,ov,he):=Z;let(hg,hi):=hg;let(h0,xs,r,h4,hl):=RA I hd hg;rcases hkx:kvs[i]with⟨k,x⟩;let hk:kvs[i]?=some (k,x):=by rw[AO hi,hkx]
  let(b,u,h5,h6,h7):=Qk r hk;let hx:es[i]?=some (entryOfKey (tupleKind (BY X.prog X.w)) (k,b,u)):=by
   rw[<-F7,h4,Au,h5];rfl
  let ilt:it<⇑s:=AH he;refine dH he h0 hd hx λh' ho hT kp=>#[_,rfl,wpAny_letOwnedTupleGo_items ho λh2 he2 e2=>?_];let kk:∀c q,c∉[it]->s.heap.get? c=some q->h2.get? c=some q:=λc q n z=>e2.extBut _ _ (λy=>n (Ac.mpr y)) (kp c q (λy=>n (Ac.mpr y)) z);let NT:=e2.extBut _ _ (Cr ilt) hT;let hfr:H ⇑s=none:=I.hok.fresh (AF _);refine#[.ref ⇑s,upd H ⇑s (.tup [.ref b,x]),MB (s:=s) I hf kk (AF _) ?_,rfl,#[_,b,k,x,hk,rfl,hfr,h6,rfl],#[_,_,he2],λc hm=>?_]
  .exact#[by show 2<=sizeLine;decide,[.ref b,u],.cons rfl (.cons h7 .nil),#[_,NT,rfl,#[_,rfl],rfl]]
  .cases Ac.mp hm;rw[zT (AZ ilt)];exact(hf it hm).1
 done:=by
  intro X hP hw hK hc i zB s Y H E I hf Z hg;subst hP hw hK;let(ok,ov,he):=Z;let(hg,hi):=hg;let(h0,xs,r,h4,hl):=RA I hd hg;exact Mr (I.ok.hd hc) he h0 hd () λh' x=>#[rfl,MP I hf λc q n z=>x c q (λy=>n (Ac.mpr y)) z]
 self:=λA i s Q E Z h=>by
  let(ok,ov,he):=Z;calc YR he h
def SY(I:Inv X zB Y H s)(ed:H d=some (.dT kvs)):∃o es en,s.heap.get? d=some o/\o.data=.dict es en/\Inv X zB Y (upd H d (.frz o (.dT kvs))) s:=by
 let(z1,z2,xs,r,o,es',en,h1,h2,h3,h4,h5):=(show Ah X.prog X.w H s.heap d (.dT kvs)from I.hok d _ ed);refine#[o,es',en,h1,h3,JQ I (by rw[ed];calc True.intro) (Heap.SameBut.refl _ _) #[o,h1] #[h1,z1,z2,xs,KT.keeps r λc ys ec=>?_,o,es',en,h1,h2,h3,h4,h5]];rw[zT (DT ec ed (λz=>nomatch z))];calc ec
def V7{td:TE}(ho:PE X e td)(hbase:attributeBase e "items" X.env (eval e X.env)=eval e X.env:=by rfl)(hline:(apos.endLine==cpos.line)=true:=by rfl):
  PI X (.Tuple es ek ep) (.Call (.Attribute e "items" apos) [] [] cpos) (λY H R=>td Y H λx H1=>∃d kvs,x=.ref d/\H1 d=some (.dT kvs)/\∀o,R (HX d o kvs) (upd H1 d (.frz o (.dT kvs)))):=by
 intro zB s Y H R I h;refine wpAny_Call_method0_late hbase hline (thn (ho zB s Y H _ I h) λv s1 ⟨x,H1,I1,r1,d,kvs,ex,ed,q⟩=>?_);subst ex;ext r1;let(t1,t2,t3):=JZ I1 (.inr #[kvs,.inl ed]);calc#["dict","dict.items",PySem.F.plainAttrs_dict,PySem.F.slot_dict_items,PySem.F.type_dict_items,t1,t2,Hu rfl (PySem.evalArgs_none ?_)];calc call_meetsIn PySem.F.slot_dict_items t1 PySem.F.entry_dict_items (PySem.F.args_dict_items_1 _) (OJ d t3) #[t1,?_];let(o,es',en,h1,h3,I0):=SY I1 ed;calc Mt #[_,AS _ rfl,rfl,rfl] (AJ _ h1) h3 ?_;let ge:⇑s1<=(s1.heap.push {cls:=.type "dict_items",data:=.fields #[.ref d] }).objs.size:=by rw[Bo];exact Cw _
 refine#[_,[_],_,_,_,rfl,I0.kept λb q z=>AJ _ (AJ _ z),N9 h3,#[_,_,AS _ rfl],λc hc=>?_,q o];cases Ac.mp hc;calc I0.fpOk ge (I0.hok.fresh ge)
def mT(h:CK d=some k):Rep L H d (kV k):=by
 cases d with
 |int i=>ext h;erw[Rep];rfl
 |str x=>ext h;erw[Rep];rfl
 |_=>ext h
theorem PU:∀{ds:List D}{ks:List Key},DO ds=some ks->zH L H ds (ks.map kV)
 |[],ks,h=>by ext h;calc .nil
 |d::ds,ks,h=>by
  erw[DO]at h;cases e1:CK d with
  |none=>rw[e1]at h;ext h
  |some k=>
   cases e2:DO ds with
   |none=>rw[e1,e2]at h;ext h
   |some ks'=>rw[e1,e2]at h;ext h;calc .cons (mT e1) (PU e2)
def Ms(h:tkD d=some k)(e:H b=some (.tup (k.map kV))):Rep L H d (.ref b):=by
 cases d with
 |tup ds=>erw[Rep];calc#[b,_,rfl,e,PU h]
 |_=>ext h
theorem Nj:∀{ps:List (D×D)}{vs:List (List Key×V)}{i:Nat}{p:D×D},AY tkD L H ps vs->ps[i]?=some p->∃k x,vs[i]?=some (k,x)/\tkD p.1=some k/\Rep L H p.2 x
 |[],_,i,p,_,e=>by ext e
 |q::ps,vs,i,p,h,e=>by
  let(k,v,r',rfl,e1,h1,h2):=h;cases i with
  |zero=>ext e;calc#[k,v,rfl,e1,h1]
  |succ j=>calc Nj (i:=j) h2 (by rw[List.getElem?_cons_succ]at e;calc e)
def JH(f:FE):FI:=λY M=>match f Y M with
 |some (.dat (.ref n),M1)=>match M1[n]? with
  |some (.dicT ps)=>some (ps.map λp=>D.tup [p.1,p.2],none,M1.set n (.set []))
  |_=>none
 |_=>none
def Y9(h:QE X e f)(hbase:attributeBase e "items" X.env (eval e X.env)=eval e X.env:=by rfl)(hline:(apos.endLine==cpos.line)=true:=by rfl):
  QI X (.Tuple es ek ep) (.Call (.Attribute e "items" apos) [] [] cpos) (JH f):=.mk <| PI.imp (V7 h.un hbase hline) λτ H R zz=>by
 let(L,Y,M,xs,gd,M',c,rs,hf,q):=zz;erw[JH]at hf;cbv at hf
 .intros n M1 e1;cbv at hf
  .intros ps e2;ext hf;refine#[L,Y,M,_,_,c,rs,e1,λL1 H1 v s1 c1 r1=>?_];erw[zX,Rep]at r1;let(a,rfl,ea):=r1;let(vs,e3,r3):=c1.obj n a _ ea e2;refine#[a,vs,rfl,e3,λo=>?_];let(c2,s2):=c1.put (m:=.set []) ea e3 (λ_ z=>by ext z) (λ_ _ z=>by ext z) λ_=>#[o,_,zk];refine q L1 _ _ (s1.trans s2) c2 λL2 H2 M2 s3 c3 _=>?_;let hz:H2 a=some (.frz o (.dT vs)):=s3.frz _ _ _ zk;let r4:=r3.stp (s2.trans s3);refine#[λi d hd=>?_,hz,by rw[AG,r4.length];calc AF _];rw[Au]at hd;cases hp:ps[i]? with
   |none=>rw[hp]at hd;ext hd
   |some p=>
    rw[hp]at hd;ext hd;let(k,x,hk,ek,rx):=Nj r4 hp;refine#[#[hz,(AI.mp hk).1],λv H3 hy=>?_];let(T,b,k',x',hk',rfl,hT,hb,rfl):=hy;rw[hk]at hk';ext hk';exact#[λa o e=>by rw[zT (zf e hT)];calc e,Rep.newTup hT (.cons (Ms ek hb) (.cons rx .nil))]
  .ext hf
 .ext hf
def Ky(i j k:Nat):FG:=λd Y=>match d with
 |.tup [x,.tup [y,z]]=>some (((Y.set i (some x)).set j (some y)).set k (some z))
 |_=>none
abbrev gN3(K:Yb)(i j k:Nat):TG:=Ib K 2 (Ek (CY i) (Ek (Ib K 2 (Ek (CY j) (Ek (CY k) Jd))) Jd))
def bX{K:Yb}{own:Yj}{i j k:Nat}(hi:i∈own)(hj:j∈own)(hk:k∈own):Cf own (gN3 K i j k) (Ky i j k):=by
 intro L H Y Y' τ τ0 d v Q rs ex r hf q;erw[Ky]at hf;cbv at hf
 .intros x y z;ext hf;erw[Rep]at r;let(a,vs,rfl,e,r):=r;let(v1,v2,rfl,r1,r2):=r.two;erw[Rep]at r2;let(b,ws,rfl,e2,r2):=r2;let(w1,w2,rfl,r3,r4):=r2.two;exact#[a,_,rfl,.of e,rfl,v1,[.ref b],rfl,.ref b,[],rfl,b,_,rfl,.of e2,rfl,w1,[w2],rfl,w2,[],rfl,rfl,rfl,q _ (((rs.set r1).set r3).set r4) (((ex.set hi).set hj).set hk)]
 .ext hf
def qE(hd:(d==sysModules)=false)(hT:s.TypeIs (.ref d) "dict")(ho:s.heap.get? d=some o)(hdat:o.data=.dict es ep)
  (hQ:Q (.ref ⇑s) {s with heap:=s.heap.push {cls:=.type "dict_keyiterator",data:=.fields ([.ref d,.int 0 0,.int es.size 0,.int ep 0].toArray) } }):wpAny (model prog w) A (pyIter (.ref d)) Q E s:=by
 calc wpAny_pyIter_slot hT F.slot_dict_iter (BQ F.slot_dict_iter hT F.entry_dict_iter ?_ (F.args_dict_iter_1 _));unfold Builtin.«dict.__iter__»;calc AA ?_;erw[Builtin.Dict.dictSlotNone];calc AA (wpAny_notOrdered_dict hT ?_);calc AD ?_;show wpAny _ _ (Builtin.Dict.showsAll d >>= _) _ _ s;erw[Builtin.Dict.showsAll];rw[AE (by rw[hd];calc Ax)];calc AA (AD (AA (wpAny_dictEntries ho hdat (AA (wpAny_dictEpoch ho hdat ?_)))));calc AA (BH (AD #[_,rfl,"dict_keyiterator",_,#[_,AS _ rfl,rfl],F.slot_dict_keyiterator_next.lookup,?_]));simpa [rawInt]using hQ
def jO(hit:s.heap.IsKeyIter it d i es.size ep)(hod:s.heap.get? d=some o)(hdd:o.data=.dict es ep)(hx:es[i]?=some e)
  (hQ:∀h',h'.IsKeyIter it d (i+1) es.size ep->Heap.SameBut it s.heap h'->Q (some e.key) {s with heap:=h' }):wpAny (model prog w) A (pyNext (.ref it)) Q E s:=by
 let(q,ho,hc,hd):=id hit;let(hlt,hxe):=Array.getElem?_eq_some_iff.mp hx;erw[pyNext];calc AA (DS (CP hit.typeIs F.slot_dict_keyiterator_next (BQ F.slot_dict_keyiterator_next hit.typeIs F.entry_dict_keyiterator_next ?_ (F.args_dict_keyiterator_next_1 _))));calc AA (AD (AA (AA ?_)));first|refine AA (wpAny_typeNameOfWhole_keyiter hit.typeIs (AD ?_))|refine AA (wpAny_typeNameOf_keyiter hit.typeIs (AD ?_))
 calc AA (wpAny_fieldsOf ho hd ?_);simp only[show Builtin.Dict_items.ownsTuple "dict_keyiterator" = false by decide,Cv,if_false];show wpAny _ _ (if(Value.ref d==Value.none)=true then _ else _) _ _ s;rw[AE (show¬ ((Value.ref d==Value.none)=true)from Ax)];calc AA (AD (AA (wpAny_dictEntries hod hdd ?_)));rw[AE (by simp)];calc AA (AD (AA (wpAny_dictEpoch hod hdd ?_)));rw[AE (by simp)];calc AD ?_;simp only[show¬ ((i:Int)<0)from by omega,if_false,FU,Cq hlt,hxe];calc AA ?_;first|refine AA (wpAny_typeNameOfWhole_keyiter hit.typeIs (AD ?_))|refine AA (wpAny_typeNameOf_keyiter hit.typeIs (AD ?_))
 refine AA (wpAny_isOneOf_keyiter hit.typeIs ?_);show wpAny _ _ (setField (.ref it) 1 (rawInt ((i:Int)+1)) >>= _) _ _ s;refine AA (Dt ho hd (by simp) ?_);let hit':(s.heap.update it (Obj.mapFields (·.setIfInBounds 1 (rawInt ((i:Int)+1))))).IsKeyIter it d (i+1) es.size ep :=
  #[_,El _ ho (Obj.isFreed_of_fields (EB hd _)),(Obj.cls_mapFields ..).trans hc,by rw[EB hd];simp[rawInt]]
 calc AA (Bu (AA (wpAny_isOneOf_keyiter hit'.typeIs ?_)));calc AD (AD #[_,rfl,AD (hQ _ hit' (DL ..))])
def sF(hh:A.handled=none)(hit:s.heap.IsKeyIter it d i es.size ep)(hod:s.heap.get? d=some o)(hdd:o.data=.dict es ep)(hge:es.size<=i)
  (hQ:∀h',Heap.ExtBut it s.heap h'->Q none {s with heap:=h' }):wpAny (model prog w) A (pyNext (.ref it)) Q E s:=by
 let(q,ho,hc,hd):=id hit;erw[pyNext];calc AA (DS (CP hit.typeIs F.slot_dict_keyiterator_next (BQ F.slot_dict_keyiterator_next hit.typeIs F.entry_dict_keyiterator_next ?_ (F.args_dict_keyiterator_next_1 _))));calc AA (AD (AA (AA ?_)));first|refine AA (wpAny_typeNameOfWhole_keyiter hit.typeIs (AD ?_))|refine AA (wpAny_typeNameOf_keyiter hit.typeIs (AD ?_))
 calc AA (wpAny_fieldsOf ho hd ?_);simp only[show Builtin.Dict_items.ownsTuple "dict_keyiterator" = false by decide,Cv,if_false];show wpAny _ _ (if(Value.ref d==Value.none)=true then _ else _) _ _ s;rw[AE (show¬ ((Value.ref d==Value.none)=true)from Ax)];calc AA (AD (AA (wpAny_dictEntries hod hdd ?_)));rw[AE (by simp)];calc AA (AD (AA (wpAny_dictEpoch hod hdd ?_)));rw[AE (by simp)];calc AD ?_;simp only[show¬ ((i:Int)<0)from by omega,if_false,FU,Array.getElem?_eq_none hge];calc AA ?_;first|refine AA (wpAny_typeNameOfWhole_keyiter hit.typeIs (AD ?_))|refine AA (wpAny_typeNameOf_keyiter hit.typeIs (AD ?_))
 show wpAny _ _ (setField (.ref it) 0 .none >>= _) _ _ s;calc AA (Dt ho hd (by simp) ?_);calc AA ?_;simp only[newExc,newTuple];calc AA (BH ?_ (by size_fits));calc AA (wpAny_of_eq (by first|rfl|(simp only[firstArgMember];rfl)) ?_);calc BH ?_ (by size_fits);simp only[raiseNew];calc AA (wpAny_handled ?_);rw[show A.in1.handled=none from hh];calc AA (AD (wpAny_throw ?_));calc AA (wpAny_isInstance #[_,AS _ rfl,rfl] isSubtype_stop ?_);calc AD (hQ _ (((DL ..).extBut.push _).push _))
def k5(lo:(d==sysModules)=false)(hc:o.cls=.type "dict")(hdd:o.data=.dict es ep):PySem.W.KdlSrc prog w "dict" d d es.size (λi v=>∃e,es[i]?=some e/\v=e.key) (λh=>h.get? d=some o) where
 type:=λ_ h=>#[o,h,hc];there:=λ_ h=>#[AH h,AH h];keep:=λ_ _ h k=>k d (.inl rfl) o h;notList:=()
 notTuple:=()
 hint:=λ_ _ _ _ h hq=>PySem.W.kdl_hint_dict #[o,h,hc] hq
 iter:=λA s hh h=>#[_,λi h'=>h'.IsKeyIter ⇑s d i es.size ep/\h'.get? d=some o,(λ_ _ hq=>qE lo #[o,h,hc] h hdd hq),#[λb hb=>by simp at hb;simp[hb],
  λ_ _ _ st hk=>#[st.1.at λo e=>hk _ (by simp) o e,hk d (by simp) o st.2],
  λi s2 Q E hi st hQ=>jO (e:=es[i]) st.1 st.2 hdd (by simp[hi]) λh' hit' hs'=>hQ _ h' s2.toks #[es[i],by simp[hi],rfl] #[hit',hs'.extBut _ _ (AZ (AH h)) st.2] λb q hb e=>hs'.extBut b q (λz=>hb (by simp[z])) e,
  λs2 Q E st hQ=>sF hh st.1 st.2 hdd (AF _) λh' he'=>hQ h' s2.toks λb q hb e=>he' b q (λz=>hb (by simp[z])) e,
  λ_ _ _ _ st hQ=>wpAny_pyIter_keyiter st.1 hQ],#[#[_,AS _ rfl,rfl,rfl],AJ _ h]]
theorem So:∀{ys:List V}{us:Yf},ys.length=us.length->(∀(i:Nat) y u,ys[i]?=some y->us[i]?=some u->zh y u)->zd ys us
 |[],[],_,_=> .nil
 |[],_::_,h,_=>by ext h
 |_::_,[],h,_=>by ext h
 |y::ys,u::us,h,q=> .cons (q 0 y u rfl rfl) (So (Nat.succ.inj h) λi y' u' e1 e2=>q (i+1) y' u' (~~~e1) (~~~e2))
def XQ(hd:(d==sysModules)=false):MeetsIn prog w (Builtin.«dict.__len__» #[[.ref d],[]]) (λ_ R s=>∃o es ep,s.heap.get? d=some o/\o.data=.dict es ep/\R (.ok (.ret (.int es.size s.toks))) {s with toks:=s.toks+1}) :=
 .of_wp λA R s ⟨o,es,ep,ho,hdat,h⟩=>by
  show wpAny _ _ (dictSize d >>= _) _ _ s;erw[dictSize];calc AA (AA (wpAny_dictEntries ho hdat (AD ?_)));calc AA (wpAny_pendingCount_other hd (wpAny_ret_mkInt ?_));rw[Nat.add_zero];calc h
end L3
namespace ST
section
variable{prog:Ym}{w:Yo}{A:Yn}{E:Yc}{s:Yl}{κ:SortKind}{vs:Yf}{r:Yr}
def Ez(prog:Ym)(w:Yo)(s:Yl)(κ:SortKind)(vs:Yf)(r:Yr):Prop :=
 ∀(A:Yn)(E:Yc)(x y:Yu)(Q:Bool->Shared->Prop),x∈vs->y∈vs->Q (decide (r x<r y)) s->wpAny (model prog w) A (keyLt' κ x y) Q E s
def Vu(R:Ez prog w s κ vs r){st:SortSt}{x y:Keyed}{Q:Option Bool->SortSt->Prop}(hk:kindOf st=κ)(hx:x.1∈vs)(hy:y.1∈vs)(h:Q (some (decide (r x.1<r y.1))) st):
  wpS (model prog w) A E s (lt' x y) Q st:=by
 rw[lt'_eq];calc wpS_bind (wpS_get ?_);rw[hk];calc wpS_bind (wpS_lift (DS (R _ _ _ _ _ hx hy #[rfl,wpS_pure h])))
def gR(R:Ez prog w s κ vs r){st:SortSt}{i j:Nat}{x y:Keyed}{Q:Option Bool->SortSt->Prop}(hk:kindOf st=κ)(ei:(arrOf st)[i]?=some x)(ej:(arrOf st)[j]?=some y)(hx:x.1∈vs)(hy:y.1∈vs)
  (h:Q (some (decide (r x.1<r y.1))) st):wpS (model prog w) A E s (ltAt' i j) Q st:=by
 rw[ltAt'_eq];calc wpS_bind (wpS_get ?_);show wpS _ _ _ _ (elem' (arrOf st) i >>=λx=>elem' (arrOf st) j >>=λy=>lt' x y) Q st;rw[elem'_eq,elem'_eq,ei,ej];calc wpS_bind (wpS_pure (wpS_bind (wpS_pure (Vu R hk hx hy h))))
def Bk(h:Heap)(v:Value)(xs:List Int):Prop:=∃b o us n,v=.ref b/\h.get? b=some o/\o.cls=.type "tuple" /\ o.data=.seq us n/\IntsAre us.toList xs
def Bk.keep(t:Bk h v xs)(k:∀b o,v=.ref b->h.get? b=some o->h'.get? b=some o):Bk h' v xs:=by
 let(b,o,us,n,rfl,h1,h2,h3,h4):=t;calc#[b,o,us,n,rfl,k b o rfl h1,h2,h3,h4]
def Ai:List Int->List Int->Bool
 |[],[]=>false
 |[],_::_=>true
 |_::_,[]=>false
 |x::xs,y::ys=>if x=y then Ai xs ys else decide (x<y)
def iE(h:Q (decide (a<b)) s):wpAny (model prog w) A (oneLt' false (.int a t) (.int b u)) Q E s:=by
 rw[oneLt'_eq];simp only[Cv,if_false];refine AA (richCompare_gives (typeIs_int s a t) (typeIs_int s b u) F.slot_int_lt F.entry_int_lt (F.args_int_lt_2 _ _) (gives_int_lt a b t u) (λx=>nomatch x) ?_);calc EO h
def WZ(h:Q (decide (a<b)) s):wpAny (model prog w) A (oneLt' c (.int a t) (.int b u)) Q E s:=by
 ext c
 .exact iE h
 .exact oneLt_int h
def Vx(hx:Bk s.heap x xs)(hy:Bk s.heap y ys)(h:Q (Ai xs ys) s):wpAny (model prog w) A (keyLt' (tuples' c) x y) Q E s:=by
 let(a,o1,us,n1,rfl,h1,h2,h3,h4):=hx;let(b,o2,ws,n2,rfl,g1,g2,g3,g4):=hy;calc AA (listItems_at h1 h3 (AA (listItems_at g1 g3 ?_)));refine AA (wpAny_forIn_list _ (λrest c s'=>c=(none,Unit.unit)/\s'=s/\∃us' ws' xs' ys' k,rest=(us'.zip ws').zipIdx k/\IntsAre us' xs'/\IntsAre ws' ys'/\Ai xs ys=Ai xs' ys'/\us.size+ws'.length=ws.size+us'.length) (λc s'=>s'=s/\Q (match c.1 with|some b=>b|none=>decide (us.size<ws.size)) s) ?turn ?fin _ _ #[rfl,rfl,_,_,_,_,0,rfl,h4,g4,rfl,by simp;omega] |>λz=>AQ z ?post λ_ _ e=>e)
 case turn=>
  rintro⟨⟨p,q⟩,i⟩ rest c s' ⟨rfl,rfl,us',ws',xs',ys',k,e,i1,i2,e2,e3⟩;cases i1 with
  |nil=>simp at e
  | @cons n t us1 xs1 i1=>
   cases i2 with
   |nil=>simp at e
   | @cons m u ws1 ys1 i2=>
    simp only[List.zip_cons_cons,List.zipIdx_cons]at e;injection e with ea eb
    ext ea;calc AA (wpAny_eqBool_int ?_);rw[show Ai (n::xs1) (m::ys1)=if n=m then Ai xs1 ys1 else decide (n<m)from rfl]at e2;by_cases hnm:n=m
    .subst hnm;simp only[beq_self_eq_true,Bool.not_true,Cv,if_false];rw[AB rfl]at e2;simp only[Bw]at e3;exact AD #[rfl,rfl,_,_,_,_,_,eb,i1,i2,e2,()]
    .rw[AE hnm]at e2;have:(n==m)=false:=by simpa using hnm
     rw[this];simp only[Bool.not_false,if_true];calc AA ?_;calc WZ (AD #[rfl,?_]);rw[<-e2];exact h
 case fin=>
  rintro c s' ⟨rfl,rfl,us',ws',xs',ys',k,e,i1,i2,e2,e3⟩;refine#[rfl,?_];let key:Ai xs ys=decide (us.size<ws.size):=by
   rw[e2];cases i1 with
   |nil=>
    cases i2 with
    |nil=>simp at e3;simp[Ai,e3]
    |cons m u i2=>simp at e3;simp[Ai];omega
   |cons n t i1=>
    cases i2 with
    |nil=>simp at e3;simp[Ai];omega
    |cons m u i2=>simp at e
  rw[<-key];exact h
 case post=>
  rintro⟨c1,c2⟩ s' ⟨rfl,q⟩;cases c1 with
  |some b=>calc AD q
  |none=>calc AD q
theorem SD:∀ds:List (Int×Tok),IntsAre (ds.map λp=> .int p.1 p.2) (ds.map (·.1))
 |[]=> .nil
 |p::ds=> .cons p.1 p.2 (SD ds)
def Zh(hv:Bk s.heap v (x::xs))(h:∀t,Q (some (.int x t)) s):wpAny (model prog w) A (firstOfTuple' v) Q E s:=by
 let(a,o1,us,n1,rfl,h1,h2,h3,h4):=hv;calc AA (wpAny_typeOf #[o1,h1,h2] ?_);rw[AE ()];calc AA (listItems_at h1 h3 (AD ?_));let⟨us⟩:=us;cases h4 with
 |cons n t i=>calc h t
theorem TN:∀{vs:Yf}{Q:List (Option Value)->Shared->Prop},(∀v∈vs,∃x xs,Bk s.heap v (x::xs))->(∀ds:List (Int×Tok),ds.length=vs.length->Q (ds.map λp=>some (.int p.1 p.2)) s)->wpAny (model prog w) A (vs.mapM firstOfTuple') Q E s
 |[],Q,_,q=>by rw[List.mapM_nil];calc AD (q [] rfl)
 |v::vs,Q,h,q=>by
  rw[List.mapM_cons];let(x,xs,hv):=h v (AR ..);refine AA (Zh hv λt=>AA (TN (λu hu=>h u (Aa _ hu)) λds hl=>AD ?_));calc q ((x,t)::ds) (by simp[hl])
def cV(h:∀u∈v::vs,∃x xs,Bk s.heap u (x::xs))(q:Q (tuples' true) s):wpAny (model prog w) A (keyKind' (v::vs).toArray) Q E s:=by
 rw[keyKind'_eq,List.mapM_toArray];refine AA ?_;rw[map_eq_pure_bind];refine AA (TN h λds hl=>AD ?_);rw[AB (by simp)];refine AA (CS ?_);let e:Array.filterMap id (List.map (λp=>some (Value.int p.1 p.2)) ds).toArray=(ds.map λp=>Value.int p.1 p.2).toArray:=by
  rw[List.filterMap_toArray,List.filterMap_map];exact Ba List.toArray (List.filterMap_eq_map'▸rfl)
 rw[e,oneTypeOnly'_eq,List.mapM_toArray,mapM_typeOf_ints (SD ds)];cases ds with
 |nil=>ext hl
 |cons d ds=>
  let hall:((List.map (λ_=>Value.type "int") (List.map (λp:Int×Tok=>Value.int p.1 p.2) (d::ds))).toArray.all λx=>x==Value.type "int")=true:=by
   simp only[List.all_toArray,List.all_map,Am];intro _ _;rfl
  let h0:(List.map (λ_=>Value.type "int") (List.map (λp:Int×Tok=>Value.int p.1 p.2) (d::ds))).toArray[0]?=some (Value.type "int"):=by simp
  simp only[map_pure,pure_bind];rw[h0];simp only[hall,if_true,pure_bind];calc AD q
end
theorem OH:∀x:List Int,Ai x x=false
 |[]=>rfl
 |a::x=>by rw[show Ai (a::x) (a::x)=if a=a then Ai x x else decide (a<a)from rfl,AB rfl];calc OH x
def Uh(a b:Int)(x y:Ye):Ai (a::x) (b::y)=if a=b then Ai x y else decide (a<b):=rfl
theorem Ks:∀{x y:Ye},Ai x y=false->Ai y x=false->x=y
 |[],[],_,_=>rfl
 |[],_::_,h,_=>by ext h
 |_::_,[],_,h=>by ext h
 |a::x,b::y,h1,h2=>by
  rw[Uh]at h1 h2;by_cases e:a=b
  .subst e;rw[AB rfl]at h1 h2;rw[Ks h1 h2]
  .rw[AE e]at h1;rw[AE (Ne.symm e)]at h2;have:=of_decide_eq_false h1;have:=of_decide_eq_false h2;omega
theorem Kh:∀{x y z:Ye},Ai x y=true->Ai y z=true->Ai x z=true
 |[],[],_,h,_=>by ext h
 |_::_,[],_,h,_=>by ext h
 |_,_::_,[],_,h=>by ext h
 |[],_::_,_::_,_,_=>rfl
 |a::x,b::y,c::z,h1,h2=>by
  rw[Uh]at h1 h2 ⊢;by_cases e:a=b
  .subst e;rw[AB rfl]at h1;by_cases e2:a=c
   .rw[AB e2]at h2 ⊢;exact Kh h1 h2
   .rw[AE e2]at h2 ⊢;exact h2
  .rw[AE e]at h1;let l1:=Cs h1;by_cases e2:b=c
   .subst e2;rw[AE e];exact h1
   .rw[AE e2]at h2;let l2:=Cs h2;rw[AE ()];calc Az ()
def rkI(ks:Ya)(k:Ye):Nat:=ks.countP λa=>Ai a k
theorem SJ{α:Type}{p q:α->Bool}:∀{l:List α}{x:α},x∈l->p x=false->q x=true->(∀y,p y=true->q y=true)->l.countP p<l.countP q
 |[],_,h,_,_,_=>by ext h
 |y::l,x,h,h1,h2,h3=>by
  let hm:l.countP p<=l.countP q:=List.countP_mono_left λz _ hz=>h3 z hz;rw[List.countP_cons,List.countP_cons];rcases AK.mp h with rfl|h
  .rw[h1,h2];simp;omega
  .have:=SJ h h1 h2 h3;cases hp:p y with
   |true=>rw[h3 y hp];simp;omega
   |false=>cases q y <;> simp <;> omega
def Pk{ks:Ya}{x y:Ye}(hx:x∈ks)(hy:y∈ks):Ai x y=decide (rkI ks x<rkI ks y):=by
 let go:∀{x y:Ye},x∈ks->Ai x y=true->rkI ks x<rkI ks y:=λ{x y} hx h=>
  SJ hx (OH x) h λz hz=>Kh hz h
 cases e:Ai x y with
 |true=>calc(Az (go hx e)).symm
 |false=>
  cases e2:Ai y x with
  |true=>have:=go hy e2;calc(Aw ()).symm
  |false=>rw[Ks e e2];calc(Aw ()).symm
section
variable{prog:Ym}{w:Yo}{A:Yn}{E:Yc}{s:Yl}{κ:SortKind}{vs:Yf}
def Bk.uniq(a:Bk h v xs)(b:Bk h v ys):xs=ys:=by
 let(b1,o1,us,n1,rfl,h1,h2,h3,h4):=a;let(b2,o2,ws,n2,e,g1,g2,g3,g4):=b;ext e;rw[h1]at g1;ext g1;rw[h3]at g3;ext g3;rw[<-h4.nums,<-g4.nums]
open Classical in
def Cd(h:Heap)(v:Yu):List Int:=if z:∃xs,Bk h v xs then z.choose else[]
def Fb(t:Bk h v xs):Cd h v=xs:=by
 erw[Cd];rw[dif_pos #[xs,t]];calc Bk.uniq (Classical.choose_spec (#[xs,t]:∃xs,Bk h v xs)) t
def Om(h:Heap)(vs:Yf):Prop:=∀v∈vs,∃x xs,Bk h v (x::xs)
def rkV(h:Heap)(vs:Yf)(v:Yu):Nat:=rkI (vs.map (Cd h)) (Cd h v)
def Wv(h:Om s.heap vs):Ez prog w s (tuples' true) vs (rkV s.heap vs):=by
 intro A E x y Q hx hy q;let(a,as,ha):=h x hx;let(b,bs,hb):=h y hy;calc Vx ha hb ?_;rw[<-Fb ha,<-Fb hb,Pk (List.mem_map_of_mem hx) (List.mem_map_of_mem hy)];calc q
def i8{F:Array Value->Prop}{a:Addr}{n:Nat}{P:Fin->Shared->Prop}(ho:s.heap.get? a=some (seqObj "list" vs.toArray n))(hz:vs.length<=sizeLine)
  (hF:∀out,F out->out.size=vs.length) (hs:vs.length<2->F vs.toArray)
  (hr:2<=vs.length->∀h6:Heap,(∀b o,b≠a->s.heap.get? b=some o->h6.get? b=some o)->(∀(A:Yn)(E:Yc)(Q:SortKind->Shared->Prop),Q κ {s with heap:=h6}->wpAny (model prog w) A (keyKind' vs.toArray) Q E {s with heap:=h6}) /\
   ∀(A:Yn)(E:Yc),wpS (model prog w) A E {s with heap:=h6} sortRuns' (λ_ st=>failedOf st=none/\F ((arrOf st).map (·.2))) (SortSt.mk' κ (pairsOf vs) #[] 7 none))
  (h:∀out,F out->P (.done (.ret .none)) {s with heap:=sortedHeap s.heap a vs out}):wpAny (model prog w) A (Builtin.«list.sort» #[[.ref a],[]]) P E s:=by
 let ha:a<⇑s:=AH ho;rw[list_sort_plain];refine AA (listItems_at ho rfl (AA (listUpdate_at ho rfl ?_)));obtain⟨e1,o1⟩:∃e,(s.heap.update a (Obj.mapSeq λ_=> #[])).get? a=some (seqObj "list" #[] e):=#[_,get?_update_seq ho λ_=> #[]];refine AA (seqEpoch_at o1 rfl (AA (wpAny_newTuple ?_ (~~~hz))));refine AA (wpAny_newList (Bu ?_));generalize hH:((s.heap.update a (Obj.mapSeq λ_=> #[])).push (seqObj "tuple" vs.toArray 0)).push (seqObj "list" #[] 0)=h6;let k6:∀b o,b≠a->s.heap.get? b=some o->h6.get? b=some o:=λb o hb e=>by
  rw[<-hH];exact AJ _ (AJ _ ((Er _ _ (Ne.symm hb)).trans e))
 let o6:h6.get? a=some (seqObj "list" #[] e1):=by rw[<-hH];exact AJ _ (AJ _ o1)
 let fin:∀st:SortSt,failedOf st=none->F ((arrOf st).map (·.2))->wpAny (model prog w) A (do
   let t:=(<- seqEpoch a) != e1;Builtin.List.listUpdate (.ref a) λ_=>(arrOf st).map (·.2);if let some e:=failedOf st then rule "list.sort.comparison-raised"; throw e
   if t then rule "list.sort.modified"; raiseError "ValueError" "list modified during sort"
   ret .none) P E {s with heap:=h6}:=by
  intro st h1 h2;calc AA (seqEpoch_at o6 rfl (AA (listUpdate_at o6 rfl ?_ (hsz2:=by show(Array.map _ _).size<=_;rw[hF _ h2];omega))));rw[h1];simp only[bne_self_eq_false,Cv,if_false];calc AD ?_;have:=h _ h2;erw[sortedHeap]at this;rw[hH]at this;exact this
 symm;by_cases h2:vs.toArray.size<2
 .rw[AB h2,AB h2];refine AA (AD ?_);rw[StateT.run_pure];refine AA (AD ?_);refine fin (SortSt.mk' general' (vs.toArray.zip vs.toArray) #[] 7 none) rfl ?_;let e:((vs.toArray.zip vs.toArray).map (·.2))=vs.toArray:=by
   apply Array.toList_inj.mp;rw[Array.toList_map,Array.toList_zip,List.map_snd_zip (AF _)]
  rw[e];exact hs (~~~h2)
 .rw[AE h2,AE h2];let(g1,g2):=hr (by simp at h2;omega) h6 k6;calc AA (g1 _ _ _ ?_);refine AA (AQ (g2 _ _) ?_ λ_ _ e=>e);rintro⟨⟨⟩,st⟩ s' ⟨rfl,h3,h4⟩;calc fin st h3 h4
def oR(K:PySem.W.KdlSrc prog w T r d n P OK)(hh:A.handled=none)(hok:OK s.heap)(hSr:S≠r)(hSd:S≠d)(hS:s.heap.get? S=some {cls:=.type "list",data:=.seq #[] })
  (hR:∀h' tk acc c',(∀b u,b≠S->s.heap.get? b=some u->h'.get? b=some u)->h'.get? S=some {cls:=.type "list",dict:=none,data:=.seq acc c',slots:=#[] }->ItemsOf P acc n->R (.ok (.ret (.ref S))) {s with heap:=h',toks:=tk}) (hn:n<=sizeLine):codeAny (model prog w) A (.builtin "list.__iadd__" #[[.ref S,.ref r],[]]) R s:=by
 calc codeAny_builtin F.entry_list_iadd ?_;rw[GY F.plain_list_iadd _];calc PySem.W.kdl_extend K hh hok S hSr hSd (.ref S) 0 hS hR hn
def lQ(K:PySem.W.KdlSrc prog w T r d n P OK)(hh:A.handled=none)(hok:OK s.heap)(hn:n<=sizeLine)
  (hQ:∀h' tk acc,(∀b u,s.heap.get? b=some u->h'.get? b=some u)->⇑s<=h'.objs.size->ItemsOf P acc n->Q acc.toList {s with heap:=h',toks:=tk}):wpAny (model prog w) A (collect (.ref r)) Q E s:=by
 erw[collect];calc AA (wpAny_runValue (codeAny_builtin F.entry_proto_collect ?_));rw[GY F.plain_proto_collect _];let hlt:=K.there _ hok;refine AA (BH (AD #[plainId_quiet F.plain_list_iadd _,oR K hh (K.keep _ _ hok λb _ o e=>AJ _ e) (Cr hlt.1) (Cr hlt.2) (AS _ rfl) (λh' tk acc c' hk hS' hacc=>?_) hn]));calc AA (wpAny_load hS' (AD (hQ h' tk acc (λb u e=>hk b u (AZ (AH e)) (AJ _ e)) (DW (AH hS')) hacc)))
end
end ST
namespace L3
open L2 ST
def kkI(xs:Ye):List Key:=xs.map .inl
def gY:D->Option (List Int)
 |.tup ds=>BR ds
 |_=>none
def IB:List D->Option (List (List Int))
 |[]=>some []
 |d::r=>match gY d,IB r with
  |some x,some xs=>some (x::xs)
  |_,_=>none
theorem OE:∀{ds:List D}{xs:Ye},BR ds=some xs->DO ds=some (kkI xs)
 |[],_,h=>by ext h;rfl
 |.int i::r,xs,h=>by
  erw[BR]at h;cbv at h
  .intros bs e;ext h;erw[DO];rw[OE e];rfl
  .ext h
 |.non::_,_,h=>by ext h
 |.bl _::_,_,h=>by ext h
 |.str _::_,_,h=>by ext h
 |.tup _::_,_,h=>by ext h
 |.ref _::_,_,h=>by ext h
 |.fn _ _::_,_,h=>by ext h
theorem Tg:∀{ps:List (D×D)}{ts:Ya}{kvs:List (List Key×V)},IB (ps.map (·.1))=some ts->AY tkD L H ps kvs->kvs.map (·.1)=ts.map kkI
 |[],_,_,h,r=>by ext h;erw[AY]at r;subst r;rfl
 | (d,e)::ps,ts,kvs,h,r=>by
  rw[AU]at h;erw[IB]at h;cbv at h
  .intros x xs h1 h2;ext h;let(k,v,r',rfl,e1,_,r2):=r;rw[AU,AU,Tg h2 r2];cases d with
   |tup ds=>
    let e1':DO ds=some k:=e1;rw[OE h1]at e1';ext e1';rfl
   |_=>ext h1
  .ext h
theorem Q1:∀{xs:Ye}{its:Yf},zd ((kkI xs).map kV) its->IntsAre its xs
 |[],_,h=>by ext h;calc .nil
 |x::xs,_,h=>by
  cases h with
  |cons r1 r2=>let(t,rfl):=r1;calc .cons _ _ (Q1 r2)
section
variable{X:Cx}
def XC(o:Ah P w H h b (.tup ((kkI xs).map kV))):Bk h (.ref b) xs:=by
 let(_,its,r,o,e,c,(n,d),_):=o;calc#[b,o,its.toArray,n,rfl,e,c,d,by simpa using Q1 r]
def IQ(fo fi:FE):FE:=λY M=>match toD fo Y M with
 |some (.ref n,M1)=>match M1[n]? with
  |some (.dicT _)=>match toD fi Y M1 with
   |some (k,M2)=>match EM M2 (.dat (.ref n)) k with
    |some o=>some (.dat (o.getD .non),M2)
    |none=>none
   |none=>none
  |_=>none
 |_=>none
def Xa(hu:X.A.units+1<cLine)(ho:QE X o f)(hi:QE X i g)(m:M1 X o "get" apos i cpos):QE X (.Call (.Attribute o "get" apos) [i] [] cpos) (IQ f g) :=
 .mk <| PE.imp (qG hu (BL ho).un (BL hi).un m) λτ H Q zz=>by
  let(L,Y,M,d,M',c,rs,hf,q):=zz;erw[IQ]at hf;cbv at hf
  .intros n M1 e1;cbv at hf
   .intros kvs hk;cbv at hf
    .intros k M2 e2;cbv at hf
     .intros ov e4;ext hf;refine#[L,Y,M,_,_,c,rs,e1,λL1 H1 u s1 c1 r1=>?_];erw[Rep]at r1;let(a,rfl,ea):=r1;refine#[a,rfl,?_,L1,Y,M1,_,_,c1,rs.stp s1,e2,λL2 H2 y s2 c2 r2=>?_]
      .obtain⟨vs,e5,_⟩:=c1.obj n a _ ea hk;exact .inr #[vs,.inl e5]
      .have ra:zX H L2 H2 (.dat (.ref n)) (.ref a):=by
        erw[zX,Rep];exact#[a,rfl,by let(N,hN):=s2.pre;rw[hN];calc Dz ea]
       let(a',o',e6,h1,h2):=JJ c2 ra r2 e4;ext e6;calc#[o',h1,?_];cases ov with
       |none=>
        let h':o'=none:=h2;subst h';calc q L2 H2 _ (s1.trans s2) c2 (by erw[zX,Rep];rfl)
       |some dd=>
        let(v,rfl,rv):=h2;exact q L2 H2 _ (s1.trans s2) c2 rv
     .ext hf
    .ext hf
   .ext hf
  .ext hf
end
end L3
namespace ST
section
variable{prog:Ym}{w:Yo}{A:Yn}{E:Yc}{s:Yl}{κ:SortKind}{vs:Yf}{r:Yr}{a b:Array Keyed}
def Po{a:Array Keyed}{i:Nat}{x:Keyed}(e:a[i]?=some x):x∈a.toList:=by
 let(hi,rfl):=Array.getElem?_eq_some_iff.mp e;simp
def EL{α:Type}{c:Prop}[Decidable c]{m1 m2:StateT SortSt Sem α}{Q:α->SortSt->Prop}{st:SortSt}(h1:c->wpS (model prog w) A E s m1 Q st)(h2:¬ c->wpS (model prog w) A E s m2 Q st):wpS (model prog w) A E s (if c then m1 else m2) Q st:=by
 split
 .exact h1 (by assumption)
 .exact h2 (by assumption)
def S6(h:i<a.size):a[i]?=some a[i]:=Cq h
def sL{α β:Type}{x:StateT SortSt Sem α}{f:α->StateT SortSt Sem β}{Q:β->SortSt->Prop}{st:SortSt}{S:(α->SortSt->Prop)->Prop}(h:∀P,S P->wpS (model prog w) A E s x P st)(g:S λv st=>wpS (model prog w) A E s (f v) Q st):wpS (model prog w) A E s (x >>= f) Q st:=wpS_bind (h _ g)
end
def KR(r:Yr)(xs:Array Keyed)(i:Nat):Nat:=match xs[i]? with
 |some p=>r p.1
 |none=>0
def RUp(r:Yr)(xs:Array Keyed)(lo hi:Nat):Prop:=∀i j,lo<=i->i<=j->j<hi->KR r xs i<=KR r xs j
def RDn(r:Yr)(xs:Array Keyed)(lo hi:Nat):Prop:=∀i j,lo<=i->i<=j->j<hi->KR r xs j<=KR r xs i
section
variable{prog:Ym}{w:Yo}{A:Yn}{E:Yc}{s:Yl}{κ:SortKind}{vs:Yf}{r:Yr}
def JP{xs ys:Array Keyed}{i j:Nat}(h:xs[i]?=ys[j]?):KR r xs i=KR r ys j:=by erw[KR];rw[h]
def NV{xs:Array Keyed}{i j:Nat}(hj:j<=xs.size)(k:Nat):KR r (mirror xs i j ((j-i) / 2)) k=if i<=k/\k<j then KR r xs (i+j-1-k)else KR r xs k:=by
 let e:=getElem?_mirror_all (i:=i) hj k;cbv at e
 .rw[AB (by assumption)];exact JP e
 .rw[AE (by assumption)];calc JP e
def Pb{xs:Array Keyed}{src d:Nat}(hs:src<xs.size)(hd:d<=src)(k:Nat):KR r (bubble xs src d) k=if k=src-d then KR r xs src else if src-d<k/\k<=src then KR r xs (k-1)else KR r xs k:=by
 let e:=getElem?_bubble hs d hd k;cbv at e
 .rw[AB (by assumption)];exact JP e
 .rw[AE (by assumption)];cbv at e
  .rw[AB (by assumption)];exact JP e
  .rw[AE (by assumption)];calc JP e
def JE{xs:Array Keyed}{i j:Nat}(hj:j<=xs.size)(he:∀k,i<=k->k<j->KR r xs k=KR r xs (j-1))(k:Nat):KR r (mirror xs i j ((j-i) / 2)) k=KR r xs k:=by
 rw[NV hj];split
 .rw[he _ () (),he k () ()]
 .rfl
structure CB(lo:Nat)(st0 st:SortSt):Prop where
 k:kindOf st=kindOf st0
 p:pendingOf st=pendingOf st0
 f:failedOf st=failedOf st0
 perm:(arrOf st).Perm (arrOf st0)
 pre:∀j,j<lo->(arrOf st)[j]?=(arrOf st0)[j]?
def CB.refl(lo:Nat)(st:SortSt):CB lo st st:=#[rfl,rfl,rfl,.refl _,λ_ _=>rfl]
def CB.size{lo:Nat}{st0 st:SortSt}(h:CB lo st0 st):(arrOf st).size=(arrOf st0).size:=h.perm.size_eq
def CB.mir{lo i j:Nat}{st0 st:SortSt}(h:CB lo st0 st)(hi:lo<=i)(hj:j<=(arrOf st0).size):CB lo st0 (setArr st (mirror (arrOf st) i j ((j-i) / 2))) :=
 #[h.k,h.p,h.f,(mirror_perm _ _ _ _).trans h.perm,λk hk=>by
  show(mirror (arrOf st) i j ((j-i) / 2))[k]?=_;rw[getElem?_mirror_all (by rw[h.size];calc hj),AE ()];calc h.pre k hk]
def CB.bub{lo src d:Nat}{st0 st:SortSt}(h:CB lo st0 st)(hs:src<(arrOf st0).size)(hd:d<=src)(hl:lo<=src-d):CB lo st0 (setArr st (bubble (arrOf st) src d)) :=
 #[h.k,h.p,h.f,(bubble_perm _ _ _).trans h.perm,λk hk=>by
  show(bubble (arrOf st) src d)[k]?=_;rw[getElem?_bubble (by rw[h.size];calc hs) d hd,AE (),AE ()];calc h.pre k hk]
variable{st0 st:SortSt}{lo nrem n:Nat}
def Ie(R:Ez prog w s κ vs r)(hk:kindOf st0=κ)(hv:∀x∈(arrOf st0).toList,x.1∈vs)(c:CB lo st0 st){i j:Nat}(hi:i<(arrOf st0).size)(hj:j<(arrOf st0).size){Q:Option Bool->SortSt->Prop}(h:Q (some (decide (KR r (arrOf st) i<KR r (arrOf st) j))) st):
  wpS (model prog w) A E s (ltAt' i j) Q st:=by
 let ei:(arrOf st)[i]?=some ((arrOf st)[i]'(by rw[c.size];calc hi)):=S6 _;let ej:(arrOf st)[j]?=some ((arrOf st)[j]'(by rw[c.size];calc hj)):=S6 _;let pm:=Array.perm_iff_toList_perm.mp c.perm;calc gR R (c.k.trans hk) ei ej (hv _ (pm.mem_iff.mp (Po ei))) (hv _ (pm.mem_iff.mp (Po ej))) ?_;erw[KR]at h;rw[ei,ej]at h;calc h
def Rv(lo a nrem:Nat):StateT SortSt Sem (Option (Option Nat)×Nat):=forIn [a:nrem] ((none,a):Option (Option Nat)×Nat) λ_ c=>do
 let x <- ltAt' (lo+c.2) (lo+c.2-1)
 match x with
 |some smaller=>if smaller=true then pure (ForInStep.done (none,c.2))else pure (ForInStep.yield (none,c.2+1))
 |_=>pure (ForInStep.done (some none,c.2))
def PF(R:Ez prog w s κ vs r)(hk:kindOf st0=κ)(hv:∀x∈(arrOf st0).toList,x.1∈vs)(c:CB lo st0 st)(hz:lo+nrem<=(arrOf st0).size)(h1:1<=n)(h2:n<=nrem)(hu:RUp r (arrOf st) lo (lo+n)){Q:Option (Option Nat)×Nat->SortSt->Prop}
  (h:∀m,n<=m->m<=nrem->RUp r (arrOf st) lo (lo+m)->(m=nrem\/KR r (arrOf st) (lo+m)<KR r (arrOf st) (lo+m-1))->Q (none,m) st):wpS (model prog w) A E s (Rv lo n nrem) Q st:=by
 erw[Rv];refine wpS_forRange (I:=λx c st'=>st'=st/\c=(none,x)/\RUp r (arrOf st) lo (lo+x)) ?step ?fin #[rfl,rfl,hu]
 case fin=>
  intro c' st' hI;refine qz λG=>?_;let(eI1,eI2,hs):=hI;calc G ?_;clear G;subst eI1 eI2;rw[show max n nrem=nrem by omega]at hs ⊢;exact h nrem h2 (AF _) hs (.inl rfl)
 case step=>
  intro x c' st' hax hxn hI;refine qz λG=>?_;let(eI1,eI2,hs):=hI;calc G ?_;clear G;subst eI1 eI2;calc wpS_bind (Ie R hk hv c () () ?_);symm;by_cases hl:KR r (arrOf st') (lo+x)<KR r (arrOf st') (lo+x-1)
  .rw[Az hl,AB rfl];exact wpS_pure (h x hax () hs (.inr hl))
  .rw[Aw hl,AE ()];refine wpS_pure #[rfl,rfl,λi j h3 h4 h5=>?_];by_cases hj:j<lo+x
   .exact hs i j h3 h4 hj
   .have hj':j=lo+x:=()
    by_cases hij:i=j
    .rw[hij];exact AF _
    .have:=hs i (lo+x-1) h3 () ();rw[hj'];omega
def bO(R:Ez prog w s κ vs r)(hk:kindOf st0=κ)(hv:∀x∈(arrOf st0).toList,x.1∈vs)(hz:lo+nrem<=(arrOf st0).size)(h1:1<=nrem){Q:Option Nat->SortSt->Prop}
  (h:∀m st,CB lo st0 st->1<=m->m<=nrem->RUp r (arrOf st) lo (lo+m)->Q (some m) st):wpS (model prog w) A E s (countRun' lo nrem) Q st0:=by
 let one:∀xs,RUp r xs lo (lo+1):=λxs i j a b c=>by rw[show i=j by omega];exact AF _
 refine wpS_bind (PF R hk hv (.refl lo st0) hz (AF 1) h1 (one _) λn n1 n2 hu hor=>?_);refine EL (λc1=>wpS_pure (h n st0 (.refl lo st0) n1 n2 hu)) (λc1=>?_);let hn:n<nrem:=by simp at c1;omega
 let hlt:=hor.resolve_left ();let mirU:∀{st:SortSt}{n m neq:Nat},CB lo st0 st->m<=nrem->RDn r (arrOf st) lo (lo+m)->RUp r (mirror (arrOf st) lo (lo+m) ((lo+m-lo) / 2)) lo (lo+m):=λ{st n m neq} c hm hd i j a1 a2 a3=>by
  rw[NV (by rw[c.size];omega),NV (by rw[c.size];omega),AB (),AB ()];exact hd _ _ () () ()
 refine EL (λc2=>?_) (λc2=>?_)
 case' refine_1=>
  calc wpS_bind (Ie R hk hv (.refl lo st0) () (by symm;omega) ?_);symm;by_cases hrose:KR r (arrOf st0) lo<KR r (arrOf st0) (lo+n-1)
  case pos=>
   rw[Az hrose,AB rfl];exact wpS_pure (h n st0 (.refl lo st0) n1 n2 hu)
  case' neg=>
   rw[Aw hrose,AE ()];let hall:∀k,lo<=k->k<lo+n->KR r (arrOf st0) k=KR r (arrOf st0) (lo+n-1):=λk k1 k2=>by
    let a1:=hu lo k (AF _) k1 k2;let a2:=hu k (lo+n-1) k1 () ();omega
   refine wpS_bind (wpS_modify ?_);let cb:CB lo st0 (setArr st0 (mirror (arrOf st0) lo (lo+n) ((lo+n-lo) / 2))):=(CB.refl lo st0).mir (AF _) ();let dn:RDn r (mirror (arrOf st0) lo (lo+n) ((lo+n-lo) / 2)) lo (lo+(n+1)):=λi j a1 a2 a3=>by
    rw[JE () hall,JE () hall];by_cases hj:j<lo+n
    .rw[hall i a1 (),hall j () hj];exact AF _
    .by_cases hi:i<lo+n
     .rw[hall i a1 hi,show j=lo+n by omega];omega
     .rw[show i=j by omega];exact AF _
 case' refine_2=>
  let cb:CB lo st0 st0:=.refl lo st0;let dn:RDn r (arrOf st0) lo (lo+(n+1)):=λi j a1 a2 a3=>by
   let hn1:n=1:=by dsimp only at c2;omega
   subst hn1;by_cases hij:i=j
   .rw[hij];exact AF _
   .rw[show i=lo by omega,show j=lo+1 by omega];rw[show lo+1-1=lo by omega]at hlt;omega
 all_goals
  calc wpS_bind (wpS_lift (CS #[rfl,?_]));refine wpS_bind (wpS_mono (wpS_forRange (I:=λx c st'=>∃neq,c=(none,x,neq)/\CB lo st0 st'/\RDn r (arrOf st') lo (lo+x)/\neq+1<=x/\∀i,lo+x-(neq+1)<=i->i<lo+x->KR r (arrOf st') i=KR r (arrOf st') (lo+x-1)) (Q:=λc st'=>∃x neq,c=(none,x,neq)/\CB lo st0 st'/\1<=x/\x<=nrem/\RDn r (arrOf st') lo (lo+x)/\neq+1<=x/\∀i,lo+x-(neq+1)<=i->i<lo+x->KR r (arrOf st') i=KR r (arrOf st') (lo+x-1)) ?step ?fin #[0,rfl,cb,dn,(),λi a1 a2=>by congr 1;omega]) ?post)
  case fin=>
   intro c st' hI;refine qz λG=>?_;let(neq,eI1,cb,dn,q1,q2):=hI;calc G ?_;clear G;subst eI1;rw[show max (n+1) nrem=nrem by omega]at dn q1 q2 ⊢;exact#[nrem,neq,rfl,cb,h1,AF _,dn,q1,q2]
  case step=>
   intro x c st' hx1 hx2 hI;refine qz λG=>?_;let(neq,eI1,cb,dn,q1,q2):=hI;refine G ?_;clear G;subst eI1;let hx1':n+1<=x:=hx1;refine wpS_bind (Ie R hk hv cb (by symm;omega) (by symm;omega) ?_);symm;let step1:∀ys:Array Keyed,(∀k,KR r ys k=KR r (arrOf st') k)->KR r (arrOf st') (lo+x)<=KR r (arrOf st') (lo+x-1)->RDn r ys lo (lo+(x+1)):=λys hy hle i j a1 a2 a3=>by
    rw[hy,hy];by_cases hj:j<lo+x
    .exact dn i j a1 a2 hj
    .by_cases hij:i=j
     .rw[hij];exact AF _
     .have:=dn i (lo+x-1) a1 () ();rw[show j=lo+x by omega];omega
   by_cases hl:KR r (arrOf st') (lo+x)<KR r (arrOf st') (lo+x-1)
   .rw[Az hl,AB rfl];refine EL (λc3=>wpS_bind (wpS_modify (wpS_pure #[0,rfl,cb.mir () (),step1 _ (JE (by rw[cb.size];omega) q2) (),(),λi a1 a2=>by congr 1;omega]))) (λc3=>wpS_pure #[0,rfl,cb,step1 _ (λ_=>rfl) (),(),λi a1 a2=>by congr 1;omega])
   .rw[Aw hl,AE ()];refine wpS_bind (Ie R hk hv cb () () ?_);symm;by_cases hg:KR r (arrOf st') (lo+x-1)<KR r (arrOf st') (lo+x)
    .rw[Az hg,AB rfl];exact wpS_pure #[x,neq,rfl,cb,(),(),dn,q1,q2]
    .rw[Aw hg,AE ()];refine wpS_pure #[neq+1,rfl,cb,step1 _ (λ_=>rfl) (),(),λi a1 a2=>?_];rw[show lo+(x+1)-1=lo+x by omega];by_cases hi:i=lo+x
     .rw[hi]
     .rw[q2 i () ()];omega
  case post=>
   intro c st' hI;refine qz λG=>?_;let(x,neq,eI1,cb,x1,x2,dn,q1,q2):=hI;calc G ?_;clear G;subst eI1;refine EL (λc3=>?_) (λc3=>?_)
   case' refine_1=>
    refine wpS_bind (wpS_modify ?_);replace dn:RDn r (mirror (arrOf st') (lo+x-(neq+1)) (lo+x) ((lo+x-(lo+x-(neq+1))) / 2)) lo (lo+x):=λi j a1 a2 a3=>by
     rw[JE (by rw[cb.size];omega) q2,JE (by rw[cb.size];omega) q2];exact dn i j a1 a2 a3
    replace cb:=cb.mir (i:=lo+x-(neq+1)) (j:=lo+x) () ()
   all_goals
    calc wpS_bind (wpS_modify ?_);let cb2:=cb.mir (i:=lo) (j:=lo+x) (AF _) ();calc wpS_bind (PF R hk hv cb2 hz x1 x2 (mirU (n:=0) (neq:=0) cb x2 dn) λm m1 m2 hu2 _=>wpS_pure (h m _ cb2 () m2 hu2))
end
section
variable{prog:Ym}{w:Yo}{A:Yn}{E:Yc}{s:Yl}{κ:SortKind}{vs:Yf}{r:Yr}{st0 st:SortSt}{lo n ok:Nat}
def lJ(R:Ez prog w s κ vs r)(hk:kindOf st0=κ)(hv:∀x∈(arrOf st0).toList,x.1∈vs)(c0:CB lo st0 st)(hz:lo+n<=(arrOf st0).size)(h1:1<=ok)(h2:ok<=n)(hu:RUp r (arrOf st) lo (lo+ok))
  (h:∀st',CB lo st0 st'->RUp r (arrOf st') lo (lo+n)->Q true st'):wpS (model prog w) A E s (binarySort' lo n ok) Q st:=by
 refine wpS_bind (wpS_mono (wpS_forRange (I:=λk c st'=>c=(none,Unit.unit)/\CB lo st0 st'/\RUp r (arrOf st') lo (lo+k)) (Q:=λc st'=>c=(none,Unit.unit)/\CB lo st0 st'/\RUp r (arrOf st') lo (lo+n)) ?step ?fin #[rfl,c0,by rw[show max ok 1=ok by omega];calc hu]) ?post)
 case fin=>
  intro c st' hI;refine qz λG=>?_;let(eI1,cb,hu):=hI;calc G ?_;clear G;subst eI1;rw[show max (max ok 1) n=n by omega]at hu;exact#[rfl,cb,hu]
 case post=>
  intro c st' hI;refine qz λG=>?_;let(eI1,cb,hu):=hI;calc G ?_;clear G;subst eI1;exact wpS_pure (h st' cb hu)
 case step=>
  intro k c st' hk1 hk2 hI;refine qz λG=>?_;let(eI1,cb,hu):=hI;calc G ?_;clear G;subst eI1;let hk0:1<=k:=()
  refine wpS_bind (wpS_mono (wpS_forRange (I:=λx c st''=>st''=st'/\∃a b,c=(none,a,b)/\a<=b/\b<=k/\b-a<=k-x/\(∀i,i<a->KR r (arrOf st') (lo+i)<=KR r (arrOf st') (lo+k))/\(∀i,b<=i->i<k->KR r (arrOf st') (lo+k)<=KR r (arrOf st') (lo+i))) (Q:=λc st''=>st''=st'/\∃a b,c=(none,a,b)/\a<=k/\(∀i,i<a->KR r (arrOf st') (lo+i)<=KR r (arrOf st') (lo+k))/\(∀i,a<=i->i<k->KR r (arrOf st') (lo+k)<=KR r (arrOf st') (lo+i))) ?step1 ?fin1 #[rfl,0,k,rfl,(),(),(),λi hi=>(),λi a1 a2=>()]) ?post1)
  case fin1=>
   intro c st'' hI;refine qz λG=>?_;let(eI1,a,b,eI2,q1,q2,q3,q4,q5):=hI;calc G ?_;clear G;subst eI1 eI2;exact#[rfl,a,b,rfl,(),q4,λi a1 a2=>q5 i () a2]
  case step1=>
   intro x c st'' _ hx hI;refine qz λG=>?_;let(eI1,a,b,eI2,q1,q2,q3,q4,q5):=hI;calc G ?_;clear G;subst eI1 eI2;refine EL (λc1=>wpS_pure #[rfl,a,b,rfl,(),q4,λi a1 a2=>q5 i (by dsimp only at c1;omega) a2]) (λc1=>?_);let c1':a<b:=by dsimp only at c1;omega
   calc wpS_bind (Ie R hk hv cb () (by symm;omega) ?_);symm;by_cases hl:KR r (arrOf st'') (lo+k)<KR r (arrOf st'') (lo+(a+b) / 2)
   .rw[Az hl,AB rfl];refine wpS_pure #[rfl,a,(a+b) / 2,rfl,(),(),(),q4,λi a1 a2=>?_];have:=hu (lo+(a+b) / 2) (lo+i) () () ();omega
   .rw[Aw hl,AE ()];refine wpS_pure #[rfl,(a+b) / 2+1,b,rfl,(),(),(),λi a1=>?_,q5];have:=hu (lo+i) (lo+(a+b) / 2) () () ();omega
  case post1=>
   intro c st'' hI;refine qz λG=>?_;let(eI1,a,b,eI2,q1,q4,q5):=hI;calc G ?_;clear G;subst eI1 eI2;refine wpS_bind (wpS_modify (wpS_pure #[rfl,cb.bub () (by symm;omega) (by symm;omega),λi j a1 a2 a3=>?_]));let hs:lo+k<(arrOf st'').size:=by rw[cb.size];omega
   show KR r (bubble (arrOf st'') (lo+k) (lo+k-(lo+a))) i<=KR r (bubble (arrOf st'') (lo+k) (lo+k-(lo+a))) j;rw[Pb hs (),Pb hs ()];rw[show lo+k-(lo+k-(lo+a))=lo+a by omega];by_cases i1:i=lo+a
   .rw[AB i1];by_cases j1:j=lo+a
    .rw[AB j1];exact AF _
    .rw[AE j1,AB ()];have:=q5 (j-1-lo) () ();rw[show lo+(j-1-lo)=j-1 by omega]at this;exact this
   .rw[AE i1];by_cases i2:lo+a<i/\i<=lo+k
    .rw[AB i2,AE (),AB ()];exact hu _ _ () () ()
    .rw[AE i2];by_cases j1:j=lo+a
     .rw[AB j1];have:=q4 (i-lo) ();rw[show lo+(i-lo)=i by omega]at this;exact this
     .rw[AE j1];by_cases j2:lo+a<j/\j<=lo+k
      .rw[AB j2];exact hu _ _ a1 () ()
      .rw[AE j2];calc hu _ _ a1 a2 ()
end
section
variable{prog:Ym}{w:Yo}{A:Yn}{E:Yc}{s:Yl}{κ:SortKind}{vs:Yf}{r:Yr}
def leL(a b:Ye):Bool:=!Ai b a
def A0(ts:Ya):List (List Int):=ts.mergeSort leL
def iM(a b c:Ye)(h1:leL a b=true)(h2:leL b c=true):leL a c=true:=by
 unfold leL at *;rw[Bool.not_eq_true']at *;cases e:Ai c a with
 |false=>rfl
 |true=>
  cases e2:Ai b a with
  |true=>rw[e2]at h1;ext h1
  |false=>
   cases e3:Ai a b with
   |true=>rw[Kh e e3]at h2;ext h2
   |false=>rw[Ks e2 e3]at h2;rw[h2]at e;ext e
def Zd(a b:Ye):(leL a b||leL b a)=true:=by
 erw[leL];cases e:Ai b a with
 |false=>rfl
 |true=>
  cases e2:Ai a b with
  |false=>rfl
  |true=>have:=Kh e e2;rw[OH]at this;ext this
def F5(ts:Ya):(A0 ts).Perm ts:=List.mergeSort_perm ts leL
def lU(ts:Ya):(A0 ts).Pairwise λa b=>Ai b a=false:=(List.pairwise_mergeSort iM Zd ts).imp λ{a b} h=>by erw[leL]at h;simpa using h
theorem S2:∀{xs ys:Ya},xs.Perm ys->xs.Pairwise (λa b=>Ai b a=false)->ys.Pairwise (λa b=>Ai b a=false)->xs=ys
 |[],ys,h,_,_=>by rw[List.nil_perm.mp h]
 |x::xs,[],h,_,_=>by have:=h.length_eq;simp at this
 |x::xs,y::ys,h,hx,hy=>by
  let px:=Dd.mp hx;let py:=Dd.mp hy;let e:x=y:=by
   let m1:x∈y::ys:=h.mem_iff.mp AR;let m2:y∈x::xs:=h.mem_iff.mpr AR;rcases AK.mp m1 with z|z
   .exact z
   .rcases AK.mp m2 with z'|z'
    .exact z'.symm
    .exact Ks (py.1 x z) (px.1 y z')
  subst e;rw[S2 (List.Perm.cons_inv h) px.2 py.2]
def iT(h:xs.Perm ts)(hp:xs.Pairwise λa b=>Ai b a=false):xs=A0 ts:=S2 (h.trans (F5 ts).symm) hp (lU ts)
end
end ST
namespace L3
open L2 ST
def KD(H:Hp)(ys:List V)(ts:Ya):Prop:=ys.length=ts.length/\∀(i:Nat) t,ts[i]?=some t->∃b,ys[i]?=some (.ref b)/\H b=some (.tup ((kkI t).map kV))
def lP(hl:its.length=ts.length)(ha:∀(i:Nat) u,its[i]?=some u->∃t b,ts[i]?=some t/\u=.ref b/\H b=some (.tup ((kkI t).map kV))/\Bk h1 (.ref b) t)
  (hp:out.Perm its) (hs:out.Pairwise λx y=>Ai (Cd h1 y) (Cd h1 x)=false):∃ys,zd ys out/\KD H ys (A0 ts):=by
 let key:∀u∈its,∃t b,u=.ref b/\H b=some (.tup ((kkI t).map kV))/\Cd h1 u=t:=λu hu=>by
  let(i,hi):=List.mem_iff_getElem?.mp hu;let(t,b,_,rfl,e1,e2):=ha i u hi;exact#[t,b,rfl,e1,Fb e2]
 let e0:its.map (Cd h1)=ts:=by
  apply List.ext_getElem?;intro i;rw[Au];by_cases hi:i<its.length
  .rw[AO hi];let(t,b,e1,e2,_,e4):=ha i _ (AO hi);rw[e1,e2];exact Ba some (Fb e4)
  .rw[Ge (),Ge ()];rfl
 let e1:out.map (Cd h1)=A0 ts:=iT (by rw[<-e0];calc hp.map _) (FL.mpr hs);refine#[out.map λu=>match u with|.ref b=> .ref b|_=> .non,?_,?_,λi t et=>?_]
 .refine So (by simp) λi y u ey eu=>?_;rw[Au,eu]at ey;let(t,b,rfl,_):=key u (hp.mem_iff.mp (Ca eu));ext ey;rfl
 .rw[AG,<-e1,AG]
 .rw[<-e1,Au]at et;cases eu:out[i]? with
  |none=>rw[eu]at et;ext et
  |some u=>
   rw[eu]at et;let(t',b,rfl,e2,e3):=key u (hp.mem_iff.mp (Ca eu));let et':Cd h1 (.ref b)=t:=Be et;rw[e3]at et';subst et';calc#[b,by rw[Au,eu];rfl,e2]
theorem Pu:∀{ts:Ya}{ys:List V},KD H ys ts->zH L H (ts.map λt=>D.tup (t.map D.int)) ys
 |[],ys,h=>by
  have:ys=[]:=EF.mp h.1;subst this;calc .nil
 |t::ts,[],h=>by have:=h.1;ext this
 |t::ts,y::ys,h=>by
  let(b,e1,e2):=h.2 0 t rfl;ext e1;refine .cons (Ms ?_ e2) (Pu #[Nat.succ.inj h.1,λi u e=>by let(b,q1,q2):=h.2 (i+1) u (~~~e);calc#[b,by simpa using q1,q2]]);calc OE (IJ t)
section
variable{X:Cx}
def JO(ts:Ya):Bool:=ts.all λt=> !t.isEmpty
def Vz(h:JO ts=true):∀t∈ts,t≠[]:=λt ht e=>by
 erw[JO]at h;rw[Am]at h;have:=h t ht;rw[e]at this;ext this
end
section
variable{prog:Ym}{w:Yo}{A:Yn}{E:Yc}{s:Yl}{d:Yt}{ep:Nat}{o:Obj}{es:Array DictEntry}
def YB(hd:(d==sysModules)=false)(hT:s.TypeIs (.ref d) "dict")(ho:s.heap.get? d=some o)(hdat:o.data=.dict es ep)(hfit:(es.size:Int)<2 ^ 63)
  (h:Q (!es.isEmpty) {s with toks:=s.toks+1+1}):wpAny (model prog w) A (truthy (.ref d)) Q E s:=by
 let hne:((es.size:Int) != 0) = !es.isEmpty:=by
  rw[Array.isEmpty];by_cases z:es.size=0
  .simp[z]
  .simp[z]
 let key:wpAny (model prog w) A (runValue (.builtin "len" ⟨[.ref d],[]⟩)) (λr s'=>r=.int es.size (s.toks+1)/\Q (!es.isEmpty) s') E s:=by
  calc wpAny_runValue (codeAny_builtin entry_len ?_);rw[GY plain_len _];unfold Builtin.«len»;calc AA (AD ?_);calc AA (CP hT F.slot_dict_len (call_meetsIn F.slot_dict_len hT F.entry_dict_len (F.args_dict_len_1 _) (XQ hd) #[o,es,ep,ho,hdat,?_]));calc AA (Bu (AD (AA (wpAny_letGo ?_))));rw[AE ()];rw[AE ()];exact AA (wpAny_mkInt (AD #[rfl,h]))
 erw[truthy]
 first
  |calc AA (wpAny_callSpecial?_none hT noBool_dict ?_)
  |refine AA (AD (AA (wpAny_callSpecial?_none hT noBool_dict ?_)))
 first
  |calc AA (wpAny_specialOf hT F.slot_dict_len.lookup ?_)
  |refine AA (AD (AA (wpAny_specialOf hT F.slot_dict_len.lookup ?_)))
 first
  |exact AA (AQ key (λr s' h'=>by let(rfl,hq):=h';calc AD (hne▸hq)) λ_ _ e=>e)
  |calc AA (AD (AA (AQ key (λr s' h'=>by let(rfl,hq):=h';calc AD (hne▸hq)) λ_ _ e=>e)))
end
def G2(M:Mem)(x:EV):Option (List (D×D)):=match x with
 |.dat (.ref n)=>match M[n]? with
  |some (.dicT ps)=>some ps
  |some (.froT ps)=>some ps
  |_=>none
 |_=>none
def QV{K:Yb}{L:Yg}{M:Mem}{H H0:Hp}{x:EV}{v:V}{ps:List (D×D)}(c:Cor K L M H)(r:zX H0 L H x v)(h:G2 M x=some ps):∃a vs,v=.ref a/\Rd H a (.dT vs)/\AY tkD L H ps vs:=by
 erw[G2]at h;cbv at h
 .intros n;erw[zX,Rep]at r;let(a,rfl,ea):=r;cbv at h
  .intros ps' e;ext h;let(vs,e3,r3):=c.obj n a _ ea e;exact#[a,vs,rfl,.inl e3,r3]
  .intros ps' e;ext h;let(o,vs,e3,r3):=c.obj n a _ ea e;exact#[a,vs,rfl,.inr #[o,e3],r3]
  .ext h
 .ext h
section
variable{X:Cx}{a:Expr}{f:FE}
def Ik(f:FE):FT:=λY M=>match f Y M with
 |some (x,M1)=>match G2 M1 x with
  |some ps=>some (!ps.isEmpty,M1)
  |none=>none
 |none=>none
def d3(h:QE X a f)(he:∀whole,isTrue a X.env whole=(do let v <- whole;standAt a.pos;holding [v] (truthy v)):=by intro _;rfl):QT X a (Ik f):=.mk <| by
 rintro zB s τ H Q I ⟨L,Y,M,d,M',c,rs,hf,q⟩;erw[Ik]at hf;cbv at hf
 .intros x M1 e1;cbv at hf
  .intros ps e2;ext hf;refine isTrue_plain (thn (h.un zB s τ H (λv H1=>∃L1,Stp L H L1 H1/\Cor X.K L1 M' H1/\zX H L1 H1 x v) I #[L,Y,M,_,_,c,rs,e1,λL1 H1 v s1 c1 r1=>#[L1,s1,c1,r1]]) λu s1 ⟨v,H1,I1,rv,L1,st,c1,r1⟩=>?_) (he _);let(p,vs,rfl,rd,r3):=QV c1 r1 e2;ext rv;let hn:=G4;let(z1,z2,xs,r,o,es,en,h1,h2,h3,h4,h5):=(show Ah X.prog X.w H1 s1.heap p (.dT vs)from rd.ok I1.hok);let hsz:es.size=vs.length:=by rw[Paired.length r,<-BU,h4,AG]
   refine YB z2 #[o,h1,h2.1] h1 h3 () #[H1,I1.tok _,?_];let hl:=r3.length;have:(!es.isEmpty) = !ps.isEmpty:=by
    rw[Array.isEmpty,hsz,hl];cases ps <;> simp
   rw[this];exact q L1 H1 st c1
  .ext hf
 .ext hf
end
section
variable{X:Cx}{e:Expr}{es:Yi}{ek:Nat}{ep apos cpos:Pos}{f:FE}
def cN(ho:PE X e td)(hbase:attributeBase e "items" X.env (eval e X.env)=eval e X.env:=by rfl)(hline:(apos.endLine==cpos.line)=true:=by rfl):
  PI X (.Tuple es ek ep) (.Call (.Attribute e "items" apos) [] [] cpos) (λY H R=>td Y H λx H1=>∃d kvs,x=.ref d/\((H1 d=some (.dT kvs)/\∀o,R (HX d o kvs) (upd H1 d (.frz o (.dT kvs))))\/∃o,H1 d=some (.frz o (.dT kvs))/\R (HX d o kvs) H1)):=by
 intro zB s Y H R I h;refine wpAny_Call_method0_late hbase hline (thn (ho zB s Y H _ I h) λv s1 ⟨x,H1,I1,r1,d,kvs,ex,q⟩=>?_);subst ex;ext r1;rcases q with⟨ed,q⟩|⟨o,ed,q⟩
 .obtain⟨t1,t2,t3⟩:=JZ I1 (.inr #[kvs,.inl ed]);refine#["dict","dict.items",PySem.F.plainAttrs_dict,PySem.F.slot_dict_items,PySem.F.type_dict_items,t1,t2,Hu rfl (PySem.evalArgs_none ?_)];refine call_meetsIn PySem.F.slot_dict_items t1 PySem.F.entry_dict_items (PySem.F.args_dict_items_1 _) (OJ d t3) #[t1,?_];let(o,es',en,h1,h3,I0):=SY I1 ed;refine Mt #[_,AS _ rfl,rfl,rfl] (AJ _ h1) h3 ?_;let ge:⇑s1<=(s1.heap.push {cls:=.type "dict_items",data:=.fields #[.ref d] }).objs.size:=by rw[Bo];exact Cw _
  refine#[_,[_],_,_,_,rfl,I0.kept λb q z=>AJ _ (AJ _ z),N9 h3,#[_,_,AS _ rfl],λc hc=>?_,q o];cases Ac.mp hc;exact I0.fpOk ge (I0.hok.fresh ge)
 .obtain⟨t1,t2,t3⟩:=JZ I1 (.inr #[kvs,.inr #[o,ed]]);refine#["dict","dict.items",PySem.F.plainAttrs_dict,PySem.F.slot_dict_items,PySem.F.type_dict_items,t1,t2,Hu rfl (PySem.evalArgs_none ?_)];refine call_meetsIn PySem.F.slot_dict_items t1 PySem.F.entry_dict_items (PySem.F.args_dict_items_1 _) (OJ d t3) #[t1,?_];let(h1,_,_,xs,r,o',es',en,h1',h2,h3,h4,h5):=(show Ah X.prog X.w H1 s1.heap d (.frz o (.dT kvs))from I1.hok d _ ed);rw[h1]at h1';ext h1';refine Mt #[_,AS _ rfl,rfl,rfl] (AJ _ h1) h3 ?_;let ge:⇑s1<=(s1.heap.push {cls:=.type "dict_items",data:=.fields #[.ref d] }).objs.size:=by rw[Bo];exact Cw _
  refine#[_,[_],_,_,_,rfl,I1.kept λb q z=>AJ _ (AJ _ z),N9 h3,#[_,_,AS _ rfl],λc hc=>?_,q];cases Ac.mp hc;calc I1.fpOk ge (I1.hok.fresh ge)
def E2(f:FE):FI:=λY M=>match f Y M with
 |some (.dat (.ref n),M1)=>match M1[n]? with
  |some (.dicT ps)=>some (ps.map λp=>D.tup [p.1,p.2],none,M1.set n (.froT ps))
  |some (.froT ps)=>some (ps.map λp=>D.tup [p.1,p.2],none,M1)
  |_=>none
 |_=>none
def qS(h:QE X e f)(hbase:attributeBase e "items" X.env (eval e X.env)=eval e X.env:=by rfl)(hline:(apos.endLine==cpos.line)=true:=by rfl):
  QI X (.Tuple es ek ep) (.Call (.Attribute e "items" apos) [] [] cpos) (E2 f):=.mk <| PI.imp (cN h.un hbase hline) λτ H R zz=>by
 let(L,Y,M,xs,gd,M',c,rs,hf,q):=zz;let fin:∀{L2:Yg}{H2:Hp}{ps:List (D×D)}{a:Yt}{o:Obj}{vs:List (List Key×V)},H2 a=some (.frz o (.dT vs))->AY tkD L2 H2 ps vs->∀(i:Nat)(d:D),(ps.map λp=>D.tup [p.1,p.2])[i]?=some d->(HX a o vs).go i H2/\∀v H3,(HX a o vs).yld i H2 v H3->(∀a o,H2 a=some o->H3 a=some o)/\Rep L2 H3 d v:=by
  intro L2 H2 ps a o vs hz r4 i d hd;rw[Au]at hd;cases hp:ps[i]? with
  |none=>rw[hp]at hd;ext hd
  |some p=>
   rw[hp]at hd;ext hd;let(k,x,hk,ek,rx):=Nj r4 hp;refine#[#[hz,(AI.mp hk).1],λv H3 hy=>?_];let(T,b,k',x',hk',rfl,hT,hb,rfl):=hy;rw[hk]at hk';ext hk';exact#[λa o e=>by rw[zT (zf e hT)];calc e,Rep.newTup hT (.cons (Ms ek hb) (.cons rx .nil))]
 erw[E2]at hf;cbv at hf
 .intros n M1 e1;cbv at hf
  .intros ps e2;ext hf;refine#[L,Y,M,_,_,c,rs,e1,λL1 H1 v s1 c1 r1=>?_];erw[zX,Rep]at r1;let(a,rfl,ea):=r1;let(vs,e3,r3):=c1.obj n a _ ea e2;refine#[a,vs,rfl,.inl #[e3,λo=>?_]];let(c2,s2):=c1.put (m:=.froT ps) ea e3 (λ_ z=>by ext z) (λ_ _ z=>by ext z) λs2=>#[o,_,zk,r3.stp s2];refine q L1 _ _ (s1.trans s2) c2 λL2 H2 M2 s3 c3 _=>?_;let hz:H2 a=some (.frz o (.dT vs)):=s3.frz _ _ _ zk;let r4:=r3.stp (s2.trans s3);exact#[λi d hd=>fin hz r4 i d hd,hz,by rw[AG,r4.length];calc AF _]
  .intros ps e2;ext hf;refine#[L,Y,M,_,_,c,rs,e1,λL1 H1 v s1 c1 r1=>?_];erw[zX,Rep]at r1;let(a,rfl,ea):=r1;let(o,vs,e3,r3):=c1.obj n a _ ea e2;calc#[a,vs,rfl,.inr #[o,e3,?_]];refine q L1 _ _ s1 c1 λL2 H2 M2 s3 c3 _=>?_;let hz:H2 a=some (.frz o (.dT vs)):=s3.frz _ _ _ e3;let r4:=r3.stp s3;exact#[λi d hd=>fin hz r4 i d hd,hz,by rw[AG,r4.length];calc AF _]
  .ext hf
 .ext hf
end
open PySem.Calls
structure LamAt(base:Heap)(l:Lm)(pr:Arguments)(bd:Expr)(sc:Y0)(fs:Yk):Prop where
 len:l.us.length=fs.length
 ex:∃qual cl pm ctv,base.get? l.f=some {cls:=.type "function",data:=.func (PySem.W.kla_fn "<lambda>" qual pr bd sc cl pm l.c ctv) } /\
  (∀x y d,cl.lookup x=some d->cl.lookup y=some d->x=y)/\(∀y∈sc.names,y.2=.free->(cl.lookup y.1).isSome=true)/\(∀x d,cl.lookup x=some d->∃v,base.IsCell d v) /\
  ∀(i:Nat) x v,fs[i]?=some x->l.us[i]?=some v->∃d u,cl.lookup x=some d/\zh v u/\base.IsCell d (some u)
def spC(K:Yb)(n:Nat)(l:Lm)(g:List D->FF):Sp:=λvs H Q _=>∃L ds cs M d M',Cor K L M H/\zH L H ds vs/\ds.length=n/\D2 H l.c/\zH L H cs l.us/\g cs ds M=some (d,M') /\
 ∀L' H' v,Stp L H L' H'->Cor K L' M' H'->Rep L' H' d v->Q v H'
structure LamOk(P:Ym)(w:Yo)(K:Yb)(mg:Yh)(base:Heap)(k:Nat)(l:Lm)(n:Nat)(g:List D->FF):Prop where
 ex:∃fd ps,Eo K fd ps []/\PySem.W.FnAt l.f base/\FnOk P w K mg base CX0 k l.f fd ps (spC K n l g)
structure LamScope(N ps fs:Yk)(pr:Arguments)(bd:Expr)(sc:Y0):Prop where
 kind:sc.kind=.function
 co:sc.isCoroutine=false
 gen:sc.isGenerator=false
 nd:N.Nodup
 pre:N=ps++fs
 par:∀x∈ps,sc.names.lookup x=some .local
 fre:∀x∈fs,sc.names.lookup x=some .free
 noc:∀y∈sc.names,y.2≠.cell
 bind:∀(qual:Str) cl pm c ctv (us:List Value),us.length=ps.length->bindArgs (PySem.W.kla_fn "<lambda>" qual pr bd sc cl pm c ctv) #[us,[]]=pure (ps.zip us)
def OX(b:FD):List D->FF:=λcs ds M=>b ((ds++cs).map some) M
def Nz(P:Ym)(w:Yo)(K:Yb)(mg:Yh)(base:Heap)(N:Yk)(q:Str)(sc:Y0)(f:Yt)(cd:Yu)(cl:Yv)(A:Yn)(outer:List Env)(s:Yl)(H:Hp):Cx where
 prog:=P
 w:=w
 K:=K
 mg:=mg
 base:=base
 A:=A.deeper (PySem.W.envX q sc ⇑s f cd cl)
 N:=N
 s₀:=s
 H₀:=H
 env:=PySem.W.envX q sc ⇑s f cd cl
 outer:=outer
 stack:=PySem.W.envX q sc ⇑s f cd cl::outer
 ex:=[]
 calm:=true
 fn:=λ_=>false
 pn:=[]
 xe:=λ_ _=>False
section
variable{P:Ym}{w:Yo}{K:Yb}{mg:Yh}{base:Heap}{A:Yn}{s:Yl}{R:Yx}
def Y4(hroom:A.depth<recursionLimit)(ho:s.heap.get? a=some o)
  (hd':o.data=.func fd) (hco:fd.scope.isCoroutine=false) (hgen:fd.scope.isGenerator=false) (hbody:fd.body=.expr body) (hc:fd.code=.ref c) (hoc:s.heap.get? c=some oc) (hdc:oc.data=.fields vs) (hq:vs[1]?=some (.str q t))
  (h:wpAny (model P w) A.in1 (bindArgs fd args) (λbinds s₁=>
   wpAny (model P w) A.in1 (newFunctionEnv fd.scope fd.globals fd.closure binds (q ++ ".<locals>.") (some a) (.ref c) none fd.builtins)
    (λenv s₂=>s₂.heap.NoLimit/\codeAny (model P w) A (.expr body env) R s₂) (λe s'=>R (.error e) s') s₁) (λe s'=>R (.error e) s') s):
  codeAny (model P w) A (.call (.ref a) args) R s:=by
 calc codeAny_of_tree ?_;show wpAny _ A.in1 (callAny (.ref a) args) _ _ s;simp only[callAny];calc AA (wpAny_load ho ?_);simp only[hd',callFunction,hco,hgen,hbody,hc];refine AA (Bi hoc hdc hq (AA (AD ?_)))
 exact AA (AQ h (λbinds s₁ h₁=>AA (AQ h₁ (λenv s₂ h₂=>AA (wpAny_enterFrame h₂.1 hroom
  (AD (And.intro rfl h₂.2)))) λ_ _ h'=>h')) λ_ _ h'=>h')
def nO:∀{ps:Yk}{us:Yf}{i:Nat}{x:Str}{u:Yu},ps.Nodup->ps[i]?=some x->us[i]?=some u->(ps.zip us).reverse.lookup x=some u:=by
 intro ps us i x u nd h1 h2;let hm:(x,u)∈(ps.zip us).reverse:=by
  rw[List.mem_reverse];exact Ca (by rw[List.getElem?_zip_eq_some];calc#[h1,h2])
 let hu:∀v,(x,v)∈(ps.zip us).reverse->v=u:=λv hv=>by
  rw[List.mem_reverse]at hv;let(j,hj):=List.getElem?_of_mem hv;rw[List.getElem?_zip_eq_some]at hj;have:j=i:=(List.getElem?_inj (AI.mp hj.1).1 nd).mp (hj.1.trans h1.symm);subst this;exact Be (hj.2.symm.trans h2)
 generalize (ps.zip us).reverse=l at hm hu;induction l with
 |nil=>ext hm
 |cons p r ih=>
  let(y,v):=p;rw[Ei];cases hb:x==y with
  |true=>
   have:=beq_iff_eq.mp hb;subst this;calc Ba some (hu v AR)
  |false=>
   refine ih ?_ λv hv=>hu v (Aa _ hv);rcases AK.mp hm with z|z
   .cases z;simp at hb
   .exact z
def T7(h:LamAt base l pr bd sc fs)(S:LamScope N ps fs pr bd sc)
  (hb:∀(q:Str)(cd:Yu)(cl:Yv)(A:Yn)(outer:List Env)(s:Yl)(H:Hp),Room k (A.deeper (PySem.W.envX q sc ⇑s l.f cd cl))->QD (Nz P w K mg base N q sc l.f cd cl A outer s H) bd b):
  LamOk P w K mg base (k+1) l ps.length (OX b):=by
 let(qual,cl,pm,ctv,ho,inj,has,cel,cap):=h.ex;refine#[_,ps,.all (S.bind qual cl pm l.c ctv),#[_,_,_,_,ho],λvs H Q E z=>?_,λA outer s H args us vs Q E hr e0 hbd r hsp=>?_]
 .obtain⟨L,ds,cs,M,d,M',c,r,hl,_⟩:=z;rw[r.length,hl]
 let(L,ds,cs,M,d,M',c,rd,hl,(ca,oc,cvs,q,t,ec,eh,ed,e1),rc,hf,hq):=hsp;let lim:s.heap.NoLimit:=e0.mod.nolimit.keeps λb o e=>(e0.bs b o e).1;let(hoc,_):=e0.hok ca _ eh;let hul:us.length=ps.length:=by rw[<-r.length,rd.length,hl]
 calc Y4 hr.depth (e0.bs _ _ ho).1 rfl S.co S.gen rfl (by calc ec) hoc ed e1 (hbd _ _ _ _ ?_);refine wpAny_newFunctionEnv S.noc (λy hy=>S.par _ (List.of_mem_zip hy).1) (λh' hns hsb=>#[lim.fresh _ hsb,?_]) S.kind;let hk:∀b o,s.heap.get? b=some o->h'.get? b=some o:=λb o e=>hsb.extBut b o (AZ (AH e)) (AJ _ e);let cellS:∀d v,base.IsCell d v->h'.IsCell d v/\H d=none:=λd v ⟨o,e,z⟩=>#[#[o,hk _ _ (e0.bs _ _ e).1,z],(e0.bs _ _ e).2];let hN:N.length=(vs++l.us).length:=by rw[S.pre,AW,AW,h.len,r.length,hul]
 let I:Inv (Nz P w K mg base N q sc l.f (.ref ca) cl A outer s H) [] ((vs++l.us).map some) H {s with heap:=h',toks:=s.toks+(ps.zip us).length}:=by
  let noA:∀b:Addr,b∉(Nz P w K mg base N q sc l.f (.ref ca) cl A outer s H).ex:=λb z=>absurd (show b∈([]:List Addr)from z) (by simp)
  refine#[#[e0.mod,S.kind,rfl,rfl,AF _,inj,λy hy=>?_,λy c z _=>Bool.noConfusion z,λ_=>hr.hd,Around.frames_deeper e0.frames,.inr #[rfl,rfl],λb z=>absurd z (noA b),e0.bs,e0.bsz,λb _ _=>noA b,λb z=>absurd z (noA b),e0.funs,e0.frf],
   rfl,e0.bare,Un.kept hk,#[_,hns,λi y v h1 h2 h3=>?_],λy c z=>?_,e0.hok.fresh (AF _),λy c z=>?_,λp hp=>absurd (show p∈([]:List (Addr×Obj))from hp) (by simp),e0.hok.kept hk,?_]
  .have hy:sc.names.lookup y=some .cell\/sc.names.lookup y=some .free:=hy;rcases hy with hy|hy
   .exact absurd rfl (S.noc _ (CO hy))
   .exact Option.isSome_iff_exists.mp (has _ (CO hy) rfl)
  .have h1':(ps++fs)[i]?=some y:=by rw[<-S.pre];exact h1
   rw[Au]at h2;let h2':(vs++l.us)[i]?=some v:=by
    cases e:(vs++l.us)[i]? with
    |none=>rw[e]at h2;ext h2
    |some z=>rw[e]at h2;ext h2;rfl
   by_cases hi:i<ps.length
   .rw[AM hi]at h1';rw[AM (by rw[r.length,hul];exact hi)]at h2';let(u,hu,rv):=r.get h2';let ndP:ps.Nodup:=by have:=S.nd;rw[S.pre]at this;exact(DN.mp this).1
    exact#[u,rv,.inl #[S.par y (Ca h1'),nO ndP h1' hu]]
   .rw[CV ()]at h1';let hv:vs.length=ps.length:=by rw[r.length,hul]
    rw[CV (),hv]at h2';let(d,u,e2,rv,ce):=cap _ y v h1' h2';exact#[u,rv,.inr #[.inr (S.fre y (Ca h1')),d,e2,(cellS d _ ce).1]]
  .obtain⟨v,z2⟩:=cel y c z;exact#[v,(cellS c v z2).1]
  .obtain⟨v,z2⟩:=cel y c z;exact(cellS c v z2).2
  .rw[AG];exact hN.symm
 refine PySem.W.kla_codeExpr (AQ ((hb q (.ref ca) cl A outer s H (hr.deeper _)).un [] _ _ H (λv H'=>Q v H') I #[L,(ds++cs).map some,M,d,M',c,?_,hf,λL' H' v s1 c1 r1=>hq L' H' v s1 c1 r1]) (λu s' ⟨v,H',J,rv,z⟩=>#[v,H',J.os,J.bare,J.base,J.hok,rv,z]) λ_ _ z=>False.elim z);let rr:=rd.app rc;refine#[by rw[AG,AG,rr.length],λi d' e=>?_];rw[Au]at e ⊢;cases e2:(ds++cs)[i]? with
 |none=>rw[e2]at e;ext e
 |some d2=>
  rw[e2]at e;ext e;let(v,e3,r3):=rr.get e2;calc#[v,by rw[e3];rfl,r3]
end
def Gz(X:Cx)(pr:Arguments)(bd:Expr)(sc:Y0)(H:Hp)(f:Yt)(c:Yu):Prop:=D2 H c/\∃qual cl pm ctv,
 H f=some (.ext λh=>h.get? f=some {cls:=.type "function",data:=.func (PySem.W.kla_fn "<lambda>" qual pr bd sc cl pm c ctv) }) /\
 (∀x d,cl.lookup x=some d->X.env.cells.lookup x=some d)/\∀y∈sc.names,y.2=.free->(cl.lookup y.1).isSome=true
def Zi(X:Cx)(P:Yt)(pr:Arguments)(bd:Expr)(sc:Y0):TE:=λ_ H Q=>(∃ps,H P=some (.tbl ps)/\E1 H ps)/\∀f c H',H f=none->Stp [] H [] H'->Gz X pr bd sc H' f c->Q (.ref f) H'
theorem O7{pos p:Pos}:∀{l:Yf},TriplesOk l->codeAmong p (l++[rawInt pos.line,rawInt pos.col,c])=some v->codeAmong p l=some v\/v=c
 |[],_,h=>by
  erw[codeAmong]at h;simp only[List.nil_append]at h;cbv at h
  .intros h2;ext h2;cbv at h
   .exact .inr (Be h).symm
   .unfold codeAmong at h;ext h
  .ext h
 |.int a _ :: .int b _::x::r,ht,h=>by
  simp only[List.cons_append,codeAmong]at h ⊢;cbv at h
  .intros hc;rw[AB hc];exact .inl h
  .intros hc;rw[AE hc];calc O7 ht h
theorem SE{pos:Pos}:∀{l:Yf},TriplesOk l->TriplesOk (l++[rawInt pos.line,rawInt pos.col,c])
 |[],_=>trivial
 |.int a _ :: .int b _::x::r,ht=>SE (l:=r) ht
section
variable{X:Cx}{pr:Arguments}{bd:Expr}{sc:Y0}{pos:Pos}{c P:Yt}
def ZU(hcode:X.env.code=.ref c)(hC:PySem.W.codeHdIn X.K c P=true)(hS:∀y∈sc.names,y.2=.free->(X.env.kindOf y.1=some .cell\/X.env.kindOf y.1=some .free))
  (hd:pr.defaults=[]:=by rfl) (hkd:pr.kw_defaults=[]:=by rfl):PE X (.Lambda pr bd sc pos) (Zi X P pr bd sc):=by
 intro zB s Y H Q I h;let((ps,hP,gT),h):=h;let hPo:s.heap.get? P=some (PySem.W.tabObj ps):=I.hok P _ hP;let C:PySem.W.CodeHd s.heap c P:=PySem.W.codeHd_of_K I.kIn hC;let(cl,hcl,h1,h2):=P5 λy hy hk=>I.ok.has y.1 (hS y hy hk);let hgl:=I.mod.glob.keeps I.bk;let hgP:mainGlobals≠P:=λq=>by
  let(o,es,ep,e,hd,_):=hgl;rw[q,hPo]at e;ext e;ext hd
 let(bm,ob,b1,b2,b3,b4,b5,b6):=I.mod.bmn;let b3':=I.bk _ _ b3;let hbG:bm≠mainGlobals:=λq=>by
  let(o,es,ep,e,hd,_):=hgl;rw[q,e]at b3';ext b3';rw[hd]at b6;ext b6
 let hbP:bm≠P:=λq=>by
  rw[q,hPo]at b3';ext b3';ext b4
 let hbA:s.heap.BuiltinsAt X.mg P:=#[bm,ob,b1,b2,hbG,hbP,b3',b4,b5,b6];calc PySem.W.kla_eval (by rw[defaultsOf_eq,hd,hkd];rfl) ?_;cases hf:codeAmong pos ps.toList with
 |some cv=>
  refine PySem.W.kla_makeFunctionHit hcl I.ok.glob hgl hcode C hPo gT.1 hf hbA λctv h' tk hk hsz=>?_;let hn:H h'.objs.size=none:=I.hok.fresh hsz;let hk2:∀b o,s.heap.get? b=some o->(h'.push {cls:=.type "function",data:=.func (PySem.W.kla_fn "<lambda>" (X.env.qual ++ "<lambda>") pr bd sc cl ((X.mg "__name__").getD .none) cv ctv) }).get? b=some o:=λb o e=>AJ _ (hk b o e)
  refine#[.ref h'.objs.size,upd H h'.objs.size (.ext λh=>h.get? h'.objs.size=some {cls:=.type "function",data:=.func (PySem.W.kla_fn "<lambda>" (X.env.qual ++ "<lambda>") pr bd sc cl ((X.mg "__name__").getD .none) cv ctv) }),
   I.laid hk2 hsz #[AS _ rfl,#[_,AS _ rfl],λh1 h2 e k=>k _ e],rfl,h _ cv _ hn (.upd hn) #[?_,_,_,_,_,zk,h1,h2]]
  exact(gT.2 pos cv hf).keep λa o u e=>by rw[zT (zf e hn)];calc e
 |none=>
  refine PySem.W.kla_makeFunction hcl I.ok.glob hgl hcode C hPo gT.1 hf hgP hbA λc' ctv h' tk hx hge hlt hrec htb=>?_;let(c₂,oc,vs,t,e2,hoc,hdc,hv):=hrec;ext e2;let hPc:P≠c':=λz=>absurd (Ay (AH hPo) (by rw[z];calc hge)) (BS _);let hnc:H c'=none:=I.hok.fresh hge;let hnf:H h'.objs.size=none:=I.hok.fresh (Ab hge (DW hlt));let hPf:P≠h'.objs.size:=λz=>by rw[<-z,hP]at hnf;ext hnf
  let hcf:c'≠h'.objs.size:=AZ hlt;generalize hfo:({cls:=.type "function",data:=.func (PySem.W.kla_fn "<lambda>" (X.env.qual ++ "<lambda>") pr bd sc cl ((X.mg "__name__").getD .none) (.ref c') ctv) }:Obj)=fo;let hpu:(h'.push fo).get? h'.objs.size=some fo:=AS _ (by rw[<-hfo];rfl);generalize hH':upd (upd (upd H P (.tbl (ps ++ ([rawInt pos.line,rawInt pos.col,.ref c'].toArray)))) c' (.frz oc (.ext λ_=>True))) h'.objs.size (.ext λh=>h.get? h'.objs.size=some fo)=H';let e3:H' h'.objs.size=some (.ext λh=>h.get? h'.objs.size=some fo):=by rw[<-hH'];exact zk
  let e4:H' c'=some (.frz oc (.ext λ_=>True)):=by rw[<-hH',zT hcf];exact zk
  let e5:H' P=some (.tbl (ps ++ ([rawInt pos.line,rawInt pos.col,.ref c'].toArray))):=by rw[<-hH',zT hPf,zT hPc];exact zk
  let e6:∀b,b≠P->b≠c'->b≠h'.objs.size->H' b=H b:=λb z1 z2 z3=>by rw[<-hH',zT z3,zT z2,zT z1]
  let e7:∀b o,H b=some o->b≠P->H' b=some o:=λb o e z=>by rw[e6 b z (zf e hnc) (zf e hnf)];exact e
  let hk:∀b o,b≠P->s.heap.get? b=some o->(h'.push fo).get? b=some o:=λb o z e=>AJ _ (hx b o z e);let st:Stp [] H [] H':=by
   let hfz:∀a o u,H a=some (.frz o u)->H' a=some (.frz o u):=λa o u e=>e7 a _ e (DT e hP (by intro z;ext z));refine#[#[[],by simp],λa ha=> .inl ha,λa o e _ nt=>e7 a o e λz=>?_,λa xs e=>e7 a _ e (DT e hP (by intro z;ext z)),hfz,λa ps' e=>?_]
   .subst z;rw[hP]at e;ext e;exact nt _ rfl
   .by_cases z:a=P
    .subst z;rw[hP]at e;ext e;refine#[_,e5,λg=>#[?_,λp v ev=>?_]]
     .rw[show(ps ++ ([rawInt pos.line,rawInt pos.col,Value.ref c'].toArray)).toList=ps.toList++[rawInt pos.line,rawInt pos.col,.ref c']by simp];exact SE g.1
     .rw[show(ps ++ ([rawInt pos.line,rawInt pos.col,Value.ref c'].toArray)).toList=ps.toList++[rawInt pos.line,rawInt pos.col,.ref c']by simp]at ev;rcases O7 g.1 ev with z|z
      .exact(g.2 p v z).keep hfz
      .exact#[c',oc,vs,_,t,z,e4,hdc,hv]
    .exact#[ps',e7 a _ e z,.keep hfz]
  subst hfo;refine#[.ref h'.objs.size,H',I.un #[λb o e n _ _=>?_,λb o e n _ _=>#[o.slots,?_],λb o e n _=>?_,λb o e _=>?_,st.tup,st.frz,λb ps' e=>?_] λa o e=>?_,rfl,h _ (.ref c') H' hnf st #[#[c',oc,vs,_,t,rfl,e4,hdc,hv],_,_,_,_,e3,h1,h2]]
  .exact hk b o (λz=>by rw[z,hP]at n;ext n) e
  .exact hk b o (λz=>by rw[z,hP]at n;ext n) e
  .rw[e6 b (λz=>by rw[z,hP]at n;ext n) (AZ (Ay (AH e) hge)) (AZ (Ay (AH e) (Ab hge (DW hlt))))];exact n
  .by_cases z:b=P
   .subst z;exact#[_,AJ _ htb]
   .exact#[o,hk b o z e]
  .by_cases z:b=P
   .subst z;rw[hP]at e;ext e;exact#[_,e5]
   .exact#[#[],by rw[e7 b _ e z];simp]
  .by_cases z1:a=h'.objs.size
   .subst z1;rw[e3]at e;ext e;exact#[hpu,#[_,hpu],λh1 h2 e k=>k _ e]
   .by_cases z2:a=c'
    .subst z2;rw[e4]at e;ext e;exact#[AJ _ hoc,trivial,#[_,AJ _ hoc],λ_ _ _ _=>trivial]
    .by_cases z3:a=P
     .subst z3;rw[e5]at e;ext e;exact AJ _ htb
     .rw[e6 a z3 z2 z1]at e;refine(I.hok a o e).stay (λb u hb q=>hk b u (λz=>?_) q) (λb q=>e7 b _ q (DT q hP (by intro z;ext z))) st.tup;rcases hb with z4|z4
      .exact z3 (z4.symm.trans z)
      .rw[z,hP]at z4;ext z4
end
def drp(H:Hp)(f:Yt):Hp:=λb=>if b=f then none else H b
def LM(h:b≠f):drp H f b=H b:=AE h
def MH:drp H f f=none:=AB rfl
section
variable{H:Hp}{f:Yt}{φ:Heap->Prop}{L:Yg}
def Bh(e:H b=some o)(hf:H f=some (.ext φ))(n:∀ψ,o≠.ext ψ):drp H f b=some o:=by
 rw[LM (DT e hf (n φ))];calc e
mutual
theorem Rep.drp(hf:H f=some (.ext φ)):∀{d:D}{v:V},Rep L H d v->Rep L (drp H f) d v
 |.non,_,h=>by unfold Rep at h ⊢;calc h
 |.bl _,_,h=>by unfold Rep at h ⊢;calc h
 |.int _,_,h=>by unfold Rep at h ⊢;calc h
 |.str _,_,h=>by unfold Rep at h ⊢;calc h
 |.tup ds,_,h=>by
  unfold Rep at h ⊢;let(a,vs,rfl,e,r):=h;calc#[a,vs,rfl,Bh e hf (by intro _ z;ext z),zH.drp hf r]
 |.ref n,_,h=>by unfold Rep at h ⊢;calc h
 |.fn _ ds,_,h=>by
  unfold Rep at h ⊢;let(h1,(a,oc,vs,q,t,e1,e2,r),h2):=h;calc#[h1,#[a,oc,vs,q,t,e1,Bh e2 hf (by intro _ z;ext z),r],zH.drp hf h2]
theorem zH.drp(hf:H f=some (.ext φ)):∀{ds:List D}{vs:List V},zH L H ds vs->zH L (drp H f) ds vs
 |[],_,h=>by unfold zH at h ⊢;calc h
 |d::ds,_,h=>by
  unfold zH at h ⊢;let(v,r,rfl,h1,h2):=h;calc#[v,r,rfl,Rep.drp hf h1,zH.drp hf h2]
end
theorem AY.drp{κ:Type}{kf:D->Option κ}(hf:H f=some (.ext φ)):∀{ps:List (D×D)}{vs:List (κ×V)},AY kf L H ps vs->AY kf L (drp H f) ps vs
 |[],_,h=>h
 |p::r,_,h=>by
  let(k,v,r',rfl,e,h1,h2):=h;calc#[k,v,r',rfl,e,h1.drp hf,AY.drp hf h2]
def CZ.drp{K:Yb}{a:Yt}{m:MO}(hf:H f=some (.ext φ))(h:CZ K L H a m):CZ K L (L3.drp H f) a m:=by
 cases m with
 |lst xs=>let(vs,e,r):=h;calc#[vs,Bh e hf (by intro _ z;ext z),r.drp hf]
 |fro xs=>let(o,vs,e,r):=h;calc#[o,vs,Bh e hf (by intro _ z;ext z),r.drp hf]
 |dict ps=>let(vs,e,r):=h;calc#[vs,Bh e hf (by intro _ z;ext z),r.drp hf]
 |dicT ps=>let(vs,e,r):=h;calc#[vs,Bh e hf (by intro _ z;ext z),r.drp hf]
 |set _=>let(o,u,e):=h;calc#[o,u,Bh e hf (by intro _ z;ext z)]
 |froT ps=>let(o,vs,e,r):=h;calc#[o,vs,Bh e hf (by intro _ z;ext z),r.drp hf]
 |froK ps=>let(o,vs,e,r):=h;calc#[o,vs,Bh e hf (by intro _ z;ext z),r.drp hf]
def D2.drp(hf:H f=some (.ext φ))(x:D2 H v):D2 (L3.drp H f) v:=x.keep λ_ _ _ e=>Bh e hf (by intro _ z;ext z)
def Cor.drp{K:Yb}{M:Mem}(hf:H f=some (.ext φ))(c:Cor K L M H):Cor K L M (L3.drp H f) :=
 #[c.len,c.nd,λn a m e1 e2=>(c.obj n a m e1 e2).drp hf,λx hx d P e=>
  let⟨ps,e1,g⟩:=c.tab x hx d P e
  #[ps,Bh e1 hf (by intro _ z;ext z),g.keep λ_ _ _ e=>Bh e hf (by intro _ z;ext z)]]
def Stp.drp(hf:H f=some (.ext φ))(h0:H0 f=none)(s:Stp L0 H0 L H):Stp L0 H0 L (L3.drp H f):=by
 refine#[s.pre,s.new,λa o e hl nt=>?_,λa xs e=>Bh (s.tup a xs e) hf (by intro _ z;ext z),λa o u e=>Bh (s.frz a o u e) hf (by intro _ z;ext z),λa ps e=>?_]
 .rw[LM (zf e h0)];exact s.old a o e hl nt
 .obtain⟨p,e1,g⟩:=s.tbl a ps e;calc#[p,Bh e1 hf (by intro _ z;ext z),λq=>(g q).keep λ_ _ _ e=>Bh e hf (by intro _ z;ext z)]
end
section
variable{X:Cx}{pr:Arguments}{bd:Expr}{sc:Y0}{pos p lp:Pos}{e:Expr}{es:Yi}{c P f:Yt}{g1 g2:FA}
def only(h:Heap)(base:Heap)(S:Yg):Heap:=PySem.W.hideAll h ((List.range h.objs.size).filter λb=> !((base.get? b).isSome||S.contains b))
def OZ(e:h.get? b=some o)(hb:(∃u,base.get? b=some u)\/b∈S):(only h base S).get? b=some o:=by
 refine PySem.W.hideAll_get _ e λhm=>?_;let q:=(C3.mp hm).2;rcases hb with⟨u,z⟩|z
 .rw[z]at q;simp at q
 .rw[List.contains_iff_mem.mpr z]at q;simp at q
def Tu(e:(only h base S).get? b=some o):h.get? b=some o/\((∃u,base.get? b=some u)\/b∈S):=by
 let e1:=PySem.W.of_hideAll _ e;calc#[e1,?_];cases q:base.get? b with
 |some u=>calc .inl #[u,rfl]
 |none=>
  by_cases z:b∈S
  .exact .inr z
  .have:(only h base S).get? b=none:=PySem.W.hideAll_none _ (C3.mpr #[A9.mpr (AH e1),by rw[q];simpa using z]);rw[this]at e;ext e
def qR
  (F:∀base',LamAt base' #[f,cv,cvs] pr bd sc fs->FnOk X.prog X.w X.K X.mg base' CX0 k g gd ps sp) (hfn:∀x,X.fn x=true) (hr:Room k X.A) (hb:Eo X.K gd ps []) (I:Inv X zB Y H s) (V:Gz X pr bd sc H f cv)
  (hl:cvs.length=fs.length) (hcap:∀(i:Nat) x v,fs[i]?=some x->cvs[i]?=some v->∃j:Nat,X.N[j]?=some x/\Y[j]?=some (some v)/\X.env.scope.names.lookup x=some .cell/\(x,NameKind.free)∈sc.names)
  (r:zd vs us) (h:sp vs (drp H f) Q E0):wpAny (model X.prog X.w) X.A (call (.ref g) us) (EP X zB Y Q) X.xe s:=by
 let(cf,qual,cl,pm,ctv,hf,h1,h2):=V;let(ho,_):=I.hok f _ hf;let fne:∀b,H b=none->drp H f b=none:=λb n=>by
  by_cases z:b=f
  .rw[z];exact MH
  .rw[LM z];exact n
 let cells:∀x d,cl.lookup x=some d->d∈X.env.cells.map (·.2):=λx d e=>AL.mpr #[(x,d),CO (h1 x d e),rfl];generalize hS:f::X.env.cells.filterMap (λp=>if X.env.cells.lookup p.1=some p.2 then some p.2 else none)=S;let inS:∀x d,cl.lookup x=some d->d∈S:=λx d e=>by
  rw[<-hS];exact Aa _ (List.mem_filterMap.mpr #[(x,d),CO (h1 x d e),AB (h1 x d e)])
 let ofS:∀b∈S,b=f\/∃x,X.env.cells.lookup x=some b:=λb hb=>by
  rw[<-hS]at hb;rcases AK.mp hb with z|z
  .exact .inl z
  .obtain⟨p,hp,e⟩:=List.mem_filterMap.mp z;cbv at e
   .intros q;ext e;exact .inr #[_,q]
   .ext e
 let bk:∀b o,X.base.get? b=some o->(only s.heap X.base S).get? b=some o:=λb o e=>OZ (I.bk b o e) (.inl #[o,e]);let nsK:∀{b:Yt}{m:Yh},X.base.Ns b m->(only s.heap X.base S).Ns b m:=λ{b m} ⟨o,es,ep,e,d,r⟩=>#[o,es,ep,bk _ _ e,d,r];let md:Mod X.K X.mg (only s.heap X.base S):=by
  let M:=I.mod;let(mb,n1,n2):=M.blt;let(bm,ob,b1,b2,b3,b4):=M.bmn;exact#[M.kin.keeps bk,M.glob.keeps bk,#[mb,n1.keeps bk,n2],M.nolimit.keeps bk,bm,ob,b1,b2,bk _ _ b3,b4]
 let la:LamAt (only s.heap X.base S) ⟨f,cv,cvs⟩ pr bd sc fs:=by
  let cel:∀x d,cl.lookup x=some d->∀v,s.heap.IsCell d v->(only s.heap X.base S).IsCell d v:=λx d e v ⟨o,e2,z⟩=>#[o,OZ e2 (.inr (inS x d e)),z];refine#[hl,qual,cl,pm,ctv,OZ ho (.inr (by rw[<-hS];calc AR)),λx y d a b=>I.ok.inj x y d (h1 x d a) (h1 y d b),h2,λx d e=>?_,λi x v e1 e2=>?_]
  .obtain⟨v,z⟩:=I.cell x d (h1 x d e);exact#[v,cel x d e v z]
  .obtain⟨j,n1,n2,n3,n4⟩:=hcap i x v e1 e2;let(m,hn,lk):=I.loc;let(u,ru,l):=lk j x v n1 n2 (.inr (.inl n3));let(d,hd):=Option.isSome_iff_exists.mp (h2 (x,.free) n4 rfl);refine#[d,u,hd,ru,cel x d hd _ ?_];rcases l with⟨l,_⟩|⟨_,c2,l,z⟩
   .exfalso;let l':X.env.scope.names.lookup x=some .local:=l;rw[n3]at l';ext l'
   .rw[h1 x d hd]at l;ext l;exact z
 let hok:HOk X.prog X.w (drp H f) s.heap:=λa o e=>by
  by_cases z:a=f
  .rw[z,MH]at e;ext e
  .rw[LM z]at e;exact(I.hok a o e).stay (λ_ _ _ q=>q) (λb q=>Bh q hf (by intro _ z;ext z)) λb xs q=>Bh q hf (by intro _ z;ext z)
 let I2:Inv X zB Y (drp H f) s:=by
  refine#[I.ok,I.os,I.bare,#[I.base.keep,I.base.slot,λb o e n hx=>fne b (I.base.free b o e n hx),I.base.there,λb xs e=>Bh (I.base.tups b xs e) hf (by intro _ z;ext z),λb o xs e=>Bh (I.base.frzs b o xs e) hf (by intro _ z;ext z),λb qs e=>?_],I.loc,I.cell,fne _ I.free,λx c e=>fne _ (I.freeC x c e),λq hq=>?_,hok,I.len]
  .obtain⟨more,z⟩:=I.base.tbls b qs e;exact#[more,Bh z hf (by intro _ z;ext z)]
  .obtain⟨a1,a2,a3⟩:=I.pin q hq;exact#[a1,fne _ a2,a3]
 let E0':=I2.env0;let e1:Env0 X.prog X.w X.K X.mg (only s.heap X.base S) X.A X.stack s (drp H f):=by
  refine#[E0'.frames,md,λb o e=>?_,Nat.le_of_eq (PySem.W.hideAll_size _ _),?_,E0'.frf,hok,E0'.bare]
  .obtain⟨q1,q2⟩:=Tu e;refine#[q1,?_];rcases q2 with⟨u,q2⟩|q2
   .exact fne b (I.bs b u q2).2
   .rcases ofS b q2 with rfl|⟨x,z⟩
    .exact MH
    .exact fne b (I.freeC x b z)
  .have nofr:∀L∈frs X.stack,X.base.get? L=none->(only s.heap X.base S).get? L=none:=λL hL eb=>by
    cases q:(only s.heap X.base S).get? L with
    |none=>rfl
    |some u=>
     let(q1,q2):=Tu q;rcases q2 with⟨u,q2⟩|q2
     .rw[eb]at q2;ext q2
     .rcases ofS L q2 with rfl|⟨x,z⟩
      .have:=I.stkFree L hL;rw[hf]at this;ext this
      .rcases AK.mp (I.stkSub L hL)with z2|z2
       .exact absurd z2 (I.cne x L z)
       .obtain⟨_,o,ho2,_⟩:=I.ok.funs.mem z2;exact absurd (Ay (AH ho2) (I.ok.cab x L (hfn x) z)) (BS _)
   let all:∀l:List Env,(∀b∈frs l,b∈frs X.stack)->s.heap.FunFrames X.base l->s.heap.FunFrames (only s.heap X.base S) l:=by
    intro l;induction l with
    |nil=>intro _ _;trivial
    |cons env r ih=>
     intro hs hh;let(hk,(L,o,hf,hn,ho'),hr):=hh;exact#[hk,#[L,o,hf,nofr L (hs L (by erw[frs];rw[List.filterMap_cons,hf];calc AR)) hn,ho'],ih (λb hb=>hs b (by erw[frs];rw[List.filterMap_cons,hf];calc Aa _ hb)) hr]
   exact all _ (λ_ h=>h) E0'.funs
 let hl2:us.length=ps.length:=by rw[<-r.length];exact(F _ la).len _ _ _ _ h
 refine wpAny_call (codeAny_mono ((F _ la).run X.A X.stack s (drp H f) #[us,[]] us vs Q E0 hr e1 (by have:=hb s us I.kIn (~~~hl2);simpa using this) r h) λr s' hq=>?_);cases r with
 |error e=>calc False.elim hq
 |ok fl=>
  cases fl with
  |ret u=>calc I2.after hq
  |next=>calc False.elim hq
  |brk=>calc False.elim hq
  |cont=>calc False.elim hq
end
def qY(X:Cx)(pr:Arguments)(bd:Expr)(sc:Y0)(g1 g2:FA):TA:=λτ H Q=>∃L Y M ds1 M1 ds2 M2,Cor X.K L M H/\Aj L H Y τ/\g1 Y M=some (ds1,M1)/\g2 Y M1=some (ds2,M2) /\
 ∀L' H' vs1 f c vs2,Stp L H L' H'->Cor X.K L' M2 H'->zH L' H' ds1 vs1->zH L' H' ds2 vs2->H f=none->Gz X pr bd sc H' f c->Q (vs1 ++ .ref f::vs2) H'
structure QAL(X:Cx)(es:Yi)(pr:Arguments)(bd:Expr)(sc:Y0)(g1 g2:FA):Prop where
 un:PA X es (qY X pr bd sc g1 g2)
def Gz.stp{X:Cx}{pr:Arguments}{bd:Expr}{sc:Y0}{L L':Yg}{M:Mem}{K:Yb}{H H':Hp}{f:Yt}{c:Yu}(k:Cor K L M H)(s:Stp L H L' H')(v:Gz X pr bd sc H f c):Gz X pr bd sc H' f c:=by
 let(cf,qual,cl,pm,ctv,hf,h1,h2):=v;refine#[cf.keep s.frz,qual,cl,pm,ctv,s.old f _ hf (λz=>?_) (by intro _ z;ext z),h1,h2];let(n,hn):=List.getElem?_of_mem z;let hm:=k.obj n f _ hn (AO (by rw[<-k.len];calc(AI.mp hn).1));generalize M[n]'_=m at hm;cases m with
 |lst xs=>let(vs,e',_):=hm;rw[hf]at e';ext e'
 |fro xs=>let(o,vs,e',_):=hm;rw[hf]at e';ext e'
 |dict ps=>let(vs,e',_):=hm;rw[hf]at e';ext e'
 |dicT ps=>let(vs,e',_):=hm;rw[hf]at e';ext e'
 |set _=>let(o,u,e'):=hm;rw[hf]at e';ext e'
 |froT ps=>let(o,vs,e',_):=hm;rw[hf]at e';ext e'
 |froK ps=>let(o,vs,e',_):=hm;rw[hf]at e';ext e'
section
variable{X:Cx}{pr:Arguments}{bd:Expr}{sc:Y0}{pos p lp:Pos}{e:Expr}{es:Yi}{c P:Yt}{g1 g2:FA}{x y:Str}
def Ph(hx:y∈HW)(ht:PySem.W.tabIn X.K y=some (c,P))(hcode:X.env.code=.ref c)(hC:PySem.W.codeHdIn X.K c P=true){sc0:Y0}(hs0:X.env.scope=sc0)(hS:∀y∈sc.names,y.2=.free->sc0.names.lookup y.1=some .cell)(h2:QA X es g2)
  (hd:pr.defaults=[]:=by rfl) (hkd:pr.kw_defaults=[]:=by rfl) (hs:starEach (.Lambda pr bd sc lp::es) X.env=(false,eval (.Lambda pr bd sc lp) X.env)::starEach es X.env:=by rfl):QAL X (.Lambda pr bd sc lp::es) pr bd sc zG g2 :=
 .mk <| PA.imp (EN (ZU hcode hC (λy hy hf=> .inl (by show X.env.scope.names.lookup y.1=_;rw[hs0];exact hS y hy hf)) hd hkd) h2.un hs) λτ H Q zz=>by
  let(L,Y,M,ds1,M1,ds2,M2,k,rs,e1,e2,q):=zz;erw[zG]at e1;ext e1;refine#[k.tab y hx c P ht,λf cv H1 hf s1 V=>?_];let s1':Stp L H L H1:=s1.bare;refine#[L,Y,M,ds2,M2,k.bare s1,rs.stp s1',e2,λL2 H2 vs s2 k2 r2=>?_];calc q L2 H2 [] f cv vs (s1'.trans s2) k2 .nil r2 hf (V.stp (k.bare s1) s2)
def KL(h1:QD X e f)(h2:QAL X es pr bd sc g1 g2)(hs:starEach (e::es) X.env=(false,eval e X.env)::starEach es X.env:=by rfl):QAL X (e::es) pr bd sc (zD f g1) g2 :=
 .mk <| PA.imp (EN h1.un h2.un hs) λτ H Q zz=>by
  let(L,Y,M,ds1,M1,ds2,M2,k,rs,e1,e2,q):=zz;erw[zD]at e1;cbv at e1
  .intros d0 M0 e0;cbv at e1
   .intros ds3 M3 e3;ext e1;refine#[L,Y,M,d0,M0,k,rs,e0,λL0 H0 v s0 k0 r0=>#[L0,Y,M0,ds3,M1,ds2,M2,k0,rs.stp s0,e3,e2,λL' H' vs1 f c vs2 s' k' r1 r2 hf V=>?_]];exact q L' H' (v::vs1) f c vs2 (s0.trans s') k' (.cons (r0.stp s') r1) r2 (UL s0 k k0 hf).1 V
   .ext e1
  .ext e1
def JC(Y:Sd):List Nat->Option (List D)
 |[]=>some []
 |i::r=>match Y[i]?,JC Y r with
  |some (some d),some ds=>some (d::ds)
  |_,_=>none
def IA(idx:Yj)(m:Lm->FF)(g1 g2:FA):FE:=λY M=>match g1 Y M with
 |some (ds1,M1)=>match g2 Y M1 with
  |some (ds2,M2)=>match JC Y idx with
   |some cs=>open Classical in if h:∃r:D×Mem,∀l,m l (ds1 ++ .fn l cs::ds2) M2=some r then some (.dat h.choose.1,h.choose.2)else none
   |none=>none
  |none=>none
 |none=>none
theorem P7(rs:Aj L H Y τ):∀{idx:Yj}{cs:List D},JC Y idx=some cs->∃vs,zH L H cs vs/\vs.length=idx.length/\∀(i:Nat) v,vs[i]?=some v->∃j:Nat,idx[i]?=some j/\τ[j]?=some (some v)
 |[],cs,h=>by ext h;exact#[[],.nil,rfl,λi v e=>by simp at e]
 |j::r,cs,h=>by
  erw[JC]at h;cbv at h
  .intros d ds e1 e2;ext h;let(v,e3,r3):=rs.2 j d e1;let(vs,r4,l4,h4):=P7 rs e2;refine#[v::vs,.cons r3 r4,by simp[l4],λi u e=>?_];cases i with
   |zero=>simp at e;subst e;calc#[j,rfl,e3]
   |succ i=>exact h4 i u (~~~e)
  .ext h
def d8(h1:zH L H d1 v1)(h2:zH L H d2 v2)(hc:D2 H l.c)(h3:zH L H cs l.us):zH L H (d1 ++ .fn l cs::d2) (v1 ++ .ref l.f::v2) :=
 h1.app (.cons (by erw[Rep];calc#[rfl,hc,h3]) h2)
def Si
  (F:∀base' l,LamAt base' l pr bd sc fs->FnOk X.prog X.w X.K X.mg base' CX0 k g gd ps (spF X.K n (m l))) (hfn:∀x,X.fn x=true) (hr:Room k X.A) (hg:Gl X x) (hm:X.mg x=some (.ref g)) (hk:PySem.W.keepIn X.K (.ref g)=true) (hb:Eo X.K gd ps [])
  (ha:QAL X (e::es) pr bd sc g1 g2) (hl:∀Y M ds1 M1 ds2 M2,g1 Y M=some (ds1,M1)->g2 Y M1=some (ds2,M2)->ds1.length+(ds2.length+1)=n)
  (hi:idx.length=fs.length) (hcap:∀(i:Nat) x j,fs[i]?=some x->idx[i]?=some j->X.N[j]?=some x/\X.env.scope.names.lookup x=some .cell/\(x,NameKind.free)∈sc.names)
  (hdb:(x==("__debug__" : Str))=false:=by decide) (he:starEach (e::es) X.env=(false,eval e X.env)::starEach es X.env:=by rfl) (hpl:(backTo pos (starEach es X.env)).any (·.1)=false:=by rfl):
  QE X (.Call (.Name x p) (e::es) [] pos) (IA idx m g1 g2):=.mk <| by
 rintro zB s τ H Q I ⟨L,Y,M,d,M',k0,rs,hf,q⟩;erw[IA]at hf;cbv at hf
 .intros ds1 M1 e1;cbv at hf
  .intros ds2 M2 e2;cbv at hf
   .intros cs e3;cbv at hf
    .intros hh;let hc:=hh.choose_spec;generalize hh.choose=r at hc hf;ext hf;refine wpAny_Call_Name_kw (SN I hg hm ?_ hdb)
     refine PySem.W.callWith_K I.ok.mod.kin hk (thn (ha.un pos zB s τ H (λvs H1=>∃L' vs1 f c vs2,Stp L H L' H1/\Cor X.K L' M2 H1/\zH L' H1 ds1 vs1/\zH L' H1 ds2 vs2/\H f=none/\Gz X pr bd sc H1 f c/\vs=vs1 ++ .ref f::vs2) I
      #[L,Y,M,ds1,M1,ds2,M2,k0,rs,e1,e2,λL' H' vs1 f c vs2 a1 a2 a3 a4 a5 a6=>#[L',vs1,f,c,vs2,a1,a2,a3,a4,a5,a6,rfl]]) ?_) he hpl
     rintro us s1 ⟨vs,H1,I1,rv,L1,vs1,f,c,vs2,s1',k1,r1,r2,hfn0,V,ev⟩;refine#[I1.kIn,?_]
     subst ev;let(cvs,rc,lc,hcv):=P7 (rs.stp s1') e3;let V':=V;let(cf,qual,cl,pm,ctv,hfe,_):=V';refine qR (F:=λbase' la=>F base' #[f,c,cvs] la) hfn hr hb I1 V (by rw[lc,hi]) (λi y v q1 q2=>?_) rv ?_
     .obtain⟨j,z1,z2⟩:=hcv i v q2;let(z3,z4,z5):=hcap i y j q1 z1;exact#[j,z3,z2,z4,z5]
     .refine#[L1,ds1 ++ .fn #[f,c,cvs] cs::ds2,M2,r.1,r.2,k1.drp hfe,d8 (r1.drp hfe) (r2.drp hfe) (cf.drp hfe) (rc.drp hfe),?_,hc _,λL2 H2 v s2 k2 r3=>?_]
      .rw[AW,Bw];exact hl Y M ds1 M1 ds2 M2 e1 e2
      .exact q L2 H2 v ((s1'.drp hfe hfn0).trans s2) k2 r3
    .ext hf
   .ext hf
  .ext hf
 .ext hf
def Ey(i:Nat)(l:Lm)(g:List D->FF)(fa:FA):FE:=λY M=>match Y[i]? with
 |some (some (.fn l' cs))=>open Classical in if l'=l then match fa Y M with
   |some (ds,M1)=>match g cs ds M1 with
    |some (d,M2)=>some (.dat d,M2)
    |none=>none
   |none=>none
  else none
 |_=>none
def aZ(F:LamOk X.prog X.w X.K X.mg X.base k l n g)(hr:Room k X.A)(hN:X.N[i]?=some x)(ha:QA X (e::es) fa)(hl:GZ fa n)
  (hv:Vis X.env.scope x:=by first|exact Or.inl rfl|exact Or.inr (Or.inl rfl)|calc Or.inr (Or.inr rfl)) (hdb:(x==("__debug__" : Str))=false:=by decide) (hcd:(x==("__classdict__" : Str))=false:=by decide)
  (he:starEach (e::es) X.env=(false,eval e X.env)::starEach es X.env:=by rfl) (hpl:(backTo pos (starEach es X.env)).any (·.1)=false:=by rfl):
  QE X (.Call (.Name x p) (e::es) [] pos) (Ey i l g fa):=.mk <| by
 rintro zB s τ H Q I ⟨L,Y,M,d,M',k0,rs,hf,q⟩;erw[Ey]at hf;cbv at hf
 .intros l' cs e1;cbv at hf
  .intros hl';subst hl';cbv at hf
   .intros ds M1 e2;cbv at hf
    .intros d' M2 e3;ext hf;let(fd,ps,hb,(oc,od,fd',sl,fo),FO):=F.ex;let(v,e4,r4):=rs.2 i _ e1;erw[Rep]at r4;let(rfl,cf,rc):=r4;refine wpAny_Call_Name_kw (thn (UO hN hv hdb hcd zB s τ H (λv H'=>v=.ref l'.f/\H'=H) I #[_,e4,rfl,rfl]) λu s1 ⟨v,H1,I1,rv,ev,eH⟩=>?_);subst ev eH;obtain rfl:u=Value.ref l'.f:=rv;refine PySem.W.callWith_F #[_,_,_,_,I1.bk _ _ fo] (thn (ha.un pos zB s1 τ H1 (λvs H2=>∃L2,Stp L H1 L2 H2/\Cor X.K L2 M1 H2/\zH L2 H2 ds vs) I1 #[L,Y,M,ds,M1,k0,rs,e2,λL2 H2 vs a1 a2 a3=>#[L2,a1,a2,a3]]) λus s2 ⟨vs,H2,I2,rv2,L2,s2',k2,r2⟩=>#[#[_,_,_,_,I2.bk _ _ fo],?_]) he hpl;have:=Ri FO hr hb .nil Qy I2 rv2 (by
      rw[BI];calc#[L2,ds,cs,M1,d',M',k2,r2,hl _ _ _ _ e2,cf.keep s2'.frz,rc.stp s2',e3,λL3 H3 v s3 k3 r3=>q L3 H3 v (s2'.trans s3) k3 r3])
     simpa using this
    .ext hf
   .ext hf
  .ext hf
 .ext hf
end
def Qw{P:Ym}{w:Yo}{K:Yb}{mg:Yh}{base:Heap}{qual x:Str}{st:Stmt}{f c:Yt}{fd:Yz}{N ps:Yk}{b:FS}{n k:Nat}(F:Fun K x qual st f fd)(S:FnScope N ps (zI st))(hn:ps.length=n)(hc:fd.code=.ref c)
  (hb:∀(A:Yn)(outer:List Env)(s:Yl)(H:Hp)(E:XK),Room k (A.deeper (envOfC qual (zI st) ⇑s f (.ref c)))->QSs (Ff CX0 P w K mg base N qual (zI st) f (.ref c) A outer s H E).nox (Ec st) b):
  FnOk P w K mg base CX0 (k+1) f fd ps (spF K n (AV N.length b)):=by
 let F':=F;let(oc,od,kV,doc,pm,an,cdv,ct,osl,rfl,lk,hcd):=F'.ex;let hc':cdv=.ref c:=hc;subst hc';refine Qp lk hcd S (λvs H Q E h=>?_) (λA outer s H vs Q E hr h=>#[_,(hb A outer s H E hr).un.nox,?_])
 .obtain⟨L,ds,M,d,M',c,r,hl,_⟩:=h;rw[r.length,hl,hn]
 .obtain⟨L,ds,M,d,M',c,r,hl,hf,q⟩:=h;erw[AV]at hf;cbv at hf
  .intros d' Y' M1 e1;ext hf;exact#[L,_,M,_,_,_,c,KC r,e1,λL1 H1 s1 c1 v r1=>q L1 H1 v s1 c1 r1]
  .intros Y' M1 e1;ext hf;exact#[L,_,M,_,_,_,c,KC r,e1,λL1 H1 s1 c1 τ' r1=>q L1 H1 .non s1 c1 (by erw[Rep];rfl)]
  .ext hf
def Lr(ts:Yg)(H:Hp):Prop:=(∀b xs,H b≠some (.lst xs))/\∀P∈ts,H P=some (.tbl #[])
def Wl{K:Yb}{ts:Yg}{H:Hp}(h:∀x∈HW,∀c P,PySem.W.tabIn K x=some (c,P)->P∈ts)(hO:Lr ts H):Hk K H:=λx hx c P e=>
 #[#[],hO.2 P (h x hx c P e),trivial,λpos v q=>by
  let q':(none:Option Value)=some v:=q;ext q']
def pW{K:Yb}{s₁:Yl}{vs:Yf}{ns:Ye}
  (KX:K.In s₁.heap) (hns:s₁.heap.Ns mainGlobals mg) (hb:s₁.heap.Ns builtinsNs mb) (hbb:∀x:Str,x ≠ "__name__" -> mb x=bootBuiltins x) (hlim:s₁.heap.NoLimit) (hbm:BMn mg s₁.heap) (hg:s₁.gens = #[])
  (ha:s₁.heap.get? a=some {cls:=.type "list",data:=.seq vs.toArray}) (hi:IntsAre vs ns) (hl:ns.length<=sizeLine) (hr:Room k callerA)
  (hnL:Hh K=true) (hnT:PySem.W.noTabs K=true) (hts:∀P∈ts,s₁.heap.get? P=some (PySem.W.tabObj #[])/\∃c,PySem.W.codeHdIn K c P=true)
  (F:∀base:Heap,K.In base->base.Ns mainGlobals mg->FnOk P w K mg base CX0 k fa fd [x] sp) (hbind:∀(s:Yl)(u:Yu),BindsTo s fd #[[u],[]] [(x,u)])
  (hsp:∀H:Hp,Lr ts H->SqL K H a (ns.map V.int)->sp [.ref a] H (λv _=>v=.bl true) λ_ _ _=>False):
  codeAny (model P w) callerA (.call (.ref fa) #[[.ref a],[]]) (λr s'=>r=.ok (.ret (.bool true))/\OldK s₁.heap s'.heap/\s'.os=s₁.os/\AllBare s'.gens) s₁:=by
 let rv:=Tp hi;let lenV:=hi.length;let aT:a∉ts:=λz=>by
  have:=(hts a z).1;rw[ha]at this;ext this
 let Ka:K.lookup a=none:=by
  cases q:K.lookup a with
  |none=>rfl
  |some o=>
   let e:=KX a o q;rw[ha]at e;ext e;exact(R4 hnL q rfl).elim
 let KT:∀P∈ts,K.lookup P=none:=λP hP=>by
  cases q:K.lookup P with
  |none=>rfl
  |some o=>
   let e:=KX P o q;rw[(hts P hP).1]at e;ext e;let h2:=Am.mp hnT (P,_) (L9 q);exact absurd (show false=true from h2) Ax
 generalize hH:(λb=>if b=a then some (.frz {cls:=.type "list",data:=.seq vs.toArray} (.lst (ns.map V.int)))else if b∈ts then some (.tbl #[])else none:Hp)=H;let Ha:H a=some (.frz {cls:=.type "list",data:=.seq vs.toArray} (.lst (ns.map V.int))):=by rw[<-hH];exact AB rfl
 let Ht:∀P∈ts,H P=some (.tbl #[]):=λP hP=>by
  rw[<-hH];show(if P=a then _ else if P∈ts then _ else _)=_;let hPa:P≠a:=λz=>by subst z;exact aT hP
  rw[AE hPa,AB hP]
 let Hn:∀b,b≠a->b∉ts->H b=none:=λb h1 h2=>by
  rw[<-hH];show(if b=a then _ else if b∈ts then _ else _)=_;rw[AE h1,AE h2]
 let hO:Lr ts H:=by
  refine#[λb xs z=>?_,Ht];by_cases h1:b=a
  .rw[h1,Ha]at z;ext z
  .by_cases h2:b∈ts
   .rw[Ht b h2]at z;ext z
   .rw[Hn b h1 h2]at z;ext z
 let hok:HOk P w H s₁.heap:=λb u z=>by
  by_cases h1:b=a
  .subst h1;rw[Ha]at z;ext z;exact#[ha,by rw[AG];calc hl,vs,_,rv,ha]
  .by_cases h2:b∈ts
   .rw[Ht b h2]at z;ext z;exact(hts b h2).1
   .rw[Hn b h1 h2]at z;ext z
 let base_of:∀{b:Yt}{o:Obj},s₁.heap.get? b=some o->H b=none->(En s₁.heap H).get? b=some o:=λe n=>bP e n;let noA:∀{b:Yt}{o:Obj},s₁.heap.get? b=some o->(∀xs n,o.data≠.seq xs n)->(∀xs,o.data≠.fields xs)->H b=none:=λ{b o} e d1 d2=>by
  refine Hn b (λz=>?_) λz=>?_
  .rw[z,ha]at e;ext e;exact d1 _ _ rfl
  .rw[(hts b z).1]at e;ext e;exact d2 _ rfl
 let nsK:∀{b:Yt}{m:Yh},s₁.heap.Ns b m->(En s₁.heap H).Ns b m:=λ{b m} ⟨o,es,ep,e,d,r⟩=>#[o,es,ep,base_of e (noA e (λ_ _ z=>by rw[d]at z;ext z) λ_ z=>by rw[d]at z;ext z),d,r];let hKb:K.In (En s₁.heap H):=λb o e=>base_of (KX b o e) (Hn b (λz=>by rw[z,Ka]at e;ext e) λz=>by rw[KT b z]at e;ext e);let bmK:BMn mg (En s₁.heap H):=by
  let(bm,ob,b1,b2,b3,b4,b5,b6):=hbm;exact#[bm,ob,b1,b2,base_of b3 (noA b3 (λ_ _ z=>by rw[b6]at z;ext z) λ_ z=>by rw[b6]at z;ext z),b4,b5,b6]
 let hM:Mod K mg (En s₁.heap H):=#[hKb,nsK hns,#[mb,nsK hb,hbb],let⟨mc,h1,h2⟩:=hlim;#[mc,nsK h1,h2],bmK];let e0:Env0 P w K mg (En s₁.heap H) callerA [] s₁ H:=#[rfl,hM,λb o e=>VM e,Nat.le_of_eq (nV _ _),trivial,λb hb=>absurd (show b∈([]:List Addr)from hb) (by simp),hok,.of_eq hg];refine codeAny_mono ((F _ hKb (nsK hns)).run callerA [] s₁ H #[[.ref a],[]] [.ref a] [.ref a] _ _ hr e0 (hbind s₁ (.ref a)) (.cons rfl .nil) (hsp H hO (.inl (.inr #[_,Ha])))) λr s' h=>?_;cases r with
 |error e=>calc False.elim h
 |ok fl=>
  cases fl with
  |next=>calc False.elim h
  |brk=>calc False.elim h
  |cont=>calc False.elim h
  |ret u=>
   let(v,H',os,bare,un,hok',r',q):=h;let q':v=.bl true:=q;subst q';obtain rfl:u=Value.bool true:=r';let tb:∀P∈ts,∃more,s'.heap.get? P=some (PySem.W.tabObj (#[]++more)):=λP hP=>by
    let(more,z):=un.tbls P _ (Ht P hP);exact#[more,hok' P _ z]
   refine#[rfl,#[λb o e=>?_,λb o e=>un.there b o e (by simp)],os,bare];by_cases h2:b∈ts
   .obtain⟨more,z⟩:=tb b h2;let(e1,c,hc):=hts b h2;rw[e]at e1;ext e1;exact .inr (.inl #[((PySem.W.codeHd_of_K KX hc).tab e).isCodeTable,rfl,#[],more,rfl,z])
   .refine .inl ?_;by_cases h1:b=a
    .subst h1;let z2:=un.frzs b _ _ Ha;let(e2,_):=hok' b _ z2;rw[ha]at e;ext e;exact e2
    .exact un.keep b o e (Hn b h1 h2) (by intro z;calc absurd (show b∈([]:List Addr)from z) (by simp)) (by simp)
def A6(K:Yb)(ts:Yg):Prop:=(∀P∈ts,∃c,PySem.W.codeHdIn K c P=true)/\∀x∈HW,∀c P,PySem.W.tabIn K x=some (c,P)->P∈ts
def lZ{l:PySem.W.OpenLaw}{n k:Nat}{q:Ym}{loose:Yk}{XP:(Str->Option Value)->Heap->Prop}{d:DefRec}{K:Params->PySem.W.Frag}{as:Yg}{ee:∀P,as=(K P).map (·.1)}{ts:Yg}{m:FF}{x:Str}
  (hn:l.most=some n) (hn2:n<=sizeLine) (hdf:d.params.defaults=[]) (hr:Room k callerA)
  (hL:∀w:World,Hh (K w.params)=true) (hT:∀w:World,PySem.W.noTabs (K w.params)=true)
  (F:∀(w:Yo)(mg:Yh)(fa:Yt)(h:Heap),(K w.params).In h->h.Ns mainGlobals mg->mg d.name=some (.ref fa) ->
   A6 (K w.params) ts/\∃fd:FuncData,(∀(s:Yl)(u:Yu),BindsTo s fd #[[u],[]] [(x,u)]) /\
    ∀base:Heap,(K w.params).In base->base.Ns mainGlobals mg->FnOk l.prog w (K w.params) mg base CX0 k fa fd [x] (spF (K w.params) 1 m))
  (hsp:∀ns:List Int,ns.length<=n->∃M',m [.ref 0] [.fro (ns.map D.int)]=some (.bl true,M')):
  PySem.W.WalkO q loose XP (PySem.W.kmHook K as ee ts).says l.row.toRowW d [] (λf vs=>PySem.call f vs):=by
 refine Att.nE hn hdf λw s₀ s₁ mg mb fa o pm cd doc a vs ns G YY ho hd hcd hmg hobj hints hlen hg=>?_;let KX:=PySem.W.km_in_of YY;let((c1,c2),fd,hb,hF):=F w mg fa _ KX G.T.g hmg;calc pW KX G.T.g G.T.b G.T.builtins G.T.nolimit G.T.bmain hg hobj hints (Ab hlen hn2) hr (hL w) (hT w) (λP hP=>#[PySem.W.km_tabs_of YY P hP,c1 P hP]) hF hb λH hO hS=>bC (hL w) (Wl c2 hO) hO.1 hS (hsp ns hlen)
structure Tb(K:Yb)(x:Str){st:Stmt}(g:Dg K x st) where
 c:Addr
 P:Addr
 {od:Option Addr}
 {sl:Array (Option Value)}
 {vs:Yp}
 e:g.cd=.ref c
 l:K.lookup c=some #[.type "code",od,.fields vs,sl]
 v:vs[11]?=some (.ref P)
 h:PySem.W.codeHdIn [(c,#[.type "code",od,.fields vs,sl])] c P=true
section
variable{K:Yb}{x:Str}{st:Stmt}{g:Dg K x st}
def Tb.tab(t:Tb K x g):PySem.W.tabIn K x=some (t.c,t.P):=by
 let h1:=g.a;let h2:=g.l;let h3:=t.e;let h4:=t.l;let h5:=t.v;generalize g.cd=cd at h2 h3;subst h3;erw[PySem.W.tabIn];simp only[h1,h2,h4,h5]
def Tb.hd(t:Tb K x g):PySem.W.codeHdIn K t.c t.P=true:=by
 let h4:=t.l;let h6:=t.h;let e:List.lookup t.c [(t.c,(⟨.type "code",t.od,.fields t.vs,t.sl⟩:Obj))]=K.lookup t.c:=by rw[h4,Ei];simp
 unfold PySem.W.codeHdIn at h6 ⊢;rw[e]at h6;calc h6
def XH(h:Zn K x):PySem.W.tabIn K x=none:=by
 erw[PySem.W.tabIn];rw[h]
def VB(xs:List (Str×Addr×Addr))(h1:∀p∈xs,PySem.W.tabIn K p.1=some (p.2.1,p.2.2)/\PySem.W.codeHdIn K p.2.1 p.2.2=true)(h2:∀x∈HW,x∉xs.map (·.1)->PySem.W.tabIn K x=none)
  (h3:(ts.all (λP=>xs.any (·.2.2==P))&&xs.all (λp=>ts.contains p.2.2))=true):A6 K ts:=by
 rw[BB,Am,Am]at h3;refine#[λP hP=>?_,λx hx c P e=>?_]
 .obtain⟨p,hp,e⟩:=List.any_eq_true.mp (h3.1 P hP);rw[beq_iff_eq]at e;subst e;exact#[_,(h1 p hp).2]
 .by_cases z:x∈xs.map (·.1)
  .obtain⟨p,hp,rfl⟩:=AL.mp z;rw[(h1 p hp).1]at e;ext e;exact List.contains_iff_mem.mp (h3.2 p hp)
  .rw[h2 x hx z]at e;ext e
def LamOk.mono{P:Ym}{w:Yo}{mg:Yh}{base:Heap}{j k n:Nat}{l:Lm}{g:List D->FF}(h:LamOk P w K mg base j l n g)(hk:j<=k):LamOk P w K mg base k l n g :=
 let⟨fd,ps,a,b,c⟩:=h.ex;#[fd,ps,a,b,c.mono hk]
def Tr(h1:GZ g1 a)(h2:GZ g2 b)(h:a+(b+1)=n):∀Y M ds1 M1 ds2 M2,g1 Y M=some (ds1,M1)->g2 Y M1=some (ds2,M2)->ds1.length+(ds2.length+1)=n:=λY M ds1 M1 ds2 M2 e1 e2=>by
 rw[h1 _ _ _ _ e1,h2 _ _ _ _ e2,h]
def Px{X:Cx}{sc:Y0}{y:Str}{n:Nat}(h:X.N[n]?=some y/\X.env.scope.names.lookup y=some .cell/\(y,NameKind.free)∈sc.names):∀(i:Nat) x j,[y][i]?=some x->[n][i]?=some j->X.N[j]?=some x/\X.env.scope.names.lookup x=some .cell/\(x,NameKind.free)∈sc.names:=λi x j h1 h2=>by
 cases i with
 |zero=>simp at h1 h2;subst h1;subst h2;calc h
 |succ i=>simp at h1
end
def Py:Expr->Bool
 |.Lambda _ _ _ _=>true
 |_=>false
def Vm(e:Expr):Expr:=match e with
 |.Subscript (.Call _ args _ _) _ _=>(args.find? Py).getD e
 |.Call _ args _ _=>(args.find? Py).getD e
 |_=>e
def OS(st:Stmt):Expr:=match Ec st with
 |[.Return (some e) _]=>Vm e
 |_=> .Constant .none 0 #[0,0,0,0]
def VQ(e:Expr):Arguments:=match e with
 |.Lambda p _ _ _=>p
 |_=>GN (.Pass #[0,0,0,0])
def k8(e:Expr):Expr:=match e with
 |.Lambda _ b _ _=>b
 |_=>e
def iG(e:Expr):Scope:=match e with
 |.Lambda _ _ s _=>s
 |_=>zI (.Pass #[0,0,0,0])
abbrev PL(base:Heap)(l:Lm)(st:Stmt)(fs:Yk):Prop:=LamAt base l (VQ (OS st)) (k8 (OS st)) (iG (OS st)) fs
def Oo(neg:Bool)(K:Yb):R2:=λx y H Q=>∃(L:Yg)(d:D)(ds:List D)(p:Yt)(xs:List V),y=.ref p/\(SqL K H p xs\/SqT K H p xs)/\zm 1 d=true/\ds.all (zm 1)=true/\Rep L H d x/\zH L H ds xs/\Q (.bl (nb neg (ds.any λe=>Aq 1 e d))) H
section
variable{X:Cx}{a b:Expr}{pos:Pos}{f g:FE}{zB:Yd}{Y:L2.St}{H:Hp}{s:Yl}{L:Yg}{d:D}{ds:List D}{xs:List V}{its:Yf}{v:V}{u:Yu}
open Classical in
def eY(L:Yg)(H:Hp)(ds:List D)(d:D)(y:Yu):Bool:=decide (∃e,e∈ds/\(∃v,Rep L H e v/\zh v y)/\Aq 1 e d=true)
open Classical in
def N2(hs:ds.all (zm 1)=true){e:D}{v:V}{y:Yu}(he:e∈ds)(r:Rep L H e v)(q:zh v y):eY L H ds d y=Aq 1 e d:=by
 rw[Am]at hs;let h1:=hs e he;let key:(∃e,e∈ds/\(∃v,Rep L H e v/\zh v y)/\Aq 1 e d=true)↔Aq 1 e d=true:=by
  constructor
  .rintro⟨e',h2,⟨v',r',q'⟩,h3⟩;let h4:=hs e' h2;have:v=v':=by
    cases e <;> first|cases h1|skip
    cases e' <;> first|cases h4|skip
    let r1:=r;let r2:=r';unfold Rep at r1 r2;let(a1,_,rfl,_):=r1;let(a2,_,rfl,_):=r2;ext q;ext q';rfl
   subst this;rw[QR 1 e e' v h1 h4 r r'];exact h3
  .intro h;exact#[e,he,#[v,r,q],h]
 erw[eY];cases z:Aq 1 e d with
 |true=>calc Az (key.mpr z)
 |false=>exact Aw λw=>by rw[key.mp w]at z;ext z
def Oe(rr:zH L H ds xs)(r:zd xs its)(h:j<its.length):∃e v,e∈ds/\ds[j]?=some e/\Rep L H e v/\zh v its[j]:=by
 let l1:xs.length=its.length:=r.length;let l2:xs.length=ds.length:=rr.length;let hj:j<ds.length:=()
 let(v,g1,t1):=rr.get (AO hj);let(o,g2,t2):=r.get g1;rw[AO h]at g2;ext g2;calc#[_,v,Bc hj,AO hj,t1,t2]
def Kn(I:Inv X zB Y H s)(hu:X.A.units+1+1<cLine)(hd:zm 1 d=true)(hs:ds.all (zm 1)=true)(rd:Rep L H d v)(rx:zh v u)(rr:zH L H ds xs)(r:zd xs its)(w:Yu)(hw:w∈its):SeqAt.EqAt X.A.in1 s w u (eY L H ds d w):=by
 let(j,hj,rfl):=Dm hw;let(e,v',he,_,re,q):=Oe rr r hj;rw[N2 hs he re q];rw[Am]at hs;calc RC I 1 X.A.in1 _ _ _ _ _ _ hu (hs e he) hd re rd q rx
def K0(hs:ds.all (zm 1)=true)(rr:zH L H ds xs)(r:zd xs its):its.any (eY L H ds d)=ds.any λe=>Aq 1 e d:=by
 let l1:xs.length=its.length:=r.length;let l2:xs.length=ds.length:=rr.length;rw[Ew,List.any_eq_true,List.any_eq_true];constructor
 .rintro⟨w,hw,h⟩;let(j,hj,rfl):=Dm hw;let(e,v',he,_,re,q):=Oe rr r hj;rw[N2 hs he re q]at h;exact#[e,he,h]
 .rintro⟨e,he,h⟩;let(j,hj,rfl):=Dm he;let(e',v',he',g,re,q):=Oe rr r (j:=j) ();rw[AO hj]at g;ext g;calc#[its[j],Bc (),by rw[N2 hs he' re q];calc h]
def hY(hu:X.A.units+1+1<cLine):OpR X (compareOp .In) (Oo false X.K):=by
 intro zB s Y H x y v u Q I rx ry h;let(L,d,ds,p,xs,rfl,hq,hd,hs,rd,rr,q):=h;ext ry;rcases hq with hq|hq
 .obtain⟨its,r,pl,hz⟩:=I.list hq;refine SeqAt.in_listAt (eY L H ds d) pl.isList (λw hw=>Kn I hu hd hs rd rx rr r w (~~~hw)) #[.bl _,H,I,rfl,?_];rw[show its.toArray.any (eY L H ds d)=its.any (eY L H ds d)by simp,K0 hs rr r];exact q
 .obtain⟨its,r,pl,hz⟩:=I.tuple hq;refine SeqAt.in_tupleAt (eY L H ds d) pl (λw hw=>Kn I hu hd hs rd rx rr r w (~~~hw)) #[.bl _,H,I,rfl,?_];rw[show its.toArray.any (eY L H ds d)=its.any (eY L H ds d)by simp,K0 hs rr r];calc q
def bZ(hu:X.A.units+1+1<cLine):OpR X (compareOp .NotIn) (Oo true X.K):=by
 intro zB s Y H x y v u Q I rx ry h;let(L,d,ds,p,xs,rfl,hq,hd,hs,rd,rr,q):=h;ext ry;rcases hq with hq|hq
 .obtain⟨its,r,pl,hz⟩:=I.list hq;refine SeqAt.notIn_listAt (eY L H ds d) pl.isList (λw hw=>Kn I hu hd hs rd rx rr r w (~~~hw)) #[.bl _,H,I,rfl,?_];rw[show its.toArray.any (eY L H ds d)=its.any (eY L H ds d)by simp,K0 hs rr r];exact q
 .obtain⟨its,r,pl,hz⟩:=I.tuple hq;refine SeqAt.notIn_tupleAt (eY L H ds d) pl (λw hw=>Kn I hu hd hs rd rx rr r w (~~~hw)) #[.bl _,H,I,rfl,?_];rw[show its.toArray.any (eY L H ds d)=its.any (eY L H ds d)by simp,K0 hs rr r];calc q
def EH(neg:Bool):K2:=λx y M=>match x with
 |.dat d=>match A7 M y with
  |some ds=>if zm 1 d&&ds.all (zm 1)then some (.dat (.bl (nb neg (ds.any λe=>Aq 1 e d))),M)else none
  |none=>none
 |_=>none
def Rg{K:Yb}{neg:Bool}:BM K (Oo neg K) (EH neg):=by
 intro L M M' H H0 x y d v w Q cc rx ry hk q;erw[EH]at hk;cbv at hk
 .intros d';cbv at hk
  .intros ds e1;cbv at hk
   .intros hb;ext hk;rw[BB]at hb;let(p,vs,rfl,hs,r):=OA cc ry e1;exact#[L,d',ds,p,vs,rfl,hs,hb.1,hb.2,rx,r,q L H _ (.refl L H) cc (B7 (L:=L) (H:=H))]
   .ext hk
  .ext hk
 .ext hk
def YL(hu:X.A.units+1+1<cLine)(h1:QE X a f)(h2:QE X b g)(hm:behindInMarks .In b=false:=by rfl):QT X (.Compare a [.In] [b] pos) (tst (fOp (EH false) f g)):=E4 Rg (hY hu) h1 h2 hm
def Xx(hu:X.A.units+1+1<cLine)(h1:QE X a f)(h2:QE X b g)(hm:behindInMarks .NotIn b=false:=by rfl):QT X (.Compare a [.NotIn] [b] pos) (tst (fOp (EH true) f g)):=E4 Rg (bZ hu) h1 h2 hm
end
end L3
namespace ST
section
variable{prog:Ym}{w:Yo}{A:Yn}{E:Yc}{s:Yl}{κ:SortKind}{vs:Yf}{r:Yr}{st:SortSt}
def gE:∀n,n<64->minRun' n n 0=n:=by decide+kernel
def Dn(r:Yr)(st0 st:SortSt):Prop:=failedOf st=none/\(arrOf st).toList.Perm (arrOf st0).toList/\(arrOf st).toList.Pairwise (λx y=>r x.1<=r y.1)/\(pendingOf st).size<=1
def p9(hn:xs.size<=n)(hu:RUp r xs 0 n):xs.toList.Pairwise (λx y=>r x.1<=r y.1):=by
 rw[List.pairwise_iff_getElem];intro i j hi hj hij;rw[BU]at hi hj;have:=hu i j (BV _) (DW hij) ();erw[KR]at this;rw[Cq hi,Cq hj]at this;calc this
def i9(R:Ez prog w s κ vs r)(hk:kindOf st=κ)(hf:failedOf st=none)(hp0:pendingOf st = #[])(hv:∀x∈(arrOf st).toList,x.1∈vs)(hn:(arrOf st).size<64)
  (q:∀st',Dn r st st'->Q Unit.unit st'):wpS (model prog w) A E s sortRuns' Q st:=by
 let hm:=gE _ hn;calc wpS_bind (wpS_get ?_);refine wpS_bind (wpS_mono (wpS_forRange (I:=λx c st'=>(c=(none,0)/\x=0/\st'=st)\/(c=(none,(arrOf st).size)/\Dn r st st')) (Q:=λc st'=>(∃lo,c=(none,lo))/\Dn r st st') ?step ?fin (.inl #[rfl,rfl,rfl])) ?post)
 case fin=>
  rintro c st' (⟨rfl,hx,rfl⟩|⟨rfl,hd⟩)
  .have h0:max 0 (arrOf st').size=0:=hx;let e:(arrOf st').toList=[]:=EF.mp (by rw[BU];omega);exact#[#[_,rfl],hf,.refl _,by rw[e];calc .nil,by rw[hp0];simp]
  .exact#[#[_,rfl],hd]
 case post=>
  rintro c st' ⟨⟨lo,rfl⟩,hd⟩;refine wpS_bind (wpS_mono (wpS_forRange (I:=λx c st2=>c=(none,Unit.unit)/\Dn r st st2) (Q:=λc st2=>c=(none,Unit.unit)/\Dn r st st2) ?step2 (λ_ _ z=>z) #[rfl,hd]) ?post2)
  case step2=>
   rintro x c st2 _ hx ⟨rfl,hd⟩;calc wpS_bind (wpS_get ?_);exact EL (λ_=>wpS_pure #[rfl,hd]) (λc1=>absurd hd.2.2.2 c1)
  case post2=>
   rintro c st2 ⟨rfl,hd⟩;exact wpS_pure (q st2 hd)
 case step=>
  rintro x c st' _ hx (⟨rfl,rfl,rfl⟩|⟨rfl,hd⟩)
  .refine EL (λc1=>?_) (λc1=>?_)
   .have c1':(arrOf st').size<=0:=c1;let e:(arrOf st').toList=[]:=EF.mp (by rw[BU];omega);exact wpS_pure #[#[_,rfl],hf,.refl _,by rw[e];calc .nil,by rw[hp0];simp]
   let c1':0<(arrOf st').size:=Nat.lt_of_not_le c1;refine wpS_bind (bO (lo:=0) (nrem:=(arrOf st').size-0) R hk hv () () λn st1 cb n1 n2 hu=>?_);let fin:∀(n:Nat)(st1:SortSt),CB 0 st' st1->RUp r (arrOf st1) 0 (0+n)->n=(arrOf st').size->((none:Option Unit),0+n)=(none,(arrOf st').size)/\Dn r st' (setPending st1 ((pendingOf st1).push (0,n,0))):=λn st1 cb hu e=>#[by rw[e,Nat.zero_add],cb.f.trans hf,cb.perm.toList,p9 (by have:=cb.size;show(arrOf st1).size<=0+n;omega) hu,by
    show((pendingOf st1).push (0,n,0)).size<=1;rw[Array.size_push,cb.p,hp0];simp]
   refine EL (λc2=>?_) (λc2=>?_)
   .refine wpS_bind (wpS_lift (CS #[rfl,?_]));let c2':n<minRun' (arrOf st').size (arrOf st').size 0:=c2;refine wpS_bind (lJ (n:=min ((arrOf st').size-0) (minRun' (arrOf st').size (arrOf st').size 0)) R hk hv cb () n1 () hu λst2 cb2 hu2=>?_);refine EL (λz=>absurd z ()) (λ_=>?_);refine wpS_bind (wpS_get ?_);split
    .intros hb;let hb:(pendingOf st2).back?=some _:=hb;rw[cb2.p,hp0]at hb;ext hb
    .exact wpS_bind (wpS_modify (wpS_pure (.inr (fin _ st2 cb2 hu2 (show min ((arrOf st').size-0) (minRun' (arrOf st').size (arrOf st').size 0)=(arrOf st').size by rw[hm];omega)))))
   .have c2':¬ n<minRun' (arrOf st').size (arrOf st').size 0:=c2;refine wpS_bind (wpS_get ?_);split
    .intros hb;let hb:(pendingOf st1).back?=some _:=hb;rw[cb.p,hp0]at hb;ext hb
    .exact wpS_bind (wpS_modify (wpS_pure (.inr (fin _ st1 cb hu ()))))
  .exact EL (λ_=>wpS_pure #[#[_,rfl],hd]) (λc1=>absurd (AF _) c1)
end
section
variable{prog:Ym}{w:Yo}{A:Yn}{E:Yc}{s:Yl}{κ:SortKind}{vs:Yf}{r:Yr}
def Xf(h64:vs.length<64)(R:Ez prog w s κ vs r):wpS (model prog w) A E s sortRuns' (λ_ st=>failedOf st=none/\((arrOf st).map (·.2)).toList.Perm vs/\((arrOf st).map (·.2)).toList.Pairwise λx y=>r x<=r y) (SortSt.mk' κ (pairsOf vs) #[] 7 none):=by
 let hz:(pairsOf vs).toList=vs.zip vs:=pairsOf_toList vs;let hv:∀p∈(pairsOf vs).toList,p.1∈vs:=λp hp=>by rw[hz]at hp;exact(mem_zip_self hp).2
 let hl:(pairsOf vs).size<64:=by rw[<-BU,hz,List.length_zip];omega
 refine i9 R rfl rfl rfl hv hl λst hd=>#[hd.1,?_,?_]
 .rw[Array.toList_map];have:=hd.2.1.map (·.2);rw[show(arrOf (SortSt.mk' κ (pairsOf vs) #[] 7 none)).toList=vs.zip vs from hz,List.map_snd_zip (AF _)]at this;exact this
 .rw[Array.toList_map];let hp:(arrOf st).toList.Perm (vs.zip vs):=hz▸hd.2.1;refine FL.mpr ((List.Pairwise.and_mem.mp hd.2.2.1).imp λ{x y} h=>?_);let hx:=(mem_zip_self (hp.mem_iff.mp h.1)).1;let hy:=(mem_zip_self (hp.mem_iff.mp h.2.1)).1;rw[<-hx,<-hy];calc h.2.2
def lA
  (hc:wpAny (model prog w) A.in1 (collect v) (λvs s1=>vs.length<64/\Om s1.heap vs /\
   ∀(h':Heap)(out:List Value)(n:Nat),(∀b u,s1.heap.get? b=some u->h'.get? b=some u)->h'.get? ⇑s1=some (seqObj "list" out.toArray n)->out.Perm vs->out.Pairwise (λx y=>Ai (Cd s1.heap y) (Cd s1.heap x)=false)->Q (.ref ⇑s1) {s1 with heap:=h' }) E s):
  wpAny (model prog w) A (call (.builtin "sorted") [v]) Q E s:=by
 calc Calls.call_function_entry kind_sorted plain_sorted entry_sorted (args_sorted1 _) ?_;unfold Builtin.«sorted»;calc AA (m:=checkCount "sorted" 1 1 _) (AD ?_);refine AA (AQ hc (λvs s1 z=>?_) λ_ _ e=>e);let(h64,ht,h):=z;let hz:vs.length<=sizeLine:=Ab (DW h64) ();calc AA (wpAny_newList ?_ hz);let hoL:(s1.heap.push (seqObj "list" vs.toArray 0)).get? ⇑s1=some (seqObj "list" vs.toArray 0):=AS _ rfl;refine AA (Bu (BQ slot_list_sort #[_,hoL,rfl] entry_list_sort (i8 (κ:=tuples' true) (F:=λout=>out.toList.Perm vs/\out.toList.Pairwise (λx y=>Ai (Cd s1.heap y) (Cd s1.heap x)=false)) (s:={s1 with heap:=s1.heap.push (seqObj "list" vs.toArray 0) }) hoL hz (λout e=>by rw[<-BU];calc e.1.length_eq) (λh2=>#[by simp,?_]) ?_ λout e=>#[_,rfl,?_]) (args_list_sort _)))
 .match vs,h2 with
  |[],_=>calc .nil
  |[x],_=>simp
  |_::_::_,h2=>simp at h2;omega
 .intro h2 h6 k6;let kT:∀{v xs},Bk s1.heap v xs->Bk h6 v xs:=λ{v xs} t=>t.keep λb o _ e=>k6 b o (λz=>BS _ (z▸AH e)) (AJ _ e);let ht6:Om h6 vs:=λv hv=>let⟨x,xs,t⟩:=ht v hv;#[x,xs,kT t];refine#[λA E Q q=>?_,λA E=>wpS_mono (Xf h64 (Wv (s:={s1 with heap:=h6}) ht6)) ?_]
  .match vs,h2,ht6 with
   |v::vs,_,ht6=>exact cV (s:={s1 with heap:=h6}) ht6 q
  .rintro _ st ⟨e1,e2,e3⟩;refine#[e1,e2,(List.Pairwise.and_mem.mp e3).imp λ{x y} z=>?_];let mx:=e2.mem_iff.mp z.1;let my:=e2.mem_iff.mp z.2.1;let(a,as,tx):=ht x mx;let(b,bs,ty):=ht y my;rw[Fb tx,Fb ty,<-Fb (kT tx),<-Fb (kT ty),Pk (ks:=vs.map (Cd h6)) (List.mem_map_of_mem my) (List.mem_map_of_mem mx)];have:rkV h6 vs x<=rkV h6 vs y:=z.2.2;erw[rkV]at this;exact Aw ()
 .refine AD #[_,rfl,?_];let g1:=get?_update_seq hoL (λ_=> #[]);let g4:=get?_update_seq (AJ (seqObj "list" #[] 0) (AJ (seqObj "tuple" vs.toArray 0) g1)) (λ_=>out);refine h _ out.toList _ (λb u e=>?_) (by rw[Array.toArray_toList];calc g4) e.1 e.2;let hb:⇑s1≠b:=λz=>BS _ (z▸AH e);calc(Er _ _ hb).trans (AJ _ (AJ _ ((Er _ _ hb).trans (AJ _ e))))
end
end ST
namespace L3
open L2 ST
section
variable{X:Cx}
def oK(hc:X.calm=true):B1 X (.builtin "sorted") (λxs H Q=>∃(d:Addr)(kvs:List (List Key×V))(ts:List (List Int)),xs=[.ref d]/\Rd H d (.dT kvs)/\kvs.map (·.1)=ts.map kkI/\(∀t∈ts,t≠[])/\ts.length<64/\∀ys l,KD H ys (A0 ts)->H l=none->Q (.ref l) (upd H l (.lst ys))):=by
 intro zB s Y H xs us Q I r h;let(d,kvs,ts,rfl,ed,ets,hne,h64,q):=h;let(u,rfl,rx):=DZ r;ext rx;let(z1,z2,xs,r,o,es,en,h1,h2,h3,h4,h5):=(show Ah X.prog X.w H s.heap d (.dT kvs)from ed.ok I.hok);let hsz:es.size=kvs.length:=by rw[Paired.length r,<-BU,h4,AG]
 let htl:ts.length=kvs.length:=by have:=Ba List.length ets;simpa using this.symm
 let kat:∀(i:Nat) t,ts[i]?=some t->∃b u,es[i]?=some (entryOfKey (tupleKind (BY X.prog X.w)) (kkI t,b,u))/\H b=some (.tup ((kkI t).map kV)):=by
  intro i t e;let hi:i<kvs.length:=by rw[<-htl];exact(AI.mp e).1
  let e1:(kvs.map (·.1))[i]?=some (kkI t):=by rw[ets,Au,e];rfl
  rw[Au,AO hi]at e1;let e2:kvs[i]?=some (kkI t,kvs[i].2):=by rw[AO hi];have:=Be e1;rw[<-this]
  let(b,u,h6,h7,_):=Qk r e2;exact#[b,u,by rw[<-F7,h4,Au,h6];rfl,h7]
 refine lA (lQ (k5 z2 h2.1 h3) (I.ok.hd hc) h1 () λh' tk acc hk hle hacc=>?_);let hal:acc.toList.length=ts.length:=by rw[BU,hacc.1,hsz,htl]
 let aat:∀(i:Nat) u,acc.toList[i]?=some u->∃t b,ts[i]?=some t/\u=.ref b/\H b=some (.tup ((kkI t).map kV))/\Bk h' (.ref b) t:=by
  intro i u e;let hi:i<ts.length:=by rw[<-hal];exact(AI.mp e).1
  let e0:ts[i]?=some ts[i]:=AO hi;let(b,u',k2,k3):=kat i _ e0;rw[F7]at e;let(e',he',hv):=hacc.2 i u e;rw[k2]at he';ext he';exact#[_,b,e0,hv,k3,(XC (I.hok b _ k3)).keep λc o _ eo=>hk c o eo]
 refine#[by rw[hal];exact h64,λv hv'=>?_,λh2' out n hk2 hL hp hs=>?_]
 .obtain⟨i,hi⟩:=List.mem_iff_getElem?.mp hv';let(t,b,e1,rfl,_,tt):=aat i v hi;cases t with
  |nil=>calc absurd rfl (hne _ (Ca e1))
  |cons x t=>exact#[x,t,tt]
 .obtain⟨ys,rvy,tv⟩:=lP hal aat hp hs;calc#[.ref h'.objs.size,_,I.laid (t':=tk) (λb o e=>hk2 b o (hk b o e)) hle (show Ah X.prog X.w _ h2' _ (.lst ys)from#[by rw[tv.1,(F5 ts).length_eq,htl];calc z1,out,n,rvy,hL]),rfl,q ys _ tv (I.hok.fresh hle)]
def E5:KB:=λxs M=>match xs with
 |[x]=>match G2 M x with
  |some ps=>match IB (ps.map (·.1))with
   |some ts=>if JO ts=true/\ts.length<64 then some (.fl ((A0 ts).map λt=>D.tup (t.map D.int)),M)else none
   |none=>none
  |_=>none
 |_=>none
def qT:Dk X.K (λxs H Q=>∃(d:Yt)(kvs:List (List Key×V))(ts:Ya),xs=[.ref d]/\Rd H d (.dT kvs)/\kvs.map (·.1)=ts.map kkI/\(∀t∈ts,t≠[])/\ts.length<64/\∀ys l,KD H ys (A0 ts)->H l=none->Q (.ref l) (upd H l (.lst ys))) E5:=by
 intro L M M' H H0 xs d vs Q cc r hk q;erw[E5]at hk;cbv at hk
 .intros x;cbv at hk
  .intros ps e1;cbv at hk
   .intros ts e2;cbv at hk
    .intros e3;ext hk;let(v,rfl,r1):=r.one;let(a,ws,rfl,e4,r3):=QV cc r1 e1;exact#[a,ws,ts,rfl,e4,Tg e2 r3,Vz e3.1,e3.2,λys l tv hl=>q L _ _ (.upd hl) (cc.upd hl) (zX.newLst' cc hl (Pu tv))]
    .ext hk
   .ext hk
  .ext hk
 .ext hk
def aP(hc:X.calm=true)(hg:Gl X "sorted")(hm:X.mg "sorted" = none)(ha:QAE X [e] fa)(he:starEach [e] X.env=(false,eval e X.env)::starEach [] X.env:=by rfl)(hpl:(backTo pos (starEach [] X.env)).any (·.1)=false:=by rfl):QE X (.Call (.Name "sorted" p) [e] [] pos) (fB E5 fa) :=
 GC qT (oK hc) (by rfl) hg hm ha () () he hpl
end
end L3
namespace Law
open L2 L3
def Mz:FS:=(zW (zw 1 (fOp BA (fB An (zQ (zC 0) ze)) (fC (.int 3))))
  (zW (BO (AN (fSl (zC 0) DR (Cz (fC (.int 63))))) (gN 2) (zw 1 (fOp DB (fOp BA (fOp BA (fOp IG (zC 1) (fC (.int 6364136223846793))) (fOp DB (zC 2) (fOp Jb (fC (.int 10)) (fC (.int 30))))) (fC (.int 1442695040888963))) (fC (.int 2305843009213693951)))))
  (zq (Ar (zD (toD (zu [2] (AN (fSl (zC 0) DR (Cz (fC (.int 63))))) (gN 2) (tst (fOp kGe (fB Hc (zQ (zC 2) ze)) (fOp Jb (fC (.int 10)) (fC (.int 18))))) (fB Hc (zQ (zC 2) ze)))) (zD (toD (zC 1)) zG))))))
def IT:FF:=AV 3 Mz
def Ot:FS:=(zW (Bs (Cb (tst (fOp kNe (fOp kIx (zC 0) (fC (.int 0))) (Ar zG))) (tst (fOp kEq (fOp kIx (fOp kIx (zC 0) (fC (.int 0))) (fC (.int 0))) (fC (.int 0))))) (Bz (fM F1 (fOp kIx (zC 0) (fC (.int 0))) (zD (toD (fC (.int 0))) zG))) 100)
  (zW (sIf (tst (fOp kNe (fOp kIx (zC 0) (fC (.int 0))) (Ar zG))) (zW (zw 2 (fOp DB (fOp kIx (fOp kIx (zC 0) (fC (.int 0))) (fC (.int 0))) (zC 1)))
  (zW (Gm (fOp HL (fOp kIx (fOp kIx (zC 0) (fC (.int 0))) (fC (.int 0))) (zC 1)) (fOp kIx (zC 0) (fC (.int 0))) (fC (.int 0)))
  (zq (zC 2)))) Ao)
  (zW (Gm (fOp DB (fOp BA (fOp IG (fOp kIx (zC 0) (fC (.int 1))) (fC (.int 6364136223846793))) (fC (.int 1442695040888963))) (fC (.int 2305843009213693951))) (zC 0) (fC (.int 1)))
  (zq (fOp DB (fOp HL (fOp DB (fOp IG (fOp kIx (zC 0) (fC (.int 1))) (fOp kIx (zC 0) (fC (.int 1)))) (fC (.int 2305843009213693921))) (fC (.int 65537))) (zC 1))))))
def zo:FF:=AV 3 Ot
structure Gen(M:Mem)(n k:Nat):Prop where
 ex:∃(c:Ye)(s:Int),M[n]?=some (.lst [.ref k,.int s])/\M[k]?=some (.lst (c.map D.int))/\(∀x∈c,0<=x)/\c.length<=63/\0<=s/\s<2305843009213693951
 ne:n≠k
 wf:∀(j:Nat) u,M[j]?=some u->MO.und M.length u=true
structure Nx(M M':Mem)(n k:Nat):Prop where
 gen:Gen M' n k
 len:M'.length=M.length
 fr:∀j,j≠n->j≠k->M'[j]?=M[j]?
def Nx.refl(h:Gen M n k):Nx M M n k:=#[h,rfl,λ_ _ _=>rfl]
def Nx.trans{M M1 M2:Mem}{n k:Nat}(a:Nx M M1 n k)(b:Nx M1 M2 n k):Nx M M2 n k:=#[b.gen,b.len.trans a.len,λj h1 h2=>(b.fr j h1 h2).trans (a.fr j h1 h2)]
theorem Ce(n:Nat):∀c:List Int,D.unds n (c.map D.int)=true
 |[]=>rfl
 |x::r=>by
  show(D.und n (D.int x)&&D.unds n (r.map D.int))=true;rw[Ce n r];rfl
def Gen.lt(h:Gen M n k):n<M.length/\k<M.length:=by
 let(c,s,e1,e2,_):=h.ex;calc#[(AI.mp e1).1,(AI.mp e2).1]
def Gen.put{M:Mem}(h:Gen M n k){c:Ye}(hc:∀x∈c,0<=x)(hl:c.length<=63)(h0:0<=s)(h1:s<2305843009213693951):
  Nx M ((M.set k (.lst (c.map D.int))).set n (.lst [.ref k,.int s])) n k:=by
 let(hn,hk):=h.lt;refine#[#[#[c,s,?_,?_,hc,hl,h0,h1],h.ne,λj u e=>?_],by simp,λj h1 h2=>?_]
 .rw[B3 (~~~hn)]
 .rw[Ag h.ne,B3 hk]
 .rw[List.length_set,List.length_set];rw[Ea]at e;cbv at e
  .split at e
   .cases e;show D.unds _ _=true;erw[D.unds,D.unds,D.unds,D.und];simp[hk]
   .ext e
  .rw[Ea]at e;cbv at e
   .intros z;subst z;ext e;exact Ce _ _
   .exact h.wf j u e
 .rw[Ag (Ne.symm h1),Ag (Ne.symm h2)]
def OT{M:Mem}(h:M[k]?=some u):M.set k u=M:=by
 apply List.ext_getElem?;intro i;rw[Ea];split
 .intros e;subst e;rw[AB (AI.mp h).1];exact h.symm
 .rfl
theorem K4:∀{a b:Ye},a.map D.int=b.map D.int->a=b
 |[],[],_=>rfl
 |[],_::_,h=>by ext h
 |_::_,[],h=>by ext h
 |x::a,y::b,h=>by
  rw[AU,AU]at h;let h1:=(CF h).1;let h2:=K4 (CF h).2;ext h1;rw[h2]
def at0{x:D}{xs:List D}:atI (x::xs) 0=some x:=N3 rfl
def at1{x y:D}{xs:List D}:atI (x::y::xs) 1=some y:=N3 rfl
def YU(h:Gen M n k)(h0:0<m)(h1:m<1073741824):
  Ok (zo [.ref n,.int m] M) λd M'=>(∃i,d=.int i/\0<=i/\i<m)/\Nx M M' n k:=by
 erw[zo];rw[zn];erw[Ot];rw[zM];let st:∀{M:Mem}{c:Ye}{s:Int}{Y:Sd}{P:EV->Mem->Prop},Y[0]?=some (some (.ref n))->M[n]?=some (.lst [.ref k,.int s])->P (.dat (.ref k)) M->Ok (fOp kIx (zC 0) (fC (.int 0)) Y M) P:=λhσ hM p=>
  A4.mpr (A8.mpr #[_,hσ,BX.mpr (IV (zy hM) at0 p)])
 let sd:∀{M:Mem}{s:Int}{Y:Sd}{P:EV->Mem->Prop},Y[0]?=some (some (.ref n))->M[n]?=some (.lst [.ref k,.int s])->P (.dat (.int s)) M->Ok (fOp kIx (zC 0) (fC (.int 1)) Y M) P:=λhσ hM p=>
  A4.mpr (A8.mpr #[_,hσ,BX.mpr (IV (zy hM) at1 p)])
 let hd:∀{M:Mem}{c:Ye}{x s:Int}{Y:Sd}{P:EV->Mem->Prop},Y[0]?=some (some (.ref n))->M[n]?=some (.lst [.ref k,.int s])->M[k]?=some (.lst ((x::c).map D.int))->P (.dat (.int x)) M->Ok (fOp kIx (fOp kIx (zC 0) (fC (.int 0))) (fC (.int 0)) Y M) P:=λ{M c x s Y P} hσ hM hK p=>
  A4.mpr (st (c:=c) hσ hM (BX.mpr (IV (zy hK) at0 p)))
 let ne:∀{M:Mem}{c:Ye}{s:Int}{Y:Sd}{P:Bool->Mem->Prop},Y[0]?=some (some (.ref n))->M[n]?=some (.lst [.ref k,.int s])->M[k]?=some (.lst (c.map D.int))->P (!c.isEmpty) M->Ok (tst (fOp kNe (fOp kIx (zC 0) (fC (.int 0))) (Ar zG)) Y M) P:=λ{M c s Y P} hσ hM hK p=>by
  calc NG.mpr (A4.mpr (st (c:=c) hσ hM (JK.mpr (EC.mpr #[BV _,?_]))));rw[gC (Dv hK) (by intro d e;ext e;rfl)];rw[G7];simpa using p
 let W:∀(fuel m':Nat)(Y:Sd)(M':Mem),m'<fuel->((Y=[some (.ref n),some (.int m),none]/\Nx M M' n k)/\∃(c:Ye)(s:Int),M'[n]?=some (.lst [.ref k,.int s])/\M'[k]?=some (.lst (c.map D.int))/\c.length=m') ->
   OkS (Bs (Cb (tst (fOp kNe (fOp kIx (zC 0) (fC (.int 0))) (Ar zG))) (tst (fOp kEq (fOp kIx (fOp kIx (zC 0) (fC (.int 0))) (fC (.int 0))) (fC (.int 0))))) (Bz (fM F1 (fOp kIx (zC 0) (fC (.int 0))) (zD (toD (fC (.int 0))) zG))) fuel Y M')
    (λo σ1 M1=>o=.nx/\σ1=[some (.ref n),some (.int m),none]/\Nx M M1 n k):=by
  intro fuel m' Y M' hlt hI;refine JR (I:=λm' Y M'=>(Y=[some (.ref n),some (.int m),none]/\Nx M M' n k)/\∃(c:Ye)(s:Int),M'[n]?=some (.lst [.ref k,.int s])/\M'[k]?=some (.lst (c.map D.int))/\c.length=m') ?_ fuel m' Y M' hlt hI;rintro m' Y M' ⟨⟨rfl,nx⟩,c,s,e1,e2,hl⟩;calc Xw.mpr (ne rfl e1 e2 ?_);cases c with
  |nil=>simp;calc nx
  |cons x c=>
   simp only[List.isEmpty_cons,Bool.not_false,if_true];calc NG.mpr (A4.mpr (hd rfl e1 e2 (BX.mpr (FV.mpr (G7.mpr ?_)))));by_cases hx:x=0
   .rw[AB (~~~hx)];refine GF.mpr (F0.mpr (st (c:=c) rfl e1 #[#[_,Dv e2],C2.mpr (Bp.mpr (BX.mpr (zO.mpr (EC.mpr ?_))))]));rw[AU]at e2;rw[rQ e2];refine#[c.length,by rw[<-hl];simp,?_];let(c',s',z1,z2,z3,z4,z5,z6):=nx.gen.ex;rw[e1]at z1;ext z1;rw[e2]at z2;let hcc:c'=x::c:=by
     have:(x::c).map D.int=c'.map D.int:=by have:=z2;simp only[Option.some.injEq,MO.lst.injEq]at this;simpa using this
     exact(K4 this).symm
    subst hcc;let P:=nx.gen.put (c:=c) (s:=s) (λy hy=>z3 y (Aa _ hy)) (by simp at z4;omega) z5 z6;let q:((M'.set k (.lst (c.map D.int))).set n (.lst [.ref k,.int s]))=M'.set k (.lst (c.map D.int)):=OT (by rw[Ag (Ne.symm nx.gen.ne)];calc e1);rw[q]at P;let hk:=nx.gen.lt.2;refine#[#[rfl,nx.trans P],c,s,?_,?_,rfl]
    .rw[Ag (Ne.symm nx.gen.ne)];exact e1
    .rw[B3 hk]
   .rw[AE (~~~hx)];first|exact#[rfl,rfl,nx]|exact#[trivial,trivial,nx]|simpa using nx
 let(c,s,e1,e2,e3,e4,_):=h.ex;calc OkS.mono (W 100 c.length _ M () #[#[rfl,.refl h],c,s,e1,e2,rfl]) ?_;rintro o Y M1 ⟨rfl,rfl,nx⟩;rw[zS,zM,CH];let(c,s,e1,e2,e3,e4,e5,e6):=nx.gen.ex;calc ne rfl e1 e2 ?_;cases c with
 |nil=>
  simp only[List.isEmpty_nil,Bool.not_true,Cv,if_false];rw[Cj,zS,zM,Nb];refine A4.mpr (A4.mpr (A4.mpr (sd rfl e1 (BX.mpr (NM.mpr #[by simp[HM] <;> omega,BX.mpr (GK.mpr (BX.mpr (Fo.mpr #[(),?_])))])))));rw[zO];calc A8.mpr #[_,rfl,BX.mpr ?_];rw[zO];let hs0:0<=(s*6364136223846793+1442695040888963) % 2305843009213693951:=Int.emod_nonneg _ ();let hs1:(s*6364136223846793+1442695040888963) % 2305843009213693951<2305843009213693951:=Int.emod_lt_of_pos _ ();generalize (s*6364136223846793+1442695040888963) % 2305843009213693951=s' at hs0 hs1;let P:=nx.gen.put (c:=[]) (λ_ h=>by ext h) (by simp) hs0 hs1;rw[OT (show M1[k]?=some (.lst (([]:List Int).map D.int))from e2)]at P;calc#[_,MS (k:=1) e1 (by simp),?_];rw[zS,CG];let e1':(M1.set n (.lst [.ref k,.int s']))[n]?=some (.lst [.ref k,.int s']):=B3 nx.gen.lt.1;refine A4.mpr (A4.mpr (A4.mpr (A4.mpr (sd rfl e1' (sd rfl e1' (NM.mpr #[by simp[HM] <;> omega,BX.mpr (Fo.mpr #[(),BX.mpr (Lb.mpr #[(),A8.mpr #[_,rfl,Fo.mpr #[h0,?_]]])])]))))));rw[zO];calc#[#[_,rfl,Int.emod_nonneg _ (),Int.emod_lt_of_pos _ h0],nx.trans P]
 |cons x c=>
  simp only[List.isEmpty_cons,Bool.not_false,if_true];rw[zM,za];refine A4.mpr (hd rfl e1 e2 (A8.mpr #[_,rfl,Fo.mpr #[h0,?_]]));rw[zO,zS,zM,Nb];refine A4.mpr (hd rfl e1 e2 (A8.mpr #[_,rfl,Lb.mpr #[#[h0,h1],?_]]));rw[zO];refine st (c:=c) rfl e1 (BX.mpr ?_);rw[zO];refine#[_,MS (k:=0) e2 (by simp),?_];rw[zS,CG];refine A8.mpr #[_,rfl,?_];rw[zO,FH];let hx:=e3 x AR;let P:=nx.gen.put (c:=(x / m)::c) (λy hy=>by
   rcases AK.mp hy with z|z
   .subst z;exact Int.ediv_nonneg hx ()
   .exact e3 y (Aa _ z)) (~~~e4) e5 e6
  rw[OT (by rw[Ag (Ne.symm nx.gen.ne)];calc e1)]at P;calc#[#[_,rfl,Int.emod_nonneg _ (),Int.emod_lt_of_pos _ h0],nx.trans P]
def YM(ns:Ye)(lo hi:Ys):∃c:List Int,L3.B0 (ns.map D.int) lo hi=c.map D.int/\c.length<=ns.length:=by
 refine#[(ns.drop (HT.sIx ns.length 0 lo)).take (HT.sIx ns.length ns.length hi-HT.sIx ns.length 0 lo),?_,?_]
 .unfold L3.B0;rw[AG,List.map_take,List.map_drop]
 .rw[D4,FX];omega
def K5(h:x::r=c.map D.int):∃y c',c=y::c'/\x=.int y/\r=c'.map D.int:=by
 cases c with
 |nil=>ext h
 |cons y c'=>rw[AU]at h;calc#[y,c',rfl,(CF h).1,(CF h).2]
def B4:BG none xs M:=trivial
def zi(h:n<=100000):n<=sizeLine:=Ab h ()
def Zm{ns:Ye}(h:ns.length<=63):Ok (IT [.ref 0] [.fro (ns.map D.int)]) λd M'=>d=.ref 2/\Gen M' 2 1/\M'[0]?=some (.fro (ns.map D.int))/\M'.length=3:=by
 erw[IT];rw[zn];erw[Mz];let e0:([.fro (ns.map D.int)]:Mem)[0]?=some (.fro (ns.map D.int)):=rfl;let(cut,ec,lc):=YM ns none (some 63);let sl:∀{Y:Sd}{P:EV->Mem->Prop},Y[0]?=some (some (.ref 0))->P (.fl (cut.map D.int)) [.fro (ns.map D.int)]->Ok (fSl (zC 0) DR (Cz (fC (.int 63))) Y [.fro (ns.map D.int)]) P:=λhσ p=>by
  calc RI.mpr (A8.mpr #[_,hσ,Ud.mpr (Rz.mpr (BX.mpr (SU.mpr ?_)))]);rw[QB (O9 e0) rfl,ec];exact p
 rw[zM,za];calc A4.mpr (JV.mpr (IP.mpr (A8.mpr #[_,rfl,II.mpr ((TM (dC e0)).mpr (BX.mpr (GK.mpr ?_)))])));rw[zO,zS,zM,Cg];let(x,M1,ex,px):=sl (Y:=[some (.ref 0),some (.int (((ns.map D.int).length:Int)+3)),none]) (P:=λx M=>x=.fl (cut.map D.int)/\M=[.fro (ns.map D.int)]) rfl #[rfl,rfl];let(rfl,rfl):=px;calc#[_,_,_,E3 ex Fh,?_];refine Cy (I:=λr Y M=>M=[.fro (ns.map D.int)]/\(∃c:List Int,r=c.map D.int)/\∃s y,Y=[some (.ref 0),some (.int s),y]/\0<=s/\s<2305843009213693951) ?_ ?_ _ _ _ #[rfl,#[cut,rfl],_,none,rfl,by simp;omega,by simp;omega]
 .rintro x r Y M ⟨rfl,⟨c,hc⟩,s,y,rfl,h0,h1⟩;let(z,c',rfl,rfl,rfl):=K5 hc;calc#[B4,_,rfl,?_];rw[za];calc A4.mpr (A4.mpr (A4.mpr (A4.mpr (A8.mpr #[_,rfl,BX.mpr (NM.mpr #[by simp[HM],?_])]))));calc A4.mpr (A8.mpr #[_,rfl,A4.mpr (BX.mpr (BX.mpr (RX.mpr #[(),Fo.mpr #[(),GK.mpr (BX.mpr (GK.mpr (BX.mpr (Fo.mpr #[(),?_]))))]])))]);rw[zO];exact#[rfl,#[c',rfl],_,_,rfl,Int.emod_nonneg _ (),Int.emod_lt_of_pos _ ()]
 .rintro Y M ⟨rfl,_,s,y,rfl,h0,h1⟩;refine#[B4,?_];rw[zS,CG,JK,C2,Bp,Iw];let(x,M1,ex,px):=sl (Y:=[some (.ref 0),some (.int s),y]) (P:=λx M=>x=.fl (cut.map D.int)/\M=[.fro (ns.map D.int)]) rfl #[rfl,rfl];let(rfl,rfl):=px;refine#[_,_,_,E3 ex Fh,by rw[AG];exact zi (),?_];refine Ok.mono (Im (I:=λr acc M=>M=[.fro (ns.map D.int)]/\(∃c:List Int,r=c.map D.int)/\r.length+acc.length<=63/\∃b:List Int,acc=b.map D.int/\∀x∈b,0<=x) (Q:=λacc M=>M=[.fro (ns.map D.int)]/\acc.length<=63/\∃b:List Int,acc=b.map D.int/\∀x∈b,0<=x) ?_ ?_ _ [] _ #[rfl,#[cut,rfl],by simp;omega,[],rfl,λ_ h=>by ext h]) ?_
  .rintro x r acc M ⟨rfl,⟨c,hc⟩,hl,b,rfl,hb⟩;let(z,c',rfl,rfl,rfl):=K5 hc;refine#[B4,_,rfl,?_];refine NG.mpr (A4.mpr (JV.mpr (IP.mpr (A8.mpr #[_,rfl,II.mpr (RZ.mpr (A4.mpr (BX.mpr (BX.mpr (RX.mpr #[(),Za.mpr (G7.mpr ?_)])))))]))));by_cases hz:(10:Int) ^ (18:Int).toNat<=(if z<0 then -z else z)
   .rw[AB (~~~hz)];refine JV.mpr (IP.mpr (A8.mpr #[_,rfl,II.mpr (RZ.mpr (zO.mpr #[rfl,#[c',rfl],?_,b++[if z<0 then -z else z],by simp,?_]))]))
    .simp at hl ⊢;omega
    .intro y hy;rcases Ae.mp hy with q|q
     .exact hb y q
     .have:y=if z<0 then -z else z:=by simpa using q
      rw[this];split <;> omega
   .rw[AE (~~~hz)];exact#[rfl,#[c',rfl],by simp at hl ⊢;omega,b,rfl,hb]
  .rintro acc M ⟨rfl,_,hl,hb⟩;exact#[B4,rfl,by simpa using hl,hb]
  .rintro ys M ⟨rfl,hl,b,hb,hp⟩;rw[List.nil_append]at hb hl;subst hb;rw[IX,C2,Bp,A8];calc#[_,rfl,?_];rw[zO,EC];calc#[zi (by simp),?_];rw[IX];calc#[rfl,#[#[b,s,rfl,rfl,hp,by simpa using hl,h0,h1],(),?_],rfl,rfl];intro j u e;match j,e with
   |0,e=>ext e;calc Ce _ _
   |1,e=>ext e;calc Ce _ _
   |2,e=>ext e;rfl
   |j+3,e=>simp at e
mutual
theorem Kt(h:a<=b):∀{d:D},D.und a d=true->D.und b d=true
 |.non,_=>by erw[D.und];rfl
 |.bl _,_=>by erw[D.und];rfl
 |.int _,_=>by erw[D.und];rfl
 |.str _,_=>by erw[D.und];rfl
 |.tup ds,e=>by unfold D.und at e ⊢;calc G1 h e
 |.fn _ ds,e=>by unfold D.und at e ⊢;calc G1 h e
 |.ref k,e=>by unfold D.und at e ⊢;simp at e ⊢;omega
theorem G1(h:a<=b):∀{ds:List D},D.unds a ds=true->D.unds b ds=true
 |[],_=>by erw[D.unds];rfl
 |d::ds,e=>by
  unfold D.unds at e ⊢;rw[BB]at e ⊢;calc#[Kt h e.1,G1 h e.2]
end
def LU(h:a<=b)(e:MO.und a u=true):MO.und b u=true:=by
 cases u with
 |lst xs=>calc G1 h e
 |fro xs=>calc G1 h e
 |set xs=>calc G1 h e
 |dict kvs|dicT kvs|froT kvs|froK kvs=>
  unfold MO.und at e ⊢;rw[Am]at e ⊢;intro p hp;have:=e p hp;rw[BB]at this ⊢;calc#[Kt h this.1,Kt h this.2]
theorem Oq:∀{xs ys:List D},D.unds n (xs++ys)=(D.unds n xs&&D.unds n ys)
 |[],ys=>by simp[D.unds]
 |x::xs,ys=>by
  show(D.und n x&&D.unds n (xs++ys))=((D.und n x&&D.unds n xs)&&D.unds n ys);rw[Oq,Bool.and_assoc]
theorem Gu:∀{xs:List D},(∀x∈xs,D.und n x=true)->D.unds n xs=true
 |[],_=>rfl
 |x::xs,h=>by
  show(D.und n x&&D.unds n xs)=true;rw[h x AR,Gu λy hy=>h y (Aa _ hy)];rfl
def Ct(c:Ye):D.und n (.tup (c.map D.int))=true:=by erw[D.und];calc Ce n c
def Gen.app(h:Gen A n k)(hu:∀u∈us,MO.und (A.length+us.length) u=true):Gen (A++us) n k:=by
 let(c,s,e1,e2,r):=h.ex;let(hn,hk):=h.lt;refine#[#[c,s,by rw[AM hn];calc e1,by rw[AM hk];calc e2,r],h.ne,λj u e=>?_];rw[AW];by_cases hj:j<A.length
 .rw[AM hj]at e;exact LU () (h.wf j u e)
 .rw[CV ()]at e;calc hu u (Ca e)
def Dw(h:Gen M n k)(ha:fa Y M=some (.dat (.ref n),M))(hb:fb Y M=some (.dat (.int m),M))(h0:0<m)(h1:m<1073741824)
  (q:∀i M',0<=i->i<m->Nx M M' n k->P (.dat (.int i)) M'):Ok (zP zo (zD (toD fa) (zD (toD fb) zG)) Y M) P:=by
 rw[EW,C2,Bp];calc#[_,_,ha,?_];rw[zO,C2,Bp];calc#[_,_,hb,?_];rw[zO,EC];calc Ok.mono (YU h h0 h1) ?_;intro d M' hI;refine qz λG=>?_;let((i,eI1,i0,i1),nx):=hI;calc G ?_;clear G;subst eI1;calc q i M' i0 i1 nx
def D0(i:Nat):Nat->List D
 |0=>[]
 |n+1=> .int i::D0 (i+1) n
def W4(n:Nat):∀i,((List.range' i n).map λ(k:Nat)=>D.int k)=D0 i n:=by
 induction n with
 |zero=>intro i;rfl
 |succ n ih=>intro i;rw[List.range'_succ,AU,ih];rfl
def Jr(n:Nat):((List.range n).map λ(k:Nat)=>D.int k)=D0 0 n:=by rw[List.range_eq_range',W4]
theorem Ma:∀(n i:Nat),(D0 i n).length=n
 |0,_=>rfl
 |n+1,i=>by show(D0 (i+1) n).length+1=_;rw[Ma n]
def Km(n:Nat)(I:Nat->Sd->Mem->Prop)
  (hs:∀i Y M,i<n->I i Y M->∃σ1,g (.int i) Y=some σ1/\OkS (b σ1 M) λo σ2 M2=>match o with|.nx=>I (i+1) σ2 M2|.cnt=>I (i+1) σ2 M2|.brk=>P .nx σ2 M2|.ret d=>P (.ret d) σ2 M2)
  (he:∀Y M,I n Y M->P .nx Y M) (Y:Sd) (M:Mem) (h0:I 0 Y M):OkS (DC g b all none (D0 0 n) Y M) P:=by
 refine Cy (I:=λr Y M=>∃i,i<=n/\r=D0 i (n-i)/\I i Y M) ?_ ?_ _ _ _ #[0,BV _,by simp,h0]
 .intro x r Y M hI;refine qz λG=>?_;let(i,hi,e,hI):=hI;refine G ?_;clear G;let hlt:i<n:=by
   rcases DE i n with z|z
   .exact z
   .rw[show n-i=0 by omega]at e;ext e
  rw[show n-i=(n-(i+1))+1 by omega]at e;let(rfl,rfl):=CF e;let(σ1,e1,q):=hs i Y M hlt hI;calc#[B4,σ1,e1,OkS.mono q ?_];intro o σ2 M2 z;cases o with
  |nx=>calc#[i+1,hlt,rfl,z]
  |cnt=>calc#[i+1,hlt,rfl,z]
  |brk=>calc z
  |ret d=>exact z
 .intro Y M hI;refine qz λG=>?_;let(i,hi,e,hI):=hI;refine G ?_;clear G;have:i=n:=by
   rcases DE i n with z|z
   .rw[show n-i=(n-(i+1))+1 by omega]at e;ext e
   .omega
  subst this;calc#[B4,he Y M hI]
def Qn(n:Nat)(I:Nat->List D->Mem->Prop)
  (hs:∀i acc M,i<n->I i acc M->∃σ1,g (.int i) Y=some σ1/\Ok (te σ1 M) (ED λd M2=>I (i+1) (acc++[d]) M2)) (h0:I 0 [] M):
  Ok (BK g zc te Y all none (D0 0 n) M) λys M1=>I n ys M1:=by
 refine Ok.mono (Im (I:=λr acc M=>∃i,i<=n/\r=D0 i (n-i)/\I i acc M) (Q:=λacc M=>I n acc M) ?_ ?_ _ [] _ #[0,BV _,by simp,h0]) λys M1 q=>by simpa using q
 .intro x r acc M hI;refine qz λG=>?_;let(i,hi,e,hI):=hI;refine G ?_;clear G;let hlt:i<n:=by
   rcases DE i n with z|z
   .exact z
   .rw[show n-i=0 by omega]at e;ext e
  rw[show n-i=(n-(i+1))+1 by omega]at e;let(rfl,rfl):=CF e;let(σ1,e1,q):=hs i acc M hlt hI;calc#[B4,σ1,e1,Pe.mpr ?_];rw[AB rfl];calc Ok.mono q ?_;intro x M2 z;cases x with
  |dat d=>calc#[i+1,hlt,rfl,z]
  |fl xs=>exact#[i+1,hlt,rfl,z]
 .intro acc M hI;refine qz λG=>?_;let(i,hi,e,hI):=hI;refine G ?_;clear G;have:i=n:=by
   rcases DE i n with z|z
   .rw[show n-i=(n-(i+1))+1 by omega]at e;ext e
   .omega
  subst this;calc#[B4,hI]
def Ex(e:f Y M=some (.dat (.int j),M))(h1:0<=j)(h2:j<2 ^ 62):BJ (zD (toD f) zG) Y M=some (D0 0 j.toNat,none,M):=by
 let e':(zD (toD f) zG) Y M=some ([.int j],M):=by erw[zD,toD,zG];rw[e]
 rw[YQ e' h1 h2,Jr]
def mD(zA:Ya):D:=.tup (zA.map λr=> .tup (r.map D.int))
structure IsM(zA:Ya)(l:Nat):Prop where
 r0:0<zA.length
 l0:0<l
 row:∀r∈zA,r.length=l/\∀g∈r,0<=g/\g<zA.length
def FQ(zA:Ya):D.und n (mD zA)=true:=by
 erw[mD,D.und];refine Gu λx hx=>?_;let(r,_,rfl):=AL.mp hx;calc Ct r
def zR{α:Type}{x:Option (α×Mem)}{a:α}{M:Mem}(h:Ok x λb M'=>b=a/\M'=M):x=some (a,M):=by
 let(b,M',e,rfl,rfl):=h;calc e
def zE{α:Type}{x:Option (α×Mem)}{a:α}{M:Mem}{P:α->Mem->Prop}(h:x=some (a,M))(p:P a M):Ok x P:=#[a,M,h,p]
def Fs{c:FT}{a g:FS}{Y:Sd}{M:Mem}{P:Out->Sd->Mem->Prop}(hc:c Y M=some (false,M))(h:OkS (g Y M) P):OkS (zW (sIf c a Ao) g Y M) P:=by
 rw[zM,CH];calc zE hc ?_;rw[AE (),Cj];calc h
def S7{c:FT}{a:FS}{Y:Sd}{M:Mem}{P:Out->Sd->Mem->Prop}(hc:c Y M=some (false,M))(h:P .nx Y M):OkS (sIf c a Ao Y M) P:=by
 rw[CH];calc zE hc ?_;rw[AE (),Cj];calc h
def Lk{f:FE}{Y:Sd}{M M':Mem}{k:Bool}(h:f Y M=some (.dat (.bl k),M')):C1 (tst f) Y M=some (!k,M'):=by
 erw[C1,tst];rw[h]
def zY{f:FE}{Y:Sd}{M:Mem}{d:D}(h:f Y M=some (.dat d,M)):zD (toD f) zG Y M=some ([d],M):=by
 erw[zD,toD,zG];rw[h]
def zU{f:FE}{g:FA}{Y:Sd}{M:Mem}{d:D}{ds:List D}(h:f Y M=some (.dat d,M))(hg:g Y M=some (ds,M)):zD (toD f) g Y M=some (d::ds,M):=by
 erw[zD,toD];rw[h];symm;rw[hg]
def zV{m:FF}{a:FA}{Y:Sd}{M M':Mem}{ds:List D}{d:D}(h:a Y M=some (ds,M))(hm:m ds M=some (d,M')):zP m a Y M=some (.dat d,M'):=by
 erw[zP];rw[h];symm;rw[hm]
def zL{k:K2}{f g:FE}{Y:Sd}{M:Mem}{x y:EV}{r:Option (EV×Mem)}(hf:f Y M=some (x,M))(hg:g Y M=some (y,M))(hk:k x y M=r):fOp k f g Y M=r:=by
 erw[fOp];rw[hf];symm;rw[hg];calc hk
def BZ{x:EV}{xs:List D}{i:Int}{d:D}{M:Mem}(h:A7 M x=some xs)(hd:atI xs i=some d):kIx x (.dat (.int i)) M=some (.dat d,M):=zR (IV h hd #[rfl,rfl])
def Dc{f:FE}{x:EV}{xs:List D}{Y:Sd}{M:Mem}(hf:f Y M=some (x,M))(h:A7 M x=some xs):fB An (zQ f ze) Y M=some (.dat (.int xs.length),M):=by
 erw[fB,zQ,ze];rw[hf];calc zR ((TM h).mpr #[rfl,rfl])
def Dy(zA:Ya)(h g:Int):Int:=(zA.getD h.toNat []).getD g.toNat 0
def MV{zA:Ya}{h:Int}(h0:0<=h)(h1:h<zA.length):atI (zA.map λr=>D.tup (r.map D.int)) h=some (.tup ((zA.getD h.toNat []).map D.int)):=by
 calc UA h0 ?_;rw[Au,Bn,AO ()];rfl
def La{r:Ye}{g:Int}(h0:0<=g)(h1:g<r.length):atI (r.map D.int) g=some (.int (r.getD g.toNat 0)):=by
 calc UA h0 ?_;rw[Au,Bn,AO ()];rfl
def IsM.get{zA:Ya}{l:Nat}(m:IsM zA l){h:Int}(h0:0<=h)(h1:h<zA.length):(zA.getD h.toNat []).length=l/\∀g∈zA.getD h.toNat [],0<=g/\g<zA.length:=by
 calc m.row _ ?_;rw[Bn,AO ()];calc Bc _
def IsM.step{zA:Ya}{l:Nat}(m:IsM zA l){h g:Int}(h0:0<=h)(h1:h<zA.length)(g0:0<=g)(g1:g<l):0<=Dy zA h g/\Dy zA h g<zA.length:=by
 let(q1,q2):=m.get h0 h1;calc q2 _ ?_;erw[Dy];rw[Bn (l:=zA.getD h.toNat []),AO ()];calc Bc _
def IsM.ix{zA:Ya}{l:Nat}(m:IsM zA l){h g:Int}(h0:0<=h)(h1:h<zA.length)(g0:0<=g)(g1:g<l){f1 f2 f3:FE}{Y:Sd}{M:Mem}(e1:f1 Y M=some (.dat (mD zA),M))(e2:f2 Y M=some (.dat (.int h),M))(e3:f3 Y M=some (.dat (.int g),M)):
  fOp kIx (fOp kIx f1 f2) f3 Y M=some (.dat (.int (Dy zA h g)),M):=by
 let(q1,_):=m.get h0 h1;calc zL (zL e1 e2 (BZ zb (MV h0 h1))) e3 (BZ zb (La g0 ()))
def GV(hf:f Y M=some (x,M))(ht:Gb M x=some t):DP T f Y M=some (.dat (.bl (isT t T)),M):=by
 erw[DP];rw[hf];symm;rw[ht]
def zr(h:f Y M=some (.dat (.bl k),M')):tst f Y M=some (k,M'):=by erw[tst];rw[h]
def isV(hf:f Y M=some (x,M))(ht:Gb M x=some t)(h:isT t T=k):DP T f Y M=some (.dat (.bl k),M):=by
 rw[GV hf ht,h]
def HV(hc:c Y M=some (true,M))(h:OkS (a Y M) (nxP (λσ1 M1=>OkS (g σ1 M1) P) P)):OkS (zW (sIf c a b) g Y M) P:=by
 rw[zM,CH];calc zE hc ?_;rw[AB rfl];calc h
def zv(hf:f Y M=some (.dat d,M))(h:P (.ret d) Y M):OkS (zq f Y M) P:=by
 rw[CG];calc zE hf h
def EY{α:Type}(as:List α)(enc out:α->D)(hi:fi Y M=some (as.map enc,gd,M))(hgd:BG gd (as.map enc) M)(hz:as.length<=100000)
  (he:∀a∈as,∃σ1,g (enc a) (Al own Y)=some σ1/\te σ1 M=some (.dat (out a),M)):zu own fi g zc te Y M=some (.fl (as.map out),M):=by
 calc zR (Iw.mpr #[_,_,_,hi,by rw[AG];calc zi hz,?_]);refine Ok.mono (Im (I:=λr acc M'=>M'=M/\∃ra rb:List α,as=rb++ra/\r=ra.map enc/\acc=rb.map out) (Q:=λacc M'=>M'=M/\acc=as.map out) ?_ ?_ _ [] _ #[rfl,as,[],rfl,rfl,rfl]) ?_
 .rintro x r acc M' ⟨rfl,ra,rb,hab,hr,rfl⟩;cases ra with
  |nil=>ext hr
  |cons a ra=>
   rw[AU]at hr;let(rfl,rfl):=CF hr;let(σ1,e1,e2):=he a (by rw[hab];simp);calc#[hgd,σ1,e1,Pe.mpr ?_];rw[AB rfl];calc zE e2 ?_;rw[zO];exact#[rfl,ra,rb++[a],by rw[hab];simp,rfl,by simp]
 .rintro acc M' ⟨rfl,ra,rb,hab,hr,rfl⟩;cases ra with
  |nil=>rw[BI]at hab;subst hab;calc#[hgd,rfl,rfl]
  |cons a ra=>ext hr
 .rintro ys M' ⟨rfl,h⟩;rw[List.nil_append]at h;subst h;calc#[rfl,rfl]
def GD(hf:f Y M=some (x,M))(h:A7 M x=some xs):fB BP (zQ f ze) Y M=some (.dat (.tup xs),M):=by
 erw[fB,zQ,ze];rw[hf];calc zR ((MG h).mpr #[rfl,rfl])
def G8(hf:f Y M=some (.dat (.tup xs),M)):AN f Y M=some (xs,none,M):=E3 hf zb
def Xb(n:Nat):D0 0 n=(List.range n).map λ(k:Nat)=>D.int k:=(Jr n).symm
def P8(e:f Y M=some (.dat (.int j),M))(h1:0<=j)(h2:j<2 ^ 62):BJ (zD (toD f) zG) Y M=some ((List.range j.toNat).map (λ(k:Nat)=>D.int k),none,M):=by
 rw[Ex e h1 h2,Xb]
def DK(hf:f Y M=some (.dat d,M))(h:OkS (g (Y.set i (some d)) M) P):OkS (zW (zw i f) g Y M) P:=by
 rw[zM,za];calc zE hf h
def Su(h:f Y M=some (.dat d,M')):zD (toD f) zG Y M=some ([d],M'):=by
 erw[zD,toD,zG];rw[h]
theorem TJ{α β:Type}(f:α->β)(d:α):∀xs:List α,(List.range xs.length).map (λi=>f (xs.getD i d))=xs.map f
 |[]=>rfl
 |x::xs=>by
  rw[Bw,List.range_succ_eq_map,AU,Af,AU,<-TJ f d xs];rfl
open ST
def ris(xs:Ye):List Int:=DU (CT xs)
def Qg(xs:Ye)(x:Int):x∈ris xs↔x∈xs:=by
 erw[ris];rw[(IF _).mem_iff,d9]
def Uu(xs:Ye):(ris xs).Pairwise (· < ·):=by
 let h1:=Oh (CT xs);let h2:(ris xs).Nodup:=(IF _).nodup_iff.mpr (iB xs);unfold ris at h2 ⊢;exact(h1.and h2).imp λ{a b} h=>by have:=h.1;have:=h.2;omega
def Li(xs:Ye):(ris xs).length<=xs.length:=by
 erw[ris];rw[(IF _).length_eq];calc Ln xs
def fZ(h:0<xs.length):0<(ris xs).length:=by
 cases xs with
 |nil=>ext h
 |cons x r=>calc List.length_pos_of_mem ((Qg (x::r) x).mpr AR)
def VW(h:zu own fi g tc te Y M=some (.fl (ks.map D.int),M))(hz:ks.length<=4000):HK own fi g tc te Y M=some (CT ks,M):=by
 erw[HK];rw[h];symm;rw[IJ];symm;rw[AB (by erw[scanBound];omega)]
def Vc(h:fz Y M=some (CT ks,M))(hz:(CT ks).length<64):Iu fz Y M=some (.fl ((ris ks).map D.int),M):=by
 erw[Iu];rw[h];symm;rw[AB hz];rfl
def Ml:FS:=(zq (fB BP (zQ (Iu (HK [3] (AN (zC 1)) (gN 3) zc (fOp kIx (fOp kIx (zC 0) (zC 3)) (zC 2)))) ze)))
def Cu:FF:=DY (AV 4 Ml)
def Oi:FS:=(zW (zw 3 (Ar (zD (toD (zC 1)) zG)))
  (zW (BO (AN (zC 2)) (gN 4) (Bz (fM CL (zC 3) (zD (toD (zP Cu (zD (toD (zC 0)) (zD (toD (fOp kIx (zC 3) (JB (fC (.int 1))))) (zD (toD (zC 4)) zG))))) zG))))
  (zq (fB BP (zQ (zC 3) ze)))))
def JU:FF:=DY (AV 5 Oi)
def Na:FS:=(zq (fOp kIx (zP JU (zD (toD (zC 0)) (zD (toD (zC 1)) (zD (toD (zC 2)) zG)))) (JB (fC (.int 1)))))
def Ir:FF:=DY (AV 3 Na)
def setR(zA:Ya)(S:Ye)(g:Int):List Int:=ris (S.map λh=>Dy zA h g)
def broR(zA:Ya)(S word:Ye):List Int:=word.foldl (setR zA) S
structure IsS(zA:Ya)(S:Ye):Prop where
 pw:S.Pairwise (· < ·)
 n0:0<S.length
 mem:∀x∈S,0<=x/\x<(zA.length:Int)
theorem PD:∀{S:Ye}{a:Int}{n:Nat},S.Pairwise (· < ·)->(∀x∈S,a<=x/\x<a+(n:Int))->S.length<=n
 |[],_,_,_,_=>BV _
 |x::S,a,n,h,hm=>by
  let hx:=Dd.mp h;let(m0,m1):=hm x AR;let hn:0<n:=()
  have:=PD (a:=x+1) (n:=(a+n-(x+1)).toNat) hx.2 λy hy=>by
   have:=hx.1 y hy;have:=(hm y (Aa _ hy)).2;omega
  simp only[Bw];omega
def IsS.len(h:IsS zA S):S.length<=zA.length:=PD h.pw (a:=0) λx hx=>by have:=h.mem x hx;omega
theorem IsM.setR{zA:Ya}{l:Nat}(m:IsM zA l){S:Ye}(s:IsS zA S){g:Int}(g0:0<=g)(g1:g<l):IsS zA (setR zA S g):=by
 refine#[Uu _,fZ (by rw[AG];calc s.n0),λx hx=>?_];let(y,hy,rfl):=AL.mp ((Qg _ _).mp hx);let(y0,y1):=s.mem y hy;calc m.step y0 y1 g0 g1
theorem IsM.broR{zA:Ya}{l:Nat}(m:IsM zA l):∀(word:Ye){S:Ye},IsS zA S->(∀g∈word,0<=g/\g<(l:Int))->IsS zA (broR zA S word)
 |[],S,s,_=>s
 |g::r,S,s,hw=>by
  let(g0,g1):=hw g AR;calc IsM.broR m r (m.setR s g0 g1) λx hx=>hw x (Aa _ hx)
def tI(xs:Ye):D:=.tup (xs.map D.int)
def HE{zA:Ya}{l:Nat}(m:IsM zA l)(hR:zA.length<64){S:Ye}(s:IsS zA S){g:Int}(g0:0<=g)(g1:g<l){M:Mem}:Cu [mD zA,tI S,.int g] M=some (tI (setR zA S g),M):=by
 calc zR ?_;erw[Cu];calc Fp (by erw[D.unds,D.unds,D.unds,D.unds];rw[FQ];simp[tI,Ct,D.und,Ce]) ?_;rw[zn];erw[Ml];let hl:=s.len;let hz:(CT (S.map λh=>Dy zA h g)).length<64:=by have:=Ln (S.map λh=>Dy zA h g);rw[AG]at this;omega
 calc zv ?_ #[by erw[tI];calc Ct _,rfl,rfl];calc GD (Vc (VW ?_ (by rw[AG];omega)) hz) Fh;refine(EY S D.int (λh=> .int (Dy zA h g)) (G8 rfl) trivial () λh hh=>#[_,rfl,?_]).trans ?_
 .obtain⟨h0,h1⟩:=s.mem h hh;exact m.ix h0 h1 g0 g1 rfl rfl rfl
 .rw[Af];rfl
def Fg(zA:Ya)(S:Ye):List Int->List (List Int)
 |[]=>[S]
 |g::w=>S::Fg zA (setR zA S g) w
def Ov{α:Type}(xs:List α)(x:α):atI (xs++[x]) (-1)=some x:=by
 erw[atI,ixN];rw[AE (),AB (by simp;omega)];have:((-1:Int)+((xs++[x]).length:Int)).toNat=xs.length:=by simp;omega
 simp only[Option.bind_some];rw[this];simp
def XY{zA:Ya}{l:Nat}(m:IsM zA l)(hR:zA.length<64){S word:Ye}(s:IsS zA S)(hw:∀g∈word,0<=g/\g<(l:Int))(hz:word.length<=90000){M:Mem}:JU [mD zA,tI S,tI word] M=some (.tup ((Fg zA S word).map tI),M):=by
 calc zR ?_;erw[JU];calc Fp (by erw[D.unds,D.unds,D.unds,D.unds];rw[FQ];simp[tI,Ct,D.und,Ce]) ?_;rw[zn];erw[Oi];rw[zM,za];calc JK.mpr (C2.mpr (Bp.mpr (A8.mpr #[_,rfl,zO.mpr (EC.mpr #[zi (by simp),?_])])));rw[IX,zS,zM,Cg];calc#[_,_,_,E3 rfl zb,?_];refine Cy (I:=λr Y M'=>∃(y:Option D)(c:Ye)(acc:Ya)(T:Ye),Y=[some (mD zA),some (tI S),some (tI word),some (.ref 0),y]/\r=c.map D.int/\(∀g∈c,0<=g/\g<(l:Int))/\IsS zA T/\M'=[.lst ((acc++[T]).map tI)]/\acc++Fg zA T c=Fg zA S word/\acc.length+c.length=word.length) ?_ ?_ _ _ _ #[none,word,[],S,rfl,rfl,hw,s,rfl,rfl,by simp]
 .rintro x r Y M' ⟨y,c,acc,T,rfl,hc,hg,sT,rfl,e,hl⟩;let(z,c',rfl,rfl,rfl):=K5 hc;refine#[B4,_,rfl,?_];rw[GF];let(g0,g1):=hg z AR;let eA:([MO.lst ((acc++[T]).map tI)]:Mem)[0]?=some (.lst ((acc++[T]).map tI)):=rfl;refine F0.mpr (A8.mpr #[_,rfl,#[_,Dv eA],C2.mpr (Bp.mpr ?_)]);refine zE (zV (zU rfl (zU (zL rfl rfl (BZ (zy eA) ?_)) (zY rfl))) (HE m hR sT g0 g1)) ?_
  .rw[CD];exact Ov _ _
  .rw[zO,EC,JY eA (by rw[AG,AW];simp at hl ⊢;exact Ay (m:=95000) () (zi ()))];refine#[_,c',acc++[T],setR zA T z,rfl,rfl,λg hg'=>hg g (Aa _ hg'),m.setR sT g0 g1,?_,?_,by simp at hl ⊢;omega]
   .simp
   .rw[<-e];simp[Fg]
 .rintro Y M' ⟨y,c,acc,T,rfl,hc,hg,sT,rfl,e,hl⟩;have:c=[]:=by cases c with|nil=>rfl|cons _ _=>ext hc
  subst this;calc#[B4,?_];rw[zS];calc zv (GD rfl (zy (show([MO.lst ((acc++[T]).map tI)]:Mem)[0]?=some (.lst ((acc++[T]).map tI))from rfl))) ?_;let e':acc++[T]=Fg zA S word:=by rw[<-e];rfl
  rw[e'];calc#[?_,rfl,rfl];erw[D.und];refine Gu λx hx=>?_;let(r,_,rfl):=AL.mp hx;calc Ct r
theorem Ou(zA:Ya):∀(word S:Ye),∃us,Fg zA S word=us++[broR zA S word]
 |[],S=>#[[],rfl]
 |g::w,S=>by
  let(us,e):=Ou zA w (setR zA S g);calc#[S::us,by show S::Fg zA _ w=_;rw[e];rfl]
def VE(m:IsM zA l)(hR:zA.length<64)(s:IsS zA S)(hw:∀g∈word,0<=g/\g<(l:Int))(hz:word.length<=90000):Ir [mD zA,tI S,tI word] M=some (tI (broR zA S word),M):=by
 calc zR ?_;erw[Ir];calc Fp (by erw[D.unds,D.unds,D.unds,D.unds];rw[FQ];simp[tI,Ct,D.und,Ce]) ?_;rw[zn];erw[Na];let(us,e):=Ou zA word S;calc zv (zL (zV (zU rfl (zU rfl (zY rfl))) (XY m hR s hw hz)) rfl (BZ zb ?_)) #[by erw[tI];calc Ct _,rfl,rfl];rw[e,CD];calc Ov _ _
def qF(hgd:BG gd all M)(hg:g x Y=some σ1)(hk:tk σ1 M=some (.dat k,M))(hv:tv σ1 M=some (.dat v,M))(hp:Ee M n k v=some M'):Ck g zc tk tv Y n all gd (x::r) M=Ck g zc tk tv Y n all gd r M':=by
 rw[Ck];rw[AB hgd,hg];let et:zc σ1 M=some (true,M):=rfl;let e1:toD tk σ1 M=some (k,M):=by erw[toD];rw[hk]
 let e2:toD tv σ1 M=some (v,M):=by erw[toD];rw[hv]
 symm;rw[et];symm;rw[e1];symm;rw[e2];symm;rw[hp]
def Pm(hgd:BG gd all M):Ck g tc tk tv Y n all gd [] M=some M:=by
 rw[Ck,AB hgd]
def IL(e:f Y M=some (.dat (mD zA),M)):fB An (zQ f ze) Y M=some (.dat (.int zA.length),M):=by
 have:=Dc e zb;rw[AG]at this;calc this
def Jj(m:IsM zA l)(e:f Y M=some (.dat (mD zA),M)):fB An (zQ (fOp kIx f (fC (.int 0))) ze) Y M=some (.dat (.int l),M):=by
 let r0:=m.r0;have:=Dc (zL (g:=fC (.int 0)) e rfl (BZ zb (MV () ()))) zb;rw[AG,(m.get () ()).1]at this;calc this
def T5(e:f Y M=some (.dat (tI xs),M)):fB An (zQ f ze) Y M=some (.dat (.int xs.length),M):=by
 have:=Dc e zb;rw[AG]at this;calc this
def LQ:FS:=(zq (Co (DP "int" (zC 0)) (FY (DP "bool" (zC 0)))))
def Io:FF:=AV 1 LQ
def NF:FS:=(zq (Co (zP Io (zD (toD (zC 0)) zG)) (Hb kLe kLt (fC (.int 0)) (zC 0) (zC 1))))
def JG:FF:=AV 2 NF
def Nk:FS:=(zq (Co (DP "tuple" (zC 0)) (fB Eg (zQ (zu [2] (AN (zC 0)) (gN 2) zc (zP JG (zD (toD (zC 2)) (zD (toD (zC 1)) zG)))) ze))))
def HA:FF:=AV 3 Nk
mutual
def Vd(M:Mem):D->Prop
 |.ref n=>∃t,Gb M (.dat (.ref n))=some t/\(t = "list" \/ t = "dict")
 |.tup ds=>ds.length<=100000/\Vds M ds
 |.fn _ _=>False
 |_=>True
def Vds(M:Mem):List D->Prop
 |[]=>True
 |d::ds=>Vd M d/\Vds M ds
end
def Vds.mem:∀{ds:List D},Vds M ds->∀d∈ds,Vd M d
 |[],_,d,h=>by ext h
 |x::ds,hv,d,h=>by
  erw[Vds]at hv;rcases AK.mp h with q|q
  .subst q;exact hv.1
  .exact Vds.mem hv.2 d q
def Vds.of:∀{ds:List D},(∀d∈ds,Vd M d)->Vds M ds
 |[],_=>trivial
 |x::ds,h=>#[h x AR,Vds.of λd hd=>h d (Aa _ hd)]
def OY:D->Bool
 |.int _=>true
 |_=>false
def DH(n:Int):D->Bool
 |.int i=>decide (0<=i)&&decide (i<n)
 |_=>false
def tbD(n:Int):D->Bool
 |.tup ds=>ds.all (DH n)
 |_=>false
def rF:D->Bool
 |.tup _=>true
 |_=>false
def OF(out:D->D)(hf:f Y M=some (.dat (.tup ds),M))(hz:ds.length<=100000)
  (he:∀a∈ds,∃σ1,g a (Al own Y)=some σ1/\te σ1 M=some (.dat (out a),M)):zu own (AN f) g zc te Y M=some (.fl (ds.map out),M) :=
 EY (gd:=none) ds id out (by rw[List.map_id];calc G8 hf) trivial hz he
def Vd.ty(h:Vd M d):∃t,Gb M (.dat d)=some t/\isT t "tuple" = rF d/\(isT t "int" && !isT t "bool")=OY d:=by
 cases d with
 |non=>calc#[_,rfl,(show isT "NoneType" "tuple" = false by decide),(show(isT "NoneType" "int" && !isT "NoneType" "bool")=false by decide)]
 |bl k=>calc#[_,rfl,(show isT "bool" "tuple" = false by decide),(show(isT "bool" "int" && !isT "bool" "bool")=false by decide)]
 |int i=>calc#[_,rfl,(show isT "int" "tuple" = false by decide),(show(isT "int" "int" && !isT "int" "bool")=true by decide)]
 |str x=>calc#[_,rfl,(show isT "str" "tuple" = false by decide),(show(isT "str" "int" && !isT "str" "bool")=false by decide)]
 |tup ds=>calc#[_,rfl,(show isT "tuple" "tuple" = true by decide),(show(isT "tuple" "int" && !isT "tuple" "bool")=false by decide)]
 |ref n=>
  erw[Vd]at h;let(t,e,h):=h;rcases h with rfl|rfl
  .exact#[_,e,(show isT "list" "tuple" = false by decide),(show(isT "list" "int" && !isT "list" "bool")=false by decide)]
  .exact#[_,e,(show isT "dict" "tuple" = false by decide),(show(isT "dict" "int" && !isT "dict" "bool")=false by decide)]
 |fn _ _=>calc h.elim
def DA(hf:f Y M=some (.dat (.bl a),M))(hg:a=true->g Y M=some (.dat (.bl b),M)):Co f g Y M=some (.dat (.bl (a&&b)),M):=by
 erw[Co];rw[hf];cases a with
 |true=>calc hg rfl
 |false=>rfl
def My(hf:f Y M=some (.dat (.bl a),M)):FY f Y M=some (.dat (.bl (!a)),M):=by erw[FY];rw[hf]
def Fy(h:f (ds.map some++List.replicate (n-ds.length) none) M=some (.dat d,M)):AV n (zq f) ds M=some (d,M):=by
 calc zR ?_;rw[zn];calc zv h #[rfl,rfl]
def cH(h:Vd M d):Io [d] M=some (.bl (OY d),M):=by
 let(t,e,_,q):=h.ty;erw[Io,LQ];calc Fy ?_;rw[<-q];calc DA (GV rfl e) λ_=>My (GV rfl e)
def mX(h:Vd M d):JG [d,.int n] M=some (.bl (DH n d),M):=by
 erw[JG,NF];calc Fy ?_;let hw:=zV (Y:=[some d,some (.int n)]) (a:=zD (toD (zC 0)) zG) (zY rfl) (cH h);let e:DH n d=(OY d&&DH n d):=by cases d <;> rfl
 rw[e];refine DA hw λhi=>?_;cases d with
 |int i=>
  calc zR (aW.mpr (BX.mpr (A8.mpr #[_,rfl,MU.mpr (G7.mpr ?_)])));by_cases h0:0<=i
  .rw[AB (~~~h0)];calc A8.mpr #[_,rfl,TF.mpr #[?_,rfl]];simp[DH,h0]
  .rw[AE (~~~h0)];calc#[by simp[DH,h0],rfl]
 |_=>ext hi
def HN{bs:List Bool}(h:f Y M=some (.fl (bs.map D.bl),M)):fB Eg (zQ f ze) Y M=some (.dat (.bl (bs.all id)),M):=by
 erw[fB,zQ,ze];rw[h];calc zR ((Sm Rj (MK bs)).mpr #[rfl,rfl])
def J8{α:Type}(xs:List α)(p:α->Bool):(xs.map p).all id=xs.all p:=by rw[List.all_map];rfl
def Rc(h:Vd M d):HA [d,.int n] M=some (.bl (tbD n d),M):=by
 erw[HA,Nk];calc Fy ?_;let(t,e,q,_):=h.ty;cases d with
 |tup ds=>
  let hh:Vd M (.tup ds):=h;erw[Vd]at hh;have:tbD n (.tup ds)=(true&&(ds.map (DH n)).all id):=by rw[Bool.true_and,J8];rfl
  rw[this];refine DA (by rw[GV rfl e,q];rfl) λ_=>HN ?_;rw[Af];exact OF (λx=> .bl (DH n x)) rfl hh.1 λx hx=>#[_,rfl,zV (zU rfl (zY rfl)) (mX (hh.2.mem x hx))]
 |_=>
  have:∀b,(false&&b)=false:=λb=>rfl;refine(DA (a:=false) (b:=true) (by rw[GV rfl e,q];rfl) λz=>by ext z).trans ?_;rfl
def oH{xs:List D}{lo hi:Ys}{M:Mem}:kSl (.dat (.tup xs)) lo hi M=some (.dat (.tup (L3.B0 xs lo hi)),M):=rfl
def slE{f:FE}{fl fh:FO}{Y:Sd}{M:Mem}{xs:List D}{lo hi:Ys}(hf:f Y M=some (.dat (.tup xs),M))(hl:fl Y M=some (lo,M))(hh:fh Y M=some (hi,M)):fSl f fl fh Y M=some (.dat (.tup (L3.B0 xs lo hi)),M):=by
 erw[fSl];rw[hf];symm;rw[hl];symm;rw[hh];calc oH
def oS(h:f Y M=some (.dat (.int i),M)):Cz f Y M=some (some i,M):=by erw[Cz];rw[h]
abbrev gL(k:Nat)(s:Int):MO:=.lst [.ref k,.int s]
def dR(hk:k<N):MO.und N (gL k s)=true:=by
 show D.unds _ _=true;erw[D.unds,D.unds,D.unds,D.und];simp[hk]
structure Nw(M M':Mem)(n k:Nat):Prop where
 gen:Gen M' n k
 len:M.length<=M'.length
 fr:∀j,j<M.length->j≠n->j≠k->M'[j]?=M[j]?
def Nw.trans{M M1 M2:Mem}{n k:Nat}(a:Nw M M1 n k)(b:Nw M1 M2 n k):Nw M M2 n k :=
 #[b.gen,Ab a.len b.len,λj h h1 h2=>(b.fr j (Ay h a.len) h1 h2).trans (a.fr j h h1 h2)]
def Nx.nw(x:Nx M M' n k):Nw M M' n k:=#[x.gen,by rw[x.len];exact AF _,λj _ h1 h2=>x.fr j h1 h2]
def Gen.lst(h:Gen A n k)(xs:List D)(hx:D.unds A.length xs=true):Nw A (A++[.lst xs]) n k:=#[h.app λu hu=>by
 have:u=.lst xs:=by simpa using hu
 subst this;exact G1 (by simp) hx,by simp,λj hj _ _=>AM hj]
def Nw.setB(h:Nw M A n k)(g:Gen M n k)(hj:M.length<=j)(hu:MO.und A.length u=true):Nw M (A.set j u) n k:=by
 let(hn,hk):=g.lt;let(c,s,e1,e2,r):=h.gen.ex;refine#[#[#[c,s,by rw[Ag ()];calc e1,by rw[Ag ()];calc e2,r],g.ne,λi v e=>?_],by rw[List.length_set];exact h.len,λi hi h1 h2=>by rw[Ag ()];calc h.fr i hi h1 h2];rw[List.length_set];rw[Ea]at e;cbv at e
 .split at e
  .cases e;exact hu
  .ext e
 .exact h.gen.wf i v e
def Nw.wf0(h:Nw M M' n k)(g:Gen M n k):∀(j:Nat) u,j<M.length->M'[j]?=some u->MO.und M.length u=true:=λj u hj e=>by
 let(hn,hk):=g.lt;let(c,s,e1,e2,r):=h.gen.ex;by_cases q1:j=n
 .subst q1;rw[e1]at e;ext e;exact dR hk
 .by_cases q2:j=k
  .subst q2;rw[e2]at e;ext e;exact Ce _ _
  .rw[h.fr j hj q1 q2]at e;calc g.wf j u e
def Nw.trim(h:Nw M M' n k)(g:Gen M n k):Nw M (M'.take M.length) n k:=by
 let(hn,hk):=g.lt;let tk:∀j,j<M.length->(M'.take M.length)[j]?=M'[j]?:=λj hj=>List.getElem?_take_of_lt hj;let tl:(M'.take M.length).length=M.length:=by have:=h.len;rw[D4];omega
 let(c,s,e1,e2,r):=h.gen.ex;refine#[#[#[c,s,(tk n hn).trans e1,(tk k hk).trans e2,r],g.ne,λj u e=>?_],(),λj hj h1 h2=>(tk j hj).trans (h.fr j hj h1 h2)];let hj:j<M.length:=by have:=(AI.mp e).1;omega
 rw[tk j hj]at e;rw[tl];calc h.wf0 g j u hj e
def Nw.get(h:Nw M M' n k)(e:M[j]?=some u)(h1:j≠n)(h2:j≠k):M'[j]?=some u :=
 (h.fr j (AI.mp e).1 h1 h2).trans e
end Law
namespace Lac
open L2 L3 ST Law
def Kf:FS:=(zW (zw 2 (Ar zG))
  (zW (BO (BJ (zD (toD (zC 1)) zG)) (gN 3) (Bz (fM Hd (zC 2) (zD (toD (zP zo (zD (toD (zC 0)) (zD (toD (fOp BA (zC 3) (fC (.int 1)))) zG)))) (zD (toD (zC 3)) zG)))))
  (zq (zC 2))))
def Fx:FF:=AV 4 Kf
def Jq:FS:=(zW (sIf (tst (fOp kEq (zC 1) (fC (.int 0)))) (zq (zu [4] (BJ (zD (toD (zC 2)) zG)) (gN 4) zc (zP zo (zD (toD (zC 0)) (zD (toD (zC 2)) zG))))) Ao)
  (zW (sIf (tst (fOp kEq (zC 1) (fC (.int 1)))) (zq (zu [4] (BJ (zD (toD (zC 2)) zG)) (gN 4) zc (fOp DB (fOp BA (zC 4) (zP zo (zD (toD (zC 0)) (zD (toD (fC (.int 3))) zG)))) (zC 2)))) Ao)
  (zW (sIf (tst (fOp kEq (zC 1) (fC (.int 2)))) (zW (zw 5 (fOp HL (fOp BA (zC 2) (fC (.int 1))) (fC (.int 2))))
  (zW (zw 6 (zu [4] (BJ (zD (toD (zC 5)) zG)) (gN 4) zc (zP zo (zD (toD (zC 0)) (zD (toD (zC 5)) zG)))))
  (zq (fOp IH (zC 6) (zu [4] (BJ (zD (toD (fOp Ga (zC 2) (zC 5))) zG)) (gN 4) zc (fOp BA (zC 5) (zP zo (zD (toD (zC 0)) (zD (toD (fOp Ga (zC 2) (zC 5))) zG))))))))) Ao)
  (zW (sIf (Cb (tst (fOp kEq (zC 1) (fC (.int 3)))) (tst (fOp kEq (zC 3) (fC (.int 0))))) (zq (zu [4] (BJ (zD (toD (zC 2)) zG)) (gN 4) zc (fOp DB (fOp BA (zC 4) (fC (.int 1))) (zC 2)))) Ao)
  (zW (sIf (tst (fOp kEq (zC 1) (fC (.int 3)))) (zq (zu [4] (BJ (zD (toD (zC 2)) zG)) (gN 4) zc (fOp kIx (Ar (zD (toD (zC 4)) (zD (toD (fC (.int 0))) zG))) (fB Gk (zQ (fOp kEq (zC 4) (fOp Ga (zC 2) (fC (.int 1)))) ze))))) Ao)
  (zW (sIf (Bl (tst (fOp kEq (zC 1) (fC (.int 4)))) (tst (fOp kEq (zC 1) (fC (.int 7))))) (zW (zw 7 (zP zo (zD (toD (zC 0)) (zD (toD (zC 2)) zG))))
  (zq (zu [4] (BJ (zD (toD (zC 2)) zG)) (gN 4) zc (fOp kIx (Ar (zD (toD (fOp DB (fOp BA (zC 4) (zC 7)) (zC 2))) (zD (toD (zC 7)) zG))) (fB Gk (zQ (fOp kEq (zC 1) (fC (.int 7))) ze)))))) Ao)
  (zW (zw 8 (zP Fx (zD (toD (zC 0)) (zD (toD (zC 2)) zG))))
  (zW (sIf (Cb (tst (fOp kEq (zC 1) (fC (.int 6)))) (tst (fOp kEq (zC 3) (fC (.int 0))))) (zW (zw 9 (fOp kIx (zC 8) (zP zo (zD (toD (zC 0)) (zD (toD (zC 2)) zG)))))
  (Gm (zC 9) (zC 8) (zP zo (zD (toD (zC 0)) (zD (toD (zC 2)) zG))))) Ao)
  (zq (zC 8))))))))))
def HD:FF:=AV 10 Jq
def Js:FS:=(zW (zw 3 (zP zo (zD (toD (zC 0)) (zD (toD (fC (.int 8))) zG))))
  (zW (zw 4 (zu [5] (BJ (zD (toD (zC 2)) zG)) (gN 5) zc (zP HD (zD (toD (zC 0)) (zD (toD (zC 3)) (zD (toD (zC 1)) (zD (toD (zC 5)) zG)))))))
  (zq (fB BP (zQ (zu [7] (BJ (zD (toD (zC 1)) zG)) (gN 7) zc (fB BP (zQ (zu [6] (AN (zC 4)) (gN 6) zc (fOp kIx (zC 6) (zC 7))) ze))) ze)))))
def GQ:FF:=F8 (AV 8 Js)
def Col(many:Int)(c:Ye):Prop:=(c.length:Int)=many/\∀x∈c,0<=x/\x<many
def Bv(h:P (.ref M.length) (M++[.lst xs])):ED P (.fl xs) M:=h
def Ci(A:Mem)(u:MO):(A++[u])[A.length]?=some u:=by simp
def RM(h:0<b):DB (.dat (.int a)) (.dat (.int b)) M=some (.dat (.int (a % b)),M):=zR (Fo.mpr #[h,rfl,rfl])
def GU{M:Mem}{n k:Nat}(h:Gen M n k){own:Yj}{i:Nat}{f te:FE}{Y:Sd}{cnt lo hi:Int}(c0:0<=cnt)(c1:cnt<=90000)(hf:f Y M=some (.dat (.int cnt),M))
  (ht:∀(r:Nat)(M':Mem),(r:Int)<cnt->Gen M' n k->Ok (te ((Al own Y).set i (some (.int r))) M') λx M''=>∃v:Int,x=.dat (.int v)/\lo<=v/\v<hi/\Nx M' M'' n k):
  Ok (zu own (BJ (zD (toD f) zG)) (gN i) zc te Y M) λx M'=>(∃c:List Int,x=.fl (c.map D.int)/\(c.length:Int)=cnt/\∀y∈c,lo<=y/\y<hi)/\Nx M M' n k:=by
 calc Iw.mpr #[_,_,_,Ex hf c0 (),by rw[Ma];calc zi (),?_];refine Ok.mono (Qn (n:=cnt.toNat) (I:=λj acc M2=>(∃c:List Int,acc=c.map D.int/\c.length=j/\∀y∈c,lo<=y/\y<hi)/\Nx M M2 n k) ?_ #[#[[],rfl,rfl,λ_ h=>by ext h],Nx.refl h]) ?_
 .rintro j acc M2 hj ⟨⟨c,rfl,hcl,hc⟩,nx⟩;refine#[_,rfl,?_];refine Ok.mono (ht j M2 () nx.gen) ?_;rintro x M3 ⟨v,rfl,v0,v1,nx3⟩;rw[zO];refine#[#[c++[v],by simp,by simp[hcl],λz hz=>?_],nx.trans nx3];rcases Ae.mp hz with q|q
  .exact hc z q
  .have:z=v:=by simpa using q
   subst this;exact#[v0,v1]
 .rintro ys M2 ⟨⟨c,rfl,hcl,hc⟩,nx⟩;calc#[#[c,rfl,(),hc],nx]
def Q5(ha:a Y M=some (.dat x,M))(hb:b Y M=some (.dat y,M)):Ar (zD (toD a) (zD (toD b) zG)) Y M=some (.fl [x,y],M):=by
 erw[Ar];rw[zU ha (zY hb)];symm;rw[AB (zi (by simp))]
def Pc(hl:l Y M=some (.fl [x,y],M))(ht:t Y M=some (.dat (.bl b),M)):fOp kIx l (fB Gk (zQ t ze)) Y M=some (.dat (if b then y else x),M):=by
 let e:fB Gk (zQ t ze) Y M=some (.dat (.int (if b then 1 else 0)),M):=by erw[fB,zQ,ze];rw[ht];rfl
 cases b with
 |true=>calc zL hl e rfl
 |false=>calc zL hl e rfl
def Ve(h:M[n]?=some (.lst xs))(h0:0<=i)(h1:i.toNat<=xs.length)(hz:xs.length<90000):Hd (.dat (.ref n)) [.int i,d] M=some (.non,M.set n (.lst (xs.take i.toNat++[d]++xs.drop i.toNat))):=by
 erw[Hd];symm;rw[h];symm;rw[AB #[h0,h1,Ay hz (zi ())]]
def MT(h:Gen M n k)(m0:0<many)(m1:many<=1000):Ok (Fx [.ref n,.int many] M) λd M'=>∃j c,d=.ref j/\M'[j]?=some (.lst (c.map D.int))/\Col many c/\M.length<=j/\Nw M M' n k/\c.Perm ((List.range many.toNat).map λ(x:Nat)=>(x:Int)):=by
 let(hn,hk):=h.lt;erw[Fx];rw[zn];erw[Kf];rw[zM,za];calc JK.mpr (EC.mpr #[zi (by simp),Bv ?_]);rw[zS,zM,Cg];let nw1:=h.lst [] rfl;let e1:(M++[MO.lst ([]:List D)])[M.length]?=some (.lst []):=Ci _ _;generalize M++[MO.lst ([]:List D)]=M1 at nw1 e1;calc#[_,_,_,Ex rfl () (),?_];refine Km (n:=many.toNat) (I:=λi Y M'=>(∃y,Y=[some (.ref n),some (.int many),some (.ref M.length),y])/\∃c:List Int,M'[M.length]?=some (.lst (c.map D.int))/\c.length=i/\(∀x∈c,0<=x/\x<many)/\Nw M M' n k/\c.Perm ((List.range i).map λ(x:Nat)=>(x:Int))) ?_ ?_ _ _ #[#[_,rfl],[],e1,rfl,(λ_ h=>by ext h),nw1,.refl _]
 .rintro i Y M' hi ⟨⟨y,rfl⟩,c,ec,hcl,hc,nw,pm⟩;refine#[_,rfl,?_];rw[GF];refine F0.mpr (A8.mpr #[_,rfl,#[_,Dv ec],C2.mpr (Bp.mpr ?_)]);refine Dw nw.gen rfl (zL rfl rfl rfl) () () λq M2 q0 q1 nx=>?_;let ec2:=nx.nw.get ec () ();rw[zO];refine zE (zY rfl) ?_;refine zE (Ve ec2 q0 (by rw[AG];omega) (by rw[AG];omega)) ?_;let hl:M.length<M2.length:=(AI.mp ec2).1;refine#[#[_,rfl],c.take q.toNat++[(i:Int)]++c.drop q.toNat,?_,by simp;omega,λx hx=>?_,?_,?_]
  .rw[B3 hl];simp
  .simp only[Ae,Ac]at hx;rcases hx with(w|w)|w
   .exact hc x (List.mem_of_mem_take w)
   .omega
   .exact hc x (List.mem_of_mem_drop w)
  .refine(nw.trans nx.nw).setB h (AF _) ?_;show D.unds _ _=true;rw[<-List.map_take,<-List.map_drop,Oq,Oq,Ce,Ce];rfl
  .rw[List.range_succ,CD];calc List.Perm.trans ?_ (List.Perm.append_right _ pm);rw[Bx];calc List.Perm.trans (List.Perm.append_left _ List.perm_append_comm) ?_;rw[<-Bx,List.take_append_drop];exact .refl _
 .rintro Y M' ⟨⟨y,rfl⟩,c,ec,hcl,hc,nw,pm⟩;rw[zS];calc zv rfl #[M.length,c,rfl,ec,#[(),hc],AF _,nw,pm]
def iU(h:Col many c)(hj:j<c.length):0<=c.getD j 0/\c.getD j 0<many:=by
 rw[Bn,AO hj];calc h.2 _ (Bc hj)
def cT(h:Col many c)(hj:j<c.length):Col many (c.set i (c.getD j 0)):=by
 refine#[by rw[List.length_set];exact h.1,λx hx=>?_];rcases List.mem_or_eq_of_mem_set hx with q|q
 .exact h.2 x q
 .rw[q,Bn,AO hj];calc h.2 _ (Bc hj)
def nY{M:Mem}{n k:Nat}(h:Gen M n k){fam many let_:Int}(m0:0<many)(m1:many<=1000):
  Ok (HD [.ref n,.int fam,.int many,.int let_] M) λd M'=>∃j c,d=.ref j/\M'[j]?=some (.lst (c.map D.int))/\Col many c/\M.length<=j/\Nw M M' n k:=by
 let(hn,hk):=h.lt;erw[HD];rw[zn];erw[Jq];let isf:∀(j:Int)(Y:Sd)(M:Mem),Y[1]?=some (some (.int fam))->tst (fOp kEq (zC 1) (fC (.int j))) Y M=some (decide (fam=j),M):=λj Y M e=>by
  let v4:zC 1 Y M=some (.dat (.int fam),M):=by erw[zC];rw[e]
  exact zr (zL v4 rfl (zR (FV.mpr #[rfl,rfl])))
 let isl:∀(Y:Sd)(M:Mem),Y[3]?=some (some (.int let_))->tst (fOp kEq (zC 3) (fC (.int 0))) Y M=some (decide (let_=0),M):=λY M e=>by
  let v4:zC 3 Y M=some (.dat (.int let_),M):=by erw[zC];rw[e]
  exact zr (zL v4 rfl (zR (FV.mpr #[rfl,rfl])))
 let andE:∀{a b:FT}{Y:Sd}{M:Mem}{x y:Bool},a Y M=some (x,M)->b Y M=some (y,M)->Cb a b Y M=some (x&&y,M):=λ{a b Y M x y} ha hb=>by
  erw[Cb];rw[ha];cases x <;> first|exact hb|rfl
 let orE:∀{a b:FT}{Y:Sd}{M:Mem}{x y:Bool},a Y M=some (x,M)->b Y M=some (y,M)->Bl a b Y M=some (x||y,M):=λ{a b Y M x y} ha hb=>by
  erw[Bl];rw[ha];cases x <;> first|exact hb|rfl
 let new:∀(A:Mem)(c':Ye),Nw M A n k->Col many c'->∃j c,D.ref A.length=D.ref j/\(A++[MO.lst (c'.map D.int)])[j]?=some (.lst (c.map D.int))/\Col many c/\M.length<=j/\Nw M (A++[MO.lst (c'.map D.int)]) n k:=λA c' nw hc'=>
  #[A.length,c',rfl,Ci _ _,hc',nw.len,nw.trans (nw.gen.lst _ (Ce _ _))]
 rw[zM,CH];calc zE (isf 0 _ _ rfl) ?_;by_cases w0:fam=0
 .rw[AB (~~~w0),CG];refine Ok.mono (GU h (cnt:=many) (lo:=0) (hi:=many) () () rfl λr M' hr g=>Dw g rfl rfl m0 () λi M2 i0 i1 nx=>#[i,rfl,i0,i1,nx]) ?_;rintro x M1 ⟨⟨c,rfl,hcl,hc⟩,nx⟩;calc Bv ?_;rw[FH];exact new _ _ nx.nw #[hcl,hc]
 rw[AE (~~~w0),Cj,zS,zM,CH];calc zE (isf 1 _ _ rfl) ?_;by_cases w1:fam=1
 .rw[AB (~~~w1),CG];refine Ok.mono (GU h (cnt:=many) (lo:=0) (hi:=many) () () rfl λr M' hr g=>?_) ?_
  .refine A4.mpr (A4.mpr (A8.mpr #[_,rfl,Dw g rfl rfl () () λi M2 i0 i1 nx=>GK.mpr (A8.mpr #[_,rfl,Fo.mpr #[m0,_,rfl,Int.emod_nonneg _ (),Int.emod_lt_of_pos _ m0,nx]])]))
  rintro x M1 ⟨⟨c,rfl,hcl,hc⟩,nx⟩;calc Bv ?_;rw[FH];exact new _ _ nx.nw #[hcl,hc]
 rw[AE (~~~w1),Cj,zS,zM,CH];calc zE (isf 2 _ _ rfl) ?_;by_cases w2:fam=2
 .rw[AB (~~~w2)];refine DK (d:=.int ((many+1) / 2)) (zL (x:=.dat (.int (many+1))) (zL rfl rfl rfl) rfl (zR (Lb.mpr #[#[(),()],rfl,rfl]))) ?_;obtain⟨h0,h1⟩:0<(many+1) / 2/\(many+1) / 2<=many:=()
  generalize (many+1) / 2=half at h0 h1;rw[zM,za];refine Ok.mono (GU h (cnt:=half) (lo:=0) (hi:=half) () () rfl λr M' hr g=>Dw g rfl rfl h0 () λi M2 i0 i1 nx=>#[i,rfl,i0,i1,nx]) ?_;rintro x M1 ⟨⟨c,rfl,hcl,hc⟩,nx⟩;calc Bv ?_;rw[zS,CG];let nw2:=nx.nw.trans (nx.gen.lst (c.map D.int) (Ce _ _));let e6:(M1++[MO.lst (c.map D.int)])[M1.length]?=some (.lst (c.map D.int)):=Ci _ _;let hj:M.length<=M1.length:=nx.nw.len;generalize M1++[MO.lst (c.map D.int)]=M2 at nw2 e6;generalize M1.length=j6 at e6 hj;calc A4.mpr (A8.mpr #[_,rfl,?_]);refine Ok.mono (GU nw2.gen (cnt:=many-half) (lo:=half) (hi:=many) () () (zL rfl rfl rfl) λr M' hr g=>?_) ?_
  .refine A4.mpr (A8.mpr #[_,rfl,Dw g rfl (zL (x:=.dat (.int many)) (y:=.dat (.int half)) rfl rfl rfl) () () λi M3 i0 i1 nx3=>GK.mpr #[_,rfl,(),(),nx3]])
  rintro x M3 ⟨⟨c3,rfl,hcl3,hc3⟩,nx3⟩;let e6':=nx3.nw.get e6 () ();refine Vs (xs:=c.map D.int) (ys:=c3.map D.int) ?_ rfl (by simp;omega) (Bv ?_)
  .unfold Gh;symm;rw[e6']
  rw[FH,<-CD];refine new _ _ (nw2.trans nx3.nw) #[by simp;omega,λx hx=>?_];rcases Ae.mp hx with q|q
  .have:=hc x q;omega
  .have:=hc3 x q;omega
 rw[AE (~~~w2),Cj,zS,zM,CH];calc zE (andE (isf 3 _ _ rfl) (isl _ _ rfl)) ?_;by_cases w3:(decide (fam=3)&&decide (let_=0))=true
 .rw[AB w3,CG];refine Ok.mono (GU h (cnt:=many) (lo:=0) (hi:=many) () () rfl λr M' hr g=>?_) ?_
  .exact zE (zL (x:=.dat (.int ((r:Int)+1))) (y:=.dat (.int many)) (zL rfl rfl rfl) rfl (RM m0)) #[_,rfl,Int.emod_nonneg _ (),Int.emod_lt_of_pos _ m0,Nx.refl g]
  rintro x M1 ⟨⟨c,rfl,hcl,hc⟩,nx⟩;calc Bv ?_;rw[FH];exact new _ _ nx.nw #[hcl,hc]
 rw[AE w3,Cj,zS,zM,CH];calc zE (isf 3 _ _ rfl) ?_;by_cases w3':fam=3
 .rw[AB (~~~w3'),CG];refine Ok.mono (GU h (cnt:=many) (lo:=0) (hi:=many) () () rfl λr M' hr g=>?_) ?_
  .refine zE (Pc (Q5 rfl rfl) (zL rfl (zL rfl rfl rfl) (zR (FV.mpr #[rfl,rfl])))) ?_;by_cases q:(r:Int)=many-1
   .rw[Az q,AB rfl];exact#[0,rfl,(),(),Nx.refl g]
   .rw[Aw q,AE ()];exact#[r,rfl,(),(),Nx.refl g]
  rintro x M1 ⟨⟨c,rfl,hcl,hc⟩,nx⟩;calc Bv ?_;rw[FH];exact new _ _ nx.nw #[hcl,hc]
 rw[AE (~~~w3'),Cj,zS,zM,CH];calc zE (orE (isf 4 _ _ rfl) (isf 7 _ _ rfl)) ?_;by_cases w4:(decide (fam=4)||decide (fam=7))=true
 .rw[AB w4,zM,za];refine Dw h rfl rfl m0 () λfar M1 a0 a1 nx1=>?_;rw[zO,zS,CG];refine Ok.mono (GU nx1.gen (lo:=0) (hi:=many) () () rfl λr M' hr g=>?_) ?_
  .refine zE (Pc (b:=decide (fam=7)) (Q5 (x:=.int (((r:Int)+far) % many)) (y:=.int far) (zL (zL rfl rfl rfl) rfl (RM m0)) rfl) (zL (y:=.dat (.int 7)) rfl rfl (zR (FV.mpr #[rfl,rfl])))) ?_;by_cases q:fam=7
   .rw[Az q,AB rfl];exact#[far,rfl,a0,a1,Nx.refl g]
   .rw[Aw q,AE ()];exact#[_,rfl,Int.emod_nonneg _ (),Int.emod_lt_of_pos _ m0,Nx.refl g]
  rintro x M2 ⟨⟨c,rfl,hcl,hc⟩,nx⟩;calc Bv ?_;rw[FH];exact new _ _ (nx1.trans nx).nw #[hcl,hc]
 rw[AE w4,Cj,zS,zM,za];calc EW.mpr (zE (zU rfl (zY rfl)) ?_);calc Ok.mono (MT h m0 m1) ?_;rintro d M1 ⟨j,c,rfl,ej,cc,hj,nw1,_⟩;let cl:=cc.1;rw[zO,zS,zM,CH];calc zE (andE (isf 6 _ _ rfl) (isl _ _ rfl)) ?_;by_cases w6:(decide (fam=6)&&decide (let_=0))=true
 .rw[AB w6,zM,za];refine A4.mpr (A8.mpr #[_,rfl,Dw nw1.gen rfl rfl m0 () λp M2 p0 p1 nx2=>?_]);let ej2:=nx2.nw.get ej () ();refine IV (zy ej2) (La p0 ()) ?_;rw[zO,zS,Nb];refine A8.mpr #[_,rfl,?_];rw[zO];refine A8.mpr #[_,rfl,Dw nx2.gen rfl rfl m0 () λq M3 q0 q1 nx3=>?_];let ej3:=nx3.nw.get ej2 () ();rw[zO];let eq':q=((q.toNat:Nat):Int):=()
  refine#[M3.set j (.lst ((c.map D.int).set q.toNat (.int (c.getD p.toNat 0)))),?_,?_]
  .have:=MS (k:=q.toNat) (d:=.int (c.getD p.toNat 0)) ej3 (by rw[AG];omega);rw[<-eq']at this;exact this
  rw[zS];refine zv rfl #[j,c.set q.toNat (c.getD p.toNat 0),rfl,?_,cT cc (),hj,?_]
  .rw[B3 (AI.mp ej3).1,List.map_set]
  .refine((nw1.trans nx2.nw).trans nx3.nw).setB h hj ?_;rw[<-List.map_set];exact Ce _ _
 .rw[AE w6,Cj,zS];calc zv rfl #[j,c,rfl,ej,cc,hj,nw1]
def F4(many:Int)(cs:Ya):List (List Int):=(List.range many.toNat).map λr=>cs.map λc=>c.getD r 0
def m9(h0:0<many)(hc:∀c∈cs,Col many c)(hl:0<cs.length):IsM (F4 many cs) cs.length:=by
 let hlen:(F4 many cs).length=many.toNat:=by erw[F4];simp
 refine#[(),hl,λr hr=>?_];rw[hlen];erw[F4]at hr;let(k,hk,rfl):=AL.mp hr;refine#[by simp,λg hg=>?_];let(c,hcm,rfl):=AL.mp hg;have:=hc c hcm;let h1:=this.1;have:=iU this (j:=k) (by have:=A9.mp hk;omega);omega
def UU(M:Mem)(lo:Nat)(many:Int)(js:Yj)(cs:Ya):Prop:=js.length=cs.length/\∀(i:Nat) j c,js[i]?=some j->cs[i]?=some c->lo<=j/\M[j]?=some (.lst (c.map D.int))/\Col many c
def Sx(h:Gen M n k)(hm:0<many)(hm1:many<=900)(hl:0<lm)(hl1:lm<=900):
  Ok (GQ [.ref n,.int many,.int lm] M) λd M'=>(∃zA l,d=mD zA/\IsM zA l/\(zA.length:Int)=many/\(l:Int)=lm)/\Nw M M' n k:=by
 let(hn,hk):=h.lt;erw[GQ];calc Ue ?_;rw[zn];erw[Js];rw[zM,za];refine Dw h rfl rfl () () λfam M1 f0 f1 nx1=>?_;rw[zO,zS,zM,za];calc Iw.mpr #[_,_,_,Ex rfl () (),by rw[Ma];calc zi (),?_];refine Ok.mono (Qn (n:=lm.toNat) (I:=λi acc M'=>∃(js:Yj)(cs:Ya),acc=js.map D.ref/\UU M' M.length many js cs/\cs.length=i/\Nw M M' n k) ?_ #[[],[],rfl,#[rfl,λi j c h=>by simp at h],rfl,nx1.nw]) ?_
 .rintro i acc M' hi ⟨js,cs,rfl,hcs,hcl,nw⟩;refine#[_,rfl,?_];refine EW.mpr (zE (zU rfl (zU rfl (zU rfl (zY rfl)))) ?_);refine Ok.mono (nY nw.gen hm ()) ?_;rintro d M2 ⟨j,c,rfl,ec,cc,hj,nw2⟩;let hle:=nw.len;rw[zO];refine#[js++[j],cs++[c],by simp,#[by simp[hcs.1],λa b c' h1 h2=>?_],by simp[hcl],nw.trans nw2];by_cases ha:a<js.length
  .rw[AM ha]at h1;rw[AM (by rw[<-hcs.1];calc ha)]at h2;let(q1,q2,q3):=hcs.2 a b c' h1 h2;exact#[q1,nw2.get q2 () (),q3]
  .have ha':a=js.length:=by
    have:=(AI.mp h1).1;simp at this;omega
   subst ha';rw[CV (AF _)]at h1;rw[CV (by rw[hcs.1];calc AF _)]at h2;simp at h1;rw[hcs.1]at h2;simp at h2;subst h1 h2;exact#[(),ec,cc]
 .rintro ys M2 ⟨js,cs,rfl,hcs,hcl,nw⟩;refine Bv ?_;rw[zS];let hju:D.unds M2.length (js.map D.ref)=true:=Gu λz hz=>by
   let(b,hb,rfl):=AL.mp hz;let(i,hi,rfl):=List.mem_iff_getElem.mp hb;let hi':i<cs.length:=by rw[<-hcs.1];exact hi
   let(_,q2,_):=hcs.2 i js[i] cs[i] (AO hi) (AO hi');simp[D.und,(AI.mp q2).1]
  let nwA:=nw.trans (nw.gen.lst (js.map D.ref) hju);let eA:(M2++[MO.lst (js.map D.ref)])[M2.length]?=some (.lst (js.map D.ref)):=Ci _ _;let hA:UU (M2++[MO.lst (js.map D.ref)]) M.length many js cs:=#[hcs.1,λi j c h1 h2=>by
   let(q1,q2,q3):=hcs.2 i j c h1 h2;calc#[q1,by rw[AM (AI.mp q2).1];calc q2,q3]]
  generalize M2++[MO.lst (js.map D.ref)]=A at nwA eA hA;generalize M2.length=j at eA;let hcol:∀c∈cs,Col many c:=λc hc=>by
   let(i,hi,rfl):=List.mem_iff_getElem.mp hc;exact(hA.2 i (js[i]'(by rw[hA.1];calc hi)) cs[i] (AO _) (AO _)).2.2
  let hlen:(F4 many cs).length=many.toNat:=by erw[F4];simp
  calc zv ?_ #[#[FQ _,nwA.len,nwA.wf0 h],#[F4 many cs,cs.length,rfl,m9 hm hcol (),(),()],nwA.trim h];refine(GD (EY (List.range many.toNat) (λk=>D.int k) (λk=> .tup ((cs.map λc=>c.getD k 0).map D.int)) (P8 rfl () ()) trivial (by simp;omega) λr hr=>#[_,rfl,?_]) Fh).trans ?_
  .have hr':=A9.mp hr;refine(GD (EY (gd:=CQ (.dat (.ref j)) (js.map D.ref)) (List.range js.length) (λi=>D.ref (js.getD i 0)) (λi=> .int ((cs.getD i []).getD r 0)) ?_ ?_ (by rw[Et,hA.1,hcl];omega) λi hi=>#[_,rfl,?_]) Fh).trans ?_
   .rw[show((List.range js.length).map λi=>D.ref (js.getD i 0))=js.map D.ref by
     apply List.ext_getElem
     .simp
     .intro i h1 h2;simp at h1;simp[h1]]
    exact E3 rfl (zy eA)
   .exact .inl eA
   .have hi':=A9.mp hi;let hc':i<cs.length:=by rw[<-hA.1];exact hi'
    let ej':js[i]?=some (js.getD i 0):=by rw[Bn,AO hi'];rfl
    let ec':cs[i]?=some (cs.getD i []):=by rw[Bn,AO hc'];rfl
    let(_,q2,q3):=hA.2 i _ _ ej' ec';let hz:=q3.1;exact zL rfl rfl (BZ (zy q2) (La () ()))
   .congr 3;rw[Af];refine Ba D.tup ?_;apply List.ext_getElem
    .simp[hA.1]
    .intro i h1 h2;simp at h1 h2;let h2':i<cs.length:=h2;simp[h2']
  .unfold mD F4;rw[Af];rfl
def Ku:FS:=(zq (Jg (fB An (zQ (zC 0) ze))))
def EJ:FF:=AV 1 Ku
def LJ:FS:=(zq (EE [1,2] [2] (AN (zC 0)) (gN 1) zc (AN (zC 0)) (gN 2) (tst (fOp kLt (zC 1) (zC 2))) (A1 (zD (toD (zC 1)) (zD (toD (zC 2)) zG)))))
def EA:FF:=AV 3 LJ
theorem Hi{α:Type}(enc out:α->D)(keep:α->Bool):∀(as:List α),(∀a∈as,∃σ1,g (enc a) Y=some σ1/\tc σ1 M=some (keep a,M)/\(keep a=true->te σ1 M=some (.dat (out a),M)))->BK g tc te Y all none (as.map enc) M=some ((as.filter keep).map out,M)
 |[],_=>by
  rw[List.map_nil];erw[BK];rw[AB (show BG none all M from trivial)];rfl
 |a::r,h=>by
  let(σ1,e1,e2,e3):=h a AR;let ih:=Hi (all:=all) enc out keep r λb hb=>h b (Aa _ hb);rw[AU];erw[BK];rw[AB (show BG none all M from trivial),e1];symm;rw[e2];cases hk:keep a with
  |false=>
   symm;rw[ih,List.filter_cons_of_neg (by simp[hk])]
  |true=>
   symm;rw[show toD te σ1 M=some (out a,M)by erw[toD];rw[e3 hk]];symm;rw[ih,List.filter_cons_of_pos hk];rfl
def U4{α β:Type}(as:List α)(enc:α->D)(bs:α->List β)(enc2:β->D)(keep:α->β->Bool)(out:α->β->D)(B:Nat)
  (hi:fi Y M=some (as.map enc,none,M)) (hB:∀a∈as,(bs a).length<=B) (hz:as.length*B<=90000)
  (he:∀a∈as,∃σ1,fg (enc a) (Al own Y)=some σ1/\fi2 σ1 M=some ((bs a).map enc2,none,M)/\∀b∈bs a,∃σ2,fg2 (enc2 b) (Al own2 σ1)=some σ2/\tc2 σ2 M=some (keep a b,M)/\(keep a b=true->te σ2 M=some (.dat (out a b),M))):
  EE own own2 fi fg zc fi2 fg2 tc2 te Y M=some (.fl (as.flatMap λa=>((bs a).filter (keep a)).map (out a)),M):=by
 let key:∀(r:List α)(acc:List D),(∀a∈r,a∈as)->acc.length+r.length*B<=90000->DQ fg zc fi2 own2 fg2 tc2 te (Al own Y) (as.map enc) none (r.map enc) acc M=some (acc++r.flatMap λa=>((bs a).filter (keep a)).map (out a),M):=by
  intro r;induction r with
  |nil=>
   intro acc _ _;rw[List.map_nil];erw[DQ];rw[AB (show BG none (as.map enc) M from trivial)];simp
  |cons a r ih=>
   intro acc hs hl;let ha:=hs a AR;let(σ1,e1,e2,e3):=he a ha;let hb:=hB a ha;let hlen:(((bs a).filter (keep a)).map (out a)).length<=(bs a).length:=by rw[AG];exact Gx _ _
   rw[Bw,Nat.add_mul]at hl;rw[AU];erw[DQ];rw[AB (show BG none (as.map enc) M from trivial),e1];symm;rw[show zc σ1 M=some (true,M)from rfl];symm;rw[e2];symm;rw[AB (zi (by rw[AG];omega)),Hi enc2 (out a) (keep a) (bs a) e3];symm;rw[ih _ (λb hb=>hs b (Aa _ hb)) (by rw[AW];omega)];rw[Eb,Bx]
 erw[EE];rw[hi];symm;rw[key as [] (λ_ h=>h) (~~~hz)];simp
def zZ(xs:Ye):List (List Int):=xs.flatMap λa=>(xs.filter λb=>decide (a<b)).map λb=>[a,b]
def ON(hz:xs.length<=200):EA [tI xs] M=some (.ref M.length,M++[.lst ((zZ xs).map tI)]):=by
 suffices h:Ok (EA [tI xs] M) λd M'=>d=.ref M.length/\M'=M++[.lst ((zZ xs).map tI)]by
  let(d,M',e,rfl,rfl):=h;exact e
 erw[EA];rw[zn];erw[LJ];rw[CG];let hq:xs.length*xs.length<=90000:=Ab (FN hz hz) ();refine zE (U4 xs D.int (λ_=>xs) D.int (λa b=>decide (a<b)) (λa b=>tI [a,b]) xs.length (G8 rfl) (λ_ _=>AF _) hq λa ha=>#[_,rfl,G8 rfl,λb hb=>#[_,rfl,?_,λ_=>?_]]) (Bv #[rfl,?_])
 .exact zr (zL rfl rfl (zR (TF.mpr #[rfl,rfl])))
 .unfold A1;rw[zU rfl (zY rfl)];symm;rw[AB (zi (by simp))];rfl
 .congr 3;erw[zZ];rw[List.map_flatMap];congr 1;funext a;rw[Af];rfl
def Es:p∈zZ xs↔∃a b,p=[a,b]/\a∈xs/\b∈xs/\a<b:=by
 erw[zZ];rw[List.mem_flatMap];constructor
 .rintro⟨a,ha,h⟩;let(b,hb,rfl):=AL.mp h;let(h1,h2):=C3.mp hb;exact#[a,b,rfl,ha,h1,Cs h2]
 .rintro⟨a,b,rfl,ha,hb,hlt⟩;calc#[a,ha,AL.mpr #[b,C3.mpr #[hb,Az hlt],rfl]]
def Nt(hz:zA.length<=1000):EJ [mD zA] M=some (tI ((List.range zA.length).map λ(k:Nat)=>(k:Int)),M):=by
 calc zR ?_;erw[EJ];rw[zn];erw[Ku];calc zv ?_ #[rfl,rfl];erw[Jg];rw[show fB An (zQ (zC 0) ze) ([mD zA].map some++List.replicate (1 - [mD zA].length) none) M=some (.dat (.int zA.length),M)from IL rfl];symm;rw[AB #[(),()]];erw[upD,tI];rw[Af,show(zA.length:Int).toNat=zA.length by omega];rfl
def E8(g:Ye):List Key:=g.map Sum.inl
theorem SK:∀{a b:Ye},E8 a=E8 b->a=b
 |[],[],_=>rfl
 |[],_::_,h=>by ext h
 |_::_,[],h=>by ext h
 |x::a,y::b,h=>by
  let h1:=(CF h).1;let h2:=SK (CF h).2;ext h1;rw[h2]
theorem QC:∀g:List Int,DO (g.map D.int)=some (E8 g)
 |[]=>rfl
 |x::r=>by
  rw[AU];erw[DO];rw[QC r];rfl
def Ls(g:Ye):tkD (tI g)=some (E8 g):=QC g
abbrev BC(T:List (List Int×D)):List (D×D):=T.map λq=>(tI q.1,q.2)
abbrev dT(T:List (List Int×D)):MO:=.dicT (BC T)
def zF:List (List Int×D)->List Int->Option D
 |[],_=>none
 |q::r,g=>if q.1=g then some q.2 else zF r g
def Ad(T:List (List Int×D))(g:Ye)(v:D):List (List Int×D):=match zF T g with
 |some _=>T.map λq=>if q.1=g then(q.1,v)else q
 |none=>T++[(g,v)]
def Mh(a g:Ye):decide (tkD (tI a)=some (E8 g))=decide (a=g):=by
 rw[Ls];by_cases h:a=g
 .subst h;simp
 .rw[Aw h,Aw];intro e;calc h (SK (Be e))
theorem To(g:Ye):∀T:List (List Int×D),Dj tkD (BC T) (E8 g)=zF T g
 |[]=>rfl
 |q::r=>by
  let ih:=To g r;unfold Dj at ih ⊢;unfold BC at ih ⊢;rw[AU,E7];rw[Mh];erw[zF];by_cases h:q.1=g
  .rw[Az h,AB h];rfl
  .rw[Aw h,AE h];calc ih
theorem Qb(g:Ye):∀T:List (List Int×D),((BC T).any λp=>decide (tkD p.1=some (E8 g)))=(zF T g).isSome
 |[]=>rfl
 |q::r=>by
  let ih:=Qb g r;unfold BC at ih ⊢;rw[AU,List.any_cons,Mh];erw[zF];by_cases h:q.1=g
  .rw[Az h,AB h];rfl
  .rw[Aw h,AE h,Bool.false_or];calc ih
def cX(T:List (List Int×D))(g:Ye)(v:D):Fi tkD (BC T) (E8 g) (tI g) v=BC (Ad T g v):=by
 erw[Fi,Ad];rw[Qb];cases h:zF T g with
 |none=>
  rw[AE (by simp)];erw[BC];rw[CD];rfl
 |some d=>
  rw[AB (by simp)];erw[BC];rw[Af,Af];apply List.map_congr_left;intro q _;show(if tkD (tI q.1)=some (E8 g)then(tI q.1,v)else(tI q.1,q.2))=(tI (if q.1=g then(q.1,v)else q).1,(if q.1=g then(q.1,v)else q).2);let hd:=Mh q.1 g;by_cases hq:q.1=g
  .rw[Az hq]at hd;rw[AB (Cs hd),AB hq]
  .rw[Aw hq]at hd;rw[AE (of_decide_eq_false hd),AE hq]
def GW(T:List (List Int×D))(g h:Ye)(v:D):zF (Ad T g v) h=if g=h then some v else zF T h:=by
 let app:∀(T:List (List Int×D)),zF T g=none->zF (T++[(g,v)]) h=if g=h then some v else zF T h:=by
  intro T;induction T with
  |nil=>intro _;rfl
  |cons q r ih=>
   intro e;erw[zF]at e;by_cases hq:q.1=g
   .rw[AB hq]at e;ext e
   .rw[AE hq]at e;show(if q.1=h then some q.2 else zF (r++[(g,v)]) h)=if g=h then some v else if q.1=h then some q.2 else zF r h
    rw[ih e];by_cases h1:q.1=h
    .rw[AB h1,AB h1,AE (λz=>hq (h1.trans z.symm))]
    .rw[AE h1,AE h1]
 let mp:∀(T:List (List Int×D)),(zF T g).isSome=true->zF (T.map λq=>if q.1=g then(q.1,v)else q) h=if g=h then some v else zF T h:=by
  intro T;by_cases hgh:g=h
  .subst hgh;induction T with
   |nil=>intro e;ext e
   |cons q r ih=>
    intro e;rw[AU];erw[zF];by_cases hq:q.1=g
    .rw[AB hq];simp[hq]
    .rw[AE hq,AE hq];erw[zF]at e;rw[AE hq]at e;rw[ih e,AB rfl,AB rfl]
  .intro hx;clear hx;rw[AE hgh];induction T with
   |nil=>rfl
   |cons q r ih=>
    rw[AU];erw[zF];by_cases hq:q.1=g
    .have:¬ q.1=h:=λz=>hgh (hq.symm.trans z);rw[AB hq];rw[AE this,AE this];exact ih
    .rw[AE hq];by_cases h1:q.1=h
     .rw[AB h1,AB h1]
     .rw[AE h1,AE h1];exact ih
 erw[Ad];cases e:zF T g with
 |none=>calc app T e
 |some d=>calc mp T (by rw[e];rfl)
def QX(T:List (List Int×D))(g:Ye)(v:D):(Ad T g v).length<=T.length+1:=by
 erw[Ad];cases zF T g with
 |none=>simp
 |some d=>simp
def dgT(h:M[n]?=some (dT T)):EM M (.dat (.ref n)) (tI g)=some (zF T g):=by
 erw[EM];symm;rw[h];symm;rw[Ls];symm;rw[To]
def BW(h:M[n]?=some (dT T)):As neg (.dat (tI g)) (.dat (.ref n)) M=some (.dat (.bl (if neg then !(zF T g).isSome else(zF T g).isSome)),M):=by
 erw[As];symm;rw[dgT h]
def C6(h:M[n]?=some (dT T))(hd:zF T g=some d):BE (.dat (.ref n)) (.dat (tI g)) M=some (.dat d,M):=by
 erw[BE];symm;rw[dgT h,hd]
def Bg(h:M[n]?=some (dT T))(hz:T.length<90000):Ee M n (tI g) v=some (M.set n (dT (Ad T g v))):=by
 erw[Ee];rw[h];symm;rw[Ls];symm;rw[AB (by rw[AG];calc Ay hz (zi ())),cX]
end Lac
namespace Lae
open L2 L3 ST Law
abbrev Lvl:=List (List Int×List Int)
def BD(zA:Ya)(S w:Ye)(p:List (List Int)×Lvl)(g:Int):List (List Int)×Lvl :=
 if setR zA S g∈p.1 then p else(p.1++[setR zA S g],p.2++[(setR zA S g,w++[g])])
def Av(l:Nat):List Int:=(List.range l).map λ(g:Nat)=>(g:Int)
def CM(zA:Ya)(l:Nat)(p:List (List Int)×Lvl)(s:List Int×List Int):List (List Int)×Lvl:=(Av l).foldl (BD zA s.1 s.2) p
def B8(zA:Ya)(l:Nat)(seen:Ya)(level:Lvl):List (List Int)×Lvl:=level.foldl (CM zA l) (seen,[])
def run(zA:Ya)(l:Nat)(due:List Int->Bool):Nat->List (List Int)->Lvl->List (List (List Int))->Option (Option (List Int)×List (List (List Int)))
 |0,_,_,_=>none
 |n+1,seen,level,acc=>if level.isEmpty then some (none,acc)else match level.find? λp=>due p.1 with
  |some p=>some (some p.2,acc)
  |none=>run zA l due n (B8 zA l seen level).1 (B8 zA l seen level).2 (acc++[level.map (·.1)])
structure Met(zA:Ya)(seen:Ya)(level:Lvl):Prop where
 nd:seen.Nodup
 st:∀S∈seen,IsS zA S
 lv:∀p∈level,IsS zA p.1
structure Gr(zA:Ya)(seen:Ya)(p:List (List Int)×Lvl):Prop where
 nd:p.1.Nodup
 st:∀S∈p.1,IsS zA S
 eq:p.1=seen++p.2.map (·.1)
def Gr.lv{zA:Ya}{seen:Ya}{p:List (List Int)×Lvl}(h:Gr zA seen p):∀s∈p.2,IsS zA s.1:=λs hs=>h.st _ (by rw[h.eq];calc Ak _ (AL.mpr #[s,hs,rfl]))
def Sj{zA:Ya}{l:Nat}(m:IsM zA l){seen:Ya}{p:List (List Int)×Lvl}(h:Gr zA seen p){S w:Ye}(s:IsS zA S){g:Int}(g0:0<=g)(g1:g<l):Gr zA seen (BD zA S w p g):=by
 erw[BD];split
 .exact h
 .intros hn;refine#[?_,λT hT=>?_,by rw[h.eq];simp]
  .rw[DN];exact#[h.nd,by simp,λa ha b hb z=>hn (by rw[<-(show b=setR zA S g by simpa using hb),<-z];calc ha)]
  .rcases Ae.mp hT with z|z
   .exact h.st T z
   .have:T=setR zA S g:=by simpa using z
    rw[this];calc m.setR s g0 g1
def Jx(h:g∈Av l):0<=g/\g<l:=by
 let(i,hi,rfl):=AL.mp h;have:=A9.mp hi;omega
theorem UW{zA:Ya}{l:Nat}(m:IsM zA l){seen:Ya}{S w:Ye}(s:IsS zA S):∀(gs:Ye){p:List (List Int)×Lvl},(∀g∈gs,0<=g/\g<(l:Int))->Gr zA seen p->Gr zA seen (gs.foldl (BD zA S w) p)
 |[],_,_,h=>h
 |g::r,p,hg,h=>UW m s r (λx hx=>hg x (Aa _ hx)) (Sj m h s (hg g AR).1 (hg g AR).2)
def m6{zA:Ya}{l:Nat}(m:IsM zA l){seen:Ya}{p:List (List Int)×Lvl}(h:Gr zA seen p){s:List Int×List Int}(hs:IsS zA s.1):Gr zA seen (CM zA l p s):=UW m hs _ (λg hg=>Jx hg) h
theorem Oj{zA:Ya}{l:Nat}(m:IsM zA l){seen:Ya}:∀{level:Lvl}{p:List (List Int)×Lvl},(∀s∈level,IsS zA s.1)->Gr zA seen p->Gr zA seen (level.foldl (CM zA l) p)
 |[],_,_,h=>h
 |s::r,p,hs,h=>Oj m (level:=r) (λx hx=>hs x (Aa _ hx)) (m6 m h (hs s AR))
def Met.next{zA:Ya}{l:Nat}(m:IsM zA l){seen:Ya}{level:Lvl}(h:Met zA seen level):Gr zA seen (B8 zA l seen level):=Oj m h.lv #[h.nd,h.st,by simp]
def Gr.met{zA:Ya}{seen:Ya}{p:List (List Int)×Lvl}(h:Gr zA seen p):Met zA p.1 p.2:=#[h.nd,h.st,h.lv]
def Ft:Nat->List (List Int)
 |0=>[[]]
 |n+1=>Ft n++(Ft n).map (· ++ [(n:Int)])
theorem PY:∀n,(Ft n).length=2 ^ n
 |0=>rfl
 |n+1=>by erw[Ft];rw[AW,AG,PY n,Nat.pow_succ];omega
theorem Mp:∀(n:Nat)(S:Ye),S.Pairwise (· < ·)->(∀x∈S,0<=x/\x<(n:Int))->S∈Ft n
 |0,S,_,h=>by
  cases S with
  |nil=>erw[Ft];simp
  |cons x r=>have:=h x AR;omega
 |n+1,S,hp,h=>by
  erw[Ft];rw[Ae];by_cases hn:(n:Int)∈S
  .right;let(a,b,rfl):=List.append_of_mem hn;rw[List.pairwise_append,Dd]at hp;let hb:b=[]:=by
    cases b with
    |nil=>rfl
    |cons y b=>
     let h1:=hp.2.1.1 y AR;let h2:=h y (by simp);omega
   subst hb;refine AL.mpr #[a,Mp n a hp.1 λx hx=>?_,rfl];let h1:=hp.2.2 x hx (n:Int) AR;let h2:=h x (CI _ hx);omega
  .left;refine Mp n S hp λx hx=>?_;let h2:=h x hx;have:x≠n:=λz=>hn (z▸hx);omega
theorem N6{α:Type}[DecidableEq α]:∀{xs ys:List α},xs.Nodup->(∀x∈xs,x∈ys)->xs.length<=ys.length
 |[],_,_,_=>BV _
 |x::r,ys,hn,h=>by
  let hn':=FR.mp hn;let h1:=h x AR;let ih:=N6 (xs:=r) (ys:=ys.erase x) hn'.2 λy hy=>by
   have:y≠x:=λz=>hn'.1 (z▸hy);exact(List.mem_erase_of_ne this).mpr (h y (Aa _ hy))
  rw[List.length_erase_of_mem h1]at ih;have:=List.length_pos_of_mem h1;rw[Bw];omega
def IM{zA:Ya}{seen:Ya}(nd:seen.Nodup)(st:∀S∈seen,IsS zA S)(h9:zA.length<=9):seen.length<=512:=by
 let h1:seen.length<=(Ft zA.length).length:=N6 nd λS hS=>Mp _ S (st S hS).pw (st S hS).mem;rw[PY]at h1;have:2 ^ zA.length<=2 ^ 9:=Nat.pow_le_pow_right () h9;omega
theorem PN{zA:Ya}{l:Nat}(m:IsM zA l)(h9:zA.length<=9){due:List Int->Bool}:∀(n:Nat){seen:Ya}{level:Lvl}{acc:List (List (List Int))},Met zA seen level->514<=n+seen.length->∃r,run zA l due n seen level acc=some r
 |0,seen,level,acc,h,hn=>by have:=IM h.nd h.st h9;omega
 |n+1,seen,level,acc,h,hn=>by
  erw[run];split
  .exact#[_,rfl]
  .split
   .exact#[_,rfl]
   .have g:=h.next m;by_cases he:(B8 zA l seen level).2=[]
    .cases n with
     |zero=>have:=IM h.nd h.st h9;omega
     |succ n=>
      erw[run];rw[he];exact#[_,rfl]
    .refine PN m h9 n g.met ?_;rw[g.eq,AW,AG];have:=List.length_pos_iff.mpr he;omega
theorem UX(hd:∀S,due S=false):∀(n:Nat){seen:Ya}{level:Lvl}{acc:List (List (List Int))}{r},run zA l due n seen level acc=some r->r.1=none
 |0,_,_,_,_,h=>by ext h
 |n+1,seen,level,acc,r,h=>by
  erw[run]at h;cbv at h
  .cases h;rfl
  .split at h
   .intros p hp;have:=List.find?_some hp;rw[hd]at this;ext this
   .exact UX hd n h
theorem NQ:∀(n:Nat){seen:Ya}{level:Lvl}{acc:List (List (List Int))}{r:Option (List Int)×List (List (List Int))},run zA l due n seen level acc=some r->r.2.length<=acc.length+n
 |0,_,_,_,_,h=>by ext h
 |n+1,seen,level,acc,r,h=>by
  erw[run]at h;cbv at h
  .cases h;show acc.length<=_;omega
  .split at h
   .cases h;show acc.length<=_;omega
   .have:=NQ n h;rw[AW,G9]at this;omega
def Ho(h1:fv Y M=some (.dat v,M))(h2:fo Y M=some (.dat (.ref n),M))(h3:fi Y M=some (.dat k,M))(h4:Ee M n k v=some M4)(q:P .nx Y M4):OkS (Bd fv fo fi Y M) P:=by
 calc#[.nx,Y,M4,?_,q];erw[Bd,toD];rw[h1];symm;rw[h2];symm;rw[h3];symm;rw[h4]
open Lac (dT BC zF Ad BW Bg)
def Jh:FS:=(zW (zw 3 IE)
  (zW (BO (E2 (zC 1)) (C0 4 5) (BO (BJ (zD (toD (fB An (zQ (fOp kIx (zC 0) (fC (.int 0))) ze))) zG)) (gN 6) (zW (zw 7 (zP Cu (zD (toD (zC 0)) (zD (toD (zC 4)) (zD (toD (zC 6)) zG)))))
  (sIf (tst (fOp (As true) (zC 7) (zC 2))) (zW (Bd (fC (.bl true)) (zC 2) (zC 7))
  (Bd (fOp BA (zC 5) (A1 (zD (toD (zC 6)) zG))) (zC 3) (zC 7))) Ao))))
  (zq (zC 3))))
def Gy:FF:=AV 8 Jh
def sE(ss:Ya):List (List Int×D):=ss.map λs=>(s,.bl true)
def wE(lv:Lvl):List (List Int×D):=lv.map λp=>(p.1,tI p.2)
theorem K8(x:D):∀(T:List (List Int×D))(g:Ye),(zF T g).isSome=decide (g∈T.map (·.1))
 |[],g=>by simp[zF]
 |q::r,g=>by
  erw[zF];by_cases h:q.1=g
  .rw[AB h];simp[h]
  .rw[AE h,K8 x r g];have:g≠q.1:=λz=>h z.symm;simp[this]
def Sy(ss:Ya):(sE ss).map (·.1)=ss:=by erw[sE];rw[Af];calc List.map_id' ss
def jJ(lv:Lvl):(wE lv).map (·.1)=lv.map (·.1):=by erw[wE];rw[Af];rfl
def RW(h:g∉T.map (·.1)):Ad T g v=T++[(g,v)]:=by
 erw[Ad];have:=K8 .non T g;rw[Aw h]at this;cases e:zF T g with
 |none=>rfl
 |some d=>rw[e]at this;ext this
def Uo(h:g∉ss):Ad (sE ss) g (.bl true)=sE (ss++[g]):=by
 rw[RW (by rw[Sy];calc h)];erw[sE];simp
def qV(h:g∉lv.map (·.1)):Ad (wE lv) g (tI w)=wE (lv++[(g,w)]):=by
 rw[RW (by rw[jJ];calc h)];erw[wE];simp
structure Nl(M0 M:Mem)(a b c:Nat)(lev:MO)(seen:Ya)(beh:Lvl):Prop where
 len:M.length=M0.length+1
 ea:M[a]?=some lev
 eb:M[b]?=some (dT (sE seen))
 ec:M[c]?=some (dT (wE beh))
 fr:∀j,j<M0.length->j≠a->j≠b->M[j]?=M0[j]?
def Wx(hz:w.length<=5000):BA (.dat (tI w)) (.dat (.tup [.int g])) M=some (.dat (tI (w++[g])),M):=by
 let e:Md (.dat (tI w)) (.dat (.tup [.int g])) M=none:=rfl;show kOr Md Hq _ _ M=_;erw[kOr];rw[e];show Hq (.dat (.tup (w.map D.int))) (.dat (.tup [.int g])) M=_;erw[Hq];dsimp only[Cc];rw[AB (zi (by simp;omega))];erw[tI];rw[CD];rfl
def rK{zA:Ya}{l:Nat}(m:IsM zA l)(h9:zA.length<=9){M0 M:Mem}{a b c:Nat}(hac:a≠c)(hbc:b≠c)(hab:a≠b)(hc:c=M0.length)(hb:b<M0.length){lev:MO}{seen0:Ya}{p:List (List Int)×Lvl}(gr:Gr zA seen0 p)(nl:Nl M0 M a b c lev p.1 p.2){S w:Ye}(s:IsS zA S)(hw:w.length<=5000){g:Int}(g0:0<=g)(g1:g<l){y7:Option D}:
  OkS (zW (zw 7 (zP Cu (zD (toD (zC 0)) (zD (toD (zC 4)) (zD (toD (zC 6)) zG)))))
  (sIf (tst (fOp (As true) (zC 7) (zC 2))) (zW (Bd (fC (.bl true)) (zC 2) (zC 7))
  (Bd (fOp BA (zC 5) (A1 (zD (toD (zC 6)) zG))) (zC 3) (zC 7))) Ao) [some (mD zA),some (.ref a),some (.ref b),some (.ref c),some (tI S),some (tI w),some (.int g),y7] M)
   λo Y M'=>o=.nx/\(∃y7,Y=[some (mD zA),some (.ref a),some (.ref b),some (.ref c),some (tI S),some (tI w),some (.int g),y7])/\Nl M0 M' a b c lev (BD zA S w p g).1 (BD zA S w p g).2:=by
 calc DK (zV (zU rfl (zU rfl (zY rfl))) (HE m () s g0 g1)) ?_;rw[CH];calc zE (zr (zL rfl rfl (BW nl.eb))) ?_;rw[K8 .non,Sy];erw[BD];by_cases hm:setR zA S g∈p.1
 .rw[AB hm,AE (by simp[hm]),Cj];exact#[rfl,#[_,rfl],nl]
 .rw[AE hm,AB (by simp[hm]),zM];let hl:=IM gr.nd gr.st h9;let hk:p.2.length<=p.1.length:=by rw[gr.eq,AW,AG];omega
  let hm2:setR zA S g∉p.2.map (·.1):=λz=>hm (by rw[gr.eq];calc Ak _ z);calc Ho rfl rfl rfl (Bg nl.eb (by erw[sE];rw[AG];omega)) ?_;rw[zS,Uo hm];let hbl:b<M.length:=by rw[nl.len];omega
  let hcl:c<M.length:=by rw[nl.len];omega
  let ec':(M.set b (dT (sE (p.1++[setR zA S g]))))[c]?=some (dT (wE p.2)):=by rw[Ag hbc];exact nl.ec
  let tp:∀{Y:Sd}{M:Mem},Y[6]?=some (some (.int g))->A1 (zD (toD (zC 6)) zG) Y M=some (.dat (.tup [.int g]),M):=λ{Y M} e=>by
   let e1:zC 6 Y M=some (.dat (.int g),M):=by erw[zC];rw[e]
   erw[A1];rw[zY e1];symm;rw[AB (zi (by simp))]
  calc Ho (zL rfl (tp rfl) (Wx hw)) rfl rfl (Bg ec' (by erw[wE];rw[AG];omega)) ?_;rw[qV hm2];refine#[rfl,#[_,rfl],by simp[nl.len],?_,?_,?_,λj hj h1 h2=>?_]
  .rw[Ag (Ne.symm hac),Ag (Ne.symm hab)];exact nl.ea
  .rw[Ag (Ne.symm hbc),B3 hbl]
  .rw[B3 (~~~hcl)]
  .rw[Ag (),Ag (Ne.symm h2)];calc nl.fr j hj h1 h2
def Vy(h:∀s∈p.2,s.2.length<=n)(hw:w.length+1<=n):∀s∈(BD zA S w p g).2,s.2.length<=n:=by
 erw[BD];split
 .exact h
 .intro s hs;rcases Ae.mp hs with z|z
  .exact h s z
  .have:s=(setR zA S g,w++[g]):=by simpa using z
   rw[this];simpa using hw
theorem UB(hw:w.length+1<=n):∀(gs:Ye){p:List (List Int)×Lvl},(∀s∈p.2,s.2.length<=n)->∀s∈(gs.foldl (BD zA S w) p).2,s.2.length<=n
 |[],_,h=>h
 |g::r,p,h=>UB hw r (Vy h hw)
theorem RT:∀{level:Lvl}{p:List (List Int)×Lvl},(∀s∈level,s.2.length+1<=n)->(∀s∈p.2,s.2.length<=n)->∀s∈(level.foldl (CM zA l) p).2,s.2.length<=n
 |[],_,_,h=>h
 |s::r,p,hs,h=>RT (level:=r) (λx hx=>hs x (Aa _ hx)) (UB (hs s AR) _ h)
abbrev lE(lv:Lvl):List (D×D):=BC (wE lv)
def ZJ{zA:Ya}{l:Nat}(m:IsM zA l)(h9:zA.length<=9)(hl9:l<=1000){M0:Mem}{a b:Nat}(hab:a≠b){level:Lvl}{seen:Ya}(mt:Met zA seen level)(ea:M0[a]?=some (.dicT (lE level))\/M0[a]?=some (.froT (lE level)))(eb:M0[b]?=some (dT (sE seen)))(hw:∀s∈level,s.2.length<=5000):
  Ok (Gy [mD zA,.ref a,.ref b] M0) λd M'=>d=.ref M0.length/\Nl M0 M' a b M0.length (.froT (lE level)) (B8 zA l seen level).1 (B8 zA l seen level).2:=by
 let ha:a<M0.length:=by rcases ea with e|e <;> exact(AI.mp e).1
 let hb:b<M0.length:=(AI.mp eb).1;erw[Gy];rw[zn];erw[Jh];rw[zM,za];refine zE (M:=M0++[.dicT []]) rfl ?_;rw[zO,zS];obtain⟨M1,ei,nl1⟩:∃M1,E2 (zC 1) [some (mD zA),some (.ref a),some (.ref b),some (.ref M0.length),none,none,none,none] (M0++[.dicT []])=some ((lE level).map λp=>D.tup [p.1,p.2],none,M1)/\Nl M0 M1 a b M0.length (.froT (lE level)) seen []:=by
  let ga:(M0++[.dicT []])[a]?=M0[a]?:=AM ha;let gb:(M0++[.dicT []])[b]?=some (dT (sE seen)):=by rw[AM hb];exact eb
  let gc:(M0++[.dicT []])[M0.length]?=some (dT (wE [])):=by simp;rfl
  erw[E2,zC];dsimp only[List.getElem?_cons_succ,List.getElem?_cons_zero];rw[ga];rcases ea with e|e
  .rw[e];refine#[_,rfl,by simp,B3 (by simp;omega),?_,?_,λj hj h1 h2=>?_]
   .rw[Ag hab];exact gb
   .rw[Ag ()];exact gc
   .rw[Ag (Ne.symm h1),AM hj]
  .rw[e];exact#[_,rfl,by simp,ga.trans e,gb,gc,λj hj h1 h2=>AM hj]
 rw[zM,Cg];calc#[_,_,_,ei,?_];refine Cy (I:=λr Y M'=>(∃y4 y5 y6 y7,Y=[some (mD zA),some (.ref a),some (.ref b),some (.ref M0.length),y4,y5,y6,y7])/\∃(done rest:Lvl),r=(lE rest).map (λp=>D.tup [p.1,p.2])/\done++rest=level/\Nl M0 M' a b M0.length (.froT (lE level)) (done.foldl (CM zA l) (seen,[])).1 (done.foldl (CM zA l) (seen,[])).2) ?_ ?_ _ _ _ #[#[_,_,_,_,rfl],[],level,rfl,rfl,nl1]
 .rintro x r Y M' ⟨⟨y4,y5,y6,y7,rfl⟩,done,rest,er,hd,nl⟩;cases rest with
  |nil=>ext er
  |cons sw rest=>
   let(rfl,rfl):=CF er;let hs:sw∈level:=by rw[<-hd];simp
   let sS:=mt.lv sw hs;let gr0:Gr zA seen (done.foldl (CM zA l) (seen,[])):=Oj m (λs z=>mt.lv s (by rw[<-hd];simp[z])) #[mt.nd,mt.st,by simp];generalize hp:done.foldl (CM zA l) (seen,[])=p0 at nl gr0;refine#[B4,_,rfl,?_];rw[Cg];let el:fB An (zQ (fOp kIx (zC 0) (fC (.int 0))) ze) [some (mD zA),some (.ref a),some (.ref b),some (.ref M0.length),some (tI sw.1),some (tI sw.2),y6,y7] M'=some (.dat (.int l),M'):=by
    let hr:=m.get (h:=0) () (by have:=m.r0;omega);have:=Dc (f:=fOp kIx (zC 0) (fC (.int 0))) (Y:=[some (mD zA),some (.ref a),some (.ref b),some (.ref M0.length),some (tI sw.1),some (tI sw.2),y6,y7]) (M:=M') (zL (x:=.dat (mD zA)) rfl rfl (BZ zb (MV () (by have:=m.r0;omega)))) zb;rw[this,AG,hr.1]
   calc#[_,_,_,Ex el () (),?_];rw[FU];refine Km (n:=l) (I:=λi Y M2=>(∃y6 y7,Y=[some (mD zA),some (.ref a),some (.ref b),some (.ref M0.length),some (tI sw.1),some (tI sw.2),y6,y7])/\Gr zA seen ((Av i).foldl (BD zA sw.1 sw.2) p0)/\Nl M0 M2 a b M0.length (.froT (lE level)) ((Av i).foldl (BD zA sw.1 sw.2) p0).1 ((Av i).foldl (BD zA sw.1 sw.2) p0).2) ?_ ?_ _ _ #[#[_,_,rfl],gr0,nl]
   .rintro i Y M2 hi ⟨⟨y6,y7,rfl⟩,gr,nl2⟩;refine#[_,rfl,?_];refine OkS.mono (rK m h9 () () hab rfl hb gr nl2 sS (hw sw hs) (g:=(i:Nat)) () ()) ?_;rintro o Y M3 ⟨rfl,⟨y7,rfl⟩,nl3⟩;let e:(Av (i+1)).foldl (BD zA sw.1 sw.2) p0=BD zA sw.1 sw.2 ((Av i).foldl (BD zA sw.1 sw.2) p0) (i:Nat):=by
     erw[Av];rw[List.range_succ,CD,Dr];rfl
    rw[e];exact#[#[_,_,rfl],Sj m gr sS () (),nl3]
   .rintro Y M2 ⟨⟨y6,y7,rfl⟩,gr,nl2⟩;calc#[#[_,_,_,_,rfl],done++[sw],rest,rfl,by rw[<-hd];simp,?_];rw[Dr,hp];exact nl2
 .rintro Y M' ⟨⟨y4,y5,y6,y7,rfl⟩,done,rest,er,hd,nl⟩;have:rest=[]:=by cases rest with|nil=>rfl|cons _ _=>ext er
  subst this;rw[BI]at hd;subst hd;calc#[B4,?_];rw[zS];calc zv rfl #[rfl,nl]
def Bv(h:P (.ref M.length) (M++[.lst xs])):ED P (.fl xs) M:=h
def Ci(A:Mem)(u:MO):(A++[u])[A.length]?=some u:=by simp
open Lac (dT BC zF Ad BW Bg)
theorem QY:∀ts:List (List Int),IB (ts.map tI)=some ts
 |[]=>rfl
 |t::r=>by
  rw[AU];erw[IB];rw[QY r];show(match BR (t.map D.int),some r with|some x,some xs=>some (x::xs)|_,_=>none)=_;rw[IJ]
def lvD(L:Ya):D:=.tup ((A0 L).map tI)
def shD(acc:List (List (List Int))):D:=.tup (acc.map lvD)
def iR(lv:Lvl):(lE lv).map (·.1)=(lv.map (·.1)).map tI:=by
 erw[lE,BC,wE];rw[Af,Af,Af];rfl
def iP{lv:Lvl}(h:∀p∈lv,IsS zA p.1):JO (lv.map (·.1))=true:=by
 erw[JO];rw[Am];intro t ht;let(p,hp,rfl):=AL.mp ht;have:=(h p hp).n0;cases e:p.1 with
 |nil=>rw[e]at this;ext this
 |cons x r=>rfl
def NI(hs:Y[i]?=some (some (.fn l cs)))(hf:f Y M=some (.dat a,M))(hg:g cs [a] M=some (d,M)):Ey i l g (zD (toD f) zG) Y M=some (.dat d,M):=by
 erw[Ey];rw[hs];symm;rw[AB rfl,zY hf];symm;rw[hg]
def Wh(zA:Ya)(R:Ye)(lL:Lm)(cs:List D)(s h:Nat)(r:Option (List Int)×List (List (List Int)))(o:Out)(Y:Sd)(M':Mem):Prop:=match r.1 with
 |some w=>o=.ret (.tup [.str "word",tI w,shD r.2])
 |none=>o=.nx/\(∃v y6 y7,Y=[some (mD zA),some (tI R),some (.fn lL cs),some (.ref s),some (.ref v),some (.ref h),y6,y7])/\M'[h]?=some (.lst (r.2.map lvD))
abbrev srC:FT:=Ik (zC 4)
section
variable{zA:Ya}{l:Nat}{R:Ye}{gL:List D->FF}{lL:Lm}{cs:List D}{due:List Int->Bool}
def C7(r:Option (List Int)×List (List (List Int))):D:=match r.1 with
 |some w=> .tup [.str "word",tI w,shD r.2]
 |none=> .tup [.str "none",shD r.2]
def R3(hf:f Y (M++[.dicT []])=some (.dat (tI S),M++[.dicT []]))(hg:g Y (M++[.dicT []])=some (.dat v,M++[.dicT []])):HI f g Y M=some (.dat (.ref M.length),M++[dT [(S,v)]]):=by
 let t1:toD f Y (M++[.dicT []])=some (tI S,M++[.dicT []]):=by erw[toD];rw[hf]
 let t2:toD g Y (M++[.dicT []])=some (v,M++[.dicT []]):=by erw[toD];rw[hg]
 erw[HI];rw[t1];symm;rw[t2];symm;let e:(M++[MO.dicT []])[M.length]?=some (dT []):=by simp
 rw[Bg e (by simp)];refine Ba (λz=>some (EV.dat (D.ref M.length),z)) ?_;show(M++[MO.dicT []]).set M.length (dT [(S,v)])=M++[dT [(S,v)]];rw[List.set_append_right _ _ (AF _)];simp
def Kz(xs:Ye):D.und n (tI xs)=true:=Ct xs
def Ql(acc:List (List (List Int))):D.und n (shD acc)=true:=by
 erw[shD,D.und];refine Gu λx hx=>?_;let(L,_,rfl):=AL.mp hx;erw[lvD,D.und];refine Gu λx hx=>?_;let(t,_,rfl):=AL.mp hx;calc Kz t
def TH(r:Option (List Int)×List (List (List Int))):D.und n (C7 r)=true:=by
 erw[C7];split
 .unfold D.und D.unds D.unds D.unds D.unds;rw[Kz,Ql];rfl
 .unfold D.und D.unds D.unds D.unds;rw[Ql];rfl
def TY{idx:Yj}{mm:Lm->FF}{g1 g2:FA}{Y:Sd}{M M1 M2:Mem}{ds1 ds2:List D}{d:D}(h1:g1 Y M=some (ds1,M1))(h2:g2 Y M1=some (ds2,M2))(hc:JC Y idx=some cs)(h:∀l,mm l (ds1 ++ .fn l cs::ds2) M2=some (d,M2)):IA idx mm g1 g2 Y M=some (.dat d,M2):=by
 let hx:∃r:D×Mem,∀l,mm l (ds1 ++ .fn l cs::ds2) M2=some r:=#[(d,M2),h];let hs:=hx.choose_spec #[0,.none,[]];rw[h]at hs;erw[IA];rw[h1];symm;rw[h2];symm;rw[hc];symm;rw[dif_pos hx];rw[<-Be hs]
end
end Lae
namespace Lap
open L2 L3 ST Law
open Lae
open Lac (dT BC zF Ad BW Bg)
def Jl(gL:List D->FF)(lL:Lm):FS:=(zW (zw 3 (HI (zC 1) (fC (.bl true))))
  (zW (zw 4 (HI (zC 1) (A1 zG)))
  (zW (zw 5 (Ar zG))
  (zW (Bs (Ik (zC 4)) (zW (BO (E2 (zC 4)) (C0 6 7) (sIf (tst (Ey 2 lL gL (zD (toD (zC 6)) zG))) (zq (A1 (zD (toD (fC (.str "word"))) (zD (toD (zC 7)) (zD (toD (fB BP (zQ (zC 5) ze))) zG))))) Ao))
  (zW (Bz (fM CL (zC 5) (zD (toD (fB BP (zQ (fB E5 (zQ (zC 4) ze)) ze))) zG)))
  (zw 4 (zP Gy (zD (toD (zC 0)) (zD (toD (zC 4)) (zD (toD (zC 3)) zG))))))) 1000)
  (zq (A1 (zD (toD (fC (.str "none"))) (zD (toD (fB BP (zQ (zC 5) ze))) zG))))))))
def Ih(gL:List D->FF)(lL:Lm):FF:=DY (AV 8 (Jl gL lL))
structure Tw(level:Lvl):Prop where
 nd:(level.map (·.1)).Nodup
 two:∀p∈level,p.1.length<=2
def sm9:List (List Int):=((List.range 9).map λ(a:Nat)=>[(a:Int)])++(List.range 9).flatMap λ(a:Nat)=>((List.range 9).filter λb=>decide (a<b)).map λ(b:Nat)=>[(a:Int),(b:Int)]
def aJ:sm9.length=45:=()
def WA(h9:zA.length<=9)(s:IsS zA S)(h2:S.length<=2):S∈sm9:=by
 erw[sm9];let hm:=s.mem;match S,s.n0,s.pw,h2 with
 |[a],_,_,_=>
  have:=hm a (by simp);calc CI _ (AL.mpr #[a.toNat,A9.mpr (),by rw[show((a.toNat:Nat):Int)=a by omega]])
 |[a,b],_,hp,_=>
  let h1:=hm a (by simp);let h2:=hm b (by simp);let h3:a<b:=(Dd.mp hp).1 b (by simp);calc Ak _ (List.mem_flatMap.mpr #[a.toNat,A9.mpr (),AL.mpr #[b.toNat,C3.mpr #[A9.mpr (),Az ()],?_]]);rw[show((a.toNat:Nat):Int)=a by omega,show((b.toNat:Nat):Int)=b by omega]
 |_::_::_::_,_,_,h=>calc absurd h (by simp)
def Tw.len(t:Tw level)(h9:zA.length<=9)(h:∀p∈level,IsS zA p.1):level.length<64:=by
 have:=N6 t.nd λS hS=>by
  let(p,hp,rfl):=AL.mp hS;exact WA h9 (h p hp) (t.two p hp)
 rw[AG,aJ]at this;omega
def Xl{zA:Ya}{l:Nat}{seen:Ya}{level:Lvl}(h:∀p∈level,p.1.length<=2):∀q∈(B8 zA l seen level).2,q.1.length<=2:=by
 let k1:∀(S w:Ye),S.length<=2->∀(gs:Ye)(p:List (List Int)×Lvl),(∀q∈p.2,q.1.length<=2)->∀q∈(gs.foldl (BD zA S w) p).2,q.1.length<=2:=by
  intro S w hS gs;induction gs with
  |nil=>intro p hp;calc hp
  |cons g gs ih=>
   intro p hp;calc ih _ ?_;erw[BD];split
   .exact hp
   .intro q hq;rcases Ae.mp hq with z|z
    .exact hp q z
    .rw[Ac.mp z];have:=Li (S.map λh=>Dy zA h g);rw[AG]at this;exact Ab this hS
 let k2:∀(lv:Lvl)(p:List (List Int)×Lvl),(∀s∈lv,s.1.length<=2)->(∀q∈p.2,q.1.length<=2)->∀q∈(lv.foldl (CM zA l) p).2,q.1.length<=2:=by
  intro lv;induction lv with
  |nil=>intro p _ hp;calc hp
  |cons s lv ih=>
   intro p hs hp;exact ih _ (λx hx=>hs x (Aa _ hx)) (k1 s.1 s.2 (hs s AR) _ _ hp)
 calc k2 level _ h λ_ h=>by ext h
def bU{zA:Ya}{l:Nat}{seen:Ya}{level:Lvl}(g:Gr zA seen (B8 zA l seen level))(t:Tw level):Tw (B8 zA l seen level).2:=#[by
 have:=g.nd;rw[g.eq]at this;calc(DN.mp this).2.1,Xl t.two]
def WD(h:∀p∈lv,IsS zA p.1)(h64:lv.length<64)(hf:f Y M=some (x,M))(hx:G2 M x=some (lE lv)):fB BP (zQ (fB E5 (zQ f ze)) ze) Y M=some (.dat (lvD (lv.map (·.1))),M):=by
 refine GD (x:=.fl ((A0 (lv.map (·.1))).map λt=>D.tup (t.map D.int))) ?_ Fh;let e1:fB E5 (zQ f ze) Y M=E5 [x] M:=by erw[fB,zQ,ze];rw[hf]
 rw[e1];erw[E5];symm;rw[hx];symm;rw[iR,QY];symm;rw[AB #[iP h,by rw[AG];calc h64]]
abbrev srB(gL:List D->FF)(lL:Lm):FS:=(zW (BO (E2 (zC 4)) (C0 6 7) (sIf (tst (Ey 2 lL gL (zD (toD (zC 6)) zG))) (zq (A1 (zD (toD (fC (.str "word"))) (zD (toD (zC 7)) (zD (toD (fB BP (zQ (zC 5) ze))) zG))))) Ao))
  (zW (Bz (fM CL (zC 5) (zD (toD (fB BP (zQ (fB E5 (zQ (zC 4) ze)) ze))) zG)))
  (zw 4 (zP Gy (zD (toD (zC 0)) (zD (toD (zC 4)) (zD (toD (zC 3)) zG)))))))
section
variable{zA:Ya}{l:Nat}{R:Ye}{gL:List D->FF}{lL:Lm}{cs:List D}{due:List Int->Bool}
def VR(m:IsM zA l)(h9:zA.length<=9)(hl9:l<=1000)(hG:∀S M',IsS zA S->gL cs [tI S] M'=some (.bl (due S),M')){seen:Ya}{level:Lvl}{acc:List (List (List Int))}(mt:Met zA seen level)(h64:level.length<64)(hw:∀s∈level,s.2.length<=4000)(hacc:acc.length<=4000)
  {M:Mem} {s v h:Nat} (hsv:s≠v) (hhv:h≠v) (hsh:s≠h) (es:M[s]?=some (dT (sE seen))) (ev:M[v]?=some (.dicT (lE level))) (eh:M[h]?=some (.lst (acc.map lvD))) {y6 y7:Option D}:
  OkS (srB gL lL [some (mD zA),some (tI R),some (.fn lL cs),some (.ref s),some (.ref v),some (.ref h),y6,y7] M) λo Y M'=>match level.find? (λp=>due p.1)with
   |some p=>o=.ret (.tup [.str "word",tI p.2,shD acc])
   |none=>o=.nx/\(∃v' y6 y7,Y=[some (mD zA),some (tI R),some (.fn lL cs),some (.ref s),some (.ref v'),some (.ref h),y6,y7]/\s≠v'/\h≠v'/\M'[v']?=some (.dicT (lE (B8 zA l seen level).2)))/\M'[s]?=some (dT (sE (B8 zA l seen level).1))/\M'[h]?=some (.lst ((acc++[level.map (·.1)]).map lvD)):=by
 let hvl:v<M.length:=(AI.mp ev).1;let hhl:h<M.length:=(AI.mp eh).1;rw[zM,Cg];let ei:E2 (zC 4) [some (mD zA),some (tI R),some (.fn lL cs),some (.ref s),some (.ref v),some (.ref h),y6,y7] M=some ((lE level).map (λp=>D.tup [p.1,p.2]),none,M.set v (.froT (lE level))):=by
  erw[E2,zC];dsimp only[List.getElem?_cons_succ,List.getElem?_cons_zero];rw[ev]
 calc#[_,_,_,ei,?_];let es1:(M.set v (.froT (lE level)))[s]?=some (dT (sE seen)):=by rw[Ag (Ne.symm hsv)];exact es
 let ev1:(M.set v (.froT (lE level)))[v]?=some (.froT (lE level)):=B3 hvl;let eh1:(M.set v (.froT (lE level)))[h]?=some (.lst (acc.map lvD)):=by rw[Ag (Ne.symm hhv)];exact eh
 let ln1:(M.set v (.froT (lE level))).length=M.length:=by simp
 generalize M.set v (.froT (lE level))=M1 at es1 ev1 eh1 ln1;refine Cy (I:=λr Y M'=>M'=M1/\(∃y6 y7,Y=[some (mD zA),some (tI R),some (.fn lL cs),some (.ref s),some (.ref v),some (.ref h),y6,y7])/\∃(done rest:Lvl),r=(lE rest).map (λp=>D.tup [p.1,p.2])/\done++rest=level/\∀p∈done,due p.1=false) ?_ ?_ _ _ _ #[rfl,#[_,_,rfl],[],level,rfl,rfl,λ_ h=>by ext h]
 .rintro x r Y M' ⟨rfl,⟨y6,y7,rfl⟩,done,rest,er,hd,nd⟩;cases rest with
  |nil=>ext er
  |cons sw rest=>
   let(rfl,rfl):=CF er;let hs:sw∈level:=by rw[<-hd];simp
   calc#[B4,_,rfl,?_];rw[CH];calc zE (zr (NI rfl rfl (hG _ _ (mt.lv sw hs)))) ?_;cases hdue:due sw.1 with
   |true=>
    rw[AB rfl];let e5:fB BP (zQ (zC 5) ze) [some (mD zA),some (tI R),some (.fn lL cs),some (.ref s),some (.ref v),some (.ref h),some (tI sw.1),some (tI sw.2)] M'=some (.dat (shD acc),M'):=GD rfl (zy eh1);let e6:A1 (zD (toD (fC (.str "word"))) (zD (toD (zC 7)) (zD (toD (fB BP (zQ (zC 5) ze))) zG))) [some (mD zA),some (tI R),some (.fn lL cs),some (.ref s),some (.ref v),some (.ref h),some (tI sw.1),some (tI sw.2)] M'=some (.dat (.tup [.str "word",tI sw.2,shD acc]),M'):=by
     erw[A1];rw[zU rfl (zU rfl (zY e5))];symm;rw[AB (zi (by simp))]
    refine zv e6 ?_;show nxP _ _ (.ret _) _ _;rw[FH];let hf:level.find? (λp=>due p.1)=some sw:=by
     rw[<-hd,List.find?_append,List.find?_eq_none.mpr (λp hp=>by rw[nd p hp];simp)];simp[hdue]
    rw[hf]
   |false=>
    rw[AE Ax,Cj];refine#[rfl,#[_,_,rfl],done++[sw],rest,rfl,by rw[<-hd];simp,λp hp=>?_];rcases Ae.mp hp with z|z
    .exact nd p z
    .have:p=sw:=by simpa using z
     rw[this];exact hdue
 .rintro Y M' ⟨rfl,⟨y6,y7,rfl⟩,done,rest,er,hd,nd⟩;have:rest=[]:=by cases rest with|nil=>rfl|cons _ _=>ext er
  subst this;rw[BI]at hd;subst hd;calc#[B4,?_];let hf:done.find? (λp=>due p.1)=none:=List.find?_eq_none.mpr λp hp=>by rw[nd p hp];simp
  rw[hf,zS,zM,GF];calc F0.mpr (A8.mpr #[_,rfl,#[_,Dv eh1],?_]);calc zE (zY (WD mt.lv h64 rfl (by erw[G2];symm;rw[ev1]))) ?_;rw[JY eh1 (by rw[AG];calc Ay (m:=4001) () (zi ())),zS];let es2:(M'.set h (.lst (acc.map lvD++[lvD (done.map (·.1))])))[s]?=some (dT (sE seen)):=by rw[Ag (Ne.symm hsh)];exact es1
  let ev2:(M'.set h (.lst (acc.map lvD++[lvD (done.map (·.1))])))[v]?=some (.froT (lE done)):=by rw[Ag hhv];exact ev1
  let eh2:(M'.set h (.lst (acc.map lvD++[lvD (done.map (·.1))])))[h]?=some (.lst ((acc++[done.map (·.1)]).map lvD)):=by rw[B3 (),CD];rfl
  generalize M'.set h (.lst (acc.map lvD++[lvD (done.map (·.1))]))=M2 at es2 ev2 eh2;let hh2:h<M2.length:=(AI.mp eh2).1;let hs2:s<M2.length:=(AI.mp es2).1;rw[za];calc EW.mpr (zE (zU rfl (zU rfl (zY rfl))) ?_);refine Ok.mono (ZJ m h9 hl9 (Ne.symm hsv) mt (.inr ev2) es2 λp hp=>Ab (hw p hp) ()) ?_;rintro d M3 ⟨rfl,nl⟩;rw[zO];calc#[rfl,#[M2.length,_,_,rfl,(),(),nl.ec],nl.eb,by rw[nl.fr h hh2 hhv (Ne.symm hsh)];calc eh2]
theorem Ry(m:IsM zA l)(h9:zA.length<=9)(hl9:l<=1000)(hG:∀S M',IsS zA S->gL cs [tI S] M'=some (.bl (due S),M')):∀(n:Nat){seen:Ya}{level:Lvl}{acc:List (List (List Int))}{r:Option (List Int)×List (List (List Int))}{k:Nat},Met zA seen level->Tw level->(∀p∈level,p.2.length<=k)->acc.length<=k->k+n<=4000->run zA l due n seen level acc=some r ->
  ∀(M:Mem)(s v h:Nat)(y6 y7:Option D),s≠v->h≠v->s≠h->M[s]?=some (dT (sE seen))->M[v]?=some (.dicT (lE level))->M[h]?=some (.lst (acc.map lvD)) ->
  OkS (Bs srC (srB gL lL) n [some (mD zA),some (tI R),some (.fn lL cs),some (.ref s),some (.ref v),some (.ref h),y6,y7] M) (Wh zA R lL cs s h r)
 |0,_,_,_,_,_,_,_,_,_,_,hr=>by ext hr
 |n+1,seen,level,acc,r,k,mt,tw,hw,hacc,hk,hr=>by
  intro M s v h y6 y7 hsv hhv hsh es ev eh;let ec:srC [some (mD zA),some (tI R),some (.fn lL cs),some (.ref s),some (.ref v),some (.ref h),y6,y7] M=some (!(lE level).isEmpty,M):=by
   erw[srC,Ik,zC,G2];dsimp only[List.getElem?_cons_succ,List.getElem?_cons_zero];rw[ev]
  let hem:(lE level).isEmpty=level.isEmpty:=by cases level <;> rfl
  erw[Lae.run]at hr;erw[Bs];rw[ec,hem];cases hl:level.isEmpty with
  |true=>
   rw[hl,AB rfl]at hr;ext hr;calc#[_,_,_,rfl,rfl,#[_,_,_,rfl],eh]
  |false=>
   rw[hl,AE Ax]at hr;let(o,σ1,M1,eb,hb):=VR m h9 hl9 hG mt (tw.len h9 mt.lv) (λp hp=>Ab (hw p hp) ()) (Ab hacc ()) hsv hhv hsh es ev eh
   show OkS (match srB gL lL [some (mD zA),some (tI R),some (.fn lL cs),some (.ref s),some (.ref v),some (.ref h),y6,y7] M with
    |some (.nx,σ2,M2)=>Bs srC (srB gL lL) n σ2 M2
    |some (.cnt,σ2,M2)=>Bs srC (srB gL lL) n σ2 M2
    |some (.brk,σ2,M2)=>some (.nx,σ2,M2)
    |some (.ret d,σ2,M2)=>some (.ret d,σ2,M2)
    |none=>none) _
   rw[eb];cases hf:level.find? (λp=>due p.1)with
   |some p=>
    rw[hf]at hr hb;ext hr;let hb':o=.ret (.tup [.str "word",tI p.2,shD acc]):=hb;subst hb';calc#[_,_,_,rfl,rfl]
   |none=>
    rw[hf]at hr hb;let(rfl,(v',y6',y7',rfl,n1,n2,ev'),es',eh'):=hb;let g:=mt.next m;calc Ry m h9 hl9 hG n g.met (bU g tw) (RT (λp hp=>Nat.succ_le_succ (hw p hp)) λ_ h=>by ext h) (by rw[AW,G9];omega) () hr _ _ _ _ _ _ n1 n2 hsh es' ev' eh'
def sJ(m:IsM zA l)(h9:zA.length<=9)(hl9:l<=1000)(hG:∀S M',IsS zA S->gL cs [tI S] M'=some (.bl (due S),M'))(sR:IsS zA R)(h2:R.length<=2)(hr:run zA l due 1000 [R] [(R,[])] []=some r)(M:Mem):
  Ok (AV 8 (Jl gL lL) [mD zA,tI R,.fn lL cs] M) λd _=>d=C7 r:=by
 rw[zn];erw[Jl];rw[zM,za];calc zE (R3 rfl rfl) ?_;rw[zO,zS];let e1:(M++[dT [(R,.bl true)]])[M.length]?=some (dT (sE [R])):=by simp;rfl
 let l1:(M++[dT [(R,.bl true)]]).length=M.length+1:=by simp
 generalize M++[dT [(R,.bl true)]]=M1 at e1 l1;let et:∀(Y:Sd)(M:Mem),A1 zG Y M=some (.dat (tI []),M):=λY M=>by erw[A1,zG];symm;rw[AB (zi (by simp))];rfl
 rw[zM,za];calc zE (R3 rfl (et _ _)) ?_;rw[zO,zS];let e2:(M1++[dT [(R,tI [])]])[M1.length]?=some (.dicT (lE [(R,[])])):=by simp;rfl
 let e1':(M1++[dT [(R,tI [])]])[M.length]?=some (dT (sE [R])):=by rw[AM ()];exact e1
 let l2:(M1++[dT [(R,tI [])]]).length=M.length+2:=by simp[l1]
 rw[l1]at e2;rw[l1];generalize M1++[dT [(R,tI [])]]=M2 at e2 e1' l2;rw[zM,za];calc JK.mpr (EC.mpr #[zi (by simp),Bv ?_]);rw[zS,l2];let e3:(M2++[MO.lst ([]:List D)])[M.length+2]?=some (.lst (([]:List (List (List Int))).map lvD)):=by rw[<-l2];simp
 let e2':(M2++[MO.lst ([]:List D)])[M.length+1]?=some (.dicT (lE [(R,[])])):=by rw[AM ()];exact e2
 let e1'':(M2++[MO.lst ([]:List D)])[M.length]?=some (dT (sE [R])):=by rw[AM ()];exact e1'
 generalize M2++[MO.lst ([]:List D)]=M3 at e3 e2' e1'';rw[zM];let mt:Met zA [R] [(R,[])]:=#[by simp,λS hS=>by rw[Ac.mp hS];exact sR,λp hp=>by rw[Ac.mp hp];calc sR];refine OkS.mono (Ry m h9 hl9 hG 1000 mt #[by simp,λp hp=>by rw[Ac.mp hp];calc h2] (λp hp=>by rw[Ac.mp hp];calc AF 0) (AF 0) () hr _ _ _ _ _ _ () () () e1'' e2' e3) ?_;intro o Y M4 hW;erw[Wh]at hW;erw[C7];cbv at hW
 .intros w hw;subst hW;rw[FH]
 .intros hw;let(rfl,(v,y6,y7,rfl),eh):=hW;rw[zS];let e5:fB BP (zQ (zC 5) ze) [some (mD zA),some (tI R),some (.fn lL cs),some (.ref M.length),some (.ref v),some (.ref (M.length+2)),y6,y7] M4=some (.dat (shD r.2),M4):=GD rfl (zy eh);let e6:A1 (zD (toD (fC (.str "none"))) (zD (toD (fB BP (zQ (zC 5) ze))) zG)) [some (mD zA),some (tI R),some (.fn lL cs),some (.ref M.length),some (.ref v),some (.ref (M.length+2)),y6,y7] M4=some (.dat (.tup [.str "none",shD r.2]),M4):=by
   erw[A1];rw[zU rfl (zY e5)];symm;rw[AB (zi (by simp))]
  calc zv e6 rfl
def W3(m:IsM zA l)(h9:zA.length<=9)(hl9:l<=1000)(hG:∀S M',IsS zA S->gL cs [tI S] M'=some (.bl (due S),M'))(hcs:D.unds 0 cs=true)(sR:IsS zA R)(h2:R.length<=2)(hr:run zA l due 1000 [R] [(R,[])] []=some r):
  Ih gL lL [mD zA,tI R,.fn lL cs] M=some (C7 r,M):=by
 calc zR ?_;erw[Ih];refine Fp ?_ (Ok.mono (sJ m h9 hl9 hG sR h2 hr []) ?_)
 .unfold D.unds D.unds D.unds D.unds;rw[FQ,Kz];erw[D.und];rw[hcs];rfl
 .rintro d M1 rfl;calc#[TH r,rfl,rfl]
end
end Lap
namespace Lac
open L2 L3 ST Law
def LH:FS:=(zW (zw 1 IE)
  (zW (BO (AN (zP EA (zD (toD (zP EJ (zD (toD (zC 0)) zG))) zG))) (gN 2) (BO (BJ (zD (toD (fB An (zQ (fOp kIx (zC 0) (fC (.int 0))) ze))) zG)) (gN 3) (zW (zw 4 (zP Cu (zD (toD (zC 0)) (zD (toD (zC 2)) (zD (toD (zC 3)) zG)))))
  (zW (sIf (tst (fOp (As true) (zC 4) (zC 1))) (Bd (Ar zG) (zC 1) (zC 4)) Ao)
  (Bz (fM CL (fOp BE (zC 1) (zC 4)) (zD (toD (zC 2)) zG)))))))
  (zq (zC 1))))
def HZ:FF:=AV 5 LH
def DI(zA:Ya)(ps:List (List Int×Int))(g:Ye):List (List Int):=(ps.filter λq=>decide (setR zA q.1 q.2=g)).map (·.1)
def UI(zA:Ya)(ps:List (List Int×Int))(p:Ye)(x:Int)(g:Ye):DI zA (ps++[(p,x)]) g=DI zA ps g++(if setR zA p x=g then[p]else[]):=by
 erw[DI];rw[List.filter_append,CD];congr 1;by_cases h:setR zA p x=g
 .rw[AB h,List.filter_cons_of_pos (~~~h)];rfl
 .rw[AE h,List.filter_cons_of_neg (~~~h)];rfl
structure Sr(zA:Ya)(M:Mem)(jd lo:Nat)(ps:List (List Int×Int)):Prop where
 ex:∃T:List (List Int×D),M[jd]?=some (dT T)/\T.length<=ps.length/\(∀g d,zF T g=some d->∃j,d=.ref j/\lo<j/\M[j]?=some (.lst ((DI zA ps g).map tI)))/\(∀g,zF T g=none->DI zA ps g=[])/\∀g g' j,zF T g=some (.ref j)->zF T g'=some (.ref j)->g=g'
def YS{zA:Ya}{l:Nat}(m:IsM zA l)(hR:zA.length<64){M:Mem}{jd lo:Nat}{ps:List (List Int×Int)}(hps:ps.length<50000)(hlo:jd<lo)(hlo2:lo<M.length)(sr:Sr zA M jd lo ps){p:Ye}(hp:IsS zA p){x:Int}(x0:0<=x)(x1:x<l){y4:Option D}:
  OkS (zW (zw 4 (zP Cu (zD (toD (zC 0)) (zD (toD (zC 2)) (zD (toD (zC 3)) zG))))) (zW (sIf (tst (fOp (As true) (zC 4) (zC 1))) (Bd (Ar zG) (zC 1) (zC 4)) Ao) (Bz (fM CL (fOp BE (zC 1) (zC 4)) (zD (toD (zC 2)) zG)))) [some (mD zA),some (.ref jd),some (tI p),some (.int x),y4] M)
   λo Y' M'=>o=.nx/\(∃y,Y'=[some (mD zA),some (.ref jd),some (tI p),some (.int x),y])/\Sr zA M' jd lo (ps++[(p,x)])/\M.length<=M'.length/\∀j,j<=lo->j≠jd->M'[j]?=M[j]?:=by
 let(T,ed,hT,h1,h2,h3):=sr.ex;calc DK (zV (zU rfl (zU rfl (zY rfl))) (HE m hR hp x0 x1)) ?_;generalize hg:setR zA p x=goal;show OkS (zW _ _ [some (mD zA),some (.ref jd),some (tI p),some (.int x),some (tI goal)] M) _;rw[zM,CH];refine zE (zr (zL rfl rfl (BW ed))) ?_
 let last:∀(A:Mem)(T':List (List Int×D))(j:Nat),A[jd]?=some (dT T')->zF T' goal=some (.ref j)->lo<j->A[j]?=some (.lst ((DI zA ps goal).map tI))->T'.length<=ps.length+1->M.length<=A.length->(∀j,j<=lo->j≠jd->A[j]?=M[j]?) ->
   (∀g d,zF T' g=some d->∃j,d=.ref j/\lo<j/\A[j]?=some (.lst ((DI zA ps g).map tI)))->(∀g,zF T' g=none->DI zA ps g=[])->(∀g g' j,zF T' g=some (.ref j)->zF T' g'=some (.ref j)->g=g') ->
   OkS (Bz (fM CL (fOp BE (zC 1) (zC 4)) (zD (toD (zC 2)) zG)) [some (mD zA),some (.ref jd),some (tI p),some (.int x),some (tI goal)] A)
    λo Y' M'=>o=.nx/\(∃y,Y'=[some (mD zA),some (.ref jd),some (tI p),some (.int x),y])/\Sr zA M' jd lo (ps++[(p,x)])/\M.length<=M'.length/\∀j,j<=lo->j≠jd->M'[j]?=M[j]?:=by
  intro A T' j ea el hj ej hz hle hfr k1 k2 k3;rw[GF];let hfl:(DI zA ps goal).length<=ps.length:=by erw[DI];rw[AG];exact Gx _ _
  let jl:j<A.length:=(AI.mp ej).1;calc F0.mpr (zE (zL rfl rfl (C6 ea el)) #[#[_,Dv ej],zE (zY rfl) ?_]);rw[JY ej (by rw[AG];calc Ay (m:=95000) () (zi ()))];refine#[rfl,#[_,rfl],#[T',by rw[Ag ()];exact ea,by simpa using hz,λg d hd=>?_,λg hd=>?_,k3],by simpa using hle,λi hi hn=>by rw[Ag ()];calc hfr i hi hn]
  .obtain⟨j',rfl,hj',ej'⟩:=k1 g d hd;refine#[j',rfl,hj',?_];rw[UI,hg];by_cases hgg:goal=g
   .subst hgg;rw[el]at hd;ext hd;rw[B3 jl,AB rfl,CD];rfl
   .rw[AE hgg,BI];have:j≠j':=λz=>hgg (k3 goal g j el (by rw[z];calc hd));rw[Ag this];exact ej'
  .rw[UI,hg,AE (λz=>by rw[<-z,el]at hd;ext hd),BI];exact k2 g hd
 cases hl:zF T goal with
 |some d=>
  let(j,rfl,hj,ej):=h1 goal d hl;rw[AE (by simp),Cj,zS];exact last M T j ed hl hj ej () (AF _) (λ_ _ _=>rfl) h1 h2 h3
 |none=>
  rw[AB (by simp)];let e0:=h2 goal hl;let jdl:jd<M.length:=(AI.mp ed).1;let ed':(M++[MO.lst ([]:List D)])[jd]?=some (dT T):=by rw[AM jdl];exact ed
  refine#[.nx,[some (mD zA),some (.ref jd),some (tI p),some (.int x),some (tI goal)],(M++[MO.lst ([]:List D)]).set jd (dT (Ad T goal (.ref M.length))),?_,?_]
  .unfold Bd;rw[show toD (Ar zG) [some (mD zA),some (.ref jd),some (tI p),some (.int x),some (tI goal)] M=some (.ref M.length,M++[.lst []])by
    erw[toD,Ar,zG];symm;rw[AB (zi (by simp))]]
   symm;rw[show toD (zC 1) [some (mD zA),some (.ref jd),some (tI p),some (.int x),some (tI goal)] (M++[.lst []])=some (.ref jd,M++[.lst []])from rfl];symm;rw[show toD (zC 4) [some (mD zA),some (.ref jd),some (tI p),some (.int x),some (tI goal)] (M++[.lst []])=some (tI goal,M++[.lst []])from rfl];symm;rw[Bg ed' ()]
  rw[zS];let hput:=λg=>GW T goal g (.ref M.length);refine last _ (Ad T goal (.ref M.length)) M.length (B3 (by simp;omega)) (by rw[hput,AB rfl]) hlo2 ?_ (by have:=QX T goal (.ref M.length);omega) (by simp) (λi hi hn=>?_) (λg d hd=>?_) (λg hd=>?_) (λg g' j hd hd'=>?_)
  .rw[Ag (),e0];simp
  .rw[Ag (Ne.symm hn),AM ()]
  .rw[hput]at hd;by_cases hgg:goal=g
   .subst hgg;rw[AB rfl]at hd;ext hd;exact#[M.length,rfl,hlo2,by rw[Ag (),e0];simp]
   .rw[AE hgg]at hd;let(j,rfl,hj,ej):=h1 g d hd;exact#[j,rfl,hj,by rw[Ag (),AM (AI.mp ej).1];calc ej]
  .rw[hput]at hd;by_cases hgg:goal=g
   .rw[AB hgg]at hd;ext hd
   .rw[AE hgg]at hd;exact h2 g hd
  .rw[hput]at hd hd';by_cases a:goal=g
   .by_cases b:goal=g'
    .rw[<-a,<-b]
    .rw[AB a]at hd;rw[AE b]at hd';ext hd;let(j,e,_,ej):=h1 g' _ hd';ext e;exact absurd (AI.mp ej).1 (BS _)
   .rw[AE a]at hd;by_cases b:goal=g'
    .rw[AB b]at hd';ext hd';let(j,e,_,ej):=h1 g _ hd;ext e;exact absurd (AI.mp ej).1 (BS _)
    .rw[AE b]at hd';calc h3 g g' j hd hd'
def zJ(zA:Ya):List Int:=(List.range zA.length).map λ(k:Nat)=>(k:Int)
def D1(l:Nat)(ps:Ya):List (List Int×Int):=ps.flatMap λp=>(List.range l).map λ(x:Nat)=>(p,(x:Int))
def PK(l:Nat)(ps:Ya):(D1 l ps).length=ps.length*l:=by
 erw[D1];induction ps with
 |nil=>simp
 |cons p r ih=>rw[Eb,AW,ih,AG,Et,Bw,Nat.add_mul];omega
def Ip(xs:Ye):(zZ xs).length<=xs.length*xs.length:=by
 erw[zZ];have:∀(r:Ye),(r.flatMap λa=>(xs.filter λb=>decide (a<b)).map λb=>[a,b]).length<=r.length*xs.length:=by
  intro r;induction r with
  |nil=>simp
  |cons a r ih=>
   rw[Eb,AW,AG,Bw,Nat.add_mul];have:=Gx (λb=>decide (a<b)) xs;omega
 calc this xs
def SQ(h:p∈zZ (zJ zA)):IsS zA p:=by
 let(a,b,rfl,ha,hb,hlt):=Es.mp h;let(i,hi,rfl):=AL.mp ha;let(j,hj,rfl):=AL.mp hb;have:=A9.mp hi;have:=A9.mp hj;refine#[by simp;omega,by simp,λx hx=>?_];simp only[AK,Bq,Br]at hx;omega
def LR{M M1:Mem}(ha:a Y M=some (ds,M))(hg:g ds M=some (.ref j,M1))(hj:M1[j]?=some (.lst xs)):AN (zP g a) Y M=some (xs,CQ (.dat (.ref j)) xs,M1):=by
 have:zP g a Y M=some (.dat (.ref j),M1):=by erw[zP];rw[ha];symm;rw[hg]
 erw[AN];rw[this];symm;rw[zy hj]
def ZN{zA:Ya}{l:Nat}(m:IsM zA l)(hR:zA.length<64)(hl:l<=12){M:Mem}:Ok (HZ [mD zA] M) λd M'=>d=.ref M.length/\Sr zA M' M.length (M.length+1) (D1 l (zZ (zJ zA)))/\M.length+1<M'.length/\∀j,j<M.length->M'[j]?=M[j]?:=by
 erw[HZ];rw[zn];erw[LH];rw[zM,za];calc zE rfl ?_;rw[zO,zS,zM,Cg];let hrl:(zJ zA).length=zA.length:=by erw[zJ];simp
 let epr:=ON (xs:=zJ zA) () (M:=M++[.dicT []]);refine#[_,_,_,LR (zY (zV (zY rfl) (Nt ()))) epr (Ci _ _),?_];rw[show(M++[MO.dicT []]).length=M.length+1 by simp];generalize hP:zZ (zJ zA)=P;let hPl:P.length<=3969:=by
  rw[<-hP];let h1:=Ip (zJ zA);rw[hrl]at h1;exact Ab h1 (FN (show zA.length<=63 by omega) (show zA.length<=63 by omega))
 let e1:(M++[MO.dicT []]++[MO.lst (P.map tI)])[M.length+1]?=some (.lst (P.map tI)):=by
  rw[Bx,CV ()];simp
 let e0:(M++[MO.dicT []]++[MO.lst (P.map tI)])[M.length]?=some (dT []):=by
  rw[Bx,CV ()];simp
 let ef:∀j,j<M.length->(M++[MO.dicT []]++[MO.lst (P.map tI)])[j]?=M[j]?:=λj hj=>by rw[Bx,AM hj]
 let el:(M++[MO.dicT []]++[MO.lst (P.map tI)]).length=M.length+2:=by simp
 generalize M++[MO.dicT []]++[MO.lst (P.map tI)]=M1 at e1 e0 ef el;refine Cy (I:=λr Y M'=>(∃y2 y3 y4,Y=[some (mD zA),some (.ref M.length),y2,y3,y4])/\∃us vs:List (List Int),P=us++vs/\r=vs.map tI/\Sr zA M' M.length (M.length+1) (D1 l us)/\M'[M.length+1]?=some (.lst (P.map tI))/\M.length+1<M'.length/\∀j,j<M.length->M'[j]?=M[j]?) ?_ ?_ _ _ _ #[#[_,_,_,rfl],[],P,rfl,rfl,#[[],e0,by simp,(λg d h=>by ext h),(λ_ _=>rfl),(λg g' j h=>by ext h)],e1,(),ef]
 .rintro x r Y M' ⟨⟨y2,y3,y4,rfl⟩,us,vs,hab,hr,sr,ep,hlen,hfr⟩;cases vs with
  |nil=>ext hr
  |cons p vs=>
   rw[AU]at hr;let(rfl,rfl):=CF hr;let hpm:p∈zZ (zJ zA):=by rw[hP,hab];simp
   let hul:us.length<3969:=by have:=Ba List.length hab;simp at this;omega
   calc#[.inl ep,_,rfl,?_];rw[Cg];calc#[_,_,_,Ex (Jj m rfl) () (),?_];rw[show(l:Int).toNat=l by omega];refine Km (n:=l) (I:=λi Y M''=>(∃y3 y4,Y=[some (mD zA),some (.ref M.length),some (tI p),y3,y4])/\Sr zA M'' M.length (M.length+1) (D1 l us++(List.range i).map λ(x:Nat)=>(p,(x:Int)))/\M''[M.length+1]?=some (.lst (P.map tI))/\M.length+1<M''.length/\∀j,j<M.length->M''[j]?=M[j]?) ?_ ?_ _ _ #[#[_,_,rfl],by simpa using sr,ep,hlen,hfr]
   .rintro i Y M2 hi ⟨⟨y3,y4,rfl⟩,sr2,ep2,hlen2,hfr2⟩;refine#[_,rfl,?_];let hcount:(D1 l us++(List.range i).map λ(x:Nat)=>(p,(x:Int))).length<50000:=by
     rw[AW,PK,AG,Et];have:=FN (show us.length<=3968 by omega) hl;omega
    calc OkS.mono (YS m hR hcount (D3 _) hlen2 sr2 (SQ hpm) (x:=(i:Int)) () ()) ?_;rintro o Y' M3 ⟨rfl,⟨y,rfl⟩,sr3,hl3,hf3⟩;refine#[#[_,_,rfl],?_,by rw[hf3 _ (AF _) ()];exact ep2,(),λj hj=>by rw[hf3 j () ()];calc hfr2 j hj];rw[List.range_succ,CD,<-Bx];exact sr3
   .rintro Y M2 ⟨⟨y3,y4,rfl⟩,sr2,ep2,hlen2,hfr2⟩;refine#[#[_,_,_,rfl],us++[p],vs,by rw[hab];simp,rfl,?_,ep2,hlen2,hfr2];have:D1 l (us++[p])=D1 l us++(List.range l).map λ(x:Nat)=>(p,(x:Int)):=by
     erw[D1];rw[List.flatMap_append];simp
    rw[this];exact sr2
 .rintro Y M' ⟨⟨y2,y3,y4,rfl⟩,us,vs,hab,hr,sr,ep,hlen,hfr⟩;have:vs=[]:=by cases vs with|nil=>rfl|cons _ _=>ext hr
  subst this;rw[BI]at hab;subst hab;calc#[.inl ep,?_];rw[zS];calc zv rfl #[rfl,sr,hlen,hfr]
def KH:FS:=(zW (zw 2 (zP HZ (zD (toD (zC 0)) zG)))
  (zW (zw 3 (zC 1))
  (zW (zw 4 (EG true [5] (AN (zC 1)) (gN 5) zc (zC 5) (fC (.int 0))))
  (zW (Bs (Hr (zC 3)) (zW (zw 6 (Ar zG))
  (zW (BO (AN (zC 3)) (gN 5) (BO (AN (DF (zC 2) (zC 5) (Ar zG))) (gN 7) (sIf (tst (fOp (As true) (zC 7) (zC 4))) (zW (Bd (fOp BA (fOp BE (zC 4) (zC 5)) (fC (.int 1))) (zC 4) (zC 7))
  (Bz (fM CL (zC 6) (zD (toD (zC 7)) zG)))) Ao)))
  (zw 3 (zC 6)))) 1000)
  (zq (zC 4))))))
def He:FF:=AV 8 KH
abbrev Fd:=List (List Int×D)×List (List Int)
def Ap(k:Int)(st:Fd)(p:Ye):Fd:=if(zF st.1 p).isSome then st else(Ad st.1 p (.int k),st.2++[p])
structure Lv(M0 M:Mem)(jf jb:Nat)(st:Fd):Prop where
 f:M[jf]?=some (dT st.1)
 b:M[jb]?=some (.lst (st.2.map tI))
 len:M0.length<=M.length
 fr:∀j,j<M0.length->j≠jf->j≠jb->M[j]?=M0[j]?
def nF(k:Int)(st:Fd)(p:Ye):(Ap k st p).1.length<=st.1.length+1/\(Ap k st p).2.length<=st.2.length+1:=by
 erw[Ap];split
 .exact#[(),()]
 .exact#[QX _ _ _,by simp]
def sG{M0:Mem}{jf jb js jd jl:Nat}{zA:Ya}{x1 x3 y7:Option D}{goal:Ye}{k:Int}{ps:Ya}(hne:jf≠jb)(h1:jf<M0.length)(h2:jb<M0.length):
  ∀(M:Mem)(st:Fd),Lv M0 M jf jb st->M[js]?=some (.lst (ps.map tI))->js≠jf->js≠jb->zF st.1 goal=some (.int k)->st.1.length+ps.length<=80000->st.2.length+ps.length<=80000 ->
  OkS (DC (gN 7) (sIf (tst (fOp (As true) (zC 7) (zC 4))) (zW (Bd (fOp BA (fOp BE (zC 4) (zC 5)) (fC (.int 1))) (zC 4) (zC 7)) (Bz (fM CL (zC 6) (zD (toD (zC 7)) zG)))) Ao) (ps.map tI) (CQ (.dat (.ref js)) (ps.map tI)) (ps.map tI) [some (mD zA),x1,some (.ref jd),x3,some (.ref jf),some (tI goal),some (.ref jb),y7] M)
   λo Y' M'=>o=.nx/\(∃y,Y'=[some (mD zA),x1,some (.ref jd),x3,some (.ref jf),some (tI goal),some (.ref jb),y])/\Lv M0 M' jf jb (ps.foldl (Ap (k+1)) st)/\M'.length=M.length/\∀j,j≠jf->j≠jb->M'[j]?=M[j]?:=by
 intro M st lv ejs n1 n2 hgl z1 z2;refine Cy (I:=λr Y M'=>(∃y,Y=[some (mD zA),x1,some (.ref jd),x3,some (.ref jf),some (tI goal),some (.ref jb),y])/\∃us vs:List (List Int),ps=us++vs/\r=vs.map tI/\Lv M0 M' jf jb (us.foldl (Ap (k+1)) st)/\zF (us.foldl (Ap (k+1)) st).1 goal=some (.int k)/\(us.foldl (Ap (k+1)) st).1.length<=st.1.length+us.length/\(us.foldl (Ap (k+1)) st).2.length<=st.2.length+us.length/\M'.length=M.length/\∀j,j≠jf->j≠jb->M'[j]?=M[j]?) ?_ ?_ _ _ _ #[#[_,rfl],[],ps,rfl,rfl,lv,hgl,by simp,by simp,rfl,λ_ _ _=>rfl]
 .rintro x r Y M' ⟨⟨y,rfl⟩,us,vs,hab,hr,lv',hg',l1,l2,hl,hfr⟩;cases vs with
  |nil=>ext hr
  |cons p vs=>
   rw[AU]at hr;let(rfl,rfl):=CF hr;let hul:us.length<ps.length:=by rw[hab];simp
   calc#[.inl (by rw[hfr js n1 n2];calc ejs),_,rfl,?_];let hfold:(us++[p]).foldl (Ap (k+1)) st=Ap (k+1) (us.foldl (Ap (k+1)) st) p:=by rw[Dr];rfl
   generalize us.foldl (Ap (k+1)) st=st' at lv' hg' l1 l2 hfold;let al:=nF (k+1) st' p;rw[CH];calc zE (zr (zL rfl rfl (BW lv'.f))) ?_;cases hlk:zF st'.1 p with
   |some d=>
    let ea:Ap (k+1) st' p=st':=by erw[Ap];rw[hlk];rfl
    rw[AE (by simp),Cj];calc#[#[_,rfl],us++[p],vs,by rw[hab];simp,rfl,?_];rw[hfold,ea];calc#[lv',hg',by simp;omega,by simp;omega,hl,hfr]
   |none=>
    let ea:Ap (k+1) st' p=(Ad st'.1 p (.int (k+1)),st'.2++[p]):=by erw[Ap];rw[hlk];rfl
    let hgp:p≠goal:=λz=>by rw[z,hg']at hlk;ext hlk
    rw[AB (by simp),zM];let ev:fOp BA (fOp BE (zC 4) (zC 5)) (fC (.int 1)) [some (mD zA),x1,some (.ref jd),x3,some (.ref jf),some (tI goal),some (.ref jb),some (tI p)] M'=some (.dat (.int (k+1)),M'):=zL (zL rfl rfl (C6 lv'.f hg')) rfl rfl;let hd:OkS (Bd (fOp BA (fOp BE (zC 4) (zC 5)) (fC (.int 1))) (zC 4) (zC 7) [some (mD zA),x1,some (.ref jd),x3,some (.ref jf),some (tI goal),some (.ref jb),some (tI p)] M') λo Y' M2=>o=.nx/\Y'=[some (mD zA),x1,some (.ref jd),x3,some (.ref jf),some (tI goal),some (.ref jb),some (tI p)]/\M2=M'.set jf (dT (Ad st'.1 p (.int (k+1)))):=by
     calc#[.nx,_,_,?_,rfl,rfl,rfl];erw[Bd];rw[show toD (fOp BA (fOp BE (zC 4) (zC 5)) (fC (.int 1))) [some (mD zA),x1,some (.ref jd),x3,some (.ref jf),some (tI goal),some (.ref jb),some (tI p)] M'=some (.int (k+1),M')by erw[toD];rw[ev]];symm;rw[show toD (zC 4) [some (mD zA),x1,some (.ref jd),x3,some (.ref jf),some (tI goal),some (.ref jb),some (tI p)] M'=some (.ref jf,M')from rfl];symm;rw[show toD (zC 7) [some (mD zA),x1,some (.ref jd),x3,some (.ref jf),some (tI goal),some (.ref jb),some (tI p)] M'=some (tI p,M')from rfl];symm;rw[Bg lv'.f ()]
    calc OkS.mono hd ?_;rintro o Y' M2 ⟨rfl,rfl,rfl⟩;rw[zS,GF];let eb:(M'.set jf (dT (Ad st'.1 p (.int (k+1)))))[jb]?=some (.lst (st'.2.map tI)):=by rw[Ag hne];exact lv'.b
    calc F0.mpr (A8.mpr #[_,rfl,#[_,Dv eb],zE (zY rfl) ?_]);rw[JY eb (by rw[AG];calc Ay (m:=95000) () (zi ()))];let jfl:jf<M'.length:=Ay h1 lv'.len;let jbl:jb<M'.length:=Ay h2 lv'.len;calc#[#[_,rfl],us++[p],vs,by rw[hab];simp,rfl,?_];rw[hfold];refine#[?_,?_,by simp;omega,by simp;omega,by simp[hl],λj q1 q2=>by rw[Ag (Ne.symm q2),Ag (Ne.symm q1)];calc hfr j q1 q2]
    .rw[ea];refine#[by rw[Ag (Ne.symm hne),B3 jfl],by rw[B3 (~~~jbl),CD];rfl,by simpa using lv'.len,λj q0 q1 q2=>by rw[Ag (Ne.symm q2),Ag (Ne.symm q1)];calc lv'.fr j q0 q1 q2]
    .rw[ea];rw[GW,AE hgp];exact hg'
 .rintro Y M' ⟨⟨y,rfl⟩,us,vs,hab,hr,lv',hg',l1,l2,hl,hfr⟩;have:vs=[]:=by cases vs with|nil=>rfl|cons _ _=>ext hr
  subst this;rw[BI]at hab;subst hab;calc#[.inl (by rw[hfr js n1 n2];calc ejs),rfl,#[_,rfl],lv',hl,hfr]
def Wg{f g:FE}{Y:Sd}{M:Mem}{n:Nat}{T:List (List Int×D)}{k:Ye}(hf:f Y M=some (.dat (.ref n),M))(hn:M[n]?=some (dT T))(hg:g Y M=some (.dat (tI k),M)):DF f g (Ar zG) Y M=some (.dat ((zF T k).getD (.ref M.length)),M++[.lst []]):=by
 let nl:n<M.length:=(AI.mp hn).1;erw[DF];rw[show toD f Y M=some (.ref n,M)by erw[toD];rw[hf]];symm;rw[hn];rw[show toD g Y M=some (tI k,M)by erw[toD];rw[hg]];symm;rw[show toD (Ar zG) Y M=some (.ref M.length,M++[.lst []])by
  erw[toD,Ar,zG];symm;rw[AB (zi (by simp))]]
 symm;rw[dgT (show(M++[MO.lst ([]:List D)])[n]?=some (dT T)by rw[AM nl];calc hn)]
def BF(src:Y1)(k:Int)(gs:Ya)(st:Fd):Fd:=gs.foldl (λst g=>(src g).foldl (Ap (k+1)) st) st
def VH{k:Int}{st:Fd}{p g:Ye}{d:D}(h:zF st.1 g=some d):zF (Ap k st p).1 g=some d:=by
 erw[Ap];split
 .exact h
 .intros q;rw[GW,AE (λz=>q (by rw[z,h];rfl))];calc h
theorem Pq{k:Int}{g:Ye}{d:D}:∀(ps:Ya){st:Fd},zF st.1 g=some d->zF (ps.foldl (Ap k) st).1 g=some d
 |[],_,h=>h
 |p::r,_,h=>Pq r (VH h)
def pG(M:Mem)(Ts:List (List Int×D))(jf jb:Nat)(src:Y1):Prop:=∀g,(∃j,zF Ts g=some (.ref j)/\j≠jf/\j≠jb/\M[j]?=some (.lst ((src g).map tI)))\/(zF Ts g=none/\src g=[])
def j3{M0:Mem}{jf jb jd jl:Nat}{zA:Ya}{x1 y5 y7:Option D}{k:Int}{gs:Ya}{src:Y1}{Ts:List (List Int×D)}(hne:jf≠jb)(h1:jf<M0.length)(h2:jb<M0.length)(hd:M0[jd]?=some (dT Ts))(d1:jd≠jf)(d2:jd≠jb)(hl:M0[jl]?=some (.lst (gs.map tI)))(l1:jl≠jf)(l2:jl≠jb)(hs:pG M0 Ts jf jb src)(B:Nat)(hB:∀g∈gs,(src g).length<=B)
  {st:Fd} (hg:∀g∈gs,zF st.1 g=some (.int k)) (Z:Nat) (hZB:Z+B<=80000) (hZ:∀us vs,gs=us++vs->(BF src k us st).1.length<=Z/\(BF src k us st).2.length<=Z) (lv:Lv M0 M0 jf jb st):
  OkS (DC (gN 5) (BO (AN (DF (zC 2) (zC 5) (Ar zG))) (gN 7) (sIf (tst (fOp (As true) (zC 7) (zC 4))) (zW (Bd (fOp BA (fOp BE (zC 4) (zC 5)) (fC (.int 1))) (zC 4) (zC 7)) (Bz (fM CL (zC 6) (zD (toD (zC 7)) zG)))) Ao)) (gs.map tI) (CQ (.dat (.ref jl)) (gs.map tI)) (gs.map tI) [some (mD zA),x1,some (.ref jd),some (.ref jl),some (.ref jf),y5,some (.ref jb),y7] M0)
   λo Y' M'=>o=.nx/\(∃y5 y7,Y'=[some (mD zA),x1,some (.ref jd),some (.ref jl),some (.ref jf),y5,some (.ref jb),y7])/\Lv M0 M' jf jb (BF src k gs st):=by
 refine Cy (I:=λr Y M'=>(∃y5 y7,Y=[some (mD zA),x1,some (.ref jd),some (.ref jl),some (.ref jf),y5,some (.ref jb),y7])/\∃us vs:List (List Int),gs=us++vs/\r=vs.map tI/\Lv M0 M' jf jb (BF src k us st)/\(∀g∈gs,zF (BF src k us st).1 g=some (.int k))) ?_ ?_ _ _ _ #[#[_,_,rfl],[],gs,rfl,rfl,lv,hg]
 .rintro x r Y M' ⟨⟨y5,y7,rfl⟩,us,vs,hab,hr,lv',hg'⟩;cases vs with
  |nil=>ext hr
  |cons g vs=>
   rw[AU]at hr;let(rfl,rfl):=CF hr;let hgm:g∈gs:=by rw[hab];simp
   let hsb:=hB g hgm;let(b1,b2):=hZ us (g::vs) hab;let keep:∀{j:Nat}{u:MO},M0[j]?=some u->j≠jf->j≠jb->M'[j]?=some u:=λ{j u} e q1 q2=>(lv'.fr j (AI.mp e).1 q1 q2).trans e;calc#[.inl (keep hl l1 l2),_,rfl,?_];let hfold:BF src k (us++[g]) st=(src g).foldl (Ap (k+1)) (BF src k us st):=by erw[BF];rw[Dr];rfl
   generalize BF src k us st=st' at lv' hg' b1 b2 hfold;let e2:=Wg (f:=zC 2) (g:=zC 5) (Y:=[some (mD zA),x1,some (.ref jd),some (.ref jl),some (.ref jf),some (tI g),some (.ref jb),y7]) rfl (keep hd d1 d2) rfl;let lvA:Lv M0 (M'++[.lst []]) jf jb st':=by
    let f1:=(AI.mp lv'.f).1;let f2:=(AI.mp lv'.b).1;let f3:=lv'.len;exact#[by rw[AM f1];calc lv'.f,by rw[AM f2];calc lv'.b,by simp;omega,λj q0 q1 q2=>by rw[AM ()];calc lv'.fr j q0 q1 q2]
   obtain⟨js,ejs,n1,n2,el⟩:∃js,(zF Ts g).getD (.ref M'.length)=.ref js/\js≠jf/\js≠jb/\(M'++[MO.lst ([]:List D)])[js]?=some (.lst ((src g).map tI)):=by
    rcases hs g with⟨j,e,q1,q2,q3⟩|⟨e,q⟩
    .have:=keep q3 q1 q2;exact#[j,by rw[e];rfl,q1,q2,by rw[AM (AI.mp this).1];calc this]
    .have:=lv'.len;exact#[M'.length,by rw[e];rfl,(),(),by rw[q];simp]
   rw[ejs]at e2;rw[Cg];calc#[_,_,_,(show AN (DF (zC 2) (zC 5) (Ar zG)) [some (mD zA),x1,some (.ref jd),some (.ref jl),some (.ref jf),some (tI g),some (.ref jb),y7] M'=some ((src g).map tI,CQ (.dat (.ref js)) ((src g).map tI),M'++[.lst []])by erw[AN];rw[e2];symm;rw[zy el]),?_];calc OkS.mono (sG (jl:=jl) hne h1 h2 _ st' lvA el n1 n2 (hg' g hgm) () ()) ?_;rintro o Y' M2 ⟨rfl,⟨y,rfl⟩,lv2,_,_⟩;calc#[#[_,_,rfl],us++[g],vs,by rw[hab];simp,rfl,?_];rw[hfold];exact#[lv2,λg' hg''=>Pq _ (hg' g' hg'')]
 .rintro Y M' ⟨⟨y5,y7,rfl⟩,us,vs,hab,hr,lv',hg'⟩;have:vs=[]:=by cases vs with|nil=>rfl|cons _ _=>ext hr
  subst this;rw[BI]at hab;subst hab;let keep:∀{j:Nat}{u:MO},M0[j]?=some u->j≠jf->j≠jb->M'[j]?=some u:=λ{j u} e q1 q2=>(lv'.fr j (AI.mp e).1 q1 q2).trans e;calc#[.inl (keep hl l1 l2),rfl,#[_,_,rfl],lv']
def jY(k:Int)(st:Fd)(p t:Ye):zF (Ap k st p).1 t=(if(zF st.1 t).isSome then zF st.1 t else if t=p then some (.int k)else none)/\(t∈(Ap k st p).2↔t∈st.2\/(zF st.1 t=none/\t=p)):=by
 erw[Ap];by_cases h:(zF st.1 p).isSome=true
 .rw[AB h];constructor
  .by_cases ht:(zF st.1 t).isSome=true
   .rw[AB ht]
   .rw[AE ht,AE (λz=>ht (by rw[z];calc h))];cases e:zF st.1 t with
    |none=>rfl
    |some d=>rw[e]at ht;simp at ht
  .constructor
   .exact .inl
   .rintro(q|⟨q,rfl⟩)
    .exact q
    .rw[q]at h;ext h
 .rw[AE h];let hn:zF st.1 p=none:=by
   cases e:zF st.1 p with
   |none=>rfl
   |some d=>rw[e]at h;simp at h
  constructor
  .rw[GW];by_cases ht:p=t
   .subst ht;rw[AB rfl,AE h,AB rfl]
   .rw[AE ht];by_cases hs:(zF st.1 t).isSome=true
    .rw[AB hs]
    .rw[AE hs,AE (λz=>ht z.symm)];cases e:zF st.1 t with
     |none=>rfl
     |some d=>rw[e]at hs;simp at hs
  .rw[Ae,Ac];constructor
   .rintro(q|rfl)
    .exact .inl q
    .exact .inr #[hn,rfl]
   .rintro(q|⟨_,q⟩)
    .exact .inl q
    .exact .inr q
theorem TL(k:Int):∀(ps:Ya)(st:Fd)(t:Ye),zF (ps.foldl (Ap k) st).1 t=(if(zF st.1 t).isSome then zF st.1 t else if t∈ps then some (.int k)else none)/\(t∈(ps.foldl (Ap k) st).2↔t∈st.2\/(zF st.1 t=none/\t∈ps))
 |[],st,t=>by
  constructor
  .by_cases h:(zF st.1 t).isSome=true
   .rw[AB h];rfl
   .rw[AE h,AE (by simp)];cases e:zF st.1 t with
    |none=>calc e
    |some d=>rw[e]at h;simp at h
  .simp
 |p::r,st,t=>by
  let(a1,a2):=jY k st p t;let(b1,b2):=TL k r (Ap k st p) t;rw[List.foldl_cons,b1,b2,a2,a1];by_cases h:(zF st.1 t).isSome=true
  .rw[AB h,AB h,AB h];refine#[rfl,?_];let hn:¬ zF st.1 t=none:=λz=>by rw[z]at h;ext h
   simp[hn]
  .have hn:zF st.1 t=none:=by
    cases e:zF st.1 t with
    |none=>rfl
    |some d=>rw[e]at h;simp at h
   rw[AE h,AE h];by_cases hp:t=p
   .rw[AB hp];refine#[?_,?_]
    .rw[AB (show(some (D.int k)).isSome=true from rfl),AB (by rw[hp];calc AR)]
    .simp[hn,hp]
   .rw[AE hp];refine#[?_,?_]
    .rw[AE (by simp)];by_cases hr:t∈r
     .rw[AB hr,AB (Aa _ hr)]
     .rw[AE hr,AE (by simp[hp,hr])]
    .simp[hn,hp]
def RQ(src:Y1)(k:Int)(gs:Ya)(st:Fd)(t:Ye):zF (BF src k gs st).1 t=(if(zF st.1 t).isSome then zF st.1 t else if t∈gs.flatMap src then some (.int (k+1))else none)/\(t∈(BF src k gs st).2↔t∈st.2\/(zF st.1 t=none/\t∈gs.flatMap src)):=by
 have:∀(gs:Ya)(st:Fd),BF src k gs st=(gs.flatMap src).foldl (Ap (k+1)) st:=by
  intro gs;induction gs with
  |nil=>intro st;rfl
  |cons g r ih=>
   intro st;show BF src k r ((src g).foldl (Ap (k+1)) st)=_;rw[ih,Eb,Dr]
 rw[this gs st];calc TL (k+1) (gs.flatMap src) st t
def Rch(zA:Ya)(l:Nat)(G:Yq)(t:Ye)(n:Nat):Prop:=∃w:List Int,w.length=n/\(∀x∈w,0<=x/\x<(l:Int))/\G (broR zA t w)
def Dst(zA:Ya)(l:Nat)(G:Yq)(t:Ye)(n:Nat):Prop:=Rch zA l G t n/\∀m,m<n->¬ Rch zA l G t m
def K7:Rch zA l G t (n+1)↔∃x:Int,(0<=x/\x<(l:Int))/\Rch zA l G (setR zA t x) n:=by
 constructor
 .rintro⟨w,hw,hb,hl⟩;cases w with
  |nil=>ext hw
  |cons x w=>exact#[x,hb x AR,w,by simpa using hw,λy hy=>hb y (Aa _ hy),hl]
 .rintro⟨x,hx,w,hw,hb,hl⟩;calc#[x::w,by simp[hw],λy hy=>by rcases AK.mp hy with rfl|q;calc hx;calc hb y q,hl]
def RE:Rch zA l G t 0↔G t:=by
 constructor
 .rintro⟨w,hw,_,hl⟩;have:w=[]:=EF.mp hw;subst this;exact hl
 .intro h;calc#[[],rfl,(λ_ h=>by ext h),h]
def Dl:Dst zA l G t 0↔G t:=by
 erw[Dst];rw[RE];calc#[λh=>h.1,λh=>#[h,λm hm=>()]]
def HG:Dst zA l G t (n+1)↔(∀m,m<=n->¬ Rch zA l G t m)/\∃x:Int,(0<=x/\x<(l:Int))/\Dst zA l G (setR zA t x) n:=by
 constructor
 .rintro⟨h1,h2⟩;let(x,hx,hr):=K7.mp h1;exact#[λm hm=>h2 m (),x,hx,hr,λm hm hq=>h2 (m+1) () (K7.mpr #[x,hx,hq])]
 .rintro⟨h1,x,hx,hr,_⟩;calc#[K7.mpr #[x,hx,hr],λm hm=>h1 m ()]
def NX:∀n,Rch zA l G t n->∃m,m<=n/\Dst zA l G t m:=by
 intro n;induction n using Nat.strongRecOn with
 |ind n ih=>
  intro h;by_cases q:∃m,m<n/\Rch zA l G t m
  .obtain⟨m,hm,hr⟩:=q;let(m',h1,h2):=ih m hm hr;exact#[m',(),h2]
  .exact#[n,AF _,h,λm hm hr=>q #[m,hm,hr]]
def DD(h1:Dst zA l G t a)(h2:Dst zA l G t b):a=b:=by
 rcases Nat.lt_trichotomy a b with q|q|q
 .exact absurd h1.1 (h2.2 a q)
 .exact q
 .exact absurd h2.1 (h1.2 b q)
def Dx(zA:Ya)(l:Nat)(G:Yq)(U:Yq)(k:Nat)(fd:List (List Int×D))(lev:Ya):Prop:=(∀t d,zF fd t=some d↔U t/\∃n:Nat,n<=k/\Dst zA l G t n/\d=.int (n:Int))/\∀t,t∈lev↔U t/\Dst zA l G t k
def Mk(h:Dx zA l G U k fd lev)(u:U t):zF fd t=none↔∀m,m<=k->¬ Rch zA l G t m:=by
 constructor
 .intro e m hm hr;let(n,hn,hd):=NX m hr;rw[(h.1 t (.int (n:Int))).mpr #[u,n,(),hd,rfl]]at e;ext e
 .intro q;cases e:zF fd t with
  |none=>rfl
  |some d=>
   let(_,n,hn,hd,_):=(h.1 t d).mp e;calc absurd hd.1 (q n hn)
def iJ{zA:Ya}{l:Nat}{U P:Yq}{src:Y1}(hs:∀g t,t∈src g↔P t/\∃x:Int,(0<=x/\x<(l:Int))/\setR zA t x=g)(hP:∀t,P t->U t)(hU:∀t n,U t->¬ G t->Rch zA l G t n->P t)(hc:∀t (x:Int),U t->0<=x/\x<(l:Int)->U (setR zA t x))
  {k:Nat} {fd:List (List Int×D)} {lev:Ya} (h:Dx zA l G U k fd lev):Dx zA l G U (k+1) (BF src (k:Int) lev (fd,[])).1 (BF src (k:Int) lev (fd,[])).2:=by
 let key:∀t,(zF fd t=none/\t∈lev.flatMap src)↔U t/\Dst zA l G t (k+1):=by
  intro t;constructor
  .rintro⟨e,hm⟩;let(g,hg,ht):=List.mem_flatMap.mp hm;let(p,x,hx,hq):=(hs g t).mp ht;let u:=hP t p;calc#[u,HG.mpr #[(Mk h u).mp e,x,hx,?_]];rw[hq];exact((h.2 g).mp hg).2
  .rintro⟨u,hd⟩;let(q,x,hx,hr):=HG.mp hd;calc#[(Mk h u).mpr q,List.mem_flatMap.mpr #[setR zA t x,(h.2 _).mpr #[hc t x u hx,hr],(hs _ t).mpr #[hU t _ u ?_ hd.1,x,hx,rfl]]];intro h1;exact q 0 (BV _) (RE.mpr h1)
 constructor
 .intro t d;rw[(RQ src (k:Int) lev (fd,[]) t).1];cases e:zF fd t with
  |some d'=>
   rw[AB (show(some d').isSome=true from rfl)];let(u,n,hn,hd,rfl):=(h.1 t d').mp e;constructor
   .intro z;ext z;exact#[u,n,(),hd,rfl]
   .rintro⟨_,m,_,hm,rfl⟩;rw[DD hm hd]
  |none=>
   rw[AE (by simp)];by_cases hm:t∈lev.flatMap src
   .rw[AB hm];let(u,hd):=(key t).mp #[e,hm];constructor
    .intro z;ext z;exact#[u,k+1,AF _,hd,by simp]
    .rintro⟨_,m,_,hm',rfl⟩;rw[DD hm' hd];simp
   .rw[AE hm];constructor
    .intro z;ext z
    .rintro⟨u,m,hk,hd,rfl⟩;exfalso;by_cases hmk:m<=k
     .exact(Mk h u).mp e m hmk hd.1
     .have:m=k+1:=()
      subst this;exact hm ((key t).mpr #[u,hd]).2
 .intro t;rw[(RQ src (k:Int) lev (fd,[]) t).2];rw[key t];simp
def XA{zA:Ya}{l:Nat}{G:Yq}{U:Yq}(hc:∀t (x:Int),U t->0<=x/\x<(l:Int)->U (setR zA t x)){k:Nat}{fd:List (List Int×D)}(h:Dx zA l G U k fd [])(t:Ye)(d:D):zF fd t=some d↔U t/\∃n:Nat,Dst zA l G t n/\d=.int (n:Int):=by
 let far:∀n t,U t->¬ Dst zA l G t (k+n):=by
  intro n;induction n with
  |zero=>intro t u hd;calc absurd ((h.2 t).mpr #[u,hd]) (by simp)
  |succ n ih=>
   intro t u hd;let(_,x,hx,hr):=HG.mp (show Dst zA l G t ((k+n)+1)from hd);exact ih _ (hc t x u hx) hr
 rw[h.1 t d];constructor
 .rintro⟨u,n,_,a,b⟩;exact#[u,n,a,b]
 .rintro⟨u,n,a,b⟩;refine#[u,n,?_,a,b];by_cases q:n<=k
  .exact q
  .exfalso;let e:n=k+(n-k):=()
   rw[e]at a;calc far _ t u a
def Th(zA:Ya)(t:Ye):Prop:=IsS zA t/\t.length<=2
def CN(zA:Ya)(l:Nat)(g:Ye):List (List Int):=DI zA (D1 l (zZ (zJ zA))) g
def WN(g t:Ye):t∈CN zA l g↔t∈zZ (zJ zA)/\∃x:Int,(0<=x/\x<(l:Int))/\setR zA t x=g:=by
 erw[CN,DI,D1];simp only[AL,C3,List.mem_flatMap,A9,DM];constructor
 .rintro⟨q,⟨⟨p,hp,k,hk,rfl⟩,hq⟩,rfl⟩;exact#[hp,(k:Int),#[(),()],hq]
 .rintro⟨hp,x,⟨x0,x1⟩,hq⟩;calc#[(t,x),#[#[t,hp,x.toNat,(),?_],hq],rfl];rw[show((x.toNat:Nat):Int)=x by omega]
def GO:x∈zJ zA↔0<=x/\x<(zA.length:Int):=by
 erw[zJ];simp only[AL,A9];constructor
 .rintro⟨k,hk,rfl⟩;omega
 .rintro⟨h0,h1⟩;calc#[x.toNat,(),()]
def Hz(t:Ye)(h:t∈zZ (zJ zA)):Th zA t:=by
 calc#[SQ h,?_];let(a,b,rfl,_):=Es.mp h;calc AF _
def RJ(t:Ye)(h:Th zA t)(h1:t.length≠1):t∈zZ (zJ zA):=by
 let((pw,n0,hm),h2):=h;match t,pw,n0,hm,h1,h2 with
 |[a,b],pw,_,hm,_,_=>
  calc Es.mpr #[a,b,rfl,GO.mpr (hm a (by simp)),GO.mpr (hm b (by simp)),by simpa using pw]
 |[a],_,_,_,h1,_=>calc absurd rfl h1
 |[],_,n0,_,_,_=>ext n0
 |_::_::_::_,_,_,_,_,h2=>simp at h2
def Ep(m:IsM zA l)(t:Ye)(x:Int)(h:Th zA t)(hx:0<=x/\x<(l:Int)):Th zA (setR zA t x):=by
 calc#[m.setR h.1 hx.1 hx.2,?_];have:=Li (t.map λh=>Dy zA h x);rw[AG]at this;calc Ab this h.2
def GA(zA:Ya)(G:Yq):Prop:=(∀t,Th zA t->t.length=1->G t)\/∀t,t.length=1->¬ G t
theorem R8(m:IsM zA l):∀(w t:Ye),Th zA t->t.length=1->(∀x∈w,0<=x/\x<(l:Int))->(broR zA t w).length=1
 |[],_,_,h,_=>h
 |x::w,t,u,h,hw=>by
  let hx:=hw x AR;let u':=Ep m t x u hx;refine R8 m w (setR zA t x) u' ?_ λy hy=>hw y (Aa _ hy);let h1:=Li (t.map λh=>Dy zA h x);rw[AG,h]at h1;let h2:=u'.1.n0;let h3:(setR zA t x).length<=1:=h1;omega
def OL(m:IsM zA l)(o:GA zA G)(t:Ye)(n:Nat)(u:Th zA t)(g:¬ G t)(r:Rch zA l G t n):t∈zZ (zJ zA):=by
 refine RJ t u λh1=>?_;rcases o with o|o
 .exact g (o t u h1)
 .obtain⟨w,_,hw,hg⟩:=r;calc o _ (R8 m w t u h1 hw) hg
def UQ(m:IsM zA l)(o:GA zA G)(h:Dx zA l G (Th zA) k fd lev):Dx zA l G (Th zA) (k+1) (BF (CN zA l) (k:Int) lev (fd,[])).1 (BF (CN zA l) (k:Int) lev (fd,[])).2 :=
 iJ WN Hz (OL m o) (Ep m) h
def ZV(hts:∀t,t∈ts↔Th zA t/\G t)(h:∀t d,zF fd t=some d↔t∈ts/\d=.int 0):Dx zA l G (Th zA) 0 fd ts:=by
 let key:∀t,t∈ts↔Th zA t/\Dst zA l G t 0:=λt=>by rw[Dl,hts]
 refine#[λt d=>?_,key];rw[h t d,key t];constructor
 .rintro⟨⟨a,b⟩,rfl⟩;exact#[a,0,AF _,b,by simp]
 .rintro⟨a,n,hn,b,rfl⟩;have:n=0:=()
  subst this;calc#[#[a,b],by simp]
abbrev One(t:Ye):Prop:=t.length=1
def b9(t:Ye):t∈(zJ zA).map (λr=>[r])↔Th zA t/\One t:=by
 rw[AL];constructor
 .rintro⟨r,hr,rfl⟩;have:=GO.mp hr;refine#[#[#[by simp,by simp,λx hx=>?_],by simp],rfl];rw[Ac]at hx;subst hx;exact this
 .rintro⟨⟨s,_⟩,h1⟩;let(r,rfl):=List.length_eq_one_iff.mp h1;calc#[r,GO.mpr (s.mem r (by simp)),rfl]
def Tx:GA zA One:=.inl λ_ _ h=>h
def whole(m:IsM zA l)(h:Dx zA l G (Th zA) k fd [])(t:Ye)(d:D):zF fd t=some d↔Th zA t/\∃n:Nat,Dst zA l G t n/\d=.int (n:Int):=XA (Ep m) h t d
theorem Ld{α:Type}[DecidableEq α]:∀(xs ys:List α),xs.Nodup->(∀x∈xs,x∈ys)->xs.length<=ys.length
 |[],_,_,_=>BV _
 |x::r,ys,h,hm=>by
  let(h1,h2):=FR.mp h;let hx:x∈ys:=hm x AR;have:=Ld r (ys.erase x) h2 λy hy=>(List.mem_erase_of_ne (λz=>h1 (by rw[<-z];calc hy))).mpr (hm y (Aa _ hy));rw[List.length_erase_of_mem hx]at this;have:=List.length_pos_of_mem hx;simp only[Bw];omega
theorem Iq:∀{T:List (List Int×D)}{g:Ye},(zF T g).isSome=true↔g∈T.map (·.1)
 |[],g=>by simp[zF]
 |q::r,g=>by
  erw[zF];by_cases h:q.1=g
  .simp[h]
  .rw[AE h,Iq];simp only[AU,AK];constructor
   .exact .inr
   .rintro(z|z)
    .exact absurd z.symm h
    .exact z
structure Sz(n:Nat)(st:Fd):Prop where
 ks:(st.1.map (·.1)).Nodup
 nd:st.2.Nodup
 sub:∀t∈st.2,t∈st.1.map (·.1)
 len:st.1.length=n+st.2.length
def Vp{n:Nat}{st:Fd}(k:Int)(p:Ye)(h:Sz n st):Sz n (Ap k st p):=by
 erw[Ap];by_cases q:(zF st.1 p).isSome=true
 .rw[AB q];exact h
 .rw[AE q];let hn:zF st.1 p=none:=by
   cases e:zF st.1 p with
   |none=>rfl
   |some d=>rw[e]at q;simp at q
  let hk:p∉st.1.map (·.1):=λz=>q (Iq.mpr z);let e:Ad st.1 p (.int k)=st.1++[(p,.int k)]:=by erw[Ad];rw[hn]
  rw[e];refine#[?_,?_,?_,?_]
  .rw[CD,DN];refine#[h.ks,by simp,λa ha b hb=>?_];simp at hb;subst hb;intro z;subst z;exact hk ha
  .rw[DN];refine#[h.nd,by simp,λa ha b hb=>?_];simp at hb;subst hb;intro z;subst z;exact hk (h.sub _ ha)
  .intro t ht;rw[CD,Ae];rcases Ae.mp (show t∈st.2++[p]from ht)with z|z
   .exact .inl (h.sub t z)
   .right;simpa using z
  .rw[AW,AW,h.len];simp;omega
theorem LK(src:Y1)(k:Int):∀(gs:Ya){st:Fd},Sz n st->Sz n (BF src k gs st)
 |[],st,h=>h
 |g::r,st,h=>by
  refine LK src k r ?_;have:∀(ps:Ya){st:Fd},Sz n st->Sz n (ps.foldl (Ap (k+1)) st):=by
   intro ps;induction ps with
   |nil=>intro st h;calc h
   |cons p ps ih=>intro st h;exact ih (Vp (k+1) p h)
  calc this _ h
def d4(k:Int)(st:Fd)(p:Ye):st.1.length<=(Ap k st p).1.length:=by
 erw[Ap];split
 .exact AF _
 .unfold Ad;cases zF st.1 p <;> simp
theorem Rt(src:Y1)(k:Int):∀(gs:Ya)(st:Fd),st.1.length<=(BF src k gs st).1.length
 |[],st=>AF _
 |g::r,st=>by
  let h1:∀(ps:Ya)(st:Fd),st.1.length<=(ps.foldl (Ap (k+1)) st).1.length:=by
   intro ps;induction ps with
   |nil=>intro st;calc AF _
   |cons p ps ih=>intro st;exact Ab (d4 (k+1) st p) (ih _)
  calc Ab (h1 (src g) st) (Rt src k r _)
def OQ(h:Dx zA l G (Th zA) k fd lev)(hk:(fd.map (·.1)).Nodup):fd.length<=zA.length+zA.length*zA.length:=by
 let hr:(zJ zA).length=zA.length:=by erw[zJ];simp
 let h1:=Ld (fd.map (·.1)) ((zJ zA).map (λr=>[r])++zZ (zJ zA)) hk λt ht=>by
  let hs:=Iq.mpr ht;cases e:zF fd t with
  |none=>rw[e]at hs;ext hs
  |some d=>
   let(u,_):=(h.1 t d).mp e;rw[Ae];by_cases h1:t.length=1
   .obtain⟨r,rfl⟩:=List.length_eq_one_iff.mp h1;exact .inl (AL.mpr #[r,GO.mpr (u.1.mem r (by simp)),rfl])
   .exact .inr (RJ t u h1)
 let h2:=Ip (zJ zA);rw[AG,AW,AG,hr]at h1;rw[hr]at h2;omega
def oZ(h:f Y M=some (.dat (.ref j),M))(hj:M[j]?=some (.lst xs)):Hr f Y M=some (!xs.isEmpty,M):=by
 erw[Hr];rw[h];symm;rw[zy hj]
def gW(zA:Ya)(l:Nat)(g:Ye):(CN zA l g).length<=zA.length*zA.length*l:=by
 erw[CN,DI];rw[AG];calc Ab (Gx _ _) ?_;rw[PK];have:=Ip (zJ zA);let hr:(zJ zA).length=zA.length:=by erw[zJ];simp
 rw[hr]at this;calc Nat.mul_le_mul_right l this
def gD(m:IsM zA l)(oa:GA zA G)(hR:zA.length<=26)(hl:l<=12)(h1:jf<M0.length)(hd:M0[jd]?=some (dT Ts))(d1:jd≠jf)(hs:∀g,(∃j,zF Ts g=some (.ref j)/\j≠jf/\M0[j]?=some (.lst ((CN zA l g).map tI)))\/(zF Ts g=none/\CN zA l g=[]))(hf:M0[jf]?=some (dT fd))(hv:M0[jl]?=some (.lst (lev.map tI)))(l1:jl≠jf)(inv:Dx zA l G (Th zA) 0 fd lev)(nk:(fd.map (·.1)).Nodup)(nl:lev.length<=fd.length):
  OkS (Bs (Hr (zC 3)) (zW (zw 6 (Ar zG)) (zW (BO (AN (zC 3)) (gN 5) (BO (AN (DF (zC 2) (zC 5) (Ar zG))) (gN 7) (sIf (tst (fOp (As true) (zC 7) (zC 4))) (zW (Bd (fOp BA (fOp BE (zC 4) (zC 5)) (fC (.int 1))) (zC 4) (zC 7)) (Bz (fM CL (zC 6) (zD (toD (zC 7)) zG)))) Ao))) (zw 3 (zC 6)))) 1000 [some (mD zA),x1,some (.ref jd),some (.ref jl),some (.ref jf),y5,y6,y7] M0)
   λo Y' M'=>o=.nx/\(∃y3 y5 y6 y7,Y'=[some (mD zA),x1,some (.ref jd),y3,some (.ref jf),y5,y6,y7])/\(∃fd',M'[jf]?=some (dT fd')/\fd'.length<=702/\∀t d,zF fd' t=some d↔Th zA t/\∃n:Nat,Dst zA l G t n/\d=.int (n:Int))/\M0.length<=M'.length/\∀j,j<M0.length->j≠jf->M'[j]?=M0[j]?:=by
 let hN:zA.length+zA.length*zA.length<=702:=by
  have:=FN hR hR;omega
 let hB:zA.length*zA.length*l<=8112:=FN (FN hR hR) hl;refine JR (I:=λz Y M=>∃(jl:Nat)(y5 y6 y7:Option D)(k:Nat)(fd:List (List Int×D))(lev:Ya),Y=[some (mD zA),x1,some (.ref jd),some (.ref jl),some (.ref jf),y5,y6,y7]/\M[jf]?=some (dT fd)/\M[jl]?=some (.lst (lev.map tI))/\jl≠jf/\Dx zA l G (Th zA) k fd lev/\(fd.map (·.1)).Nodup/\lev.length<=fd.length/\M0.length<=M.length/\(∀j,j<M0.length->j≠jf->M[j]?=M0[j]?)/\z=(702-fd.length)+(if lev.isEmpty then 0 else 1)) ?_ 1000 ((702-fd.length)+(if lev.isEmpty then 0 else 1)) _ _ (by split <;> omega) #[jl,y5,y6,y7,0,fd,lev,rfl,hf,hv,l1,inv,nk,nl,AF _,λ_ _ _=>rfl,rfl];rintro z Y M ⟨jl,y5,y6,y7,k,fd,lev,rfl,hf,hv,l1,inv,nk,nl,hlen,fr,rfl⟩;let hfl:=Ab (OQ inv nk) hN;calc zE (oZ rfl hv) ?_;cases lev with
 |nil=>
  calc#[rfl,#[_,_,_,_,rfl],#[fd,hf,hfl,whole m inv],hlen,fr]
 |cons g0 lev0=>
  show OkS (zW _ _ [some (mD zA),x1,some (.ref jd),some (.ref jl),some (.ref jf),y5,y6,y7] M) _;generalize hlv:g0::lev0=lev at *;let hne0:lev.isEmpty=false:=by rw[<-hlv];rfl
  rw[zM,za];refine zE (by erw[Ar,zG];symm;rw[AB (zi (by simp))]) ?_;rw[IX,zS,zM,Cg];let fl:=(AI.mp hf).1;let vl:=(AI.mp hv).1;let up:∀{j:Nat},j<M.length->(M++[MO.lst ([]:List D)])[j]?=M[j]?:=λh=>AM h;let dl:=(AI.mp hd).1;refine#[_,_,_,(show AN (zC 3) [some (mD zA),x1,some (.ref jd),some (.ref jl),some (.ref jf),y5,some (.ref M.length),y7] (M++[.lst []])=some (lev.map tI,CQ (.dat (.ref jl)) (lev.map tI),M++[.lst []])by
   erw[AN];rw[show zC 3 [some (mD zA),x1,some (.ref jd),some (.ref jl),some (.ref jf),y5,some (.ref M.length),y7] (M++[.lst []])=some (.dat (.ref jl),M++[.lst []])from rfl];symm;rw[zy ((up vl).trans hv)]),?_]
  let sz0:Sz fd.length (fd,([]:List (List Int))):=#[nk,by simp,(λt h=>by ext h),by simp];let szw:Sz fd.length (BF (CN zA l) (k:Int) lev (fd,[])):=LK _ _ lev sz0;let hflw:=Ab (OQ (UQ m oa inv) szw.ks) hN;refine OkS.mono (j3 (k:=(k:Int)) (st:=(fd,[])) () (by simp;omega) (by simp) ((up ()).trans ((fr _ dl d1).trans hd)) d1 () ((up vl).trans hv) l1 () ?_ 8112 (λg _=>Ab (gW zA l g) hB) ?_ 702 () (λus vs e=>?_) #[(up fl).trans hf,by simp,AF _,λ_ _ _ _=>rfl]) ?_
  .intro g;rcases hs g with⟨j,e,q1,q2⟩|q
   .have jl':=(AI.mp q2).1;exact .inl #[j,e,q1,(),(up ()).trans ((fr _ jl' q1).trans q2)]
   .exact .inr q
  .intro g hg;let(u,hd'):=(inv.2 g).mp hg;exact(inv.1 g _).mpr #[u,k,AF _,hd',rfl]
  .have h3:=Rt (CN zA l) (k:Int) vs (BF (CN zA l) (k:Int) us (fd,[]));let h4:BF (CN zA l) (k:Int) vs (BF (CN zA l) (k:Int) us (fd,[]))=BF (CN zA l) (k:Int) lev (fd,[]):=by rw[e];erw[BF];rw[Dr]
   rw[h4]at h3;let h5:=(LK (CN zA l) (k:Int) us sz0).len;omega
  .rintro o Y' M' ⟨rfl,⟨y5,y7,rfl⟩,lv⟩;rw[zS,za];refine zE rfl ?_;rw[zO];let sz:Sz fd.length (BF (CN zA l) (k:Int) lev (fd,[])):=LK _ _ lev #[nk,by simp,(λt h=>by ext h),by simp];let inv':=UQ m oa inv;generalize BF (CN zA l) (k:Int) lev (fd,[])=st at lv sz inv';let hfl':=Ab (OQ inv' sz.ks) hN;let hsl:=sz.len;refine#[(702-st.1.length)+(if st.2.isEmpty then 0 else 1),?_,M.length,y5,_,y7,k+1,st.1,st.2,rfl,lv.f,lv.b,(),inv',sz.ks,(),?_,?_,rfl]
   .rw[hne0];cases e:st.2 with
    |nil=>simp;omega
    |cons a r=>rw[e]at hsl;simp at hsl ⊢;omega
   .have:=lv.len;simp at this;omega
   .intro j hj hjf;rw[lv.fr j (by simp;omega) hjf (),up ()];calc fr j hj hjf
def rW{M:Mem}{ts:Ya}(hf:f Y M=some (.dat (.ref jl),M))(hj:M[jl]?=some (.lst (ts.map tI)))(nd:ts.Nodup)(hz:ts.length<=80000)(hg:∀a,gN i a (Al own Y)=some ((Al own Y).set i (some a)))(hs:∀(a:D) M',zC i ((Al own Y).set i (some a)) M'=some (.dat a,M')):
  EG true own (AN f) (gN i) zc (zC i) (fC (.int 0)) Y M=some (.dat (.ref M.length),M++[dT (ts.map λt=>(t,.int 0))]):=by
 let hjl:=(AI.mp hj).1;erw[EG,AN];rw[hf];symm;rw[zy hj];symm;let loop:∀(r q:Ya),q++r=ts->Ck (gN i) zc (zC i) (fC (.int 0)) (Al own Y) M.length (ts.map tI) (CQ (.dat (.ref jl)) (ts.map tI)) (r.map tI) (M++[dT (q.map λt=>(t,.int 0))])=some (M++[dT (ts.map λt=>(t,.int 0))]):=by
  intro r;induction r with
  |nil=>intro q e;rw[BI]at e;subst e;calc Pm (.inl (by rw[AM hjl];calc hj))
  |cons x r ih=>
   intro q e;let hx:x∉q:=λz=>by
    rw[<-e,DN]at nd;exact nd.2.2 x z x AR rfl
   let hl:q.length<90000:=by have:=Ba List.length e;simp at this;omega
   let hk:zF (q.map λt=>(t,D.int 0)) x=none:=by
    cases e2:zF (q.map λt=>(t,D.int 0)) x with
    |none=>rfl
    |some d=>
     have:=Iq.mp (show(zF (q.map λt=>(t,D.int 0)) x).isSome=true by rw[e2];rfl);rw[Af]at this;let(y,hy,rfl):=AL.mp this;exact absurd hy hx
   let hgd:BG (CQ (.dat (.ref jl)) (ts.map tI)) (ts.map tI) (M++[dT (q.map λt=>(t,.int 0))]):=.inl (by rw[AM hjl];calc hj);rw[AU,qF hgd (hg _) (hs _ _) rfl]
   .exact ih (q++[x]) (by rw[<-e];simp)
   .rw[Bg (T:=q.map λt=>(t,.int 0)) (by simp) (by rw[AG];calc hl)];erw[Ad];rw[hk];simp
 have:=loop ts [] rfl;rw[show Jt true=dT []from rfl];rw[show(([]:List (List Int)).map λt=>(t,D.int 0))=[]from rfl]at this;rw[this]
def mH{zA:Ya}(m:IsM zA l)(oa:GA zA G)(hR:zA.length<=26)(hl:l<=12){M:Mem}{ts:Ya}(hj:M[jg]?=some (.lst (ts.map tI)))(nd:ts.Nodup)(hts:∀t,t∈ts↔Th zA t/\G t)(hz:ts.length<=80000):Ok (He [mD zA,.ref jg] M) λd M'=>∃jf,d=.ref jf/\M.length<=jf/\(∃fd,M'[jf]?=some (dT fd)/\fd.length<=702/\∀t d,zF fd t=some d↔Th zA t/\∃n:Nat,Dst zA l G t n/\d=.int (n:Int))/\M.length<=M'.length/\∀j,j<M.length->M'[j]?=M[j]?:=by
 let hjl:=(AI.mp hj).1;erw[He];rw[zn];erw[KH];rw[zM,za];calc EW.mpr (zE (zY rfl) (Ok.mono (ZN m () hl) ?_));rintro d M1 ⟨rfl,sr,h1,fr⟩;rw[zO,zS];calc DK rfl ?_;let hj1:=(fr _ hjl).trans hj;rw[zM,za];refine zE (rW rfl hj1 nd hz (λ_=>rfl) (λ_ _=>rfl)) ?_;rw[zO,zS];let(T,ed,hT,a1,a2,a3):=sr.ex;let up:∀{j:Nat}{u:MO},M1[j]?=some u->(M1++[dT (ts.map λt=>(t,D.int 0))])[j]?=some u:=λ{j u} h=>by rw[AM (AI.mp h).1];exact h
 let ed':=(AI.mp ed).1;rw[zM];refine OkS.mono (gD (fd:=ts.map λt=>(t,D.int 0)) m oa hR hl (by simp) (up ed) () ?_ (by simp) (up hj1) () (ZV hts ?_) ?_ (by simp)) ?_
 .intro g;cases e:zF T g with
  |none=>calc .inr #[rfl,a2 g e]
  |some d=>
   let(j,rfl,q1,q2):=a1 g d e;have:=(AI.mp q2).1;exact .inl #[j,rfl,(),up q2]
 .intro t d;let gen:∀(ts:Ya),zF (ts.map λt=>(t,D.int 0)) t=some d↔t∈ts/\d=.int 0:=by
   intro ts;induction ts with
   |nil=>simp[zF]
   |cons x r ih=>
    rw[AU,zF];by_cases q:x=t
    .subst q;simp[eq_comm]
    .rw[AE q,ih,AK];constructor
     .rintro⟨z1,z2⟩;exact#[.inr z1,z2]
     .rintro⟨z1|z1,z2⟩
      .exact absurd z1.symm q
      .exact#[z1,z2]
  exact gen _
 .rw[Af];rw[show((λ(x:List Int×D)=>x.1)∘λ(t:Ye)=>(t,D.int 0))=id from rfl,List.map_id];exact nd
 .rintro o Y' M' ⟨rfl,⟨y3,y5,y6,y7,rfl⟩,⟨fd,e1,e2,e3⟩,hlen,fr'⟩;rw[zS];rw[AW]at hlen fr';refine zv rfl #[M1.length,rfl,(),#[fd,e1,e2,e3],(),λj hj=>?_];rw[fr' j () (),AM ()];calc fr j hj
def Jn:FS:=(zq (zP He (zD (toD (zC 0)) (zD (toD (zu [1] (BJ (zD (toD (fB An (zQ (zC 0) ze))) zG)) (gN 1) zc (A1 (zD (toD (zC 1)) zG)))) zG))))
def F3:FF:=AV 2 Jn
def UC(m:IsM zA l)(hR:zA.length<=26)(hl:l<=12):Ok (F3 [mD zA] M) λd M'=>∃jf,d=.ref jf/\M.length<=jf/\(∃fd,M'[jf]?=some (dT fd)/\fd.length<=702/\∀t d,zF fd t=some d↔Th zA t/\∃n:Nat,Dst zA l One t n/\d=.int (n:Int))/\M.length<=M'.length/\∀j,j<M.length->M'[j]?=M[j]?:=by
 erw[F3];rw[zn];erw[Jn];let er:BJ (zD (toD (fB An (zQ (zC 0) ze))) zG) [some (mD zA),none] M=some ((List.range zA.length).map (λ(k:Nat)=>D.int k),none,M):=by
  rw[Ex (IL rfl) () (),Jr];rw[show(zA.length:Int).toNat=zA.length by omega]
 let ec:zu [1] (BJ (zD (toD (fB An (zQ (zC 0) ze))) zG)) (gN 1) zc (A1 (zD (toD (zC 1)) zG)) [some (mD zA),none] M=some (.fl ((List.range zA.length).map λ(k:Nat)=>tI [(k:Int)]),M) :=
  EY (List.range zA.length) (λ(k:Nat)=>D.int k) (λ(k:Nat)=>tI [(k:Int)]) er trivial (by rw[Et];omega) λk _=>#[_,rfl,rfl]
 let el:((List.range zA.length).map λ(k:Nat)=>tI [(k:Int)])=((zJ zA).map λr=>[r]).map tI:=by
  erw[zJ];rw[Af,Af];rfl
 rw[el]at ec;rw[CG];calc EW.mpr (C2.mpr (Bp.mpr (A8.mpr #[_,rfl,?_])));rw[zO];calc C2.mpr (Bp.mpr (zE ec ?_));rw[IX,EC];refine Ok.mono (mH m Tx hR hl (by simp) ?_ b9 ?_) ?_
 .unfold zJ;rw[Af];exact FL.mpr (List.Pairwise.imp (λ{a b} h z=>h (by simp at z;omega)) List.nodup_range)
 .unfold zJ;simp;omega
 rintro d M' ⟨jf,rfl,h1,h2,h3,h4⟩;rw[zO];rw[AW]at h1 h3 h4;refine#[jf,rfl,(),h2,(),λj hj=>?_];rw[h4 j (),AM hj]
set_option genInjectivity true in
inductive Climb(zA:Ya)(l:Nat)(G:Yq):List Int->List Int->Prop
 |nil {t:Ye}:G t->Climb zA l G t []
 |cons {t:Ye} {x:Int} {w:Ye} {n:Nat}:Dst zA l G t (n+1)->0<=x->x<(l:Int)->Dst zA l G (setR zA t x) n->(∀y,0<=y->y<x->¬ Dst zA l G (setR zA t y) n)->Climb zA l G (setR zA t x) w->Climb zA l G t (x::w)
theorem Rw{w t:Ye}(c1:Climb zA l G t w):∀{v:Ye},Climb zA l G t v->w=v:=by
 induction c1 with
 |nil h=>
  intro v c2
  cases c2 with
  |nil=>rfl
  |cons d=>have:=DD (Dl.mpr h) d;omega
 |cons d1 x0 x1 e1 f1 _ ih=>
  intro v c2
  cases c2 with
  |nil h=>have:=DD (Dl.mpr h) d1;omega
  |cons d2 y0 y1 e2 f2 c2=>
   cases DD d1 d2
   rcases Int.lt_trichotomy _ _ with q|q|q
   .exact absurd e1 (f2 _ x0 q)
   .subst q;rw[ih c2]
   .exact absurd e2 (f1 _ y0 q)
theorem JW{w t:Ye}(c:Climb zA l G t w):∀{n:Nat},Dst zA l G t n->w.length=n:=by
 induction c with
 |nil h=>exact λd=>DD (Dl.mpr h) d
 |cons d1 _ _ e1 _ _ ih=>exact λd=>(congrArg (·+1) (ih e1)).trans (DD d1 d)
theorem Kc{w t:Ye}(c:Climb zA l G t w):(∀x∈w,0<=x/\x<(l:Int))/\G (broR zA t w):=by
 induction c with
 |nil h=>exact#[λ_ h=>(by ext h),h]
 |cons _ x0 x1 _ _ _ ih=>exact#[List.forall_mem_cons.mpr #[#[x0,x1],ih.1],ih.2]
def Wo{P:Int->Prop}:∀(k:Nat),P (k:Int)->∃x:Nat,x<=k/\P (x:Int)/\∀y:Int,0<=y->y<(x:Int)->¬ P y:=by
 intro k;induction k using Nat.strongRecOn with
 |ind k ih=>
  intro h;by_cases q:∃j:Nat,j<k/\P (j:Int)
  .obtain⟨j,hj,hp⟩:=q;let(x,h1,h2,h3):=ih j hj hp;exact#[x,(),h2,h3]
  .refine#[k,AF _,h,λy y0 y1 hp=>q #[y.toNat,(),?_]];rw[show((y.toNat:Nat):Int)=y by omega];calc hp
theorem J4:∀(n:Nat){t:Ye},Dst zA l G t n->∃w,Climb zA l G t w
 |0,t,d=>#[[],.nil (Dl.mp d)]
 |n+1,t,d=>by
  let(_,x,hx,hd):=HG.mp d;let(y,h1,h2,h3):=Wo (P:=λx=>Dst zA l G (setR zA t x) n) x.toNat (by rw[show((x.toNat:Nat):Int)=x by omega];calc hd);let(w,hw):=J4 n h2;calc#[(y:Int)::w,.cons d () () h2 h3 hw]
theorem N0:∀{w v t:Ye},Climb zA l G t w->(∀x∈v,0<=x/\x<(l:Int))->G (broR zA t v)->v.length=w.length->w=v\/List.Lex (· < ·) w v
 |[],v,_,.nil _,_,_,e=> .inl (EF.mp e).symm
 |x::w,[],_,_,_,_,e=>by ext e
 |x::w,y::v,t,.cons (n:=n) d x0 x1 e1 f1 c1,hv,hb,e=>by
  let hy:=hv y AR;let hv':∀z∈v,0<=z/\z<(l:Int):=λz hz=>hv z (Aa _ hz);let hw:=JW c1 e1;let hvl:v.length=n:=by simp at e;omega
  let dy:Dst zA l G (setR zA t y) n:=#[#[v,hvl,hv',hb],λm hm hr=>d.2 (m+1) () (K7.mpr #[y,hy,hr])];rcases Int.lt_trichotomy x y with q|q|q
  .exact .inr (.rel q)
  .subst q;rcases N0 c1 hv' hb ()with z|z
   .exact .inl (by rw[z])
   .exact .inr (.cons z)
  .exact absurd dy (f1 y hy.1 q)
def Zw(ha:a Y M=some (true,M)):Bl a b Y M=some (true,M):=by erw[Bl];rw[ha]
def IS(ha:a Y M=some (false,M))(hb:b Y M=some (k,M)):Bl a b Y M=some (k,M):=by erw[Bl];rw[ha];calc hb
def aC'{f:FE}{g:FA}{Y:Sd}{M M1 M2:Mem}{d:D}{ds:List D}(h:toD f Y M=some (d,M1))(hg:g Y M1=some (ds,M2)):zD (toD f) g Y M=some (d::ds,M2):=by
 erw[zD];rw[h];symm;rw[hg]
def Hg(h:f Y M=some (.dat d,M)):toD f Y M=some (d,M):=by erw[toD];rw[h]
def RL{M M1:Mem}(h:f Y M=some (.fl xs,M1)):toD f Y M=some (.ref M1.length,M1++[.lst xs]):=by erw[toD];rw[h]
def Q2{g:FA}{Y:Sd}{M M1:Mem}{ds:List D}(h:g Y M=some (ds,M1))(hz:ds.length<=100000):Ar g Y M=some (.fl ds,M1):=by
 erw[Ar];rw[h];symm;rw[AB (zi hz)]
def J3{g:FA}{Y:Sd}{M M1:Mem}{ds:List D}(h:g Y M=some (ds,M1))(hz:ds.length<=100000):A1 g Y M=some (.dat (.tup ds),M1):=by
 erw[A1];rw[h];symm;rw[AB (zi hz)]
def aL(hf:f Y M=some (.dat (.int i),M))(hg:g Y M=some (.dat (.int j),M)):fB Jc (zQ f (zQ g ze)) Y M=some (.dat (.int (if j<i then j else i)),M):=by
 erw[fB,zQ,ze];rw[hf];symm;rw[hg];rfl
def gZ{f:FE}{Y:Sd}{M M1:Mem}{xs:List D}(h:f Y M=some (.fl xs,M1)):AN f Y M=some (xs,none,M1):=by
 erw[AN];rw[h];rfl
def Xu(h1:M[n]?=some (.lst xs))(h2:M[m]?=some (.lst ys))(hz:xs.length+ys.length<=90000):IC (.dat (.ref n)) [.ref m] M=some (.non,M.set n (.lst (xs++ys))):=by
 erw[IC];symm;rw[h1,h2];symm;rw[AB (zi ())]
def jT(hf:f Y M=some (.dat (.int i),M))(hg:g Y M=some (.dat (.int j),M)):fB JM (zQ f (zQ g ze)) Y M=some (.dat (.int (if j>i then j else i)),M):=by
 erw[fB,zQ,ze];rw[hf];symm;rw[hg];rfl
def ZP{m:FF}{a:FA}{Y:Sd}{M M1 M':Mem}{ds:List D}{d:D}(h:a Y M=some (ds,M1))(hm:m ds M1=some (d,M')):zP m a Y M=some (.dat d,M'):=by
 erw[zP];rw[h];symm;rw[hm]
def KY:FS:=(zW (zw 3 (zu [4] (BJ (zD (toD (fB An (zQ (fOp kIx (zC 0) (fC (.int 0))) ze))) zG)) (gN 4) zc (zP Cu (zD (toD (zC 0)) (zD (toD (zC 1)) (zD (toD (zC 4)) zG))))))
  (zq (fB (Hy false) (zQ (zu [4,5] (D8 (zC 3)) (C0 4 5) (Cb (tst (fOp (As false) (zC 5) (zC 2))) (tst (fOp kEq (fOp BE (zC 2) (zC 5)) (fOp Ga (fOp BE (zC 2) (zC 1)) (fC (.int 1)))))) (zC 4)) ze))))
def z0:FF:=AV 6 KY
def LN:FS:=(zW (zw 2 (zu [3] (AN (zP EA (zD (toD (zP EJ (zD (toD (zC 0)) zG))) zG))) (gN 3) (tst (fOp kGt (DF (zC 1) (zC 3) (fC (.int 0))) (fC (.int 0)))) (zC 3)))
  (zq (EG true [3] (AN (zC 2)) (gN 3) zc (zC 3) (A1 (zD (toD (fOp BE (zC 1) (zC 3))) (zD (toD (zP z0 (zD (toD (zC 0)) (zD (toD (zC 3)) (zD (toD (zC 1)) zG))))) zG))))))
def G0:FF:=AV 4 LN
def KZ:FS:=(zq (zP G0 (zD (toD (zC 0)) (zD (toD (zP F3 (zD (toD (zC 0)) zG))) zG))))
def GJ:FF:=AV 1 KZ
def Kb:FS:=(zW (zw 3 (Ar zG))
  (zW (zw 4 (zC 2))
  (zW (Bs (tst (fOp (As false) (zC 4) (zC 1))) (zW (zw 5 (fOp kIx (fOp BE (zC 1) (zC 4)) (fC (.int 1))))
  (zW (Bz (fM CL (zC 3) (zD (toD (zC 5)) zG)))
  (zw 4 (zP Cu (zD (toD (zC 0)) (zD (toD (zC 4)) (zD (toD (zC 5)) zG))))))) 1000)
  (zq (fB BP (zQ (zC 3) ze))))))
def HF:FF:=AV 6 Kb
def LG:FS:=(zW (zw 3 (A1 (zD (toD (fB Jc (zQ (zC 1) (zQ (zC 2) ze)))) (zD (toD (fB JM (zQ (zC 1) (zQ (zC 2) ze)))) zG))))
  (zW (zw 4 (zP GJ (zD (toD (zC 0)) zG)))
  (zq (vIf (tst (fOp (As false) (zC 3) (zC 4))) (zP HF (zD (toD (zC 0)) (zD (toD (zC 4)) (zD (toD (zC 3)) zG)))) (fC .non)))))
def Gv:FF:=DY (AV 5 LG)
theorem US{α:Type}(hgd:BG gd all M)(enc out:α->D)(keep:α->Bool):∀(as:List α),(∀a∈as,∃σ1,g (enc a) Y=some σ1/\tc σ1 M=some (keep a,M)/\(keep a=true->te σ1 M=some (.dat (out a),M)))->BK g tc te Y all gd (as.map enc) M=some ((as.filter keep).map out,M)
 |[],_=>by
  rw[List.map_nil];erw[BK];rw[AB hgd];rfl
 |a::r,h=>by
  let(σ1,e1,e2,e3):=h a AR;let ih:=US hgd enc out keep r λb hb=>h b (Aa _ hb);rw[AU];erw[BK];rw[AB hgd,e1];symm;rw[e2];cases hk:keep a with
  |false=>
   symm;rw[ih,List.filter_cons_of_neg (by simp[hk])]
  |true=>
   symm;rw[show toD te σ1 M=some (out a,M)by erw[toD];rw[e3 hk]];symm;rw[ih,List.filter_cons_of_pos hk];rfl
def Ja{α:Type}{own:Yj}{fi:FI}{g:FG}{tc:FT}{te:FE}{Y:Sd}{M M1:Mem}{gd:Option (Mem->Prop)}(as:List α)(enc out:α->D)(keep:α->Bool)(hi:fi Y M=some (as.map enc,gd,M1))(hgd:BG gd (as.map enc) M1)(hz:as.length<=100000)
  (he:∀a∈as,∃σ1,g (enc a) (Al own Y)=some σ1/\tc σ1 M1=some (keep a,M1)/\(keep a=true->te σ1 M1=some (.dat (out a),M1))):zu own fi g tc te Y M=some (.fl ((as.filter keep).map out),M1) :=
 zR (Iw.mpr #[_,_,_,hi,by rw[AG];calc zi hz,zE (US hgd enc out keep as he) #[rfl,rfl]])
def XB{f:FE}{Y:Sd}{M M1:Mem}{xs:Ye}(hf:f Y M=some (.fl (xs.map D.int),M1))(hx:xs≠[]):∃b,fB (Hy false) (zQ f ze) Y M=some (.dat (.int b),M1)/\b∈xs/\∀y∈xs,b<=y:=by
 cases xs with
 |nil=>calc absurd rfl hx
 |cons x r=>
  let(h1,h2):=Jp false r x;refine#[DJ false x r,?_,h1,λy hy=>by simpa using h2 y hy];erw[fB,zQ,ze];rw[hf];erw[Hy];symm;rw[IJ]
def OO(zA:Ya)(l:Nat)(G:Yq)(fd:List (List Int×D)):Prop:=∀t d,zF fd t=some d↔Th zA t/\∃n:Nat,Dst zA l G t n/\d=.int (n:Int)
structure Fst(zA:Ya)(l:Nat)(G:Yq)(p:Ye)(n:Nat)(x:Int):Prop where
 x0:0<=x
 x1:x<(l:Int)
 d:Dst zA l G (setR zA p x) n
 f:∀y,0<=y->y<x->¬ Dst zA l G (setR zA p y) n
def isN(n:Nat):Option D->Bool
 |some (.int v)=>decide (v=(n:Int))
 |_=>false
def Nm(sp:OO zA l G fd)(u:Th zA t):isN n (zF fd t)=true↔Dst zA l G t n:=by
 constructor
 .intro h;cases e:zF fd t with
  |none=>rw[e]at h;ext h
  |some d=>
   let(_,k,hk,rfl):=(sp t d).mp e;rw[e]at h;have:(k:Int)=(n:Int):=Cs h;rw[show n=k by omega];exact hk
 .intro h;rw[(sp t _).mpr #[u,n,h,rfl]];calc Az rfl
def eqE:kEq (.dat (.int a)) (.dat (.int b)) M=some (.dat (.bl (decide (a=b))),M):=zR (FV.mpr #[rfl,rfl])
def nB:Ga (.dat (.int a)) (.dat (.int b)) M=some (.dat (.int (a-b)),M):=rfl
def gtE:kGt (.dat (.int a)) (.dat (.int b)) M=some (.dat (.bl (decide (b<a))),M):=rfl
def qZ(ha:a Y M=some (true,M))(hb:b Y M=some (k,M)):Cb a b Y M=some (k,M):=by erw[Cb];rw[ha];calc hb
def bN(ha:a Y M=some (false,M)):Cb a b Y M=some (false,M):=by erw[Cb];rw[ha]
def nQ{zA:Ya}{l:Nat}{G:Yq}(m:IsM zA l)(hR:zA.length<=26)(hl:l<=12){M:Mem}{jf:Nat}{fd:List (List Int×D)}(hf:M[jf]?=some (dT fd))(sp:OO zA l G fd){p:Ye}(u:Th zA p){n:Nat}(hd:Dst zA l G p (n+1)):
  Ok (z0 [mD zA,tI p,.ref jf] M) λd M'=>∃x:Int,d=.int x/\Fst zA l G p n x/\∃us,M'=M++us:=by
 erw[z0];rw[zn];erw[KY];let hfl:=(AI.mp hf).1;let er:=P8 (Y:=[some (mD zA),some (tI p),some (.ref jf),none,none,none]) (M:=M) (Jj m (f:=zC 0) rfl) () ();rw[show(l:Int).toNat=l by omega]at er;let ec:=EY (own:=[4]) (g:=gN 4) (te:=zP Cu (zD (toD (zC 0)) (zD (toD (zC 1)) (zD (toD (zC 4)) zG)))) (List.range l) (λ(k:Nat)=>D.int k) (λ(k:Nat)=>tI (setR zA p (k:Int))) er trivial (by rw[Et];omega) λk hk=>#[_,rfl,zV (zU (d:=mD zA) rfl (zU rfl (zY rfl))) (HE m () u.1 () (by have:=A9.mp hk;omega))];rw[zM,za];calc zE ec (Bv ?_);rw[zS];generalize hA:M++[MO.lst ((List.range l).map λ(k:Nat)=>tI (setR zA p (k:Int)))]=A;let a1:A[M.length]?=some (.lst ((List.range l).map λ(k:Nat)=>tI (setR zA p (k:Int)))):=by rw[<-hA];simp
 let a2:A[jf]?=some (dT fd):=by rw[<-hA,AM hfl];exact hf
 let hen:D8 (zC 3) [some (mD zA),some (tI p),some (.ref jf),some (.ref M.length),none,none] A=some ((List.range l).map (λ(k:Nat)=>D.tup [.int (k:Nat),tI (setR zA p (k:Int))]),CQ (.dat (.ref M.length)) ((List.range l).map λ(k:Nat)=>tI (setR zA p (k:Int))),A):=by
  erw[D8];rw[show zC 3 [some (mD zA),some (tI p),some (.ref jf),some (.ref M.length),none,none] A=some (.dat (.ref M.length),A)from rfl];symm;rw[zy a1];symm;congr 2;erw[Dq];rw[AG,Et];apply List.ext_getElem?;intro i;by_cases hi:i<l
  .rw[Au,Au,List.zip_eq_zipWith,List.getElem?_zipWith,Au,List.getElem?_range hi];rfl
  .rw[Ge (by simp;omega),Ge (by simp;omega)]
 let lp:zF fd p=some (.int ((n+1:Nat):Int)):=(sp p _).mpr #[u,n+1,hd,rfl];let ef:=Ja (own:=[4,5]) (g:=C0 4 5) (tc:=Cb (tst (fOp (As false) (zC 5) (zC 2))) (tst (fOp kEq (fOp BE (zC 2) (zC 5)) (fOp Ga (fOp BE (zC 2) (zC 1)) (fC (.int 1)))))) (te:=zC 4) (List.range l) _ (λ(k:Nat)=>D.int (k:Int)) (λ(k:Nat)=>isN n (zF fd (setR zA p (k:Int)))) hen (.inl a1) (by rw[Et];omega) (λk hk=>by
  let u':=Ep m p (k:Int) u #[(),by have:=A9.mp hk;omega];refine#[[some (mD zA),some (tI p),some (.ref jf),some (.ref M.length),some (.int (k:Int)),some (tI (setR zA p (k:Int)))],rfl,?_,λ_=>rfl];let e1:fOp (As false) (zC 5) (zC 2) [some (mD zA),some (tI p),some (.ref jf),some (.ref M.length),some (.int (k:Int)),some (tI (setR zA p (k:Int)))] A=_:=zL rfl rfl (BW a2);rw[AE ()]at e1;cases e:zF fd (setR zA p (k:Int))with
  |none=>
   rw[e]at e1;calc bN (zr e1)
  |some d=>
   let(_,v,_,rfl):=(sp _ d).mp e;rw[e]at e1;calc qZ (zr e1) (zr ?_);calc zL (zL rfl rfl (C6 a2 e)) (zL (zL rfl rfl (C6 a2 lp)) rfl nB) ?_;rw[eqE];erw[isN];congr 5;calc propext #[λh=>(),λh=>()])
 rw[show((List.range l).filter λ(k:Nat)=>isN n (zF fd (setR zA p (k:Int)))).map (λ(k:Nat)=>D.int (k:Int))=(((List.range l).filter λ(k:Nat)=>isN n (zF fd (setR zA p (k:Int)))).map λ(k:Nat)=>(k:Int)).map D.int by rw[Af];rfl]at ef;let(b,eb,hb1,hb2):=XB ef (by
  let(_,x,hx,hr):=HG.mp hd;have:((x.toNat:Nat):Int)∈((List.range l).filter λ(k:Nat)=>isN n (zF fd (setR zA p (k:Int)))).map λ(k:Nat)=>(k:Int):=AL.mpr #[x.toNat,C3.mpr #[A9.mpr (),by rw[show((x.toNat:Nat):Int)=x by omega];calc(Nm sp (Ep m p x u hx)).mpr hr],rfl];calc List.ne_nil_of_mem this)
 let(k,hk,rfl):=AL.mp hb1;let(k1,k2):=C3.mp hk;let k3:=A9.mp k1;refine zv eb #[(k:Int),rfl,#[(),(),(Nm sp (Ep m p _ u #[(),()])).mp k2,λy y0 y1 hy=>?_],_,hA.symm];have:=hb2 y (AL.mpr #[y.toNat,C3.mpr #[A9.mpr (),by rw[show((y.toNat:Nat):Int)=y by omega];calc(Nm sp (Ep m p y u #[y0,()])).mpr hy],()]);omega
def aC(a:Fst zA l G p n x)(b:Fst zA l G p n y):x=y:=by
 rcases Int.lt_trichotomy x y with q|q|q
 .exact absurd a.d (b.f x a.x0 q)
 .exact q
 .exact absurd b.d (a.f y b.x0 q)
open Classical in
def B6(zA:Ya)(l:Nat)(G:Yq)(t:Ye):Nat:=if h:∃n,Dst zA l G t n then Classical.choose h else 0
open Classical in
def JI(zA:Ya)(l:Nat)(G:Yq)(t:Ye):Int:=if h:∃x,Fst zA l G t (B6 zA l G t-1) x then Classical.choose h else 0
def Fc(h:Dst zA l G t n):B6 zA l G t=n:=by
 erw[B6];let hx:∃n,Dst zA l G t n:=#[n,h];rw[dif_pos hx];calc DD (Classical.choose_spec hx) h
def Qj(h:0<B6 zA l G t):Dst zA l G t (B6 zA l G t):=by
 by_cases hx:∃n,Dst zA l G t n
 .obtain⟨n,hn⟩:=hx;rw[Fc hn];exact hn
 .unfold B6 at h;rw[dif_neg hx]at h;omega
def Rm(hd:Dst zA l G t (n+1))(h:Fst zA l G t n x):JI zA l G t=x:=by
 erw[JI];rw[Fc hd];let hx:∃x,Fst zA l G t (n+1-1) x:=#[x,h];rw[dif_pos hx];calc aC (Classical.choose_spec hx) h
def Kw(zA:Ya)(l:Nat)(G:Yq)(t:Ye):Bool:=decide (0<B6 zA l G t)
def GL(zA:Ya)(l:Nat)(G:Yq)(t:Ye):D:=.tup [.int (B6 zA l G t:Nat),.int (JI zA l G t)]
def A3(zA:Ya)(l:Nat)(G:Yq):List (List Int):=(zZ (zJ zA)).filter (Kw zA l G)
def CJ(zA:Ya)(l:Nat)(G:Yq):List (List Int×D):=(A3 zA l G).map λp=>(p,GL zA l G p)
theorem RB{f:List Int->D}{t:Ye}:∀{ps:Ya},zF (ps.map λp=>(p,f p)) t=if t∈ps then some (f t)else none
 |[]=>rfl
 |p::r=>by
  rw[AU,zF];by_cases h:p=t
  .subst h;rw[AB rfl,AB AR]
  .rw[AE h,RB];by_cases hr:t∈r
   .rw[AB hr,AB (Aa _ hr)]
   .rw[AE hr,AE (by simp[hr,Ne.symm h])]
def pL(h:g∉T.map (·.1)):Ad T g v=T++[(g,v)]:=by
 erw[Ad];cases e:zF T g with
 |none=>rfl
 |some d=>calc absurd (Iq.mp (show(zF T g).isSome=true by rw[e];rfl)) h
def VL(h:xs.Nodup):(zZ xs).Nodup:=by
 let gen:∀r:List Int,r.Nodup->(r.flatMap λa=>(xs.filter λb=>decide (a<b)).map λb=>[a,b]).Nodup:=by
  intro r;induction r with
  |nil=>intro _;simp
  |cons a r ih=>
   intro hr;let(h1,h2):=FR.mp hr;rw[Eb,DN];refine#[?_,ih h2,λu hu v hv=>?_]
   .refine FL.mpr (List.Pairwise.imp (λ{x y} q z=>q (~~~z)) (List.Pairwise.filter _ h))
   .obtain⟨b,_,rfl⟩:=AL.mp hu;let(c,hc,hv):=List.mem_flatMap.mp hv;let(d,_,rfl):=AL.mp hv;intro z;have:a=c:=by simpa using(CF z).1
    exact h1 (by rw[this];calc hc)
 calc gen xs h
def V1(zA:Ya):(zJ zA).Nodup:=by
 erw[zJ];calc FL.mpr (List.Pairwise.imp (λ{a b} h z=>h ()) List.nodup_range)
def E6:t∈A3 zA l G↔t∈zZ (zJ zA)/\∃n,Dst zA l G t (n+1):=by
 erw[A3,Kw];rw[C3];constructor
 .rintro⟨a,b⟩;have:=Qj (Cs b);exact#[a,B6 zA l G t-1,by rw[show B6 zA l G t-1+1=B6 zA l G t by have:=Cs b;omega];calc this]
 .rintro⟨a,n,h⟩;calc#[a,Az (by rw[Fc h];omega)]
def nZ(hf:f Y M=some (.dat (.ref n),M))(hn:M[n]?=some (dT T))(hg:g Y M=some (.dat (tI k),M)):DF f g (fC c) Y M=some (.dat ((zF T k).getD c),M):=by
 erw[DF];rw[show toD f Y M=some (.ref n,M)by erw[toD];rw[hf]];symm;rw[hn];rw[show toD g Y M=some (tI k,M)by erw[toD];rw[hg]];symm;rw[show toD (fC c) Y M=some (c,M)from rfl];symm;rw[dgT hn]
def aN{own:Yj}{i:Nat}{tv:FE}{Y:Sd}{M:Mem}{jl jk:Nat}{K:MO}{ts:Ya}{val:List Int->D}(hj:M[jl]?=some (.lst (ts.map tI)))(hk:M[jk]?=some K)(nd:ts.Nodup)(hz:ts.length<=80000)
  (hg:∀a,gN i a (Al own Y)=some ((Al own Y).set i (some a))) (hs:∀(a:D) M',zC i ((Al own Y).set i (some a)) M'=some (.dat a,M'))
  (hv:∀t∈ts,∀M':Mem,M'[jk]?=some K->∃us,tv ((Al own Y).set i (some (tI t))) M'=some (.dat (val t),M'++us)) {n:Nat} (hn:n=M.length):
  ∃us,Ck (gN i) zc (zC i) tv (Al own Y) n (ts.map tI) (CQ (.dat (.ref jl)) (ts.map tI)) (ts.map tI) (M++[dT []])=some (M++dT (ts.map λt=>(t,val t))::us):=by
 subst hn;let hjl:=(AI.mp hj).1;let hkl:=(AI.mp hk).1;let loop:∀(r q:Ya)(ws:Mem),q++r=ts->∃us,Ck (gN i) zc (zC i) tv (Al own Y) M.length (ts.map tI) (CQ (.dat (.ref jl)) (ts.map tI)) (r.map tI) (M++dT (q.map λt=>(t,val t))::ws)=some (M++dT (ts.map λt=>(t,val t))::us):=by
  intro r;induction r with
  |nil=>
   intro q ws e;rw[BI]at e;subst e;calc#[ws,Pm (.inl (by rw[AM hjl];calc hj))]
  |cons x r ih=>
   intro q ws e;let hx:x∉q:=λz=>by
    rw[<-e,DN]at nd;exact nd.2.2 x z x AR rfl
   let hl:q.length<90000:=by have:=Ba List.length e;simp at this;omega
   let(us,hu):=hv x (by rw[<-e];simp) (M++dT (q.map λt=>(t,val t))::ws) (by rw[AM hkl];calc hk);let(vs,hvs):=ih (q++[x]) (ws++us) (by rw[<-e];simp);calc#[vs,?_];rw[<-hvs,AU];let hgd:BG (CQ (.dat (.ref jl)) (ts.map tI)) (ts.map tI) (M++dT (q.map λt=>(t,val t))::ws):=.inl (by rw[AM hjl];calc hj);rw[Ck,AB hgd,hg];symm;rw[show zc ((Al own Y).set i (some (tI x))) (M++dT (q.map λt=>(t,val t))::ws)=some (true,M++dT (q.map λt=>(t,val t))::ws)from rfl];symm;rw[show toD (zC i) ((Al own Y).set i (some (tI x))) (M++dT (q.map λt=>(t,val t))::ws)=some (tI x,M++dT (q.map λt=>(t,val t))::ws)by erw[toD];rw[hs]];symm;rw[show toD tv ((Al own Y).set i (some (tI x))) (M++dT (q.map λt=>(t,val t))::ws)=some (val x,M++dT (q.map λt=>(t,val t))::ws++us)by erw[toD];rw[hu]];symm;rw[Bg (T:=q.map λt=>(t,val t)) (by simp) (by rw[AG];calc hl),pL (by rw[Af];simpa using hx)];congr 1;rw[Bx,List.set_append_right _ _ (AF _)];simp
 calc loop ts [] [] rfl
def X2{zA:Ya}{l:Nat}{G:Yq}(m:IsM zA l)(hR:zA.length<=26)(hl:l<=12){M:Mem}{jf:Nat}{fd:List (List Int×D)}(hf:M[jf]?=some (dT fd))(sp:OO zA l G fd):
  Ok (G0 [mD zA,.ref jf] M) λd M'=>∃jr us,d=.ref jr/\M'=M++us/\M.length<=jr/\M'[jr]?=some (dT (CJ zA l G)):=by
 erw[G0];rw[zn];erw[LN];let hfl:=(AI.mp hf).1;let hrl:(zJ zA).length=zA.length:=by erw[zJ];simp
 let epr:=ON (xs:=zJ zA) () (M:=M);let ei:AN (zP EA (zD (toD (zP EJ (zD (toD (zC 0)) zG))) zG)) [some (mD zA),some (.ref jf),none,none] M=_:=LR (zY (d:=tI (zJ zA)) (zV (zY (d:=mD zA) rfl) (Nt ()))) epr (Ci _ _);let hPl:(zZ (zJ zA)).length<=676:=by
  let h1:=Ip (zJ zA);rw[hrl]at h1;exact Ab h1 (FN hR hR)
 generalize hA:M++[MO.lst ((zZ (zJ zA)).map tI)]=A at ei;let a1:A[M.length]?=some (.lst ((zZ (zJ zA)).map tI)):=by rw[<-hA];simp
 let a2:A[jf]?=some (dT fd):=by rw[<-hA,AM hfl];exact hf
 let ef:=Ja (own:=[3]) (g:=gN 3) (tc:=tst (fOp kGt (DF (zC 1) (zC 3) (fC (.int 0))) (fC (.int 0)))) (te:=zC 3) (zZ (zJ zA)) tI tI (Kw zA l G) ei (.inl a1) () (λp hp=>by
  refine#[[some (mD zA),some (.ref jf),none,some (tI p)],rfl,zr ?_,λ_=>rfl];let e1:DF (zC 1) (zC 3) (fC (.int 0)) [some (mD zA),some (.ref jf),none,some (tI p)] A=_:=nZ rfl a2 rfl;erw[Kw];cases e:zF fd p with
  |none=>
   rw[e]at e1;rw[zL e1 rfl gtE];have:¬ 0<B6 zA l G p:=λh=>by
    rw[(sp p _).mpr #[Hz p hp,_,Qj h,rfl]]at e;ext e
   rw[Aw this];rfl
  |some d=>
   let(_,v,hv,rfl):=(sp _ d).mp e;rw[e]at e1;rw[zL e1 rfl gtE,Fc hv];congr 5;calc propext #[λh=>(),λh=>()])
 rw[zM,za];calc zE ef (Bv ?_);rw[zS];show OkS (zq _ [some (mD zA),some (.ref jf),some (.ref A.length),none] (A++[.lst ((A3 zA l G).map tI)])) _;let nd:(A3 zA l G).Nodup:=List.Pairwise.filter _ (VL (V1 zA));let hrl2:(A3 zA l G).length<=676:=Ab (Gx _ _) hPl;generalize hB:A++[MO.lst ((A3 zA l G).map tI)]=B;let b1:B[A.length]?=some (.lst ((A3 zA l G).map tI)):=by rw[<-hB];simp
 let b2:B[jf]?=some (dT fd):=by rw[<-hB,AM (AI.mp a2).1];exact a2
 let(us,hu):=aN (own:=[3]) (i:=3) (Y:=[some (mD zA),some (.ref jf),some (.ref A.length),none]) (tv:=A1 (zD (toD (fOp BE (zC 1) (zC 3))) (zD (toD (zP z0 (zD (toD (zC 0)) (zD (toD (zC 3)) (zD (toD (zC 1)) zG))))) zG))) (val:=GL zA l G) b1 b2 nd () (λ_=>rfl) (λ_ _=>rfl) (λt ht M' hM=>by
  let(ht1,n,hn):=E6.mp ht;let(d,M2,e,x,rfl,fx,us,rfl):=nQ m hR hl hM sp (Hz t ht1) hn;calc#[us,?_];show A1 _ [some (mD zA),some (.ref jf),some (.ref A.length),some (tI t)] M'=_;let e1:fOp BE (zC 1) (zC 3) [some (mD zA),some (.ref jf),some (.ref A.length),some (tI t)] M'=some (.dat (.int ((n+1:Nat):Int)),M'):=zL (x:=.dat (.ref jf)) rfl rfl (C6 hM ((sp t _).mpr #[Hz t ht1,n+1,hn,rfl]));let e2:zP z0 (zD (toD (zC 0)) (zD (toD (zC 3)) (zD (toD (zC 1)) zG))) [some (mD zA),some (.ref jf),some (.ref A.length),some (tI t)] M'=some (.dat (.int x),M'++us):=zV (zU rfl (zU rfl (zY rfl))) e;rw[J3 (aC' (Hg e1) (Su e2)) (by simp)];erw[GL];rw[Fc hn,Rm hn fx]) rfl
 let ed:EG true [3] (AN (zC 2)) (gN 3) zc (zC 3) (A1 (zD (toD (fOp BE (zC 1) (zC 3))) (zD (toD (zP z0 (zD (toD (zC 0)) (zD (toD (zC 3)) (zD (toD (zC 1)) zG))))) zG))) [some (mD zA),some (.ref jf),some (.ref A.length),none] B=some (.dat (.ref B.length),B++dT (CJ zA l G)::us):=by
  erw[EG,AN];rw[show zC 2 [some (mD zA),some (.ref jf),some (.ref A.length),none] B=some (.dat (.ref A.length),B)from rfl];symm;rw[zy b1];symm;rw[show Jt true=dT []from rfl,hu];rfl
 rw[CG];calc zE ed #[B.length,[MO.lst ((zZ (zJ zA)).map tI)]++([MO.lst ((A3 zA l G).map tI)]++dT (CJ zA l G)::us),rfl,by rw[<-hB,<-hA];simp only[Bx],?_,by simp];rw[<-hB,<-hA];simp only[AW];omega
def Qo(m:IsM zA l)(hR:zA.length<=26)(hl:l<=12):
  Ok (GJ [mD zA] M) λd M'=>∃jr,d=.ref jr/\M.length<=jr/\M'[jr]?=some (dT (CJ zA l One))/\M.length<=M'.length/\∀j,j<M.length->M'[j]?=M[j]?:=by
 erw[GJ];rw[zn];erw[KZ];let(d,M1,e,jf,rfl,h1,(fd,h2,_,sp),h3,h4):=UC m hR hl;let(d2,M2,e2,jr,us,rfl,rfl,q1,q2):=X2 m hR hl h2 sp;rw[CG];let ec:zP G0 (zD (toD (zC 0)) (zD (toD (zP F3 (zD (toD (zC 0)) zG))) zG)) [some (mD zA)] M=some (.dat (.ref jr),M1++us):=by
  exact ZP (aC' (Hg rfl) (Su (zV (zY rfl) e))) e2
 refine zE ec #[jr,rfl,(),q2,by rw[AW];omega,λj hj=>?_];rw[AM ()];calc h4 j hj
theorem SM(m:IsM zA l)(o:GA zA G):∀(n:Nat)(t:Ye),Th zA t->Dst zA l G t n->∃ts:List (List Int),ts.length=n/\ts.Nodup/\∀s∈ts,s∈zZ (zJ zA)/\∃k,k<=n/\Dst zA l G s k
 |0,_,_,_=>#[[],rfl,List.nodup_nil,λ_ h=>by ext h]
 |n+1,t,u,d=>by
  let(q,x,hx,hd):=HG.mp d;let(ts,h1,h2,h3):=SM m o n (setR zA t x) (Ep m t x u hx) hd;refine#[t::ts,by simp[h1],FR.mpr #[λz=>?_,h2],λs hs=>?_]
  .obtain⟨_,k,hk,hk2⟩:=h3 t z;have:=DD hk2 d;omega
  .rcases AK.mp hs with rfl|z
   .exact#[OL m o s (n+1) u (λg=>by have:=DD (Dl.mpr g) d;omega) d.1,n+1,AF _,d]
   .obtain⟨a,k,hk,b⟩:=h3 s z;calc#[a,k,(),b]
def hV(m:IsM zA l)(o:GA zA G)(u:Th zA t)(d:Dst zA l G t n):n<=(zZ (zJ zA)).length:=by
 let(ts,h1,h2,h3):=SM m o n t u d;rw[<-h1];calc Ld ts _ h2 λs hs=>(h3 s hs).1
def Il(hR:zA.length<=26):(zZ (zJ zA)).length<=676:=by
 let h1:=Ip (zJ zA);let hrl:(zJ zA).length=zA.length:=by erw[zJ];simp
 rw[hrl]at h1;calc Ab h1 (FN hR hR)
def KS(c:Climb zA l G t w):Dst zA l G t w.length:=by
 cases c with
 |nil g=>calc Dl.mpr g
 |cons d x0 x1 e f c=>rw[Bw,JW c e];calc d
def Kk:zF (CJ zA l G) t=if t∈A3 zA l G then some (GL zA l G t)else none:=RB
def mF(m:IsM zA l)(o:GA zA G)(hR:zA.length<=26)(hr:M[jr]?=some (dT (CJ zA l G)))(u:Th zA p)(c:Climb zA l G p w):
  Ok (HF [mD zA,.ref jr,tI p] M) λd M'=>d=tI w/\∃us,M'=M++us:=by
 let hrl:=(AI.mp hr).1;let hw:w.length<=676:=Ab (hV m o u (KS c)) (Il hR);erw[HF];rw[zn];erw[Kb];rw[zM,za];calc zE (Q2 rfl (by simp)) (Bv ?_);rw[zS];calc DK rfl ?_;rw[zM];refine JR (I:=λz Y M'=>∃(w1 w2 here:Ye)(y:Option D),w=w1++w2/\Climb zA l G here w2/\Th zA here/\z=w2.length/\Y=[some (mD zA),some (.ref jr),some (tI p),some (.ref M.length),some (tI here),y]/\M'=M++[.lst (w1.map D.int)]) ?_ 1000 w.length _ _ () #[[],w,p,none,rfl,c,u,rfl,rfl,rfl];rintro z Y M' ⟨w1,w2,here,y,hw12,c2,u2,rfl,rfl,rfl⟩;let hM:(M++[MO.lst (w1.map D.int)])[jr]?=some (dT (CJ zA l G)):=by rw[AM hrl];exact hr
 let hL:(M++[MO.lst (w1.map D.int)])[M.length]?=some (.lst (w1.map D.int)):=by simp
 let et:tst (fOp (As false) (zC 4) (zC 1)) [some (mD zA),some (.ref jr),some (tI p),some (.ref M.length),some (tI here),y] (M++[MO.lst (w1.map D.int)])=some ((zF (CJ zA l G) here).isSome,M++[MO.lst (w1.map D.int)]):=by
  have:=zL (k:=As false) (f:=zC 4) (g:=zC 1) (Y:=[some (mD zA),some (.ref jr),some (tI p),some (.ref M.length),some (tI here),y]) rfl rfl (BW hM);rw[AE ()]at this;exact zr this
 calc zE et ?_;cases c2 with
 |nil g=>
  let hlk:zF (CJ zA l G) here=none:=by rw[Kk,AE (λh=>by let(_,n,hn):=E6.mp h;have:=DD (Dl.mpr g) hn;omega)]
  rw[hlk];rw[BI]at hw12;subst hw12;calc zv (GD rfl (zy hL)) #[rfl,_,rfl]
 | @cons _ x w3 n d x0 x1 e f c3=>
  let hp:=OL m o here (n+1) u2 (λg=>by have:=DD (Dl.mpr g) d;omega) d.1;let hin:here∈A3 zA l G:=E6.mpr #[hp,n,d];let fx:Fst zA l G here n x:=#[x0,x1,e,f];let hv:GL zA l G here=.tup [.int ((n+1:Nat):Int),.int x]:=by erw[GL];rw[Fc d,Rm d fx]
  let hlk:zF (CJ zA l G) here=some (.tup [.int ((n+1:Nat):Int),.int x]):=by rw[Kk,AB hin,hv]
  rw[hlk];let hlen:=Ba List.length hw12;rw[AW,Bw]at hlen;refine DK (zL (zL rfl rfl (C6 hM hlk)) rfl (BZ zb rfl)) ?_;rw[zM,GF];refine F0.mpr (zE rfl #[#[_,Dv hL],zE (zY rfl) ((JY hL (by rw[AG];exact Ay (show w1.length<1000 by omega) (zi ()))).mpr ?_)]);rw[zS];let hset:(M++[MO.lst (w1.map D.int)]).set M.length (.lst (w1.map D.int++[.int x]))=M++[MO.lst ((w1++[x]).map D.int)]:=by
   rw[List.set_append_right _ _ (AF _)];simp
  rw[hset,za];calc zE (zV (zU rfl (zU rfl (zY rfl))) (HE m () u2.1 x0 x1)) ?_;exact#[w3.length,by simp,w1++[x],w3,setR zA here x,some (.int x),by rw[hw12];simp,c3,Ep m here x u2 #[x0,x1],rfl,rfl,rfl]
open Classical in
def Fe(zA:Ya)(l:Nat)(G:Yq)(t:Ye):D:=if h:∃w,Climb zA l G t w then tI (Classical.choose h)else .non
def Lp(c:Climb zA l G t w):Fe zA l G t=tI w:=by
 erw[Fe];let hx:∃w,Climb zA l G t w:=#[w,c];rw[dif_pos hx,Rw (Classical.choose_spec hx) c]
def Lz(h:¬ ∃w,Climb zA l G t w):Fe zA l G t=.non:=by
 erw[Fe];rw[dif_neg h]
def Cp(a b:Int):List Int:=[if b<a then b else a,if b>a then b else a]
def Vr(a0:0<=a)(a1:a<zA.length)(b0:0<=b)(b1:b<zA.length)(ne:a≠b):Cp a b∈zZ (zJ zA):=by
 erw[Cp];refine Es.mpr #[_,_,rfl,GO.mpr ?_,GO.mpr ?_,?_]
 .split <;> omega
 .split <;> omega
 .split <;> split <;> omega
def Pr{zA:Ya}{l:Nat}(m:IsM zA l)(hR:zA.length<=26)(hl:l<=12){a b:Int}(a0:0<=a)(a1:a<zA.length)(b0:0<=b)(b1:b<zA.length)(ne:a≠b){M:Mem}:
  Gv [mD zA,.int a,.int b] M=some (Fe zA l One (Cp a b),M):=by
 let hp:=Vr a0 a1 b0 b1 ne;calc zR ?_;erw[Gv];refine Fp ?_ ?_
 .unfold D.unds D.unds D.unds D.unds;rw[FQ];rfl
 rw[zn];erw[LG];refine DK (J3 (aC' (Hg (aL rfl rfl)) (zY (jT rfl rfl))) (by simp[Cp])) ?_;let(d,M1,e,jr,rfl,_,h2,_,_):=Qo m hR hl;rw[zM,za];refine zE (zV (zY rfl) e) ?_;rw[zO,zS];let et:tst (fOp (As false) (zC 3) (zC 4)) [some (mD zA),some (.int a),some (.int b),some (tI (Cp a b)),some (.ref jr)] M1=some ((zF (CJ zA l One) (Cp a b)).isSome,M1):=by
  have:=zL (k:=As false) (f:=zC 3) (g:=zC 4) (Y:=[some (mD zA),some (.int a),some (.int b),some (tI (Cp a b)),some (.ref jr)]) rfl rfl (BW h2);rw[AE ()]at this;exact zr this
 rw[CG,ZT];calc zE et ?_;by_cases hin:Cp a b∈A3 zA l One
 .rw[show zF (CJ zA l One) (Cp a b)=some (GL zA l One (Cp a b))by rw[Kk,AB hin]];let(_,n,hn):=E6.mp hin;let(w,c):=J4 _ hn;let(d,M2,e2,rfl,us,rfl):=mF m Tx hR h2 (Hz _ hp) c;calc zE (zV (zU rfl (zU rfl (zY rfl))) e2) ?_;exact#[Ct _,(Lp c).symm,rfl]
 .rw[show zF (CJ zA l One) (Cp a b)=none by rw[Kk,AE hin]];calc zE rfl #[rfl,?_,rfl];calc(Lz ?_).symm;rintro⟨w,c⟩;let hd:=KS c;cases w with
  |nil=>have:=Dl.mp hd;calc absurd this (by erw[Cp];simp)
  |cons x w=>calc hin (E6.mpr #[hp,w.length,hd])
def Ho(h1:fv Y M=some (.dat v,M))(h2:fo Y M=some (.dat (.ref n),M))(h3:fi Y M=some (.dat k,M))(h4:Ee M n k v=some M4)(q:P .nx Y M4):OkS (Bd fv fo fi Y M) P:=by
 calc#[.nx,Y,M4,?_,q];erw[Bd,toD];rw[h1];symm;rw[h2];symm;rw[h3];symm;rw[h4]
def KU:FS:=(zW (zw 1 (Ar zG))
  (zW (BO (BJ (zD (toD (fB An (zQ (zC 0) ze))) zG)) (gN 2) (Bz (fM IC (zC 1) (zD (toD (zu [3] (AN (fSl (zC 0) (Cz (fOp BA (zC 2) (fC (.int 1)))) DR)) (gN 3) zc (A1 (zD (toD (fOp kIx (zC 0) (zC 2))) (zD (toD (zC 3)) zG))))) zG))))
  (zq (zC 1))))
def GS:FF:=AV 4 KU
def iV{xs:Ye}(h:xs.Pairwise (· < ·))(hi:i<xs.length):xs.filter (λb=>decide (xs[i]<b))=xs.drop (i+1):=by
 let hg:=List.pairwise_iff_getElem.mp h;let h1:(xs.take (i+1)).filter (λb=>decide (xs[i]<b))=[]:=by
  rw[List.filter_eq_nil_iff];intro b hb;let(j,hj,rfl):=Dm hb;rw[D4]at hj;rw[List.getElem_take,DM];rcases DE j i with q|q
  .have:=hg j i () hi q;omega
  .have:j=i:=()
   subst this;omega
 let h2:(xs.drop (i+1)).filter (λb=>decide (xs[i]<b))=xs.drop (i+1):=by
  rw[List.filter_eq_self];intro b hb;let(j,hj,rfl):=Dm hb;rw[FX]at hj;rw[List.getElem_drop,DM];exact hg i (i+1+j) hi () ()
 let key:∀f:Int->Bool,(xs.take (i+1)).filter f=[]->(xs.drop (i+1)).filter f=xs.drop (i+1)->xs.filter f=xs.drop (i+1):=λf a b=>by
  have:=List.filter_append (p:=f) (xs.take (i+1)) (xs.drop (i+1));rw[List.take_append_drop,a,b]at this;simpa using this
 calc key _ h1 h2
def De(xs:Ye)(k:Nat):List (List Int):=(List.range k).flatMap λi=>(xs.drop (i+1)).map λb=>[xs.getD i 0,b]
def YJ{xs:Ye}(h:xs.Pairwise (· < ·)):De xs xs.length=zZ xs:=by
 let e:zZ xs=(List.range xs.length).flatMap λi=>(xs.filter λb=>decide (xs.getD i 0<b)).map λb=>[xs.getD i 0,b]:=by
  erw[zZ];have:xs=(List.range xs.length).map λi=>xs.getD i 0:=by
   have:=TJ (λx:Int=>x) 0 xs;simpa using this.symm
  conv=>lhs;arg 2;rw[this]
  rw[List.flatMap_map]
 rw[e];erw[De];have:∀i∈List.range xs.length,(xs.drop (i+1)).map (λb=>[xs.getD i 0,b])=(xs.filter λb=>decide (xs.getD i 0<b)).map λb=>[xs.getD i 0,b]:=λi hi=>by
  let hi':=A9.mp hi;rw[<-iV h hi'];congr 2;funext b;rw[Bn,AO hi'];rfl
 rw[List.flatMap_def,List.flatMap_def,List.map_congr_left this]
def aO(xs:Ye):∀k,(De xs k).length<=k*xs.length:=by
 intro k;induction k with
 |zero=>simp[De]
 |succ k ih=>
  unfold De at ih ⊢;rw[List.range_succ,List.flatMap_append,AW];simp only[Eb,List.flatMap_nil,BI,AG,FX];rw[Nat.add_mul];omega
def mM{xs:List D}(hk:k<=xs.length):L3.B0 xs (some (k:Int)) none=xs.drop k:=by
 let ha:HT.sIx xs.length 0 (some (k:Int))=k:=by rw[HT.SG];omega
 erw[L3.B0];rw[ha,show HT.sIx xs.length xs.length none=xs.length from rfl];calc List.take_of_length_le (by simp)
def Tf(n:Nat)(ps:Ya):D.unds n (ps.map tI)=true:=by
 induction ps with
 |nil=>rfl
 |cons p r ih=>rw[AU];erw[D.unds];rw[ih,show D.und n (tI p)=true from Ct p];rfl
def RF(hj:M[j]?=some (.lst (xs.map D.int)))(hx:xs.Pairwise (· < ·))(hz:xs.length<=100):
  Ok (GS [.ref j] M) λd M'=>d=.ref M.length/\∃us:Mem,M'=M ++ .lst ((zZ xs).map tI)::us/\∀u∈us,MO.und 0 u=true:=by
 let hjl:=(AI.mp hj).1;erw[GS];rw[zn];erw[KU];rw[zM,za];calc zE (M:=M) (a:=.fl []) (Q2 rfl (by simp)) (Bv ?_);rw[zS];let up:∀us:Mem,(M++us)[j]?=some (.lst (xs.map D.int)):=λus=>by rw[AM hjl];exact hj
 rw[zM,Cg];let el:=Dc (f:=zC 0) (Y:=[some (.ref j),some (.ref M.length),none,none]) (M:=M++[.lst []]) (x:=.dat (.ref j)) rfl (zy (up _));rw[AG]at el;calc#[_,_,_,Ex el () (),?_];rw[show((xs.length:Int)).toNat=xs.length by omega];refine Km (n:=xs.length) (I:=λk Y M'=>(∃y2 y3,Y=[some (.ref j),some (.ref M.length),y2,y3])/\∃us:Mem,M'=M ++ .lst ((De xs k).map tI)::us/\∀u∈us,MO.und 0 u=true) ?_ ?_ _ _ #[#[_,_,rfl],[],by simp[De],(λ_ h=>by ext h)]
 .rintro k Y M' hk ⟨⟨y2,y3,rfl⟩,us,rfl,hu⟩;refine#[_,rfl,?_];generalize hA:M++MO.lst ((De xs k).map tI)::us=A;let a0:A[j]?=some (.lst (xs.map D.int)):=by rw[<-hA];exact up _
  let a1:A[M.length]?=some (.lst ((De xs k).map tI)):=by rw[<-hA];simp
  let al:M.length<A.length:=(AI.mp a1).1;rw[GF];let esl:fSl (zC 0) (Cz (fOp BA (zC 2) (fC (.int 1)))) DR [some (.ref j),some (.ref M.length),some (.int (k:Int)),y3] A=some (.fl ((xs.drop (k+1)).map D.int),A):=by
   calc zR (RI.mpr (zE (a:=.dat (.ref j)) (M:=A) rfl (Rz.mpr (zE (a:=.dat (.int ((k+1:Nat):Int))) (M:=A) rfl (SU.mpr (Ud.mpr ?_))))));rw[QB (Dv a0) rfl,mM (by rw[AG];omega),List.map_drop];exact#[rfl,rfl]
  let ec:=EY (own:=[3]) (g:=gN 3) (te:=A1 (zD (toD (fOp kIx (zC 0) (zC 2))) (zD (toD (zC 3)) zG))) (Y:=[some (.ref j),some (.ref M.length),some (.int (k:Int)),y3]) (xs.drop (k+1)) D.int (λb=>tI [xs.getD k 0,b]) (gZ esl) trivial (by rw[FX];omega) λb _=>#[_,rfl,J3 (zU (zL rfl rfl (BZ (zy a0) (N3 (by rw[Au,AO hk,Bn,AO hk];rfl)))) (zY rfl)) (by simp)];let htl:=aO xs k;let hmul:k*xs.length<=100*100:=FN () hz;calc F0.mpr (zE rfl #[#[_,Dv a1],C2.mpr (Bp.mpr (zE ec (Bv ?_)))]);rw[EC];calc zE (Xu (by rw[AM al];calc a1) (Ci _ _) (by rw[AG,AG,FX];omega)) ?_;refine#[#[_,_,rfl],us++[.lst ((xs.drop (k+1)).map λb=>tI [xs.getD k 0,b])],?_,λu hu'=>?_]
  .rw[<-hA,Bx,List.set_append_right _ _ (AF _)];have:(De xs (k+1)).map tI=(De xs k).map tI++(xs.drop (k+1)).map λb=>tI [xs.getD k 0,b]:=by
    erw[De];rw[List.range_succ,List.flatMap_append,CD];simp[Af,Function.comp_def]
   rw[this];simp
  .rcases Ae.mp hu' with q|q
   .exact hu u q
   .rw[Ac]at q;subst q;rw[show(xs.drop (k+1)).map (λb=>tI [xs.getD k 0,b])=((xs.drop (k+1)).map λb=>[xs.getD k 0,b]).map tI by rw[Af];rfl];exact Tf 0 _
 .rintro Y M' ⟨⟨y2,y3,rfl⟩,us,rfl,hu⟩;rw[zS];calc zv rfl #[rfl,us,by rw[YJ hx],hu]
def Dp:FS:=(zW (sIf (Bl (C1 (tst (zP HA (zD (toD (zC 1)) (zD (toD (fB An (zQ (zC 0) ze))) zG))))) (tst (fOp kEq (fB An (zQ (zC 1) ze)) (fC (.int 0))))) (zq (fC (.bl false))) Ao)
  (zq (fB Eg (zQ (zu [2,3] (Iv (zD (toD (zC 1)) (zD (toD (fSl (zC 1) (Cz (fC (.int 1))) DR)) zG))) (C0 2 3) zc (fOp kLt (zC 2) (zC 3))) ze))))
def Cn:FF:=AV 4 Dp
def cS{xs:List D}{lo hi:Ys}{a b:Nat}(ha:HT.sIx xs.length 0 lo=a)(hb:HT.sIx xs.length xs.length hi=b):L3.B0 xs lo hi=(xs.drop a).take (b-a):=by
 erw[L3.B0];rw[ha,hb]
def iS(n:Nat)(d:Nat):HT.sIx n d none=d:=rfl
def Q9(h:∀x∈c,0<=x/\x<R):tbD R (tI c)=true:=by
 show List.all _ _=true;rw[Am];intro d hd;let(i,hi,rfl):=AL.mp hd;have:=h i hi;simp[DH,this.1,this.2]
def TV(hz:zA.length<=1000)(hf:f Y M=some (.dat (.int zA.length),M)):HS f Y M=some (.fl ((zJ zA).map D.int),M):=by
 calc zR (V3 hf () () #[?_,rfl]);erw[upD,zJ];rw[Af,show(zA.length:Int).toNat=zA.length by omega];rfl
theorem R6:∀{ds:List D},ds.all (DH n)=true->∃xs:List Int,ds=xs.map D.int/\∀x∈xs,0<=x/\x<n
 |[],_=>#[[],rfl,λ_ h=>by ext h]
 |d::ds,h=>by
  rw[List.all_cons,BB]at h;let(xs,rfl,hx):=R6 h.2;let h1:=h.1;cases d with
  |int i=>
   simp only[DH,BB,DM]at h1;exact#[i::xs,rfl,λx hm=>by
    rcases AK.mp hm with z|z
    .subst z;exact h1
    .exact hx x z]
  |_=>ext h1
def Zk:tbD n d=true↔∃xs:List Int,d=tI xs/\∀x∈xs,0<=x/\x<n:=by
 constructor
 .intro h;cases d with
  |tup ds=>
   let(xs,rfl,hx):=R6 (show ds.all (DH n)=true from h);calc#[xs,rfl,hx]
  |_=>ext h
 .rintro⟨xs,rfl,h⟩;calc Q9 h
def EK(wf:∀(j:Nat) u,M[j]?=some u->MO.und M.length u=true)(hd:D.und 0 d=true)(h:Ok (m ds M) λd' M'=>d'=d/\∃us,M'=M++us):F8 m ds M=some (d,M):=by
 calc zR (Ue (Ok.mono h ?_));rintro d' M' ⟨rfl,us,rfl⟩;refine#[#[Kt (BV _) hd,by simp,λj u hj e=>?_],rfl,by simp];rw[AM hj]at e;calc wf j u e
theorem O8:∀{S:Ye},((S.zip (S.drop 1)).map λq=>decide (q.1<q.2)).all id=true↔S.Pairwise (· < ·)
 |[]=>by simp
 |[a]=>by simp
 |a::b::r=>by
  let ih:=O8 (S:=b::r);let e:((a::b::r).zip ((a::b::r).drop 1)).map (λq=>decide (q.1<q.2))=decide (a<b)::((b::r).zip ((b::r).drop 1)).map (λq=>decide (q.1<q.2)):=rfl;rw[e,List.all_cons,BB,ih];constructor
  .rintro⟨h1,h2⟩;let h1:a<b:=Cs h1;refine Dd.mpr #[λc hc=>?_,h2];rcases AK.mp hc with z|z
   .rw[z];exact h1
   .exact Int.lt_trans h1 ((Dd.mp h2).1 c z)
  .intro h;let(h1,h2):=Dd.mp h;calc#[Az (h1 b AR),h2]
def JD(hd:Vd M d):∃b,Cn [mD zA,d] M=some (.bl b,M)/\(b=true↔∃S,d=tI S/\IsS zA S):=by
 let e:=Rc (n:=zA.length) hd;cases h:tbD zA.length d with
 |false=>
  refine#[false,?_,(λz=>by ext z),?_]
  .refine zR ?_;erw[Cn];rw[zn];erw[Dp];rw[h]at e;exact HV (Zw (Lk (zV (zU (d:=d) rfl (zY (IL rfl))) e))) (zv rfl #[rfl,rfl])
  .rintro⟨S,rfl,s⟩;rw[Q9 s.mem]at h;ext h
 |true=>
  rw[h]at e;let(S,rfl,hS):=Zk.mp h;let hl:S.length<=100000:=by
   let hh:Vd M (.tup (S.map D.int)):=hd;erw[Vd]at hh;simpa using hh.1
  by_cases s0:S.length=0
  .refine#[false,?_,(λz=>by ext z),?_]
   .refine zR ?_;erw[Cn];rw[zn];erw[Dp];calc HV (IS (Lk (zV (zU rfl (zY (IL rfl))) e)) (zr (zL (T5 rfl) rfl (eqE.trans ?_)))) (zv rfl #[rfl,rfl]);rw[Az ()]
   .rintro⟨S',e',s⟩;have:S=S':=K4 (D.tup.inj e');subst this;have:=s.n0;omega
  .refine#[((S.zip (S.drop 1)).map λq=>decide (q.1<q.2)).all id,?_,?_]
   .refine zR ?_;erw[Cn];rw[zn];erw[Dp];refine Fs (IS (Lk (zV (zU rfl (zY (IL rfl))) e)) (zr (zL (T5 rfl) rfl (eqE.trans ?_)))) ?_
    .rw[Aw ()]
    let c1:L3.B0 (S.map D.int) (some 1) none=(S.drop 1).map D.int:=by
     rw[cS (by show HT.sIx _ _ (some ((1:Nat):Int))=1;rw[HT.SG,AG];omega) (by rw[iS,AG]),List.map_drop];exact List.take_of_length_le (by simp)
    let hi:Iv (zD (toD (zC 1)) (zD (toD (fSl (zC 1) (Cz (fC (.int 1))) DR)) zG)) [some (mD zA),some (tI S),none,none] M=some ((S.zip (S.drop 1)).map (λq=>D.tup [.int q.1,.int q.2]),none,M):=by
     let s1:=slE (f:=zC 1) (Y:=[some (mD zA),some (tI S),none,none]) (M:=M) (xs:=S.map D.int) rfl (oS (f:=fC (.int 1)) rfl) (rfl:DR _ M=some (none,M));rw[c1]at s1;have:=zU (f:=zC 1) (Y:=[some (mD zA),some (tI S),none,none]) rfl (zY s1);erw[Iv];rw[this];show some ((((S.map D.int).zip ((S.drop 1).map D.int)).map λq=>D.tup [q.1,q.2]),none,M)=_;congr 2;rw[List.zip_map,Af];rfl
    calc zv (HN ?_) #[rfl,rfl];rw[Af];exact EY (S.zip (S.drop 1)) (λq=>D.tup [.int q.1,.int q.2]) (λq=> .bl (decide (q.1<q.2))) hi trivial (by rw[List.length_zip];omega) λq _=>#[_,rfl,zL rfl rfl rfl]
   .rw[O8];constructor
    .exactλh=>#[S,rfl,#[h,(),hS]]
    .rintro⟨S',e',s⟩;have:S=S':=K4 (D.tup.inj e');subst this;calc s.pw
end Lac
namespace Lae
open L2 L3 ST Law
open Lac (dT BC zF Ad BW Bg)
section
variable{zA:Ya}{l:Nat}{R:Ye}
def Wu(hx:0<xs.length):L3.B0 xs none (some (-1))=xs.take (xs.length-1):=by
 erw[L3.B0];let h0:HT.sIx xs.length 0 none=0:=rfl;let h1:HT.sIx xs.length xs.length (some (-1))=xs.length-1:=by
  erw[HT.sIx];simp;omega
 rw[h0,h1,List.drop_zero,Nat.sub_zero]
end
open Lac (dT BC zF Ad BW Bg C6 Cn Dp JD)
def KI:FS:=(zq (Co (DP "tuple" (zC 1)) (fB Eg (zQ (zu [2] (AN (zC 1)) (gN 2) zc (zP Cn (zD (toD (zC 0)) (zD (toD (zC 2)) zG)))) ze))))
def Fn:FF:=AV 3 KI
def Kg:FS:=(zW (zw 1 IE)
  (zW (BO (D8 (zC 0)) (C0 2 3) (BO (AN (zC 3)) (gN 4) (sIf (tst (fOp (As true) (zC 4) (zC 1))) (Bd (zC 2) (zC 1) (zC 4)) Ao)))
  (zq (zC 1))))
def HC:FF:=AV 5 Kg
def IW:FS:=(zW (zw 4 (zu [5] (BJ (zD (toD (fB An (zQ (fOp kIx (zC 0) (fC (.int 0))) ze))) zG)) (gN 5) zc (zP Cu (zD (toD (zC 0)) (zD (toD (zC 1)) (zD (toD (zC 5)) zG))))))
  (zq (fB Eg (zQ (zu [6] (AN (zC 4)) (gN 6) zc (Co (fOp (As false) (zC 6) (zC 2)) (fOp kLe (fOp BE (zC 2) (zC 6)) (zC 3)))) ze))))
def Fv:FF:=F8 (AV 7 IW)
def Ii:FS:=(zW (sIf (Bl (C1 (tst (DP "tuple" (zC 2)))) (C1 (tst (fB Eg (zQ (zu [4] (AN (zC 2)) (gN 4) zc (zP Fn (zD (toD (zC 0)) (zD (toD (zC 4)) zG)))) ze))))) (zq (fC (.bl false))) Ao)
  (zW (sIf (tst (fOp kEq (fB An (zQ (zC 2) ze)) (fC (.int 0)))) (zq (FY (zC 3))) Ao)
  (zW (sIf (tst (fOp (EH true) (zC 1) (fOp kIx (zC 2) (fC (.int 0))))) (zq (fC (.bl false))) Ao)
  (zW (zw 5 (zP HC (zD (toD (zC 2)) zG)))
  (zW (zw 6 (vIf (tst (zC 3)) (zC 2) (fSl (zC 2) DR (Cz (JB (fC (.int 1)))))))
  (zq (fB Eg (zQ (EE [8,4,7] [7] (D8 (zC 6)) (C0 8 4) zc (AN (zC 4)) (gN 7) zc (zP Fv (zD (toD (zC 0)) (zD (toD (zC 7)) (zD (toD (zC 5)) (zD (toD (fOp BA (zC 8) (fC (.int 1)))) zG)))))) ze))))))))
def Gj:FF:=F8 (AV 9 Ii)
def dc(p:Prop):Bool:=@decide p (Classical.propDecidable p)
def E9(h:p):dc p=true:=@Az p (Classical.propDecidable p) h
def Hl(h:¬ p):dc p=false:=@Aw p (Classical.propDecidable p) h
def l3(h:dc p=true):p:=@Cs p (Classical.propDecidable p) h
def setB(zA:Ya)(d:D):Bool:=dc (∃S,d=tI S/\IsS zA S)
def WI(hd:Vd M d):Cn [mD zA,d] M=some (.bl (setB zA d),M):=by
 let(b,e,hb):=JD hd;rw[e];have:b=setB zA d:=by
  erw[setB];cases b with
  |true=>rw[E9 (hb.mp rfl)]
  |false=>rw[Hl (λz=>by have:=hb.mpr z;ext this)]
 rw[this]
abbrev lvT(L:Ya):D:=.tup (L.map tI)
abbrev shT(LL:List (List (List Int))):D:=.tup (LL.map lvT)
theorem R7:∀{ds:List D},(ds.map (setB zA)).all id=true->∃L:List (List Int),ds=L.map tI/\∀S∈L,IsS zA S
 |[],_=>#[[],rfl,λ_ h=>by ext h]
 |d::ds,h=>by
  rw[AU,List.all_cons,BB]at h;let(L,rfl,hL):=R7 h.2;let h1:setB zA d=true:=h.1;erw[setB]at h1;let(S,rfl,s):=l3 h1;exact#[S::L,rfl,λT hT=>by
   rcases AK.mp hT with z|z
   .rw[z];exact s
   .exact hL T z]
def Zl{L:Ya}(h:∀S∈L,IsS zA S):((L.map tI).map (setB zA)).all id=true:=by
 rw[Am];intro b hb;rw[Af]at hb;let(S,hS,rfl):=AL.mp hb;calc E9 #[S,rfl,h S hS]
def gA(zA:Ya):D->Prop:=λd=>∃L:List (List Int),d=lvT L/\∀S∈L,IsS zA S
def Gi(zA:Ya)(d:D):Bool:=dc (gA zA d)
def lC(hd:Vd M d):Fn [mD zA,d] M=some (.bl (Gi zA d),M):=by
 erw[Fn,KI];calc Fy ?_;let(t,e,q,_):=hd.ty;cases d with
 |tup ds=>
  let hh:Vd M (.tup ds):=hd;erw[Vd]at hh;have:Gi zA (.tup ds)=(true&&(ds.map (setB zA)).all id):=by
   rw[Bool.true_and];erw[Gi];cases hb:(ds.map (setB zA)).all id with
   |true=>
    let(L,rfl,hL):=R7 hb;calc E9 #[L,rfl,hL]
   |false=>
    calc Hl ?_;rintro⟨L,e,hL⟩;ext e;rw[Zl hL]at hb;ext hb
  rw[this];refine DA (by rw[GV rfl e,q];rfl) λ_=>HN ?_;rw[Af];exact OF (λx=> .bl (setB zA x)) rfl hh.1 λx hx=>#[_,rfl,zV (zU rfl (zY rfl)) (WI (hh.2.mem x hx))]
 |_=>
  refine(DA (a:=false) (b:=true) (by rw[GV rfl e,q];rfl) λz=>by ext z).trans ?_;erw[Gi];rw[Hl (by rintro⟨L,z,_⟩;ext z)];rfl
def plc(LL:List (List (List Int)))(S:Ye):Option Nat:=LL.findIdx? λL=>decide (S∈L)
def HR(done:List (List (List Int)))(part:Ya)(S:Ye):plc (done++[part]) S=match plc done S with|some k=>some k|none=>if S∈part then some done.length else none:=by
 erw[plc];rw[List.findIdx?_append];cases done.findIdx? (λL=>decide (S∈L))with
 |some k=>rfl
 |none=>
  by_cases h:S∈part
  .simp[h]
  .simp[h]
structure Pl(zA:Ya)(P:List (List Int×D))(LL:List (List (List Int))):Prop where
 lk:∀S,zF P S=(plc LL S).map λk=>D.int (k:Nat)
 nd:(P.map (·.1)).Nodup
 st:∀S∈P.map (·.1),IsS zA S
def Pl.open_(h:Pl zA P LL):Pl zA P (LL++[[]]) :=
 #[λS=>by rw[h.lk,HR];cases plc LL S <;> rfl,h.nd,h.st]
def Pl.add{zA:Ya}{P:List (List Int×D)}{done:List (List (List Int))}{part:Ya}(h:Pl zA P (done++[part])){S:Ye}(s:IsS zA S):
  ((zF P S).isSome=true->Pl zA P (done++[part++[S]]))/\((zF P S).isSome=false->Pl zA (P++[(S,.int (done.length:Nat))]) (done++[part++[S]])):=by
 let hl:=h.lk S;rw[HR]at hl;refine#[λhs=>#[λT=>?_,h.nd,h.st],λhs=>#[λT=>?_,?_,λT hT=>?_]]
 .rw[h.lk,HR,HR];cases hp:plc done T with
  |some k=>rfl
  |none=>
   by_cases ht:T∈part
   .simp[ht]
   .by_cases hT:T=S
    .subst hT;rw[hp]at hl;rw[hl]at hs;simp[ht]at hs
    .simp[ht,hT]
 .have hn:zF P S=none:=by cases e:zF P S with|none=>rfl|some d=>rw[e]at hs;ext hs
  let hput:Ad P S (.int (done.length:Nat))=P++[(S,.int (done.length:Nat))]:=by erw[Ad];rw[hn]
  rw[<-hput,Lac.GW,h.lk,HR,HR];rw[hn]at hl;by_cases hT:S=T
  .subst hT;rw[AB rfl];cases hp:plc done S with
   |some k=>rw[hp]at hl;ext hl
   |none=>simp
  .rw[AE hT];cases plc done T with
   |some k=>rfl
   |none=>
    let hT':¬ T=S:=λz=>hT z.symm;simp[hT']
 .rw[CD,DN];refine#[h.nd,by simp,λa ha b hb z=>?_];let e1:=K8 .non P S;rw[hs]at e1;let e2:=of_decide_eq_false e1.symm;refine e2 ?_;let hb':b=S:=by simpa using hb
  rw[<-hb',<-z];exact ha
 .rw[CD]at hT;rcases Ae.mp hT with z|z
  .exact h.st T z
  .rw[Ac.mp z];calc s
section
variable{zA:Ya}{l:Nat}
def QU:((List.range (x::xs).length).zip (x::xs)).map (λq=>D.tup [.int ((n+q.1:Nat):Int),q.2])=D.tup [.int (n:Nat),x]::((List.range xs.length).zip xs).map λq=>D.tup [.int (((n+1)+q.1:Nat):Int),q.2]:=by
 rw[Bw,List.range_succ_eq_map,List.zip_cons_cons,AU,List.zip_map_left,Af];congr 1;apply List.map_congr_left;intro q _;show D.tup [.int ((n+(q.1+1):Nat):Int),q.2]=D.tup [.int (((n+1)+q.1:Nat):Int),q.2];rw[show n+(q.1+1)=(n+1)+q.1 by omega]
abbrev ID(n:Nat)(xs:List D):List D:=((List.range xs.length).zip xs).map λq=>D.tup [.int ((n+q.1:Nat):Int),q.2]
def VD(xs:List D):Dq xs=ID 0 xs:=by
 erw[Dq,ID];apply List.map_congr_left;intro q _;rw[Nat.zero_add]
def X3(h9:zA.length<=9)(hs:∀L∈LL,∀S∈L,IsS zA S):
  Ok (HC [shT LL] M) λd M'=>∃P,d=.ref M.length/\M'=M++[dT P]/\Pl zA P LL:=by
 erw[HC];rw[zn];erw[Kg];rw[zM,za];refine zE rfl ?_;rw[zO,zS];rw[zM,Cg];let ei:D8 (zC 0) [some (shT LL),some (.ref M.length),none,none,none] (M++[.dicT []])=some (ID 0 (LL.map lvT),none,M++[.dicT []]):=by
  rw[<-VD];rfl
 calc#[_,_,_,ei,?_];refine Cy (I:=λr Y M'=>(∃y2 y3 y4,Y=[some (shT LL),some (.ref M.length),y2,y3,y4])/\∃(done rest:List (List (List Int)))(P:List (List Int×D)),r=ID done.length (rest.map lvT)/\done++rest=LL/\M'=M++[dT P]/\Pl zA P done) ?_ ?_ _ _ _ #[#[_,_,_,rfl],[],LL,[],rfl,rfl,rfl,#[λS=>rfl,by simp,λ_ h=>by ext h]]
 .rintro x r Y M' ⟨⟨y2,y3,y4,rfl⟩,done,rest,P,er,hd,rfl,pl⟩;cases rest with
  |nil=>ext er
  |cons L rest=>
   rw[AU]at er;erw[ID]at er;rw[QU]at er;let(rfl,rfl):=CF er;let hL:L∈LL:=by rw[<-hd];simp
   calc#[B4,_,rfl,?_];rw[Cg];calc#[_,_,_,E3 rfl zb,?_];refine Cy (I:=λr Y M'=>(∃y4,Y=[some (shT LL),some (.ref M.length),some (.int (done.length:Nat)),some (lvT L),y4])/\∃(part rest:Ya)(P:List (List Int×D)),r=rest.map tI/\part++rest=L/\M'=M++[dT P]/\Pl zA P (done++[part])) ?_ ?_ _ _ _ #[#[_,rfl],[],L,P,rfl,rfl,rfl,pl.open_]
   .rintro x r Y M' ⟨⟨y4,rfl⟩,part,rs,P,er,hp,rfl,pl⟩;cases rs with
    |nil=>ext er
    |cons S rs=>
     let(rfl,rfl):=CF er;let s:=hs L hL S (by rw[<-hp];simp);calc#[B4,_,rfl,?_];let eP:(M++[dT P])[M.length]?=some (dT P):=by simp
     rw[CH];calc zE (zr (zL rfl rfl (BW eP))) ?_;let(p1,p2):=pl.add s;cases hb:(zF P S).isSome with
     |true=>
      rw[AE (by simp),Cj];calc#[#[_,rfl],part++[S],rs,P,rfl,by rw[<-hp];simp,rfl,p1 hb]
     |false=>
      rw[AB (by simp)];let hl:=IM pl.nd pl.st h9;rw[AG]at hl;calc Ho rfl rfl rfl (Bg eP ()) ?_;let hn:zF P S=none:=by cases e:zF P S with|none=>rfl|some d=>rw[e]at hb;ext hb
      let hput:Ad P S (.int (done.length:Nat))=P++[(S,.int (done.length:Nat))]:=by erw[Ad];rw[hn]
      calc#[#[_,rfl],part++[S],rs,_,rfl,by rw[<-hp];simp,?_,p2 hb];rw[hput,List.set_append_right _ _ (AF _)];simp
   .rintro Y M' ⟨⟨y4,rfl⟩,part,rs,P,er,hp,rfl,pl⟩;have:rs=[]:=by cases rs with|nil=>rfl|cons _ _=>ext er
    subst this;rw[BI]at hp;subst hp;exact#[B4,#[_,_,_,rfl],done++[part],rest,P,by rw[AW];rfl,by rw[<-hd];simp,rfl,pl]
 .rintro Y M' ⟨⟨y2,y3,y4,rfl⟩,done,rest,P,er,hd,rfl,pl⟩;have:rest=[]:=by
   cases rest with
   |nil=>rfl
   |cons L rest=>rw[AU]at er;erw[ID]at er;rw[QU]at er;ext er
  subst this;rw[BI]at hd;subst hd;calc#[B4,?_];rw[zS];calc zv rfl #[P,rfl,rfl,pl]
def ER(zA:Ya)(l:Nat)(LL:List (List (List Int)))(S:Ye)(last:Int):Bool:=(Av l).all λg=>match plc LL (setR zA S g)with|some k=>decide ((k:Int)<=last)|none=>false
def U9(m:IsM zA l)(h9:zA.length<=9)(hl9:l<=1000)(pl:Pl zA P LL)(s:IsS zA S)(eP:M[j]?=some (dT P)):
  Ok (AV 7 IW [mD zA,tI S,.ref j,.int last] M) λd M'=>d=.bl (ER zA l LL S last)/\∃us,M'=M++us:=by
 rw[zn];erw[IW];let hjl:j<M.length:=(AI.mp eP).1;let ec:zu [5] (BJ (zD (toD (fB An (zQ (fOp kIx (zC 0) (fC (.int 0))) ze))) zG)) (gN 5) zc (zP Cu (zD (toD (zC 0)) (zD (toD (zC 1)) (zD (toD (zC 5)) zG)))) [some (mD zA),some (tI S),some (.ref j),some (.int last),none,none,none] M=some (.fl ((Av l).map λg=>tI (setR zA S g)),M):=by
  refine EY (gd:=none) (Av l) D.int (λg=>tI (setR zA S g)) ?_ trivial (by erw[Av];simp;omega) λg hg=>#[_,rfl,zV (zU rfl (zU rfl (zY rfl))) (HE m () s (Jx hg).1 (Jx hg).2)];rw[Ex (Jj m rfl) () (),FU,<-Jr];erw[Av];rw[Af];rfl
 rw[zM,za];calc zE ec (Bv ?_);rw[zS];let eg:(M++[MO.lst ((Av l).map λg=>tI (setR zA S g))])[M.length]?=some (.lst ((Av l).map λg=>tI (setR zA S g))):=Ci _ _;let eP':(M++[MO.lst ((Av l).map λg=>tI (setR zA S g))])[j]?=some (dT P):=by rw[AM hjl];exact eP
 let hM:∃us,M++[MO.lst ((Av l).map λg=>tI (setR zA S g))]=M++us:=#[_,rfl];generalize M++[MO.lst ((Av l).map λg=>tI (setR zA S g))]=M1 at eg eP' hM;show OkS (zq _ [some (mD zA),some (tI S),some (.ref j),some (.int last),some (.ref M.length),none,none] M1) _;let e2:zu [6] (AN (zC 4)) (gN 6) zc (Co (fOp (As false) (zC 6) (zC 2)) (fOp kLe (fOp BE (zC 2) (zC 6)) (zC 3))) [some (mD zA),some (tI S),some (.ref j),some (.int last),some (.ref M.length),none,none] M1=some (.fl ((Av l).map λg=> .bl (match plc LL (setR zA S g)with|some k=>decide ((k:Int)<=last)|none=>false)),M1):=by
  refine EY (Av l) (λg=>tI (setR zA S g)) _ (E3 (x:=.dat (.ref M.length)) rfl (zy eg)) (.inl eg) (by erw[Av];simp;omega) λg hg=>#[_,rfl,?_];let hl:=pl.lk (setR zA S g);let e3:=BW (neg:=false) (g:=setR zA S g) eP';cases hp:plc LL (setR zA S g)with
  |none=>
   rw[hp]at hl;let hl':zF P (setR zA S g)=none:=hl;rw[hl']at e3;exact DA (a:=false) (b:=true) (zL rfl rfl e3) λz=>by ext z
  |some k=>
   rw[hp]at hl;let hl':zF P (setR zA S g)=some (.int (k:Nat)):=hl;rw[hl']at e3;let e4:=DA (a:=true) (b:=decide ((k:Int)<=last)) (f:=fOp (As false) (zC 6) (zC 2)) (g:=fOp kLe (fOp BE (zC 2) (zC 6)) (zC 3)) (Y:=(Al [6] [some (mD zA),some (tI S),some (.ref j),some (.int last),some (.ref M.length),none,none]).set 6 (some (tI (setR zA S g)))) (M:=M1) (zL rfl rfl e3) λ_=>zL (zL rfl rfl (C6 eP' hl')) rfl (zR (MU.mpr #[rfl,rfl]));rw[Bool.true_and]at e4;exact e4
 rw[show((Av l).map λg=>D.bl (match plc LL (setR zA S g)with|some k=>decide ((k:Int)<=last)|none=>false))=((Av l).map λg=>(match plc LL (setR zA S g)with|some k=>decide ((k:Int)<=last)|none=>false)).map D.bl by rw[Af];rfl]at e2;calc zv (HN e2) #[?_,hM];erw[ER];rw[J8]
def dN(m:IsM zA l)(h9:zA.length<=9)(hl9:l<=1000)(pl:Pl zA P LL)(s:IsS zA S)(wf:∀(j:Nat) u,M[j]?=some u->MO.und M.length u=true)(eP:M[j]?=some (dT P)):
  Fv [mD zA,tI S,.ref j,.int last] M=some (.bl (ER zA l LL S last),M):=by
 erw[Fv];calc Lac.EK wf rfl (U9 m h9 hl9 pl s eP)
end
open Lac (dT BC zF Ad BW Bg C6 Cn Dp JD EK Hi)
def pU(h:n<=16000000):n<=sizeLine:=Ab h ()
def TK{α β:Type}(as:List α)(enc:α->D)(bs:α->List β)(enc2:β->D)(out:α->β->D)(B:Nat)
  (hi:fi Y M=some (as.map enc,none,M)) (hB:∀a∈as,(bs a).length<=B) (hz:as.length*B<=16000000)
  (he:∀a∈as,∃σ1,fg (enc a) (Al own Y)=some σ1/\fi2 σ1 M=some ((bs a).map enc2,none,M)/\∀b∈bs a,∃σ2,fg2 (enc2 b) (Al own2 σ1)=some σ2/\te σ2 M=some (.dat (out a b),M)):
  EE own own2 fi fg zc fi2 fg2 zc te Y M=some (.fl (as.flatMap λa=>(bs a).map (out a)),M):=by
 let key:∀(r:List α)(acc:List D),(∀a∈r,a∈as)->acc.length+r.length*B<=16000000->DQ fg zc fi2 own2 fg2 zc te (Al own Y) (as.map enc) none (r.map enc) acc M=some (acc++r.flatMap λa=>(bs a).map (out a),M):=by
  intro r;induction r with
  |nil=>
   intro acc _ _;rw[List.map_nil];erw[DQ];rw[AB (show BG none (as.map enc) M from trivial)];simp
  |cons a r ih=>
   intro acc hs hl;let ha:=hs a AR;let(σ1,e1,e2,e3):=he a ha;let hb:=hB a ha;rw[Bw,Nat.add_mul]at hl;rw[AU];erw[DQ];rw[AB (show BG none (as.map enc) M from trivial),e1];symm;rw[show zc σ1 M=some (true,M)from rfl];symm;rw[e2];symm;rw[AB (pU (by rw[AG];omega)),Hi enc2 (out a) (λ_=>true) (bs a) (λb hb=>let⟨σ2,q1,q2⟩:=e3 b hb;#[σ2,q1,rfl,λ_=>q2])];symm;rw[ih _ (λb hb=>hs b (Aa _ hb)) (by rw[AW,AG];have:=Gx (λ_=>true) (bs a);omega)];rw[Eb,Bx,List.filter_eq_self.mpr (λ_ _=>rfl)]
 erw[EE];rw[hi];symm;rw[key as [] (λ_ h=>h) (~~~hz)];simp
def eG(a:Ye):(a.map D.int).all (zm 0)=true:=by
 rw[Am];intro x hx;let(i,_,rfl):=AL.mp hx;rfl
def Ij(p:Ye):zm 1 (tI p)=true:=eG p
def Zf(h:tI p=tI q):p=q:=(List.map_inj_right (λ_ _ h=>D.int.inj h)).mp (D.tup.inj h)
def J7{ps:Ya}(h:A7 M y=some (ps.map tI)):EH neg (.dat (tI p)) y M=some (.dat (.bl (nb neg (decide (p∈ps)))),M):=by
 let ht:(ps.map tI).all (zm 1)=true:=by
  rw[Am];intro x hx;let(q,_,rfl):=AL.mp hx;exact Ij q
 let he:((ps.map tI).any λe=>Aq 1 e (tI p))=decide (p∈ps):=by
  rw[Ew,List.any_eq_true,decide_eq_true_iff];constructor
  .rintro⟨x,hx,e⟩;let(q,hq,rfl):=AL.mp hx;have:=oP 1 _ _ (Ij q) (Ij p) e;rw[<-Zf this];exact hq
  .intro hp;exact#[tI p,AL.mpr #[p,hp,rfl],Jf 1 _ (Ij p)]
 erw[EH];rw[h];symm;rw[Ij,ht,he];rfl
def G3(zA:Ya)(l:Nat)(LL:List (List (List Int))):Nat->List (List (List Int))->Bool
 |_,[]=>true
 |n,L::r=>(L.all λS=>ER zA l LL S ((n:Int)+1))&&G3 zA l LL (n+1) r
def shB(zA:Ya)(l:Nat)(R:Ye)(LL:List (List (List Int)))(closed:Bool):Bool:=match LL with
 |[]=> !closed
 |L0::_=>decide (R∈L0)&&G3 zA l LL 0 (if closed then LL else LL.take (LL.length-1))
def LB(zA:Ya)(LL:List (List (List Int))):Prop:=(∀L∈LL,∀S∈L,IsS zA S)/\LL.length<=2000/\∀L∈LL,L.length<=8000
section
variable{zA:Ya}{l:Nat}{R:Ye}
theorem PH(LL:List (List (List Int))):∀(n:Nat)(as:List (List (List Int))),((((List.range as.length).zip as).flatMap λq=>q.2.map λS=>ER zA l LL S (((n+q.1:Nat):Int)+1)).all id)=G3 zA l LL n as
 |n,[]=>rfl
 |n,L::r=>by
  erw[G3];rw[<-PH LL (n+1) r,Bw,List.range_succ_eq_map,List.zip_cons_cons,Eb,List.all_append,List.zip_map_left,List.flatMap_map];congr 1
  .rw[J8];rfl
  .congr 2;funext q;show List.map (λS=>ER zA l LL S (((n+(q.1+1):Nat):Int)+1)) q.2=_;rw[show n+(q.1+1)=(n+1)+q.1 by omega]
end
open Lac (dT BC zF Ad BW Bg C6 Cn Dp JD EK Hi)
section
variable{zA:Ya}{l:Nat}{R:Ye}
def YI(nd:(P.map (·.1)).Nodup)(h:q∈P):zF P q.1=some q.2:=by
 induction P with
 |nil=>ext h
 |cons a r ih=>
  rw[AU,FR]at nd;erw[zF];rcases AK.mp h with e|e
  .rw[e,AB rfl]
  .rw[AE λz=>nd.1 (by rw[z];calc List.mem_map_of_mem e)];calc ih nd.2 e
def Pl.und(h:Pl zA P LL)(n:Nat):MO.und n (dT P)=true:=by
 let key:((BC P).all λp=>D.und n p.1&&D.und n p.2)=true:=by
  rw[Am];intro p hp;erw[BC]at hp;let(q,hq,rfl):=AL.mp hp;let e:=YI h.nd hq;rw[h.lk]at e;let(k,_,e):=Option.map_eq_some_iff.mp e;rw[BB];calc#[Ct _,?_];rw[<-e];rfl
 calc key
def dZ(wf:∀(j:Nat) u,M[j]?=some u->MO.und M.length u=true)(h:∀n,MO.und n u=true):∀(j:Nat) v,(M++[u])[j]?=some v->MO.und (M++[u]).length v=true:=by
 intro j v e;by_cases hj:j<M.length
 .rw[AM hj]at e;exact LU (by simp) (wf j v e)
 .rw[CV ()]at e;cases hk:j-M.length with
  |zero=>rw[hk]at e;ext e;calc h _
  |succ k=>rw[hk]at e;simp at e
def mI(m:IsM zA l)(h9:zA.length<=9)(hl9:l<=1000)(hL:LB zA LL)(wf:∀(j:Nat) u,M[j]?=some u->MO.und M.length u=true):
  Ok (AV 9 Ii [mD zA,tI R,shT LL,.bl closed] M) λd M'=>d=.bl (shB zA l R LL closed)/\∃us,M'=M++us:=by
 let(hs,hz1,hz2):=hL;rw[zn];erw[Ii];show OkS (zW _ _ [some (mD zA),some (tI R),some (shT LL),some (.bl closed),none,none,none,none,none] M) _;let vd:Vd M (shT LL):=by
  erw[shT,Vd];refine#[by rw[AG];omega,Vds.of λd hd=>?_];let(L,hL,rfl):=AL.mp hd;erw[lvT,Vd];refine#[by rw[AG];have:=hz2 L hL;omega,Vds.of λd hd=>?_];let(S,hS,rfl):=AL.mp hd;erw[tI,Vd];refine#[by rw[AG];have:=(hs L hL S hS).len;omega,Vds.of λd hd=>?_];let(i,_,rfl):=AL.mp hd;erw[Vd];trivial
 let vds:∀d∈LL.map lvT,Vd M d:=by
  let hh:Vd M (.tup (LL.map lvT)):=vd;erw[Vd]at hh;exact hh.2.mem
 let hall:fB Eg (zQ (zu [4] (AN (zC 2)) (gN 4) zc (zP Fn (zD (toD (zC 0)) (zD (toD (zC 4)) zG)))) ze) [some (mD zA),some (tI R),some (shT LL),some (.bl closed),none,none,none,none,none] M=some (.dat (.bl true),M):=by
  let e:=HN (f:=zu [4] (AN (zC 2)) (gN 4) zc (zP Fn (zD (toD (zC 0)) (zD (toD (zC 4)) zG)))) (Y:=[some (mD zA),some (tI R),some (shT LL),some (.bl closed),none,none,none,none,none]) (M:=M) (bs:=(LL.map lvT).map (Gi zA)) (by
   rw[Af];calc OF (λx=> .bl (Gi zA x)) rfl (by rw[AG];omega) λx hx=>#[_,rfl,zV (zU rfl (zY rfl)) (lC (vds x hx))])
  rw[e];have:((LL.map lvT).map (Gi zA)).all id=true:=by
   rw[Am];intro b hb;rw[Af]at hb;let(L,hL,rfl):=AL.mp hb;exact E9 #[L,rfl,hs L hL]
  rw[this]
 let nt:∀{f:FE}{Y:Sd}{M:Mem}{k:Bool},f Y M=some (.dat (.bl k),M)->C1 (tst f) Y M=some (!k,M):=λ{f Y M k} e=>zR (PQ.mpr (zE (zr e) #[rfl,rfl]));calc Fs (by erw[Bl];rw[nt (isV (k:=true) rfl rfl ())];calc nt hall) ?_;let el:=Dc (f:=zC 2) (Y:=[some (mD zA),some (tI R),some (shT LL),some (.bl closed),none,none,none,none,none]) (M:=M) (x:=.dat (shT LL)) rfl zb;rw[AG]at el;let ez:tst (fOp kEq (fB An (zQ (zC 2) ze)) (fC (.int 0))) [some (mD zA),some (tI R),some (shT LL),some (.bl closed),none,none,none,none,none] M=some (decide ((LL.length:Int)=0),M):=zr (zL el rfl (zR (FV.mpr #[rfl,rfl])));cases LL with
 |nil=>
  calc HV ez ?_;calc zv (d:=.bl (!closed)) (by erw[FY];rw[show zC 3 [some (mD zA),some (tI R),some (shT []),some (.bl closed),none,none,none,none,none] M=some (.dat (.bl closed),M)from rfl]) #[rfl,[],by simp]
 |cons L0 rest=>
  refine Fs (ez.trans (by rw[Aw (by simp;omega)])) ?_;let ein:tst (fOp (EH true) (zC 1) (fOp kIx (zC 2) (fC (.int 0)))) [some (mD zA),some (tI R),some (shT (L0::rest)),some (.bl closed),none,none,none,none,none] M=some (!(decide (R∈L0)),M) :=
   zr (k:=!(decide (R∈L0))) (zL (x:=.dat (tI R)) (y:=.dat (lvT L0)) rfl (zL (x:=.dat (shT (L0::rest))) (y:=.dat (.int 0)) rfl rfl (BZ (xs:=(L0::rest).map lvT) zb (EI rfl))) (J7 zb))
  cases hR:decide (R∈L0)with
  |false=>
   rw[hR]at ein;calc HV ein ?_;calc zv (d:=.bl false) rfl #[by erw[shB];symm;rw[hR];rfl,[],by simp]
  |true=>
  rw[hR]at ein;refine Fs ein ?_;rw[zM,za,EW];refine zE (zY rfl) ?_;refine(X3 h9 hs).mono ?_;rintro d M1 ⟨P,rfl,rfl,pl⟩;rw[zO,zS];let wf1:∀(j:Nat) u,(M++[dT P])[j]?=some u->MO.und (M++[dT P]).length u=true:=dZ wf pl.und;let eP:(M++[dT P])[M.length]?=some (dT P):=Ci _ _;let hM:∃us,M++[dT P]=M++us:=#[_,rfl];generalize M++[dT P]=M1 at wf1 eP hM;let key:∀(as:List (List (List Int))),(∀L∈as,L∈L0::rest)->as.length<=2000->fB Eg (zQ (EE [8,4,7] [7] (D8 (zC 6)) (C0 8 4) zc (AN (zC 4)) (gN 7) zc (zP Fv (zD (toD (zC 0)) (zD (toD (zC 7)) (zD (toD (zC 5)) (zD (toD (fOp BA (zC 8) (fC (.int 1)))) zG)))))) ze) [some (mD zA),some (tI R),some (shT (L0::rest)),some (.bl closed),none,some (.ref M.length),some (shT as),none,none] M1=some (.dat (.bl (G3 zA l (L0::rest) 0 as)),M1):=by
   intro as ha hn;rw[<-PH];calc HN ?_;let e:=TK (own:=[8,4,7]) (own2:=[7]) (fi:=D8 (zC 6)) (fi2:=AN (zC 4)) (fg:=C0 8 4) (fg2:=gN 7) (te:=zP Fv (zD (toD (zC 0)) (zD (toD (zC 7)) (zD (toD (zC 5)) (zD (toD (fOp BA (zC 8) (fC (.int 1)))) zG))))) (Y:=[some (mD zA),some (tI R),some (shT (L0::rest)),some (.bl closed),none,some (.ref M.length),some (shT as),none,none]) (M:=M1) ((List.range as.length).zip as) (λq=> .tup [.int (q.1:Nat),lvT q.2]) (λq=>q.2) tI (λq S=> .bl (ER zA l (L0::rest) S (((0+q.1:Nat):Int)+1))) 8000 ?_ ?_ ?_ ?_
   .rw[e,List.map_flatMap];congr 3;congr 1;funext q;rw[Af];rfl
   .unfold D8;rw[show zC 6 [some (mD zA),some (tI R),some (shT (L0::rest)),some (.bl closed),none,some (.ref M.length),some (shT as),none,none] M1=some (.dat (shT as),M1)from rfl];symm;rw[show A7 M1 (.dat (shT as))=some (as.map lvT)from zb];show some (Dq (as.map lvT),none,M1)=_;erw[Dq];rw[AG,List.zip_map_right,Af];rfl
   .intro q hq;exact hz2 _ (ha _ (List.of_mem_zip hq).2)
   .rw[List.length_zip,Et];omega
   .intro q hq;refine#[_,rfl,E3 (x:=.dat (lvT q.2)) rfl zb,λS hS=>#[_,rfl,?_]];exact zV (zU rfl (zU rfl (zU rfl (zY (zL rfl rfl (zR (GK.mpr #[rfl,rfl]))))))) (by rw[Nat.zero_add];calc dN m h9 hl9 pl (hs _ (ha _ (List.of_mem_zip hq).2) S hS) wf1 eP)
  cases closed with
  |true=>
   calc DK (d:=shT (L0::rest)) rfl ?_;refine zv (key (L0::rest) (λ_ h=>h) hz1) #[?_,hM];erw[shB];symm;rw[hR];rfl
  |false=>
   refine DK (d:=shT ((L0::rest).take rest.length)) ?_ ?_
   .unfold vIf;rw[show tst (zC 3) ([some (mD zA),some (tI R),some (shT (L0::rest)),some (.bl false),none,none,none,none,none].set 5 (some (.ref M.length))) M1=some (false,M1)from rfl];symm;rw[slE (xs:=(L0::rest).map lvT) (lo:=none) (hi:=some (-1)) rfl rfl rfl,Wu (by simp)];erw[shT];rw[List.map_take];simp
   .refine zv (key _ (λ_ h=>List.mem_of_mem_take h) (by rw[D4];omega)) #[?_,hM];erw[shB];symm;rw[hR];rfl
end
open Lac (dT BC zF Ad BW Bg C6 Cn Dp JD EK Hi)
open Lac (dT BC zF Ad BW Bg C6 dgT Cn Dp EK)
def ZQ{S:Ye}(h:∀x∈S,0<=x/\x<n):((S.map D.int).map (DH n)).all id=true:=by
 rw[Am];intro b hb;rw[Af]at hb;let(x,hx,rfl):=AL.mp hb;have:=h x hx;show(decide (0<=x)&&decide (x<n))=true;rw[Az this.1,Az this.2];rfl
def ntE(e:f Y M=some (.dat (.bl k),M)):C1 (tst f) Y M=some (!k,M):=zR (PQ.mpr (zE (zr e) #[rfl,rfl]))
open Lac (dT BC zF Ad BW Bg C6 dgT Cn Dp EK)
section
variable{zA:Ya}{l:Nat}{R:Ye}
theorem Qz(LL:List (List (List Int))):∀{as:List (List (List Int))}{n:Nat},(∀(k:Nat) L,as[k]?=some L->∀S∈L,ER zA l LL S (((n+k:Nat):Int)+1)=true)->G3 zA l LL n as=true
 |[],n,_=>rfl
 |L0::r,n,h=>by
  erw[G3];rw[BB];refine#[Am.mpr λS hS=>h 0 L0 rfl S hS,Qz LL λk L e S hS=>?_];rw[show(n+1)+k=n+(k+1)by omega];calc h (k+1) L e S hS
end
open Lac (EK)
def i7(i:Int):Vd M (.int i):=by erw[Vd];trivial
def Zv(hz:ds.length<=100000)(h:∀d∈ds,Vd M d):Vd M (.tup ds):=by
 erw[Vd];calc#[hz,Vds.of h]
structure Lv0(zA:Ya)(LL:List (List (List Int))):Prop where
 st:∀L∈LL,∀S∈L,IsS zA S
 len:LL.length<=1000
 each:∀L∈LL,L.length<=600
section
variable{zA:Ya}{l:Nat}{R:Ye}{LL:List (List (List Int))}
def Lv0.ok(h:Lv0 zA LL):LB zA LL:=#[h.st,by have:=h.len;omega,λL hL=>by have:=h.each L hL;omega]
def nK(h:S.length<=100000):Vd M (tI S):=Zv (by rw[AG];exact h) λd hd=>by
 let(i,_,rfl):=AL.mp hd;calc i7 i
theorem Rp(m:IsM zA l)(h9:zA.length<=9):∀(n:Nat){seen:Ya}{level:Lvl}{acc:List (List (List Int))}{r:Option (List Int)×List (List (List Int))},Met zA seen level->acc.flatten.length+level.length<=seen.length->(∀L∈acc,∀t∈L,IsS zA t)->run zA l due n seen level acc=some r->(∀L∈r.2,∀t∈L,IsS zA t)/\r.2.flatten.length<=512
 |0,_,_,_,_,_,_,_,h=>by ext h
 |n+1,seen,level,acc,r,mt,hz,ha,h=>by
  let hl:=IM mt.nd mt.st h9;erw[run]at h;cbv at h
  .cases h;exact#[ha,by show acc.flatten.length<=512;omega]
  .split at h
   .cases h;exact#[ha,by show acc.flatten.length<=512;omega]
   .have g:=mt.next m;refine Rp m h9 n g.met ?_ (λL hL=>?_) h
    .rw[g.eq,List.flatten_append,AW,AW,AG,List.flatten_singleton,AG];omega
    .rcases Ae.mp hL with z|z
     .exact ha L z
     .rw[Ac.mp z];intro t ht;let(p,hp,rfl):=AL.mp ht;calc mt.lv p hp
theorem RP:∀{LL:List (List (List Int))}{L:Ya},L∈LL->L.length<=LL.flatten.length
 |K::r,L,h=>by
  rw[List.flatten_cons,AW];rcases AK.mp h with z|z
  .rw[z];omega
  .have:=RP z;omega
theorem MM:∀(LL:List (List (List Int))),(LL.map A0).flatten.length=LL.flatten.length
 |[]=>rfl
 |L::r=>by rw[AU,List.flatten_cons,List.flatten_cons,AW,AW,MM r,(F5 L).length_eq]
def rP(m:IsM zA l)(h9:zA.length<=9)(sR:IsS zA R)(hr:run zA l due 1000 [R] [(R,[])] []=some r):shD r.2=shT (r.2.map A0)/\Lv0 zA (r.2.map A0)/\(r.2.map A0).flatten.length<=512:=by
 let mt:Met zA [R] [(R,[])]:=#[by simp,λS hS=>by rw[Ac.mp hS];exact sR,λp hp=>by rw[Ac.mp hp];calc sR];let(hs,ht):=Rp m h9 1000 mt (by simp) (λ_ h=>by ext h) hr;let hlen:r.2.length<=1000:=Ab (NQ 1000 hr) (by simp);refine#[?_,#[λL hL S hS=>?_,by rw[AG];exact hlen,λL hL=>?_],by rw[MM];calc ht]
 .show D.tup (r.2.map lvD)=D.tup ((r.2.map A0).map lvT);rw[Af];rfl
 .obtain⟨K,hK,rfl⟩:=AL.mp hL;exact hs K hK S ((F5 K).mem_iff.mp hS)
 .have:=RP hL;rw[MM]at this;omega
end
open Lac (dT BC zF Ad BW Bg)
def Mx(zA:Ya)(l:Nat):Nat->List (List Int)->Lvl->Lvl
 |0,_,_=>[]
 |n+1,seen,level=>if level.isEmpty then[]else level++Mx zA l n (B8 zA l seen level).1 (B8 zA l seen level).2
def cW(h:∀s∈p.2,s.2.length=n)(hw:w.length+1=n):∀s∈(BD zA S w p g).2,s.2.length=n:=by
 erw[BD];split
 .exact h
 .intro s hs;rcases Ae.mp hs with z|z
  .exact h s z
  .rw[Ac.mp z];simpa using hw
theorem P6(hw:w.length+1=n):∀(gs:Ye){p:List (List Int)×Lvl},(∀s∈p.2,s.2.length=n)->∀s∈(gs.foldl (BD zA S w) p).2,s.2.length=n
 |[],_,h=>h
 |g::r,p,h=>P6 hw r (cW h hw)
theorem QK:∀{level:Lvl}{p:List (List Int)×Lvl},(∀s∈level,s.2.length+1=n)->(∀s∈p.2,s.2.length=n)->∀s∈(level.foldl (CM zA l) p).2,s.2.length=n
 |[],_,_,h=>h
 |s::r,p,hs,h=>QK (level:=r) (λx hx=>hs x (Aa _ hx)) (P6 (hs s AR) _ h)
theorem TR:∀(n:Nat){seen:Ya}{level:Lvl}{acc:List (List (List Int))}{r:Option (List Int)×List (List (List Int))},run zA l due n seen level acc=some r->∃more,r.2=acc++more
 |0,_,_,_,_,h=>by ext h
 |n+1,seen,level,acc,r,h=>by
  erw[run]at h;cbv at h
  .cases h;exact#[[],by simp]
  .split at h
   .cases h;exact#[[],by simp]
   .obtain⟨more,e⟩:=TR n h;calc#[_,by rw[e,Bx]]
theorem Ny:∀(n:Nat){seen:Ya}{level:Lvl}{acc:List (List (List Int))}{r0:Option (List Int)×List (List (List Int))},(∀s∈level,s.2.length=acc.length)->run zA l (λ_=>false) n seen level acc=some r0 ->
  run zA l due n seen level acc=some (match(Mx zA l n seen level).find? λp=>due p.1 with|some p=>(some p.2,r0.2.take p.2.length)|none=>(none,r0.2))
 |0,_,_,_,_,_,h=>by ext h
 |n+1,seen,level,acc,r0,hw,h=>by
  let hf:level.find? (λp=>(λ_=>false:List Int->Bool) p.1)=none:=List.find?_eq_none.mpr λp hp=>by simp
  erw[run]at h;erw[run,Mx];rw[hf]at h;cases hl:level.isEmpty with
  |true=>
   rw[hl,AB rfl]at h;ext h;rw[AB rfl,AB rfl];rfl
  |false=>
   rw[hl,AE Ax]at h;rw[AE Ax,AE Ax,List.find?_append];cases hd:level.find? (λp=>due p.1)with
   |some p=>
    let(more,e):=TR n h;show some (some p.2,acc)=some (some p.2,r0.2.take p.2.length);rw[hw p (List.mem_of_find?_eq_some hd),e,Bx,List.take_left]
   |none=>
    rw[Option.none_or];calc Ny n (QK (λs hs=>by rw[hw s hs];simp) λ_ h=>by ext h) h
def Pj(m:IsM zA l)(h9:zA.length<=9)(sR:IsS zA R):∃r,run zA l (λ_=>false) 1000 [R] [(R,[])] []=some r/\r.1=none:=by
 let(r,hr):=PN m h9 1000 (seen:=[R]) (level:=[(R,[])]) #[by simp,λS hS=>by rw[Ac.mp hS];exact sR,λp hp=>by rw[Ac.mp hp];calc sR] (by simp);exact#[r,hr,UX (λ_=>rfl) 1000 hr]
open Lac (EK)
def Jm:FS:=(zq (zP HA (zD (toD (zC 1)) (zD (toD (fB An (zQ (fOp kIx (zC 0) (fC (.int 0))) ze))) zG))))
def Hw:FF:=AV 2 Jm
def KO:FS:=(zq (Co (DP "tuple" (zC 0)) (Co (fOp kEq (fB An (zQ (zC 0) ze)) (zC 2)) (Co (DP "str" (fOp kIx (zC 0) (fC (.int 0)))) (fOp kEq (fOp kIx (zC 0) (fC (.int 0))) (zC 1))))))
def GR:FF:=AV 3 KO
def J0(gL:List D->FF)(lL:Lm):FS:=(zq (fB Nu (zQ (EE [3,2] [2] (AN (zC 0)) (gN 3) zc (AN (zC 3)) (gN 2) zc (Ey 1 lL gL (zD (toD (zC 2)) zG))) ze)))
def GX(gL:List D->FF)(lL:Lm):FF:=AV 4 (J0 gL lL)
def Jo(gL:List D->FF)(lL:Lm):FS:=(zW (sIf (Bl (C1 (tst (zP Hw (zD (toD (zC 0)) (zD (toD (zC 3)) zG))))) (C1 (tst (Ey 2 lL gL (zD (toD (zP Ir (zD (toD (zC 0)) (zD (toD (zC 1)) (zD (toD (zC 3)) zG))))) zG))))) (zq (fC (.bl false))) Ao)
  (zW (sIf (C1 (tst (zP Gj (zD (toD (zC 0)) (zD (toD (zC 1)) (zD (toD (zC 4)) (zD (toD (fC (.bl false))) zG))))))) (zq (fC (.bl false))) Ao)
  (zq (Co (fOp kEq (fB An (zQ (zC 4) ze)) (fB An (zQ (zC 3) ze))) (FY (zP (GX gL lL) (zD (toD (zC 4)) (zD (toD (zC 2)) zG))))))))
def Hj(gL:List D->FF)(lL:Lm):FF:=AV 5 (Jo gL lL)
def KW(gL:List D->FF)(lL:Lm):FS:=(zW (sIf (tst (zP GR (zD (toD (zC 3)) (zD (toD (fC (.str "word"))) (zD (toD (fC (.int 3))) zG))))) (zq (zP (Hj gL lL) (zD (toD (zC 0)) (zD (toD (zC 1)) (zD (toD (zC 2)) (zD (toD (fOp kIx (zC 3) (fC (.int 1)))) (zD (toD (fOp kIx (zC 3) (fC (.int 2)))) zG))))))) Ao)
  (zW (sIf (tst (zP GR (zD (toD (zC 3)) (zD (toD (fC (.str "none"))) (zD (toD (fC (.int 2))) zG))))) (zq (Co (zP Gj (zD (toD (zC 0)) (zD (toD (zC 1)) (zD (toD (fOp kIx (zC 3) (fC (.int 1)))) (zD (toD (fC (.bl true))) zG))))) (FY (zP (GX gL lL) (zD (toD (fOp kIx (zC 3) (fC (.int 1)))) (zD (toD (zC 2)) zG)))))) Ao)
  (zq (fC (.bl false)))))
def HP(gL:List D->FF)(lL:Lm):FF:=AV 4 (KW gL lL)
def rA{bs:List Bool}(h:f Y M=some (.fl (bs.map D.bl),M)):fB Nu (zQ f ze) Y M=some (.dat (.bl (bs.any id)),M):=by
 erw[fB,zQ,ze];rw[h];calc zR ((Sm Rj (MK bs)).mpr #[rfl,rfl])
def eqS:kEq (.dat (.str a)) (.dat (.str b)) M=some (.dat (.bl (dc (a=b))),M):=by
 let e:kEq (.dat (.str a)) (.dat (.str b)) M=some (.dat (.bl (decide (V.str a=V.str b))),M):=rfl;rw[e];by_cases z:a=b
 .rw[E9 z,Az (by rw[z])]
 .rw[Hl z,Aw (λy=>z (V.str.inj y))]
section
variable{zA:Ya}{l:Nat}{R:Ye}{due:List Int->Bool}{gL:List D->FF}{lL:Lm}{cs:List D}
def LF(due:List Int->Bool)(LL:List (List (List Int))):Bool:=LL.any λL=>L.any due
theorem Se(due:List Int->Bool):∀(LL:List (List (List Int))),(LL.flatMap λL=>L.map due).any id=LF due LL
 |[]=>rfl
 |L::r=>by
  rw[Eb,List.any_append,Se due r];rw[List.any_map];rfl
def m8(hG:∀S M',IsS zA S->gL cs [tI S] M'=some (.bl (due S),M'))(hL:LB zA LL):GX gL lL [shT LL,.fn lL cs] M=some (.bl (LF due LL),M):=by
 erw[GX,J0];calc Fy ?_;rw[<-Se];calc rA ?_;let e:=TK (own:=[3,2]) (own2:=[2]) (fi:=AN (zC 0)) (fi2:=AN (zC 3)) (fg:=gN 3) (fg2:=gN 2) (te:=Ey 1 lL gL (zD (toD (zC 2)) zG)) (Y:=[some (shT LL),some (.fn lL cs),none,none]) LL lvT (λL=>L) tI (λ_ S=> .bl (due S)) 8000 (G8 rfl) (λL h=>hL.2.2 L h) (by have:=hL.2.1;omega) λL h=>#[_,rfl,G8 rfl,λS hS=>#[_,rfl,NI rfl rfl (hG S M (hL.1 L h S hS))]];calc e.trans ?_;rw[List.map_flatMap];congr 3;congr 1;funext L;rw[Af];rfl
def Zu(m:IsM zA l)(ha:Vd M a):Hw [mD zA,a] M=some (.bl (tbD l a),M):=by
 erw[Hw,Jm];calc Fy ?_;calc zV (zU rfl (zY (Jj m rfl))) (Rc ha)
def iL(h:∀g∈w,0<=g/\g<n):tbD n (tI w)=true:=by
 have:=ZQ h;rw[J8]at this;calc this
end
section
variable{zA:Ya}{l:Nat}{R:Ye}{due:List Int->Bool}
def m3:setR zA S g∈(BD zA S w p g).1/\(∀T∈p.1,T∈(BD zA S w p g).1)/\∀q∈(BD zA S w p g).2,q∈p.2\/q=(setR zA S g,w++[g]):=by
 erw[BD];split
 .intros h;exact#[h,λT hT=>hT,λq hq=> .inl hq]
 .refine#[by simp,λT hT=>by simp[hT],λq hq=>?_];rcases Ae.mp hq with z|z
  .exact .inl z
  .exact .inr (Ac.mp z)
theorem Ua:∀(gs:Ye)(p:List (List Int)×Lvl),(∀g∈gs,setR zA S g∈(gs.foldl (BD zA S w) p).1)/\(∀T∈p.1,T∈(gs.foldl (BD zA S w) p).1)/\∀q∈(gs.foldl (BD zA S w) p).2,q∈p.2\/∃g∈gs,q=(setR zA S g,w++[g])
 |[],p=>#[(λ_ h=>by ext h),λT hT=>hT,λq hq=> .inl hq]
 |g::r,p=>by
  let(a1,a2,a3):=m3;let(b1,b2,b3):=Ua r (BD zA S w p g);rw[List.foldl_cons];refine#[λx hx=>?_,λT hT=>b2 T (a2 T hT),λq hq=>?_]
  .rcases AK.mp hx with z|z
   .rw[z];exact b2 _ a1
   .exact b1 x z
  .rcases b3 q hq with z|⟨x,hx,z⟩
   .rcases a3 q z with y|y
    .exact .inl y
    .exact .inr #[g,AR,y]
   .exact .inr #[x,Aa _ hx,z]
theorem Qx:∀(level:Lvl)(p:List (List Int)×Lvl),(∀s∈level,∀g∈Av l,setR zA s.1 g∈(level.foldl (CM zA l) p).1)/\(∀T∈p.1,T∈(level.foldl (CM zA l) p).1)/\∀q∈(level.foldl (CM zA l) p).2,q∈p.2\/∃s∈level,∃g∈Av l,q=(setR zA s.1 g,s.2++[g])
 |[],p=>#[(λ_ h=>by ext h),λT hT=>hT,λq hq=> .inl hq]
 |s::r,p=>by
  let(a1,a2,a3):=Ua (Av l) p;let(b1,b2,b3):=Qx r (CM zA l p s);rw[List.foldl_cons];refine#[λx hx g hg=>?_,λT hT=>b2 T (a2 T hT),λq hq=>?_]
  .rcases AK.mp hx with z|z
   .rw[z];exact b2 _ (a1 g hg)
   .exact b1 x z g hg
  .rcases b3 q hq with z|⟨x,hx,z⟩
   .rcases a3 q z with y|⟨g,hg,y⟩
    .exact .inl y
    .exact .inr #[s,AR,g,hg,y]
   .exact .inr #[x,Aa _ hx,z]
def Wd(l:Nat)(w:Ye):Prop:=∀g∈w,0<=g/\g<(l:Int)
structure Bf(zA:Ya)(l:Nat)(R:Ye)(due:List Int->Bool)(seen:Ya)(level:Lvl)(acc:List (List (List Int))):Prop where
 sn:∀S∈seen,S∈acc.flatten\/S∈level.map (·.1)
 wd:∀p∈level,broR zA R p.2=p.1/\Wd l p.2/\p.2.length=acc.length
 fst:(acc++[level.map (·.1)])[0]?=some [R]
 cl:∀(k:Nat) L,acc[k]?=some L->∀S∈L,∀g∈Av l,∃(j:Nat)(K:Ya),j<=k+1/\(acc++[level.map (·.1)])[j]?=some K/\setR zA S g∈K
 nd:∀L∈acc,∀S∈L,due S=false
def Bf.next{seen:Ya}{level:Lvl}{acc:List (List (List Int))}(m:IsM zA l)(mt:Met zA seen level)(h:Bf zA l R due seen level acc)(hn:level.find? (λp=>due p.1)=none):
  Bf zA l R due (B8 zA l seen level).1 (B8 zA l seen level).2 (acc++[level.map (·.1)]):=by
 let g:=mt.next m;let(a1,a2,a3):=Qx level (seen,[]);refine#[λS hS=>?_,λp hp=>?_,?_,λk L hL S hS x hx=>?_,λL hL S hS=>?_]
 .rw[g.eq]at hS;rw[List.flatten_append,List.flatten_singleton];rcases Ae.mp hS with z|z
  .exact .inl (Ae.mpr (h.sn S z))
  .exact .inr z
 .rcases a3 p hp with z|⟨s,hs,x,hx,rfl⟩
  .ext z
  .obtain⟨w1,w2,w3⟩:=h.wd s hs;refine#[?_,λy hy=>?_,by simp[w3]]
   .show(s.2++[x]).foldl (setR zA) R=setR zA s.1 x;rw[Dr];show setR zA (broR zA R s.2) x=_;rw[w1]
   .rcases Ae.mp hy with z|z
    .exact w2 y z
    .rw[Ac.mp z];exact Jx hx
 .have:=h.fst;cases acc with
  |nil=>calc this
  |cons a r=>exact this
 .rcases DE k acc.length with z|z
  .rw[AM z]at hL;let(j,K,hj,eK,hm):=h.cl k L hL S hS x hx;calc#[j,K,hj,?_,hm];rw[AM (AI.mp eK).1];exact eK
  .have hk:k=acc.length:=by
    have:=(AI.mp hL).1;rw[AW,G9]at this;omega
   subst hk;rw[CV (AF _),Nat.sub_self]at hL;ext hL;let(s,hs,rfl):=AL.mp hS;let hm:setR zA s.1 x∈(B8 zA l seen level).1:=a1 s hs x hx;rw[g.eq]at hm;rcases Ae.mp hm with y|y
   .rcases h.sn _ y with u|u
    .obtain⟨K,hK,hSK⟩:=List.mem_flatten.mp u;let(j,hj):=List.getElem?_of_mem hK;let hlt:=(AI.mp hj).1;calc#[j,K,(),?_,hSK];rw[Bx,AM hlt];exact hj
    .refine#[acc.length,_,(),?_,u];rw[Bx,CV (AF _),Nat.sub_self];rfl
   .refine#[acc.length+1,_,AF _,?_,y];rw[CV (by simp)];simp
 .rcases Ae.mp hL with z|z
  .exact h.nd L z S hS
  .rw[Ac.mp z]at hS;let(p,hp,rfl):=AL.mp hS;have:=List.find?_eq_none.mp hn p hp;simpa using this
def Bf.way{seen:Ya}{level:Lvl}{acc:List (List (List Int))}(h:Bf zA l R due seen level acc):∀(n:Nat)(v:Ye),v.length=n->Wd l v->(∀k,k<n->k<acc.length\/level=[])->∃(j:Nat)(K:Ya),j<=n/\(acc++[level.map (·.1)])[j]?=some K/\broR zA R v∈K
 |0,v,hv,_,_=>by
  have:v=[]:=EF.mp hv;subst this;calc#[0,[R],AF _,h.fst,Ac.mpr rfl]
 |n+1,v,hv,hw,hk=>by
  let hne:v≠[]:=by intro z;rw[z]at hv;ext hv
  obtain⟨u,x,rfl⟩:∃u x,v=u++[x]:=#[v.dropLast,v.getLast hne,(List.dropLast_concat_getLast hne).symm];rw[AW,G9]at hv;let(j,K,hj,eK,hm):=Bf.way h n u () (λg hg=>hw g (CI _ hg)) (λk z=>hk k ());let hx:=hw x (by simp);let hxl:x∈Av l:=by
   let(i,rfl):=Int.eq_ofNat_of_zero_le hx.1;exact AL.mpr #[i,A9.mpr (),rfl]
  let hj2:j<acc.length:=by
   let hlt:=(AI.mp eK).1;rw[AW,G9]at hlt;rcases DE j acc.length with z|z
   .exact z
   .exfalso;let hje:j=acc.length:=()
    rcases hk n ()with y|y
    .omega
    .rw[hje,CV (AF _),Nat.sub_self,y]at eK;ext eK;ext hm
  rw[AM hj2]at eK;let(j',K',hj',eK',hm'):=h.cl j K eK _ hm x hxl;calc#[j',K',(),eK',?_];show(u++[x]).foldl (setR zA) R∈K';rw[Dr];calc hm'
def End(zA:Ya)(l:Nat)(R:Ye)(due:List Int->Bool)(r:Option (List Int)×List (List (List Int))):Prop:=∃(seen:Ya)(level:Lvl),Bf zA l R due seen level r.2/\match r.1 with
 |none=>level=[]
 |some w=>∃p∈level,p.2=w/\due p.1=true
theorem Qd(m:IsM zA l):∀(n:Nat){seen:Ya}{level:Lvl}{acc:List (List (List Int))}{r:Option (List Int)×List (List (List Int))},Met zA seen level->Bf zA l R due seen level acc->run zA l due n seen level acc=some r->End zA l R due r
 |0,_,_,_,_,_,_,h=>by ext h
 |n+1,seen,level,acc,r,mt,bf,h=>by
  erw[run]at h;cbv at h
  .intros he;ext h;exact#[seen,level,bf,List.isEmpty_iff.mp he]
  .split at h
   .intros p hp;ext h;exact#[seen,level,bf,p,List.mem_of_find?_eq_some hp,rfl,by simpa using List.find?_some hp]
   .intros hn;calc Qd m n (mt.next m).met (bf.next m mt hn) h
def Nh(m:IsM zA l)(sR:IsS zA R)(h:run zA l due 1000 [R] [(R,[])] []=some r):End zA l R due r:=by
 let mt:Met zA [R] [(R,[])]:=#[by simp,λS hS=>by rw[Ac.mp hS];exact sR,λp hp=>by rw[Ac.mp hp];calc sR];refine Qd m 1000 mt #[λS hS=> .inr (~~~hS),λp hp=>?_,rfl,λk L hL=>by simp at hL,λ_ h=>by ext h] h;rw[Ac.mp hp];calc#[rfl,(λg hg=>by ext hg),rfl]
def End.least{r:Option (List Int)×List (List (List Int))}(h:End zA l R due r){v:Ye}(hv:Wd l v)(hd:due (broR zA R v)=true):∃w,r.1=some w/\w.length<=v.length:=by
 let(seen,level,bf,e):=h;cases h1:r.1 with
 |none=>
  rw[h1]at e;exfalso;let(j,K,_,eK,hm):=bf.way v.length v rfl hv (λ_ _=> .inr e);let e:level=[]:=e;rw[e]at eK;rcases DE j r.2.length with z|z
  .rw[AM z]at eK;rw[bf.nd K (Ca eK) _ hm]at hd;ext hd
  .rw[CV z]at eK;cases hj:j-r.2.length with
   |zero=>rw[hj]at eK;ext eK;ext hm
   |succ i=>rw[hj]at eK;ext eK
 |some w=>
  rw[h1]at e;let(p,hp,hpw,hdp):=e;calc#[w,rfl,?_];let hw:=(bf.wd p hp).2.2;rw[hpw]at hw;rcases DE v.length w.length with z|z
  .exfalso;let(j,K,hj,eK,hm):=bf.way v.length v rfl hv (λk hk=> .inl ());rw[AM ()]at eK;rw[bf.nd K (Ca eK) _ hm]at hd;ext hd
  .exact z
def End.word(h:End zA l R due r)(h1:r.1=some w):Wd l w/\due (broR zA R w)=true/\w.length=r.2.length:=by
 let(seen,level,bf,e):=h;rw[h1]at e;let(p,hp,hpw,hdp):=e;let(w1,w2,w3):=bf.wd p hp;rw[hpw]at w1 w2 w3;calc#[w2,by rw[w1];calc hdp,w3]
def pN{LL:List (List (List Int))}{S:Ye}{j:Nat}{K:Ya}(hK:LL[j]?=some K)(hS:S∈K):∃i,plc LL S=some i/\i<=j:=by
 cases hp:plc LL S with
 |none=>
  exfalso;have:=List.findIdx?_eq_none_iff.mp hp K (Ca hK);simp[hS]at this
 |some i=>
  calc#[i,rfl,?_];let h1:=List.findIdx?_eq_some_iff_findIdx_eq.mp hp;rcases DE j i with z|z
  .exfalso;let hlt:=(AI.mp hK).1;let h2:=List.not_of_lt_findIdx (by rw[h1.2];calc z);let h3:LL[j]=K:=(AI.mp hK).2;rw[h3]at h2;simp[hS]at h2
  .exact z
def VS{LL:List (List (List Int))}{S:Ye}{k:Nat}(h:∀g∈Av l,∃(j:Nat)(K:Ya),j<=k+1/\LL[j]?=some K/\setR zA S g∈K):ER zA l LL S ((k:Nat)+1)=true:=by
 erw[ER];rw[Am];intro g hg;let(j,K,hj,eK,hm):=h g hg;let(i,ei,hi):=pN eK hm;rw[ei];calc Az ()
def End.shown(m:IsM zA l)(h9:zA.length<=9)(sR:IsS zA R)(h:End zA l R due r):shB zA l R (r.2.map A0) (r.1==none)=true/\LF due (r.2.map A0)=false:=by
 let(seen,level,bf,e):=h;let hat:∀(k:Nat) L,(r.2.map A0)[k]?=some L->∃K,r.2[k]?=some K/\∀S,S∈L↔S∈K:=λk L hL=>by
  rw[Au]at hL;let(K,hK,rfl):=Option.map_eq_some_iff.mp hL;exact#[K,hK,λS=>(F5 K).mem_iff]
 let hta:∀(j:Nat) K,r.2[j]?=some K->(r.2.map A0)[j]?=some (A0 K):=λj K hK=>by rw[Au,hK];rfl
 refine#[?_,?_]
 .cases hr2:r.2 with
  |nil=>
   let hf:=bf.fst;rw[hr2]at hf;cases h1:r.1 with
   |none=>
    rw[h1]at e;let e:level=[]:=e;rw[e]at hf;ext hf
   |some w=>rfl
  |cons L0 rest=>
   let hf:=bf.fst;rw[hr2]at hf;ext hf;show(decide (R∈A0 [R])&&_)=true;rw[BB];calc#[Az ((F5 [R]).mem_iff.mpr (by simp)),?_];let hlen:r.2.length=rest.length+1:=by rw[hr2];rfl
   rw[show List.map A0 ([R]::rest)=r.2.map A0 by rw[hr2]];refine Qz _ λk L hL S hS=>?_;rw[Nat.zero_add];let hbound:k<r.2.length/\(r.1≠none->k+1<r.2.length)/\(r.2.map A0)[k]?=some L:=by
    cases h1:r.1 with
    |none=>
     rw[h1]at hL;let hL:(r.2.map A0)[k]?=some L:=hL;have:=(AI.mp hL).1;rw[AG]at this;exact#[this,λz=>absurd rfl z,hL]
    |some w=>
     rw[h1]at hL;let hL:((r.2.map A0).take ((r.2.map A0).length-1))[k]?=some L:=hL;let hlt:=(AI.mp hL).1;rw[D4,AG]at hlt;rw[List.getElem?_take_of_lt (by rw[AG];omega)]at hL;exact#[(),λ_=>(),hL]
   let(hk,hk2,hL):=hbound;let(K,hK,hKL):=hat k L hL;refine VS λg hg=>?_;let(j,K',hj,eK',hm):=bf.cl k K hK S ((hKL S).mp hS) g hg;let hjl:j<r.2.length:=by
    rcases DE j r.2.length with z|z
    .exact z
    .exfalso;let hlt:=(AI.mp eK').1;rw[AW,G9]at hlt;let hje:j=r.2.length:=()
     cases h1:r.1 with
     |none=>
      rw[h1]at e;let e:level=[]:=e;rw[hje,CV (AF _),Nat.sub_self,e]at eK';ext eK';ext hm
     |some w=>
      have:=hk2 (by rw[h1];simp);omega
   rw[AM hjl]at eK';exact#[j,A0 K',hj,hta j K' eK',(F5 K').mem_iff.mpr hm]
 .unfold LF;rw[List.any_eq_false];intro L hL;let(K,hK,rfl):=AL.mp hL;simp only[Bool.not_eq_true];rw[List.any_eq_false];intro S hS;rw[bf.nd K hK S ((F5 K).mem_iff.mp hS)];simp
end
end Lae
namespace Lap
open L2 L3 ST Law
open Lae
abbrev Lx(a b:Ye):Prop:=List.Lex (· < ·) a b
def Le(a b:Ye):Prop:=a=b\/Lx a b
theorem LP{a b c:Ye}(h:Lx a b)(h':Lx b c):Lx a c:=List.lt_trans h h'
theorem P2:∀{a:Ye},¬ Lx a a
 |_,.rel h=>Int.lt_irrefl _ h
 |_,.cons h=>P2 h
def Le.trans(h:Le a b)(h':Le b c):Le a c:=by
 rcases h with rfl|h
 .exact h'
 .rcases h' with rfl|h'
  .exact .inr h
  .exact .inr (LP h h')
def Le.anti(h:Le a b)(h':Le b a):a=b:=by
 rcases h with h|h
 .exact h
 .rcases h' with h'|h'
  .exact h'.symm
  .exact absurd (LP h h') P2
theorem Nc{a b:Ye}{x y:Int}(e:a.length=b.length)(h:Lx a b):Lx (a++[x]) (b++[y]):=by
 induction h with
 |nil=>ext e
 |rel h=>exact .rel h
 |cons _ ih=>exact .cons (ih (Nat.succ.inj e))
theorem Pw(h:x<y):∀a:List Int,Lx (a++[x]) (a++[y])
 |[]=> .rel h
 |_::a=> .cons (Pw h a)
def Le.snoc(e:a.length=b.length)(h:Le a b):Le (a++[g]) (b++[g]):=by
 rcases h with rfl|h
 .exact .inl rfl
 .exact .inr (Nc e h)
section
variable{zA:Ya}{l:Nat}{R:Ye}{due:List Int->Bool}
def EX(p:List (List Int)×Lvl)(c:List Int×List Int):List (List Int)×Lvl:=if c.1∈p.1 then p else(p.1++[c.1],p.2++[c])
def cnd(zA:Ya)(l:Nat)(level:Lvl):Lvl:=level.flatMap λs=>(Av l).map λg=>(setR zA s.1 g,s.2++[g])
def aX(p:List (List Int)×Lvl)(s:List Int×List Int):CM zA l p s=((Av l).map λg=>(setR zA s.1 g,s.2++[g])).foldl EX p:=by
 erw[CM];rw[List.foldl_map];rfl
def ZG(level:Lvl):∀p,level.foldl (CM zA l) p=(cnd zA l level).foldl EX p:=by
 induction level with
 |nil=>intro p;rfl
 |cons s r ih=>
  intro p;rw[List.foldl_cons,ih,aX];erw[cnd];rw[Eb,Dr]
theorem ML:∀(cs:Lvl){seen:Ya}{p:List (List Int)×Lvl},p.1=seen++p.2.map (·.1)->(p.2++cs).Pairwise (λa b=>Lx a.2 b.2)->(cs.foldl EX p).2.Pairwise (λa b=>Lx a.2 b.2)/\(∀q∈p.2,q∈(cs.foldl EX p).2)/\∀c∈cs,c.1∉seen->∃q∈(cs.foldl EX p).2,q.1=c.1/\Le q.2 c.2
 |[],_,p,_,h=>#[by rw[BI]at h;exact h,λq hq=>hq,λc hc=>by ext hc]
 |c::cs,seen,p,e,h=>by
  rw[List.foldl_cons];by_cases hc:c.1∈p.1
  .have e1:EX p c=p:=by erw[EX];rw[AB hc]
   rw[e1];let h':(p.2++cs).Pairwise (λa b=>Lx a.2 b.2):=h.sublist (List.Sublist.append_left (List.sublist_cons_self _ _) _);let(a1,a2,a3):=ML cs e h';refine#[a1,a2,λd hd hn=>?_];rcases AK.mp hd with z|z
   .subst z;rw[e]at hc;rcases Ae.mp hc with y|y
    .exact absurd y hn
    .obtain⟨q,hq,eq⟩:=AL.mp y;exact#[q,a2 q hq,eq,.inr ((List.pairwise_append.mp h).2.2 q hq d AR)]
   .exact a3 d z hn
  .have e1:EX p c=(p.1++[c.1],p.2++[c]):=by erw[EX];rw[AE hc]
   rw[e1];let(a1,a2,a3):=ML cs (p:=(p.1++[c.1],p.2++[c])) (by show p.1++[c.1]=seen++(p.2++[c]).map (·.1);rw[e];simp) (by show((p.2++[c])++cs).Pairwise _;rw[Bx];calc h);refine#[a1,λq hq=>a2 q (CI _ hq),λd hd hn=>?_];rcases AK.mp hd with z|z
   .subst z;exact#[d,a2 d (by simp),rfl,.inl rfl]
   .exact a3 d z hn
def ZC(hl:∀p∈level,p.2.length=n)(h:level.Pairwise (λa b=>Lx a.2 b.2)):(cnd zA l level).Pairwise (λa b=>Lx a.2 b.2):=by
 erw[cnd];rw[List.pairwise_flatMap];refine#[λs hs=>?_,(List.Pairwise.and_mem.mp h).imp λ{a b} hab x hx y hy=>?_]
 .rw[FL];erw[Av];rw[FL];exact List.pairwise_lt_range.imp λh=>Pw () _
 .obtain⟨g,_,rfl⟩:=AL.mp hx;let(k,_,rfl):=AL.mp hy;calc Nc (by rw[hl a hab.1,hl b hab.2.1]) hab.2.2
structure Lo(zA:Ya)(l:Nat)(R:Ye)(level:Lvl)(acc:List (List (List Int))):Prop where
 so:level.Pairwise (λa b=>Lx a.2 b.2)
 ls:∀v,Wd l v->v.length=acc.length->broR zA R v∉acc.flatten->∃q∈level,q.1=broR zA R v/\Le q.2 v
def j8(v:Ye)(g:Int):broR zA R (v++[g])=setR zA (broR zA R v) g:=by erw[broR];rw[Dr];rfl
def cP{acc:List (List (List Int))}{K:Ya}{j:Nat}{S:Ye}(h:acc[j]?=some K)(hS:S∈K):S∈acc.flatten:=List.mem_flatten.mpr #[K,Ca h,hS]
def Lo.next{seen:Ya}{level:Lvl}{acc:List (List (List Int))}(mt:Met zA seen level)(b:Bf zA l R due seen level acc)(h:Lo zA l R level acc):Lo zA l R (B8 zA l seen level).2 (acc++[level.map (·.1)]):=by
 let hl:∀p∈level,p.2.length=acc.length:=λp hp=>(b.wd p hp).2.2;let(a1,_,a3):=ML (cnd zA l level) (seen:=seen) (p:=(seen,[])) (by simp) (by rw[List.nil_append];calc ZC hl h.so);let e:B8 zA l seen level=(cnd zA l level).foldl EX (seen,[]):=ZG level _;rw[e];refine#[a1,λv hv hvl hn=>?_];rw[AW]at hvl;let hne:v≠[]:=λz=>by rw[z]at hvl;simp at hvl
 obtain⟨u,g,rfl⟩:∃u g,v=u++[g]:=#[v.dropLast,v.getLast hne,(List.dropLast_concat_getLast hne).symm];let hu:Wd l u:=λx hx=>hv x (CI _ hx);let hg:=hv g (by simp);let hul:u.length=acc.length:=by simp at hvl;omega
 rw[j8]at hn ⊢;let hgm:g∈Av l:=AL.mpr #[g.toNat,A9.mpr (),()];let hn1:broR zA R u∉acc.flatten:=λz=>by
  let(L,hL,hS):=List.mem_flatten.mp z;let(k,hk,ek):=List.mem_iff_getElem.mp hL;let(j,K,_,hK,hm):=b.cl k L (by rw[AO hk,ek]) _ hS g hgm;exact hn (cP hK hm)
 let(q,hq,eq,hle):=h.ls u hu hul hn1;let hc:(setR zA q.1 g,q.2++[g])∈cnd zA l level:=List.mem_flatMap.mpr #[q,hq,AL.mpr #[g,hgm,rfl]];let(q2,hq2,eq2,hle2):=a3 _ hc (λz=>hn (by
  rw[<-eq];rcases b.sn _ z with y|y
  .rw[List.flatten_append];exact CI _ y
  .rw[List.flatten_append];calc Ak _ (~~~y)))
 calc#[q2,hq2,by rw[eq2,eq],hle2.trans (hle.snoc (by rw[hl q hq,hul]))]
theorem Oy(m:IsM zA l):∀(n:Nat){seen:Ya}{level:Lvl}{acc:List (List (List Int))}{r:Option (List Int)×List (List (List Int))},Met zA seen level->Bf zA l R due seen level acc->Lo zA l R level acc->Lae.run zA l due n seen level acc=some r->∀w,r.1=some w->∀v,Wd l v->due (broR zA R v)=true->v.length=w.length->Le w v
 |0,_,_,_,_,_,_,_,h=>by ext h
 |n+1,seen,level,acc,r,mt,b,lo,h=>by
  erw[Lae.run]at h;cbv at h
  .cases h;intro w hw;ext hw
  .split at h
   .intros p hp;ext h;intro w hw v hv hd hvl;ext hw;let hpm:p∈level:=List.mem_of_find?_eq_some hp;let(q,hq,eq,hle):=lo.ls v hv (hvl.trans (b.wd p hpm).2.2) (λz=>by
     let(L,hL,hS):=List.mem_flatten.mp z;have:=b.nd L hL _ hS;rw[hd]at this;ext this)
    calc Le.trans ?_ hle;let(_,as,bs,rfl,hno):=List.find?_eq_some_iff_append.mp hp;rcases Ae.mp hq with z|z
    .have:=hno q z;rw[eq,hd]at this;ext this
    .rcases AK.mp z with z|z
     .rw[z];exact .inl rfl
     .exact .inr ((Dd.mp (List.pairwise_append.mp lo.so).2.1).1 q z)
   .intros hp;calc Oy m n (mt.next m).met (b.next m mt hp) (lo.next mt b) h
end
open Lac (EK Ja)
def Oc:List D->FF:=OX (toD (fOp kLe (fB An (zQ (zC 0) ze)) (zC 1)))
def LS:FS:=(zq (IA [2] (Ih Oc) (zD (toD (zC 0)) (zD (toD (zC 1)) zG)) zG))
def IU:FF:=DY (AV 3 LS)
def Te:List D->FF:=OX (toD (fOp kLe (fB An (zQ (zC 0) ze)) (zC 1)))
def Mj:FS:=(zq (IA [2] (HP Te) (zD (toD (zC 0)) (zD (toD (zC 1)) zG)) (zD (toD (zC 3)) zG)))
def Iz:FF:=AV 4 Mj
def orE(ha:a Y A=some (false,A))(hb:b Y A=some (k,A)):Bl a b Y A=some (k,A):=by erw[Bl];rw[ha];calc hb
section
variable{zA:Ya}{l:Nat}{R:Ye}{due:List Int->Bool}
def Ro:fOp kLe (fB An (zQ (zC 0) ze)) (zC 1) [some (tI S),some (.int many)] M=some (.dat (.bl (decide ((S.length:Int)<=many))),M):=by
 let e:=Dc (f:=zC 0) (Y:=[some (tI S),some (.int many)]) (M:=M) rfl zb;rw[AG]at e;calc zL e rfl (zR (MU.mpr #[rfl,rfl]))
def S5(h:f Y M=some (.dat d,M)):toD f Y M=some (d,M):=by erw[toD];rw[h]
def fN(m:IsM zA l)(h9:zA.length<=9)(hl9:l<=1000)(sR:IsS zA R)(h2:R.length<=2)(hr:run zA l (λS=>decide ((S.length:Int)<=many)) 1000 [R] [(R,[])] []=some r):IU [mD zA,tI R,.int many] M=some (C7 r,M):=by
 calc zR ?_;erw[IU];calc Fp (by erw[D.unds,D.unds,D.unds,D.unds];rw[FQ,Kz];rfl) ?_;rw[zn];erw[LS];let hG:∀S M',IsS zA S->Oc [.int many] [tI S] M'=some (.bl (decide ((S.length:Int)<=many)),M'):=λS M' _=>S5 Ro;calc zv (TY (zU rfl (zY rfl)) rfl rfl λlm=>W3 m h9 hl9 hG rfl sR h2 hr) #[TH _,rfl,rfl]
def Lj:GR [.tup (.str s::ds),.str s',.int n] M=some (.bl (decide (((ds.length+1:Nat):Int)=n)&&dc (s=s')),M):=by
 erw[GR,KO];refine Fy ((DA (a:=true) (isV rfl rfl ()) λ_=>DA (zL (Dc rfl zb) rfl (zR (FV.mpr #[rfl,rfl]))) λ_=>DA (a:=true) (isV (zL rfl rfl (BZ zb (EI rfl))) rfl ()) λ_=>zL (zL rfl rfl (BZ zb (EI rfl))) rfl eqS).trans ?_);rfl
def Pf(m:IsM zA l)(h9:zA.length<=9)(hl9:l<=1000)(hL:LB zA LL)(wf:∀(j:Nat) u,M[j]?=some u->MO.und M.length u=true):Gj [mD zA,tI R,shT LL,.bl b] M=some (.bl (shB zA l R LL b),M):=by
 erw[Gj];calc EK wf rfl (mI m h9 hl9 hL wf)
def eO(m:IsM zA l)(h9:zA.length<=9)(hl9:l<=1000)(sR:IsS zA R){gL:List D->FF}{lL:Lm}{cs:List D}(hG:∀S M',IsS zA S->gL cs [tI S] M'=some (.bl (due S),M')){r:Option (List Int)×List (List (List Int))}(hf:run zA l due 1000 [R] [(R,[])] []=some r){M:Mem}(wf:∀(j:Nat) u,M[j]?=some u->MO.und M.length u=true):HP gL lL [mD zA,tI R,.fn lL cs,C7 r] M=some (.bl true,M):=by
 let he:=Nh m sR hf;let(eS,hL,_):=rP m h9 sR hf;let(s1,s2):=he.shown m h9 sR;let hd:=m8 (lL:=lL) hG hL.ok (M:=M);rw[s2]at hd;let hlen:=AG (f:=A0) (as:=r.2);calc zR ?_;erw[HP];rw[zn];erw[KW,C7];cases h1:r.1 with
 |none=>
  rw[h1]at s1;rw[eS];generalize r.2.map A0=LL at hL s1 hd;let sl:=Pf (R:=R) (b:=true) m h9 hl9 hL.ok wf;rw[show shB zA l R LL true=true from s1]at sl;let e1:fOp kIx (zC 3) (fC (.int 1)) [some (mD zA),some (tI R),some (.fn lL cs),some (.tup [.str "none",shT LL])] M=some (.dat (shT LL),M):=zL rfl rfl (BZ zb (EI rfl));calc Fs (zr (zV (zU rfl (zU rfl (zY rfl))) (Lj (n:=3)))) (HV ((zr (zV (zU rfl (zU rfl (zY rfl))) (Lj (n:=2)))).trans (by rw[E9 rfl];rfl)) ?_);exact zv (DA (zV (zU rfl (zU rfl (zU e1 (zY rfl)))) sl) λ_=>My (zV (zU e1 (zY rfl)) hd)) #[rfl,rfl]
 |some w=>
  let(w1,w2,w3):=he.word h1;let hwl:=NQ 1000 hf;simp only[List.length_nil]at hwl;rw[h1]at s1;rw[eS];generalize r.2.map A0=LL at hL s1 hd hlen;let sl:=Pf (R:=R) (b:=false) m h9 hl9 hL.ok wf;rw[show shB zA l R LL false=true from s1]at sl;let ew:Hj gL lL [mD zA,tI R,.fn lL cs,tI w,shT LL] M=some (.bl true,M):=by
   calc zR ?_;erw[Hj];rw[zn];erw[Jo];let hg:=hG _ M (m.broR w sR w1);rw[w2]at hg;calc Fs (orE ((ntE (zV (zU rfl (zY rfl)) (Zu m (nK ())))).trans (by rw[iL w1];rfl)) (ntE (NI rfl (zV (zU rfl (zU rfl (zY rfl))) (VE m () sR w1 ())) hg))) (Fs (ntE (zV (zU rfl (zU rfl (zU rfl (zY rfl)))) sl)) ?_);refine zv (DA (zL (Dc rfl zb) (Dc rfl zb) (zR (FV.mpr #[rfl,rfl]))) λ_=>My (zV (zU rfl (zY rfl)) hd)) #[?_,rfl];rw[AG,AG,Az ()];rfl
  calc HV ((zr (zV (zU rfl (zU rfl (zY rfl))) (Lj))).trans (by rw[E9 rfl];rfl)) ?_;calc zv (zV (zU rfl (zU rfl (zU rfl (zU (zL rfl rfl (BZ zb (EI rfl))) (zY (zL rfl rfl (BZ zb (EI rfl)))))))) ew) #[rfl,rfl]
def Vg(m:IsM zA l)(h9:zA.length<=9)(hl9:l<=1000)(sR:IsS zA R){many:Int}{M:Mem}(wf:∀(j:Nat) u,M[j]?=some u->MO.und M.length u=true){r:Option (List Int)×List (List (List Int))}(hf:run zA l (λS=>decide ((S.length:Int)<=many)) 1000 [R] [(R,[])] []=some r):Iz [mD zA,tI R,.int many,C7 r] M=some (.bl true,M):=by
 erw[Iz,Mj];calc Fy (TY (zU rfl (zY rfl)) (zY rfl) rfl λlm=>eO m h9 hl9 sR (λS M' _=>S5 Ro) hf wf)
end
end Lap
namespace Lac
open L2 L3 ST Law
def Jw:FS:=(zW (zw 1 (zP F3 (zD (toD (zC 0)) zG)))
  (zq (fB BP (zQ (zu [2] (AN (zP EA (zD (toD (zP EJ (zD (toD (zC 0)) zG))) zG))) (gN 2) (tst (fOp (As true) (zC 2) (zC 1))) (zC 2)) ze))))
def G5:FF:=DY (AV 3 Jw)
open Classical in
def HU(zA:Ya)(l:Nat):List (List Int):=(zZ (zJ zA)).filter λp=>decide (p∉A3 zA l One)
def Y7(n:Nat)(ps:Ya):D.und n (.tup (ps.map tI))=true:=by erw[D.und];calc Tf n ps
def RH(m:IsM zA l)(hR:zA.length<=26)(hl:l<=12):G5 [mD zA] M=some (.tup ((HU zA l).map tI),M):=by
 calc zR ?_;erw[G5];refine Fp ?_ ?_
 .unfold D.unds D.unds;rw[FQ];rfl
 rw[zn];erw[Jw];let(d,M1,e,jf,rfl,_,(fd,h2,_,sp),_,_):=UC m hR hl;rw[zM,za];calc zE (zV (zY (d:=mD zA) rfl) e) ?_;rw[zO,zS];let hrl:(zJ zA).length=zA.length:=by erw[zJ];simp
 let epr:=ON (xs:=zJ zA) () (M:=M1);let ei:AN (zP EA (zD (toD (zP EJ (zD (toD (zC 0)) zG))) zG)) [some (mD zA),some (.ref jf),none] M1=_:=LR (zY (d:=tI (zJ zA)) (zV (zY rfl) (Nt ()))) epr (Ci _ _);let hjl:=(AI.mp h2).1;let hPl:=Il hR;let ef:=Ja (own:=[2]) (g:=gN 2) (tc:=tst (fOp (As true) (zC 2) (zC 1))) (te:=zC 2) (zZ (zJ zA)) tI tI (λp=>open Classical in decide (p∉A3 zA l One)) ei (.inl (Ci _ _)) () (λp hp=>by
  refine#[[some (mD zA),some (.ref jf),some (tI p)],rfl,?_,λ_=>rfl];let e1:fOp (As true) (zC 2) (zC 1) [some (mD zA),some (.ref jf),some (tI p)] (M1++[MO.lst ((zZ (zJ zA)).map tI)])=_:=zL (x:=.dat (tI p)) rfl rfl (BW (by rw[AM hjl];exact h2));rw[AB rfl]at e1;let hb:(zF fd p).isSome=true↔p∈A3 zA l One:=by
   rw[E6];constructor
   .intro h;cases eL:zF fd p with
    |none=>rw[eL]at h;ext h
    |some d=>
     let(_,n,hn,_):=(sp p d).mp eL;cases n with
     |zero=>
      let(a,b,rfl,_):=Es.mp hp;calc absurd (Dl.mp hn) (by simp[One])
     |succ n=>exact#[hp,n,hn]
   .rintro⟨_,n,hn⟩;rw[(sp p _).mpr #[Hz p hp,n+1,hn,rfl]];rfl
  rw[zr e1];by_cases hin:p∈A3 zA l One
  .rw[hb.mpr hin,Aw (~~~hin)];rfl
  .have:(zF fd p).isSome=false:=by
    cases h:(zF fd p).isSome with
    |false=>rfl
    |true=>exact absurd (hb.mp h) hin
   rw[this,Az hin];rfl)
 rw[CG];calc JV.mpr (IP.mpr (zE ef (II.mpr ((MG Fh).mpr ?_))));rw[zO];calc#[Y7 0 _,rfl,rfl]
def Ke:FS:=(zq (fB BP (zQ (zu [1,2,3] (JH (zP GJ (zD (toD (zC 0)) zG))) (Ky 1 2 3) zc (A1 (zD (toD (zC 1)) (zD (toD (zC 2)) (zD (toD (zC 3)) zG))))) ze)))
def Gg:FF:=DY (AV 4 Ke)
def Ed(zA:Ya)(l:Nat)(p:Ye):D:=.tup [tI p,.int (B6 zA l One p:Nat),.int (JI zA l One p)]
def WL(zA:Ya)(l:Nat)(ps:Ya):D.und 0 (.tup (ps.map (Ed zA l)))=true:=by
 erw[D.und];induction ps with
 |nil=>rfl
 |cons p r ih=>
  rw[AU];erw[D.unds];rw[ih];erw[Ed,D.und,D.unds,D.unds,D.unds,D.unds];rw[show D.und 0 (tI p)=true from Ct _];rfl
def Ug(hR:zA.length<=26):(A3 zA l One).length<=676:=Ab (Gx _ _) (Il hR)
def eV{M M1:Mem}{T:List (List Int×D)}(ha:a Y M=some (ds,M))(hg:g ds M=some (.ref jr,M1))(hr:M1[jr]?=some (dT T)):JH (zP g a) Y M=some (T.map (λq=>D.tup [tI q.1,q.2]),none,M1.set jr (.set [])):=by
 erw[JH];rw[zV ha hg];symm;rw[hr];show some ((BC T).map (λp=>D.tup [p.1,p.2]),_,_)=_;erw[BC];rw[Af];rfl
def Sf{zA:Ya}(m:IsM zA l)(hR:zA.length<=26)(hl:l<=12):Gg [mD zA] M=some (.tup ((A3 zA l One).map (Ed zA l)),M):=by
 calc zR ?_;erw[Gg];refine Fp ?_ ?_
 .unfold D.unds D.unds;rw[FQ];rfl
 rw[zn];erw[Ke];let(d,M1,e,jr,rfl,_,hr,_,_):=Qo m hR hl;let ei:=eV (Y:=[some (mD zA),none,none,none]) (zY (f:=zC 0) rfl) e hr;let ef:=Ja (own:=[1,2,3]) (g:=Ky 1 2 3) (tc:=zc) (te:=A1 (zD (toD (zC 1)) (zD (toD (zC 2)) (zD (toD (zC 3)) zG)))) (CJ zA l One) (λq=>D.tup [tI q.1,q.2]) (λq=>Ed zA l q.1) (λ_=>true) ei trivial (by have:=Ug (l:=l) hR;erw[CJ];rw[AG];omega) (λq hq=>by
  let(p,_,rfl):=AL.mp hq;calc#[[some (mD zA),some (tI p),some (.int (B6 zA l One p:Nat)),some (.int (JI zA l One p))],rfl,rfl,λ_=>J3 (zU (d:=tI p) rfl (zU rfl (zY rfl))) (by simp)])
 let hft:((CJ zA l One).filter λ_=>true).map (λq=>Ed zA l q.1)=(A3 zA l One).map (Ed zA l):=by
  rw[List.filter_eq_self.mpr λ_ _=>rfl];erw[CJ];rw[Af];rfl
 rw[hft]at ef;rw[CG];calc JV.mpr (IP.mpr (zE ef (II.mpr ((MG Fh).mpr ?_))));rw[zO];calc#[WL _ _ _,rfl,rfl]
end Lac
namespace Lap
open L2 L3 ST
open Law
open Lae (C7 run Nh Pj Ny dc E9 Hl eqS J7 Wd lvD shD)
open Lac (Sx MT RF Sf RH Pr A3 E6 HU Ed B6 Fc One Dst Rch Climb N0 JW Kc J4 KS NX DD Dl Fe Lp Lz zZ Es zJ dT BC Ad zF GW Bg BW Cp GQ Fx GS Gg G5 Gv Bv Ci Ho TV RL Hg aC' IS Il Col)
def MF:FS:=(zW (zw 1 (zP IT (zD (toD (zC 0)) zG)))
  (zW (zw 2 (fOp BA (fC (.int 2)) (zP zo (zD (toD (zC 1)) (zD (toD (fC (.int 8))) zG)))))
  (zW (zw 3 (zP GQ (zD (toD (zC 1)) (zD (toD (zC 2)) (zD (toD (fOp BA (fC (.int 1)) (zP zo (zD (toD (zC 1)) (zD (toD (fC (.int 4))) zG))))) zG)))))
  (zW (zw 4 IE)
  (zW (BO (AN (zP Gg (zD (toD (zC 3)) zG))) (Mc 5 6 7) (Bd (zC 6) (zC 4) (zC 5)))
  (zW (zw 8 (zP G5 (zD (toD (zC 3)) zG)))
  (zW (zw 9 (zP GS (zD (toD (HS (zC 2))) zG)))
  (zW (BO (AN (zP Fx (zD (toD (zC 1)) (zD (toD (fB An (zQ (zC 9) ze))) zG)))) (gN 10) (zW (zw 5 (fOp kIx (zC 9) (zC 10)))
  (zW (zw 11 (zP IU (zD (toD (zC 3)) (zD (toD (zC 5)) (zD (toD (fC (.int 1))) zG)))))
  (zW (zw 12 (zP Gv (zD (toD (zC 3)) (zD (toD (fOp kIx (zC 5) (fC (.int 1)))) (zD (toD (fOp kIx (zC 5) (fC (.int 0)))) zG)))))
  (zW (sIf (tst (fOp (kIs true) (zP Iz (zD (toD (zC 3)) (zD (toD (zC 5)) (zD (toD (fC (.int 1))) (zD (toD (zC 11)) zG))))) (fC (.bl true)))) (zq (fC (.bl false))) Ao)
  (sIf (tst (fOp kEq (fOp kIx (zC 11) (fC (.int 0))) (fC (.str "word")))) (sIf (Bl (tst (fOp (kTr true 0) (zC 12) (fOp kIx (zC 11) (fC (.int 1))))) (Bl (tst (fOp (EH false) (zC 5) (zC 8))) (tst (fOp kNe (fB An (zQ (fOp kIx (zC 11) (fC (.int 2))) ze)) (IQ (zC 4) (zC 5)))))) (zq (fC (.bl false))) Ao) (sIf (Bl (tst (fOp (kIs true) (zC 12) (fC .non))) (Bl (tst (fOp (EH true) (zC 5) (zC 8))) (tst (fOp (As false) (zC 5) (zC 4))))) (zq (fC (.bl false))) Ao)))))))
  (zq (fC (.bl true)))))))))))
def Fq:FF:=AV 13 MF
def TB:∀{T:List (List Int×D)},(∀q∈T,∃v:Int,q.2=.int v)->MO.und n (dT T)=true:=by
 intro T h;show(BC T).all (λp=>D.und n p.1&&D.und n p.2)=true;rw[Am];intro p hp;erw[BC]at hp;let(q,hq,rfl):=AL.mp hp;let(v,e):=h q hq;rw[e,show D.und n (tI q.1)=true from Ct _];erw[D.und];rfl
def RD(h:∀q∈T,∃v:Int,q.2=.int v):∀q∈Ad T g (.int v),∃v:Int,q.2=.int v:=by
 intro q hq;erw[Ad]at hq;cbv at hq
 .obtain⟨p,hp,rfl⟩:=AL.mp hq;split
  .exact#[v,rfl]
  .exact h p hp
 .rcases Ae.mp hq with z|z
  .exact h q z
  .rw[Ac.mp z];calc#[v,rfl]
def Y5:(Ad T g v).length<=T.length+1:=by
 erw[Ad];split
 .rw[AG];omega
 .simp
def Tn(g:Gen A n k)(hu:∀u∈us,MO.und (A.length+us.length) u=true):Nw A (A++us) n k:=#[g.app hu,by simp,λj hj _ _=>AM hj]
def sD:kTr true 0 (.dat (tI N)) (.dat (tI N)) M=some (.dat (.bl false),M):=by
 let h:(N.map D.int).all (zm 0)=true:=by
  rw[Am];intro x hx;let(i,_,rfl):=AL.mp hx;rfl
 erw[kTr];show(if(N.map D.int).all (zm 0)&&(N.map D.int).all (zm 0)then _ else _)=_;let e:Aq (0+1) (.tup (N.map D.int)) (.tup (N.map D.int))=true:=Jf 1 _ h;rw[h,Bool.and_self,AB rfl,e];rfl
def Zy(hf:f Y M=some (.dat (.ref n),M))(hn:M[n]?=some (dT T))(hg:g Y M=some (.dat (tI k),M))(hd:zF T k=some d):IQ f g Y M=some (.dat d,M):=by
 erw[IQ];rw[Hg hf];symm;rw[hn];rw[Hg hg];symm;have:EM M (.dat (.ref n)) (tI k)=some (zF T k):=by
  let e:=BW (neg:=false) (g:=k) hn;let e2:=Lac.C6 hn hd;erw[BE]at e2;dsimp only at e2;rw[hd];cbv at e2
  .intros d' e3;ext e2;exact e3
  .ext e2
 rw[this,hd];rfl
section
variable{zA:Ya}{l:Nat}
def iK(m:IsM zA l)(hp:p∈zZ (zJ zA))(sR:IsS zA p)(hr:run zA l (λS=>decide ((S.length:Int)<=1)) 1000 [p] [(p,[])] []=some r):
  (∀w,r.1=some w->Fe zA l One p=tI w/\p∈A3 zA l One/\B6 zA l One p=w.length/\r.2.length=w.length)/\(r.1=none->Fe zA l One p=.non/\p∉A3 zA l One):=by
 let he:=Nh m sR hr;let hp2:p.length=2:=by let(a,b,rfl,_):=Es.mp hp;rfl
 let duo:∀v,Wd l v->(decide (((broR zA p v).length:Int)<=1)=true↔One (broR zA p v)):=λv hv=>by
  have:=(m.broR v sR hv).n0;rw[DM];omega
 refine#[λw hw=>?_,λhn=>?_]
 .obtain⟨w1,w2,w3⟩:=he.word hw;let hone:=(duo w w1).mp w2;let(k,hk,hd):=NX w.length #[w,rfl,w1,hone];let(u,hu):=J4 k hd;let hul:=JW hu hd;let(u1,u2):=Kc hu;let(w',hw',hle):=he.least u1 ((duo u u1).mpr u2);rw[hw]at hw';ext hw';let hlen:u.length=w.length:=()
  let mt:Lae.Met zA [p] [(p,[])]:=#[by simp,λS hS=>by rw[Ac.mp hS];exact sR,λq hq=>by rw[Ac.mp hq];exact sR];let bf:Lae.Bf zA l p (λS=>decide ((S.length:Int)<=1)) [p] [(p,[])] []:=#[λS hS=> .inr (~~~hS),λq hq=>by rw[Ac.mp hq];exact#[rfl,(λg hg=>by ext hg),rfl],rfl,λk L hL=>by simp at hL,λ_ h=>by ext h];let lo:Lo zA l p [(p,[])] []:=#[List.pairwise_singleton _ _,λv hv hvl _=>by
   have:v=[]:=EF.mp hvl;subst this;calc#[_,List.mem_singleton_self _,rfl,.inl rfl]]
  let h1:=Oy m 1000 mt bf lo hr w hw u u1 ((duo u u1).mpr u2) hlen;let h2:Le u w:=N0 hu w1 hone hlen.symm;let e:=h2.anti h1;subst e;let hpos:∃j,u.length=j+1:=by
   cases hu0:u.length with
   |zero=>
    have:u=[]:=EF.mp hu0;rw[this]at hone;let hone:p.length=1:=hone;omega
   |succ j=>exact#[j,rfl]
  let(j,hj):=hpos;let hdu:=KS hu;refine#[Lp hu,E6.mpr #[hp,j,by rw[<-hj];calc hdu],Fc hdu,w3.symm]
 .have none_:∀v,Wd l v->¬ One (broR zA p v):=λv hv ho=>by
   let(w,hw,_):=he.least hv ((duo v hv).mpr ho);rw[hn]at hw;ext hw
  refine#[Lz λ⟨w,hw⟩=>?_,λhm=>?_]
  .obtain⟨u1,u2⟩:=Kc hw;exact none_ w u1 u2
  .obtain⟨_,j,⟨⟨v,_,hv,ho⟩,_⟩⟩:=E6.mp hm;calc none_ v hv ho
def R9(ha:a Y M=some (false,M))(hb:b Y M=some (false,M))(hc:c Y M=some (false,M)):Bl a (Bl b c) Y M=some (false,M):=IS ha (IS hb hc)
def neI:kNe (.dat (.int i)) (.dat (.int j)) M=some (.dat (.bl (decide (i≠j))),M):=zR (Vv.mpr #[rfl,rfl])
def qB(ns:Ye)(h:ns.length<=63):∃M',Fq [.ref 0] [.fro (ns.map D.int)]=some (.bl true,M'):=by
 suffices hh:Ok (Fq [.ref 0] [.fro (ns.map D.int)]) λd _=>d=.bl true by
  let(d,M',e,rfl):=hh;exact#[M',e]
 erw[Fq];rw[zn];erw[MF];rw[zM,za];calc EW.mpr (zE (zY (d:=.ref 0) rfl) (Ok.mono (Zm h) ?_));rintro d M1 ⟨rfl,g1,e0,_⟩;rw[zO,zS,zM,za];refine A4.mpr (zE rfl (Dw g1 rfl rfl () () λi M2 i0 i1 nx2=>zE (a:=.dat (.int (2+i))) rfl ?_));rw[zO,zS,zM,za];calc EW.mpr (C2.mpr (Bp.mpr (zE (a:=.dat (.ref 2)) rfl ?_)));rw[zO];calc C2.mpr (Bp.mpr (zE (a:=.dat (.int (2+i))) rfl ?_));rw[zO];refine C2.mpr (Bp.mpr (A4.mpr (zE rfl (Dw nx2.gen rfl rfl () () λj M3 j0 j1 nx3=>zE (a:=.dat (.int (1+j))) rfl ?_))));rw[zO,EC];calc Ok.mono (Sx nx3.gen () () () ()) ?_;rintro d M4 ⟨⟨zA,l,rfl,m,hR,hL⟩,nw4⟩;rw[zO,zS];let g4:=nw4.gen;let g4l:=g4.lt;let h9:zA.length<=9:=()
 let h26:zA.length<=26:=()
 let hl4:l<=12:=()
 rw[<-hR];rw[zM,za];calc zE (a:=.dat (.ref M4.length)) (M:=M4++[dT []]) rfl ?_;rw[zO,zS];let nw5:Nw M4 (M4++[dT []]) 2 1:=Tn g4 λu hu=>by rw[Ac.mp hu];exact TB λ_ h=>by ext h
 let e5:(M4++[dT []])[M4.length]?=some (dT []):=Ci _ _;generalize M4++[dT []]=M5 at nw5 e5;obtain⟨z,hzz⟩:∃z,z=M4.length:=#[_,rfl];rw[<-hzz]at e5 ⊢;let hz:M4.length<=z:=()
 rw[zM,Cg];calc#[_,_,_,G8 (zV (zY (d:=mD zA) rfl) (Sf m h26 hl4)),?_];let hrl:(A3 zA l One).length<=676:=Lac.Ug h26;refine Cy (gd:=none) (I:=λrr Y A=>∃t,rr=((A3 zA l One).map (Ed zA l)).drop t/\t<=(A3 zA l One).length/\(∃y5 y6 y7,Y=[some (.ref 0),some (.ref 2),some (.int (zA.length:Int)),some (mD zA),some (.ref z),y5,y6,y7,none,none,none,none,none])/\Nw M4 A 2 1/\∃T,A[z]?=some (dT T)/\T.length<=t/\(∀q∈T,∃v:Int,q.2=.int v)/\∀p,zF T p=if p∈(A3 zA l One).take t then some (.int (B6 zA l One p:Nat))else none) ?_ ?_ _ _ _ #[0,rfl,BV _,#[_,_,_,rfl],nw5,[],e5,AF _,(λ_ h=>by ext h),λp=>by rw[AE (by simp)];rfl]
 .rintro x rr Y A ⟨t,er,ht,⟨y5,y6,y7,rfl⟩,nw,T,eT,hTl,hTi,hTk⟩;refine#[trivial,?_];let hx:((A3 zA l One).map (Ed zA l))[t]?=some x:=by
   have:=Ba (·[0]?) er;simpa using this.symm
  let hrr:rr=((A3 zA l One).map (Ed zA l)).drop (t+1):=by
   have:=Ba (List.drop 1) er;simpa using this
  rw[Au]at hx;let(p,ep,rfl):=Option.map_eq_some_iff.mp hx;let hlt:t<(A3 zA l One).length:=(AI.mp ep).1;calc#[_,rfl,?_];refine Ho (v:=.int (B6 zA l One p:Nat)) (k:=tI p) (n:=z) rfl rfl rfl (Bg eT ()) #[t+1,hrr,hlt,#[_,_,_,rfl],nw.setB g4 hz (TB (RD hTi)),_,B3 (AI.mp eT).1,Ab Y5 (),RD hTi,λq=>?_];rw[GW,hTk q,List.take_add_one,ep];by_cases hq:p=q
  .subst hq;rw[AB rfl,AB (by simp)]
  .rw[AE hq];by_cases hq2:q∈(A3 zA l One).take t
   .rw[AB hq2,AB (CI _ hq2)]
   .rw[AE hq2,AE λz=>(Ae.mp z).elim hq2 λy=>hq (show q=p by simpa using y).symm]
 .rintro Y A ⟨t,er,ht,⟨y5,y6,y7,rfl⟩,nw,T,eT,hTl,hTi,hTk⟩;refine#[trivial,?_];have:t=(A3 zA l One).length:=by
   have:=Ba List.length er;rw[FX,AG]at this;simp at this;omega
  subst this;rw[List.take_of_length_le (AF _)]at hTk;rw[zS];refine DK (zV (zY (d:=mD zA) rfl) (RH m h26 hl4)) ?_;rw[zM,za];let hroom:(zJ zA).Pairwise (· < ·):=by
   erw[zJ];rw[FL];exact List.pairwise_lt_range.imp λh=>()
  let hrlen:(zJ zA).length=zA.length:=by erw[zJ];simp
  refine EW.mpr (zE (aC' (RL (TV (zA:=zA) (f:=zC 2) () rfl)) rfl) (Ok.mono (RF (Ci _ _) hroom ()) ?_));rintro d A2 ⟨rfl,us,rfl,hus⟩;rw[zO,zS];let nwa:=nw.trans (nw.gen.lst ((zJ zA).map D.int) (Ce _ _));let nwb:Nw (A++[MO.lst ((zJ zA).map D.int)]) ((A++[MO.lst ((zJ zA).map D.int)]) ++ .lst ((zZ (zJ zA)).map tI)::us) 2 1:=Tn nwa.gen λu hu=>by
   rcases AK.mp hu with z|z
   .rw[z];exact Gu λx hx=>by let(q,_,rfl):=AL.mp hx;exact Ct q
   .exact LU (BV _) (hus u z)
  let nwc:=nwa.trans nwb;let eP:((A++[MO.lst ((zJ zA).map D.int)]) ++ .lst ((zZ (zJ zA)).map tI)::us)[(A++[MO.lst ((zJ zA).map D.int)]).length]?=some (.lst ((zZ (zJ zA)).map tI)):=by simp
  let hzA:z<A.length:=(AI.mp eT).1;let eT2:((A++[MO.lst ((zJ zA).map D.int)]) ++ .lst ((zZ (zJ zA)).map tI)::us)[z]?=some (dT T):=by
   rw[Bx,AM hzA];exact eT
  let hPA:M4.length<=(A++[MO.lst ((zJ zA).map D.int)]).length:=nwa.len;generalize (A++[MO.lst ((zJ zA).map D.int)]) ++ .lst ((zZ (zJ zA)).map tI)::us=B at nwc eP eT2;generalize (A++[MO.lst ((zJ zA).map D.int)]).length=zp at eP hPA;rw[zM,Cg];let hP1:0<(zZ (zJ zA)).length:=by
   refine List.length_pos_of_mem (a:=[0,1]) (Es.mpr #[0,1,rfl,?_,?_,()])
   .exact AL.mpr #[0,A9.mpr (),rfl]
   .exact AL.mpr #[1,A9.mpr (),rfl]
  let hP2:=Il h26;let elen:=Dc (f:=zC 9) (Y:=[some (.ref 0),some (.ref 2),some (.int (zA.length:Int)),some (mD zA),some (.ref z),y5,y6,y7,some (.tup ((HU zA l).map tI)),some (.ref zp),none,none,none]) (M:=B) (x:=.dat (.ref zp)) rfl (zy eP);rw[AG]at elen;let(d,B2,eo,jo,c,rfl,ejo,hcol,hjo,nwo,_):=MT nwc.gen (many:=((zZ (zJ zA)).length:Nat)) () ();let eP2:=nwo.get eP () ();let eT3:=nwo.get eT2 () ();calc#[_,_,_,E3 (zV (zU (d:=.ref 2) rfl (zY elen)) eo) (zy ejo),?_];refine Cy (gd:=CQ (.dat (.ref jo)) (c.map D.int)) (I:=λrr Y A=>A=B2/\(∃cs:List Int,rr=cs.map D.int/\∀x∈cs,x∈c)/\∃y5 y10 y11 y12,Y=[some (.ref 0),some (.ref 2),some (.int (zA.length:Int)),some (mD zA),some (.ref z),y5,y6,y7,some (.tup ((HU zA l).map tI)),some (.ref zp),y10,y11,y12]) ?_ ?_ _ _ _ #[rfl,#[c,rfl,λ_ h=>h],_,_,_,_,rfl]
  .rintro x rr Y A ⟨rfl,⟨cs,er,hcs⟩,y5,y10,y11,y12,rfl⟩;refine#[Or.inl ejo,?_];let(k,cs',rfl,rfl,rfl):=K5 er;let(k0,k1):=hcol.2 k (hcs k AR);refine#[_,rfl,?_];obtain⟨p,ep⟩:∃p,(zZ (zJ zA))[k.toNat]?=some p:=#[_,AO ()];let hp:p∈zZ (zJ zA):=Ca ep;let(a,b,rfl,ha,hb,hab):=Es.mp hp;obtain⟨a0,a1⟩:0<=a/\a<(zA.length:Int):=by let(q,hq,rfl):=AL.mp ha;have:=A9.mp hq;omega
   obtain⟨b0,b1⟩:0<=b/\b<(zA.length:Int):=by let(q,hq,rfl):=AL.mp hb;have:=A9.mp hq;omega
   let sR:IsS zA [a,b]:=#[by simpa using hab,by simp,λx hx=>by
    simp only[AK,Bq,Br]at hx;rcases hx with rfl|rfl
    .exact#[a0,a1]
    .exact#[b0,b1]]
   let hat:atI ((zZ (zJ zA)).map tI) k=some (tI [a,b]):=by
    have:=EI (xs:=(zZ (zJ zA)).map tI) (j:=k.toNat) (by rw[Au,ep];rfl);rw[show((k.toNat:Nat):Int)=k by omega]at this;exact this
   calc DK (zL rfl rfl (BZ (zy eP2) hat)) ?_;let(r0,hr0,_):=Pj m h9 sR;obtain⟨r,hr⟩:∃r,run zA l (λS=>decide ((S.length:Int)<=1)) 1000 [[a,b]] [([a,b],[])] []=some r:=#[_,Ny 1000 (λs hs=>by rw[Ac.mp hs];rfl) hr0];let(tw,tn):=iK m hp sR hr;calc DK (zV (zU rfl (zU (d:=tI [a,b]) rfl (zY (d:=.int 1) rfl))) (fN m h9 () sR (by simp) hr)) ?_;let etog:=Pr m h26 hl4 b0 b1 a0 a1 (show b≠a by omega) (M:=A);let epr:Cp b a=[a,b]:=by erw[Cp];rw[AB (),AE ()]
   rw[epr]at etog;calc DK (zV (zU (d:=mD zA) rfl (zU (d:=.int b) (zL (x:=.dat (tI [a,b])) (y:=.dat (.int 1)) rfl rfl (BZ zb at1)) (zY (d:=.int a) (zL (x:=.dat (tI [a,b])) (y:=.dat (.int 0)) rfl rfl (BZ zb at0))))) etog) ?_;calc Fs (zr (zL (x:=.dat (.bl true)) (zV (zU rfl (zU rfl (zU rfl (zY rfl)))) (Vg m h9 () sR nwo.gen.wf hr)) rfl rfl)) ?_;rw[CH];let fin:(∃cs:List Int,cs'.map D.int=cs.map D.int/\∀x∈cs,x∈c):=#[cs',rfl,λx hx=>hcs x (Aa _ hx)];cases h1:r.1 with
   |some w=>
    let(t1,t2,t3,t4):=tw w h1;let eres:C7 r=.tup [.str "word",tI w,shD r.2]:=by erw[C7];rw[h1]
    rw[eres,t1];refine zE (zr (zL (zL rfl rfl (BZ zb at0)) rfl eqS)) ?_;rw[E9 rfl,AB rfl];let hna:[a,b]∉HU zA l:=λhh=>by
     have:=(C3.mp hh).2;exact(Cs this) t2
    calc S7 (R9 (zr (zL rfl (zL rfl rfl (BZ zb at1)) sD)) ((zr (zL rfl rfl (J7 zb))).trans (by rw[Aw hna];rfl)) ((zr (zL (Dc (zL rfl rfl (BZ zb (EI rfl))) zb) (Zy rfl eT3 rfl ((hTk [a,b]).trans (AB t2))) neI)).trans ?_)) #[rfl,fin,_,_,_,_,rfl];rw[AG,t3,t4];simp
   |none=>
    let(t1,t2):=tn h1;let eres:C7 r=.tup [.str "none",shD r.2]:=by erw[C7];rw[h1]
    rw[eres,t1];calc zE (zr (zL (zL rfl rfl (BZ zb at0)) rfl eqS)) ?_;rw[Hl (),AE Ax];let hna:[a,b]∈HU zA l:=C3.mpr #[hp,Az t2];calc S7 (R9 (zr (zL rfl rfl rfl)) ((zr (zL rfl rfl (J7 zb))).trans (by rw[Az hna];rfl)) ((zr (zL rfl rfl (BW eT3))).trans ?_)) #[rfl,fin,_,_,_,_,rfl];rw[hTk,AE t2];rfl
  .rintro Y A ⟨rfl,⟨cs,er,hcs⟩,y5,y10,y11,y12,rfl⟩;calc#[Or.inl ejo,?_];rw[zS];calc zv rfl rfl
end
end Lap
set_option maxHeartbeats 4000000
namespace Lap
open L2 L3 Law
open Lac (Cn Dp EJ Ku EA LJ HZ LH He KH F3 Jn z0 KY G0 LN GJ KZ HF Kb Gv LG Gg Ke G5 Jw Fx Kf HD Jq GQ Js GS KU)
open Lae (Hw Jm Fn KI HC Kg Fv IW Gj Ii GR KO GX J0 Hj Jo HP KW Gy Jh)
-- the text by places
def top(i:Nat):Stmt:=PySem.Challenge.pw_bringhome_k33_whole_pairs_by_levels.main.body.getD i (.Pass #[0,0,0,0])
abbrev OU:Stmt:=top 1
abbrev Oa:Stmt:=top 2
abbrev Mn:Stmt:=top 3
abbrev Mm:Stmt:=top 4
abbrev Lh:Stmt:=top 5
abbrev Nf:Stmt:=top 6
abbrev N7:Stmt:=top 8
abbrev Lq:Stmt:=top 9
abbrev Nv:Stmt:=top 10
abbrev NN:Stmt:=top 12
abbrev NY:Stmt:=top 13
abbrev Of:Stmt:=top 14
abbrev Nr:Stmt:=top 15
abbrev Mi:Stmt:=top 16
abbrev MI:Stmt:=top 17
abbrev Lu:Stmt:=top 18
abbrev NP:Stmt:=top 19
abbrev NB:Stmt:=top 20
abbrev NH:Stmt:=top 21
abbrev NZ:Stmt:=top 22
abbrev NO:Stmt:=top 24
abbrev N1:Stmt:=top 25
abbrev Nq:Stmt:=top 26
abbrev Lw:Stmt:=top 27
abbrev OV:Stmt:=top 28
abbrev MW:Stmt:=top 29
abbrev OP:Stmt:=top 30
abbrev N4:Stmt:=top 31
abbrev IK:Stmt:=top 32
abbrev LZ:Stmt:=top 34
abbrev Mq:Stmt:=top 35
abbrev Je:Stmt:=top 36
abbrev Ng:Stmt:=top 38
abbrev NL:Stmt:=top 39
abbrev MQ:Stmt:=top 40
abbrev Nd:Stmt:=top 41
abbrev Ol:Stmt:=top 42
abbrev LX:Stmt:=top 43
abbrev Ly:Stmt:=top 44
structure Txt(K:Yb)(mg:Yh) where
  kA:Df K mg "is_whole" OU ["thing"]
  kB:Df K mg "is_below" Oa ["thing","many"]
  kC:Df K mg "is_tuple_below" Mn ["thing","many"]
  kD:Df K mg "is_word" Mm ["machine","thing"]
  kE:Df K mg "is_set" Lh ["machine","thing"]
  kF:Df K mg "all_rooms" Nf ["machine"]
  kG:Df K mg "stepped" N7 ["machine","rooms","letter"]
  kJ:Df K mg "walked" Lq ["machine","rooms","word"]
  kK:Df K mg "brought" Nv ["machine","rooms","word"]
  kL:Df K mg "pairs_of" NN ["rooms"]
  kM:Df K mg "ways_back" NY ["machine"]
  kN:Df K mg "lengths_to" Of ["machine","goals"]
  kO:Df K mg "lengths" Nr ["machine"]
  kP:Df K mg "first_letter" Mi ["machine","pair","found"]
  kQ:Df K mg "rungs_to" MI ["machine","found"]
  kR:Df K mg "rungs" Lu ["machine"]
  kS:Df K mg "climbed" NP ["machine","steps","pair"]
  kU:Df K mg "together" NB ["machine","one","other"]
  kW:Df K mg "ladder" NH ["machine"]
  kX:Df K mg "apart" NZ ["machine"]
  kY:Df K mg "is_level" NO ["machine","thing"]
  kZ:Df K mg "first_places" N1 ["shown"]
  kAA:Df K mg "stays" Nq ["machine","some","places","last"]
  kAB:Df K mg "shows_levels" Lw ["machine","rooms","shown","closed"]
  kAC:Df K mg "begins" OV ["told","word","many"]
  kAD:Df K mg "has_due" MW ["shown","is_due"]
  kAE:Df K mg "shows_word" OP ["machine","rooms","is_due","word","shown"]
  kAF:Df K mg "shows_search" N4 ["machine","rooms","is_due","told"]
  kAG:Df K mg "shows_least" IK ["machine","rooms","many","told"]
  kAH:Df K mg "next_level" LZ ["machine","level","seen"]
  kAI:Df K mg "searched" Mq ["machine","rooms","is_due"]
  kAJ:Df K mg "least_word" Je ["machine","rooms","many"]
  kAK:Df K mg "_law_begin" Ng ["_law_script"]
  kAL:Df K mg "_law_next" NL ["_law_state","_law_many"]
  kAM:Df K mg "_law_order" MQ ["_law_state","_law_many"]
  kAN:Df K mg "_law_column" Nd ["_law_state","_law_family","_law_rooms","_law_letter"]
  kAO:Df K mg "_law_machine" Ol ["_law_state","_law_rooms","_law_letters"]
  kAP:Df K mg "_law_pairs" LX ["_law_rooms"]
  kAQ:Df K mg "law" Ly ["_law_script"]
  kAR:mg "isinstance" = none
  kAS:mg "int" = none
  kAT:mg "bool" = none
  kAU:mg "tuple" = none
  kAV:mg "all" = none
  kAW:mg "len" = none
  kAX:mg "zip" = none
  kAY:mg "range" = none
  kAZ:mg "sorted" = none
  kBA:mg "min" = none
  kBB:mg "enumerate" = none
  kBC:mg "max" = none
  kBD:mg "str" = none
  kBE:mg "any" = none
  kBF:mg "abs" = none
  kBG:mg "list" = none
  tc_shows_least:Addr
  tp_shows_least:Addr
  t_shows_least:PySem.W.tabIn K "shows_least" = some (tc_shows_least,tp_shows_least)
  h_shows_least:PySem.W.codeHdIn K tc_shows_least tp_shows_least=true
  c_shows_least:kAG.fd.code=.ref tc_shows_least
  tc_least_word:Addr
  tp_least_word:Addr
  t_least_word:PySem.W.tabIn K "least_word" = some (tc_least_word,tp_least_word)
  h_least_word:PySem.W.codeHdIn K tc_least_word tp_least_word=true
  c_least_word:kAJ.fd.code=.ref tc_least_word
  kinds:Kinds K
section
variable{P:Ym}{w:Yo}{K:Yb}{mg:Yh}{base:Heap}
def FP{X:Cx}{scope sc:Y0}{own:Yj}{N ps:Yk}(_:FnScope N ps sc)(hk:scope.kind=.function)(hs:X.env.scope=sc)(hN:X.N=N)(h1:LD sc scope=true)(h2:Kq N scope own=true):CompIn X scope own:=Sq hk hs hN h1 h2
def fG{X:Cx}{scope sc sd:Y0}{own:Yj}{N ps:Yk}(_:FnScope N ps sd)(hk:scope.kind=.function)(hs:X.env.scope=sc)(hN:X.N=N)(h1:LD sc scope=true)(h2:Kq N scope own=true):CompIn X scope own:=Sq hk hs hN h1 h2
set_option hygiene false in
local macro_rules | `(tactic| decreasing_trivial)=> `(tactic| repeat' first
  |calc ET (pv _)
  |calc BL ?_
  |calc Sh ?_ ?_ (zN rfl)
  |calc HH ?_
  |calc NU
  |calc V5
  |calc dG ?_ ?_
  |calc NW ?_
  |calc JF
  |calc pJ (by first|exact U7 T|exact gP T|exact iX T|exact eI T|exact Xo T|exact rE T|exact ZO T|exact X5 T|exact X9 T|exact aH T hL|exact lK T|exact fJ T|exact Vw T|exact aQ T|exact aA T|exact VN T|exact pB T|exact XF T|exact bG T|exact Uz T|exact Va T|exact jG T|exact cY T|exact Ux T|exact rT T|exact bT T|exact fX T|exact YX T hL|exact dE T|exact n5 T|exact Zt T|exact iW T|exact rM T|exact V9 T|exact rJ T|calc Xg T) (hr.mono ()) rfl ?_ ?_ () (zN rfl) (D9 rfl)
  |calc m4 sc.nd rfl
  |calc NR ?_
  |calc MZ ?_ ?_ (zN rfl)
  |calc OM
  |calc cF ?_ ?_
  |calc nA
  |calc Zz ?_
  |calc d5 ?_ ?_ ?_
  |calc lB
  |calc m5 ?_ ?_
  |calc Ll rfl T.kAW ?_ (zN rfl) rfl
  |calc Vt ?_ ?_
  |refine K3 (Eu ()) (FP sc rfl rfl rfl (by decide+kernel) (by decide+kernel)) rfl ?_ #[λ_ _ _ _ _=>?_,λ_ _ _ _ _=>?_,λ_ _ _ _ _=>?_]
  |calc gM rfl T.kAY ?_ ?_ (Lg rfl)
  |calc WM hr.units0 ?_ ?_
  |calc YV
  |calc pT ?_
  |calc Lc U5 PassesOwn.never rfl ?_ ?_ ?_
  |calc qO ?_ ?_
  |calc ZZ rfl T.kAU ?_ (zN rfl) rfl
  |calc mG ?_
  |calc gG
  |calc qA rfl ?_
  |calc Xt ?_ ?_
  |calc aG ?_
  |calc Xk ?_
  |calc pV (EU hr) ?_ ?_
  |calc oW (EU hr) ?_ ?_ ?_
  |calc m7 rfl rfl T.kAV ?_ (zN rfl) rfl
  |calc qJ ?_
  |calc cG ?_
  |calc WJ ?_
  |calc Xz (EU hr) ?_ ?_
  |calc WV hr.units0 ?_ ?_
  |calc iD
  |calc eE ?_
  |calc YE ?_ ?_ ?_
  |calc mB ?_ ?_
  |calc V6
  |calc mV ?_
  |calc oF
  |calc Ji T.kinds () rfl T.kAR rfl T.kAU (by rfl) () () ?_ (zN rfl) (zN rfl) (D9 rfl)
  |calc Uy ?_
  |calc Zr _ PassesOwn.never ?_ ?_
  |refine XD sc.nd rfl (by first|exact Or.inl rfl|calc Or.inr rfl) (by first|exact .inl rfl|calc .inr rfl) rfl (Eu ()) (FP sc rfl rfl rfl (by decide+kernel) (by decide+kernel)) rfl ?_ #[λ_ _ _ _ _=>?_,λ_ _ _ _ _=>?_,λ_ _ _ _ _=>?_]
  |calc rL (EU hr) ?_ ?_
  |calc jW ?_ ?_
  |calc Z9 rfl T.kBB ?_ (zN rfl) rfl
  |calc Lc (jS (K:=K)) PassesOwn.never rfl ?_ ?_ ?_
  |calc Xv ?_ ?_
  |calc dS hr.units0 ?_ ?_
  |calc qL ?_ ?_
  |calc eZ ?_ ?_ ?_
  |calc cD ?_
  |calc aZ hL (hr.mono ()) rfl ?_ ?_ (by first|exact Or.inl rfl|exact Or.inr (Or.inl rfl)|calc Or.inr (Or.inr rfl)) () () (zN rfl) (D9 rfl)
  |refine Q4 () (Eu ()) (Eu ()) (FP sc rfl rfl rfl (by decide+kernel) (by decide+kernel)) rfl ?_ #[λ_ _ _ _ _=>?_,λ_ _ _ _ _=>?_,λ_ _ _ _ _=>?_,λ_ _ _ _ _=>?_,λ_ _ _ _ _=>?_,λ_ _ _ _ _=>?_,λ_ _ _ _ _ _=>rfl]
  |calc VY ?_ ?_
  |calc dU rfl T.kBF ?_ (zN rfl) rfl
  |refine K3 (Q7 (K:=K) () ()) (FP sc rfl rfl rfl (by decide+kernel) (by decide+kernel)) rfl ?_ #[λ_ _ _ _ _=>?_,λ_ _ _ _ _=>?_,λ_ _ _ _ _=>?_]
  |calc qS ?_
  |calc bS (EU hr) ?_ ?_ ?_ #[rfl,rfl,rfl,rfl]
  |calc Zq (EU hr) ?_ ?_
  |calc fE rfl T.kAS ?_ (zN rfl) rfl
  |calc ZW
  |calc VP ?_ ?_ ?_
  |calc Xx (NS 1 () hr) ?_ ?_
  |calc mL ?_ ?_
  |calc PJ ?_ ?_
  |calc Ji T.kinds () rfl T.kAR rfl T.kAS (by rfl) () () ?_ (zN rfl) (zN rfl) (D9 rfl)
  |calc Ji T.kinds () rfl T.kAR rfl T.kAT (by rfl) () () ?_ (zN rfl) (zN rfl) (D9 rfl)
  |calc Ut rfl rfl T.kAU rfl T.kAY ?_ (zN rfl) rfl (zN rfl) rfl
  |refine f6 (Eu ()) (FP sc rfl rfl rfl (by decide+kernel) (by decide+kernel)) rfl ?_ #[λ_ _ _ _ _=>?_,λ_ _ _ _ _=>?_,λ_ _ _ _ _=>?_]
  |calc lD rfl rfl T.kAZ ?_ (zN rfl) rfl
  |calc rH ?_ ?_
  |calc Ji T.kinds () rfl T.kAR rfl T.kBD (by rfl) () () ?_ (zN rfl) (zN rfl) (D9 rfl)
  |calc WQ ?_ ?_
  |calc Wi ?_ ?_
  |calc c6 ?_ ?_
  |refine jD (FC λ_ _ _ _=>B7) (FC λ_ _ _ _=>B7) T8 LY ?_ ?_ ?_
  |calc jV rfl rfl T.kBA ?_ (zN rfl) rfl
  |calc eR (EU hr) ?_ ?_
  |calc MA ?_ ?_
  |calc l8 rfl rfl T.kBE ?_ (zN rfl) rfl
  |calc cE ?_ ?_
  |refine b7 sc.nd rfl (by first|exact Or.inl rfl|calc Or.inr rfl) (by first|exact .inl rfl|calc .inr rfl) rfl (EU hr) (Eu ()) (FP sc rfl rfl rfl (by decide+kernel) (by decide+kernel)) rfl ?_ ⟨λ_ _ _ _ _=>?_,λ_ _ _ _ _=>?_,λ_ _ _ _ _=>?_⟩ λ_ _ _ _ _=>?_
  |calc qQ ?_
  |calc jZ ?_ ?_
  |refine qM (EU hr) (Eu ()) (FP sc rfl rfl rfl (by decide+kernel) (by decide+kernel)) rfl ?_ ⟨λ_ _ _ _ _=>?_,λ_ _ _ _ _=>?_,λ_ _ _ _ _=>?_⟩ λ_ _ _ _ _=>?_
  |calc d3 ?_
  |calc aP rfl rfl T.kAZ ?_ (zN rfl) rfl
  |calc iI ?_ ?_
  |calc bD rfl T.kAX ?_ (YK rfl rfl) (Lg rfl)
  |calc Wr ?_ ?_
  |refine K3 (Eu ()) (fG sc rfl rfl rfl (by rfl) (by decide+kernel)) rfl ?_ #[λ_ _ _ _ _=>?_,λ_ _ _ _ _=>?_,λ_ _ _ _ _=>?_]
  |calc XS rfl rfl T.kBA ?_ (zN rfl) (D9 rfl)
  |calc Xq rfl rfl T.kBC ?_ (zN rfl) (D9 rfl)
  |calc Y9 ?_
  |refine K3 (bX (K:=K) () () ()) (FP sc rfl rfl rfl (by decide+kernel) (by decide+kernel)) rfl ?_ #[λ_ _ _ _ _=>?_,λ_ _ _ _ _=>?_,λ_ _ _ _ _=>?_]
  |refine Q4 () (Q7 (K:=K) () ()) (Eu ()) (FP sc rfl rfl rfl (by decide+kernel) (by decide+kernel)) rfl ?_ #[λ_ _ _ _ _=>?_,λ_ _ _ _ _=>?_,λ_ _ _ _ _=>?_,λ_ _ _ _ _=>?_,λ_ _ _ _ _=>?_,λ_ _ _ _ _=>?_,λ_ _ _ _ _ _=>rfl]
  |calc Lc (V4 (K:=K)) PassesOwn.never rfl ?_ ?_ ?_
  |calc rV rfl rfl T.kBG rfl T.kAY ?_ (zN rfl) rfl (zN rfl) rfl
  |calc a9 0 (NS 0 () hr) ?_ ?_
  |calc YL (NS 1 () hr) ?_ ?_
  |calc Xa (EU hr) ?_ ?_ #[rfl,rfl,rfl,rfl]
  |calc bF sc.nd rfl ?_
  |calc QL (PJ ?_ ?_)
  |calc QL (dO ?_ ?_)
  |calc o7 ?_)
abbrev WU:List Str:=["thing"]
def cQ:FnScope WU ["thing"] (zI OU):=by ∎
def fJ(T:Txt K mg):Od P w base 1 T.kA Io:=by
  erw[Io];let sc:=cQ;exact zj (n:=1) T.kA.F sc rfl (λcdv A outer s H E hr=>by
    erw[LQ];decreasing_trivial)
abbrev gI:List Str:=["machine"]
def Ws:FnScope gI ["machine"] (zI Nf):=by ∎
def eI(T:Txt K mg):Od P w base 1 T.kF EJ:=by
  erw[EJ];let sc:=Ws;exact zj (n:=1) T.kF.F sc rfl (λcdv A outer s H E hr=>by
    erw[Ku];decreasing_trivial)
abbrev oU:List Str:=["machine","rooms","letter","room"]
def d6:FnScope oU ["machine","rooms","letter"] (zI N7):=by ∎
def gP(T:Txt K mg):Od P w base 1 T.kG Cu:=by
  erw[Cu];let sc:=d6;exact GG (zj (n:=3) T.kG.F sc rfl (λcdv A outer s H E hr=>by
    erw[Ml];decreasing_trivial))
abbrev Xj:List Str:=["rooms","one","other"]
def iH:FnScope Xj ["rooms"] (zI NN):=by ∎
def iX(T:Txt K mg):Od P w base 1 T.kL EA:=by
  erw[EA];let sc:=iH;exact zj (n:=1) T.kL.F sc rfl (λcdv A outer s H E hr=>by
    erw[LJ];decreasing_trivial)
abbrev nU:List Str:=["shown","places","at","level","some"]
def Xs:FnScope nU ["shown"] (zI N1):=by ∎
def Ux(T:Txt K mg):Od P w base 1 T.kZ HC:=by
  erw[HC];let sc:=Xs;exact zj (n:=1) T.kZ.F sc rfl (λcdv A outer s H E hr=>by
    erw[Kg];decreasing_trivial)
abbrev nR:List Str:=["told","word","many"]
def jQ:FnScope nR ["told","word","many"] (zI OV):=by ∎
def lK(T:Txt K mg):Od P w base 1 T.kAC GR:=by
  erw[GR];let sc:=jQ;exact zj (n:=3) T.kAC.F sc rfl (λcdv A outer s H E hr=>by
    erw[KO];decreasing_trivial)
abbrev Uk:List Str:=["_law_script","_law_seed","_law_cell"]
def YF:FnScope Uk ["_law_script"] (zI Ng):=by ∎
def dE(T:Txt K mg):Od P w base 1 T.kAK IT:=by
  erw[IT];let sc:=YF;exact zj (n:=1) T.kAK.F sc rfl (λcdv A outer s H E hr=>by
    erw[Mz];decreasing_trivial)
abbrev rG:List Str:=["_law_state","_law_many","_law_digit"]
def WT:FnScope rG ["_law_state","_law_many"] (zI NL):=by ∎
def U7(T:Txt K mg):Od P w base 1 T.kAL zo:=by
  erw[zo];let sc:=WT;exact zj (n:=2) T.kAL.F sc rfl (λcdv A outer s H E hr=>by
    erw[Ot];decreasing_trivial)
abbrev Ze:List Str:=["_law_rooms","_law_found","_law_k","_law_other"]
def XJ:FnScope Ze ["_law_rooms"] (zI LX):=by ∎
def rM(T:Txt K mg):Od P w base 1 T.kAP GS:=by
  erw[GS];let sc:=XJ;exact zj (n:=1) T.kAP.F sc rfl (λcdv A outer s H E hr=>by
    erw[KU];decreasing_trivial)
abbrev a8:List Str:=["thing","many"]
def aB:FnScope a8 ["thing","many"] (zI Oa):=by ∎
def Vw(T:Txt K mg):Od P w base 2 T.kB JG:=by
  erw[JG];let sc:=aB;exact zj (n:=2) T.kB.F sc rfl (λcdv A outer s H E hr=>by
    erw[NF];decreasing_trivial)
abbrev lO:List Str:=["machine","rooms","word","sets","letter"]
def WE:FnScope lO ["machine","rooms","word"] (zI Lq):=by ∎
def aQ(T:Txt K mg):Od P w base 2 T.kJ JU:=by
  erw[JU];let sc:=WE;exact GG (zj (n:=3) T.kJ.F sc rfl (λcdv A outer s H E hr=>by
    erw[Oi];decreasing_trivial))
abbrev fO:List Str:=["machine","sources","pair","letter","goal"]
def dF:FnScope fO ["machine"] (zI NY):=by ∎
def aA(T:Txt K mg):Od P w base 2 T.kM HZ:=by
  erw[HZ];let sc:=dF;exact zj (n:=1) T.kM.F sc rfl (λcdv A outer s H E hr=>by
    erw[LH];decreasing_trivial)
abbrev cB:List Str:=["machine","pair","found","goals","letter","goal"]
def eF:FnScope cB ["machine","pair","found"] (zI Mi):=by ∎
def VN(T:Txt K mg):Od P w base 2 T.kP z0:=by
  erw[z0];let sc:=eF;exact zj (n:=3) T.kP.F sc rfl (λcdv A outer s H E hr=>by
    erw[KY];decreasing_trivial)
abbrev cC:List Str:=["machine","steps","pair","word","here","letter"]
def j9:FnScope cC ["machine","steps","pair"] (zI NP):=by ∎
def jG(T:Txt K mg):Od P w base 2 T.kS HF:=by
  erw[HF];let sc:=j9;exact zj (n:=3) T.kS.F sc rfl (λcdv A outer s H E hr=>by
    erw[Kb];decreasing_trivial)
abbrev k9:List Str:=["machine","some","places","last","goals","letter","goal"]
def ZM:FnScope k9 ["machine","some","places","last"] (zI Nq):=by ∎
def rT(T:Txt K mg):Od P w base 2 T.kAA Fv:=by
  erw[Fv];let sc:=ZM;exact Lf (zj (n:=4) T.kAA.F sc rfl (λcdv A outer s H E hr=>by
    erw[IW];decreasing_trivial))
abbrev aF:List Str:=["shown","is_due","some","level"]
def cU:FnScope aF ["shown","is_due"] (zI MW):=by ∎
def aH(T:Txt K mg){gL:List D->FF}{lL:Lm}(hL:LamOk P w K mg base 1 lL 1 gL):Od P w base 2 T.kAD (GX gL lL):=by
  erw[GX];let sc:=cU;exact zj (n:=2) T.kAD.F sc rfl (λcdv A outer s H E hr=>by
    erw[J0];decreasing_trivial)
abbrev oV:List Str:=["machine","level","seen","behind","some","word","letter","goal"]
def qN:FnScope oV ["machine","level","seen"] (zI LZ):=by ∎
def pB(T:Txt K mg):Od P w base 2 T.kAH Gy:=by
  erw[Gy];let sc:=qN;exact zj (n:=3) T.kAH.F sc rfl (λcdv A outer s H E hr=>by
    erw[Jh];decreasing_trivial)
abbrev nS:List Str:=["_law_state","_law_many","_law_order_here","_law_k"]
def WG:FnScope nS ["_law_state","_law_many"] (zI MQ):=by ∎
def Xo(T:Txt K mg):Od P w base 2 T.kAM Fx:=by
  erw[Fx];let sc:=WG;exact zj (n:=2) T.kAM.F sc rfl (λcdv A outer s H E hr=>by
    erw[Kf];decreasing_trivial)
abbrev f9:List Str:=["thing","many","part"]
def Xn:FnScope f9 ["thing","many"] (zI Mn):=by ∎
def rE(T:Txt K mg):Od P w base 3 T.kC HA:=by
  erw[HA];let sc:=Xn;exact zj (n:=2) T.kC.F sc rfl (λcdv A outer s H E hr=>by
    erw[Nk];decreasing_trivial)
abbrev l5:List Str:=["machine","rooms","word"]
def ZS:FnScope l5 ["machine","rooms","word"] (zI Nv):=by ∎
def fX(T:Txt K mg):Od P w base 3 T.kK Ir:=by
  erw[Ir];let sc:=ZS;exact GG (zj (n:=3) T.kK.F sc rfl (λcdv A outer s H E hr=>by
    erw[Na];decreasing_trivial))
abbrev iA:List Str:=["machine","goals","sources","level","found","goal","behind","pair"]
def WY:FnScope iA ["machine","goals"] (zI Of):=by ∎
def XF(T:Txt K mg):Od P w base 3 T.kN He:=by
  erw[He];let sc:=WY;exact zj (n:=2) T.kN.F sc rfl (λcdv A outer s H E hr=>by
    erw[KH];decreasing_trivial)
abbrev U6:List Str:=["machine","found","pairs","pair"]
def iY:FnScope U6 ["machine","found"] (zI MI):=by ∎
def Uz(T:Txt K mg):Od P w base 3 T.kQ G0:=by
  erw[G0];let sc:=iY;exact zj (n:=2) T.kQ.F sc rfl (λcdv A outer s H E hr=>by
    erw[LN];decreasing_trivial)
abbrev oO:List Str:=["machine","rooms","is_due","seen","level","shown","some","word"]
def fL:FnScope oO ["machine","rooms","is_due"] (zI Mq):=by ∎
def cZ(T:Txt K mg){gL:List D->FF}{lL:Lm}(hL:LamOk P w K mg base 1 lL 1 gL):Od P w base 3 T.kAI (Ih gL lL):=by
  erw[Ih];let sc:=fL;exact GG (zj (n:=3) T.kAI.F sc rfl (λcdv A outer s H E hr=>by
    erw[Jl];decreasing_trivial))
abbrev rZ:List Str:=["_law_state","_law_family","_law_rooms","_law_letter","_law_room","_law_half","_law_ahead","_law_far","_law_order_here","_law_goal"]
def jA:FnScope rZ ["_law_state","_law_family","_law_rooms","_law_letter"] (zI Nd):=by ∎
def bG(T:Txt K mg):Od P w base 3 T.kAN HD:=by
  erw[HD];let sc:=jA;exact zj (n:=4) T.kAN.F sc rfl (λcdv A outer s H E hr=>by
    erw[Jq];decreasing_trivial)
abbrev fP:List Str:=["machine","thing"]
def Xh:FnScope fP ["machine","thing"] (zI Mm):=by ∎
def bT(T:Txt K mg):Od P w base 4 T.kD Hw:=by
  erw[Hw];let sc:=Xh;exact zj (n:=2) T.kD.F sc rfl (λcdv A outer s H E hr=>by
    erw[Jm];decreasing_trivial)
abbrev qC:List Str:=["machine","thing","one","other"]
def WH:FnScope qC ["machine","thing"] (zI Lh):=by ∎
def Va(T:Txt K mg):Od P w base 4 T.kE Cn:=by
  erw[Cn];let sc:=WH;exact zj (n:=2) T.kE.F sc rfl (λcdv A outer s H E hr=>by
    erw[Dp];decreasing_trivial)
abbrev pZ:List Str:=["machine","room"]
def mZ:FnScope pZ ["machine"] (zI Nr):=by ∎
def ZO(T:Txt K mg):Od P w base 4 T.kO F3:=by
  erw[F3];let sc:=mZ;exact zj (n:=1) T.kO.F sc rfl (λcdv A outer s H E hr=>by
    erw[Jn];decreasing_trivial)
abbrev lY:List Str:=["machine","rooms","many"]
def qK:FnScope lY ["machine","rooms","many"] (zI Je):=by ∎
def Ul(T:Txt K mg){l:Lm}(h:PL base l Je ["many"]):LamOk P w K mg base 1 l 1 Oc :=
  (T7 (k:=0) (N:=["some","many"]) (ps:=["some"]) h #[rfl,rfl,rfl,by decide+kernel,rfl,by decide+kernel,by decide+kernel,by decide+kernel,λ_ _ _ _ _=>C8 λ_=>rfl] (λq cd cl A outer s H hr=>BL (MA (Ll rfl T.kAW (MZ (ET (pv 0)) OM (zN rfl)) (zN rfl) rfl) (ET (pv 1))))).mono ()
def V9(T:Txt K mg):Od P w base 4 T.kAJ IU:=by
  erw[IU];exact GG (Qw (n:=3) T.kAJ.F qK rfl T.c_least_word (λA outer s H E hr=>by
    erw[LS];calc(NW (NR (Si (fs:=["many"]) (idx:=[2]) (λbase' l hA=>cZ T (Ul T hA)) (λ_=>rfl) (hr.mono ()) rfl T.kAI.m T.kAI.F.kp T.kAI.b (KL (BL (ET (pv 0))) (KL (BL (ET (pv 1))) (Ph (y := "least_word") (sc0:=zI Je) () T.t_least_word rfl T.h_least_word rfl (by decide+kernel) NU rfl rfl (zN rfl)) (zN rfl)) (zN rfl)) (Tr (HH (HH JF)) JF rfl) rfl (Px #[rfl,rfl,by decide+kernel]) () (zN rfl) (D9 rfl))))))
abbrev Y6:List Str:=["_law_state","_law_rooms","_law_letters","_law_family","_law_columns","_law_letter","_law_column_here","_law_room"]
def o8:FnScope Y6 ["_law_state","_law_rooms","_law_letters"] (zI Ol):=by ∎
def n5(T:Txt K mg):Od P w base 4 T.kAO GQ:=by
  erw[GQ];let sc:=o8;exact Lf (zj (n:=3) T.kAO.F sc rfl (λcdv A outer s H E hr=>by
    erw[Js];decreasing_trivial))
abbrev r9:List Str:=["machine"]
def YZ:FnScope r9 ["machine"] (zI Lu):=by ∎
def X5(T:Txt K mg):Od P w base 5 T.kR GJ:=by
  erw[GJ];let sc:=YZ;exact zj (n:=1) T.kR.F sc rfl (λcdv A outer s H E hr=>by
    erw[KZ];decreasing_trivial)
abbrev cM:List Str:=["machine","found","pair"]
def iQ:FnScope cM ["machine"] (zI NZ):=by ∎
def iW(T:Txt K mg):Od P w base 5 T.kX G5:=by
  erw[G5];let sc:=iQ;exact GG (zj (n:=1) T.kX.F sc rfl (λcdv A outer s H E hr=>by
    erw[Jw];decreasing_trivial))
abbrev n6:List Str:=["machine","thing","some"]
def fW:FnScope n6 ["machine","thing"] (zI NO):=by ∎
def cY(T:Txt K mg):Od P w base 5 T.kY Fn:=by
  erw[Fn];let sc:=fW;exact zj (n:=2) T.kY.F sc rfl (λcdv A outer s H E hr=>by
    erw[KI];decreasing_trivial)
abbrev XE:List Str:=["machine","one","other","pair","steps"]
def cO:FnScope XE ["machine","one","other"] (zI NB):=by ∎
def rJ(T:Txt K mg):Od P w base 6 T.kU Gv:=by
  erw[Gv];let sc:=cO;exact GG (zj (n:=3) T.kU.F sc rfl (λcdv A outer s H E hr=>by
    erw[LG];decreasing_trivial))
abbrev Vk:List Str:=["machine","pair","many","letter"]
def Vo:FnScope Vk ["machine"] (zI NH):=by ∎
def Zt(T:Txt K mg):Od P w base 6 T.kW Gg:=by
  erw[Gg];let sc:=Vo;exact GG (zj (n:=1) T.kW.F sc rfl (λcdv A outer s H E hr=>by
    erw[Ke];decreasing_trivial))
abbrev aM:List Str:=["machine","rooms","shown","closed","level","places","asked","some","at"]
def jX:FnScope aM ["machine","rooms","shown","closed"] (zI Lw):=by ∎
def X9(T:Txt K mg):Od P w base 6 T.kAB Gj:=by
  erw[Gj];let sc:=jX;exact Lf (zj (n:=4) T.kAB.F sc rfl (λcdv A outer s H E hr=>by
    erw[Ii];decreasing_trivial))
abbrev qH:List Str:=["machine","rooms","is_due","word","shown"]
def YW:FnScope qH ["machine","rooms","is_due","word","shown"] (zI OP):=by ∎
def YX(T:Txt K mg){gL:List D->FF}{lL:Lm}(hL:LamOk P w K mg base 1 lL 1 gL):Od P w base 7 T.kAE (Hj gL lL):=by
  erw[Hj];let sc:=YW;exact zj (n:=5) T.kAE.F sc rfl (λcdv A outer s H E hr=>by
    erw[Jo];decreasing_trivial)
abbrev WW:List Str:=["machine","rooms","is_due","told"]
def oA:FnScope WW ["machine","rooms","is_due","told"] (zI N4):=by ∎
def V2(T:Txt K mg){gL:List D->FF}{lL:Lm}(hL:LamOk P w K mg base 1 lL 1 gL):Od P w base 8 T.kAF (HP gL lL):=by
  erw[HP];let sc:=oA;exact zj (n:=4) T.kAF.F sc rfl (λcdv A outer s H E hr=>by
    erw[KW];decreasing_trivial)
abbrev eX:List Str:=["machine","rooms","many","told"]
def fS:FnScope eX ["machine","rooms","many","told"] (zI IK):=by ∎
def jK(T:Txt K mg){l:Lm}(h:PL base l IK ["many"]):LamOk P w K mg base 1 l 1 Te :=
  (T7 (k:=0) (N:=["some","many"]) (ps:=["some"]) h #[rfl,rfl,rfl,by decide+kernel,rfl,by decide+kernel,by decide+kernel,by decide+kernel,λ_ _ _ _ _=>C8 λ_=>rfl] (λq cd cl A outer s H hr=>BL (MA (Ll rfl T.kAW (MZ (ET (pv 0)) OM (zN rfl)) (zN rfl) rfl) (ET (pv 1))))).mono ()
def Xg(T:Txt K mg):Od P w base 9 T.kAG Iz:=by
  erw[Iz];exact Qw (n:=4) T.kAG.F fS rfl T.c_shows_least (λA outer s H E hr=>by
    erw[Mj];calc(NW (NR (Si (fs:=["many"]) (idx:=[2]) (λbase' l hA=>V2 T (jK T hA)) (λ_=>rfl) (hr.mono ()) rfl T.kAF.m T.kAF.F.kp T.kAF.b (KL (BL (ET (pv 0))) (KL (BL (ET (pv 1))) (Ph (y := "shows_least") (sc0:=zI IK) () T.t_shows_least rfl T.h_shows_least rfl (by decide+kernel) (Sh (BL (ET (pv 3))) NU (zN rfl)) rfl rfl (zN rfl)) (zN rfl)) (zN rfl)) (Tr (HH (HH JF)) (HH JF) rfl) rfl (Px #[rfl,rfl,by decide+kernel]) () (zN rfl) (D9 rfl)))))
abbrev WC:List Str:=["_law_script","_law_state","_law_rooms","_law_machine_here","_law_sizes","_law_pair","_law_many","_law_letter","_law_others","_law_pairs_here","_law_k","_law_told","_law_word"]
def cJ:FnScope WC ["_law_script"] (zI Ly):=by ∎
def X6(T:Txt K mg):Od P w base 10 T.kAQ Fq:=by
  erw[Fq];let sc:=cJ;exact zj (n:=1) T.kAQ.F sc rfl (λcdv A outer s H E hr=>by
    erw[MF];decreasing_trivial)
end
def o5{l:PySem.W.OpenLaw}{w:World}{K:PySem.W.Frag}{h:Heap}{mg:Str->Option Value}{fa:Addr}(X:K.In h)(G:h.Ns mainGlobals mg)(hfa:mg "law" = some (.ref fa))
    {ts:List Addr}(g1:Dg K "is_whole" OU) (g2:Dg K "is_below" Oa) (g3:Dg K "is_tuple_below" Mn) (g4:Dg K "is_word" Mm) (g5:Dg K "is_set" Lh) (g6:Dg K "all_rooms" Nf) (g7:Dg K "stepped" N7) (g8:Dg K "walked" Lq) (g9:Dg K "brought" Nv) (g10:Dg K "pairs_of" NN) (g11:Dg K "ways_back" NY) (g12:Dg K "lengths_to" Of) (g13:Dg K "lengths" Nr) (g14:Dg K "first_letter" Mi) (g15:Dg K "rungs_to" MI) (g16:Dg K "rungs" Lu) (g17:Dg K "climbed" NP) (g18:Dg K "together" NB) (g19:Dg K "ladder" NH) (g20:Dg K "apart" NZ) (g21:Dg K "is_level" NO) (g22:Dg K "first_places" N1) (g23:Dg K "stays" Nq) (g24:Dg K "shows_levels" Lw) (g25:Dg K "begins" OV) (g26:Dg K "has_due" MW) (g27:Dg K "shows_word" OP) (g28:Dg K "shows_search" N4) (g29:Dg K "shows_least" IK) (g30:Dg K "next_level" LZ) (g31:Dg K "searched" Mq) (g32:Dg K "least_word" Je) (g33:Dg K "_law_begin" Ng) (g34:Dg K "_law_next" NL) (g35:Dg K "_law_order" MQ) (g36:Dg K "_law_column" Nd) (g37:Dg K "_law_machine" Ol) (g38:Dg K "_law_pairs" LX) (g39:Dg K "law" Ly) (z1:Zn K "isinstance") (z2:Zn K "int") (z3:Zn K "bool") (z4:Zn K "tuple") (z5:Zn K "all") (z6:Zn K "len") (z7:Zn K "zip") (z8:Zn K "range") (z9:Zn K "sorted") (z10:Zn K "min") (z11:Zn K "enumerate") (z12:Zn K "max") (z13:Zn K "str") (z14:Zn K "any") (z15:Zn K "abs") (z16:Zn K "list") (y1:Ki K "NoneType" "int" false) (y2:Ki K "NoneType" "bool" false) (y3:Ki K "NoneType" "str" false) (y4:Ki K "NoneType" "tuple" false) (y5:Ki K "bool" "int" true) (y6:Ki K "bool" "bool" true) (y7:Ki K "bool" "str" false) (y8:Ki K "bool" "tuple" false) (y9:Ki K "int" "int" true) (y10:Ki K "int" "bool" false) (y11:Ki K "int" "str" false) (y12:Ki K "int" "tuple" false) (y13:Ki K "str" "int" false) (y14:Ki K "str" "bool" false) (y15:Ki K "str" "str" true) (y16:Ki K "str" "tuple" false) (y17:Ki K "list" "int" false) (y18:Ki K "list" "bool" false) (y19:Ki K "list" "str" false) (y20:Ki K "list" "tuple" false) (y21:Ki K "tuple" "int" false) (y22:Ki K "tuple" "bool" false) (y23:Ki K "tuple" "str" false) (y24:Ki K "tuple" "tuple" true) (y25:Ki K "dict" "int" false) (y26:Ki K "dict" "bool" false) (y27:Ki K "dict" "str" false) (y28:Ki K "dict" "tuple" false) (u29:Tb K "shows_least" g29) (u32:Tb K "least_word" g32) (n0:Zn K "levels") (n1:Zn K "word_into") (n2:Zn K "shows_into") (ht:(ts.all (λP=>([("shows_least",u29.c,u29.P),("least_word",u32.c,u32.P)]:List (Str×Addr×Addr)).any (·.2.2==P))&&([("shows_least",u29.c,u29.P),("least_word",u32.c,u32.P)]:List (Str×Addr×Addr)).all (λp=>ts.contains p.2.2))=true):
    A6 K ts/\∃fd:FuncData,(∀(s:Shared)(v:Value),BindsTo s fd #[[v],[]] [("_law_script",v)])/\∀base:Heap,K.In base->base.Ns mainGlobals mg->FnOk l.prog w K mg base CX0 10 fa fd ["_law_script"] (spF K 1 Fq):=by
  let e:=hfa.symm.trans (PySem.W.mg_of X G g39.a);ext e;let kinds:Kinds K:=⟨by
    intro t T ht hT;simp only[AK,Bq,Br]at ht hT;rcases ht with rfl|rfl|rfl|rfl|rfl|rfl|rfl <;> rcases hT with rfl|rfl|rfl|rfl <;> assumption⟩
  letI T:Txt K mg:=#[g1.df X G λ_ _ _ _ _ _=>C8 λ_=>rfl,g2.df X G λ_ _ _ _ _ _=>EZ λ_ _=>rfl,g3.df X G λ_ _ _ _ _ _=>EZ λ_ _=>rfl,g4.df X G λ_ _ _ _ _ _=>EZ λ_ _=>rfl,g5.df X G λ_ _ _ _ _ _=>EZ λ_ _=>rfl,g6.df X G λ_ _ _ _ _ _=>C8 λ_=>rfl,g7.df X G λ_ _ _ _ _ _=>Ds λ_ _ _=>rfl,g8.df X G λ_ _ _ _ _ _=>Ds λ_ _ _=>rfl,g9.df X G λ_ _ _ _ _ _=>Ds λ_ _ _=>rfl,g10.df X G λ_ _ _ _ _ _=>C8 λ_=>rfl,g11.df X G λ_ _ _ _ _ _=>C8 λ_=>rfl,g12.df X G λ_ _ _ _ _ _=>EZ λ_ _=>rfl,g13.df X G λ_ _ _ _ _ _=>C8 λ_=>rfl,g14.df X G λ_ _ _ _ _ _=>Ds λ_ _ _=>rfl,g15.df X G λ_ _ _ _ _ _=>EZ λ_ _=>rfl,g16.df X G λ_ _ _ _ _ _=>C8 λ_=>rfl,g17.df X G λ_ _ _ _ _ _=>Ds λ_ _ _=>rfl,g18.df X G λ_ _ _ _ _ _=>Ds λ_ _ _=>rfl,g19.df X G λ_ _ _ _ _ _=>C8 λ_=>rfl,g20.df X G λ_ _ _ _ _ _=>C8 λ_=>rfl,g21.df X G λ_ _ _ _ _ _=>EZ λ_ _=>rfl,g22.df X G λ_ _ _ _ _ _=>C8 λ_=>rfl,g23.df X G λ_ _ _ _ _ _=>JS λ_ _ _ _=>rfl,g24.df X G λ_ _ _ _ _ _=>JS λ_ _ _ _=>rfl,g25.df X G λ_ _ _ _ _ _=>Ds λ_ _ _=>rfl,g26.df X G λ_ _ _ _ _ _=>EZ λ_ _=>rfl,g27.df X G λ_ _ _ _ _ _=>lT λ_ _ _ _ _=>rfl,g28.df X G λ_ _ _ _ _ _=>JS λ_ _ _ _=>rfl,g29.df X G λ_ _ _ _ _ _=>JS λ_ _ _ _=>rfl,g30.df X G λ_ _ _ _ _ _=>Ds λ_ _ _=>rfl,g31.df X G λ_ _ _ _ _ _=>Ds λ_ _ _=>rfl,g32.df X G λ_ _ _ _ _ _=>Ds λ_ _ _=>rfl,g33.df X G λ_ _ _ _ _ _=>C8 λ_=>rfl,g34.df X G λ_ _ _ _ _ _=>EZ λ_ _=>rfl,g35.df X G λ_ _ _ _ _ _=>EZ λ_ _=>rfl,g36.df X G λ_ _ _ _ _ _=>JS λ_ _ _ _=>rfl,g37.df X G λ_ _ _ _ _ _=>Ds λ_ _ _=>rfl,g38.df X G λ_ _ _ _ _ _=>C8 λ_=>rfl,g39.df X G λ_ _ _ _ _ _=>C8 λ_=>rfl,CU X G z1,CU X G z2,CU X G z3,CU X G z4,CU X G z5,CU X G z6,CU X G z7,CU X G z8,CU X G z9,CU X G z10,CU X G z11,CU X G z12,CU X G z13,CU X G z14,CU X G z15,CU X G z16,u29.c,u29.P,u29.tab,u29.hd,u29.e,u32.c,u32.P,u32.tab,u32.hd,u32.e,kinds];refine#[VB [("shows_least",u29.c,u29.P),("least_word",u32.c,u32.P)] (λp hp=>by
    rcases AK.mp hp with rfl|hp
    .exact#[u29.tab,u29.hd]
    rcases AK.mp hp with rfl|hp
    .exact#[u32.tab,u32.hd]
    ext hp) (λx hx hn=>by
    simp only[HW,AK,Bq,Br]at hx;rcases hx with rfl|rfl|rfl|rfl|rfl;all_goals first|exact XH (by assumption)|calc absurd (by simp) hn) ht,T.kAQ.fd,λs v=> .of_eq rfl,λbase _ _=>?_]
  calc X6 (P:=l.prog) (w:=w) (base:=base) T
def lV{l:PySem.W.OpenLaw}{q:Ym}{loose:Yk}{XP:(Str->Option Value)->Heap->Prop}{d:DefRec}{K:Params->PySem.W.Frag}{as:Yg}{ee:∀P,as=(K P).map (·.1)}{ts:Yg}(hn:l.most=some 63)(hdf:d.params.defaults=[])
    (hL:∀w:World,Hh (K w.params)=true) (hT:∀w:World,PySem.W.noTabs (K w.params)=true)
    (F:∀(w:Yo)(mg:Yh)(fa:Yt)(h:Heap),(K w.params).In h->h.Ns mainGlobals mg->mg d.name=some (.ref fa) ->
      A6 (K w.params) ts/\∃fd:FuncData,(∀(s:Shared)(u:Value),BindsTo s fd #[[u],[]] [("_law_script",u)])/\∀base:Heap,(K w.params).In base->base.Ns mainGlobals mg->FnOk l.prog w (K w.params) mg base CX0 10 fa fd ["_law_script"] (spF (K w.params) 1 Fq)):
    PySem.W.WalkO q loose XP (PySem.W.kmHook K as ee ts).says l.row.toRowW d [] (λf vs=>PySem.call f vs) :=
  lZ (n:=63) (k:=10) (x := "_law_script") (m:=Fq) hn () hdf #[rfl,(),()] hL hT F qB
end Lap
end
open PySem PySem.W PyProof.Rows
set_option maxRecDepth 100000 in
set_option maxHeartbeats 0 in
theorem PySem.Challenge.cw_bringhome_k33_whole_pairs_by_levels_holds : PySem.Challenge.rw_bringhome_k33_whole_pairs_by_levels.Holds := by
  w_on;o_law;k_head;(case hw=>w_witness2);k_fill;refine Lap.lV (l:=PySem.Challenge.rw_bringhome_k33_whole_pairs_by_levels) rfl rfl (λw=>by rfl) (λw=>by rfl) ?F
  case F=>
    intro w mg fa h KX G hmg;apply Lap.o5 KX G hmg;all_goals try first|exact#[_,by k_is,by k_is,by k_is,by k_is]|exact#[_,_,rfl,by k_is,by rfl,by rfl]|(erw[L3.Zn];k_is)|(erw[L3.Ki];kit_is)|k_is|rfl
    all_goals rfl
