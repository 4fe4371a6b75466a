import PyProof.Rows.All
import Wide.All
import OpenK.AllK
import Wide.FinOn
import Lean
import PyProof.EqAt
import PyProof.EqKinds
import PyProof.TupleCall
import PyProof.NeKinds
import PyProof.ZipIter
import PyProof.ListRange
import PyProof.TupleOfSeq
import PyProof.ConsumeWalk
import PyProof.IsRules
import PyProof.SetKind
import PyProof.SetRoads
import PyProof.Rows.SetFrom
import PyProof.Draws
import PyProof.EnumMake
import PyProof.DictCompW
import PyProof.ListMulRoad
import PyProof.Rows.SeqMore2
import PyProof.WalkInts
import PyProof.DictRoadsH
import PyProof.DictItems
import KE.KDictList
import KE.KDictOf
import PyProof.AttrMissHeap
import PyProof.StrLawsChain
import PyProof.FitsReplace
import PyProof.StrLawsIn
import PySem.Challenge.RW_bringhome_k09_words_written
namespace PySem.W.Fast
def tw2073537373204504176:=0
def tw5396974546264506248:=0
def tw9492597124248944579:=0
def tw3722733975075876629:=0
def tw7910779182528308549:=0
def tw18445668445742751908:=0
def tw2495213588369466671:=0
def tw1986090162617288661:=0
def tw615546997438351410:=0
def tw16640026029200990810:=0
def tw6746745729699598728:=0
def tw11215773139489659786:=0
def tw6809106477853813181:=0
def tw15393417729884813149:=0
def tw7630187990887295160:=0
def tw13787719510947778201:=0
def tw6422816515593352665:=0
def tw9618689988517650531:=0
def tw1907033015992363673:=0
def tw8172767145835971542:=0
def tw17742559066075589817:=0
def tw8315018291341999096:=0
def tw10641020231270297655:=0
def tw13970826274129463808:=0
def tw1922384960310513616:=0
def tw849699291671294750:=0
def tw15024976661495263830:=0
def tw4137785329728242384:=0
def tw16733374329933715630:=0
def tw7292237245081262580:=0
def tw945779000427163607:=0
def tw16639543960434386143:=0
def tw14875112742905721058:=0
def tw1917580204223179374:=0
def tw7913092269593048452:=0
def tw4908368747325049770:=0
def tw15747823949600780382:=0
def tw14384308735302085229:=0
def tw2194016024635097075:=0
def tw13447180233088923119:=0
def tw11565670642095949206:=0
def tw13280235185946971712:=0
def tw11299916666342336594:=0
def tw6041385465526409902:=0
def tw532572150878667292:=0
def tw11319758580737764140:=0
def tw12003018522639985389:=0
def tw5129995938461475237:=0
def tw10535369001574532216:=0
def tw11359435078884232688:=0
def tw11367453211922643968:=0
def tw6983819622304266678:=0
def tw8895609782367452229:=0
def tw610633477151852934:=0
def tw18240730851182964525:=0
def tw5844365542060016544:=0
def tw17820432468677352036:=0
def tw1556587200667033644:=0
def tw17298846094048425406:=0
def tw10312927407873950477:=0
def tw2598632975508817747:=0
def tw16230801283943263788:=0
def tw8054044647800411619:=0
def tw5119616324184872260:=0
def tw2552745892063836781:=0
def tw14234580088745754293:=0
def tw15749348385538456003:=0
def tw11497396683985563355:=0
def tw3635637718945185201:=0
def tw17905381322682010696:=0
def tw6560000782254537373:=0
def tw4124991837797849844:=0
def tw17401955636656336729:=0
def tw701866908806417672:=0
def tw1871826070251917171:=0
def tw6693222312675836327:=0
def tw13768515708264299879:=0
def tw10883985375700588553:=0
def tw15455040449080090042:=0
def tw12587878272343429483:=0
def tw2515056169683230868:=0
def tw16236847576323552121:=0
def tw14576597105403880684:=0
def tw1652007555241839553:=0
def tw8285030200200497965:=0
def tw14144731359495585271:=0
def tw15344589757499850017:=0
def tw3410954196336808295:=0
def tw10855543607988760232:=0
def tw11817895646934369073:=0
def tw1487950964912887913:=0
def tw6732715276714962363:=0
def tw9818520517776217292:=0
def tw15699743930343920765:=0
def tw17293095713324095360:=0
def tw11303326361212800398:=0
def tw2173595054158702210:=0
def tw6213061565607346567:=0
def tw17953562142217167619:=0
def tw16185439466367367650:=0
def tw1590598237879336653:=0
def tw9369626905436962859:=0
def tw14633415308362712561:=0
def tw12729838652726869533:=0
def tw16075156089863434800:=0
def tw10880980966102192374:=0
def tw7733804108287093792:=0
def tw10907184761776462532:=0
def tw18403507794812228391:=0
def tw10983587522251137839:=0
def tw7693472321877546096:=0
def tw7237156300541700873:=0
def tw11269958372664125864:=0
def tw1371430546511575091:=0
def tw2227076321371684696:=0
def tw16206523077897122424:=0
end PySem.W.Fast
section
open PySem PySem.Spec PyProof.Rows
theorem zNr:type_of% @wpAny_bind:=@wpAny_bind
theorem zNs:type_of% @Heap.get?_push_of_some:=@Heap.get?_push_of_some
theorem zNt:type_of% @wpAny_pure:=@wpAny_pure
theorem zNu:type_of% @List.getElem?_eq_some_iff:=@List.getElem?_eq_some_iff
theorem zNv:type_of% @List.getElem?_eq_getElem:=@List.getElem?_eq_getElem
theorem zNx:type_of% @Nat.le_refl:=@Nat.le_refl
theorem zNy:type_of% @List.getElem?_append_left:=@List.getElem?_append_left
theorem zNz:type_of% @List.size_toArray:=@List.size_toArray
theorem zN0:type_of% @List.length_map:=@List.length_map
theorem zN1:type_of% @Heap.get?_push_size:=@Heap.get?_push_size
theorem zN2:type_of% @Heap.lt_size:=@Heap.lt_size
theorem zN3:type_of% @List.mem_cons:=@List.mem_cons
theorem zN4:type_of% @List.mem_cons_of_mem:=@List.mem_cons_of_mem
theorem zN5:type_of% @List.mem_cons_self:=@List.mem_cons_self
theorem zN6:type_of% @if_pos:=@if_pos
theorem zN7:type_of% @List.length_append:=@List.length_append
theorem zN9:type_of% @if_neg:=@if_neg
theorem zOA:type_of% @List.map_cons:=@List.map_cons
theorem zOB:type_of% @List.mem_append_right:=@List.mem_append_right
theorem zOC:type_of% @Nat.ne_of_lt:=@Nat.ne_of_lt
theorem zOD:type_of% @Bool.false_ne_true:=@Bool.false_ne_true
theorem zOG:type_of% @Nat.lt_of_lt_of_le:=@Nat.lt_of_lt_of_le
theorem zOH:type_of% @List.mem_append:=@List.mem_append
theorem zOI:type_of% @Nat.le_trans:=@Nat.le_trans
theorem zOK:type_of% @wpAny_newObj_type:=@wpAny_newObj_type
theorem zOL:type_of% @List.getElem?_set_ne:=@List.getElem?_set_ne
theorem zOM:type_of% @List.not_mem_nil:=@List.not_mem_nil
theorem zON:type_of% @wpAny_mono:=@wpAny_mono
theorem zOQ:type_of% @decide_eq_false:=@decide_eq_false
theorem zOR:type_of% @Bool.and_eq_true:=@Bool.and_eq_true
theorem zOS:type_of% @List.all_eq_true:=@List.all_eq_true
theorem zOT:type_of% @wpAny_callSpecial?_slot:=@wpAny_callSpecial?_slot
theorem zOW:type_of% @wpAny_field:=@wpAny_field
theorem zOZ:type_of% @Nat.lt_irrefl:=@Nat.lt_irrefl
theorem zOl:type_of% @List.getElem?_set_self:=@List.getElem?_set_self
theorem zOq:type_of% @PySem.W.mg_none_of:=@PySem.W.mg_none_of
theorem zOr:type_of% @Option.some.inj:=@Option.some.inj
theorem zOt:type_of% @PySem.mem_of_lookup:=@PySem.mem_of_lookup
theorem zOz:type_of% @decide_eq_true:=@decide_eq_true
theorem zO4:type_of% @decide_eq_true_eq:=@decide_eq_true_eq
theorem zPF:type_of% @List.length_take:=@List.length_take
theorem zPP:type_of% @PyProof.Rows.slot_tuple_getitem:=@PyProof.Rows.slot_tuple_getitem
theorem zPQ:type_of% @List.getElem?_set:=@List.getElem?_set
theorem zPU:type_of% @PySem.W.kia_one:=@PySem.W.kia_one
theorem zPw:type_of% @List.lookup_cons:=@List.lookup_cons
end
set_option Elab.async false
set_option linter.all false
set_option maxRecDepth 100000
set_option genSizeOf false
set_option genInjectivity false
noncomputable section
namespace L2
open PySem PySem.Spec PyProof.Rows
abbrev Key:=Sum Int Str
def zKo:Key -> Value -> Bool
 | .inl k,v=>Value.isInt k v
 | .inr x,v=>Value.isStrOf x v
def zNW (w:World):Key -> Int
 | .inl k=>hashInt k
 | .inr x=>hashStr w x
theorem zg:∀ {k:Key} {v:Value},zKo k v = true -> (∃ i t,k = Sum.inl i /\ v = Value.int i t) \/ (∃ x t,k = Sum.inr x /\ v = Value.str x t)
 | .inl i,v,h=>by
  obtain ⟨t,e⟩:=Value.isInt_shape (k:=i) (v:=v) h;exact .inl ⟨i,t,rfl,e⟩
 | .inr x,v,h=>by
  obtain ⟨t,e⟩:=Value.isStrOf_shape (x:=x) (v:=v) h;exact .inr ⟨x,t,rfl,e⟩
theorem zLw (a b:Int):decide ((Sum.inl a:Key) = Sum.inl b) = (a == b):=by
 by_cases e:a = b
 ·subst e; simp
 ·have h:¬ (Sum.inl a:Key) = Sum.inl b:=fun q=>e (Sum.inl.inj q);rw [zOQ h];exact (beq_eq_false_iff_ne.mpr e).symm
theorem zLb (a b:Str):decide ((Sum.inr a:Key) = Sum.inr b) = decide (a = b):=by
 by_cases e:a = b
 ·subst e; simp
 ·have h:¬ (Sum.inr a:Key) = Sum.inr b:=fun q=>e (Sum.inr.inj q);rw [zOQ h,zOQ e]
theorem zLn (a:Int) (b:Str):decide ((Sum.inl a:Key) = Sum.inr b) = false:=zOQ (fun q=>nomatch q)
theorem zL2 (a:Str) (b:Int):decide ((Sum.inr a:Key) = Sum.inl b) = false:=zOQ (fun q=>nomatch q)
def zGz (prog:Program) (w:World):PySem.KeyKind prog w Key where
 is:=zKo
 hash:=zNW w
 inj:=fun v a b ha hb=>by
  rcases zg ha with ⟨i,t,rfl,rfl⟩ | ⟨x,t,rfl,rfl⟩
  ·rcases zg hb with ⟨j,u,rfl,e⟩ | ⟨y,u,rfl,e⟩
   ·injection e with e1 _; rw [e1]
   ·exact nomatch e
  ·rcases zg hb with ⟨j,u,rfl,e⟩ | ⟨y,u,rfl,e⟩
   ·exact nomatch e
   ·injection e with e1 _; rw [e1]
 byValue:=fun k v h=>by
  rcases zg h with ⟨i,t,rfl,rfl⟩ | ⟨x,t,rfl,rfl⟩ <;> rfl
 pyHash:=fun hv h=>by
  rcases zg hv with ⟨i,t,rfl,rfl⟩ | ⟨x,t,rfl,rfl⟩
  ·exact wpAny_pyHash_int h
  ·exact wpAny_pyHash_str h
 eqBool:=fun hu hv h=>by
  rcases zg hu with ⟨i,t,rfl,rfl⟩ | ⟨x,t,rfl,rfl⟩
  ·rcases zg hv with ⟨j,u,rfl,rfl⟩ | ⟨y,u,rfl,rfl⟩
   ·rw [zLw] at h; exact wpAny_eqBool_int h
   ·rw [zLn] at h; exact SeqAt.EqAt.int_str i t y u _ _ _ _ h
  ·rcases zg hv with ⟨j,u,rfl,rfl⟩ | ⟨y,u,rfl,rfl⟩
   ·rw [zL2] at h; exact SeqAt.EqAt.str_int x t j u _ _ _ _ h
   ·rw [zLb] at h; exact wpAny_eqBool_str h
 «strs»:=fun k x t v h=>by
  rcases zg h with ⟨i,u,rfl,e⟩ | ⟨y,u,rfl,e⟩
  ·exact nomatch e
  ·injection e with e1 _
   subst e1
   cases v <;> rfl
set_option genInjectivity true in
inductive V where
 | non | bl (b:Bool) | int (i:Int) | str (x:Str) | byt (b:Array UInt8) | flt (b:UInt64) | ref (a:Addr) | ty (n:String)
 deriving DecidableEq
def zw:V -> Value -> Prop
 | .non,u=>u = Value.none
 | .bl b,u=>u = Value.bool b
 | .int i,u=>∃ t,u = Value.int i t
 | .str x,u=>∃ t,u = Value.str x t
 | .byt b,u=>∃ t,u = Value.bytes b t
 | .flt b,u=>∃ t,u = Value.float b t
 | .ref a,u=>u = Value.ref a
 | .ty n,u=>u = Value.type n
abbrev zW:List V -> List Value -> Prop:=Paired zw
theorem zW.length {xs:List V} {us:List Value} (r:zW xs us):xs.length = us.length:=Paired.length r
theorem zW.get:∀ {xs:List V} {us:List Value} {i:Nat} {x:V},zW xs us -> xs[i]? = some x -> ∃ u,us[i]? = some u /\ zw x u
 | _,_,_,_,.nil,e=>by simp at e
 | _,_,0,_,.cons r _,e=>by simp at e; subst e; exact ⟨_,rfl,r⟩
 | _,_,i + 1,x,.cons _ t,e=>by
  obtain ⟨u,h1,h2⟩:=zW.get (i:=i) (x:=x) t (by simpa using e);exact ⟨u,by simpa using h1,h2⟩
theorem zW.set {x:V} {u:Value} (r:zw x u):∀ {xs:List V} {us:List Value} (i:Nat),zW xs us -> zW (xs.set i x) (us.set i u)
 | _,_,_,.nil=> .nil
 | _,_,0,.cons _ t=> .cons r t
 | _,_,i + 1,.cons q t=> .cons q (zW.set r i t)
theorem zW.append:∀ {xs ys:List V} {us ws:List Value},zW xs us -> zW ys ws -> zW (xs ++ ys) (us ++ ws)
 | _,_,_,_,.nil,s=>s
 | _,_,_,_,.cons r t,s=> .cons r (zW.append t s)
theorem zW.take:∀ {xs:List V} {us:List Value} (n:Nat),zW xs us -> zW (xs.take n) (us.take n)
 | _,_,0,_=> .nil
 | _,_,_ + 1,.nil=> .nil
 | _,_,n + 1,.cons r t=> .cons r (zW.take n t)
theorem zW.drop:∀ {xs:List V} {us:List Value} (n:Nat),zW xs us -> zW (xs.drop n) (us.drop n)
 | _,_,0,r=>r
 | _,_,_ + 1,.nil=> .nil
 | _,_,n + 1,.cons _ t=>zW.drop n t
def zLL:Option V -> Option Value -> Prop
 | some v,some u=>zw v u
 | none,none=>True
 | _,_=>False
def KV {κ:Type}:List (κ × V) -> List (κ × Value) -> Prop:=Paired fun (p:κ × V) (q:κ × Value)=>p.1 = q.1 /\ zw p.2 q.2
def kV:Key -> V
 | .inl i=> .int i
 | .inr x=> .str x
set_option genInjectivity true in
inductive HO where
 | lst (xs:List V)
 | tup (xs:List V)
 | dK (kvs:List (Key × V)) | dT (kvs:List (List Key × V))
 | set (S:Int -> Bool) (n:Nat)
 | ins (C dx:Addr) (fs:List (Str × V))
 | own (x:Addr)
 | xd (fs:List (Str × V))
 | met (f x:Addr)
 | rng (lo hi:Int)
 | frz (o:Obj) (u:HO)
 | tbl (ps:Array Value)
 | ext (φ:Heap -> Prop)
abbrev Hp:=Addr -> Option HO
def upd (H:Hp) (a:Addr) (o:HO):Hp:=fun b=>if b = a then some o else H b
theorem zAg {H:Hp} {a:Addr} {o:HO}:upd H a o a = some o:=by unfold upd; rw [zN6 rfl]
theorem zX {H:Hp} {a b:Addr} {o:HO} (h:b ≠ a):upd H a o b = H b:=by unfold upd; rw [zN9 h]
theorem zMx {H:Hp} {a b:Addr} {o u:HO} (h:H a = some o) (h':H b = some u) (d:o ≠ u):a ≠ b:=by
 intro e; subst e; rw [h] at h'; exact d (zOr h')
theorem zt {H:Hp} {a b:Addr} {o:HO} (h:H a = some o) (h':H b = none):a ≠ b:=by
 intro e; subst e; rw [h] at h'; cases h'
def zBA (h:Heap) (a:Addr) (items:Array Value):Prop:=∃ o,h.get? a = some o /\ o.cls = .type "tuple" /\ (∃ n,o.data = .seq items n) /\ o.dict = none
theorem zBA.tup {h:Heap} {a:Addr} {items:Array Value} (x:zBA h a items):IsTup h a items:=let ⟨o,e,c,d,_⟩:=x; ⟨o,e,c,d⟩
theorem zBA.lt {h:Heap} {a:Addr} {items:Array Value} (x:zBA h a items):a < h.objs.size:=let ⟨_,e,_⟩:=x; zN2 e
theorem zBA.new (h:Heap) (items:Array Value):zBA (h.push { cls:=.type "tuple", data:=.seq items }) h.objs.size items:=⟨_,zN1 _ rfl,rfl,⟨_,rfl⟩,rfl⟩
section
variable (P:Program) (w:World)
def zAA (H:Hp) (h:Heap) (a:Addr):HO -> Prop
 | .lst xs=>xs.length <= sizeLine /\ ∃ (its:List Value) (n:Nat),zW xs its /\ h.get? a = some { cls:=.type "list", data:=.seq its.toArray n }
 | .tup xs=>xs.length <= sizeLine /\ ∃ its:List Value,zW xs its /\ zBA h a its.toArray
 | .dK kvs=>kvs.length <= sizeLine /\ (a == sysModules) = false /\ ∃ vs,KV kvs vs /\ h.DictOf (zGz P w) a vs
 | .dT kvs=>kvs.length <= sizeLine /\ (a == sysModules) = false /\ ∃ xs:List (List Key × Addr × Value),
   Paired (fun (p:List Key × V) (q:List Key × Addr × Value)=>p.1 = q.1 /\ H q.2.1 = some (.tup (p.1.map kV)) /\ zw p.2 q.2.2) kvs xs /\
   ∃ o es ep,h.get? a = some o /\ o.ExactDict /\ o.data = .dict es ep /\ es.toList = xs.map (entryOfKey (tupleKind (zGz P w))) /\ (xs.map (·.1)).Nodup
 | .set S n=>h.SetOf (intKind P w) a S n
 | .ins C dx fs=>H dx = some (.own a) /\ fs.length <= 1000 /\ dx ≠ a /\ h.get? a = some (PySem.W.instObj C dx) /\
   ∃ mA,h.Ns1 dx mA /\ (∀ f,zLL (fs.lookup f) (mA f)) /\ PySem.Within mA (fs.map (·.1))
 | .own _=>∃ o,h.get? a = some o
 | .xd fs=>∃ mA,h.Ns1 a mA /\ ∀ f,zLL (fs.lookup f) (mA f)
 | .rng lo hi=>∃ t u v,h.get? a = some { cls:=.type "range", data:=.fields #[.int lo t,.int hi u,.int 1 v] }
 | .frz o u=>h.get? a = some o /\ zAA H h a u
 | .tbl ps=>h.get? a = some { cls:=.none,data:=.fields ps }
 | .met f x=>h.get? a = some (PySem.W.methodObj (.ref f) (.ref x))
 | .ext φ=>φ h /\ (∃ o,h.get? a = some o) /\ ∀ h1 h2:Heap,φ h1 -> (∀ o,h1.get? a = some o -> h2.get? a = some o) -> φ h2
def HOk (H:Hp) (h:Heap):Prop:=∀ a o,H a = some o -> zAA P w H h a o
end
section
variable {P:Program} {w:World} {H H':Hp} {h h':Heap} {a:Addr} {o:HO}
theorem zAA.lt (x:zAA P w H h a o):a < h.objs.size:=by
 cases o with
 | lst xs=>obtain ⟨_,_,_,_,e⟩:=x; exact zN2 e
 | tup xs=>obtain ⟨_,_,_,p⟩:=x; exact p.lt
 | dK kvs=>obtain ⟨_,_,_,_,o,_,_,e,_⟩:=x; exact zN2 e
 | dT kvs=>obtain ⟨_,_,_,_,o,_,_,e,_⟩:=x; exact zN2 e
 | set S n=>obtain ⟨o,_,_,_,e,_⟩:=x; exact zN2 e
 | ins C dx fs=>obtain ⟨_,_,_,e,_⟩:=x; exact zN2 e
 | own y=>obtain ⟨_,e⟩:=x; exact zN2 e
 | xd fs=>obtain ⟨_,⟨_,_,_,e,_⟩,_⟩:=x; exact zN2 e
 | rng lo hi=>obtain ⟨_,_,_,e⟩:=x; exact zN2 e
 | frz ob u=>obtain ⟨e,_⟩:=x; exact zN2 e
 | tbl ps=>exact zN2 (show h.get? a = some _ from x)
 | met f y=>exact zN2 (show h.get? a = some _ from x)
 | ext φ=>obtain ⟨_,⟨_,e⟩,_⟩:=x; exact zN2 e
theorem Paired.mapP {α β:Type} {F G:α -> β -> Prop}:∀ {l₁:List α} {l₂:List β},Paired F l₁ l₂ -> (∀ a b,F a b -> G a b) -> Paired G l₁ l₂
 | _,_,.nil,_=> .nil
 | _,_,.cons r t,f=> .cons (f _ _ r) (Paired.mapP t f)
theorem zAA.stay (x:zAA P w H h a o) (k:∀ b u,(b = a \/ H b = some (.own a)) -> h.get? b = some u -> h'.get? b = some u)
  (ho:∀ b,H b = some (.own a) -> H' b = some (.own a)) (ht:∀ b xs,H b = some (.tup xs) -> H' b = some (.tup xs)):zAA P w H' h' a o:=by
 induction o with
 | lst xs=>obtain ⟨z,its,n,r,e⟩:=x; exact ⟨z,its,n,r,k _ _ (.inl rfl) e⟩
 | tup xs=>obtain ⟨z,its,r,ob,e,c⟩:=x; exact ⟨z,its,r,ob,k _ _ (.inl rfl) e,c⟩
 | dK kvs=>obtain ⟨z,y,vs,r,ob,es,ep,e,c⟩:=x; exact ⟨z,y,vs,r,ob,es,ep,k _ _ (.inl rfl) e,c⟩
 | dT kvs=>
  obtain ⟨z,y,xs,r,ob,es,ep,e,c⟩:=x;exact ⟨z,y,xs,Paired.mapP r fun p q z=>⟨z.1,ht _ _ z.2.1,z.2.2⟩,ob,es,ep,k _ _ (.inl rfl) e,c⟩
 | set S n=>obtain ⟨ob,es,ep,t,e,c⟩:=x; exact ⟨ob,es,ep,t,k _ _ (.inl rfl) e,c⟩
 | ins C dx fs=>
  obtain ⟨d,z,ne,e,mA,⟨od,es,ep,e2,c⟩,r⟩:=x;exact ⟨ho _ d,z,ne,k _ _ (.inl rfl) e,mA,⟨od,es,ep,k _ _ (.inr d) e2,c⟩,r⟩
 | own y=>obtain ⟨ob,e⟩:=x; exact ⟨ob,k _ _ (.inl rfl) e⟩
 | xd fs=>obtain ⟨mA,⟨od,es,ep,e,c⟩,r⟩:=x; exact ⟨mA,⟨od,es,ep,k _ _ (.inl rfl) e,c⟩,r⟩
 | rng lo hi=>obtain ⟨t,u,v,e⟩:=x; exact ⟨t,u,v,k _ _ (.inl rfl) e⟩
 | frz ob u ih=>obtain ⟨e,q⟩:=x; exact ⟨k _ _ (.inl rfl) e,ih q⟩
 | tbl ps=>
  have e:h.get? a = some { cls:=.none,data:=.fields ps }:=x;show h'.get? a = some { cls:=.none,data:=.fields ps };exact k a _ (.inl rfl) e
 | met f y=>
  have e:h.get? a = some (PySem.W.methodObj (.ref f) (.ref y)):=x;show h'.get? a = some (PySem.W.methodObj (.ref f) (.ref y));exact k a _ (.inl rfl) e
 | ext φ=>obtain ⟨p,⟨o,e⟩,st⟩:=x; exact ⟨st _ _ p fun o q=>k _ _ (.inl rfl) q,⟨o,k _ _ (.inl rfl) e⟩,st⟩
theorem HOk.lt (x:HOk P w H h) (e:H a = some o):a < h.objs.size:=(x a o e).lt
theorem HOk.fresh (x:HOk P w H h) (e:h.objs.size <= a):H a = none:=by
 cases q:H a with
 | none=>rfl
 | some u=>exact absurd (zOG (x.lt q) e) (zOZ _)
theorem HOk.kept (x:HOk P w H h) (k:∀ b u,h.get? b = some u -> h'.get? b = some u):HOk P w H h':=fun a o e=>
 (x a o e).stay (fun b u _ q=>k b u q) (fun _ q=>q) fun _ _ q=>q
theorem HOk.laid (x:HOk P w H h) (k:∀ b u,h.get? b = some u -> h'.get? b = some u) (hp:h.objs.size <= a) (new:zAA P w (upd H a o) h' a o):HOk P w (upd H a o) h':=fun b u e=>by
 have hn:=x.fresh hp;by_cases hb:b = a
 ·subst hb; rw [zAg] at e; cases e; exact new
 ·rw [zX hb] at e;exact (x b u e).stay (fun c v _ q=>k c v q) (fun c q=>by rw [zX (zt q hn)]; exact q) fun c xs q=>by rw [zX (zt q hn)]; exact q
end
def Rd (H:Hp) (a:Addr) (u:HO):Prop:=H a = some u \/ ∃ o,H a = some (.frz o u)
theorem Rd.ok {P:Program} {w:World} {H:Hp} {h:Heap} {a:Addr} {u:HO} (r:Rd H a u) (x:HOk P w H h):zAA P w H h a u:=by
 rcases r with r | ⟨o,r⟩
 ·exact x a u r
 ·obtain ⟨_,q⟩:=x a _ r;exact q
def Mut:Option HO -> Prop
 | some (.lst _)=>True
 | some (.dK _)=>True
 | some (.dT _)=>True
 | some (.set _ _)=>True
 | some (.ins _ _ _)=>True
 | some (.ext _)=>True
 | _=>False
section
variable {P:Program} {w:World} {H:Hp} {h h':Heap} {x e:Addr} {o':HO}
theorem HOk.write (ok:HOk P w H h) (mu:Mut (H x)) (he:e = x \/ H e = some (.own x)) (k:∀ b u,b ≠ e -> h.get? b = some u -> h'.get? b = some u) (heo:∃ u,h'.get? e = some u)
  (new:zAA P w (upd H x o') h' x o'):HOk P w (upd H x o') h':=fun b u q=>by
 have nown:∀ c y,H c = some (.own y) -> c ≠ x:=fun c y r z=>by subst z; rw [r] at mu; exact mu
 have ntup:∀ c xs,H c = some (.tup xs) -> c ≠ x:=fun c xs r z=>by subst z; rw [r] at mu; exact mu
 by_cases hb:b = x
 ·subst hb; rw [zAg] at q; cases q; exact new
 ·rw [zX hb] at q;by_cases hbe:b = e
  ·have q':H b = some (.own x):=by
    rcases he with z | z
    ·exact absurd (hbe.trans z) hb
    ·rw [hbe]; exact z
   rw [q] at q'; cases q';obtain ⟨v,hv⟩:=heo;exact ⟨v,by rw [hbe]; exact hv⟩
  ·refine (ok b u q).stay (fun c v hc r=>k c v ?_ r) (fun c r=>by rw [zX (nown c b r)]; exact r) fun c xs r=>by rw [zX (ntup c xs r)]; exact r
   rcases hc with rfl | hc
   ·exact hbe
   ·rintro rfl;rcases he with z | z
    ·exact nown c b hc z
    ·rw [hc] at z; cases z; exact hb rfl
end
structure Un (fs ex:List Addr) (H H':Hp) (h h':Heap):Prop where
 keep:∀ b o,h.get? b = some o -> H b = none -> b ∉ fs -> b ∉ ex -> h'.get? b = some o
 slot:∀ b o,h.get? b = some o -> H b = none -> b ∈ fs -> b ∉ ex -> ∃ sl,h'.get? b = some { o with slots:=sl }
 free:∀ b o,h.get? b = some o -> H b = none -> b ∉ ex -> H' b = none
 there:∀ b o,h.get? b = some o -> b ∉ ex -> ∃ o',h'.get? b = some o'
 tups:∀ b xs,H b = some (.tup xs) -> H' b = some (.tup xs)
 frzs:∀ b o u,H b = some (.frz o u) -> H' b = some (.frz o u)
 tbls:∀ b ps,H b = some (.tbl ps) -> ∃ more,H' b = some (.tbl (ps ++ more))
section
variable {fs fs' ex ex':List Addr} {H H1 H2:Hp} {h h1 h2 h':Heap} {a x e:Addr} {o:HO}
theorem Un.any (u:Un fs ex H H1 h h1) {b:Addr} {ob:Obj} (q:h.get? b = some ob) (n:H b = none) (hx:b ∉ ex):∃ sl,h1.get? b = some { ob with slots:=sl }:=by
 by_cases hb:b ∈ fs
 ·exact u.slot b ob q n hb hx
 ·exact ⟨ob.slots,u.keep b ob q n hb hx⟩
theorem Un.kept (k:∀ b u,h.get? b = some u -> h'.get? b = some u):Un fs ex H H h h' :=
 ⟨fun b ob q _ _ _=>k b ob q,fun b ob q _ _ _=>⟨ob.slots,k b ob q⟩,fun _ _ _ n _=>n,fun b ob q _=>⟨ob,k b ob q⟩,fun _ _ q=>q,fun _ _ _ q=>q,fun _ ps q=>⟨#[],by rw [q]; simp⟩⟩
theorem Un.refl:Un fs ex H H h h:=Un.kept fun _ _ q=>q
theorem Un.laid (k:∀ b u,h.get? b = some u -> h'.get? b = some u) (hp:h.objs.size <= a) (hn:H a = none):Un fs ex H (upd H a o) h h' where
 keep:=fun b u q _ _ _=>k b u q;slot:=fun b u q _ _ _=>⟨u.slots,k b u q⟩;free:=fun b u q n _=>by rw [zX (zOC (zOG (zN2 q) hp))]; exact n
 there:=fun b u q _=>⟨u,k b u q⟩;tups:=fun b xs q=>by rw [zX (zt q hn)]; exact q
 frzs:=fun b u xs q=>by rw [zX (zt q hn)]; exact q
 tbls:=fun b ps q=>⟨#[],by rw [zX (zt q hn),q]; simp⟩
theorem Un.write (mu:Mut (H x)) (he:e = x \/ H e = some (.own x)) (k:∀ b u,b ≠ e -> h.get? b = some u -> h'.get? b = some u) (heo:∃ u,h'.get? e = some u):Un fs ex H (upd H x o) h h':=by
 have hx:∀ b,H b = none -> b ≠ x:=fun b n z=>by subst z; rw [n] at mu; exact mu
 have hb:∀ b,H b = none -> b ≠ e:=fun b n z=>by
  subst z;rcases he with r | r
  ·exact hx b n r
  ·rw [n] at r; cases r
 have hm:∀ b u,H b = some u -> ¬ Mut (some u) -> b ≠ x:=fun b u q nm z=>by subst z; rw [q] at mu; exact nm mu
 refine ⟨fun b u q n _ _=>k b u (hb b n) q,fun b u q n _ _=>⟨u.slots,k b u (hb b n) q⟩,fun b u q n _=>by rw [zX (hx b n)]; exact n,fun b u q _=>?_,
  fun b xs q=>by rw [zX (hm b _ q fun z=>z)]; exact q,fun b u xs q=>by rw [zX (hm b _ q fun z=>z)]; exact q,fun b ps q=>⟨#[],by rw [zX (hm b _ q fun z=>z),q]; simp⟩⟩
 by_cases hbe:b = e
 ·subst hbe; exact heo
 ·exact ⟨u,k b u hbe q⟩
end
def trk (h:Heap) (H:Hp):List Addr:=(List.range h.objs.size).filter fun a=>(H a).isSome
def zD9 (h:Heap) (H:Hp):Heap:=PySem.W.hideAll h (trk h H)
theorem zHu (h:Heap) (H:Hp):(zD9 h H).objs.size = h.objs.size:=PySem.W.hideAll_size _ _
theorem zJT {h:Heap} {H:Hp} {b:Addr} {o:Obj} (e:h.get? b = some o) (n:H b = none):(zD9 h H).get? b = some o :=
 PySem.W.hideAll_get _ e fun hm=>by
  have q:(H b).isSome = true:=(List.mem_filter.mp hm).2;rw [n] at q; simp at q
theorem zKA {h:Heap} {H:Hp} {b:Addr} {o:Obj} (e:(zD9 h H).get? b = some o):h.get? b = some o /\ H b = none:=by
 have e':h.get? b = some o:=PySem.W.of_hideAll (trk h H) e;refine ⟨e',?_⟩;cases q:H b with
 | none=>rfl
 | some x=>
  have hm:b ∈ trk h H:=List.mem_filter.mpr ⟨List.mem_range.mpr (zN2 e'),by simp [q]⟩;have z:(zD9 h H).get? b = none:=PySem.W.hideAll_none (trk h H) hm;rw [z] at e; cases e
def BMn (mg:Str -> Option Value) (h:Heap):Prop:=∃ bm ob,mg "__builtins__" = some (.ref bm) /\ bm ≠ builtinsNs /\ h.get? bm = some ob /\ ob.cls = .type "module" /\ ob.dict = some builtinsNs /\ ob.data = .plain
structure Mod (K:PySem.W.Frag) (mg:Str -> Option Value) (base:Heap):Prop where
 kin:K.In base
 glob:base.Ns mainGlobals mg
 blt:∃ mb,base.Ns builtinsNs mb /\ ∀ x:Str,x ≠ "__name__" -> mb x = bootBuiltins x
 nolimit:base.NoLimit
 bmn:BMn mg base
structure Cx where
 prog:Program
 w:World
 K:PySem.W.Frag
 mg:Str -> Option Value
 base:Heap
 A:Around
 N:List Str
 s₀:Shared
 H₀:Hp
 env:Env
 outer:List Env
 stack:List Env
 ex:List Addr
 fn:Str -> Bool
 calm:Bool
 pn:List (Addr × Obj)
 xe:Value -> Shared -> Prop
def frs (l:List Env):List Addr:=l.filterMap (·.frame)
abbrev Cx.fs (X:Cx):List Addr:=frs X.outer
def Vis (sc:Scope) (x:Str):Prop:=sc.names.lookup x = some .local \/ sc.names.lookup x = some .cell \/ sc.names.lookup x = some .free
def Loc (sc:Scope) (x:Str):Prop:=sc.names.lookup x = some .local \/ sc.names.lookup x = some .cell
def zNl (env:Env) (h:Heap) (m:Str -> Option Value) (x:Str) (u:Value):Prop :=
 (env.kindOf x = some .local /\ m x = some u) \/ ((env.kindOf x = some .cell \/ env.kindOf x = some .free) /\ ∃ c,env.cells.lookup x = some c /\ h.IsCell c (some u))
structure Cx.Ok (X:Cx):Prop where
 mod:Mod X.K X.mg X.base
 kind:X.env.scope.kind = .function
 glob:X.env.globals = mainGlobals
 blt:X.env.builtins = builtinsNs
 above:X.s₀.heap.objs.size <= X.env.locals
 inj:∀ x y c,X.env.cells.lookup x = some c -> X.env.cells.lookup y = some c -> x = y
 has:∀ x,(X.env.kindOf x = some .cell \/ X.env.kindOf x = some .free) -> ∃ c,X.env.cells.lookup x = some c
 cab:∀ x c,X.fn x = true -> X.env.cells.lookup x = some c -> X.s₀.heap.objs.size <= c
 hd:X.calm = true -> X.A.handled = none
 frames:X.A.frames = some X.stack
 stk:X.stack = X.outer \/ (X.stack = X.env :: X.outer /\ X.env.frame = some X.env.locals)
 exf:∀ b ∈ X.ex,b ≠ X.env.locals /\ ∀ x c,X.env.cells.lookup x = some c -> c ≠ b
 bs:∀ b o,X.base.get? b = some o -> X.s₀.heap.get? b = some o /\ X.H₀ b = none
 bsz:X.base.objs.size <= X.s₀.heap.objs.size
 noex:∀ b o,X.base.get? b = some o -> b ∉ X.ex
 exfs:∀ b ∈ X.ex,b ∉ X.fs
 funs:X.s₀.heap.FunFrames X.base X.outer
 frf:∀ b ∈ X.fs,X.H₀ b = none
structure Inv (X:Cx) (zB:List (Addr × Obj)) (σ:List (Option V)) (H:Hp) (s:Shared):Prop where
 ok:X.Ok
 os:s.os = X.s₀.os
 bare:AllBare s.gens
 base:Un X.fs X.ex X.H₀ H X.s₀.heap s.heap
 loc:∃ m,s.heap.Ns X.env.locals m /\ ∀ (i:Nat) (x:Str) (v:V),X.N[i]? = some x -> σ[i]? = some (some v) -> Vis X.env.scope x -> ∃ u,zw v u /\ zNl X.env s.heap m x u
 cell:∀ x c,X.env.cells.lookup x = some c -> ∃ v,s.heap.IsCell c v
 free:H X.env.locals = none
 freeC:∀ x c,X.env.cells.lookup x = some c -> H c = none
 pin:∀ p ∈ X.pn ++ zB,s.heap.get? p.1 = some p.2 /\ H p.1 = none /\ p.1 ≠ X.env.locals /\ p.1 ∉ X.fs /\ ∀ v,p.2.data ≠ .cell v
 hok:HOk X.prog X.w H s.heap
 len:σ.length = X.N.length
section
variable {X:Cx} {zB:List (Addr × Obj)} {σ:List (Option V)} {H H':Hp} {s:Shared} {h':Heap}
theorem Cx.Ok.nofr (ok:X.Ok) {b:Addr} {o:Obj} (e:X.base.get? b = some o):b ∉ X.fs:=fun hb=>by
 have:=(ok.funs.mem hb).1;rw [e] at this; cases this
theorem Inv.bs (I:Inv X zB σ H s):∀ b o,X.base.get? b = some o -> s.heap.get? b = some o /\ H b = none:=fun b o e=>
 ⟨I.base.keep b o (I.ok.bs b o e).1 (I.ok.bs b o e).2 (I.ok.nofr e) (I.ok.noex b o e),I.base.free b o (I.ok.bs b o e).1 (I.ok.bs b o e).2 (I.ok.noex b o e)⟩
theorem Inv.bk (I:Inv X zB σ H s):∀ b o,X.base.get? b = some o -> s.heap.get? b = some o:=fun b o e=>(I.bs b o e).1
theorem Inv.mod (I:Inv X zB σ H s):Mod X.K X.mg X.base:=I.ok.mod
theorem Inv.kIn (I:Inv X zB σ H s):X.K.In s.heap:=I.ok.mod.kin.keeps I.bk
theorem Inv.lt (I:Inv X zB σ H s):X.env.locals < s.heap.objs.size:=let ⟨_,hn,_⟩:=I.loc; hn.lt
theorem Inv.sz (I:Inv X zB σ H s):X.s₀.heap.objs.size <= s.heap.objs.size:=zOI I.ok.above (Nat.le_of_lt I.lt)
theorem Inv.nofs (I:Inv X zB σ H s) {a:Addr} (h:s.heap.objs.size <= a):a ∉ X.fs:=fun hb=>by
 obtain ⟨_,o,ho,_⟩:=I.ok.funs.mem hb;exact absurd (zOG (zN2 ho) (zOI I.sz h)) (zOZ _)
theorem Inv.cne (I:Inv X zB σ H s):∀ x c,X.env.cells.lookup x = some c -> c ≠ X.env.locals:=fun x c e z=>by
 obtain ⟨v,o,ho,hd⟩:=I.cell x c e;obtain ⟨m,⟨o',es,ep,ho',hd',_⟩,_⟩:=I.loc;rw [z,ho'] at ho; cases ho; rw [hd'] at hd; cases hd
theorem Inv.funs (I:Inv X zB σ H s):s.heap.FunFrames X.base X.outer:=by
 have all:∀ (l:List Env),(∀ b ∈ frs l,b ∈ X.fs) -> X.s₀.heap.FunFrames X.base l -> s.heap.FunFrames X.base l:=by
  intro l;induction l with
  | nil=>intro _ _; trivial
  | cons env r ih=>
   intro hs hl;obtain ⟨hk,⟨L,o,hf,hn,ho,hd⟩,hr⟩:=hl;have hL:L ∈ X.fs:=hs L (by unfold frs; rw [List.filterMap_cons,hf]; exact zN5);obtain ⟨sl,e⟩:=I.base.slot L o ho (I.ok.frf L hL) hL fun z=>I.ok.exfs L z hL;exact ⟨hk,⟨L,_,hf,hn,e,hd⟩,ih (fun b hb=>hs b (by unfold frs; rw [List.filterMap_cons,hf]; exact zN4 _ hb)) hr⟩
 exact all X.outer (fun _ hb=>hb) I.ok.funs
theorem Inv.stack (I:Inv X zB σ H s):s.heap.FunFrames X.base X.stack:=by
 rcases I.ok.stk with e | ⟨e,hf⟩
 ·rw [e]; exact I.funs
 ·rw [e];obtain ⟨m,hn,_⟩:=I.loc;refine .cons (by rw [I.ok.kind]; decide) hf hn ?_ I.funs;exact Heap.get?_none_of_le (zOI I.ok.bsz I.ok.above)
theorem Inv.stkSub (I:Inv X zB σ H s):∀ b ∈ frs X.stack,b ∈ X.env.locals :: X.fs:=fun b hb=>by
 rcases I.ok.stk with e | ⟨e,hf⟩
 ·rw [e] at hb; exact zN4 _ hb
 ·rw [e] at hb;unfold frs at hb;rw [List.filterMap_cons,hf] at hb;exact hb
theorem Inv.stkFree (I:Inv X zB σ H s):∀ b ∈ frs X.stack,H b = none:=fun b hb=>by
 rcases zN3.mp (I.stkSub b hb) with e | hb
 ·rw [e]; exact I.free
 ·obtain ⟨_,o,ho,_⟩:=I.ok.funs.mem hb;exact I.base.free b o ho (I.ok.frf b hb) fun z=>I.ok.exfs b z hb
theorem Inv.step {g':Array GenState} {t':Nat} {d':Drawn} {ch:List Addr} (I:Inv X zB σ H s)
  (hch:∀ b ∈ ch,(b ∈ X.ex \/ X.s₀.heap.objs.size <= b) /\ b ≠ X.env.locals /\ (∀ x c,X.env.cells.lookup x = some c -> c ≠ b) /\ ∀ p ∈ X.pn ++ zB,p.1 ≠ b)
  (keep:∀ b o,b ≠ X.env.locals -> b ∉ X.fs -> b ∉ ch -> s.heap.get? b = some o -> H b = none -> h'.get? b = some o)
  (slot:∀ b o,b ≠ X.env.locals -> b ∈ X.fs -> b ∉ ch -> s.heap.get? b = some o -> H b = none -> ∃ sl,h'.get? b = some { o with slots:=sl }) (free:∀ b o,b ∉ ch -> s.heap.get? b = some o -> H b = none -> H' b = none)
  (there:∀ b o,b ∉ ch -> s.heap.get? b = some o -> ∃ o',h'.get? b = some o')
  (tups:∀ b xs,H b = some (.tup xs) -> H' b = some (.tup xs)) (frzs:∀ b o u,H b = some (.frz o u) -> H' b = some (.frz o u)) (tbls:∀ b ps,H b = some (.tbl ps) -> ∃ more,H' b = some (.tbl (ps ++ more)))
  (ns:∀ m,s.heap.Ns X.env.locals m -> h'.Ns X.env.locals m) (hok:HOk X.prog X.w H' h') (hg:AllBare g') :
  Inv X zB σ H' { s with heap:=h',gens:=g',drawn:=d',toks:=t' }:=by
 have neL:∀ b o,X.s₀.heap.get? b = some o -> b ≠ X.env.locals:=fun b o e=>zOC (zOG (zN2 e) I.ok.above);have neC:∀ b o,X.s₀.heap.get? b = some o -> b ∉ X.ex -> b ∉ ch:=fun b o e hx hb=>by
  rcases (hch b hb).1 with z | z
  ·exact hx z
  ·exact absurd (zOG (zN2 e) z) (zOZ _)
 have cellK:∀ x c,X.env.cells.lookup x = some c -> ∀ v,s.heap.IsCell c v -> h'.IsCell c v:=fun x c e v ⟨o,ho,hd⟩=>by
  have nch:c ∉ ch:=fun z=>(hch c z).2.2.1 x c e rfl;by_cases hc:c ∈ X.fs
  ·obtain ⟨sl,q⟩:=slot c o (I.cne x c e) hc nch ho (I.freeC x c e);exact ⟨_,q,hd⟩
  ·exact ⟨o,keep c o (I.cne x c e) hc nch ho (I.freeC x c e),hd⟩
 refine ⟨I.ok,I.os,hg,⟨fun b o e n hb hx=>?_,fun b o e n hb hx=>?_,fun b o e n hx=>?_,fun b o e hx=>?_,fun b xs e=>tups b xs (I.base.tups b xs e),fun b o xs e=>frzs b o xs (I.base.frzs b o xs e),fun b ps e=>?_⟩,?_,fun x c e=>?_,?_,fun x c e=>?_,fun p hp=>?_,hok,I.len⟩
 ·exact keep b o (neL b o e) hb (neC b o e hx) (I.base.keep b o e n hb hx) (I.base.free b o e n hx)
 ·obtain ⟨sl,e1⟩:=I.base.slot b o e n hb hx;obtain ⟨sl',e2⟩:=slot b _ (neL b o e) hb (neC b o e hx) e1 (I.base.free b o e n hx);exact ⟨sl',e2⟩
 ·obtain ⟨o',e1⟩:=I.base.there b o e hx;exact free b o' (neC b o e hx) e1 (I.base.free b o e n hx)
 ·obtain ⟨o',e1⟩:=I.base.there b o e hx;exact there b o' (neC b o e hx) e1
 ·obtain ⟨m1,e1⟩:=I.base.tbls b ps e;obtain ⟨m2,e2⟩:=tbls b _ e1;exact ⟨m1 ++ m2,by rw [e2,Array.append_assoc]⟩
 ·obtain ⟨m,hn,hl⟩:=I.loc;refine ⟨m,ns m hn,fun i x v e1 e2 e3=>?_⟩;obtain ⟨u,r,l⟩:=hl i x v e1 e2 e3;refine ⟨u,r,?_⟩;rcases l with l | ⟨k,c,e,z⟩
  ·exact .inl l
  ·exact .inr ⟨k,c,e,cellK x c e _ z⟩
 ·obtain ⟨v,z⟩:=I.cell x c e;exact ⟨v,cellK x c e v z⟩
 ·obtain ⟨m,⟨o,_,_,ho,_⟩,_⟩:=I.loc;exact free _ o (fun z=>(hch _ z).2.1 rfl) ho I.free
 ·obtain ⟨v,o,ho,hd⟩:=I.cell x c e;exact free c o (fun z=>(hch c z).2.2.1 x c e rfl) ho (I.freeC x c e)
 ·obtain ⟨e,n,ne,nf,d⟩:=I.pin p hp;have nch:p.1 ∉ ch:=fun z=>(hch p.1 z).2.2.2 p hp rfl;exact ⟨keep p.1 p.2 ne nf nch e n,free p.1 p.2 nch e n,ne,nf,d⟩
theorem Inv.un {t':Nat} (I:Inv X zB σ H s) (u:Un X.fs [] H H' s.heap h') (hok:HOk X.prog X.w H' h'):Inv X zB σ H' { s with heap:=h',toks:=t' }:=by
 obtain ⟨m,⟨o,es,ep,ho,r⟩,_⟩:=id I.loc;obtain ⟨sl,hL⟩:=u.any ho I.free (by simp);exact I.step (g':=s.gens) (d':=s.drawn) (ch:=[]) (fun _ z=>nomatch z) (fun b o _ hb _ e n=>u.keep b o e n hb (by simp)) (fun b o _ hb _ e n=>u.slot b o e n hb (by simp)) (fun b o _ e n=>u.free b o e n (by simp)) (fun b o _ e=>u.there b o e (by simp)) u.tups u.frzs u.tbls (fun m' hm=>by
  obtain ⟨o',es',ep',ho',r'⟩:=hm;rw [ho] at ho'; cases ho';exact ⟨_,es',ep',hL,r'⟩) hok I.bare
theorem Inv.call {g':Array GenState} {t':Nat} {d':Drawn} {ch:List Addr} (I:Inv X zB σ H s) (u:Un (frs X.stack) ch H H' s.heap h') (hok:HOk X.prog X.w H' h') (hg:AllBare g')
  (hch:∀ b ∈ ch,(b ∈ X.ex \/ X.s₀.heap.objs.size <= b) /\ b ≠ X.env.locals /\ (∀ x c,X.env.cells.lookup x = some c -> c ≠ b) /\ ∀ p ∈ X.pn ++ zB,p.1 ≠ b) :
  Inv X zB σ H' { s with heap:=h',gens:=g',drawn:=d',toks:=t' }:=by
 obtain ⟨m,⟨o,es,ep,ho,r⟩,_⟩:=id I.loc;obtain ⟨sl,hL⟩:=u.any ho I.free fun z=>(hch _ z).2.1 rfl;exact I.step (ch:=ch) hch (fun b o hL hb hc e n=>u.keep b o e n (fun z=>(zN3.mp (I.stkSub b z)).elim hL hb) hc) (fun b o _ _ hc e n=>u.any e n hc) (fun b o hc e n=>u.free b o e n hc) (fun b o hc e=>u.there b o e hc) u.tups u.frzs u.tbls (fun m' hm=>by
  obtain ⟨o',es',ep',ho',r'⟩:=hm;rw [ho] at ho'; cases ho';exact ⟨_,es',ep',hL,r'⟩) hok hg
theorem Inv.turned {t':Nat} {it:Addr} (I:Inv X zB σ H s) (k:∀ b o,b ≠ it -> s.heap.get? b = some o -> h'.get? b = some o) (hn:H it = none) (hL:it ≠ X.env.locals)
  (h1:it ∈ X.ex \/ X.s₀.heap.objs.size <= it) (h2:∀ x c,X.env.cells.lookup x = some c -> c ≠ it) (h3:∀ p ∈ X.pn ++ zB,p.1 ≠ it):Inv X zB σ H { s with heap:=h',toks:=t' }:=by
 have nit:∀ b u,H b = some u -> b ≠ it:=fun b u e z=>by rw [z,hn] at e; cases e
 refine I.step (g':=s.gens) (d':=s.drawn) (ch:=[it]) (fun b hb=>?_) (fun b o _ _ hc e _=>k b o (fun z=>hc (by simp [z])) e) (fun b o _ _ hc e _=>⟨o.slots,k b o (fun z=>hc (by simp [z])) e⟩) (fun _ _ _ _ n=>n)
  (fun b o hc e=>⟨o,k b o (fun z=>hc (by simp [z])) e⟩) (fun _ _ e=>e) (fun _ _ _ e=>e) (fun b ps e=>⟨#[],by rw [e]; simp⟩) (fun m hm=>?_) (fun b u e=>?_) I.bare
 ·have e:b = it:=by simpa using hb
  subst e;exact ⟨h1,hL,h2,h3⟩
 ·obtain ⟨o,es,ep,ho,r⟩:=hm;exact ⟨o,es,ep,k _ o (Ne.symm hL) ho,r⟩
 ·refine (I.hok b u e).stay (fun c v hc q=>k c v ?_ q) (fun _ q=>q) fun _ _ q=>q;rcases hc with z | z
  ·rw [z]; exact nit b u e
  ·exact nit c _ z
theorem Inv.tok (I:Inv X zB σ H s) (t:Nat):Inv X zB σ H { s with toks:=t }:=I.un (h':=s.heap) (t':=t) Un.refl I.hok
theorem Inv.kept {t':Nat} (I:Inv X zB σ H s) (k:∀ b u,s.heap.get? b = some u -> h'.get? b = some u):Inv X zB σ H { s with heap:=h',toks:=t' }:=I.un (Un.kept k) (I.hok.kept k)
theorem Inv.laid {a:Addr} {o:HO} {t':Nat} (I:Inv X zB σ H s) (k:∀ b u,s.heap.get? b = some u -> h'.get? b = some u) (hp:s.heap.objs.size <= a) (new:zAA X.prog X.w (upd H a o) h' a o) :
  Inv X zB σ (upd H a o) { s with heap:=h',toks:=t' }:=I.un (Un.laid k hp (I.hok.fresh hp)) (I.hok.laid k hp new)
theorem Inv.write {x e:Addr} {o:HO} {t':Nat} (I:Inv X zB σ H s) (mu:Mut (H x)) (he:e = x \/ H e = some (.own x)) (k:∀ b u,b ≠ e -> s.heap.get? b = some u -> h'.get? b = some u) (heo:∃ u,h'.get? e = some u)
  (new:zAA X.prog X.w (upd H x o) h' x o):Inv X zB σ (upd H x o) { s with heap:=h',toks:=t' }:=I.un (Un.write mu he k heo) (I.hok.write mu he k heo new)
theorem Inv.weak {σ':List (Option V)} (I:Inv X zB σ H s) (hl:σ'.length = σ.length) (w:∀ (i:Nat) v,σ'[i]? = some (some v) -> σ[i]? = some (some v)):Inv X zB σ' H s :=
 ⟨I.ok,I.os,I.bare,I.base,let ⟨m,hn,hl'⟩:=I.loc; ⟨m,hn,fun i x v e1 e2 e3=>hl' i x v e1 (w i v e2) e3⟩,I.cell,I.free,I.freeC,I.pin,I.hok,hl.trans I.len⟩
theorem Inv.pins_of {pins':List (Addr × Obj)} (I:Inv X zB σ H s) (h:∀ p ∈ pins',s.heap.get? p.1 = some p.2 /\ H p.1 = none /\ p.1 ≠ X.env.locals /\ p.1 ∉ X.fs /\ ∀ v,p.2.data ≠ .cell v):Inv X pins' σ H s :=
 ⟨I.ok,I.os,I.bare,I.base,I.loc,I.cell,I.free,I.freeC,fun p hp=>(zOH.mp hp).elim (fun z=>I.pin p (List.mem_append_left _ z)) (h p),I.hok,I.len⟩
theorem zDg {N:List Str} (hN:N.Nodup) {i j:Nat} {x:Str} (a:N[i]? = some x) (b:N[j]? = some x):i = j:=by
 obtain ⟨h1,e1⟩:=zNu.mp a;obtain ⟨h2,e2⟩:=zNu.mp b;exact (List.getElem_inj hN).mp (e1.trans e2.symm)
theorem zHk {M:Model} {A:Around} {E:Value -> Shared -> Prop} {i:Nat} {x:Str} {v:V} {u:Value} {Q:Unit -> Shared -> Prop} (I:Inv X zB σ H s) (hN:X.N.Nodup) (hi:X.N[i]? = some x) (hx:Loc X.env.scope x) (r:zw v u)
  (h:∀ s',Inv X zB (σ.set i (some v)) H s' -> (∃ a,Heap.SameBut a s.heap s'.heap /\ (a = X.env.locals \/ X.env.cells.lookup x = some a)) -> Q () s') (hf:X.fn x = true \/ X.env.scope.names.lookup x = some .local:=by first | exact .inl rfl | exact .inr rfl | assumption):wpAny M A (storeName X.env x u) Q E s:=by
 obtain ⟨m,hn,hl⟩:=id I.loc;have hcls:(X.env.scope.kind == .class || (X.env.scope.kind == .module && X.env.locals != X.env.globals)) = false:=by rw [I.ok.kind]; rfl
 have hiσ:i < σ.length:=by rw [I.len]; exact (zNu.mp hi).1
 have cne:=I.cne;have tracked:∀ {a:Addr} {h':Heap},(∃ o,s.heap.get? a = some o /\ H a = none) -> Heap.SameBut a s.heap h' -> HOk X.prog X.w H h':=fun {a h'} ha hs b ob e=>by
  obtain ⟨_,_,hfree⟩:=ha;refine (I.hok b ob e).stay (fun c w' hc q=>(hs.2 c ?_).trans q) (fun _ q=>q) fun _ _ q=>q;rintro rfl;rcases hc with rfl | hc
  ·rw [hfree] at e; cases e
  ·rw [hfree] at hc; cases hc
 rcases hx with hk | hk
 ·refine wpAny_storeName_local hk hn (fun h' hn' hs=>?_) hcls;obtain ⟨oL,_,_,hoL,_⟩:=id hn;refine h _ ⟨I.ok,I.os,I.bare,⟨fun b o e n hb hx=>?_,fun b o e n hb hx=>?_,I.base.free,fun b o e hx=>?_,I.base.tups,I.base.frzs,I.base.tbls⟩,⟨_,hn',fun j y v' e1 e2 e3=>?_⟩,fun y c e=>?_,I.free,I.freeC,fun p hp=>?_,tracked ⟨oL,hoL,I.free⟩ hs,by simpa using I.len⟩ ⟨_,hs,.inl rfl⟩
  ·exact (hs.2 b (zOC (zOG (zN2 e) I.ok.above))).trans (I.base.keep b o e n hb hx)
  ·obtain ⟨sl,e1⟩:=I.base.slot b o e n hb hx;exact ⟨sl,(hs.2 b (zOC (zOG (zN2 e) I.ok.above))).trans e1⟩
  ·obtain ⟨o',e1⟩:=I.base.there b o e hx;exact ⟨o',(hs.2 b (zOC (zOG (zN2 e) I.ok.above))).trans e1⟩
  ·by_cases hj:j = i
   ·subst hj;rw [hi] at e1; cases e1;rw [zOl hiσ] at e2;cases e2;exact ⟨u,r,.inl ⟨hk,by simp⟩⟩
   ·rw [zOL (Ne.symm hj)] at e2;obtain ⟨u',r',q⟩:=hl j y v' e1 e2 e3;refine ⟨u',r',?_⟩;rcases q with ⟨k,e⟩ | ⟨k,c,e,z⟩
    ·refine .inl ⟨k,?_⟩;have:y ≠ x:=fun e=>hj (zDg hN e1 (e ▸ hi));simp [this,e]
    ·exact .inr ⟨k,c,e,z.sameBut hs (cne y c e)⟩
  ·obtain ⟨w',z⟩:=I.cell y c e;exact ⟨w',z.sameBut hs (cne y c e)⟩
  ·obtain ⟨e,n,ne,nf,d⟩:=I.pin p hp;exact ⟨(hs.2 p.1 ne).trans e,n,ne,nf,d⟩
 ·have hfn:X.fn x = true:=by
   rcases hf with z | z
   ·exact z
   ·rw [z] at hk; cases hk
  obtain ⟨c,hc⟩:=I.ok.has x (.inl hk);obtain ⟨w',z⟩:=I.cell x c hc;refine wpAny_storeName_cell I.ok.kind hk hc z (fun h' hc' hs=>?_);obtain ⟨oc,hoc,hocd⟩:=id z;refine h { s with heap:=h' } ⟨I.ok,I.os,I.bare,⟨fun b o e n hb hx=>?_,fun b o e n hb hx=>?_,I.base.free,fun b o e hx=>?_,I.base.tups,I.base.frzs,I.base.tbls⟩,⟨m,hn.sameBut hs (Ne.symm (cne x c hc)),fun j y v' e1 e2 e3=>?_⟩,fun y c' e=>?_,I.free,I.freeC,fun p hp=>?_,tracked ⟨oc,hoc,I.freeC x c hc⟩ hs,by simpa using I.len⟩ ⟨c,hs,.inr hc⟩
  ·exact (hs.2 b (zOC (zOG (zN2 e) (I.ok.cab x c hfn hc)))).trans (I.base.keep b o e n hb hx)
  ·obtain ⟨sl,e1⟩:=I.base.slot b o e n hb hx;exact ⟨sl,(hs.2 b (zOC (zOG (zN2 e) (I.ok.cab x c hfn hc)))).trans e1⟩
  ·obtain ⟨o',e1⟩:=I.base.there b o e hx;exact ⟨o',(hs.2 b (zOC (zOG (zN2 e) (I.ok.cab x c hfn hc)))).trans e1⟩
  ·by_cases hj:j = i
   ·subst hj;rw [hi] at e1; cases e1;rw [zOl hiσ] at e2;cases e2;exact ⟨u,r,.inr ⟨.inl hk,c,hc,hc'⟩⟩
   ·rw [zOL (Ne.symm hj)] at e2;obtain ⟨u',r',q⟩:=hl j y v' e1 e2 e3;refine ⟨u',r',?_⟩;rcases q with q | ⟨k,c',e,z'⟩
    ·exact .inl q
    ·refine .inr ⟨k,c',e,z'.sameBut hs ?_⟩;rintro rfl;exact hj (zDg hN e1 (I.ok.inj _ _ _ e hc ▸ hi))
  ·by_cases hcc:c' = c
   ·subst hcc; exact ⟨_,hc'⟩
   ·obtain ⟨w2,z2⟩:=I.cell y c' e;exact ⟨w2,z2.sameBut hs hcc⟩
  ·obtain ⟨e,n,ne,nf,d⟩:=I.pin p hp;refine ⟨(hs.2 p.1 ?_).trans e,n,ne,nf,d⟩;intro q;rw [q,hoc] at e;have q':oc = p.2:=zOr e;exact d w' (by rw [<- q']; exact hocd)
theorem zBk {M:Model} {A:Around} {E:Value -> Shared -> Prop} {i:Nat} {x:Str} {v:V} {u:Value} {Q:Unit -> Shared -> Prop} (I:Inv X zB σ H s) (hN:X.N.Nodup) (hi:X.N[i]? = some x) (hx:Loc X.env.scope x) (r:zw v u)
  (h:∀ s',Inv X zB (σ.set i (some v)) H s' -> Q () s') (hf:X.fn x = true \/ X.env.scope.names.lookup x = some .local:=by first | exact .inl rfl | exact .inr rfl | assumption):wpAny M A (storeName X.env x u) Q E s :=
 zHk I hN hi hx r (fun s' I' _=>h s' I') hf
theorem Inv.call' {s':Shared} {ch:List Addr} (I:Inv X zB σ H s) (ho:s'.os = s.os) (u:Un (frs X.stack) ch H H' s.heap s'.heap) (hok:HOk X.prog X.w H' s'.heap) (hg:AllBare s'.gens)
  (hch:∀ b ∈ ch,(b ∈ X.ex \/ X.s₀.heap.objs.size <= b) /\ b ≠ X.env.locals /\ (∀ x c,X.env.cells.lookup x = some c -> c ≠ b) /\ ∀ p ∈ X.pn ++ zB,p.1 ≠ b):Inv X zB σ H' s':=by
 obtain ⟨h',g',d',t',o'⟩:=s';have e:o' = s.os:=ho;subst e;exact I.call (g':=g') (t':=t') (d':=d') u hok hg hch
end
abbrev XK:=Value -> Option Addr -> Hp -> Prop
abbrev St:=List (Option V)
abbrev VK:=V -> Hp -> Prop
abbrev TE:=St -> Hp -> VK -> Prop
abbrev TT:=St -> Hp -> (Bool -> Hp -> Prop) -> Prop
abbrev TA:=St -> Hp -> (List V -> Hp -> Prop) -> Prop
structure Ends where
 nx:St -> Hp -> Prop
 rt:VK
 bk:St -> Hp -> Prop:=fun _ _=>False
 ct:St -> Hp -> Prop:=fun _ _=>False
abbrev TS:=Ends -> St -> Hp -> Prop
def EP (X:Cx) (zB:List (Addr × Obj)) (σ:St) (Q:VK) (u:Value) (s':Shared):Prop:=∃ v H',Inv X zB σ H' s' /\ zw v u /\ Q v H'
def TP (X:Cx) (zB:List (Addr × Obj)) (σ:St) (Q:Bool -> Hp -> Prop) (b:Bool) (s':Shared):Prop:=∃ H',Inv X zB σ H' s' /\ Q b H'
def AP (X:Cx) (zB:List (Addr × Obj)) (σ:St) (Q:List V -> Hp -> Prop) (us:List Value) (s':Shared):Prop:=∃ vs H',Inv X zB σ H' s' /\ zW vs us /\ Q vs H'
def SP (X:Cx) (zB:List (Addr × Obj)) (D:Ends) (f:Flow) (s':Shared):Prop :=
 match f with
 | .next=>∃ σ' H',Inv X zB σ' H' s' /\ D.nx σ' H'
 | .brk=>∃ σ' H',Inv X zB σ' H' s' /\ D.bk σ' H'
 | .cont=>∃ σ' H',Inv X zB σ' H' s' /\ D.ct σ' H'
 | .ret u=>∃ v σ' H',Inv X zB σ' H' s' /\ zw v u /\ D.rt v H'
def PE (X:Cx) (e:Expr) (t:TE):Prop :=
 ∀ (zB:List (Addr × Obj)) (s:Shared) (σ:St) (H:Hp) (Q:VK),Inv X zB σ H s -> t σ H Q -> wpAny (model X.prog X.w) X.A (eval e X.env) (EP X zB σ Q) X.xe s
def PT (X:Cx) (e:Expr) (t:TT):Prop :=
 ∀ (zB:List (Addr × Obj)) (s:Shared) (σ:St) (H:Hp) (Q:Bool -> Hp -> Prop),Inv X zB σ H s -> t σ H Q -> wpAny (model X.prog X.w) X.A (isTrue e X.env (eval e X.env)) (TP X zB σ Q) X.xe s
def PW (X:Cx) (e:Expr) (t:TT):Prop :=
 ∀ (whole:Sem Value) (zB:List (Addr × Obj)) (s:Shared) (σ:St) (H:Hp) (Q:Bool -> Hp -> Prop),Inv X zB σ H s -> t σ H Q -> wpAny (model X.prog X.w) X.A (isTrue e X.env whole) (TP X zB σ Q) X.xe s
theorem PW.pt {X:Cx} {e:Expr} {t:TT} (h:PW X e t):PT X e t:=h _
def PA (X:Cx) (es:List Expr) (t:TA):Prop :=
 ∀ (pos:Pos) (zB:List (Addr × Obj)) (s:Shared) (σ:St) (H:Hp) (Q:List V -> Hp -> Prop),Inv X zB σ H s -> t σ H Q -> wpAny (model X.prog X.w) X.A (spliced (backTo pos (starEach es X.env))) (AP X zB σ Q) X.xe s
def PS (X:Cx) (st:Stmt) (t:TS):Prop :=
 ∀ (zB:List (Addr × Obj)) (s:Shared) (σ:St) (H:Hp) (D:Ends),Inv X zB σ H s -> t D σ H -> wpAny (model X.prog X.w) X.A (exec st X.env) (SP X zB D) X.xe s
def PSs (X:Cx) (st:List Stmt) (t:TS):Prop :=
 ∀ (zB:List (Addr × Obj)) (s:Shared) (σ:St) (H:Hp) (D:Ends),Inv X zB σ H s -> t D σ H -> wpAny (model X.prog X.w) X.A (execs st X.env) (SP X zB D) X.xe s
theorem thn {α:Type} {t:Sem α} {Q Q':α -> Shared -> Prop} {M:Model} {A:Around} {E:Value -> Shared -> Prop} {s:Shared} (h:wpAny M A t Q E s) (hQ:∀ a s,Q a s -> Q' a s):wpAny M A t Q' E s:=zON h hQ fun _ _ x=>x
section
variable {X:Cx}
def zML (i:Nat):TE:=fun σ H Q=>∃ v,σ[i]? = some (some v) /\ Q v H
def tC (v:V):TE:=fun _ H Q=>Q v H
theorem zE3 {i:Nat} {x:Str} {pos:Pos} (hN:X.N[i]? = some x) (hv:Vis X.env.scope x) (hd:(x == ("__debug__" : Str)) = false:=by decide) (hcd:(x == ("__classdict__" : Str)) = false:=by decide):PE X (.Name x pos) (zML i):=by
 intro zB s σ H Q I h;obtain ⟨v,e,h⟩:=h;obtain ⟨m,hn,hl⟩:=I.loc;obtain ⟨u,r,l⟩:=hl i x v hN e hv;have fin:EP X zB σ Q u s:=⟨v,H,I,r,h⟩;rcases l with ⟨hk,hm⟩ | ⟨hk,c,hc,hcell⟩
 ·exact wpAny_Name (wpAny_loadName_local I.ok.kind hk hn hm fin) hd
 ·rcases hk with hk | hk
  ·exact wpAny_Name (wpAny_loadName_cell I.ok.kind hk hc hcell fin) hd
  ·exact wpAny_Name (wpAny_loadName_free I.ok.kind hk hc hcell fin hcd) hd
theorem zLH {i j pos}:PE X (.Constant (.int i) j pos) (tC (.int i)):=fun _ _ _ H _ I h=>wpAny_Constant_int ⟨.int i,H,I.tok _,⟨_,rfl⟩,h⟩
theorem zNE {b j pos}:PE X (.Constant (.bool b) j pos) (tC (.bl b)):=fun _ _ _ H _ I h=>Constant_bool ⟨.bl b,H,I,rfl,h⟩
theorem zL7 {j pos}:PE X (.Constant .none j pos) (tC .non):=fun _ _ _ H _ I h=>Constant_none ⟨.non,H,I,rfl,h⟩
theorem zL8 {x j pos}:PE X (.Constant (.str x) j pos) (tC (.str x)):=fun _ _ _ H _ I h=>Calls.Constant_str ⟨.str x,H,I.tok _,⟨_,rfl⟩,h⟩
def Gl (X:Cx) (x:Str):Prop:=X.env.kindOf x = some .globalImplicit
theorem zCl {E:Value -> Shared -> Prop} {zB:List (Addr × Obj)} {s:Shared} {σ:St} {H:Hp} {x:Str} {u:Value} {pos:Pos} {Q:Value -> Shared -> Prop} (I:Inv X zB σ H s) (hg:Gl X x) (hm:X.mg x = some u) (h:Q u s)
  (hd:(x == ("__debug__" : Str)) = false:=by decide):wpAny (model X.prog X.w) X.A (eval (.Name x pos) X.env) Q E s :=
 Calls.Name_function_global I.ok.kind hg (Calls.loadGlobal_global (by rw [I.ok.glob]; exact I.mod.glob.keeps I.bk) hm h) hd
theorem zDZ {E:Value -> Shared -> Prop} {zB:List (Addr × Obj)} {s:Shared} {σ:St} {H:Hp} {x:Str} {u:Value} {pos:Pos} {Q:Value -> Shared -> Prop} (I:Inv X zB σ H s) (hg:Gl X x) (hm:X.mg x = none) (hv:bootBuiltins x = some u) (h:Q u s)
  (hn:x ≠ "__name__" := by decide) (hd:(x == ("__debug__" : Str)) = false:=by decide):wpAny (model X.prog X.w) X.A (eval (.Name x pos) X.env) Q E s:=by
 obtain ⟨mb,h1,h2⟩:=I.mod.blt;exact Calls.Name_function_global I.ok.kind hg (Calls.loadGlobal_builtin (by rw [I.ok.glob]; exact I.mod.glob.keeps I.bk) hm (by rw [I.ok.blt]; exact h1.keeps I.bk) ((h2 x hn).trans hv) h) hd
theorem zDS {x:Str} {v:V} {u:Value} {pos:Pos} (hg:Gl X x) (hm:X.mg x = some u) (r:zw v u) (hd:(x == ("__debug__" : Str)) = false:=by decide):PE X (.Name x pos) (tC v) :=
 fun _ _ _ H _ I h=>zCl I hg hm ⟨v,H,I,r,h⟩ hd
theorem zGy {x:Str} {v:V} {u:Value} {pos:Pos} (hg:Gl X x) (hm:X.mg x = none) (hv:bootBuiltins x = some u) (r:zw v u) (hn:x ≠ "__name__" := by decide) (hd:(x == ("__debug__" : Str)) = false:=by decide):PE X (.Name x pos) (tC v) :=
 fun _ _ _ H _ I h=>zDZ I hg hm hv ⟨v,H,I,r,h⟩ hn hd
variable {a b:Expr} {ta tb:TE} {pos:Pos}
def tB (t:TE):TT:=fun σ H Q=>t σ H fun x H1=>∃ c,x = .bl c /\ Q c H1
theorem zE1 {e:Expr} {t:TE} (h:PE X e t) (he:∀ whole,isTrue e X.env whole = (do let v <- whole; standAt e.pos; holding [v] (truthy v)):=by intro _; rfl):PT X e (tB t):=by
 intro zB s σ H Q I hw;refine isTrue_plain (thn (h zB s σ H _ I hw) fun v s1 ⟨x,H1,I1,r1,q1⟩=>?_) (he _);obtain ⟨d,rfl,q⟩:=q1;cases r1;exact wpAny_truthy_bool ⟨H1,I1,q⟩
variable {tA tB':TT} {rest:List Expr}
def zNo (t u:TT):TT:=fun σ H Q=>t σ H fun c H1=>if c = true then u σ H1 Q else Q false H1
def tOr (t u:TT):TT:=fun σ H Q=>t σ H fun c H1=>if c = true then Q true H1 else u σ H1 Q
def zNp (t:TT):TT:=fun σ H Q=>t σ H fun c H1=>Q (!c) H1
theorem zJa (ha:PT X a tA):PW X (.BoolOp .And [a] pos) tA:=by
 intro wh zB s σ H Q I h;refine isTrue_and (thn (ha zB s σ H Q I h) fun c s1 e=>?_);cases c with
 | true=>exact isTrue_and_nil e
 | false=>exact e
theorem zJG (ha:PT X a tA):PW X (.BoolOp .Or [a] pos) tA:=by
 intro wh zB s σ H Q I h;refine isTrue_or (thn (ha zB s σ H Q I h) fun c s1 e=>?_);cases c with
 | false=>exact isTrue_or_nil e
 | true=>exact e
theorem zL3 (ha:PT X a tA) (hb:PW X (.BoolOp .And (b :: rest) pos) tB'):PW X (.BoolOp .And (a :: b :: rest) pos) (zNo tA tB'):=by
 intro wh zB s σ H Q I h;refine isTrue_and (thn (ha zB s σ H _ I h) fun c s1 ⟨H1,I1,q1⟩=>?_);cases c with
 | true=>exact hb wh zB s1 σ H1 Q I1 q1
 | false=>exact ⟨H1,I1,q1⟩
theorem zH0 (ha:PT X a tA) (hb:PW X (.BoolOp .Or (b :: rest) pos) tB'):PW X (.BoolOp .Or (a :: b :: rest) pos) (tOr tA tB'):=by
 intro wh zB s σ H Q I h;refine isTrue_or (thn (ha zB s σ H _ I h) fun c s1 ⟨H1,I1,q1⟩=>?_);cases c with
 | true=>exact ⟨H1,I1,q1⟩
 | false=>exact hb wh zB s1 σ H1 Q I1 q1
theorem zGK (ha:PT X a tA):PT X (.UnaryOp .Not a pos) (zNp tA):=by
 intro zB s σ H Q I h;exact isTrue_not (ha zB s σ H (fun c H1=>Q (!c) H1) I h)
def zMz (ta tb:TE):TE:=fun σ H Q=>ta σ H fun x H1=>∃ c,x = .bl c /\ if c = true then tb σ H1 Q else Q (.bl false) H1
def zMr (ta:TE):TE:=fun σ H Q=>ta σ H fun x H1=>∃ c,x = .bl c /\ Q (.bl (!c)) H1
theorem zLo {op} {t:TE} (h:PE X a t):PE X (.BoolOp op [a] pos) t:=fun zB s σ H Q I hw=>BoolOp_one (h zB s σ H Q I hw)
theorem zLG (ha:PE X a ta) (hb:PE X (.BoolOp .And (b :: rest) pos) tb):PE X (.BoolOp .And (a :: b :: rest) pos) (zMz ta tb):=by
 intro zB s σ H Q I h;refine BoolOp_and (thn (ha zB s σ H _ I h) fun v s1 ⟨x,H1,I1,r1,q1⟩=>?_);obtain ⟨c,rfl,q1⟩:=q1;cases r1;refine wpAny_truthy_bool ?_;cases c with
 | true=>exact hb zB s1 σ H1 Q I1 q1
 | false=>exact ⟨.bl false,H1,I1,rfl,q1⟩
theorem zLB (ha:PE X a ta):PE X (.UnaryOp .Not a pos) (zMr ta):=by
 intro zB s σ H Q I h;refine UnaryOp_ (thn (ha zB s σ H _ I h) fun v s1 ⟨x,H1,I1,r1,q1⟩=>?_);obtain ⟨c,rfl,q1⟩:=q1;cases r1;exact not_of (wpAny_truthy_bool ⟨.bl (!c),H1,I1,rfl,q1⟩)
end
def SqL (K:PySem.W.Frag) (H:Hp) (a:Addr) (xs:List V):Prop :=
 Rd H a (.lst xs) \/
  ∃ (o:Obj) (its:Array Value) (n:Nat),K.lookup a = some o /\ o.cls = .type "list" /\ o.dict = none /\ o.data = .seq its n /\ its.size <= sizeLine /\ zW xs its.toList
def SqT (K:PySem.W.Frag) (H:Hp) (a:Addr) (xs:List V):Prop :=
 Rd H a (.tup xs) \/
  ∃ (o:Obj) (its:Array Value) (n:Nat),K.lookup a = some o /\ o.cls = .type "tuple" /\ o.data = .seq its n /\ its.size <= sizeLine /\ zW xs its.toList
def zNU:Value -> Option V
 | .none=>some .non
 | .bool b=>some (.bl b)
 | .int i _=>some (.int i)
 | .str x _=>some (.str x)
 | .bytes b _=>some (.byt b)
 | .float b _=>some (.flt b)
 | .ref a=>some (.ref a)
 | .type n=>some (.ty n)
 | _=>none
theorem zw.abs {x:V} {u:Value} (r:zw x u):zNU u = some x:=by
 cases x with
 | non=>cases r; rfl
 | bl _=>cases r; rfl
 | int _=>obtain ⟨t,rfl⟩:=r; rfl
 | str _=>obtain ⟨t,rfl⟩:=r; rfl
 | byt _=>obtain ⟨t,rfl⟩:=r; rfl
 | flt _=>obtain ⟨t,rfl⟩:=r; rfl
 | ref _=>cases r; rfl
 | ty _=>cases r; rfl
theorem zw.inj {x y:V} {u:Value} (r:zw x u) (q:zw y u):x = y:=zOr (r.abs.symm.trans q.abs)
theorem zW.inj:∀ {xs ys:List V} {us:List Value},zW xs us -> zW ys us -> xs = ys
 | _,_,_,.nil,.nil=>rfl
 | _,_,_,.cons r t,.cons r' t'=>by rw [r.inj r',zW.inj t t']
section
variable {X:Cx} {zB:List (Addr × Obj)} {σ:St} {H:Hp} {s:Shared} {a:Addr} {xs ys:List V}
theorem SqL.of {K:PySem.W.Frag} (h:H a = some (.lst xs)):SqL K H a xs:=.inl (.inl h)
theorem SqT.of {K:PySem.W.Frag} (h:H a = some (.tup xs)):SqT K H a xs:=.inl (.inl h)
theorem Inv.list (I:Inv X zB σ H s) (h:SqL X.K H a xs):∃ its:List Value,zW xs its /\ PlainL s.heap a its.toArray /\ xs.length <= sizeLine:=by
 rcases h with h | ⟨o,its,n,hk,hc,hd,hs,hz,r⟩
 ·obtain ⟨z,its,n,r,e⟩:=h.ok I.hok;exact ⟨its,r,⟨_,n,e,rfl,rfl,rfl⟩,z⟩
 ·refine ⟨its.toList,r,⟨o,n,I.kIn a o hk,hc,hd,by simpa using hs⟩,?_⟩;have e:=r.length;simp only [Array.length_toList] at e;omega
theorem Inv.tuple (I:Inv X zB σ H s) (h:SqT X.K H a xs):∃ its:List Value,zW xs its /\ IsTup s.heap a its.toArray /\ xs.length <= sizeLine:=by
 rcases h with h | ⟨o,its,n,hk,hc,hs,hz,r⟩
 ·obtain ⟨z,its,r,p⟩:=h.ok I.hok;exact ⟨its,r,p.tup,z⟩
 ·refine ⟨its.toList,r,⟨o,I.kIn a o hk,hc,n,by simpa using hs⟩,?_⟩;have e:=r.length;simp only [Array.length_toList] at e;omega
theorem Inv.list_inj (I:Inv X zB σ H s) (h:SqL X.K H a xs) (h':SqL X.K H a ys):xs = ys:=by
 obtain ⟨its,r,⟨o,n,e,_,_,d⟩,_⟩:=I.list h;obtain ⟨its',r',⟨o',n',e',_,_,d'⟩,_⟩:=I.list h';rw [e] at e'; cases e';rw [d] at d';injection d' with d1 _
 have:its = its':=by simpa using congrArg Array.toList d1
 subst this;exact r.inj r'
theorem Inv.tuple_inj (I:Inv X zB σ H s) (h:SqT X.K H a xs) (h':SqT X.K H a ys):xs = ys:=by
 obtain ⟨its,r,⟨o,e,_,n,d⟩,_⟩:=I.tuple h;obtain ⟨its',r',⟨o',e',_,n',d'⟩,_⟩:=I.tuple h';rw [e] at e'; cases e';rw [d] at d';injection d' with d1 _
 have:its = its':=by simpa using congrArg Array.toList d1
 subst this;exact r.inj r'
end
abbrev Cx.wish (X:Cx) (E:Value -> Shared -> Prop):Cx:={ X with xe:=E }
abbrev Cx.nox (X:Cx):Cx:=X.wish fun _ _=>False
theorem Cx.Ok.wish {X:Cx} (ok:X.Ok) (E:Value -> Shared -> Prop):(X.wish E).Ok :=
 ⟨ok.mod,ok.kind,ok.glob,ok.blt,ok.above,ok.inj,ok.has,ok.cab,ok.hd,ok.frames,ok.stk,ok.exf,ok.bs,ok.bsz,ok.noex,ok.exfs,ok.funs,ok.frf⟩
theorem Cx.Ok.unwish {X:Cx} {E:Value -> Shared -> Prop} (ok:(X.wish E).Ok):X.Ok :=
 ⟨ok.mod,ok.kind,ok.glob,ok.blt,ok.above,ok.inj,ok.has,ok.cab,ok.hd,ok.frames,ok.stk,ok.exf,ok.bs,ok.bsz,ok.noex,ok.exfs,ok.funs,ok.frf⟩
section
variable {X:Cx} {zB:List (Addr × Obj)} {σ:St} {H:Hp} {s:Shared} {E:Value -> Shared -> Prop}
theorem Inv.wish (I:Inv X zB σ H s) (E:Value -> Shared -> Prop):Inv (X.wish E) zB σ H s:=⟨I.ok.wish E,I.os,I.bare,I.base,I.loc,I.cell,I.free,I.freeC,I.pin,I.hok,I.len⟩
theorem Inv.unwish (I:Inv (X.wish E) zB σ H s):Inv X zB σ H s:=⟨I.ok.unwish,I.os,I.bare,I.base,I.loc,I.cell,I.free,I.freeC,I.pin,I.hok,I.len⟩
theorem SP.unwish {D:Ends} {f:Flow} {s':Shared} (h:SP (X.wish E) zB D f s'):SP X zB D f s':=by
 cases f with
 | next=>obtain ⟨σ',H',I,q⟩:=h; exact ⟨σ',H',I.unwish,q⟩
 | brk=>obtain ⟨σ',H',I,q⟩:=h; exact ⟨σ',H',I.unwish,q⟩
 | cont=>obtain ⟨σ',H',I,q⟩:=h; exact ⟨σ',H',I.unwish,q⟩
 | ret u=>obtain ⟨v,σ',H',I,r,q⟩:=h; exact ⟨v,σ',H',I.unwish,r,q⟩
theorem PSs.nox {st:List Stmt} {t:TS} (h:PSs X.nox st t):PSs X st t:=fun zB s σ H D I hw=>
 zON (h zB s σ H D (I.wish _) hw) (fun _ _ q=>q.unwish) fun _ _ z=>False.elim z
end
section
variable {X:Cx} {st:Stmt} {rest:List Stmt} {t u:TS} {e:Expr} {te:TE} {pos:Pos}
def zMe:TS:=fun D σ H=>D.nx σ H
def zNc (t u:TS):TS:=fun D σ H=>t { D with nx:=u D } σ H
theorem zJ7:PSs X [] zMe:=fun _ _ σ H _ I h=>wpAny_execs_nil ⟨σ,H,I,h⟩
theorem zFs (h1:PS X st t) (h2:PSs X rest u):PSs X (st :: rest) (zNc t u):=by
 intro zB s σ H D I h;refine wpAny_execs_cons (thn (h1 zB s σ H { D with nx:=u D } I h) fun f s1 q=>?_);cases f with
 | next=>
  obtain ⟨σ',H',I',q⟩:=q;exact h2 zB s1 σ' H' D I' q
 | ret v=>exact q
 | brk=>exact q
 | cont=>exact q
theorem zG0 (h1:PS X st t):PSs X [st] t:=by
 intro zB s σ H D I h;refine wpAny_execs_cons (thn (h1 zB s σ H D I h) fun f s1 q=>?_);cases f with
 | next=>exact wpAny_execs_nil q
 | ret v=>exact q
 | brk=>exact q
 | cont=>exact q
theorem Inv.quiet {zB:List (Addr × Obj)} {σ:St} {H:Hp} {s:Shared} (I:Inv X zB σ H s):interactive X.env = false:=by simp [interactive,I.ok.kind]
def zMs (te:TE):TS:=fun D σ H=>te σ H fun _ H1=>D.nx σ H1
theorem zJb (he:PE X e te) (hs:swapsWith e none pos.line X.env = pure false:=by rfl):PS X (.Expr e pos) (zMs te):=by
 intro zB s σ H D I h;exact wpAny_Expr_any (thn (he zB s σ H _ I h) fun v s1 ⟨x,H1,I1,r1,q1⟩=>⟨σ,H1,I1,q1⟩) I.quiet hs
def zNb (te:TE):TS:=fun D σ H=>te σ H D.rt
theorem zME (he:PE X e te):PS X (.Return (some e) pos) (zNb te):=by
 intro zB s σ H D I h;exact wpAny_Return_some (thn (he zB s σ H _ I h) fun v s1 ⟨x,H1,I1,r1,q1⟩=>⟨x,σ,H1,I1,r1,q1⟩)
def zNS (c:TT) (t u:TS):TS:=fun D σ H=>c σ H fun b H1=>if b = true then t D σ H1 else u D σ H1
theorem zKq {c:Expr} {a b:List Stmt} {tc:TT} (hc:PT X c tc) (ha:PSs X a t) (hb:PSs X b u):PS X (.If c a b pos) (zNS tc t u):=by
 intro zB s σ H D I h;refine wpAny_If (thn (hc zB s σ H _ I h) fun d s1 ⟨H1,I1,q1⟩=>?_);cases d with
 | true=>exact ha zB s1 σ H1 D I1 q1
 | false=>exact hb zB s1 σ H1 D I1 q1
end
abbrev TG:=V -> St -> Hp -> (St -> Hp -> Prop) -> Prop
abbrev TGs:=List V -> St -> Hp -> (St -> Hp -> Prop) -> Prop
def PG (X:Cx) (target:Expr) (t:TG):Prop :=
 ∀ (zB:List (Addr × Obj)) (s:Shared) (σ:St) (H:Hp) (v:V) (u:Value) (Q:St -> Hp -> Prop),Inv X zB σ H s -> zw v u -> t v σ H Q ->
  wpAny (model X.prog X.w) X.A (assign target X.env u) (fun _ s'=>∃ σ' H',Inv X zB σ' H' s' /\ Q σ' H') X.xe s
def PGs (X:Cx) (ts:List Expr) (t:TGs):Prop :=
 ∀ (zB:List (Addr × Obj)) (s:Shared) (σ:St) (H:Hp) (vs:List V) (us:List Value) (Q:St -> Hp -> Prop),Inv X zB σ H s -> zW vs us -> t vs σ H Q ->
  wpAny (model X.prog X.w) X.A (assignInOrder ((assignEach ts X.env).map (·.2)) us) (fun _ s'=>∃ σ' H',Inv X zB σ' H' s' /\ Q σ' H') X.xe s
abbrev zL6:=V -> V -> V -> Hp -> (Hp -> Prop) -> Prop
def zNN (X:Cx) (t:zL6):Prop :=
 ∀ (zB:List (Addr × Obj)) (s:Shared) (σ:St) (H:Hp) (o i v:V) (ov iv u:Value) (Q:Hp -> Prop),Inv X zB σ H s -> zw o ov -> zw i iv -> zw v u -> t o i v H Q ->
  wpAny (model X.prog X.w) X.A (setItem ov iv u) (fun _ s'=>∃ H',Inv X zB σ H' s' /\ Q H') X.xe s
section
variable {X:Cx} {pos:Pos}
def zDC (i:Nat):TG:=fun v σ H Q=>Q (σ.set i (some v)) H
theorem zKY {i:Nat} {x:Str} (hN:X.N.Nodup) (hi:X.N[i]? = some x) (hx:Loc X.env.scope x) (hf:X.fn x = true \/ X.env.scope.names.lookup x = some .local:=by first | exact .inl rfl | exact .inr rfl | assumption):PG X (.Name x pos) (zDC i):=by
 intro zB s σ H v u Q I r h;exact wpAny_assign_Name (zBk I hN hi hx r (fun s' I'=>⟨_,H,I',h⟩) hf)
def zMk:TGs:=fun vs σ H Q=>vs = [] /\ Q σ H
def zH3 (t:TG) (u:TGs):TGs:=fun vs σ H Q=>∃ v r,vs = v :: r /\ t v σ H fun σ' H'=>u r σ' H' Q
theorem zKT:PGs X [] zMk:=by
 intro zB s σ H vs us Q I r h;obtain ⟨e,h⟩:=h;subst e;cases r;exact assignInOrder_nil ⟨σ,H,I,h⟩
theorem zFR {e:Expr} {es:List Expr} {t:TG} {u:TGs} (h1:PG X e t) (h2:PGs X es u)
  (hs:(assignEach (e :: es) X.env).map (·.2) = assign e X.env :: (assignEach es X.env).map (·.2):=by rfl):PGs X (e :: es) (zH3 t u):=by
 intro zB s σ H vs us Q I r h;obtain ⟨v,vr,e1,h⟩:=h;subst e1;cases r with
 | cons r rr=>
  rw [hs];refine assignInOrder_cons (thn (h1 zB s σ H _ _ _ I r h) fun _ s1 ⟨σ1,H1,I1,q1⟩=>?_);exact h2 zB s1 σ1 H1 _ _ Q I1 rr q1
def zMh (K:PySem.W.Frag) (n:Nat) (t:TGs):TG:=fun v σ H Q=>∃ a xs,v = .ref a /\ SqT K H a xs /\ xs.length = n /\ t xs σ H Q
theorem zMK {es:List Expr} {k:Nat} {t:TGs} {n:Nat} (hc:X.calm = true) (h:PGs X es t)
  (hn:(assignEach es X.env).length = n:=by rfl) (hst:(assignEach es X.env).findIdx? (·.1) = none:=by rfl):PG X (.Tuple es k pos) (zMh X.K n t):=by
 intro zB s σ H v u Q I r hw;obtain ⟨a,xs,e1,hq,hl,hw⟩:=hw;subst e1;cases r;obtain ⟨its,rv,ht,hz⟩:=I.tuple hq;refine assign_Tuple_tuple (I.ok.hd hc) ht (by simp [hn,<- hl,rv.length]) hst fun h' hx=>?_;have I1:Inv X zB σ H { s with heap:=h' }:=I.kept (t':=s.toks) fun b o e=>hx b o (zOC (zN2 e)) e;exact h zB _ σ H xs _ Q I1 (by simpa using rv) hw
def zNZ (to ti:TE) (t:zL6):TG:=fun v σ H Q=>to σ H fun o H1=>ti σ H1 fun i H2=>t o i v H2 fun H3=>Q σ H3
theorem zMD {o i:Expr} {to ti:TE} {t:zL6} (ho:PE X o to) (hi:PE X i ti) (hs:zNN X t)
  (ha:∀ v,assign (.Subscript o i pos) X.env v = (do
   let ov <- holding [v] (eval o X.env);let iv <- holding [v,ov] (eval i X.env);standAt pos;holding [v,ov,iv] (setItem ov iv v);release [v,ov,iv] []):=by intro _; rfl):PG X (.Subscript o i pos) (zNZ to ti t):=by
 intro zB s σ H v u Q I r h;rw [ha];refine zNr (wpAny_holding (thn (ho zB s σ H _ I h) fun ov s1 ⟨x,H1,I1,r1,q1⟩=>?_));refine zNr (wpAny_holding (thn (hi zB s1 σ H1 _ I1 q1) fun iv s2 ⟨y,H2,I2,r2,q2⟩=>?_));refine zNr (wpAny_standAt (zNr (wpAny_holding (thn (hs zB s2 σ H2 x y v ov iv u _ I2 r1 r2 r q2) fun _ s3 ⟨H3,I3,q3⟩=>?_))));exact wpAny_release ⟨σ,H3,I3,q3⟩
def zMH (te:TE) (g:TG):TS:=fun D σ H=>te σ H fun x H1=>g x σ H1 D.nx
theorem zLE {tg e:Expr} {te:TE} {g:TG} (he:PE X e te) (hg:PG X tg g) (hs:swapsWithSole [tg] e pos.line X.env = pure false:=by rfl) (hw:swappedStores [tg] e X.env = pure none:=by rfl)
  (h1:(assignEach [tg] X.env).map (·.2) = [assign tg X.env]:=by rfl):PS X (.Assign [tg] e pos) (zMH te g):=by
 intro zB s σ H D I h;refine wpAny_Assign_stores (thn (he zB s σ H _ I h) fun v s1 ⟨x,H1,I1,r1,q1⟩=>?_) hs hw;rw [h1];exact thn (hg zB s1 σ H1 x v _ I1 r1 q1) fun _ s2 q=>q
theorem zLx {i:Nat} {x:Str} {e:Expr} {te:TE} {pos':Pos} (hN:X.N.Nodup) (hi:X.N[i]? = some x) (hx:Loc X.env.scope x) (he:PE X e te) (hs:swapsWith e (some (.Name x pos')) pos.line X.env = pure false:=by rfl) (hf:X.fn x = true \/ X.env.scope.names.lookup x = some .local:=by first | exact .inl rfl | exact .inr rfl | assumption) :
  PS X (.Assign [.Name x pos'] e pos) (zMH te (zDC i)):=by
 intro zB s σ H D I h;refine wpAny_Assign_Name (thn (he zB s σ H _ I h) fun v s1 ⟨y,H1,I1,r1,q1⟩=>?_) hs;exact zBk I1 hN hi hx r1 (fun s2 I2=>⟨_,H1,I2,q1⟩) hf
def zI1 (c:TT) (tb:TS):TS:=fun D σ H=>∃ W:Nat -> St -> Hp -> Prop,(∃ m,W m σ H) /\ ∀ m σ H,W m σ H ->
 c σ H fun b H1=>if b = true then ∃ N:St -> Hp -> Prop,(∀ σ' H',N σ' H' -> ∃ m',m' < m /\ W m' σ' H') /\ tb { D with nx:=N,ct:=N,bk:=D.nx } σ H1 else D.nx σ H1
theorem zIG {c:Expr} {body:List Stmt} {tc:TT} {tb:TS} (hp:PassesOwn (model X.prog X.w) X.A X.env X.xe) (hc:PT X c tc) (hb:PSs X body tb):PS X (.While c body [] pos) (zI1 tc tb):=by
 intro zB s σ H D I h;obtain ⟨W,⟨m0,w0⟩,turn⟩:=h;refine wpAny_While (codeAny_whileLoop (fun n s'=>∃ σ' H',Inv X zB σ' H' s' /\ W n σ' H') ?_ m0 ⟨σ,H,I,w0⟩);rintro n s1 ⟨σ1,H1,I1,w1⟩;refine wpAny_passesOwn hp (thn (hc zB s1 σ1 H1 _ I1 (turn n σ1 H1 w1)) fun b s2 ⟨H2,I2,q2⟩=>?_);cases b with
 | true=>
  obtain ⟨N,hN,q2⟩:=q2;rw [zN6 rfl];refine wpAny_passesOwn hp (thn (hb zB s2 σ1 H2 _ I2 q2) fun f s3 q3=>?_);cases f with
  | next=>
   obtain ⟨σ3,H3,I3,n3⟩:=q3;obtain ⟨m',hm,w3⟩:=hN σ3 H3 n3;exact ⟨m',hm,σ3,H3,I3,w3⟩
  | cont=>
   obtain ⟨σ3,H3,I3,n3⟩:=q3;obtain ⟨m',hm,w3⟩:=hN σ3 H3 n3;exact ⟨m',hm,σ3,H3,I3,w3⟩
  | brk=>exact q3
  | ret v=>exact q3
 | false=>
  rw [zN9 zOD];exact wpAny_execs_nil ⟨σ1,H2,I2,q2⟩
end
structure It where
 go:Nat -> Hp -> Prop
 yld:Nat -> Hp -> V -> Hp -> Prop
 stop:Nat -> Hp -> Prop
def zCM (X:Cx) (zB:List (Addr × Obj)) (H:Hp) (b:Addr):Prop :=
 H b = none /\ b ≠ X.env.locals /\ b ∉ X.fs /\ (b ∈ X.ex \/ X.s₀.heap.objs.size <= b) /\ (∀ x c,X.env.cells.lookup x = some c -> c ≠ b) /\ ∀ p ∈ X.pn ++ zB,p.1 ≠ b
theorem Inv.fpOk {X:Cx} {zB:List (Addr × Obj)} {σ:St} {H H':Hp} {s:Shared} {b:Addr} (I:Inv X zB σ H s) (hb:s.heap.objs.size <= b) (hn:H' b = none):zCM X zB H' b:=by
 refine ⟨hn,Nat.ne_of_gt (zOG I.lt hb),I.nofs hb,.inr (zOI I.sz hb),fun x c e z=>?_,fun p hp z=>?_⟩
 ·obtain ⟨v,q⟩:=I.cell x c e;exact absurd (zOG q.lt (by rw [z]; exact hb)) (zOZ _)
 ·exact absurd (zOG (zN2 (I.pin p hp).1) (by rw [z]; exact hb)) (zOZ _)
structure Turn (P:Program) (w:World) (K:PySem.W.Frag) (tg:Expr) (J:It) (fp:List Addr) (it:Addr) (tn:Nat -> Heap -> Prop):Prop where
 mem:it ∈ fp
 obj:∀ i h,tn i h -> ∀ b ∈ fp,∃ o,h.get? b = some o /\ ∀ v,o.data ≠ .cell v
 keep:∀ i h h',tn i h -> (∀ b ∈ fp,∀ o,h.get? b = some o -> h'.get? b = some o) -> tn i h'
 item:∀ (X:Cx),X.prog = P -> X.w = w -> X.K = K -> X.calm = true -> ∀ (i:Nat) (zB:List (Addr × Obj)) (s:Shared) (σ:St) (H:Hp) (E:Value -> Shared -> Prop),Inv X zB σ H s -> (∀ b ∈ fp,zCM X zB H b) -> tn i s.heap -> J.go i H ->
  wpAny (model P w) X.A (pyNext (.ref it)) (fun r s1=>∃ u,r = some u /\
   wpAny (model P w) X.A (letOwnedTupleGo tg (.ref it) u) (fun _ s2=>∃ x H',Inv X zB σ H' s2 /\ zw x u /\ J.yld i H x H' /\ tn (i + 1) s2.heap /\ ∀ b ∈ fp,H' b = none) E s1) E s
 done:∀ (X:Cx),X.prog = P -> X.w = w -> X.K = K -> X.calm = true -> ∀ (i:Nat) (zB:List (Addr × Obj)) (s:Shared) (σ:St) (H:Hp) (E:Value -> Shared -> Prop),Inv X zB σ H s -> (∀ b ∈ fp,zCM X zB H b) -> tn i s.heap -> J.stop i H ->
  wpAny (model P w) X.A (pyNext (.ref it)) (fun r s1=>r = none /\ Inv X zB σ H s1) E s
 self:∀ (A:Around) (i:Nat) (s:Shared) (Q:Value -> Shared -> Prop) (E:Value -> Shared -> Prop),tn i s.heap -> Q (.ref it) s -> wpAny (model P w) A (pyIter (.ref it)) Q E s
abbrev TI:=St -> Hp -> (It -> Hp -> Prop) -> Prop
def PIE (X:Cx) (zB:List (Addr × Obj)) (σ:St) (tg:Expr) (R:It -> Hp -> Prop) (itv:Value) (s2:Shared):Prop :=
 ∃ (it:Addr) (fp:List Addr) (tn:Nat -> Heap -> Prop) (J:It) (H':Hp),itv = .ref it /\ Inv X zB σ H' s2 /\ Turn X.prog X.w X.K tg J fp it tn /\ tn 0 s2.heap /\ (∀ b ∈ fp,zCM X zB H' b) /\ R J H'
def PI (X:Cx) (tg iter:Expr) (wi:TI):Prop :=
  ∀ (zB:List (Addr × Obj)) (s:Shared) (σ:St) (H:Hp) (R:It -> Hp -> Prop),Inv X zB σ H s -> wi σ H R ->
    wpAny (model X.prog X.w) X.A (eval iter X.env) (fun v s1=>wpAny (model X.prog X.w) X.A (pyIter v) (PIE X zB σ tg R) X.xe s1) X.xe s
theorem zFx {M:Model} {A:Around} {E:Value -> Shared -> Prop} {s:Shared} {tg:Expr} {it:Addr} {u:Value} {o:Obj} {n:String} {vs:Array Value} {Q:Unit -> Shared -> Prop} (ho:s.heap.get? it = some o) (hc:o.cls = .type n) (hd:o.data = .fields vs)
    (hn:["enumerate", "zip", "dict_itemiterator", "dict_reverseitemiterator", "odict_iterator", "itertools.zip_longest", "itertools.pairwise"].contains n = false) (hQ:Q () s):wpAny M A (letOwnedTupleGo tg (.ref it) u) Q E s:=by
  unfold letOwnedTupleGo
  cases tg <;> first
    | exact zNt hQ
    | (cases u <;> first
        | exact zNt hQ
        | (refine zNr (wpAny_load ho ?_)
           rw [hc,hd];show wpAny M A (if (["enumerate", "zip", "dict_itemiterator", "dict_reverseitemiterator", "odict_iterator", "itertools.zip_longest", "itertools.pairwise"].contains n && vs[0]? == some (rawInt _)) = true then _ else _) Q E s;rw [zN9 (by intro h; rw [hn,Bool.false_and] at h; cases h)];exact zNt hQ))
def Itl (K:PySem.W.Frag) (a:Addr):It :=
 ⟨fun i H=>∃ xs x,SqL K H a xs /\ xs[i]? = some x,fun i H x H'=>H' = H /\ ∀ xs,SqL K H a xs -> xs[i]? = some x,fun i H=>∃ xs,SqL K H a xs /\ xs.length <= i⟩
def Itt (K:PySem.W.Frag) (a:Addr):It :=
 ⟨fun i H=>∃ xs x,SqT K H a xs /\ xs[i]? = some x,fun i H x H'=>H' = H /\ ∀ xs,SqT K H a xs -> xs[i]? = some x,fun i H=>∃ xs,SqT K H a xs /\ xs.length <= i⟩
def Itr (lo:Int) (n:Nat):It:=⟨fun i _=>i < n,fun i H x H'=>H' = H /\ x = .int (lo + i),fun i _=>n <= i⟩
theorem zHZ {P:Program} {w:World} {K:PySem.W.Frag} {tg:Expr} (a it:Addr):Turn P w K tg (Itl K a) [it] it (fun i h=>h.IsListIter it a i) where
 mem:=by simp
 obj:=fun i h st b hb=>by
  have e:b = it:=by simpa using hb
  subst e;obtain ⟨o,e,c,d⟩:=st;exact ⟨o,e,fun v z=>by rw [d] at z; cases z⟩
 keep:=fun i h h' st k=>st.at fun o e=>k it (by simp) o e;item:=by
  intro X hP hw hK hc i zB s σ H E I hf st hg;subst hP hw hK;obtain ⟨xs,x,hq,hx⟩:=hg;obtain ⟨its,rv,p,hz⟩:=I.list hq;obtain ⟨u,hu,ru⟩:=rv.get hx;obtain ⟨f0,f1,f2,f3,f4,f5⟩:=hf it (by simp);refine wpAny_pyNext_list_item st p.isList (x:=u) (by simpa using hu) fun h' st' sb=>?_;have I1:Inv X zB σ H { s with heap:=h' }:=I.turned (t':=s.toks) (fun b o hb e=>(sb.2 b hb).trans e) f0 f1 f3 f4 f5;obtain ⟨o,e,c,d⟩:=id st';exact ⟨u,rfl,zFx (s:={ s with heap:=h' }) e c d (by decide) ⟨x,H,I1,ru,⟨rfl,fun ys hy=>by rw [I.list_inj hy hq]; exact hx⟩,st',fun b hb=>(hf b hb).1⟩⟩
 done:=by
  intro X hP hw hK hc i zB s σ H E I hf st hg;subst hP hw hK;obtain ⟨xs,hq,hx⟩:=hg;obtain ⟨its,rv,p,hz⟩:=I.list hq;obtain ⟨f0,f1,f2,f3,f4,f5⟩:=hf it (by simp);have hl:=rv.length;exact wpAny_pyNext_list_end (I.ok.hd hc) st p.isList (by simp; omega) fun h' eb=>⟨rfl,I.turned (t':=s.toks) (fun b o hb e=>eb b o hb e) f0 f1 f3 f4 f5⟩
 self:=fun _ _ _ _ _ st h=>wpAny_pyIter_listiter st h
theorem zGd {P:Program} {w:World} {K:PySem.W.Frag} {tg:Expr} (a it:Addr):Turn P w K tg (Itt K a) [it] it (fun i h=>h.IsTupleIter it a i) where
 mem:=by simp
 obj:=fun i h st b hb=>by
  have e:b = it:=by simpa using hb
  subst e;obtain ⟨o,e,c,d⟩:=st;exact ⟨o,e,fun v z=>by rw [d] at z; cases z⟩
 keep:=fun i h h' st k=>st.at fun o e=>k it (by simp) o e;item:=by
  intro X hP hw hK hc i zB s σ H E I hf st hg;subst hP hw hK;obtain ⟨xs,x,hq,hx⟩:=hg;obtain ⟨its,rv,p,hz⟩:=I.tuple hq;obtain ⟨u,hu,ru⟩:=rv.get hx;obtain ⟨f0,f1,f2,f3,f4,f5⟩:=hf it (by simp);refine wpAny_pyNext_tuple_item st (show s.heap.IsTuple a its.toArray from p) (x:=u) (by simpa using hu) fun h' st' sb=>?_;have I1:Inv X zB σ H { s with heap:=h' }:=I.turned (t':=s.toks) (fun b o hb e=>(sb.2 b hb).trans e) f0 f1 f3 f4 f5;obtain ⟨o,e,c,d⟩:=id st';exact ⟨u,rfl,zFx (s:={ s with heap:=h' }) e c d (by decide) ⟨x,H,I1,ru,⟨rfl,fun ys hy=>by rw [I.tuple_inj hy hq]; exact hx⟩,st',fun b hb=>(hf b hb).1⟩⟩
 done:=by
  intro X hP hw hK hc i zB s σ H E I hf st hg;subst hP hw hK;obtain ⟨xs,hq,hx⟩:=hg;obtain ⟨its,rv,p,hz⟩:=I.tuple hq;obtain ⟨f0,f1,f2,f3,f4,f5⟩:=hf it (by simp);have hl:=rv.length;exact wpAny_pyNext_tuple_end (I.ok.hd hc) st (show s.heap.IsTuple a its.toArray from p) (by simp; omega) fun h' eb=>⟨rfl,I.turned (t':=s.toks) (fun b o hb e=>eb b o hb e) f0 f1 f3 f4 f5⟩
 self:=fun _ _ _ _ _ st h=>wpAny_pyIter_tupleiter st h
theorem zGX {P:Program} {w:World} {K:PySem.W.Frag} {tg:Expr} (it:Addr) (lo:Int) (n:Nat):Turn P w K tg (Itr lo n) [it] it (fun i h=>IsRangeIter h it (lo + (i:Nat) * 1) ((n:Int) - (i:Nat)) 1) where
 mem:=by simp
 obj:=fun i h st b hb=>by
  have e:b = it:=by simpa using hb
  subst e;exact ⟨_,st,fun v z=>by
   have z':Data.fields _ = Data.cell v:=z;cases z'⟩
 keep:=fun i h h' st k=>k it (by simp) _ st;item:=by
  intro X hP hw hK hc i zB s σ H E I hf st hg;subst hP hw hK;obtain ⟨f0,f1,f2,f3,f4,f5⟩:=hf it (by simp);have W:=Walks.range (prog:=X.prog) (w:=X.w) (I.ok.hd hc) it lo 1 n;refine W.item i s _ _ hg st fun v h' tk hv st' kk=>?_;obtain ⟨t,rfl⟩:=hv;have I1:Inv X zB σ H { s with heap:=h',toks:=tk }:=I.turned (fun b o hb e=>kk b o (by simpa using hb) e) f0 f1 f3 f4 f5;refine ⟨_,rfl,zFx (s:={ s with heap:=h',toks:=tk }) (n := "range_iterator") st' rfl rfl (by decide) ⟨.int (lo + i),H,I1,⟨t,?_⟩,⟨rfl,rfl⟩,st',fun b hb=>(hf b hb).1⟩⟩;rw [Int.mul_one]
 done:=by
  intro X hP hw hK hc i zB s σ H E I hf st hg;subst hP hw hK;obtain ⟨f0,f1,f2,f3,f4,f5⟩:=hf it (by simp);exact wpAny_pyNext_range_end (I.ok.hd hc) st (by have:n <= i:=hg; omega) fun h' eb=>⟨rfl,I.turned (t':=s.toks) (fun b o hb e=>eb b o hb e) f0 f1 f3 f4 f5⟩
 self:=fun _ _ _ _ _ st h=>wpAny_pyIter_rangeiter st h
section
variable {X:Cx} {tg:Expr}
theorem zIt {zB:List (Addr × Obj)} {σ:St} {H:Hp} {s:Shared} {R:It -> Hp -> Prop} {E:Value -> Shared -> Prop} {lo hi:Int} {t u v:Tok} {tk:Nat} (I:Inv X zB σ H s) (h1 : -(2 ^ 62) <= lo) (h2:lo < 2 ^ 62) (h3 : -(2 ^ 62) <= hi) (h4:hi < 2 ^ 62)
  (q:R (Itr lo (hi - lo).toNat) H):wpAny (model X.prog X.w) X.A (pyIter (.ref s.heap.objs.size)) (PIE X zB σ tg R) E { s with heap:=s.heap.push { cls:=.type "range", data:=.fields #[.int lo t,.int hi u,.int 1 v] },toks:=tk }:=by
 refine wpAny_pyIter_range (IsRange.new ..) (small_one h1 h2 h3 h4) ?_;have I1:Inv X zB σ H { s with heap:=s.heap.push { cls:=.type "range", data:=.fields #[.int lo t,.int hi u,.int 1 v] },toks:=tk }:=I.kept fun b o e=>zNs _ e
 refine ⟨(s.heap.push { cls:=.type "range", data:=.fields #[.int lo t,.int hi u,.int 1 v] }).objs.size,[(s.heap.push { cls:=.type "range", data:=.fields #[.int lo t,.int hi u,.int 1 v] }).objs.size],_,_,H,rfl,
  I1.kept (t':=tk) fun b o e=>zNs _ e,zGX _ lo (hi - lo).toNat,?_,fun b hb=>?_,q⟩
 ·have e1:lo + ((0:Nat):Int) * 1 = lo:=by simp
  have e2:(((hi - lo).toNat:Nat):Int) - ((0:Nat):Int) = Builtin.Range.rangeSize lo hi 1:=by rw [rangeSize_one]; split <;> omega
  show IsRangeIter _ _ (lo + ((0:Nat):Int) * 1) ((((hi - lo).toNat:Nat):Int) - ((0:Nat):Int)) 1;rw [e1,e2];exact zN1 _ rfl
 ·have e:b = (s.heap.push { cls:=.type "range", data:=.fields #[.int lo t,.int hi u,.int 1 v] }).objs.size:=by simpa using hb
  subst e;exact I1.fpOk (zNx _) (I1.hok.fresh (zNx _))
def zMZ (ta:TA):TI:=fun σ H R=>ta σ H fun vs H1=>∃ j:Int,vs = [.int j] /\ -(2 ^ 62) <= j /\ j < 2 ^ 62 /\ R (Itr 0 j.toNat) H1
theorem zHb {a:Expr} {ta:TA} {p pos:Pos} (hg:Gl X "range") (hm:X.mg "range" = none) (ha:PA X [a] ta) (hs:starEach [a] X.env = [(false,eval a X.env)]:=by rfl):PI X tg (.Call (.Name "range" p) [a] [] pos) (zMZ ta):=by
 intro zB s σ H R I h;refine Call_ (zDZ I hg hm boot_range (PyProof.Rows.callWith_type1 (thn (ha pos zB s σ H _ I h) fun us s1 ⟨vs,H1,I1,r1,q1⟩=>?_) hs rfl));obtain ⟨j,e,q1,q2,q⟩:=q1;subst e;cases r1 with
 | cons r rr=>
  cases rr;obtain ⟨t,rfl⟩:=r;exact call_range_1 (zIt I1 (by omega) (by omega) q1 q2 (by simpa using q))
def zNJ (wi:TI) (g:TG) (tb:TS):TS:=fun D σ H=>wi σ H fun J H1=>∃ W:Nat -> Nat -> St -> Hp -> Prop,(∃ m,W 0 m σ H1) /\ ∀ i m σ H,W i m σ H ->
 (J.stop i H /\ D.nx σ H) \/ (J.go i H /\ ∃ N:St -> Hp -> Prop,(∀ σ' H',N σ' H' -> ∃ m',m' < m /\ W (i + 1) m' σ' H') /\ ∀ x H',J.yld i H x H' -> g x σ H' fun σ2 H2=>tb { D with nx:=N,ct:=N,bk:=D.nx } σ2 H2)
def zDf (fp:List Addr) (h:Heap):List (Addr × Obj):=fp.filterMap fun b=>(h.get? b).map fun o=>(b,o)
theorem zBS {fp:List Addr} {h:Heap} {b:Addr} {o:Obj} (hb:b ∈ fp) (e:h.get? b = some o):(b,o) ∈ zDf fp h:=List.mem_filterMap.mpr ⟨b,hb,by rw [e]; rfl⟩
theorem zHq {fp:List Addr} {h:Heap} {p:Addr × Obj} (hp:p ∈ zDf fp h):p.1 ∈ fp /\ h.get? p.1 = some p.2:=by
 obtain ⟨b,hb,e⟩:=List.mem_filterMap.mp hp;cases q:h.get? b with
 | none=>rw [q] at e; cases e
 | some o=>
  rw [q] at e;have e':(b,o) = p:=zOr e;subst e';exact ⟨hb,q⟩
theorem Inv.pinned {zB:List (Addr × Obj)} {σ:St} {H:Hp} {s:Shared} {fp:List Addr} (I:Inv X zB σ H s) (hf:∀ b ∈ fp,zCM X zB H b) (ho:∀ b ∈ fp,∃ o,s.heap.get? b = some o /\ ∀ v,o.data ≠ .cell v):Inv X (zB ++ zDf fp s.heap) σ H s :=
 I.pins_of fun p hp=>(zOH.mp hp).elim (fun z=>I.pin p (zOB _ z)) fun z=>by
  obtain ⟨hb,e⟩:=zHq z;obtain ⟨f0,f1,f2,_⟩:=hf p.1 hb;obtain ⟨o,e',d⟩:=ho p.1 hb;rw [e] at e'; cases e';exact ⟨e,f0,f1,f2,d⟩
theorem Inv.unpinned {zB pl:List (Addr × Obj)} {σ:St} {H:Hp} {s:Shared} (I:Inv X (zB ++ pl) σ H s):Inv X zB σ H s:=I.pins_of fun p hp=>I.pin p (zOB _ (List.mem_append_left _ hp))
theorem zK6 {iter:Expr} {body:List Stmt} {wi:TI} {g:TG} {tb:TS} {pos:Pos} (hp:PassesOwn (model X.prog X.w) X.A X.env X.xe) (hc:X.calm = true) (hi:PI X tg iter wi) (hg:PG X tg g) (hb:PSs X body tb)
  (hs:∀ x,foldedSetIterable iter X.env x = pure x:=by intro _; rfl):PS X (.For tg iter body [] pos) (zNJ wi g tb):=by
 intro zB s σ H D I h;refine wpAny_For (thn (hi zB s σ H _ I h) fun v s1 h1=>thn h1 fun itv s2 h2=>?_) hs;obtain ⟨it,fp,tn,J,H2,e,I2,T,st2,f2,W,⟨m0,w0⟩,turn⟩:=h2;subst e;have stat:∀ {H':Hp},(∀ b ∈ fp,H' b = none) -> ∀ b ∈ fp,zCM X zB H' b:=fun hn b hb=>⟨hn b hb,(f2 b hb).2⟩;refine codeAny_forLoop_any (fun n s'=>∃ i σ' H',Inv X zB σ' H' s' /\ tn i s'.heap /\ (∀ b ∈ fp,H' b = none) /\ W i n σ' H') ?_ m0 ⟨0,σ,H2,I2,st2,fun b hb=>(f2 b hb).1,w0⟩;rintro n s3 ⟨i,σ3,H3,I3,st3,fr3,w3⟩;rcases turn i n σ3 H3 w3 with ⟨stop,qn⟩ | ⟨go,N,hN,step⟩
 ·refine wpAny_passesOwn hp (thn (T.done X rfl rfl rfl hc i zB s3 σ3 H3 X.xe I3 (stat fr3) st3 stop) fun r s4 ⟨hr,I4⟩=>?_);subst hr;exact wpAny_execs_nil ⟨σ3,H3,I4,qn⟩
 ·refine wpAny_passesOwn hp (thn (T.item X rfl rfl rfl hc i zB s3 σ3 H3 X.xe I3 (stat fr3) st3 go) fun r s4 ⟨u,hr,h4⟩=>?_);subst hr;refine wpAny_passesOwn hp (thn h4 fun _ s5 ⟨x,H5,I5,r5,y5,st5,fr5⟩=>?_);have I5':=I5.pinned (stat fr5) (T.obj _ _ st5);refine wpAny_passesOwn hp (thn (hg _ s5 σ3 H5 x u _ I5' r5 (step x H5 y5)) fun _ s6 ⟨σ6,H6,I6,q6⟩=>?_);refine wpAny_passesOwn hp (thn (hb _ s6 σ6 H6 _ I6 q6) fun f s7 q7=>?_);have again:∀ {σ7:St} {H7:Hp},Inv X (zB ++ zDf fp s5.heap) σ7 H7 s7 -> N σ7 H7 -> ∃ m,m < n /\ ∃ i σ' H',Inv X zB σ' H' s7 /\ tn i s7.heap /\ (∀ b ∈ fp,H' b = none) /\ W i m σ' H':=fun {σ7 H7} I7 n7=>by
   obtain ⟨m',hm,w7⟩:=hN σ7 H7 n7;refine ⟨m',hm,i + 1,σ7,H7,I7.unpinned,T.keep _ _ _ st5 fun b hb o e=>(I7.pin (b,o) (zOB _ (zOB _ (zBS hb e)))).1,fun b hb=>?_,w7⟩;obtain ⟨o,e,d⟩:=T.obj _ _ st5 b hb;exact (I7.pin (b,o) (zOB _ (zOB _ (zBS hb e)))).2.1
  cases f with
  | next=>obtain ⟨σ7,H7,I7,n7⟩:=q7; exact again I7 n7
  | cont=>obtain ⟨σ7,H7,I7,n7⟩:=q7; exact again I7 n7
  | brk=>obtain ⟨σ7,H7,I7,q7⟩:=q7; exact ⟨σ7,H7,I7.unpinned,q7⟩
  | ret v=>obtain ⟨x7,σ7,H7,I7,r7,q7⟩:=q7; exact ⟨x7,σ7,H7,I7.unpinned,r7,q7⟩
end
abbrev R2:=V -> V -> Hp -> VK -> Prop
def OpR (X:Cx) (f:Value -> Value -> Sem Value) (r:R2):Prop :=
 ∀ (zB:List (Addr × Obj)) (s:Shared) (σ:St) (H:Hp) (x y:V) (v u:Value) (Q:VK),Inv X zB σ H s -> zw x v -> zw y u -> r x y H Q ->
  wpAny (model X.prog X.w) X.A (f v u) (EP X zB σ Q) X.xe s
def zBL (X:Cx) (f:Value) (r:List V -> Hp -> VK -> Prop):Prop :=
 ∀ (zB:List (Addr × Obj)) (s:Shared) (σ:St) (H:Hp) (xs:List V) (us:List Value) (Q:VK),Inv X zB σ H s -> zW xs us -> r xs H Q ->
  wpAny (model X.prog X.w) X.A (call f us) (EP X zB σ Q) X.xe s
def tOp (r:R2) (ta tb:TE):TE:=fun σ H Q=>ta σ H fun x H1=>tb σ H1 fun y H2=>r x y H2 Q
def rI (C:Int -> Int -> Prop) (g:Int -> Int -> V):R2:=fun x y H Q=>∃ i j,x = .int i /\ y = .int j /\ C i j /\ Q (g i j) H
def rI0 (g:Int -> Int -> V):R2:=fun x y H Q=>∃ i j,x = .int i /\ y = .int j /\ Q (g i j) H
section
variable {X:Cx} {a b c:Expr} {ta tb tc:TE} {pos:Pos}
theorem zLN (ha:PE X a ta) (hb:PE X b tb) {zB:List (Addr × Obj)} {s:Shared} {σ:St} {H:Hp} {R:V -> V -> Hp -> Prop} (I:Inv X zB σ H s)
  (h:ta σ H fun x H1=>tb σ H1 fun y H2=>R x y H2) {Q:Value -> Shared -> Prop} {f:Value -> Value -> Sem Value}
  (hf:∀ v u s2 x y H2,Inv X zB σ H2 s2 -> zw x v -> zw y u -> R x y H2 -> wpAny (model X.prog X.w) X.A (f v u) Q X.xe s2) :
  wpAny (model X.prog X.w) X.A (eval a X.env) (fun v s₁=>wpAny (model X.prog X.w) X.A (eval b X.env) (fun u s₂=>wpAny (model X.prog X.w) X.A (f v u) Q X.xe s₂) X.xe s₁) X.xe s:=by
 refine thn (ha zB s σ H _ I h) fun v s1 ⟨x,H1,I1,r1,q1⟩=>?_;refine thn (hb zB s1 σ H1 _ I1 q1) fun u s2 ⟨y,H2,I2,r2,q2⟩=>?_;exact hf v u s2 x y H2 I2 r1 r2 q2
theorem zNF {op:Operator} {r:R2} (ho:OpR X (binaryOp op) r) (ha:PE X a ta) (hb:PE X b tb):PE X (.BinOp a op b pos) (tOp r ta tb):=by
 intro zB s σ H Q I h;exact wpAny_BinOp (zLN ha hb I h fun v u s2 x y H2 I2 rx ry q=>ho zB s2 σ H2 x y v u Q I2 rx ry q)
theorem opI {f:Value -> Value -> Sem Value} {C:Int -> Int -> Prop} {g:Int -> Int -> Int}
  (rule:∀ (i j:Int) (t u:Tok) (s:Shared) (Q:Value -> Shared -> Prop) (E:Value -> Shared -> Prop),C i j -> Q (.int (g i j) s.toks) { s with toks:=s.toks + 1 } -> wpAny (model X.prog X.w) X.A (f (.int i t) (.int j u)) Q E s) :
  OpR X f (rI C fun i j=> .int (g i j)):=by
 intro zB s σ H x y v u Q I rx ry h;obtain ⟨i,j,rfl,rfl,hc,q⟩:=h;obtain ⟨t,rfl⟩:=rx;obtain ⟨t',rfl⟩:=ry;exact rule i j t t' s _ _ hc ⟨.int (g i j),H,I.tok _,⟨_,rfl⟩,q⟩
theorem zM2 {f:Value -> Value -> Sem Value} {g:Int -> Int -> Int}
  (rule:∀ (i j:Int) (t u:Tok) (s:Shared) (Q:Value -> Shared -> Prop) (E:Value -> Shared -> Prop),Q (.int (g i j) s.toks) { s with toks:=s.toks + 1 } -> wpAny (model X.prog X.w) X.A (f (.int i t) (.int j u)) Q E s) :
  OpR X f (rI0 fun i j=> .int (g i j)):=by
 intro zB s σ H x y v u Q I rx ry h;obtain ⟨i,j,rfl,rfl,q⟩:=h;obtain ⟨t,rfl⟩:=rx;obtain ⟨t',rfl⟩:=ry;exact rule i j t t' s _ _ ⟨.int (g i j),H,I.tok _,⟨_,rfl⟩,q⟩
theorem zLC {f:Value -> Value -> Sem Value} {g:Int -> Int -> Bool}
  (rule:∀ (i j:Int) (t u:Tok) (s:Shared) (Q:Value -> Shared -> Prop) (E:Value -> Shared -> Prop),Q (.bool (g i j)) s -> wpAny (model X.prog X.w) X.A (f (.int i t) (.int j u)) Q E s) :
  OpR X f (rI0 fun i j=> .bl (g i j)):=by
 intro zB s σ H x y v u Q I rx ry h;obtain ⟨i,j,rfl,rfl,q⟩:=h;obtain ⟨t,rfl⟩:=rx;obtain ⟨t',rfl⟩:=ry;exact rule i j t t' s _ _ ⟨.bl (g i j),H,I,rfl,q⟩
def zNk (i j:Int):Prop:=0 < j /\ j < 1073741824
def zNf (i j:Int):Prop:=0 <= j /\ j <= 1000000 /\ i.natAbs < 2 ^ 64
def zLK (i j:Int):Prop:=(-(2 ^ 64) < i /\ i < 2 ^ 64) \/ (-(2 ^ 64) < j /\ j < 2 ^ 64)
theorem zLK.ok {i j:Int} (h:zLK i j):IntMulOk i j:=by
 rcases h with ⟨h1,h2⟩ | ⟨h1,h2⟩
 ·exact .of_left (intBits_le_64 h1 h2)
 ·exact .of_right (intBits_le_64 h1 h2)
theorem zK5:OpR X (binaryOp .Add) (rI0 fun i j=> .int (i + j)):=zM2 fun _ _ _ _ _ _ _ q=>add_int q
theorem zMB:OpR X (binaryOp .Sub) (rI0 fun i j=> .int (i - j)):=zM2 fun _ _ _ _ _ _ _ q=>sub_int q
theorem zLA:OpR X (binaryOp .Mult) (rI zLK fun i j=> .int (i * j)):=opI fun _ _ _ _ _ _ _ hc q=>mul_int q hc.ok
theorem zJg:OpR X (binaryOp .FloorDiv) (rI zNk fun i j=> .int (i / j)):=opI fun i j _ _ _ _ _ hc q=>by
 have h1:(0:Int) < j:=hc.1;have h2:j < 1073741824:=hc.2;exact floordiv_int (by omega) (by rw [Int.fdiv_eq_ediv_of_nonneg i (by omega)]; exact q) (.inl (PyProof.noPylong_small (by omega)))
theorem zL5:OpR X (binaryOp .Mod) (rI (fun _ j=>0 < j) fun i j=> .int (i % j)):=opI fun i j _ _ _ _ _ hc q=>by
 have h1:(0:Int) < j:=hc;exact mod_int' (by omega) (by rw [Int.fmod_eq_emod_of_nonneg i (by omega)]; exact q)
theorem zK4:OpR X (binaryOp .Pow) (rI zNf fun i j=> .int (i ^ j.toNat)):=opI fun _ _ _ _ _ _ _ hc q=>pow_int_small hc.1 hc.2.1 hc.2.2 q
end
def zJy:V -> V -> Bool
 | .non,.non=>true | .non,.int _=>true | .int _,.non=>true | .non,.bl _=>true | .bl _,.non=>true | .non,.str _=>true | .str _,.non=>true
 | .int _,.int _=>true | .bl _,.bl _=>true | .str _,.str _=>true | .byt _,.byt _=>true
 | .int _,.str _=>true | .str _,.int _=>true | .bl _,.str _=>true | .str _,.bl _=>true
 | _,_=>false
def rEq:R2:=fun x y H Q=>zJy x y = true /\ Q (.bl (decide (x = y))) H
def rNe:R2:=fun x y H Q=>zJy x y = true /\ Q (.bl (!decide (x = y))) H
theorem zG8 {i j:Int}:decide (V.int i = V.int j) = (i == j):=by
 rw [Bool.eq_iff_iff];simp
theorem zJX {i j:Bool}:decide (V.bl i = V.bl j) = (i == j):=by
 rw [Bool.eq_iff_iff];simp
theorem zGs {i j:Str}:decide (V.str i = V.str j) = (i == j):=by
 rw [Bool.eq_iff_iff];simp
theorem zHC {i j:Array UInt8}:decide (V.byt i = V.byt j) = (i.toList == j.toList):=by
 rw [Bool.eq_iff_iff];cases i;cases j;simp
section
variable {X:Cx} {a b c:Expr} {ta tb tc:TE} {pos:Pos}
theorem zU {zB:List (Addr × Obj)} {σ:St} {H:Hp} {s:Shared} {Q:VK} {k k':Bool} (I:Inv X zB σ H s) (q:Q (.bl k) H) (e:k = k'):EP X zB σ Q (.bool k') s:=by
 subst e;exact ⟨.bl k,H,I,rfl,q⟩
theorem zKi:OpR X (compareOp .Eq) rEq:=by
 intro zB s σ H x y v u Q I rx ry h;obtain ⟨hs,q⟩:=h;cases x with
 | non=>
  cases rx;cases y with
  | non=>cases ry; exact PySem.EqNone.eq_none_none (zU I q (by simp))
  | bl j=>cases ry; exact PySem.EqNone.eq_none_bool (zU I q (by simp))
  | int j=>obtain ⟨t',rfl⟩:=ry; exact PySem.EqNone.eq_none_int (zU I q (by simp))
  | str j=>obtain ⟨t',rfl⟩:=ry; exact PySem.EqNone.eq_none_str (zU I q (by simp))
  | _=>exact absurd (show false = true from hs) zOD
 | bl i=>
  cases rx;cases y with
  | non=>cases ry; exact PySem.EqNone.eq_bool_none (zU I q (by simp))
  | bl j=>cases ry; exact eq_bool (zU I q zJX)
  | str j=>obtain ⟨t',rfl⟩:=ry; exact PySem.EqMixed.eq_bool_str (zU I q (by simp))
  | _=>exact absurd (show false = true from hs) zOD
 | int i=>
  obtain ⟨t,rfl⟩:=rx;cases y with
  | non=>cases ry; exact PySem.EqNone.eq_int_none (zU I q (by simp))
  | int j=>obtain ⟨t',rfl⟩:=ry; exact eq_int (zU I q zG8)
  | str j=>obtain ⟨t',rfl⟩:=ry; exact PySem.EqMixed.eq_int_str (zU I q (by simp))
  | _=>exact absurd (show false = true from hs) zOD
 | str i=>
  obtain ⟨t,rfl⟩:=rx;cases y with
  | non=>cases ry; exact PySem.EqNone.eq_str_none (zU I q (by simp))
  | bl j=>cases ry; exact PySem.EqMixed.eq_str_bool (zU I q (by simp))
  | int j=>obtain ⟨t',rfl⟩:=ry; exact PySem.EqMixed.eq_str_int (zU I q (by simp))
  | str j=>obtain ⟨t',rfl⟩:=ry; exact eq_str (zU I q zGs)
  | _=>exact absurd (show false = true from hs) zOD
 | byt i=>
  obtain ⟨t,rfl⟩:=rx;cases y with
  | byt j=>obtain ⟨t',rfl⟩:=ry; exact PySem.W.eq_bytes (zU I q zHC)
  | _=>exact absurd (show false = true from hs) zOD
 | _=>cases y <;> exact absurd (show false = true from hs) zOD
theorem zNG:OpR X (compareOp .NotEq) rNe:=by
 intro zB s σ H x y v u Q I rx ry h;obtain ⟨hs,q⟩:=h;cases x with
 | non=>
  cases rx;cases y with
  | non=>cases ry; exact PySem.EqNone.ne_none_none (zU I q (by simp))
  | bl j=>cases ry; exact PySem.EqNone.ne_none_bool (zU I q (by simp))
  | int j=>obtain ⟨t',rfl⟩:=ry; exact PySem.EqNone.ne_none_int (zU I q (by simp))
  | str j=>obtain ⟨t',rfl⟩:=ry; exact PySem.EqNone.ne_none_str (zU I q (by simp))
  | _=>exact absurd (show false = true from hs) zOD
 | bl i=>
  cases rx;cases y with
  | non=>cases ry; exact PySem.EqNone.ne_bool_none (zU I q (by simp))
  | bl j=>cases ry; exact ne_bool (zU I q (congrArg not zJX))
  | str j=>obtain ⟨t',rfl⟩:=ry; exact PySem.EqMixed.ne_bool_str (zU I q (by simp))
  | _=>exact absurd (show false = true from hs) zOD
 | int i=>
  obtain ⟨t,rfl⟩:=rx;cases y with
  | non=>cases ry; exact PySem.EqNone.ne_int_none (zU I q (by simp))
  | int j=>obtain ⟨t',rfl⟩:=ry; exact ne_int (zU I q (congrArg not zG8))
  | str j=>obtain ⟨t',rfl⟩:=ry; exact PySem.EqMixed.ne_int_str (zU I q (by simp))
  | _=>exact absurd (show false = true from hs) zOD
 | str i=>
  obtain ⟨t,rfl⟩:=rx;cases y with
  | non=>cases ry; exact PySem.EqNone.ne_str_none (zU I q (by simp))
  | bl j=>cases ry; exact PySem.EqMixed.ne_str_bool (zU I q (by simp))
  | int j=>obtain ⟨t',rfl⟩:=ry; exact PySem.EqMixed.ne_str_int (zU I q (by simp))
  | str j=>obtain ⟨t',rfl⟩:=ry; exact ne_str (zU I q (congrArg not zGs))
  | _=>exact absurd (show false = true from hs) zOD
 | byt i=>
  obtain ⟨t,rfl⟩:=rx;cases y with
  | byt j=>obtain ⟨t',rfl⟩:=ry; exact PySem.W.ne_bytes (zU I q (congrArg not zHC))
  | _=>exact absurd (show false = true from hs) zOD
 | _=>cases y <;> exact absurd (show false = true from hs) zOD
theorem zKz:OpR X (compareOp .Lt) (rI0 fun i j=> .bl (decide (i < j))):=zLC fun _ _ _ _ _ _ _ q=>lt_int q
theorem zMT:OpR X (compareOp .LtE) (rI0 fun i j=> .bl (decide (i <= j))):=zLC fun _ _ _ _ _ _ _ q=>le_int q
theorem zMp:OpR X (compareOp .GtE) (rI0 fun i j=> .bl (decide (j <= i))):=zLC fun _ _ _ _ _ _ _ q=>ge_int q
theorem OpR.or {f:Value -> Value -> Sem Value} {r r':R2} (h:OpR X f r) (h':OpR X f r'):OpR X f (fun x y H Q=>r x y H Q \/ r' x y H Q):=by
 intro zB s σ H x y v u Q I rx ry q;rcases q with q | q
 ·exact h zB s σ H x y v u Q I rx ry q
 ·exact h' zB s σ H x y v u Q I rx ry q
theorem zBn (b:Expr) {op:CmpOp} (h:op ≠ .In:=by decide) (h2:op ≠ .NotIn:=by decide):behindInMarks op b = false:=by
 have e1:(op == CmpOp.In) = false:=by cases op <;> first | rfl | exact absurd rfl h
 have e2:(op == CmpOp.NotIn) = false:=by cases op <;> first | rfl | exact absurd rfl h2
 cases b <;> simp [behindInMarks,e1,e2]
theorem zKH {op:CmpOp} {r:R2} (ho:OpR X (compareOp op) r) (ha:PE X a ta) (hb:PE X b tb) (hm:behindInMarks op b = false):PE X (.Compare a [op] [b] pos) (tOp r ta tb):=by
 intro zB s σ H Q I h;exact wpAny_Compare1 (zLN ha hb I h fun v u s2 x y H2 I2 rx ry q=>ho zB s2 σ H2 x y v u Q I2 rx ry q) hm
def zG2 (t:TE):TT:=fun σ H Q=>t σ H fun x H'=>∃ k,x = .bl k /\ Q k H'
theorem zKV {op:CmpOp} {r:R2} (ho:OpR X (compareOp op) r) (ha:PE X a ta) (hb:PE X b tb) (hm:behindInMarks op b = false):PT X (.Compare a [op] [b] pos) (zG2 (tOp r ta tb)):=by
 intro zB s σ H Q I h;refine wpAny_isTrue_Compare1 (thn (ha zB s σ H _ I h) fun v s1 ⟨x,H1,I1,r1,q1⟩=>thn (hb zB s1 σ H1 _ I1 q1) fun u s2 ⟨y,H2,I2,r2,q2⟩=>
  thn (ho zB s2 σ H2 x y v u _ I2 r1 r2 q2) fun c s3 ⟨z,H3,I3,r3,k,e,q3⟩=>?_) hm
 subst e;cases r3;exact wpAny_truthy_bool ⟨H3,I3,q3⟩
def zIv (r r':R2) (ta tb tc:TE):TE:=fun σ H Q=>ta σ H fun x H1=>tb σ H1 fun y H2=>r x y H2 fun z H3=>∃ k,z = .bl k /\
 (if k = true then tc σ H3 fun w' H4=>r' y w' H4 Q else Q (.bl false) H3)
theorem zIS {op op':CmpOp} {r r':R2} (ho:OpR X (compareOp op) r) (ho':OpR X (compareOp op') r') (ha:PE X a ta) (hb:PE X b tb) (hc:PE X c tc)
  (hm:lastMarks [op,op'] [b,c] = false:=by with_unfolding_all rfl):PE X (.Compare a [op,op'] [b,c] pos) (zIv r r' ta tb tc):=by
 intro zB s σ H Q I h;refine Compare_chain (thn (ha zB s σ H _ I h) fun v s1 ⟨x,H1,I1,r1,q1⟩=>chain_link (thn (hb zB s1 σ H1 _ I1 q1) fun u s2 ⟨y,H2,I2,r2,q2⟩=>
  thn (ho zB s2 σ H2 x y v u _ I2 r1 r2 q2) fun d s3 ⟨z,H3,I3,r3,k,e,q3⟩=>?_)) hm
 subst e;cases r3;refine wpAny_truthy_bool ?_;cases k with
 | false=>exact ite_ff ⟨.bl false,H3,I3,rfl,q3⟩
 | true=>exact ite_tt (chain_last (thn (hc zB s3 σ H3 _ I3 q3) fun w' s4 ⟨z',H4,I4,r4,q4⟩=>ho' zB s4 σ H4 y z' u w' Q I4 r2 r4 q4))
theorem zCu:(sizeLine:Nat) < 2 ^ 63:=by rw [sizeLine_eq]; decide
theorem zGh:OpR X (binaryOp .Add) (fun x y H Q=>∃ i j,x = .str i /\ y = .str j /\ i.length + j.length <= sizeLine /\ Q (.str (i ++ j)) H):=by
 intro zB s σ H x y v u Q I rx ry h;obtain ⟨i,j,rfl,rfl,hz,q⟩:=h;obtain ⟨t,rfl⟩:=rx;obtain ⟨t',rfl⟩:=ry;exact add_str (fun t' tk=>⟨.str (i ++ j),H,I.tok _,⟨_,rfl⟩,q⟩) hz
theorem zDo {x:V} {us:List Value} (r:zW [x] us):∃ u,us = [u] /\ zw x u:=by
 cases r with
 | cons r1 r2=>cases r2; exact ⟨_,rfl,r1⟩
theorem zIq:zBL X (.builtin "abs") (fun xs H Q=>∃ i,xs = [.int i] /\ Q (.int (if i < 0 then -i else i)) H):=by
 intro zB s σ H xs us Q I r h;obtain ⟨i,rfl,q⟩:=h;obtain ⟨u,rfl,t,rfl⟩:=zDo r;exact call_abs_int fun u tk=>⟨.int (if i < 0 then -i else i),H,I.tok _,⟨_,rfl⟩,q⟩
theorem zHe:zBL X (.type "int") (fun xs H Q=>(∃ i,xs = [.int i] /\ Q (.int i) H) \/ ∃ k,xs = [.bl k] /\ Q (.int (if k then 1 else 0)) H):=by
 intro zB s σ H xs us Q I r h;rcases h with ⟨i,rfl,q⟩ | ⟨k,rfl,q⟩
 ·obtain ⟨u,rfl,t,rfl⟩:=zDo r;exact call_int_int ⟨.int i,H,I,⟨_,rfl⟩,q⟩
 ·obtain ⟨u,rfl,r1⟩:=zDo r;cases r1;exact call_int_bool ⟨.int (if k then 1 else 0),H,I.tok _,⟨_,rfl⟩,q⟩
end
structure ObjM (h:Heap) (x dx C:Addr) (mA:Str -> Option Value):Prop where
 obj:h.get? x = some (PySem.W.instObj C dx)
 ns:h.Ns1 dx mA
 ne:dx ≠ x
theorem zHv {h:Heap} {dx:Addr} {mA:Str -> Option Value} (n:h.Ns1 dx mA):∃ od,h.get? dx = some od /\ ∀ name,PySem.W.lookIn name od = some (mA name):=by
 obtain ⟨o,es,ep,ho,hd,hk,_,hm⟩:=n;refine ⟨o,ho,fun name=>?_⟩;have e:=hm name;unfold nsFind findBy at e;rw [<- Array.find?_toList] at e;unfold PySem.W.lookIn;rw [hd];dsimp only;split
 ·rename_i y q;rw [q] at e;exact congrArg some e
 ·rename_i q;rw [q] at e;have a:es.toList.any (·.refKey) = false:=by
   rw [List.any_eq_false];intro y hy;obtain ⟨z,t,hkey⟩:=hk y (Array.mem_toList_iff.mp hy);simp [DictEntry.refKey,hkey]
  have a':¬ es.toList.any (·.refKey) = true:=by rw [a]; exact zOD
  rw [zN9 a'];exact congrArg some e
theorem ObjM.look {h:Heap} {x dx C:Addr} {mA:Str -> Option Value} (I:ObjM h x dx C mA):∃ od,PySem.W.InstAt h x (PySem.W.instObj C dx) C (some od) /\ ∀ name,PySem.W.lookIn name od = some (mA name) :=
 let ⟨od,ho,hl⟩:=zHv I.ns
 ⟨od,⟨I.obj,rfl,rfl,ho⟩,hl⟩
section
variable {P:Program} {w:World} {H H':Hp} {h h':Heap} {a C dx:Addr} {fs fs':List (Str × V)}
theorem zJh (hok:HOk P w H h) (e:H a = some (.ins C dx fs)):∃ mA,ObjM h a dx C mA /\ (∀ f,zLL (fs.lookup f) (mA f)) /\ PySem.Within mA (fs.map (·.1)) /\ fs.length <= 1000 /\ H dx = some (.own a):=by
 obtain ⟨d,z,ne,ob,mA,n,r,q⟩:=(show zAA P w H h a (.ins C dx fs) from hok a _ e);exact ⟨mA,⟨ob,n,ne⟩,r,q,z,d⟩
end
structure Cls (K:PySem.W.Frag) (C:Addr):Prop where
 pg:PySem.W.plainGet K C Str.empty = true
 hd:PySem.W.hasDictIn K C = true
 po:PySem.W.plainOver K C = true
 sa:PySem.W.findIn K (.ref C) "__setattr__" = some (some (.builtin "object.__setattr__"))
theorem Cls.get {K:PySem.W.Frag} {C:Addr} (c:Cls K C) (f:Str):PySem.W.plainGet K C f = true:=c.pg
section
variable {X:Cx} {zB:List (Addr × Obj)} {σ:St} {H:Hp} {s:Shared} {A:Around} {E:Value -> Shared -> Prop} {Q:Value -> Shared -> Prop} {c:Value} {b:Bool}
set_option genInjectivity true in
inductive TyOf (K:PySem.W.Frag) (H:Hp):V -> Value -> Prop where
 | non:TyOf K H .non (.type "NoneType")
 | bl (x:Bool):TyOf K H (.bl x) (.type "bool")
 | int (i:Int):TyOf K H (.int i) (.type "int")
 | str (x:Str):TyOf K H (.str x) (.type "str")
 | flt (x:UInt64):TyOf K H (.flt x) (.type "float")
 | lst {a:Addr} {xs:List V} (e:H a = some (.lst xs)):TyOf K H (.ref a) (.type "list")
 | frz {a:Addr} {o:Obj} {xs:List V} (e:H a = some (.frz o (.lst xs))):TyOf K H (.ref a) (.type "list")
 | tup {a:Addr} {xs:List V} (e:H a = some (.tup xs)):TyOf K H (.ref a) (.type "tuple")
 | dK {a:Addr} {kvs:List (Key × V)} (e:H a = some (.dK kvs)):TyOf K H (.ref a) (.type "dict")
 | dT {a:Addr} {kvs:List (List Key × V)} (e:H a = some (.dT kvs)):TyOf K H (.ref a) (.type "dict")
 | ins {a C dx:Addr} {fs:List (Str × V)} (e:H a = some (.ins C dx fs)) (cl:Cls K C) (ha:PySem.W.findIn K (.ref C) "__class__" = some (some (.builtin "object.__class__")))
   (hn:PySem.W.specialIn K (.builtin "object.__class__") "__get__" = some (some (.builtin "getset_descriptor.__get__"))) (htk:PySem.W.takesIn K (.builtin "object.__class__") = some true)
   (hm:PySem.W.mroIn K C (.type "object") = some true):TyOf K H (.ref a) (.ref C)
theorem zHi {x:V} {u t:Value} (I:Inv X zB σ H s) (rx:zw x u) (ty:TyOf X.K H x t) (e:PySem.W.kitOne X.K t c = some b) (h:∀ tk,Q (.bool b) { s with toks:=tk }) :
  wpAny (model X.prog X.w) A (call (.builtin "isinstance") [u,c]) Q E s:=by
 cases ty with
 | non=>cases (show u = Value.none from rx); exact zPU PySem.W.kitx_none I.kIn True.intro e (fun z=>nomatch z) h
 | bl y=>cases (show u = Value.bool y from rx); exact zPU PySem.W.kitx_bool I.kIn True.intro e (fun z=>nomatch z) h
 | int i=>obtain ⟨t,q⟩:=(show ∃ t,u = Value.int i t from rx); cases q; exact zPU PySem.W.kitx_int I.kIn True.intro e (fun z=>nomatch z) h
 | str y=>obtain ⟨t,q⟩:=(show ∃ t,u = Value.str y t from rx); cases q; exact zPU PySem.W.kitx_str I.kIn True.intro e (fun z=>nomatch z) h
 | flt y=>obtain ⟨t,q⟩:=(show ∃ t,u = Value.float y t from rx); cases q; exact zPU PySem.W.kitx_float I.kIn True.intro e (fun z=>nomatch z) h
 | @lst a xs ea=>
  cases (show u = Value.ref a from rx);obtain ⟨_,_,n,_,h1⟩:=(show zAA X.prog X.w H s.heap a (.lst xs) from I.hok a _ ea);exact zPU PySem.W.kitx_list I.kIn ⟨_,h1,rfl⟩ e (fun z=>nomatch z) h
 | @frz a ob xs ea=>
  cases (show u = Value.ref a from rx);obtain ⟨_,_,_,n,_,h1⟩:=(show zAA X.prog X.w H s.heap a (.frz ob (.lst xs)) from I.hok a _ ea);exact zPU PySem.W.kitx_list I.kIn ⟨_,h1,rfl⟩ e (fun z=>nomatch z) h
 | @tup a xs ea=>
  cases (show u = Value.ref a from rx);obtain ⟨_,_,_,p⟩:=(show zAA X.prog X.w H s.heap a (.tup xs) from I.hok a _ ea);obtain ⟨o,h1,h2,_⟩:=p;exact zPU PySem.W.kitx_tuple I.kIn ⟨o,h1,h2⟩ e (fun z=>nomatch z) h
 | @dK a kvs ea=>
  cases (show u = Value.ref a from rx);obtain ⟨_,_,vs,_,p⟩:=(show zAA X.prog X.w H s.heap a (.dK kvs) from I.hok a _ ea);obtain ⟨o,es,ep,h1,h2,_⟩:=p;exact zPU PySem.W.kitx_dict I.kIn ⟨o,h1,h2.1⟩ e (fun z=>nomatch z) h
 | @dT a kvs ea=>
  cases (show u = Value.ref a from rx);obtain ⟨_,_,xs,_,o,es,ep,h1,h2,_⟩:=(show zAA X.prog X.w H s.heap a (.dT kvs) from I.hok a _ ea);exact zPU PySem.W.kitx_dict I.kIn ⟨o,h1,h2.1⟩ e (fun z=>nomatch z) h
 | @ins a C dx fs ea cl ha hn htk hm=>
  cases (show u = Value.ref a from rx);obtain ⟨mA,O,_⟩:=zJh I.hok ea;obtain ⟨od,J,_⟩:=O.look;exact zPU (PySem.W.kitx_own (cl.get _) cl.hd ha hn htk hm) I.kIn J e (fun z=>nomatch z) h
end
structure Room (k:Nat) (A:Around):Prop where
 hd:A.handled = none
 dp:A.depth + 3 * k + 5 < recursionLimit
 un:A.units + 16 * k + 200 < cLine
theorem Room.mono {j k:Nat} {A:Around} (r:Room k A) (h:j <= k):Room j A:=⟨r.hd,by have:=r.dp; omega,by have:=r.un; omega⟩
theorem Room.deeper {k:Nat} {A:Around} (r:Room (k + 1) A) (env:Env):Room k (A.deeper env) :=
 ⟨r.hd,by have:=r.dp; show A.depth + 1 + 3 * k + 5 < _; omega,by have:=r.un; show A.units + 3 + 16 * k + 200 < _; omega⟩
theorem Room.depth {k:Nat} {A:Around} (r:Room k A):A.depth < recursionLimit:=by have:=r.dp; omega
theorem Room.units0 {k:Nat} {A:Around} (r:Room k A):A.units < cLine:=by have:=r.un; omega
def zNT:TA:=fun _ H Q=>Q [] H
def zNL (ta:TE) (tr:TA):TA:=fun σ H Q=>ta σ H fun x H1=>tr σ H1 fun xs H2=>Q (x :: xs) H2
section
variable {X:Cx} {e:Expr} {es:List Expr} {te:TE} {t:TA} {pos:Pos}
theorem zB9:PA X [] zNT:=fun _ _ _ _ H Q I h=>Calls.spliced_nil ⟨[],H,I,.nil,h⟩
theorem zAL (ha:PE X e te) (hr:PA X es t) (hs:starEach (e :: es) X.env = (false,eval e X.env) :: starEach es X.env:=by rfl):PA X (e :: es) (zNL te t):=by
 intro pos zB s σ H Q I h;rw [hs];show wpAny _ _ (spliced ((false,eval e X.env) :: backTo pos (starEach es X.env))) _ _ s;refine Calls.spliced_cons (thn (ha zB s σ H _ I h) fun u s1 ⟨x,H1,I1,r1,q1⟩=>?_);exact thn (hr pos zB s1 σ H1 _ I1 q1) fun us s2 ⟨xs,H2,I2,r2,q2⟩=>⟨x :: xs,H2,I2,.cons r1 r2,q2⟩
def zNX (t:TA):TE:=fun σ H Q=>t σ H fun xs H1=>xs.length <= sizeLine /\ ∀ p,H1 p = none -> Q (.ref p) (upd H1 p (.tup xs))
def zNh (t:TA):TE:=fun σ H Q=>t σ H fun xs H1=>xs.length <= sizeLine /\ ∀ p,H1 p = none -> Q (.ref p) (upd H1 p (.lst xs))
theorem zIB {x1} (h:PA X es t):PE X (.Tuple es x1 pos) (zNX t):=by
 intro zB s σ H Q I hq;refine wpAny_Tuple_spliced (thn (h pos zB s σ H _ I hq) fun us s1 ⟨xs,H1,I1,r,z,q⟩=>⟨by rw [<- r.length]; exact z,?_⟩);have hf:H1 s1.heap.objs.size = none:=I1.hok.fresh (zNx _);refine ⟨.ref s1.heap.objs.size,upd H1 s1.heap.objs.size (.tup xs),I1.laid (t':=s1.toks) (fun b u e=>zNs _ e) (zNx _) ?_,rfl,q _ hf⟩;exact ⟨z,us,r,⟨_,zN1 _ rfl,rfl,⟨_,rfl⟩,rfl⟩⟩
theorem zLg (h:PA X es t):PE X (.List es pos) (zNh t):=by
 intro zB s σ H Q I hq;refine wpAny_List_spliced (thn (h pos zB s σ H _ I hq) fun us s1 ⟨xs,H1,I1,r,z,q⟩=>⟨by rw [<- r.length]; exact z,?_⟩);have hf:H1 s1.heap.objs.size = none:=I1.hok.fresh (zNx _);refine ⟨.ref s1.heap.objs.size,upd H1 s1.heap.objs.size (.lst xs),I1.laid (t':=s1.toks) (fun b u e=>zNs _ e) (zNx _) ?_,rfl,q _ hf⟩;exact ⟨z,us,0,r,zN1 _ rfl⟩
end
abbrev Sp:=List V -> Hp -> VK -> XK -> Prop
abbrev CXT:=List Env -> Hp -> Shared -> XK -> Value -> Shared -> Prop
structure Env0 (P:Program) (w:World) (K:PySem.W.Frag) (mg:Str -> Option Value) (base:Heap) (A:Around) (outer:List Env) (s:Shared) (H:Hp):Prop where
 frames:A.frames = some outer
 mod:Mod K mg base
 bs:∀ b o,base.get? b = some o -> s.heap.get? b = some o /\ H b = none
 bsz:base.objs.size <= s.heap.objs.size
 funs:s.heap.FunFrames base outer
 frf:∀ b ∈ frs outer,H b = none
 hok:HOk P w H s.heap
 bare:AllBare s.gens
def CE (outer:List Env) (P:Program) (w:World) (H:Hp) (s:Shared) (Q:VK) (u:Value) (s':Shared):Prop :=
 ∃ v H',s'.os = s.os /\ AllBare s'.gens /\ Un (frs outer) [] H H' s.heap s'.heap /\ HOk P w H' s'.heap /\ zw v u /\ Q v H'
def CR (CX:CXT) (outer:List Env) (P:Program) (w:World) (H:Hp) (s:Shared) (Q:VK) (E:XK) (r:Result) (s':Shared):Prop :=
 match r with
 | .ok (.ret u)=>CE outer P w H s Q u s'
 | .ok _=>False
 | .error e=>CX outer H s E e s'
structure FnOk (P:Program) (w:World) (K:PySem.W.Frag) (mg:Str -> Option Value) (base:Heap) (CX:CXT) (k:Nat) (f:Addr) (fd:FuncData) (ps:List Str) (sp:Sp):Prop where
 len:∀ vs H Q E,sp vs H Q E -> vs.length = ps.length
 run:∀ (A:Around) (outer:List Env) (s:Shared) (H:Hp) (args:Args) (us:List Value) (vs:List V) (Q:VK) (E:XK),Room k A -> Env0 P w K mg base A outer s H -> BindsTo s fd args (ps.zip us) -> zW vs us -> sp vs H Q E ->
  codeAny (model P w) A (.call (.ref f) args) (CR CX outer P w H s Q E) s
theorem FnOk.imp {P:Program} {w:World} {K:PySem.W.Frag} {mg:Str -> Option Value} {base:Heap} {CX:CXT} {k:Nat} {f:Addr} {fd:FuncData} {ps:List Str} {sp sp':Sp} (F:FnOk P w K mg base CX k f fd ps sp)
  (h:∀ vs H Q E,sp' vs H Q E -> sp vs H Q E):FnOk P w K mg base CX k f fd ps sp' :=
 ⟨fun vs H Q E q=>F.len vs H Q E (h _ _ _ _ q),fun A outer s H args us vs Q E hr he hb hv hs=>F.run A outer s H args us vs Q E hr he hb hv (h _ _ _ _ hs)⟩
section
variable {X:Cx} {zB:List (Addr × Obj)} {σ:St} {H:Hp} {s s':Shared}
theorem Inv.env0 (I:Inv X zB σ H s):Env0 X.prog X.w X.K X.mg X.base X.A X.stack s H :=
 ⟨I.ok.frames,I.ok.mod,I.bs,zOI I.ok.bsz I.sz,I.stack,I.stkFree,I.hok,I.bare⟩
theorem Inv.after {Q:VK} {u:Value} (I:Inv X zB σ H s) (h:CE X.stack X.prog X.w H s Q u s'):EP X zB σ Q u s':=by
 obtain ⟨v,H',os,bare,un,hok,r,q⟩:=h;obtain ⟨hh,g,d,t,os'⟩:=s';obtain rfl:os' = s.os:=os;exact ⟨v,H',I.call (h':=hh) (g':=g) (d':=d) (t':=t) (ch:=[]) un hok bare (fun b z=>absurd z (by simp)),r,q⟩
end
def zMn (sp:Sp) (dvs:List V) (E:XK) (t:TA):TE:=fun σ H Q=>t σ H fun vs H1=>sp (vs ++ dvs) H1 Q E
def zCW (K:PySem.W.Frag) (fd:FuncData) (ps:List Str) (ds:List Value):Prop :=
 ∀ (s:Shared) (us:List Value),K.In s.heap -> (us ++ ds).length = ps.length -> BindsTo s fd ⟨us,[]⟩ (ps.zip (us ++ ds))
theorem zCW.all {K:PySem.W.Frag} {fd:FuncData} {ps:List Str} (h:∀ us:List Value,us.length = ps.length -> bindArgs fd ⟨us,[]⟩ = pure (ps.zip us)):zCW K fd ps []:=fun s us _ hl=>by
 rw [List.append_nil] at hl ⊢;exact .of_eq (h us hl)
def zGM (CX:CXT) (X:Cx) (E:XK):Prop:=∀ (zB:List (Addr × Obj)) (σ:St) (H:Hp) (s:Shared) (e:Value) (s':Shared),Inv X zB σ H s -> CX X.stack H s E e s' -> X.xe e s'
section
variable {X:Cx} {CX:CXT} {k:Nat} {f C:Addr} {fd:FuncData} {ps:List Str} {sp:Sp} {dvs:List V} {ds:List Value} {E:XK} {x m:Str} {p pos apos:Pos} {e o:Expr} {es:List Expr} {ta:TE} {t:TA}
theorem zLr {zB:List (Addr × Obj)} {σ:St} {H:Hp} {s:Shared} {Q:VK} {us:List Value} {vs:List V} (F:FnOk X.prog X.w X.K X.mg X.base CX k f fd ps sp) (hr:Room k X.A) (hb:zCW X.K fd ps ds) (hd:zW dvs ds) (hx:zGM CX X E)
  (I:Inv X zB σ H s) (r:zW vs us) (h:sp (vs ++ dvs) H Q E):wpAny (model X.prog X.w) X.A (call (.ref f) us) (EP X zB σ Q) X.xe s:=by
 have r2:zW (vs ++ dvs) (us ++ ds):=r.append hd;have hl:(us ++ ds).length = ps.length:=by rw [<- r2.length]; exact F.len _ _ _ _ h
 refine wpAny_call (codeAny_mono (F.run X.A X.stack s H ⟨us,[]⟩ (us ++ ds) (vs ++ dvs) Q E hr I.env0 (hb s us I.kIn hl) r2 h) fun r s' hq=>?_);cases r with
 | error e=>exact hx zB σ H s e s' I hq
 | ok fl=>
  cases fl with
  | ret u=>exact I.after hq
  | next=>exact False.elim hq
  | brk=>exact False.elim hq
  | cont=>exact False.elim hq
theorem zJj (F:FnOk X.prog X.w X.K X.mg X.base CX k f fd ps sp) (hr:Room k X.A) (hg:Gl X x) (hm:X.mg x = some (.ref f)) (hk:PySem.W.keepIn X.K (.ref f) = true) (hb:zCW X.K fd ps ds) (hd:zW dvs ds) (hx:zGM CX X E)
  (ha:PA X (e :: es) t) (hdb:(x == ("__debug__" : Str)) = false:=by decide) (he:starEach (e :: es) X.env = (false,eval e X.env) :: starEach es X.env:=by rfl) (hpl:(backTo pos (starEach es X.env)).any (·.1) = false:=by rfl) :
  PE X (.Call (.Name x p) (e :: es) [] pos) (zMn sp dvs E t):=by
 intro zB s σ H Q I h;refine wpAny_Call_Name_kw (zCl I hg hm ?_ hdb);refine PySem.W.callWith_K (h₀:=X.base) I.ok.mod.kin hk (thn (ha pos zB s σ H _ I h) fun us s1 ⟨vs,H1,I1,r,q⟩=>⟨I1.kIn,?_⟩) he hpl;exact zLr F hr hb hd hx I1 r q
end
structure FnScope (N P:List Str) (sc:Scope):Prop where
 kind:sc.kind = .function
 co:sc.isCoroutine = false
 gen:sc.isGenerator = false
 nd:N.Nodup
 pre:N.take P.length = P
 par:∀ x ∈ P,sc.names.lookup x = some .local \/ sc.names.lookup x = some .cell
 nofree:∀ y ∈ sc.names,y.2 ≠ .free
theorem zER {kindOf:Str -> Option NameKind} {x:Str}:∀ {binds:List (Str × Value)} {m:Str -> Option Value},(∀ v,(x,v) ∉ binds) -> bindL kindOf binds m x = m x
 | [],_,_=>rfl
 | (n,v) :: r,m,h=>by
  unfold bindL;rw [zER fun w hw=>h w (zN4 _ hw)];split
  ·have:x ≠ n:=by rintro rfl; exact h v zN5
   simp [this]
  ·rfl
theorem zEG {kindOf:Str -> Option NameKind} {x:Str}:∀ {binds:List (Str × Value)} {m:Str -> Option Value},(∀ v,(x,v) ∉ binds) -> bindC kindOf binds m x = m x
 | [],_,_=>rfl
 | (n,v) :: r,m,h=>by
  unfold bindC;rw [zEG fun w hw=>h w (zN4 _ hw)];split
  ·rfl
  ·have:x ≠ n:=by rintro rfl; exact h v zN5
   simp [this]
theorem zEJ {kindOf:Str -> Option NameKind} {x:Str} {v:Value}:∀ {P:List Str} {vs:List Value} {i:Nat} {m:Str -> Option Value},P.Nodup -> P[i]? = some x -> vs[i]? = some v -> kindOf x = some .local ->
  bindL kindOf (P.zip vs) m x = some v
 | [],_,_,_,_,h,_,_=>by simp at h
 | _ :: _,[],_,_,_,_,h,_=>by simp at h
 | p :: P,w :: vs,0,m,nd,h1,h2,hk=>by
  simp at h1 h2; subst h1; subst h2;show bindL kindOf ((p,w) :: P.zip vs) m p = _;unfold bindL;rw [zER fun v hv=>(List.nodup_cons.mp nd).1 (List.of_mem_zip hv).1,zN6 hk];simp
 | p :: P,w :: vs,i + 1,m,nd,h1,h2,hk=>by
  show bindL kindOf ((p,w) :: P.zip vs) m x = _;unfold bindL;exact zEJ (i:=i) (List.nodup_cons.mp nd).2 (by simpa using h1) (by simpa using h2) hk
theorem zEL {kindOf:Str -> Option NameKind} {x:Str} {v:Value}:∀ {P:List Str} {vs:List Value} {i:Nat} {m:Str -> Option Value},P.Nodup -> P[i]? = some x -> vs[i]? = some v -> kindOf x ≠ some .local ->
  bindC kindOf (P.zip vs) m x = some v
 | [],_,_,_,_,h,_,_=>by simp at h
 | _ :: _,[],_,_,_,_,h,_=>by simp at h
 | p :: P,w :: vs,0,m,nd,h1,h2,hk=>by
  simp at h1 h2; subst h1; subst h2;show bindC kindOf ((p,w) :: P.zip vs) m p = _;unfold bindC;rw [zEG fun v hv=>(List.nodup_cons.mp nd).1 (List.of_mem_zip hv).1,zN9 hk];simp
 | p :: P,w :: vs,i + 1,m,nd,h1,h2,hk=>by
  show bindC kindOf ((p,w) :: P.zip vs) m x = _;unfold bindC;exact zEL (i:=i) (List.nodup_cons.mp nd).2 (by simpa using h1) (by simpa using h2) hk
def zB3 (N:List Str) (vs:List V):St:=vs.map some ++ List.replicate (N.length - vs.length) none
def zFa (CX:CXT) (P:Program) (w:World) (K:PySem.W.Frag) (mg:Str -> Option Value) (base:Heap) (N:List Str) (qual:Str) (scope:Scope) (f:Addr) (cd:Value) (A:Around) (outer:List Env) (s:Shared) (H:Hp) (E:XK):Cx where
 prog:=P
 w:=w
 K:=K
 mg:=mg
 base:=base
 A:=A.deeper (envOfC qual scope s.heap.objs.size f cd)
 N:=N
 s₀:=s
 H₀:=H
 env:=envOfC qual scope s.heap.objs.size f cd
 outer:=outer
 stack:=envOfC qual scope s.heap.objs.size f cd :: outer
 ex:=[]
 calm:=true
 fn:=fun _=>true
 pn:=[]
 xe:=fun e s'=>wpAny (model P w) (A.deeper (envOfC qual scope s.heap.objs.size f cd)) (leaving (envOfC qual scope s.heap.objs.size f cd) e) (fun _ s''=>CX outer H s E e s'') (fun e' s''=>CX outer H s E e' s'') s'
theorem zDw {sc:Scope} {n:Nat} {x:Str} (h:sc.names.lookup x = some .cell):∃ c,(cellsFrom n sc.names []).lookup x = some c:=by
 have q:=PySem.W.cellsFrom_some sc.names n [] (.inl h);exact Option.isSome_iff_exists.mp q
theorem zHr {CX:CXT} {P:Program} {w:World} {K:PySem.W.Frag} {mg:Str -> Option Value} {base:Heap} {N ps:List Str} {qual:Str} {scope:Scope} {f:Addr} {cd:Value} {A:Around} {outer:List Env} {s s1:Shared} {H:Hp} {E:XK} {us:List Value} {vs:List V}
  (S:FnScope N ps scope) (hd:A.handled = none) (e0:Env0 P w K mg base A outer s H) (hl:vs.length = ps.length) (r:zW vs us)
  (x:InCallC s s.heap.objs.size (bindL (envOfC qual scope s.heap.objs.size f cd).kindOf (ps.zip us) fun _=>none) (cellsFrom (s.heap.objs.size + 1) scope.names []) (bindC (envOfC qual scope s.heap.objs.size f cd).kindOf (ps.zip us) fun _=>none) s1) :
  Inv (zFa CX P w K mg base N qual scope f cd A outer s H E) [] (zB3 N vs) H s1:=by
 have hpl:ps.length <= N.length:=by have:=congrArg List.length S.pre; rw [zPF] at this; omega
 obtain ⟨h1,tk,rfl,hk⟩:=x.done;have noA:∀ b:Addr,b ∉ (zFa CX P w K mg base N qual scope f cd A outer s H E).ex:=fun b z=>absurd (show b ∈ ([]:List Addr) from z) (by simp)
 refine ⟨⟨e0.mod,S.kind,rfl,rfl,zNx _,fun y z c h1 h2=>?_,fun y hy=>?_,fun y c _ h=>?_,fun _=>hd,Around.frames_deeper e0.frames,.inr ⟨rfl,rfl⟩,fun b z=>absurd z (noA b),e0.bs,e0.bsz,fun b _ _=>noA b,fun b z=>absurd z (noA b),e0.funs,e0.frf⟩,
  rfl,e0.bare,Un.kept hk,⟨_,x.toInCall.ns,fun i y v h1 h2 h3=>?_⟩,fun y c h=>⟨_,x.cell y c h⟩,e0.hok.fresh (zNx _),fun y c h=>?_,fun p hp=>absurd (show p ∈ ([]:List (Addr × Obj)) from hp) (by simp),e0.hok.kept hk,?_⟩
 ·exact name_of_addr x.apart (zOt h1) (zOt h2)
 ·have hy:scope.names.lookup y = some .cell \/ scope.names.lookup y = some .free:=hy;rcases hy with hy | hy
  ·exact zDw hy
  ·exact absurd rfl (S.nofree _ (zOt hy))
 ·exact Nat.le_of_lt (x.above y c (zOt h))
 ·have hi:i < vs.length:=by
   unfold zB3 at h2;by_cases hi:i < vs.length
   ·exact hi
   ·rw [List.getElem?_append_right (by simpa using hi)] at h2;rw [List.getElem?_replicate] at h2;split at h2 <;> cases h2
  have ha:vs[i]? = some v:=by
   unfold zB3 at h2;rw [zNy (by simpa using hi),List.getElem?_map] at h2;cases e:vs[i]? with
   | none=>rw [e] at h2; cases h2
   | some a=>rw [e] at h2; cases h2; rfl
  obtain ⟨u,hu,rv⟩:=r.get ha;have hp:ps[i]? = some y:=by
   rw [<- S.pre,List.getElem?_take_of_lt (by omega)]; exact h1
  have ndP:ps.Nodup:=by rw [<- S.pre]; exact S.nd.sublist (List.take_sublist _ _)
  refine ⟨u,rv,?_⟩;rcases S.par y (List.mem_of_getElem? hp) with k | k
  ·exact .inl ⟨k,zEJ ndP hp hu k⟩
  ·obtain ⟨c,e⟩:=zDw (n:=s.heap.objs.size + 1) k;refine .inr ⟨.inl k,c,e,?_⟩;have q:=x.cell y c e;rw [zEL ndP hp hu (by show scope.names.lookup y ≠ _; rw [k]; decide)] at q;exact q
 ·exact e0.hok.fresh (Nat.le_of_lt (x.above y c (zOt h)))
 ·unfold zB3;show _ = N.length;rw [zN7,zN0,List.length_replicate];omega
theorem zKt {CX:CXT} {P:Program} {w:World} {K:PySem.W.Frag} {mg:Str -> Option Value} {base:Heap} {k:Nat} {f:Addr} {name qual:Str} {params:Arguments} {body:List Stmt} {scope:Scope} {dV kV doc pm cdv ct oc:Value} {an od:Option Addr}
  {osl:Array (Option Value)} {N ps:List Str} {sp:Sp} (lk:K.lookup f = some ⟨oc,od,.func (PySem.W.fnOf name qual params body scope dV kV doc pm an cdv ct),osl⟩) (hcd:PySem.W.codeIn K cdv qual = true) (S:FnScope N ps scope)
  (len:∀ vs H Q E,sp vs H Q E -> vs.length = ps.length)
  (hbody:∀ (A:Around) (outer:List Env) (s:Shared) (H:Hp) (vs:List V) (Q:VK) (E:XK),Room k (A.deeper (envOfC qual scope s.heap.objs.size f cdv)) -> sp vs H Q E ->
   ∃ t,PSs (zFa CX P w K mg base N qual scope f cdv A outer s H E) body t /\ t { nx:=fun _ H'=>Q .non H',rt:=Q } (zB3 N vs) H) :
  FnOk P w K mg base CX (k + 1) f (PySem.W.fnOf name qual params body scope dV kV doc pm an cdv ct) ps sp:=by
 refine ⟨len,fun A outer s H args us vs Q E hr e0 hb r hsp=>?_⟩;have hl:=len _ _ _ _ hsp;have KX:K.In s.heap:=e0.mod.kin.keeps fun b o e=>(e0.bs b o e).1;have lim:s.heap.NoLimit:=e0.mod.nolimit.keeps fun b o e=>(e0.bs b o e).1;have hkind:∀ y ∈ ps.zip us,scope.names.lookup y.1 = some .local \/ (scope.names.lookup y.1 = some .cell /\ ((cellsFrom (s.heap.objs.size + 1) scope.names []).lookup y.1).isSome = true):=fun ⟨n,v⟩ hy=>by
  rcases S.par n (List.of_mem_zip hy).1 with q | q
  ·exact .inl q
  ·exact .inr ⟨q,PySem.W.cellsFrom_some _ _ _ (.inl q)⟩
 refine codeAny_call_function hr.depth (KX _ _ lk) rfl S.co S.gen rfl (PySem.W.codeRec_of KX hcd) (hb _ _ _ _ ?_);refine wpAny_newFunctionEnv_cells S.kind hkind fun env he s1 x=>?_;subst he;refine ⟨lim.keeps x.toInCall.keep,codeAny_func ?_⟩;obtain ⟨t,ht,hq⟩:=hbody A outer s H vs Q E (hr.deeper _) hsp;have I:Inv (zFa CX P w K mg base N qual scope f cdv A outer s H E) [] (zB3 N vs) H s1:=zHr S hr.hd e0 hl r x;refine zON (ht [] s1 (zB3 N vs) H _ I hq) (fun fl s' hs=>?_) fun e s' hs=>hs;have fin:∀ {σ':St} {H':Hp} {v:V} {u:Value},Inv (zFa CX P w K mg base N qual scope f cdv A outer s H E) [] σ' H' s' -> zw v u -> Q v H' -> CE outer P w H s Q u s' :=
  fun {σ' H' v u} J rv q=>⟨v,H',J.os,J.bare,J.base,J.hok,rv,q⟩
 cases fl with
 | ret u=>
  obtain ⟨v,σ',H',J,rv,q⟩:=hs;exact fin J rv q
 | next=>
  obtain ⟨σ',H',J,q⟩:=hs;exact fin (v:=V.non) (u:=Value.none) J rfl q
 | brk=>
  obtain ⟨_,_,_,q⟩:=hs;exact False.elim q
 | cont=>
  obtain ⟨_,_,_,q⟩:=hs;exact False.elim q
section
variable {X:Cx} {x:Str} {p pos:Pos} {e:Expr} {es:List Expr} {t:TA} {id T:String} {r:List V -> Hp -> VK -> Prop}
def tCB (r:List V -> Hp -> VK -> Prop) (t:TA):TE:=fun σ H Q=>t σ H fun vs H1=>r vs H1 Q
theorem zBb (hc:zBL X (.builtin id) r) (hg:Gl X x) (hm:X.mg x = none) (hv:bootBuiltins x = some (.builtin id)) (ha:PA X (e :: es) t) (hn:x ≠ "__name__" := by decide) (hdb:(x == ("__debug__" : Str)) = false:=by decide)
  (he:starEach (e :: es) X.env = (false,eval e X.env) :: starEach es X.env:=by rfl) (hpl:(backTo pos (starEach es X.env)).any (·.1) = false:=by rfl):PE X (.Call (.Name x p) (e :: es) [] pos) (tCB r t):=by
 intro zB s σ H Q I h;refine wpAny_Call_Name_kw (zDZ I hg hm hv ?_ hn hdb);exact PyProof.Rows.callWith_builtin1 (thn (ha pos zB s σ H _ I h) fun us s1 ⟨vs,H1,I1,r1,q1⟩=>hc zB s1 σ H1 vs us Q I1 r1 q1) he hpl
theorem zHT (hc:zBL X (.type T) r) (hg:Gl X x) (hm:X.mg x = none) (hv:bootBuiltins x = some (.type T)) (ha:PA X (e :: es) t) (hn:x ≠ "__name__" := by decide) (hdb:(x == ("__debug__" : Str)) = false:=by decide)
  (he:starEach (e :: es) X.env = (false,eval e X.env) :: starEach es X.env:=by rfl) (hpl:(backTo pos (starEach es X.env)).any (·.1) = false:=by rfl):PE X (.Call (.Name x p) (e :: es) [] pos) (tCB r t):=by
 intro zB s σ H Q I h;refine wpAny_Call_Name_kw (zDZ I hg hm hv ?_ hn hdb);exact PyProof.Rows.callWith_type1 (thn (ha pos zB s σ H _ I h) fun us s1 ⟨vs,H1,I1,r1,q1⟩=>hc zB s1 σ H1 vs us Q I1 r1 q1) he hpl
end
end L2
namespace HT
open PySem PyProof.Rows
section
variable {prog:Program} {w:World} {A:Around} {E:Value -> Shared -> Prop} {s:Shared}
theorem zJ3 {t b:Addr} {vs ws:List Value} {Q:Value -> Shared -> Prop} (ht:IsTup s.heap t vs.toArray) (hb:IsTup s.heap b ws.toArray) (hv:vs ≠ [])
  (h1:ws = [] -> Q (.ref t) s) (h2:ws ≠ [] -> Q (.ref s.heap.objs.size) { s with heap:=s.heap.push { cls:=.type "tuple", data:=.seq (vs ++ ws).toArray } })
  (hsz:vs.length + ws.length <= sizeLine):wpAny (model prog w) A (binaryOp .Add (.ref t) (.ref b)) Q E s:=by
 obtain ⟨⟨cls,dd,data,sl⟩,ho,hc,n,hd⟩:=id ht;obtain ⟨⟨cls2,dd2,data2,sl2⟩,ho2,hc2,n2,hd2⟩:=id hb;simp only at hc hd hc2 hd2;subst hc hd hc2 hd2;have e:vs.toArray ++ ws.toArray = (vs ++ ws).toArray:=by simp
 by_cases hw:ws = []
 ·exact concat_meets ⟨_,ho,rfl⟩ ⟨_,ho2,rfl⟩ noFill_tuple_add seq_tuple_add PySem.F.slot_tuple_add PySem.F.entry_tuple_add (PySem.F.args_tuple_add_2 _ _)
   (tuple_addW1 t b vs.toArray ws.toArray n n2 dd dd2 sl sl2 (by simpa using hv) (by simp [hw])) ⟨ho,ho2,h1 hw⟩
 ·refine concat_meets ⟨_,ho,rfl⟩ ⟨_,ho2,rfl⟩ noFill_tuple_add seq_tuple_add PySem.F.slot_tuple_add PySem.F.entry_tuple_add (PySem.F.args_tuple_add_2 _ _)
   (tuple_addW2 t b vs.toArray ws.toArray n n2 dd dd2 sl sl2 (by simpa using hv) (by simpa using hw) (by rw [zNz,zNz]; exact hsz)) ⟨ho,ho2,?_⟩
  rw [e];exact h2 hw
def sIx (n d:Nat):Option Int -> Nat
 | none=>d
 | some v=>if v < 0 then (v + (n:Int)).toNat else min v.toNat n
theorem zLi (n d:Nat) (hd:d <= n) (o:Option Int):sIx n d o <= n:=by
 cases o with
 | none=>exact hd
 | some v=>
  show (if v < 0 then (v + (n:Int)).toNat else min v.toNat n) <= n;by_cases hv:v < 0
  ·rw [zN6 hv]; omega
  ·rw [zN9 hv]; exact Nat.min_le_right _ _
theorem zG3 (v:Int) (n d:Nat):(if v < 0 then max (v + (n:Int)) 0 else min v (n:Int)) = ((sIx n d (some v):Nat):Int):=by
 show (if v < 0 then max (v + (n:Int)) 0 else min v (n:Int)) = (((if v < 0 then (v + (n:Int)).toNat else min v.toNat n):Nat):Int);by_cases hv:v < 0
 ·simp only [zN6 hv]; omega
 ·simp only [zN9 hv]; omega
theorem zGp (lo hi:Option Int) (n:Nat):Builtin.Slice.sliceAdjust lo hi 1 (n:Int) = (((sIx n 0 lo:Nat):Int),((sIx n n hi:Nat):Int)):=by
 have h1:¬ ((1:Int) < 0):=by omega
 unfold Builtin.Slice.sliceAdjust;simp only [h1,if_false];refine Prod.ext ?_ ?_
 ·cases lo with
  | none=>rfl
  | some v=>exact zG3 v n 0
 ·cases hi with
  | none=>rfl
  | some v=>exact zG3 v n n
theorem zGR (i j:Nat):Builtin.Slice.slicePlaces (i:Int) (j:Int) 1 = j - i:=by
 unfold Builtin.Slice.slicePlaces;have h1:(1:Int) > 0:=by omega
 simp only [h1,if_true,Int.ediv_one];split <;> omega
theorem zDk {v:Value} {o:Option Int} {Q:Option Int -> Shared -> Prop} (p:IsPart v o) (h:Q o s):wpAny (model prog w) A (Builtin.Slice.slicePartIndex v) Q E s:=by
 cases p with
 | none=>exact slicePart_none h
 | int i t=>exact slicePart_int h
theorem zBH {sl:Addr} {vl vu:Value} {lo hi:Option Int} {n:Nat} {Q:Int × Int × Nat -> Shared -> Prop} (hs:s.heap.IsSliceOf sl vl vu .none) (pl:IsPart vl lo) (pu:IsPart vu hi)
  (h:Q (((sIx n 0 lo:Nat):Int),1,sIx n n hi - sIx n 0 lo) s):wpAny (model prog w) A (Builtin.Slice.sliceApplied (.ref sl) (pure (n:Int))) Q E s:=by
 obtain ⟨os,hos,hcs,hds⟩:=id hs;unfold Builtin.Slice.sliceApplied Builtin.Slice.sliceFields;refine zNr (zNr (zOW hos hds (x:=vl) rfl (zNr (zOW hos hds (x:=vu) rfl (zNr (zOW hos hds (x:=.none) rfl (zNt ?_)))))));refine zNr (slicePart_none ?_);show wpAny _ _ (if ((1:Int) == 0) = true then _ else _) _ _ s;rw [zN9 (by decide)];refine zNr (zDk pl (zNr (zDk pu (zNr (zNt ?_)))));show wpAny _ _ (match Builtin.Slice.sliceAdjust lo hi 1 (n:Int) with | (lo,hi)=>pure (lo,(1:Int),Builtin.Slice.slicePlaces lo hi 1)) _ _ s;rw [zGp lo hi n];show wpAny _ _ (pure (((sIx n 0 lo:Nat):Int),(1:Int),Builtin.Slice.slicePlaces ((sIx n 0 lo:Nat):Int) ((sIx n n hi:Nat):Int) 1)) _ _ s;rw [zGR];exact zNt h
theorem zJU (xs:Array Value) (i k:Nat):((List.range k).filterMap fun (m:Nat)=>xs[((i:Int) + (m:Int) * 1).toNat]?).toArray = ((xs.toList.drop i).take k).toArray:=by
 have e:(fun (m:Nat)=>xs[((i:Int) + (m:Int) * 1).toNat]?) = fun m=>xs[i + m]?:=by
  funext m;have:((i:Int) + (m:Int) * 1).toNat = i + m:=by omega
  rw [this]
 rw [e];have:=pick_run xs i k;rw [List.filterMap_map] at this;have e2:((fun x=>xs[x]?) ∘ fun x=>i + x) = fun m=>xs[i + m]?:=rfl;rw [e2] at this;rw [this]
theorem zCh {t sl:Addr} {items:Array Value} {vl vu:Value} {lo hi:Option Int} {Q:Value -> Shared -> Prop} (ht:IsTup s.heap t items) (hs:s.heap.IsSliceOf sl vl vu .none) (pl:IsPart vl lo) (pu:IsPart vu hi)
  (hw:¬ (sIx items.size 0 lo = 0 /\ sIx items.size items.size hi = items.size))
  (h:Q (.ref s.heap.objs.size) { s with heap:=s.heap.push { cls:=.type "tuple", data:=.seq ((items.toList.drop (sIx items.size 0 lo)).take (sIx items.size items.size hi - sIx items.size 0 lo)).toArray } })
  (hsz:items.size <= sizeLine):wpAny (model prog w) A (getItem (.ref t) (.ref sl)) Q E s:=by
 have htake:sizeOk (.seq ((items.toList.drop (sIx items.size 0 lo)).take (sIx items.size items.size hi - sIx items.size 0 lo)).toArray):=by
  show ((items.toList.drop (sIx items.size 0 lo)).take (sIx items.size items.size hi - sIx items.size 0 lo)).toArray.size <= sizeLine;rw [zNz,zPF,List.length_drop,Array.length_toList];omega
 have hj:sIx items.size items.size hi <= items.size:=zLi _ _ (zNx _) hi;obtain ⟨os,hos,hcs,hds⟩:=id hs;have hTs:s.TypeIs (.ref sl) "slice" := ⟨os,hos,hcs⟩;unfold getItem;try with_reducible refine wpAny_holding ?_
 first | refine zNr (zNt ?_) | skip
 refine zNr (wpAny_sequenceKey ht.typeIs (by decide) ?_)
 refine zNr (zOT (name:=Str.ofString "__getitem__") ht.typeIs zPP
  (wpAny_call_entry zPP ht.typeIs entry_tuple_getitem ?_ (args_tuple_getitem _ _)))
 show wpAny _ _ (Builtin.Tuple.tupleItemsOf (.ref t) >>= _) _ _ s;refine zNr (tupleItemsOf_ ht ?_);refine zNr (wpAny_typeOf hTs ?_);rw [zN6 (by decide)];refine zNr (zBH hs pl pu ?_);have hno:¬ ((((sIx items.size 0 lo:Nat):Int) == 0 && (1:Int) == 1 && (sIx items.size items.size hi - sIx items.size 0 lo) == items.size) = true):=by
  intro q;rw [zOR,zOR] at q;have q1:((sIx items.size 0 lo:Nat):Int) = 0:=eq_of_beq q.1.1;have q2:sIx items.size items.size hi - sIx items.size 0 lo = items.size:=eq_of_beq q.2;exact hw ⟨by omega,by omega⟩
 show wpAny _ _ (if (((sIx items.size 0 lo:Nat):Int) == 0 && (1:Int) == 1 && (sIx items.size items.size hi - sIx items.size 0 lo) == items.size) = true then _ else _) _ _ s;rw [zN9 hno,zJU]
 first
  | exact zNr (m:=Builtin.Tuple.tupleExact _) (zOK (zNt ⟨_,rfl,zNt h⟩) htake)
  | exact zNr (m:=Builtin.Tuple.tupleExact _) (zOK (zNr (zNt (zNt ⟨_,rfl,zNt h⟩))) htake)
  | exact zNr (zNr (m:=Builtin.Tuple.tupleExact _) (zOK (zNt (zNt ⟨_,rfl,zNt h⟩)) htake))
  | exact zNr (zNr (m:=Builtin.Tuple.tupleExact _) (zOK (zNt ⟨_,rfl,zNt h⟩) htake))
end
end HT
namespace L2
open PySem PySem.Spec PyProof.Rows
abbrev TO:=St -> Hp -> (Option Int -> Hp -> Prop) -> Prop
def PO (X:Cx) (e:Option Expr) (t:TO):Prop :=
 ∀ (zB:List (Addr × Obj)) (s:Shared) (σ:St) (H:Hp) (Q:Option Int -> Hp -> Prop),Inv X zB σ H s -> t σ H Q ->
  wpAny (model X.prog X.w) X.A (evalPart e X.env) (fun u s'=>∃ o H',Inv X zB σ H' s' /\ IsPart u o /\ Q o H') X.xe s
def zJ0:TO:=fun _ H Q=>Q none H
def zMi (t:TE):TO:=fun σ H Q=>t σ H fun x H1=>∃ i,x = .int i /\ Q (some i) H1
section
variable {X:Cx} {e:Expr} {te:TE} {lo hi:Option Expr} {tl th:TO} {pos p2:Pos}
theorem zKD:PO X none zJ0:=by
 intro zB s σ H Q I h;rw [evalPart_none];exact zNt ⟨none,H,I,.none,h⟩
theorem zJm (h:PE X e te):PO X (some e) (zMi te):=by
 intro zB s σ H Q I hw;rw [evalPart_some];refine thn (h zB s σ H _ I hw) fun u s1 ⟨x,H1,I1,r1,q1⟩=>?_;obtain ⟨i,rfl,q⟩:=q1;obtain ⟨t,rfl⟩:=r1;exact ⟨some i,H1,I1,.int i t,q⟩
def SlR (X:Cx) (r:V -> Option Int -> Option Int -> Hp -> VK -> Prop):Prop :=
 ∀ (zB:List (Addr × Obj)) (s:Shared) (σ:St) (H:Hp) (x:V) (v vl vu:Value) (lo hi:Option Int) (sl:Addr) (Q:VK),Inv X zB σ H s -> zw x v -> s.heap.IsSliceOf sl vl vu .none -> IsPart vl lo -> IsPart vu hi -> r x lo hi H Q ->
  ∃ T id,typeLookup (.type T) "__getitem__" = pure (some (.builtin id)) /\ s.TypeIs v T /\ wpAny (model X.prog X.w) X.A (getItem v (.ref sl)) (EP X zB σ Q) X.xe s
theorem SlR.or {r r':V -> Option Int -> Option Int -> Hp -> VK -> Prop} (h:SlR X r) (h':SlR X r'):SlR X (fun x lo hi H Q=>r x lo hi H Q \/ r' x lo hi H Q):=by
 intro zB s σ H x v vl vu lo hi sl Q I rx hs pl pu q;rcases q with q | q
 ·exact h zB s σ H x v vl vu lo hi sl Q I rx hs pl pu q
 ·exact h' zB s σ H x v vl vu lo hi sl Q I rx hs pl pu q
def tSl (r:V -> Option Int -> Option Int -> Hp -> VK -> Prop) (te:TE) (tl th:TO):TE:=fun σ H Q=>te σ H fun x H1=>tl σ H1 fun l H2=>th σ H2 fun u H3=>r x l u H3 Q
theorem zFI {r:V -> Option Int -> Option Int -> Hp -> VK -> Prop} (hr:SlR X r) (he:PE X e te) (hl:PO X lo tl) (hu:PO X hi th):PE X (.Subscript e (.Slice lo hi none p2) pos) (tSl r te tl th):=by
 intro zB s σ H Q I h;refine Subscript_ (thn (he zB s σ H _ I h) fun v s1 ⟨x,H1,I1,r1,q1⟩=>?_);refine wpAny_Slice (thn (hl zB s1 σ H1 _ I1 q1) fun vl s2 ⟨l,H2,I2,pl,q2⟩=>thn (hu zB s2 σ H2 _ I2 q2) fun vu s3 ⟨u,H3,I3,pu,q3⟩=>?_);rw [evalPart_none];refine zNt ?_;have I4:Inv X zB σ H3 { s3 with heap:=s3.heap.push { cls:=.type "slice", data:=.fields #[vl,vu,.none] } }:=I3.kept (t':=s3.toks) fun b ob q=>zNs _ q;obtain ⟨T,id,hT,ht,hg⟩:=hr zB { s3 with heap:=s3.heap.push { cls:=.type "slice", data:=.fields #[vl,vu,.none] } } σ H3 x v vl vu l u s3.heap.objs.size Q I4 r1 (Heap.IsSliceOf.new ..) pl pu q3;show wpAny (model X.prog X.w) X.A (subscriptTail e (.Slice lo hi none p2) v (.ref s3.heap.objs.size)) (EP X zB σ Q) X.xe { s3 with heap:=s3.heap.push { cls:=.type "slice", data:=.fields #[vl,vu,.none] } };exact tail_any (ops:=[.ref s3.heap.objs.size,v]) ht hT hg (by with_unfolding_all rfl)
def zFi (xs:List V) (lo hi:Option Int):List V:=(xs.drop (HT.sIx xs.length 0 lo)).take (HT.sIx xs.length xs.length hi - HT.sIx xs.length 0 lo)
theorem zC3 (xs:List V) (lo hi:Option Int):(zFi xs lo hi).length <= xs.length:=by
 unfold zFi;rw [zPF,List.length_drop];omega
def zNR (K:PySem.W.Frag):V -> Option Int -> Option Int -> Hp -> VK -> Prop:=fun x lo hi H Q=>∃ a xs,x = .ref a /\ SqT K H a xs /\
 ¬ (HT.sIx xs.length 0 lo = 0 /\ HT.sIx xs.length xs.length hi = xs.length) /\ ∀ p,H p = none -> Q (.ref p) (upd H p (.tup (zFi xs lo hi)))
theorem zLk:SlR X (zNR X.K):=by
 intro zB s σ H x v vl vu lo hi sl Q I rx hs pl pu h;obtain ⟨a,xs,rfl,hx,hw,q⟩:=h;cases rx;obtain ⟨its,r,ht,hz⟩:=I.tuple hx;have hlen:its.toArray.size = xs.length:=by rw [zNz]; exact r.length.symm
 refine ⟨"tuple", _,zPP.lookup,ht.typeIs,?_⟩;refine HT.zCh ht hs pl pu (by rw [hlen]; exact hw) ?_ (by rw [hlen]; exact hz);rw [hlen];refine ⟨.ref s.heap.objs.size,_,I.laid (t':=s.toks) (o:=.tup (zFi xs lo hi)) (fun b ob q=>zNs _ q) (zNx _) ?_,rfl,q _ (I.hok.fresh (zNx _))⟩;exact ⟨zOI (zC3 xs lo hi) hz,_,(r.drop (HT.sIx xs.length 0 lo)).take (HT.sIx xs.length xs.length hi - HT.sIx xs.length 0 lo),zBA.new _ _⟩
def zKm (K:PySem.W.Frag):R2:=fun x y H Q=>∃ a b xs ys,x = .ref a /\ y = .ref b /\ SqT K H a xs /\ SqT K H b ys /\ xs ≠ [] /\ xs.length + ys.length <= sizeLine /\
 (ys = [] -> Q (.ref a) H) /\ (ys ≠ [] -> ∀ p,H p = none -> Q (.ref p) (upd H p (.tup (xs ++ ys))))
theorem zW.nil_iff {xs:List V} {us:List Value} (r:zW xs us):us = [] ↔ xs = []:=by
 cases r with
 | nil=>simp
 | cons _ _=>simp
theorem zJ2:OpR X (binaryOp .Add) (zKm X.K):=by
 intro zB s σ H x y v u Q I rx ry h;obtain ⟨a,b,xs,ys,rfl,rfl,ha,hb,hx,hz,q1,q2⟩:=h;cases rx;cases ry;obtain ⟨its,r1,p1,_⟩:=I.tuple ha;obtain ⟨its2,r2,p2,_⟩:=I.tuple hb;refine HT.zJ3 p1 p2 (fun z=>hx (r1.nil_iff.mp z)) (fun z=>⟨.ref a,H,I,rfl,q1 (r2.nil_iff.mp z)⟩) (fun z=>?_) (by rw [<- r1.length,<- r2.length]; exact hz);refine ⟨.ref s.heap.objs.size,_,I.laid (t':=s.toks) (o:=.tup (xs ++ ys)) (fun b ob q=>zNs _ q) (zNx _) ?_,rfl,q2 (fun w=>z (r2.nil_iff.mpr w)) _ (I.hok.fresh (zNx _))⟩;exact ⟨by rw [zN7]; exact hz,_,r1.append r2,zBA.new _ _⟩
end
def ixN (n:Nat) (i:Int):Option Nat:=if 0 <= i then (if i < n then some i.toNat else none) else if -(n:Int) <= i then some (i + n).toNat else none
def atI {α:Type} (xs:List α) (i:Int):Option α:=(ixN xs.length i).bind fun j=>xs[j]?
theorem zEg {n:Nat} {i:Int} {j:Nat} (h:ixN n i = some j):seqIndex? i n = some j /\ j < n /\ -(n:Int) <= i /\ i < n:=by
 unfold ixN at h;by_cases h0:0 <= i
 ·rw [zN6 h0] at h;by_cases h1:i < n
  ·rw [zN6 h1] at h;have e:i.toNat = j:=zOr h;exact ⟨by rw [seqIndex_of h0 h1,e],by omega,by omega,h1⟩
  ·rw [zN9 h1] at h; cases h
 ·rw [zN9 h0] at h;by_cases h1 : -(n:Int) <= i
  ·rw [zN6 h1] at h;have e:(i + n).toNat = j:=zOr h;exact ⟨by rw [seqIndex_neg (by omega) h1,e],by omega,h1,by omega⟩
  ·rw [zN9 h1] at h; cases h
theorem zE6 {α:Type} {xs:List α} {i:Int} {v:α} (h:atI xs i = some v):∃ j,seqIndex? i xs.length = some j /\ xs[j]? = some v /\ j < xs.length /\ -(xs.length:Int) <= i /\ i < xs.length:=by
 unfold atI at h;cases e:ixN xs.length i with
 | none=>rw [e] at h; cases h
 | some j=>
  rw [e] at h;obtain ⟨h1,h2,h3,h4⟩:=zEg e;exact ⟨j,h1,h,h2,h3,h4⟩
theorem zEa {α:Type} {xs:List α} {j:Nat} {v:α} (h:xs[j]? = some v):atI xs (j:Int) = some v:=by
 have hj:j < xs.length:=(zNu.mp h).1;have e:ixN xs.length (j:Int) = some j:=by
  unfold ixN;rw [zN6 (by omega),zN6 (by omega)]; simp
 unfold atI; rw [e]; exact h
def zE2 (b:Expr):Prop:=∀ o i,subscripted b false o i = operate [o,i] (getItem o i)
def IxR (X:Cx) (r:R2):Prop :=
 ∀ (value slice:Expr) (zB:List (Addr × Obj)) (s:Shared) (σ:St) (H:Hp) (x y:V) (v u:Value) (Q:VK),Inv X zB σ H s -> zw x v -> zw y u -> r x y H Q ->
  subscripted slice false v u = operate [v,u] (getItem v u) -> wpAny (model X.prog X.w) X.A (subscriptTail value slice v u) (EP X zB σ Q) X.xe s
def MtR (X:Cx) (id:String) (r:V -> List V -> Hp -> VK -> Prop):Prop :=
 ∀ (zB:List (Addr × Obj)) (s:Shared) (σ:St) (H:Hp) (x:V) (xs:List V) (v:Value) (us:List Value) (Q:VK),Inv X zB σ H s -> zw x v -> zW xs us -> r x xs H Q ->
  wpAny (model X.prog X.w) X.A (call (.builtin id) (v :: us)) (EP X zB σ Q) X.xe s
section
variable {X:Cx} {a b:Expr} {ta tb:TE} {pos:Pos}
theorem IxR.or {r r':R2} (h:IxR X r) (h':IxR X r'):IxR X (fun x y H Q=>r x y H Q \/ r' x y H Q):=by
 intro value slice zB s σ H x y v u Q I rx ry q hs;rcases q with q | q
 ·exact h value slice zB s σ H x y v u Q I rx ry q hs
 ·exact h' value slice zB s σ H x y v u Q I rx ry q hs
theorem zK1 {r:R2} (hr:IxR X r) (ha:PE X a ta) (hb:PE X b tb) (hs:zE2 b):PE X (.Subscript a b pos) (tOp r ta tb):=by
 intro zB s σ H Q I h;exact Subscript_ (zLN ha hb I h fun v u s2 x y H2 I2 rx ry q=>hr a b zB s2 σ H2 x y v u Q I2 rx ry q (hs _ _))
def zMy (K:PySem.W.Frag):R2:=fun x y H Q=>∃ p xs i v,x = .ref p /\ y = .int i /\ SqL K H p xs /\ atI xs i = some v /\ Q v H
def zMu (K:PySem.W.Frag):R2:=fun x y H Q=>∃ p xs i v,x = .ref p /\ y = .int i /\ SqT K H p xs /\ atI xs i = some v /\ Q v H
def zLa:R2:=fun x y H Q=>∃ z i c,x = .str z /\ y = .int i /\ z.length <= sizeLine /\ atI z.cps.toList i = some c /\ Q (.str ⟨#[c]⟩) H
theorem zJv:IxR X (zMy X.K):=by
 intro value slice zB s σ H x y v u Q I rx ry h hs;obtain ⟨p,xs,i,z,rfl,rfl,hq,he,q⟩:=h;cases rx;obtain ⟨t,rfl⟩:=ry;obtain ⟨its,r,pl,hz⟩:=I.list hq;obtain ⟨j,h1,h2,h3,h4,h5⟩:=zE6 he;obtain ⟨w,ew,rw'⟩:=r.get h2;have hl:=r.length;have hn:=zCu;have fin:EP X zB σ Q w s:=⟨z,H,I,rw',q⟩;by_cases h0:0 <= i
 ·have hj:i.toNat = j:=by
   rw [seqIndex_of h0 h5] at h1;exact zOr h1
  exact item_listR pl.isList h0 (by omega) (by rw [hj]; simpa using ew) fin hs
 ·have hj:(i + (its.toArray.size:Int)).toNat = j:=by
   rw [seqIndex_neg (by omega) h4] at h1;rw [zNz,<- hl];exact zOr h1
  exact subscriptTail_builtinR (x:=w) pl.isList.typeIs slot_list_getitem.lookup
   (wpAny_getItem_list_neg (Q:=fun r s'=>r = w /\ EP X zB σ Q r s') pl.isList (by omega) (by rw [zNz] <;> omega) (by omega) (by rw [hj]; simpa using ew) ⟨rfl,fin⟩) hs
theorem zMG:IxR X (zMu X.K):=by
 intro value slice zB s σ H x y v u Q I rx ry h hs;obtain ⟨p,xs,i,z,rfl,rfl,hq,he,q⟩:=h;cases rx;obtain ⟨t,rfl⟩:=ry;obtain ⟨its,r,pl,hz⟩:=I.tuple hq;obtain ⟨j,h1,h2,h3,h4,h5⟩:=zE6 he;obtain ⟨w,ew,rw'⟩:=r.get h2;have hl:=r.length;have hn:=zCu;have fin:EP X zB σ Q w s:=⟨z,H,I,rw',q⟩
 exact subscriptTail_builtinR (x:=w) pl.typeIs slot_tuple_getitem.lookup
  (getItem_tuple (j:=j) (Q:=fun r s'=>r = w /\ EP X zB σ Q r s') pl (by omega) (by omega) (by rw [zNz,<- hl]; exact h1) (by simpa using ew) ⟨rfl,fin⟩) hs
theorem zJK:IxR X zLa:=by
 intro value slice zB s σ H x y v u Q I rx ry h hs;obtain ⟨z,i,c,rfl,rfl,hz,he,q⟩:=h;obtain ⟨t,rfl⟩:=rx;obtain ⟨t',rfl⟩:=ry;obtain ⟨j,h1,h2,h3,h4,h5⟩:=zE6 he;have hl:z.cps.toList.length = z.length:=by simp [Str.length]
 rw [hl] at h1 h4 h5;have hn:=zCu;exact tail_any (typeIs_str s z t) slot_str_getitem.lookup (getItem_str (c:=c) (by
  have e1:decide (i < -(2 ^ 63:Int)) = false:=zOQ (by omega);have e2:decide (i ≥ 2 ^ 63) = false:=zOQ (by omega);rw [e1,e2,Bool.or_false]) (by rw [h1]; simpa using h2) ⟨.str ⟨#[c]⟩,H,I.tok _,⟨_,rfl⟩,q⟩) hs
def rIx (K:PySem.W.Frag):R2:=fun x y H Q=>zMy K x y H Q \/ zMu K x y H Q \/ zLa x y H Q
theorem zLz:IxR X (rIx X.K):=zJv.or (zMG.or zJK)
theorem zGH (its:List Value) (n j:Nat) (u:Value):Obj.mapSeq (·.setIfInBounds j u) { cls:=.type "list", data:=.seq its.toArray n } = { cls:=.type "list", data:=.seq (its.set j u).toArray n }:=by
 simp [Obj.mapSeq]
theorem Inv.lst {zB:List (Addr × Obj)} {σ:St} {H:Hp} {s:Shared} {p:Addr} {xs:List V} (I:Inv X zB σ H s) (h:H p = some (.lst xs)) :
  ∃ (its:List Value) (n:Nat),zW xs its /\ s.heap.get? p = some { cls:=.type "list", data:=.seq its.toArray n } /\ xs.length <= sizeLine:=by
 obtain ⟨z,its,n,r,e⟩:=I.hok p _ h;exact ⟨its,n,r,e,z⟩
theorem Inv.lstUpd {zB:List (Addr × Obj)} {σ:St} {H:Hp} {s:Shared} {p:Addr} {xs ys:List V} {its its':List Value} {n n':Nat} {f:Obj -> Obj} (I:Inv X zB σ H s) (h:H p = some (.lst xs))
  (ho:s.heap.get? p = some { cls:=.type "list", data:=.seq its.toArray n }) (hf:f { cls:=.type "list", data:=.seq its.toArray n } = { cls:=.type "list", data:=.seq its'.toArray n' }) (r:zW ys its') (hz:ys.length <= sizeLine) (t:Nat) :
  Inv X zB σ (upd H p (.lst ys)) { s with heap:=s.heap.update p f,toks:=t }:=by
 have e:(s.heap.update p f).get? p = some { cls:=.type "list", data:=.seq its'.toArray n' }:=by
  rw [Heap.get?_update_self f ho (by rw [hf] <;> rfl),hf]
 refine I.write (x:=p) (e:=p) (by rw [h]; trivial) (.inl rfl) (fun b u hb q=>(Heap.get?_update_other _ _ (Ne.symm hb)).trans q) ⟨_,e⟩ ?_;exact ⟨hz,its',n',r,e⟩
def zMt:V -> V -> V -> Hp -> (Hp -> Prop) -> Prop:=fun o i v H Q=>∃ p xs k j,o = .ref p /\ i = .int k /\ H p = some (.lst xs) /\ ixN xs.length k = some j /\ Q (upd H p (.lst (xs.set j v)))
theorem zIR:zNN X zMt:=by
 intro zB s σ H o i v ov iv u Q I ro ri rv h;obtain ⟨p,xs,k,j,rfl,rfl,hp,hj,q⟩:=h;cases ro;obtain ⟨t,rfl⟩:=ri;obtain ⟨its,n,r,ho,hz⟩:=I.lst hp;obtain ⟨h1,h2,h3,h4⟩:=zEg hj;have hl:=r.length;have hn:=zCu;have I':Inv X zB σ (upd H p (.lst (xs.set j v))) { s with heap:=s.heap.update p (Obj.mapSeq (·.setIfInBounds j u)) } :=
  I.lstUpd hp ho (zGH its n j u) (r.set rv j) (by rw [List.length_set]; exact hz) s.toks
 by_cases h0:0 <= k
 ·have hk:k.toNat = j:=by
   rw [seqIndex_of h0 h4] at h1;exact zOr h1
  exact PySem.W.ki_setAt ho h0 (by omega) (by rw [zNz,<- hl]; exact h4) (by rw [hk]; exact ⟨_,I',q⟩)
 ·have hk:(k + (its.toArray.size:Int)).toNat = j:=by
   rw [seqIndex_neg (by omega) h3] at h1;rw [zNz,<- hl];exact zOr h1
  exact PySem.W.ki_setBack ho (by omega) (by rw [zNz,<- hl]; exact h3) (by omega) (by rw [hk]; exact ⟨_,I',q⟩)
theorem zEo (lo hi:Option Int) (n:Nat):(sliceBounds lo hi none n).1 = ((HT.sIx n 0 lo:Nat):Int) /\ (sliceBounds lo hi none n).2.1 = ((HT.sIx n n hi:Nat):Int) /\ (sliceBounds lo hi none n).2.2 = 1:=by
 refine ⟨?_,?_,rfl⟩
 ·cases lo with
  | none=>simp [sliceBounds,HT.sIx]
  | some i=>
   simp only [sliceBounds,HT.sIx,Option.getD_none,show (1:Int) > 0 by decide,if_true];by_cases h:i < 0
   ·simp only [h,if_true] <;> omega
   ·simp only [h,if_false] <;> omega
 ·cases hi with
  | none=>simp [sliceBounds,HT.sIx]
  | some i=>
   simp only [sliceBounds,HT.sIx,Option.getD_none,show (1:Int) > 0 by decide,if_true];by_cases h:i < 0
   ·simp only [h,if_true] <;> omega
   ·simp only [h,if_false] <;> omega
theorem zEA (its:List Value) (lo hi:Option Int):slicePick its.toArray lo hi none = ((its.drop (HT.sIx its.length 0 lo)).take (HT.sIx its.length its.length hi - HT.sIx its.length 0 lo)).toArray:=by
 obtain ⟨h1,h2,h3⟩:=zEo lo hi its.toArray.size;unfold slicePick;rw [h1,h2,h3];simp only [sliceRange_one,pick_run,zNz] <;> rfl
def zNi (K:PySem.W.Frag):V -> Option Int -> Option Int -> Hp -> VK -> Prop:=fun x lo hi H Q=>∃ a xs,x = .ref a /\ SqL K H a xs /\ ∀ p,H p = none -> Q (.ref p) (upd H p (.lst (zFi xs lo hi)))
theorem zJf:SlR X (zNi X.K):=by
 intro zB s σ H x v vl vu lo hi sl Q I rx hs pl pu h;obtain ⟨a,xs,rfl,hx,q⟩:=h;cases rx;obtain ⟨its,r,ht,hz⟩:=I.list hx;have hlen:=r.length;refine ⟨"list", _,slot_list_getitem.lookup,ht.isList.typeIs,?_⟩;refine wpAny_getItem_list_slice ht.isList hs pl pu .none (by simp) ?_ (by rw [zNz] <;> omega);rw [zEA,<- hlen];refine ⟨.ref s.heap.objs.size,_,I.laid (t':=s.toks) (o:=.lst (zFi xs lo hi)) (fun b ob q=>zNs _ q) (zNx _) ?_,rfl,q _ (I.hok.fresh (zNx _))⟩;exact ⟨zOI (zC3 xs lo hi) hz,_,0,(r.drop (HT.sIx xs.length 0 lo)).take (HT.sIx xs.length xs.length hi - HT.sIx xs.length 0 lo),zN1 _ rfl⟩
theorem zEz:OpR X (compareOp .NotIn) (fun x y H Q=>∃ i j,x = .str i /\ y = .str j /\ Q (.bl (!(!(Builtin.Str.occurrences j i 0 j.length 1).isEmpty))) H):=by
 intro zB s σ H x y v u Q I rx ry h;obtain ⟨i,j,rfl,rfl,q⟩:=h;obtain ⟨t,rfl⟩:=rx;obtain ⟨t',rfl⟩:=ry;exact notIn_str ⟨.bl _,H,I,rfl,q⟩
theorem zEj:zBL X (.builtin "len") (fun xs H Q=>∃ p ys,xs = [.ref p] /\ (SqL X.K H p ys \/ SqT X.K H p ys) /\ Q (.int ys.length) H):=by
 intro zB s σ H xs us Q I r h;obtain ⟨p,ys,rfl,hq,q⟩:=h;obtain ⟨u,rfl,rx⟩:=zDo r;cases rx;have hn:=zCu;rcases hq with hq | hq
 ·obtain ⟨its,r',pl,hz⟩:=I.list hq;have hlen:=r'.length;exact Calls.call_len_list pl.isList (by simp only [zNz] <;> omega) ⟨.int ys.length,H,I.tok _,⟨s.toks + 1,by rw [zNz,hlen]⟩,q⟩
 ·obtain ⟨its,r',pl,hz⟩:=I.tuple hq;have hlen:=r'.length;exact len_tuple pl (by simp only [zNz] <;> omega) ⟨.int ys.length,H,I.tok _,⟨s.toks + 1,by rw [zNz,hlen]⟩,q⟩
theorem zEe:zBL X (.builtin "len") (fun xs H Q=>∃ z,xs = [.str z] /\ z.length <= sizeLine /\ Q (.int z.length) H):=by
 intro zB s σ H xs us Q I r h;obtain ⟨z,rfl,hz,q⟩:=h;obtain ⟨u,rfl,t,rfl⟩:=zDo r;have hn:=zCu;exact len_str (by omega) ⟨.int z.length,H,I.tok _,⟨_,rfl⟩,q⟩
theorem zEC:zBL X (.type "tuple") (fun xs H Q=>∃ p ys,xs = [.ref p] /\ ((SqL X.K H p ys /\ ∀ l,H l = none -> Q (.ref l) (upd H l (.tup ys))) \/ (SqT X.K H p ys /\ Q (.ref p) H))):=by
 intro zB s σ H xs us Q I r h;obtain ⟨p,ys,rfl,h⟩:=h;obtain ⟨u,rfl,rx⟩:=zDo r;cases rx;rcases h with ⟨hq,q⟩ | ⟨hq,q⟩
 ·obtain ⟨its,r',pl,hz⟩:=I.list hq;have hlen:=r'.length;refine call_tuple_list pl.isList (fun h' kp=>?_) (by simp only [zNz] <;> omega);have I1:Inv X zB σ H { s with heap:=h' }:=I.kept (t':=s.toks) kp;have I2:Inv X zB σ (upd H h'.objs.size (.tup ys)) { s with heap:=h'.push { cls:=.type "tuple", data:=.seq its.toArray } } :=
   I1.laid (t':=s.toks) (fun b o e=>zNs _ e) (zNx _) (show zAA X.prog X.w _ _ _ (.tup ys) from ⟨hz,its,r',zBA.new _ _⟩)
  exact ⟨.ref h'.objs.size,_,I2,rfl,q _ (I1.hok.fresh (zNx _))⟩
 ·obtain ⟨its,r',pl,hz⟩:=I.tuple hq;exact call_tuple_same pl ⟨.ref p,H,I,rfl,q⟩
def tyV (K:PySem.W.Frag) (T:String) (x:V) (H:Hp):Prop:=match x with
 | .str _=>T = "str"
 | .int _=>T = "int"
 | .ref p=>(T = "list" /\ ∃ xs,SqL K H p xs) \/ (T = "tuple" /\ ((∃ o,K.lookup p = some o /\ o.cls = .type "tuple" /\ o.dict = none) \/ ∃ xs,H p = some (.tup xs))) \/
   (T = "dict" /\ ((∃ kvs,H p = some (.dK kvs)) \/ ∃ kvs,H p = some (.dT kvs))) \/ (T = "set" /\ ∃ S n,H p = some (.set S n))
 | _=>False
theorem zLU {zB:List (Addr × Obj)} {σ:St} {H:Hp} {s:Shared} {T:String} {x:V} {v:Value} (I:Inv X zB σ H s) (r:zw x v) (ty:tyV X.K T x H) :
  s.TypeIs v T /\ ∀ a,v = .ref a -> ∃ ob,s.heap.get? a = some ob /\ ob.dict = none:=by
 cases x with
 | str z=>
  obtain ⟨t,rfl⟩:=r;cases (show T = "str" from ty);exact ⟨typeIs_str s z t,fun _ e=>nomatch e⟩
 | int i=>
  obtain ⟨t,rfl⟩:=r;cases (show T = "int" from ty);exact ⟨typeIs_int s i t,fun _ e=>nomatch e⟩
 | ref p=>
  cases r;rcases ty with ⟨rfl,xs,hq⟩ | ⟨rfl,⟨o,hk,hc,hd⟩ | ⟨xs,hq⟩⟩ | ⟨rfl,hk⟩ | ⟨rfl,S,n,hk⟩
  ·obtain ⟨its,_,pl,_⟩:=I.list hq;refine ⟨pl.isList.typeIs,fun a e=>?_⟩;cases e;obtain ⟨o,n,e,c,hd,_⟩:=pl;exact ⟨o,e,hd⟩
  ·refine ⟨⟨o,I.kIn p o hk,hc⟩,fun a e=>?_⟩;cases e;exact ⟨o,I.kIn _ o hk,hd⟩
  ·obtain ⟨_,its,_,o,e,c,_,hd⟩:=I.hok p _ hq;refine ⟨⟨o,e,c⟩,fun a e2=>?_⟩;cases e2;exact ⟨o,e,hd⟩
  ·have z:∃ o,s.heap.get? p = some o /\ o.ExactDict:=by
    rcases hk with ⟨kvs,hk⟩ | ⟨kvs,hk⟩
    ·obtain ⟨_,_,_,_,o,_,_,e,ex,_⟩:=I.hok p _ hk;exact ⟨o,e,ex⟩
    ·obtain ⟨_,_,_,_,o,_,_,e,ex,_⟩:=I.hok p _ hk;exact ⟨o,e,ex⟩
   obtain ⟨o,e,ex⟩:=z;refine ⟨⟨o,e,ex.1⟩,fun a e2=>?_⟩;cases e2;exact ⟨o,e,ex.2.1⟩
  ·obtain ⟨o,_,_,_,e,ex,_⟩:=I.hok p _ hk;refine ⟨⟨o,e,ex.1⟩,fun a e2=>?_⟩;cases e2;exact ⟨o,e,ex.2.1⟩
 | _=>exact False.elim ty
def tBM (K:PySem.W.Frag) (T:String) (r:V -> List V -> Hp -> VK -> Prop) (to:TE) (t:TA):TE:=fun σ H Q=>to σ H fun x H1=>tyV K T x H1 /\ t σ H1 fun xs H2=>r x xs H2 Q
variable {o e:Expr} {es:List Expr} {to:TE} {t:TA} {name:Str} {apos cpos:Pos} {T id:String} {r:V -> List V -> Hp -> VK -> Prop}
theorem zFm (pa:PlainAttrs T) (slot:Slot T name id) (hty:typeOf (.builtin id) = pure (.type "method_descriptor")) (hm:MtR X id r) (ho:PE X o to) (ha:PA X (e :: es) t)
  (hbase:attributeBase o name X.env (eval o X.env) = eval o X.env:=by rfl)
  (hfew:((backTo cpos (starEach (e :: es) X.env)).all (fun x=> !x.1) && (backToKw cpos (keywordEach [] X.env)).all (fun x=>x.1.isSome)
   && decide ((e :: es).length + ([]:List Keyword).length + (if ([]:List Keyword).isEmpty then 0 else 1) < 30)) = true:=by rfl)
  (hline:(apos.endLine == cpos.line) = true:=by rfl) (hs:starEach (e :: es) X.env = (false,eval e X.env) :: starEach es X.env:=by rfl) (hplain:(backTo cpos (starEach es X.env)).any (·.1) = false:=by rfl) :
  PE X (.Call (.Attribute o name apos) (e :: es) [] cpos) (tBM X.K T r to t):=by
 intro zB s σ H Q I h;refine wpAny_Call_method_late hbase hfew hline rfl (thn (ho zB s σ H _ I h) fun v s1 ⟨x,H1,I1,r1,ty,q1⟩=>?_);obtain ⟨h1,h2⟩:=zLU I1 r1 ty;refine ⟨T,id,pa,slot,hty,h1,h2,?_⟩;have hA:=ha cpos zB s1 σ H1 _ I1 q1;rw [hs] at hA ⊢;refine Calls.callWith_builtin (by show (false || (backTo cpos (starEach es X.env)).any (·.1)) = false; rw [hplain] <;> rfl) (Calls.evalArgs_plain ?_);exact thn hA fun us s2 ⟨vs,H2,I2,r2,q2⟩=>hm zB s2 σ H2 x vs v us Q I2 r1 r2 q2
end
def MtM (X:Cx) (id:String) (r:V -> List V -> Hp -> VK -> Prop):Prop :=
 ∀ (zB:List (Addr × Obj)) (s:Shared) (σ:St) (H:Hp) (x:V) (xs:List V) (v:Value) (us:List Value) (Q:VK),Inv X zB σ H s -> zw x v -> zW xs us -> r x xs H Q ->
  wpAny (model X.prog X.w) X.A (call (.builtin id) (v :: us)) (EP X zB σ Q) X.xe s
theorem zW.one:∀ {x:V} {us:List Value},zW [x] us -> ∃ u,us = [u] /\ zw x u
 | _,_,.cons r .nil=>⟨_,rfl,r⟩
theorem zW.zero:∀ {us:List Value},zW [] us -> us = []
 | _,.nil=>rfl
theorem zW.eraseIdx:∀ {xs:List V} {us:List Value} (i:Nat),zW xs us -> zW (xs.eraseIdx i) (us.eraseIdx i)
 | _,_,_,.nil=> .nil
 | _,_,0,.cons _ t=>t
 | _,_,i + 1,.cons r t=> .cons r (zW.eraseIdx i t)
theorem zEO {α:Type}:∀ (l:List α) (i:Nat),(l.eraseIdx i).length <= l.length
 | [],_=>zNx _
 | _ :: _,0=>Nat.le_succ _
 | _ :: r,i + 1=>Nat.succ_le_succ (zEO r i)
section
variable {X:Cx} {zB:List (Addr × Obj)} {σ:St} {H:Hp} {s:Shared} {l b:Addr} {xs ys zs:List V}
theorem Inv.lset {its its':List Value} {n:Nat} {f:Array Value -> Array Value} {t':Nat} (I:Inv X zB σ H s) (hH:H l = some (.lst xs))
  (e:s.heap.get? l = some { cls:=.type "list", data:=.seq its.toArray n }) (hf:f its.toArray = its'.toArray) (hv:zW ys its') (hz:ys.length <= sizeLine) :
  Inv X zB σ (upd H l (.lst ys)) { s with heap:=s.heap.update l (Obj.mapSeq f),toks:=t' }:=by
 have q:=PySem.IsL.update e f;rw [hf] at q;refine I.write (x:=l) (e:=l) (by rw [hH]; exact trivial) (.inl rfl) (fun b' u hb hu=>(Heap.get?_update_other s.heap (Obj.mapSeq f) (Ne.symm hb)).trans hu) ⟨_,q⟩ ?_;exact ⟨hz,its',_,hv,q⟩
theorem Inv.lstM (I:Inv X zB σ H s) (hH:H l = some (.lst xs)):xs.length <= sizeLine /\ ∃ (its:List Value) (n:Nat),zW xs its /\ xs.length = its.length /\ s.heap.get? l = some { cls:=.type "list", data:=.seq its.toArray n }:=by
 obtain ⟨z,its,n,r,e⟩:=I.hok l _ hH;exact ⟨z,its,n,r,r.length,e⟩
end
section
variable {X:Cx}
def zHD:V -> List V -> Hp -> VK -> Prop:=fun x vs H Q=>∃ l xs y,x = .ref l /\ vs = [y] /\ H l = some (.lst xs) /\ xs.length < sizeLine /\ Q .non (upd H l (.lst (xs ++ [y])))
theorem zHj:MtM X "list.append" zHD:=by
 intro zB s σ H x vs v us Q I rx rv h;obtain ⟨l,xs,y,rfl,rfl,hH,hz,q⟩:=h;cases rx;obtain ⟨u,rfl,ru⟩:=rv.one;obtain ⟨z,its,n,r,hl,e⟩:=I.lstM hH;refine call_meets F.slot_list_append ⟨_,e,rfl⟩ F.entry_list_append (F.args_list_append_2 _ _) (PySem.list_append l its.toArray n u (by rw [zNz]; omega)) ⟨e,?_⟩;refine ⟨.non,_,I.lset (its':=its ++ [u]) hH e (by simp) (r.append (.cons ru .nil)) ?_,rfl,q⟩;rw [zN7,List.length_singleton];omega
def zIj:V -> List V -> Hp -> VK -> Prop:=fun x vs H Q=>∃ l xs i k y,x = .ref l /\ vs = [.int i] /\ H l = some (.lst xs) /\ -(2 ^ 63) <= i /\ i < 2 ^ 63 /\ seqIndex? i xs.length = some k /\ xs[k]? = some y /\ Q y (upd H l (.lst (xs.eraseIdx k)))
theorem zI8:MtM X "list.pop" zIj:=by
 intro zB s σ H x vs v us Q I rx rv h;obtain ⟨l,xs,i,k,y,rfl,rfl,hH,h1,h2,hk,hy,q⟩:=h;cases rx;obtain ⟨u,rfl,ru⟩:=rv.one;obtain ⟨t,rfl⟩:=ru;obtain ⟨z,its,n,r,hl,e⟩:=I.lstM hH;obtain ⟨w,hw,rw'⟩:=r.get hy
 refine call_meets F.slot_list_pop ⟨_,e,rfl⟩ F.entry_list_pop (F.args_list_pop_2 _ _)
  (MeetsSeq.list_pop_at l its.toArray n i t k w (fitsIndex_both h1 h2) (by rw [zNz,<- hl]; exact hk) (by rw [<- Array.getElem?_toList]; exact hw) (by rw [zNz]; omega)) ⟨e,?_⟩
 refine ⟨y,_,I.lset (its':=its.eraseIdx k) hH e ?_ (r.eraseIdx k) ?_,rw',q⟩
 ·show its.toArray.eraseIdxIfInBounds k = (its.eraseIdx k).toArray;rw [List.eraseIdxIfInBounds_toArray]
 ·have:=zEO xs k;omega
end
end L2
namespace Att
open PySem PySem.W PySem.Calls PyProof.Rows
theorem zDF {P:Params} {h:Heap}:∀ (ns:List Int) (vs:List Value),WellAll P h vs (ns.map WData.int) -> IntsAre vs ns:=by
 intro ns;induction ns with
 | nil=>
  intro vs w;rw [List.map_nil] at w;cases w;exact .nil
 | cons n ns ih=>
  intro vs w;rw [zOA] at w;cases w with
  | cons a b=>
   cases a;exact .cons _ _ (ih _ b)
theorem zHS {l:OpenLaw} {n:Nat} (hn:l.most = some n) {P:Params} {h:Heap} {args:List WData} {vals:List Value}
  (hpre:l.row.toRowW.claim.pre args = true) (hwl:WellAll P h vals args) :
  ∃ a vs ns,vals = [Value.ref a] /\ args = [WData.list (ns.map WData.int)] /\ h.get? a = some { cls:=.type "list", data:=.seq vs.toArray } /\ IntsAre vs ns /\ ns.length <= n:=by
 have hsh:WShape.hasAll [] args [.list .int] = true:=(pre_splitW hpre).1;have hc:l.pre.holds [] { args:=args } = true:=(pre_splitW hpre).2;obtain ⟨d,r,rfl,h1,h2⟩:=hasAllW_cons hsh;obtain rfl:=hasAllW_nil h2;obtain ⟨xs,rfl,h3⟩:=hasW_list h1;obtain ⟨ns,rfl⟩:=items_int h3;have hlen:ns.length <= n:=by
  unfold OpenLaw.pre at hc;have h4:(WTm.not (.lt (.lit (.int (n:Int))) (.len (.arg 0)))).holds [] { args:=[.list (ns.map .int)] } = true:=by
   have h4:=(holds_andW hc).1;rw [hn] at h4;exact h4
  have h5:=condW_of h4 (w_not (w_lt w_lit (w_len_list (w_arg rfl))));rw [zN0] at h5;refine Nat.le_of_not_lt fun q=>?_;have q':(n:Int) < ((ns.length:Nat):Int):=by omega
  first
   | (rw [zOz q'] at h5; exact absurd h5 (by decide))
   | (simp at h5; omega)
 cases hwl with
 | cons w1 w2=>
  cases w2;cases w1 with
  | list ho hall=>exact ⟨_,_,ns,rfl,rfl,ho,zDF ns _ hall,hlen⟩
theorem zHX (l:OpenLaw) (args:List WData):l.row.toRowW.claim.post args (.bool true) args = true :=
 postW_of (r:=l.row.toRowW) (X:=(true == true))
  (show WShape.has [] (.bool true) .bool = true by first | rfl | decide | simp [WShape.has,WShape.arms,WShape.armsAll])
  (show (WTm.eq .res (.lit (.bool true))).value [] { args:=args,res:=some (.bool true),after:=args } = some (.bool (true == true)) from w_eq_bool (w_res rfl) w_lit) rfl
theorem zFG {l:OpenLaw} {n:Nat} {q:Program} {loose:List Str} {XP:(Str -> Option Value) -> Heap -> Prop} {YP:World -> Heap -> Prop} {d:DefRec}
  (hn:l.most = some n) (hdf:d.params.defaults = [])
  (call:∀ (w:World) (s₀ s₁:Shared) (mg mb:Str -> Option Value) (fa:Addr) (o:Obj) (pm cd doc:Value) (a:Addr) (vs:List Value) (ns:List Int),
   Ground q loose [] XP w s₀ mg mb s₁.heap -> YP w s₁.heap ->
   s₁.heap.get? fa = some o -> o.data = .func (docDef d.name d.params d.body d.scope pm cd doc) -> s₁.heap.CodeRec cd d.name -> mg d.name = some (.ref fa) ->
   s₁.heap.get? a = some { cls:=.type "list", data:=.seq vs.toArray } -> IntsAre vs ns -> ns.length <= n -> s₁.gens = #[] ->
   codeAny (model l.prog w) callerA (.call (.ref fa) ⟨[.ref a],[]⟩) (fun r s'=>r = .ok (.ret (.bool true)) /\ OldK s₁.heap s'.heap /\ s'.os = s₁.os /\ AllBare s'.gens) s₁) :
  WalkO q loose XP YP l.row.toRowW d [] (fun f vs=>PySem.call f vs):=by
 intro w s₀ s₁ mg mb G Y fa o pm cd doc dV kV ho hd hcd hD hmg hg args vals as hpre hlay hrd hwl hlo;obtain rfl:dV = .none:=Dflts.none hD hdf;obtain rfl:kV = .none:=Dflts.noKw hD;obtain ⟨a,vs,ns,rfl,rfl,hobj,hints,hlen⟩:=zHS hn hpre hwl;refine enter_call (codeAny_mono (call w s₀ s₁ mg mb fa o pm cd doc a vs ns G Y ho (fd_plain hd) hcd hmg hobj hints hlen hg) fun r s' hq=>?_);obtain ⟨rfl,h2,h3,h4⟩:=hq;exact ⟨.inl ⟨.bool true,.bool true,[],rfl,fun _=>rfl,.bool true,zHX l _,fun _=>⟨List.Pairwise.nil,fun _ hm=>(nomatch hm)⟩⟩,h2,h3,h4⟩
end Att
namespace L2
open PySem PySem.Spec PyProof.Rows
theorem zEM:∀ {vs:List Value} {ns:List Int},IntsAre vs ns -> zW (ns.map V.int) vs
 | _,_,.nil=> .nil
 | _,_,.cons n t h=> .cons ⟨t,rfl⟩ (zEM h)
def zKE (H:Hp):Prop:=∀ b,H b = none \/ ∃ o xs,H b = some (.frz o (.lst xs))
theorem zIX {P:Program} {w:World} {K:PySem.W.Frag} {mg mb:Str -> Option Value} {CX:CXT} {k:Nat} {fa a:Addr} {fd:FuncData} {x:Str} {sp:Sp} {s₁:Shared} {vs:List Value} {ns:List Int}
  (KX:K.In s₁.heap) (hns:s₁.heap.Ns mainGlobals mg) (hb:s₁.heap.Ns builtinsNs mb) (hbb:∀ x:Str,x ≠ "__name__" -> mb x = bootBuiltins x) (hlim:s₁.heap.NoLimit) (hbm:BMn mg s₁.heap) (hg:s₁.gens = #[])
  (ha:s₁.heap.get? a = some { cls:=.type "list", data:=.seq vs.toArray }) (hi:IntsAre vs ns) (hl:ns.length <= sizeLine) (hr:Room k callerA)
  (F:∀ base:Heap,K.In base -> base.Ns mainGlobals mg -> FnOk P w K mg base CX k fa fd [x] sp) (hbind:∀ (s:Shared) (u:Value),BindsTo s fd ⟨[u],[]⟩ [(x,u)])
  (hsp:∀ H:Hp,zKE H -> SqL K H a (ns.map V.int) -> sp [.ref a] H (fun v _=>v = .bl true) fun _ _ _=>False)
  (hCX:∀ H e s',CX [] H s₁ (fun _ _ _=>False) e s' -> False) :
  codeAny (model P w) callerA (.call (.ref fa) ⟨[.ref a],[]⟩) (fun r s'=>r = .ok (.ret (.bool true)) /\ OldK s₁.heap s'.heap /\ s'.os = s₁.os /\ AllBare s'.gens) s₁:=by
 have rv:=zEM hi;have lenV:=hi.length
 have core:∀ H:Hp,zKE H -> SqL K H a (ns.map V.int) -> HOk P w H s₁.heap -> (∀ b,H b ≠ none -> b = a) -> (H a ≠ none -> K.lookup a = none) ->
   codeAny (model P w) callerA (.call (.ref fa) ⟨[.ref a],[]⟩) (fun r s'=>r = .ok (.ret (.bool true)) /\ OldK s₁.heap s'.heap /\ s'.os = s₁.os /\ AllBare s'.gens) s₁:=by
  intro H hO hS hok hA hK;have base_of:∀ {b:Addr} {o:Obj},s₁.heap.get? b = some o -> H b = none -> (zD9 s₁.heap H).get? b = some o:=fun e n=>zJT e n;have noA:∀ {b:Addr} {o:Obj} {es:Array DictEntry} {ep:Nat},s₁.heap.get? b = some o -> o.data = .dict es ep -> H b = none:=fun {b o es ep} e d=>by
   cases q:H b with
   | none=>rfl
   | some u=>
    have e':b = a:=hA b (by rw [q]; simp);subst e';rw [ha] at e; cases e;have d':Data.seq vs.toArray _ = Data.dict es ep:=d;cases d'
  have nsK:∀ {b:Addr} {m:Str -> Option Value},s₁.heap.Ns b m -> (zD9 s₁.heap H).Ns b m:=fun {b m} ⟨o,es,ep,e,d,r⟩=>⟨o,es,ep,base_of e (noA e d),d,r⟩;have hKb:K.In (zD9 s₁.heap H):=fun b o e=>base_of (KX b o e) (by
   cases q:H b with
   | none=>rfl
   | some u=>
    have e':b = a:=hA b (by rw [q]; simp);subst e';rw [hK (by rw [q]; simp)] at e; cases e)
  have bmK:BMn mg (zD9 s₁.heap H):=by
   obtain ⟨bm,ob,b1,b2,b3,b4⟩:=hbm;refine ⟨bm,ob,b1,b2,base_of b3 ?_,b4⟩;cases q:H bm with
   | none=>rfl
   | some u=>
    have e':bm = a:=hA bm (by rw [q]; simp);subst e';rw [ha] at b3; cases b3;cases b4.2.2
  have hM:Mod K mg (zD9 s₁.heap H):=⟨hKb,nsK hns,⟨mb,nsK hb,hbb⟩,let ⟨mc,h1,h2⟩:=hlim; ⟨mc,nsK h1,h2⟩,bmK⟩;have e0:Env0 P w K mg (zD9 s₁.heap H) callerA [] s₁ H:=⟨rfl,hM,fun b o e=>zKA e,Nat.le_of_eq (zHu _ _),trivial,fun b hb=>absurd (show b ∈ ([]:List Addr) from hb) (by simp),hok,.of_eq hg⟩;refine codeAny_mono ((F _ hKb (nsK hns)).run callerA [] s₁ H ⟨[.ref a],[]⟩ [.ref a] [.ref a] _ _ hr e0 (hbind s₁ (.ref a)) (.cons rfl .nil) (hsp H hO hS)) fun r s' h=>?_;cases r with
  | error e=>exact (hCX H e s' h).elim
  | ok fl=>
   cases fl with
   | next=>exact False.elim h
   | brk=>exact False.elim h
   | cont=>exact False.elim h
   | ret u=>
    obtain ⟨v,H',os,bare,un,hok',r',q⟩:=h;have q':v = .bl true:=q;subst q';obtain rfl:u = Value.bool true:=r';refine ⟨rfl,OldK.of_keep fun b o e=>?_,os,bare⟩;cases q:H b with
    | none=>exact un.keep b o e q (by intro z; exact absurd (show b ∈ ([]:List Addr) from z) (by simp)) (by simp)
    | some u=>
     rcases hO b with z | ⟨ob,xs,z⟩
     ·rw [q] at z; cases z
     ·have z2:=un.frzs b ob _ z;obtain ⟨e1,_⟩:=hok b _ z;obtain ⟨e2,_⟩:=hok' b _ z2;rw [e] at e1; cases e1;exact e2
 cases hk:K.lookup a with
 | some o=>
  have e:=KX a o hk;rw [ha] at e;cases e;refine core (fun _=>none) (fun _=> .inl rfl) (.inr ⟨_,vs.toArray,_,hk,rfl,rfl,rfl,by rw [zNz,lenV]; exact hl,by simpa using rv⟩) (fun b u z=>by have z':(none:Option HO) = some u:=z; cases z') (fun b z=>absurd rfl z) fun z=>absurd rfl z
 | none=>
  refine core (fun b=>if b = a then some (.frz { cls:=.type "list", data:=.seq vs.toArray } (.lst (ns.map V.int))) else none) (fun b=>?_) (.inl (.inr ⟨{ cls:=.type "list", data:=.seq vs.toArray },zN6 rfl⟩)) (fun b u z=>?_) (fun b z=>?_) fun _=>hk
  ·by_cases hb:b = a
   ·exact .inr ⟨_,_,zN6 hb⟩
   ·exact .inl (zN9 hb)
  ·by_cases hb:b = a
   ·have z':=(zN6 hb).symm.trans z;cases z';subst hb;exact ⟨ha,by rw [zN0]; exact hl,vs,_,rv,ha⟩
   ·have z':=(zN9 hb).symm.trans z;cases z'
  ·by_cases hb:b = a
   ·exact hb
   ·exact absurd (zN9 hb) z
theorem zKc {l:PySem.W.OpenLaw} {n k:Nat} {q:Program} {loose:List Str} {XP:(Str -> Option Value) -> Heap -> Prop} {YP:World -> Heap -> Prop} {d:DefRec} {K:Params -> PySem.W.Frag} {CX:World -> CXT} {sp:World -> Sp} {x:Str}
  (hn:l.most = some n) (hn2:n <= sizeLine) (hdf:d.params.defaults = []) (hr:Room k callerA)
  (hY:∀ (w:World) (h:Heap),YP w h -> (K w.params).In h)
  (F:∀ (w:World) (mg:Str -> Option Value) (fa:Addr) (h:Heap),(K w.params).In h -> h.Ns mainGlobals mg -> mg d.name = some (.ref fa) ->
   ∃ fd:FuncData,(∀ (s:Shared) (u:Value),BindsTo s fd ⟨[u],[]⟩ [(x,u)]) /\
    ∀ base:Heap,(K w.params).In base -> base.Ns mainGlobals mg -> FnOk l.prog w (K w.params) mg base (CX w) k fa fd [x] (sp w))
  (hsp:∀ (w:World) (H:Hp) (a:Addr) (ns:List Int),ns.length <= n -> zKE H -> SqL (K w.params) H a (ns.map V.int) -> sp w [.ref a] H (fun v _=>v = .bl true) fun _ _ _=>False)
  (hCX:∀ (w:World) (H:Hp) (s:Shared) (e:Value) (s':Shared),CX w [] H s (fun _ _ _=>False) e s' -> False) :
  PySem.W.WalkO q loose XP YP l.row.toRowW d [] (fun f vs=>PySem.call f vs):=by
 refine Att.zFG hn hdf fun w s₀ s₁ mg mb fa o pm cd doc a vs ns G Y ho hd hcd hmg hobj hints hlen hg=>?_;have KX:=hY w _ Y;obtain ⟨fd,hb,hF⟩:=F w mg fa _ KX G.T.g hmg;exact zIX KX G.T.g G.T.b G.T.builtins G.T.nolimit G.T.bmain hg hobj hints (zOI hlen hn2) hr hF hb (fun H hO hS=>hsp w H a ns hlen hO hS) fun H e s'=>hCX w H s₁ e s'
def zBy (s:Stmt):Arguments:=match s with
 | .FunctionDef _ a _ _ _ _ _ _ _ _=>a
 | _=>{ posonlyargs:=[],args:=[],vararg:=none,kwonlyargs:=[],kw_defaults:=[],kwarg:=none,defaults:=[] }
def zAq (s:Stmt):List Stmt:=match s with
 | .FunctionDef _ _ b _ _ _ _ _ _ _=>b
 | _=>[]
def zI (s:Stmt):Scope:=match s with
 | .FunctionDef _ _ _ _ _ _ sc _ _ _=>sc
 | _=>{ kind:=.function,names:=[],isGenerator:=false,isCoroutine:=false }
abbrev CX0:CXT:=fun _ _ _ _ _ _=>False
abbrev E0:XK:=fun _ _ _=>False
theorem zMd {X:Cx}:zGM CX0 X E0:=fun _ _ _ _ _ _ _ h=>h.elim
structure Fun (K:PySem.W.Frag) (x qual:Str) (st:Stmt) (f:Addr) (fd:FuncData):Prop where
 ex:∃ (oc:Value) (od:Option Addr) (kV doc pm:Value) (an:Option Addr) (cdv ct:Value) (osl:Array (Option Value)),
  fd = PySem.W.fnOf x qual (zBy st) (zAq st) (zI st) .none kV doc pm an cdv ct /\ K.lookup f = some ⟨oc,od,.func fd,osl⟩ /\ PySem.W.codeIn K cdv qual = true
 kp:PySem.W.keepIn K (.ref f) = true
section
variable {P:Program} {w:World} {K:PySem.W.Frag} {mg:Str -> Option Value} {base:Heap}
theorem Fun.ok {x qual:Str} {st:Stmt} {f:Addr} {fd:FuncData} {N ps:List Str} {k:Nat} {sp:Sp} (F:Fun K x qual st f fd) (S:FnScope N ps (zI st)) (len:∀ vs H Q E,sp vs H Q E -> vs.length = ps.length)
  (hbody:∀ (cdv:Value) (A:Around) (outer:List Env) (s:Shared) (H:Hp) (vs:List V) (Q:VK) (E:XK),Room k (A.deeper (envOfC qual (zI st) s.heap.objs.size f cdv)) -> sp vs H Q E ->
   ∃ t,PSs (zFa CX0 P w K mg base N qual (zI st) f cdv A outer s H E).nox (zAq st) t /\ t { nx:=fun _ H'=>Q .non H',rt:=Q } (zB3 N vs) H):FnOk P w K mg base CX0 (k + 1) f fd ps sp:=by
 obtain ⟨oc,od,kV,doc,pm,an,cdv,ct,osl,rfl,lk,hcd⟩:=F.ex;refine zKt lk hcd S len fun A outer s H vs Q E hr hsp=>?_;obtain ⟨t,h,q⟩:=hbody cdv A outer s H vs Q E hr hsp;exact ⟨t,h.nox,q⟩
theorem Fun.binds {x qual:Str} {st:Stmt} {f:Addr} {fd:FuncData} {ps:List Str} (F:Fun K x qual st f fd)
  (h:∀ (kV doc pm:Value) (an:Option Addr) (cdv ct:Value) (us:List Value),us.length = ps.length -> bindArgs (PySem.W.fnOf x qual (zBy st) (zAq st) (zI st) .none kV doc pm an cdv ct) ⟨us,[]⟩ = pure (ps.zip us)):zCW K fd ps []:=by
 obtain ⟨oc,od,kV,doc,pm,an,cdv,ct,osl,rfl,lk,hcd⟩:=F.ex;exact .all (h kV doc pm an cdv ct)
theorem zH9 {x qual:Str} {st:Stmt} {f:Addr} {oc:Value} {od an:Option Addr} {osl:Array (Option Value)} {kV doc pm cdv ct:Value} (l:K.lookup f = some ⟨oc,od,.func (PySem.W.fnOf x qual (zBy st) (zAq st) (zI st) .none kV doc pm an cdv ct),osl⟩)
  (c:PySem.W.codeIn K cdv qual = true) (k:PySem.W.keepIn K (.ref f) = true):Fun K x qual st f (PySem.W.fnOf x qual (zBy st) (zAq st) (zI st) .none kV doc pm an cdv ct):=⟨⟨oc,od,kV,doc,pm,an,cdv,ct,osl,rfl,l,c⟩,k⟩
end
section
variable {X:Cx}
theorem pv (i:Nat) {x:Str} {pos:Pos} (hN:X.N[i]? = some x:=by rfl) (hv:Vis X.env.scope x:=by first | exact Or.inl rfl | exact Or.inr (Or.inl rfl) | exact Or.inr (Or.inr rfl)) (hd:(x == ("__debug__" : Str)) = false:=by decide)
  (hcd:(x == ("__classdict__" : Str)) = false:=by decide):PE X (.Name x pos) (zML i):=zE3 hN hv hd hcd
end
theorem zFJ {A B:Prop} (h:B):if false = true then A else B:=by
 rw [zN9 zOD];exact h
theorem zFu {A B:Prop} (h:A):if true = true then A else B:=by
 rw [zN6 rfl];exact h
theorem zj:∀ (names:List (Str × NameKind)) (n:Nat) (acc:List (Str × Addr)),cellsFrom n names acc = cellsFrom n names [] ++ acc
 | [],_,_=>rfl
 | (name,kind) :: r,n,acc=>by
  unfold cellsFrom;split
  ·rw [zj r (n + 1) ((name,n) :: acc),zj r (n + 1) [(name,n)],List.append_assoc];rfl
  ·exact zj r n acc
theorem zAz {α:Type} (x:Str):∀ (l r:List (Str × α)),(l ++ r).lookup x = (match l.lookup x with | some c=>some c | none=>r.lookup x)
 | [],r=>rfl
 | (k,v) :: l,r=>by
  rw [List.cons_append,zPw,zPw];cases hb:x == k with
  | true=>rfl
  | false=>exact zAz x l r
theorem zCE:∀ (names:List (Str × NameKind)) (acc:List (Str × Addr)),
  (∀ y ∈ names,y.2 = .free -> ∃ c,env.cells.lookup y.1 = some c) ->
  (∀ x c,acc.lookup x = some c -> env.cells.lookup x = some c) ->
  ∃ cl:List (Str × Addr),(forIn names acc (fun (p:Str × NameKind) (cs:List (Str × Addr))=>(do
    if p.2 == .free then
     let a <- cellOf env p.1;pure (ForInStep.yield ((p.1,a) :: cs))
    else pure (ForInStep.yield cs):Sem (ForInStep (List (Str × Addr)))))) = pure cl /\
   (∀ x c,cl.lookup x = some c -> env.cells.lookup x = some c) /\
   (∀ x,(acc.lookup x).isSome = true -> (cl.lookup x).isSome = true) /\ ∀ y ∈ names,y.2 = .free -> (cl.lookup y.1).isSome = true
 | [],acc,_,ha=>⟨acc,by rw [List.forIn_nil],ha,fun _ h=>h,fun _ h=>nomatch h⟩
 | (n,k) :: r,acc,hf,ha=>by
  rw [List.forIn_cons];by_cases hk:k = .free
  ·subst hk;obtain ⟨c,hc⟩:=hf (n,.free) zN5 rfl;have hco:cellOf env n = pure c:=by unfold cellOf; rw [hc]
   obtain ⟨cl,e,h1,h2,h3⟩:=zCE r ((n,c) :: acc) (fun y hy=>hf y (zN4 _ hy)) (fun x d hx=>by
    rw [zPw] at hx;cases hb:x == n with
    | true=>rw [hb] at hx; cases hx; rw [beq_iff_eq.mp hb]; exact hc
    | false=>rw [hb] at hx; exact ha x d hx)
   refine ⟨cl,?_,h1,fun x hx=>h2 x ?_,fun y hy hk=>?_⟩
   ·rw [<- e];simp only [beq_self_eq_true,if_true,hco];rfl
   ·rw [zPw];cases hb:x == n with
    | true=>rfl
    | false=>exact hx
   ·rcases zN3.mp hy with z | z
    ·subst z;exact h2 n (by rw [zPw]; simp)
    ·exact h3 y z hk
  ·obtain ⟨cl,e,h1,h2,h3⟩:=zCE r acc (fun y hy=>hf y (zN4 _ hy)) ha;refine ⟨cl,?_,h1,h2,fun y hy hk'=>?_⟩
   ·rw [<- e];have:(k == NameKind.free) = false:=by simpa using hk
    simp only [this,Bool.false_eq_true,if_false];rfl
   ·rcases zN3.mp hy with z | z
    ·subst z; exact absurd hk' hk
    ·exact h3 y z hk'
theorem zEE (hf:∀ y ∈ scope.names,y.2 = .free -> ∃ c,env.cells.lookup y.1 = some c) :
  ∃ cl,closureFor scope env = pure cl /\ (∀ x c,cl.lookup x = some c -> env.cells.lookup x = some c) /\ ∀ y ∈ scope.names,y.2 = .free -> (cl.lookup y.1).isSome = true:=by
 obtain ⟨cl,e,h1,_,h3⟩:=zCE scope.names [] hf (fun x c h=>nomatch h);refine ⟨cl,?_,h1,h3⟩;unfold closureFor;rw [show (pure cl:Sem _) = pure cl >>= pure from rfl,<- e]
theorem zFX
  (hQ:Q (newEnv scope s.heap.objs.size globals (cellsFrom (s.heap.objs.size + 1) scope.names cl) qual none .none (some env) builtinsNs)
   { s with heap:=pushCells (s.heap.push { cls:=.type "dict", data:=.dict #[] }) scope.names }) :
  wpAny M A (newFunctionEnv scope globals cl [] qual none .none (some env)) Q E s:=by
 simp only [newFunctionEnv,Option.isSome_some,if_true];refine zNr (wpAny_alloc ?_);refine zNr (wpAny_layCells _ (fun name kind cells=>by cases hkc:kind == NameKind.cell <;> simp [hkc]) _ _ _ _ ?_);rw [show ({ s with heap:=s.heap.push { cls:=.type "dict", data:=.dict #[] } }:Shared).heap.objs.size = s.heap.objs.size + 1 from Heap.size_push ..];exact zNr (zNt (zNt hQ))
def zu (X:Cx) (zB:List (Addr × Obj)) (scope:Scope) (cl:List (Str × Addr)) (s:Shared) (H:Hp) (fp:List Addr):Cx where
 prog:=X.prog
 w:=X.w
 K:=X.K
 mg:=X.mg
 base:=X.base
 A:=X.A
 N:=X.N
 s₀:=s
 H₀:=H
 env:={ scope:=relabel scope X.env,locals:=s.heap.objs.size + 1,globals:=X.env.globals,cells:=cellsFrom (s.heap.objs.size + 1 + 1) scope.names cl,qual:=X.env.qual,func:=none,code:=X.env.code,frame:=X.env.frame,builtins:=X.env.builtins }
 outer:=X.stack
 stack:=X.stack
 ex:=fp
 fn:=fun x=>decide (scope.names.lookup x = some .cell)
 calm:=X.calm
 pn:=X.pn ++ zB
 xe:=fun _ _=>False
theorem zAD {scope:Scope} {env:Env} (x:Str):∀ {names:List (Str × NameKind)} {k:NameKind},
  (names.map fun (n,k)=>if (k == NameKind.free && env.scope.kind == .function && env.kindOf n == some .cell) then (n,NameKind.cell) else (n,k)).lookup x = some k ->
  names.lookup x = some k \/ (names.lookup x = some .free /\ k = .cell)
 | [],_,h=>by simp at h
 | (n,k') :: r,k,h=>by
  rw [zOA] at h;by_cases hc:(k' == NameKind.free && env.scope.kind == .function && env.kindOf n == some .cell) = true
  ·simp only [hc,if_true] at h;rw [zPw] at h ⊢;cases hb:x == n with
   | true=>
    rw [hb] at h;simp only [zOR,beq_iff_eq] at hc;exact .inr ⟨by rw [hc.1.1],(zOr h).symm⟩
   | false=>rw [hb] at h; exact zAD (scope:=scope) x h
  ·simp only [hc,Bool.false_eq_true,if_false] at h;rw [zPw] at h ⊢;cases hb:x == n with
   | true=>rw [hb] at h; exact .inl h
   | false=>rw [hb] at h; exact zAD (scope:=scope) x h
theorem zDj:∀ (names:List (Str × NameKind)) (n:Nat) (acc:List (Str × Addr)) (x:Str) (c:Addr),(x,c) ∈ cellsFrom n names acc -> (x,c) ∉ acc -> (x,NameKind.cell) ∈ names
 | [],_,_,_,_,h,h'=>absurd h h'
 | (name,kind) :: r,n,acc,x,c,h,h'=>by
  unfold cellsFrom at h;split at h
  ·rename_i hk;by_cases e:(x,c) = (name,n)
   ·cases e;rw [beq_iff_eq] at hk;subst hk;exact zN5
   ·exact zN4 _ (zDj r _ _ x c h fun z=>(zN3.mp z).elim e h')
  ·exact zN4 _ (zDj r _ _ x c h h')
structure CompScope (X:Cx) (scope:Scope):Prop where
 kind:scope.kind = .function
 names:∀ y ∈ scope.names,y.2 = .local -> scope.names.lookup y.1 = some .local
 cells:∀ y ∈ scope.names,y.2 = .cell -> scope.names.lookup y.1 = some .cell
 free:∀ y ∈ scope.names,y.2 = .free -> X.env.kindOf y.1 = some .cell \/ X.env.kindOf y.1 = some .free
section
theorem zIs (S:CompScope X scope) (I:Inv X zB σ H s) (hf:∀ b ∈ fp,zCM X zB H b) (ho:∀ b:Nat,b ∈ fp -> b < s.heap.objs.size)
  (c1:∀ x c,cl.lookup x = some c -> X.env.cells.lookup x = some c) (c2:∀ y ∈ scope.names,y.2 = .free -> (cl.lookup y.1).isSome = true)
  (hl:σc.length = σ.length) (hσ:∀ (i:Nat) x v,X.N[i]? = some x -> σc[i]? = some (some v) -> (relabel scope X.env).names.lookup x ≠ none -> scope.names.lookup x = some .free /\ σ[i]? = some (some v))
  (lo:Obj) (hlo:∀ v,lo.data ≠ .cell v) (hfr:lo.isFreed = false)
  (h4:s4 = { s with heap:=pushCells ((s.heap.push lo).push { cls:=.type "dict", data:=.dict #[] }) scope.names }) :
  Inv (zu X zB scope cl s H fp) [(s.heap.objs.size,lo)] σc H s4:=by
 subst h4;have sz1:(s.heap.push lo).objs.size = s.heap.objs.size + 1:=Heap.size_push ..;have sz2:((s.heap.push lo).push { cls:=.type "dict", data:=.dict #[] }).objs.size = s.heap.objs.size + 1 + 1:=by rw [Heap.size_push,sz1]
 have hk:∀ b o,s.heap.get? b = some o -> (pushCells ((s.heap.push lo).push { cls:=.type "dict", data:=.dict #[] }) scope.names).get? b = some o:=fun b o e=>
  pushCells_keeps _ _ b o (zNs _ (zNs _ e))
 have ok:=cellsFrom_ok scope.names ((s.heap.push lo).push { cls:=.type "dict", data:=.dict #[] }) (s.heap.objs.size + 1 + 1) [] ⟨fun _ _ hm=>(nomatch hm),List.Pairwise.nil⟩ (by rw [sz2]; exact zNx _);rw [sz2] at ok;have look:∀ x c,(cellsFrom (s.heap.objs.size + 1 + 1) scope.names cl).lookup x = some c -> ((cellsFrom (s.heap.objs.size + 1 + 1) scope.names []).lookup x = some c) \/ ((cellsFrom (s.heap.objs.size + 1 + 1) scope.names []).lookup x = none /\ X.env.cells.lookup x = some c):=fun x c e=>by
  rw [zj,zAz] at e;cases q:(cellsFrom (s.heap.objs.size + 1 + 1) scope.names []).lookup x with
  | some d=>rw [q] at e; exact .inl e
  | none=>rw [q] at e; exact .inr ⟨rfl,c1 x c e⟩
 have old:∀ x (c:Nat),X.env.cells.lookup x = some c -> c < s.heap.objs.size:=fun x c e=>let ⟨_,q⟩:=I.cell x c e; q.lt;have new:∀ x (c:Nat),(cellsFrom (s.heap.objs.size + 1 + 1) scope.names []).lookup x = some c -> s.heap.objs.size + 1 + 1 <= c:=fun x c e=>(ok.empty x c (zOt e)).2;have own:∀ x,scope.names.lookup x = some .cell -> ∃ c,(cellsFrom (s.heap.objs.size + 1 + 1) scope.names []).lookup x = some c:=fun x e=>zDw e;have cne:∀ x (c:Nat),(cellsFrom (s.heap.objs.size + 1 + 1) scope.names cl).lookup x = some c -> c < s.heap.objs.size \/ s.heap.objs.size + 1 + 1 <= c:=fun x c e=>by
  rcases look x c e with q | ⟨_,q⟩
  ·exact .inr (new x c q)
  ·exact .inl (old x c q)
 refine ⟨⟨I.ok.mod,S.kind,I.ok.glob,I.ok.blt,Nat.le_succ _,fun x y c h1 h2=>?_,fun x hx=>?_,fun x c hx h=>?_,I.ok.hd,I.ok.frames,.inl rfl,fun b hb=>⟨?_,fun x c e z=>?_⟩,I.bs,zOI I.ok.bsz I.sz,fun b o e hb=>?_,fun b hb z=>?_,I.stack,I.stkFree⟩,
  rfl,I.bare,Un.kept hk,⟨fun _=>none,?_,fun i x v h1 h2 h3=>?_⟩,fun x c e=>?_,I.hok.fresh (Nat.le_succ _),fun x c e=>?_,fun p hp=>?_,I.hok.kept hk,hl.trans I.len⟩
 ·rcases look x c h1 with a | ⟨_,a⟩ <;> rcases look y c h2 with b | ⟨_,b⟩
  ·exact name_of_addr ok.apart (zOt a) (zOt b)
  ·exact absurd (Nat.lt_of_le_of_lt (new x c a) (old y c b)) (by omega)
  ·exact absurd (Nat.lt_of_le_of_lt (new y c b) (old x c a)) (by omega)
  ·exact I.ok.inj x y c a b
 ·have hx':(relabel scope X.env).names.lookup x = some .cell \/ (relabel scope X.env).names.lookup x = some .free:=hx;have go:scope.names.lookup x = some .cell \/ scope.names.lookup x = some .free:=by
   rcases hx' with q | q
   ·rcases zAD (scope:=scope) x q with z | z
    ·exact .inl z
    ·exact .inr z.1
   ·rcases zAD (scope:=scope) x q with z | z
    ·exact .inr z
    ·exact .inr z.1
  show ∃ c,(cellsFrom (s.heap.objs.size + 1 + 1) scope.names cl).lookup x = some c;rw [zj,zAz];rcases go with q | q
  ·obtain ⟨c,e⟩:=own x q;exact ⟨c,by rw [e]⟩
  ·cases e:(cellsFrom (s.heap.objs.size + 1 + 1) scope.names []).lookup x with
   | some d=>exact ⟨d,rfl⟩
   | none=>exact Option.isSome_iff_exists.mp (c2 (x,.free) (zOt q) rfl)
 ·obtain ⟨d,e⟩:=own x (of_decide_eq_true hx);have h':(cellsFrom (s.heap.objs.size + 1 + 1) scope.names cl).lookup x = some c:=h;rw [zj,zAz,e] at h';cases h';exact zOI (zOI (Nat.le_succ _) (Nat.le_succ _)) (new x _ e)
 ·exact zOC (Nat.lt_succ_of_lt (ho b hb))
 ·rcases look x c e with q | ⟨_,q⟩
  ·have a:=new x c q;rw [z] at a;exact absurd (Nat.lt_of_le_of_lt a (ho b hb)) (by omega)
  ·exact (hf b hb).2.2.2.2.1 x c q z
 ·rcases (hf b hb).2.2.2.1 with z | z
  ·exact I.ok.noex b o e z
  ·exact absurd (zOG (zN2 e) (zOI I.ok.bsz z)) (zOZ _)
 ·rcases zN3.mp (I.stkSub b z) with q | q
  ·exact (hf b hb).2.1 q
  ·exact (hf b hb).2.2.1 q
 ·have q:((s.heap.push lo).push { cls:=.type "dict", data:=.dict #[] }).Ns (s.heap.push lo).objs.size (fun _=>none):=Heap.Ns.new ..;rw [sz1] at q;exact q.keeps (pushCells_keeps _ _)
 ·have h3':(relabel scope X.env).names.lookup x ≠ none:=by
   rcases h3 with z | z | z <;> (intro q; have z':(relabel scope X.env).names.lookup x = _:=z; rw [q] at z'; cases z')
  obtain ⟨fr,hv⟩:=hσ i x v h1 h2 h3';obtain ⟨m,hn,hlk⟩:=I.loc;have kx:=S.free (x,.free) (zOt fr) rfl;obtain ⟨u,rv,lk⟩:=hlk i x v h1 hv (by rcases kx with z | z; exact .inr (.inl z); exact .inr (.inr z));refine ⟨u,rv,?_⟩;rcases lk with ⟨z,_⟩ | ⟨_,c,e,ic⟩
  ·rcases kx with k | k <;> (rw [k] at z; cases z)
  ·have kind:(relabel scope X.env).names.lookup x = some .cell \/ (relabel scope X.env).names.lookup x = some .free:=by
    cases q:(relabel scope X.env).names.lookup x with
    | none=>exact absurd q h3'
    | some k=>
     rcases zAD (scope:=scope) x q with z | z
     ·rw [fr] at z; cases z; exact .inr rfl
     ·rw [z.2]; exact .inl rfl
   refine .inr ⟨kind,c,?_,ic.keeps hk⟩;show (cellsFrom (s.heap.objs.size + 1 + 1) scope.names cl).lookup x = some c;rw [zj,zAz];obtain ⟨d,hd⟩:=Option.isSome_iff_exists.mp (c2 (x,.free) (zOt fr) rfl);have:=c1 x d hd;rw [e] at this; cases this;have nn:(cellsFrom (s.heap.objs.size + 1 + 1) scope.names []).lookup x = none:=by
    cases q:(cellsFrom (s.heap.objs.size + 1 + 1) scope.names []).lookup x with
    | none=>rfl
    | some d'=>
     have z:=S.cells (x,.cell) (zDj scope.names _ [] x d' (zOt q) fun z=>nomatch z) rfl;rw [fr] at z; cases z
   rw [nn]; exact hd
 ·rcases look x c e with q | ⟨_,q⟩
  ·exact ⟨none,(ok.empty x c (zOt q)).1⟩
  ·obtain ⟨v,z⟩:=I.cell x c q;exact ⟨v,z.keeps hk⟩
 ·rcases look x c e with q | ⟨_,q⟩
  ·exact I.hok.fresh (by have:=new x c q; omega)
  ·exact I.freeC x c q
 ·have hp':p ∈ X.pn ++ zB \/ p = (s.heap.objs.size,lo):=by
   rcases zOH.mp hp with z | z
   ·exact .inl z
   ·exact .inr (by simpa using z)
  rcases hp' with z | z
  ·obtain ⟨e,n,ne,nf,d⟩:=I.pin p z;have lt:(p.1:Nat) < s.heap.objs.size:=zN2 e;refine ⟨hk _ _ e,n,?_,fun q=>?_,d⟩
   ·exact zOC (Nat.lt_succ_of_lt lt)
   ·rcases zN3.mp (I.stkSub _ q) with r | r
    ·exact ne r
    ·exact nf r
  ·subst z;refine ⟨pushCells_keeps _ _ _ _ (zNs _ (zN1 _ hfr)),I.hok.fresh (zNx _),?_,fun q=>?_,hlo⟩
   ·show s.heap.objs.size ≠ s.heap.objs.size + 1;omega
   ·rcases zN3.mp (I.stkSub _ q) with r | r
    ·exact absurd I.lt (by rw [<- r]; exact zOZ _)
    ·exact I.nofs (zNx _) r
end
def clr (own:List Nat) (σ:St):St:=own.foldl (fun σ i=>σ.set i none) σ
theorem zD3:∀ (own:List Nat) (σ:St),(clr own σ).length = σ.length
 | [],_=>rfl
 | i :: r,σ=>by
  show (clr r (σ.set i none)).length = _;rw [zD3 r,List.length_set]
theorem zEm:∀ (own:List Nat) (σ:St) (j:Nat) (v:V),(clr own σ)[j]? = some (some v) -> σ[j]? = some (some v) /\ j ∉ own
 | [],_,_,_,h=>⟨h,fun z=>nomatch z⟩
 | i :: r,σ,j,v,h=>by
  have h':(clr r (σ.set i none))[j]? = some (some v):=h;obtain ⟨a,b⟩:=zEm r _ j v h';rw [zPQ] at a;split at a
  ·split at a <;> cases a
  ·rename_i hne;exact ⟨a,fun z=>(zN3.mp z).elim (fun e=>hne e.symm) b⟩
def Ext (a b:St):Prop:=b.length = a.length /\ ∀ (i:Nat) v,a[i]? = some (some v) -> b[i]? = some (some v)
theorem Ext.refl (a:St):Ext a a:=⟨rfl,fun _ _ h=>h⟩
theorem Ext.set (e:Ext (clr own σ) a) (h:i ∈ own):Ext (clr own σ) (a.set i (some v)):=by
 refine ⟨by rw [List.length_set]; exact e.1,fun j u q=>?_⟩;rw [zPQ];split
 ·rename_i z;exact absurd (z ▸ h) (zEm own σ j u q).2
 ·exact e.2 j u q
def zIO (X:Cx) (ifs:List Expr) (t:TT):Prop :=
 ∀ (zB:List (Addr × Obj)) (s:Shared) (σ:St) (H:Hp) (Q:Bool -> Hp -> Prop),Inv X zB σ H s -> t σ H Q ->
  wpAny (model X.prog X.w) X.A (forIn ifs true fun c r=>if r = true then do let ok <- isTrue c X.env (eval c X.env); pure (ForInStep.yield ok) else pure (ForInStep.yield r)) (TP X zB σ Q) X.xe s
def zNV:TT:=fun _ H Q=>Q true H
theorem zI6:zIO X [] zNV:=fun _ _ _ H _ I h=>wpAny_tests_nil ⟨H,I,h⟩
theorem zJR (h:PT X c t):zIO X [c] t:=fun zB s σ H Q I hq=>wpAny_tests_one (h zB s σ H Q I hq)
section
theorem zEf (I:Nat -> Shared -> Prop)
  (turn:∀ n s,I n s -> wpAny (model prog w) A (pyNext it) (fun r s₁=>match r with
   | none=>R (.ok .next) s₁
   | some v=>wpAny (model prog w) A (letOwnedTupleGo target it v) (fun _ s₁'=>wpAny (model prog w) A (assign target env v) (fun _ s₂=>
     wpAny (model prog w) A (forIn ifs true fun c r=>if r = true then do let ok <- isTrue c env (eval c env); pure (ForInStep.yield ok) else pure (ForInStep.yield r)) (fun ok s₃=>
      if ok = true then wpAny (model prog w) A (eval elt env) (fun x s₄=>
       wpAny (model prog w) A (call (.builtin "list.append") [acc,x]) (fun _ s₅=>∃ m,m < n /\ I m s₅) (fun _ _=>False) s₄) (fun _ _=>False) s₃
      else ∃ m,m < n /\ I m s₃) (fun _ _=>False) s₂) (fun _ _=>False) s₁') (fun _ _=>False) s₁) (fun _ _=>False) s)
  (n:Nat) (h:I n s) :
  codeAny (model prog w) A (.compLoop (.ListComp elt [⟨target,iter,ifs,0⟩] scope pos) 0 it acc env) R s:=by
 refine codeAny_loop rfl I (fun n s hI=>?_) n h;show wpAny _ A ((compTurn (.ListComp elt [⟨target,iter,ifs,0⟩] scope pos) 0 it acc env).onRaise (fun x=>do noteFrame x env; theTreesLotGoes x)) _ _ s;refine wpAny_noted ?_;rw [compTurn_list];refine zNr (wpAny_standAt (zNr (zON (turn n s hI) (fun r s₁ h₁=>?_) fun _ _ h'=>h'.elim)));cases r with
 | none=>exact zNt h₁
 | some v=>
  refine zNr (zON h₁ (fun _ s₁' h₁'=>?_) fun _ _ h'=>h'.elim);refine zNr (zON h₁' (fun _ s₂ h₂=>zNr (zON h₂ (fun ok s₃ h₃=>?_) fun _ _ h'=>h'.elim)) fun _ _ h'=>h'.elim);cases ok with
  | false=>exact zNt ⟨rfl,h₃⟩
  | true=>
   exact zNr (zNr (zON h₃ (fun x s₄ h₄=>zNr (zON h₄ (fun _ s₅ h₅=>zNt (zNt ⟨rfl,h₅⟩)) fun _ _ h'=>h'.elim)) fun _ _ h'=>h'.elim))
end
def zKl (own:List Nat) (wi:TI) (g:TG) (tc:TT) (te:TE):TE:=fun σ H Q=>wi σ H fun J H1=>∃ W:Nat -> Nat -> List V -> Hp -> Prop,(∃ m,W 0 m [] H1) /\ ∀ i m ys H,W i m ys H ->
 (J.stop i H /\ ys.length <= sizeLine /\ ∀ D,H D = none -> Q (.ref D) (upd H D (.lst ys))) \/
 (J.go i H /\ ∀ x H',J.yld i H x H' -> g x (clr own σ) H' fun σ2 H2=>Ext (clr own σ) σ2 /\ tc σ2 H2 fun b H3=>
  if b = true then te σ2 H3 fun v H4=>ys.length < sizeLine /\ ∃ m',m' < m /\ W (i + 1) m' (ys ++ [v]) H4 else ∃ m',m' < m /\ W (i + 1) m' ys H3)
abbrev zAE (its:List Value) (n:Nat):Obj:={ cls:=.type "list", data:=.seq its.toArray n }
section
theorem Inv.repin (I:Inv X (pl ++ [(D,o)]) σ H s) (hpl:∀ p ∈ X.pn ++ pl,p.1 ≠ D) (hs:Heap.SameBut D s.heap h') (hD:X.s₀.heap.objs.size <= D) (hc:∀ x c,X.env.cells.lookup x = some c -> c ≠ D)
  (e:h'.get? D = some o') (hn:∀ v,o'.data ≠ .cell v):Inv X (pl ++ [(D,o')]) σ H { s with heap:=h' }:=by
 obtain ⟨e0,n0,ne0,nf0,d0⟩:=I.pin (D,o) (by simp);have I1:Inv X pl σ H s:=I.pins_of fun p hp=>I.pin p (by simp [hp]);have I2:Inv X pl σ H { s with heap:=h' }:=I1.turned (fun b u hb q=>hs.extBut b u hb q) n0 ne0 (.inr hD) hc hpl;exact I2.pins_of fun p hp=>by
  rcases zOH.mp hp with z | z
  ·exact I2.pin p (zOB _ z)
  ·have:p = (D,o'):=by simpa using z
   subst this;exact ⟨e,n0,ne0,nf0,hn⟩
end
section
variable {pos:Pos}
 {own:List Nat} {g:TG} {tc:TT} {te:TE} {E:Value -> Shared -> Prop}
structure CompIn (X:Cx) (scope:Scope) (own:List Nat):Prop where
 sc:CompScope X scope
 nm:∀ (i:Nat) x,X.N[i]? = some x -> i ∈ own \/ scope.names.lookup x = none \/ scope.names.lookup x = some .free
theorem zEx (x:Str) (h:scope.names.lookup x = none):(relabel scope env).names.lookup x = none:=by
 cases q:(relabel scope env).names.lookup x with
 | none=>rfl
 | some k=>
  rcases zAD (scope:=scope) x q with z | z
  ·rw [h] at z; cases z
  ·rw [h] at z; cases z.1
theorem zF8 (C:CompIn X scope own) (hcalm:X.calm = true) (I:Inv X zB σ H s) (T:Turn X.prog X.w X.K tg J fp it tn) (st:tn 0 s.heap) (hf:∀ b ∈ fp,zCM X zB H b)
  (c1:∀ x c,cl.lookup x = some c -> X.env.cells.lookup x = some c) (c2:∀ y ∈ scope.names,y.2 = .free -> (cl.lookup y.1).isSome = true)
  (hg:PG (zu X zB scope cl s H fp) tg g) (hi:zIO (zu X zB scope cl s H fp) ifs tc) (he:PE (zu X zB scope cl s H fp) elt te)
  {RR:Value -> Addr -> Result -> Shared -> Prop} {QQ:List V -> Hp -> Prop} {W:Nat -> Nat -> List V -> Hp -> Prop} {m0:Nat} (w0:W 0 m0 [] H)
  (turn:∀ i m ys H,W i m ys H -> (J.stop i H /\ ys.length <= sizeLine /\ QQ ys H) \/
   (J.go i H /\ ∀ x H',J.yld i H x H' -> g x (clr own σ) H' fun σ2 H2=>Ext (clr own σ) σ2 /\ tc σ2 H2 fun b H3=>
    if b = true then te σ2 H3 fun v H4=>ys.length < sizeLine /\ ∃ m',m' < m /\ W (i + 1) m' (ys ++ [v]) H4 else ∃ m',m' < m /\ W (i + 1) m' ys H3))
  (fin:∀ σc H' s' its n ys,Inv (zu X zB scope cl s H fp) [(s.heap.objs.size,zAE its n)] σc H' s' -> zW ys its -> ys.length <= sizeLine -> QQ ys H' -> RR (.ref s.heap.objs.size) (s.heap.objs.size + 1) (.ok .next) s') :
  wpAny (model X.prog X.w) X.A (newList []) (fun acc s₃=>wpAny (model X.prog X.w) X.A (newFunctionEnv scope X.env.globals cl [] X.env.qual none .none (some X.env)) (fun cenv s₄=>
   codeAny (model X.prog X.w) X.A (.compStart (.ListComp elt [⟨tg,iter,ifs,0⟩] scope pos) 0 (.ref it) acc { cenv with scope:=relabel scope X.env }) (RR acc cenv.locals) s₄) E s₃) E s:=by
 have ob:∀ b:Nat,b ∈ fp -> b < s.heap.objs.size:=fun b hb=>let ⟨_,e,_⟩:=T.obj 0 _ st b hb; zN2 e;refine zOK (zFX ?_);have sz1:(s.heap.push (zAE [] 0)).objs.size = s.heap.objs.size + 1:=Heap.size_push ..;have I4:=zIs C.sc I hf ob c1 c2 (zD3 own σ) (fun i x v h1 h2 h3=>by
  obtain ⟨a,b⟩:=zEm own σ i v h2;rcases C.nm i x h1 with z | z | z
  ·exact absurd z b
  ·exact absurd (zEx x z) h3
  ·exact ⟨z,a⟩) (zAE [] 0) (by intro v z; cases z) rfl rfl
 have st4:tn 0 (pushCells ((s.heap.push (zAE [] 0)).push { cls:=.type "dict", data:=.dict #[] }) scope.names):=T.keep 0 _ _ st fun b _ o e=>pushCells_keeps _ _ b o (zNs _ (zNs _ e));unfold newEnv;rw [sz1];have hDfp:s.heap.objs.size ∉ fp:=fun z=>zOZ _ (ob _ z);have hcD:∀ x c,(zu X zB scope cl s H fp).env.cells.lookup x = some c -> c ≠ s.heap.objs.size:=fun x c e z=>by
  obtain ⟨v,o,ho,hd⟩:=I4.cell x c e;obtain ⟨q,_⟩:=I4.pin (s.heap.objs.size,zAE [] 0) (by simp);rw [z,q] at ho;cases ho; cases hd
 have fpk:∀ {H':Hp} {pl:List (Addr × Obj)},(∀ b ∈ fp,H' b = none) -> (∀ p ∈ pl,p.1 = s.heap.objs.size) -> ∀ b ∈ fp,zCM (zu X zB scope cl s H fp) pl H' b:=fun {H' pl} hn hp b hb=>
  ⟨hn b hb,(I4.ok.exf b hb).1,I4.ok.exfs b hb,.inl hb,(I4.ok.exf b hb).2,fun p hq=>by
   rcases zOH.mp hq with z | z
   ·exact (hf b hb).2.2.2.2.2 p z
   ·intro e;have e2:=hp p z;rw [e] at e2;exact hDfp (e2 ▸ hb)⟩
 have loop:codeAny (model X.prog X.w) X.A (.compLoop (.ListComp elt [⟨tg,iter,ifs,0⟩] scope pos) 0 (.ref it) (.ref s.heap.objs.size) (zu X zB scope cl s H fp).env) (RR (.ref s.heap.objs.size) (s.heap.objs.size + 1))
   { s with heap:=pushCells ((s.heap.push (zAE [] 0)).push { cls:=.type "dict", data:=.dict #[] }) scope.names }:=by
  refine zEf (fun n s'=>∃ i H' ys its k,Inv (zu X zB scope cl s H fp) [(s.heap.objs.size,zAE its k)] (clr own σ) H' s' /\ zW ys its /\ tn i s'.heap /\ (∀ b ∈ fp,H' b = none) /\ W i n ys H') ?_ m0
   ⟨0,H,[],[],0,I4,.nil,st4,fun b hb=>(hf b hb).1,w0⟩
  rintro n s5 ⟨i,H5,ys,its,k,I5,r5,st5,f5,w5⟩;have pinD:∀ p ∈ [(s.heap.objs.size,zAE its k)],p.1 = s.heap.objs.size:=fun p hp=>by
   have:p = (s.heap.objs.size,zAE its k):=by simpa using hp
   rw [this]
  rcases turn i n ys H5 w5 with ⟨stop,hz,qq⟩ | ⟨go,step⟩
  ·refine thn (T.done (zu X zB scope cl s H fp) rfl rfl rfl hcalm i _ s5 _ H5 _ I5 (fpk f5 pinD) st5 stop) fun r s6 ⟨hr,I6⟩=>?_;subst hr;exact fin _ H5 s6 its k ys I6 r5 hz qq
  ·refine thn (T.item (zu X zB scope cl s H fp) rfl rfl rfl hcalm i _ s5 _ H5 _ I5 (fpk f5 pinD) st5 go) fun r s6 ⟨u,hr,h6⟩=>?_;subst hr;refine thn h6 fun _ s7 ⟨x,H7,I7,r7,y7,st7,f7⟩=>?_;have I7':=I7.pinned (fpk f7 pinD) (T.obj _ _ st7);refine thn (hg _ s7 _ H7 x u _ I7' r7 (step x H7 y7)) fun _ s8 ⟨σ8,H8,I8,x8,q8⟩=>?_;refine thn (hi _ s8 σ8 H8 _ I8 q8) fun ok s9 ⟨H9,I9,q9⟩=>?_;have back:∀ {s':Shared} {Hx:Hp},Inv (zu X zB scope cl s H fp) ([(s.heap.objs.size,zAE its k)] ++ zDf fp s7.heap) σ8 Hx s' -> tn (i + 1) s'.heap /\ ∀ b ∈ fp,Hx b = none:=fun {s' Hx} Ix=>
    ⟨T.keep _ _ _ st7 fun b hb o e=>(Ix.pin (b,o) (zOB _ (zOB _ (zBS hb e)))).1,fun b hb=>by
     obtain ⟨o,e,d⟩:=T.obj _ _ st7 b hb;exact (Ix.pin (b,o) (zOB _ (zOB _ (zBS hb e)))).2.1⟩
   cases ok with
   | false=>
    obtain ⟨m',hm,w'⟩:=q9;obtain ⟨b1,b2⟩:=back I9;exact ⟨m',hm,i + 1,H9,ys,its,k,(I9.weak (by rw [x8.1]) x8.2).unpinned,r5,b1,b2,w'⟩
   | true=>
    refine thn (he _ s9 σ8 H9 _ I9 q9) fun v s10 ⟨y,H10,I10,r10,hlt,m',hm,w'⟩=>?_;obtain ⟨b1,b2⟩:=back I10;have J10:=(I10.weak (by rw [x8.1]) x8.2).unpinned;obtain ⟨e10,n10,ne10,nf10,d10⟩:=J10.pin (s.heap.objs.size,zAE its k) (by simp);have hlen:its.toArray.size <= sizeLine:=by
     have:=r5.length;rw [zNz,<- this];exact Nat.le_of_lt hlt
    refine wpAny_list_append_plain (show s10.heap.PlainList s.heap.objs.size its.toArray from ⟨k,e10⟩) fun h' hl' hs'=>?_;obtain ⟨k',e'⟩:=hl';have e'':h'.get? s.heap.objs.size = some (zAE (its ++ [v]) k'):=by rw [e']; simp [zAE]
    refine ⟨m',hm,i + 1,H10,ys ++ [y],its ++ [v],k',?_,r5.append (.cons r10 .nil),T.keep _ _ _ b1 fun b hb o e=>hs'.extBut b o (fun z=>hDfp (z ▸ hb)) e,b2,w'⟩;refine Inv.repin (pl:=[]) J10 (fun p hp=>?_) hs' (zNx _) hcD e'' (by intro v z; cases z);rw [List.append_nil] at hp;have hp':p ∈ X.pn ++ zB:=hp;exact zOC (zN2 (I.pin p hp').1)
 exact codeAny_compStart_list loop (T.self _ 0 _ _ _ st4 loop)
end
section
theorem zIn (I:Inv X zB σ H s) (hf:∀ b ∈ fp,zCM X zB H b)
  (Ic:Inv (zu X zB scope cl s H fp) [(s.heap.objs.size,zAE its n)] σc H' s') (rv:zW ys its) (hz:ys.length <= sizeLine) (hs:Heap.SameBut (s.heap.objs.size + 1) s'.heap h') :
  Inv X zB σ (upd H' s.heap.objs.size (.lst ys)) { s' with heap:=h' } /\ H' s.heap.objs.size = none:=by
 obtain ⟨eD,nD,_⟩:=Ic.pin (s.heap.objs.size,zAE its n) (by simp);have nC:H' (s.heap.objs.size + 1) = none:=Ic.free;have eD':h'.get? s.heap.objs.size = some (zAE its n):=hs.extBut _ _ (zOC (Nat.lt_succ_self _)) eD;have lt1:∀ {b:Addr} {o:Obj},s.heap.get? b = some o -> b ≠ s.heap.objs.size + 1 /\ b ≠ s.heap.objs.size:=fun e=>⟨zOC (Nat.lt_succ_of_lt (zN2 e)),zOC (zN2 e)⟩;have tr:∀ b u,H' b = some u -> b ≠ s.heap.objs.size + 1 /\ b ≠ s.heap.objs.size:=fun b u e=>⟨fun z=>(by rw [z,nC] at e; cases e),fun z=>(by rw [z,nD] at e; cases e)⟩;refine ⟨?_,nD⟩;have B:=Ic.base;have un:Un (frs X.stack) fp H (upd H' s.heap.objs.size (.lst ys)) s.heap h':=by
  refine ⟨fun b o e q hb hx=>hs.extBut b o (lt1 e).1 (B.keep b o e q hb hx),fun b o e q hb hx=>?_,fun b o e q hx=>?_,fun b o e hx=>?_,fun b xs e=>?_,fun b o xs e=>?_,fun b ps e=>?_⟩
  ·obtain ⟨sl,e1⟩:=B.slot b o e q hb hx;exact ⟨sl,hs.extBut b _ (lt1 e).1 e1⟩
  ·rw [zX (lt1 e).2]; exact B.free b o e q hx
  ·obtain ⟨o',e1⟩:=B.there b o e hx;exact ⟨o',hs.extBut b _ (lt1 e).1 e1⟩
  ·have q:=B.tups b xs e;rw [zX (tr b _ q).2]; exact q
  ·have q:=B.frzs b o xs e;rw [zX (tr b _ q).2]; exact q
  ·obtain ⟨more,q⟩:=B.tbls b ps e;exact ⟨more,by rw [zX (tr b _ q).2]; exact q⟩
 have hok:HOk X.prog X.w (upd H' s.heap.objs.size (.lst ys)) h':=fun b u e=>by
  by_cases hb:b = s.heap.objs.size
  ·subst hb;rw [zAg] at e; cases e;exact ⟨hz,its,n,rv,eD'⟩
  ·rw [zX hb] at e;refine (Ic.hok b u e).stay (fun c v hc q=>hs.extBut c v ?_ q) (fun c q=>by rw [zX (tr c _ q).2]; exact q) fun c xs q=>by rw [zX (tr c _ q).2]; exact q
   rcases hc with z | z
   ·rw [z]; exact (tr b u e).1
   ·exact (tr c _ z).1
 exact I.call' Ic.os un hok Ic.bare fun b hb=>⟨(hf b hb).2.2.2.1,(hf b hb).2.1,(hf b hb).2.2.2.2.1,(hf b hb).2.2.2.2.2⟩
end
section
structure CompParts (X:Cx) (scope:Scope) (tg:Expr) (ifs:List Expr) (elt:Expr) (g:TG) (tc:TT) (te:TE):Prop where
 g:∀ zB cl s H fp,PG (zu X zB scope cl s H fp) tg g
 c:∀ zB cl s H fp,zIO (zu X zB scope cl s H fp) ifs tc
 e:∀ zB cl s H fp,PE (zu X zB scope cl s H fp) elt te
theorem CompScope.closure (S:CompScope X scope) (I:Inv X zB σ H s) :
  ∃ cl,closureFor scope X.env = pure cl /\ (∀ x c,cl.lookup x = some c -> X.env.cells.lookup x = some c) /\ ∀ y ∈ scope.names,y.2 = .free -> (cl.lookup y.1).isSome = true :=
 zEE fun y hy hk=>I.ok.has y.1 (S.free y hy hk)
theorem zKb (C:CompIn X scope own) (hcalm:X.calm = true) (hi:PI X tg iter wi) (p:CompParts X scope tg ifs elt g tc te) (hs:∀ x,foldedSetIterable iter X.env x = pure x:=by intro _; rfl) :
  PE X (.ListComp elt [⟨tg,iter,ifs,0⟩] scope pos) (zKl own wi g tc te):=by
 intro zB s σ H Q I h;obtain ⟨cl,hcl,c1,c2⟩:=C.sc.closure I;rw [eval_ListComp];refine wpAny_comprehension_free rfl hs hcl C.sc.kind C.sc.names (thn (hi zB s σ H _ I h) fun v s1 h1=>thn h1 fun itv s2 h2=>?_);obtain ⟨it,fp,tn,J,H2,e,I2,T,st2,f2,W,⟨m0,w0⟩,turn⟩:=h2;subst e;refine zF8 C hcalm I2 T st2 f2 c1 c2 (p.g _ _ _ _ _) (p.c _ _ _ _ _) (p.e _ _ _ _ _) w0 turn ?_;intro σc H' s' its n ys Ic rv hz qq;obtain ⟨m,hn,_⟩:=Ic.loc;refine ⟨m,hn,fun h' hs'=>?_⟩;obtain ⟨J',nD⟩:=zIn I2 f2 Ic rv hz hs';exact ⟨.ref s2.heap.objs.size,_,J',rfl,qq _ nD⟩
end
end L2
namespace L3
open PySem PySem.Spec PyProof.Rows L2
abbrev Sv:=List (Option V)
def zFN (H:Hp) (v:Value):Prop:=∃ a oc vs q t,v = .ref a /\ H a = some (.frz oc (.ext fun _=>True)) /\ oc.data = .fields vs /\ vs[1]? = some (.str q t)
structure Lm where
 f:Addr
 c:Value
 us:List V
set_option genInjectivity true in
inductive D where
 | non | bl (b:Bool) | int (i:Int) | str (x:Str) | tup (xs:List D) | ref (n:Nat) | fn (l:Lm) (ds:List D)
set_option genInjectivity true in
inductive MO where
 | lst (xs:List D) | fro (xs:List D) | dict (kvs:List (D × D)) | dicT (kvs:List (D × D)) | set (xs:List D) | froT (kvs:List (D × D)) | froK (kvs:List (D × D))
mutual
def Rep (L:List Addr) (H:Hp):D -> V -> Prop
 | .non,v=>v = .non
 | .bl b,v=>v = .bl b
 | .int i,v=>v = .int i
 | .str x,v=>v = .str x
 | .tup ds,v=>∃ a vs,v = .ref a /\ H a = some (.tup vs) /\ zG L H ds vs
 | .ref n,v=>∃ a,v = .ref a /\ L[n]? = some a
 | .fn l ds,v=>v = .ref l.f /\ zFN H l.c /\ zG L H ds l.us
def zG (L:List Addr) (H:Hp):List D -> List V -> Prop
 | [],vs=>vs = []
 | d :: ds,vs=>∃ v r,vs = v :: r /\ Rep L H d v /\ zG L H ds r
end
theorem zG.length:∀ {ds:List D} {vs:List V},zG L H ds vs -> vs.length = ds.length
 | [],_,h=>by unfold zG at h; subst h; rfl
 | d :: ds,_,h=>by
  unfold zG at h;obtain ⟨v,r,rfl,_,h2⟩:=h;simp [zG.length h2]
theorem zG.nil:zG L H [] []:=by unfold zG; rfl
theorem zG.cons (h:Rep L H d v) (t:zG L H ds vs):zG L H (d :: ds) (v :: vs):=by
 unfold zG; exact ⟨v,vs,rfl,h,t⟩
theorem zG.get:∀ {ds:List D} {vs:List V} {i:Nat} {d:D},zG L H ds vs -> ds[i]? = some d -> ∃ v,vs[i]? = some v /\ Rep L H d v
 | [],_,_,_,_,e=>by simp at e
 | d :: ds,_,0,d',h,e=>by
  unfold zG at h;obtain ⟨v,r,rfl,h1,h2⟩:=h;simp at e; subst e;exact ⟨v,rfl,h1⟩
 | d :: ds,_,i + 1,d',h,e=>by
  unfold zG at h;obtain ⟨v,r,rfl,h1,h2⟩:=h;obtain ⟨u,e1,e2⟩:=zG.get (i:=i) h2 (by simpa using e);exact ⟨u,by simpa using e1,e2⟩
theorem zG.app:∀ {ds es:List D} {vs ws:List V},zG L H ds vs -> zG L H es ws -> zG L H (ds ++ es) (vs ++ ws)
 | [],_,_,_,h,t=>by unfold zG at h; subst h; exact t
 | d :: ds,_,_,_,h,t=>by
  unfold zG at h;obtain ⟨v,r,rfl,h1,h2⟩:=h;exact .cons h1 (zG.app h2 t)
theorem zG.set (h:Rep L H d v):∀ {ds:List D} {vs:List V} (i:Nat),zG L H ds vs -> zG L H (ds.set i d) (vs.set i v)
 | [],_,_,t=>by unfold zG at t; subst t; exact .nil
 | _ :: _,_,0,t=>by
  unfold zG at t;obtain ⟨v',r,rfl,h1,h2⟩:=t;exact .cons h h2
 | _ :: _,_,i + 1,t=>by
  unfold zG at t;obtain ⟨v',r,rfl,h1,h2⟩:=t;exact .cons h1 (zG.set h i h2)
theorem zG.drop:∀ {ds:List D} {vs:List V} (n:Nat),zG L H ds vs -> zG L H (ds.drop n) (vs.drop n)
 | _,_,0,t=>t
 | [],_,n + 1,t=>by unfold zG at t; subst t; exact .nil
 | _ :: _,_,n + 1,t=>by
  unfold zG at t;obtain ⟨v',r,rfl,h1,h2⟩:=t;exact zG.drop n h2
theorem zG.take:∀ {ds:List D} {vs:List V} (n:Nat),zG L H ds vs -> zG L H (ds.take n) (vs.take n)
 | _,_,0,t=> .nil
 | [],_,n + 1,t=>by unfold zG at t; subst t; exact .nil
 | _ :: _,_,n + 1,t=>by
  unfold zG at t;obtain ⟨v',r,rfl,h1,h2⟩:=t;exact .cons h1 (zG.take n h2)
theorem zG.eraseIdx:∀ {ds:List D} {vs:List V} (n:Nat),zG L H ds vs -> zG L H (ds.eraseIdx n) (vs.eraseIdx n)
 | [],_,n,t=>by unfold zG at t; subst t; exact .nil
 | _ :: _,_,0,t=>by
  unfold zG at t;obtain ⟨v',r,rfl,h1,h2⟩:=t;exact h2
 | _ :: _,_,n + 1,t=>by
  unfold zG at t;obtain ⟨v',r,rfl,h1,h2⟩:=t;exact .cons h1 (zG.eraseIdx n h2)
theorem zFN.keep (h:∀ a o u,H a = some (.frz o u) -> H' a = some (.frz o u)) (x:zFN H v):zFN H' v :=
 let ⟨a,oc,vs,q,t,e1,e2,r⟩:=x; ⟨a,oc,vs,q,t,e1,h _ _ _ e2,r⟩
def zC2 (H:Hp) (ps:Array Value):Prop:=PySem.TriplesOk ps.toList /\ ∀ pos v,codeAmong pos ps.toList = some v -> zFN H v
theorem zC2.keep (h:∀ a o u,H a = some (.frz o u) -> H' a = some (.frz o u)) (g:zC2 H ps):zC2 H' ps :=
 ⟨g.1,fun pos v e=>(g.2 pos v e).keep h⟩
abbrev NT (o:HO):Prop:=∀ ps,o ≠ .tbl ps
structure Stp (L:List Addr) (H:Hp) (L':List Addr) (H':Hp):Prop where
 pre:∃ N,L' = L ++ N
 new:∀ a ∈ L',a ∈ L \/ H a = none
 old:∀ a o,H a = some o -> a ∉ L -> NT o -> H' a = some o
 tup:∀ a xs,H a = some (.tup xs) -> H' a = some (.tup xs)
 frz:∀ a o u,H a = some (.frz o u) -> H' a = some (.frz o u)
 tbl:∀ a ps,H a = some (.tbl ps) -> ∃ ps',H' a = some (.tbl ps') /\ (zC2 H ps -> zC2 H' ps')
theorem Stp.refl (L:List Addr) (H:Hp):Stp L H L H:=⟨⟨[],by simp⟩,fun _ h=> .inl h,fun _ _ h _ _=>h,fun _ _ h=>h,fun _ _ _ h=>h,fun _ ps h=>⟨ps,h,id⟩⟩
theorem zFt (hf:∀ a o u,H a = some (.frz o u) -> H' a = some (.frz o u)) (h:∀ a ps,H a = some (.tbl ps) -> H' a = some (.tbl ps)) :
  ∀ a ps,H a = some (.tbl ps) -> ∃ ps',H' a = some (.tbl ps') /\ (zC2 H ps -> zC2 H' ps'):=fun a ps e=>⟨ps,h a ps e,.keep hf⟩
theorem Stp.trans (a:Stp L H L1 H1) (b:Stp L1 H1 L2 H2):Stp L H L2 H2:=by
 obtain ⟨N,rfl⟩:=a.pre;obtain ⟨N',rfl⟩:=b.pre;have back:∀ c,c ∉ L -> H1 c = none -> H c = none:=fun c hc h1=>by
  cases q:H c with
  | none=>rfl
  | some o=>
   by_cases z:NT o
   ·rw [a.old c o q hc z] at h1; cases h1
   ·obtain ⟨ps,z⟩:=Classical.not_forall.mp z;rw [Classical.not_not.mp z] at q;obtain ⟨ps',e,_⟩:=a.tbl c ps q;rw [e] at h1; cases h1
 refine ⟨⟨N ++ N',by simp⟩,fun c hc=>?_,fun c o e hc nt=>?_,fun c xs e=>b.tup c xs (a.tup c xs e),fun c o u e=>b.frz c o u (a.frz c o u e),fun c ps e=>?_⟩
 ·by_cases hL:c ∈ L
  ·exact .inl hL
  ·rcases b.new c hc with z | z
   ·exact a.new c z
   ·exact .inr (back c hL z)
 ·refine b.old c o (a.old c o e hc nt) (fun z=>?_) nt;rcases a.new c z with q | q
  ·exact hc q
  ·rw [q] at e; cases e
 ·obtain ⟨p1,e1,g1⟩:=a.tbl c ps e;obtain ⟨p2,e2,g2⟩:=b.tbl c p1 e1;exact ⟨p2,e2,fun g=>g2 (g1 g)⟩
theorem Stp.grow (h:∀ a o,H a = some o -> H' a = some o):Stp L H L H':=⟨⟨[],by simp⟩,fun _ h=> .inl h,fun a o e _ _=>h a o e,fun a _ e=>h a _ e,fun a _ _ e=>h a _ e,zFt (fun a _ _ e=>h a _ e) fun a _ e=>h a _ e⟩
theorem Stp.upd (h:H p = none):Stp L H L (upd H p o):=.grow fun a u e=>by rw [zX (zt e h)]; exact e
theorem zDR {L N:List Addr} {n:Nat} {a:Addr} (h:L[n]? = some a):(L ++ N)[n]? = some a:=by
 rw [zNy (zNu.mp h).1]; exact h
mutual
theorem Rep.stp {L L':List Addr} {H H':Hp} (s:Stp L H L' H'):∀ {d:D} {v:V},Rep L H d v -> Rep L' H' d v
 | .non,_,h=>by unfold Rep at h ⊢; exact h
 | .bl _,_,h=>by unfold Rep at h ⊢; exact h
 | .int _,_,h=>by unfold Rep at h ⊢; exact h
 | .str _,_,h=>by unfold Rep at h ⊢; exact h
 | .tup ds,_,h=>by
  unfold Rep at h ⊢;obtain ⟨a,vs,rfl,e,r⟩:=h;exact ⟨a,vs,rfl,s.tup a vs e,zG.stp s r⟩
 | .ref n,_,h=>by
  unfold Rep at h ⊢;obtain ⟨a,rfl,e⟩:=h;obtain ⟨N,rfl⟩:=s.pre;exact ⟨a,rfl,zDR e⟩
 | .fn _ ds,_,h=>by
  unfold Rep at h ⊢;exact ⟨h.1,h.2.1.keep s.frz,zG.stp s h.2.2⟩
theorem zG.stp (s:Stp L H L' H'):∀ {ds:List D} {vs:List V},zG L H ds vs -> zG L' H' ds vs
 | [],_,h=>by unfold zG at h ⊢; exact h
 | d :: ds,_,h=>by
  unfold zG at h ⊢;obtain ⟨v,r,rfl,h1,h2⟩:=h;exact ⟨v,r,rfl,Rep.stp s h1,zG.stp s h2⟩
end
def zLP:D -> Option Key
 | .int i=>some (.inl i)
 | .str x=>some (.inr x)
 | _=>none
def zKy:List D -> Option (List Key)
 | []=>some []
 | d :: r=>match zLP d,zKy r with
  | some k,some ks=>some (k :: ks)
  | _,_=>none
def tkD:D -> Option (List Key)
 | .tup ds=>zKy ds
 | _=>none
def zA7 {κ:Type} (kf:D -> Option κ) (L:List Addr) (H:Hp):List (D × D) -> List (κ × V) -> Prop
 | [],vs=>vs = []
 | p :: r,vs=>∃ k v r',vs = (k,v) :: r' /\ kf p.1 = some k /\ Rep L H p.2 v /\ zA7 kf L H r r'
theorem zA7.stp {κ:Type} {kf:D -> Option κ} {L L':List Addr} {H H':Hp} (s:Stp L H L' H'):∀ {ps:List (D × D)} {vs:List (κ × V)},zA7 kf L H ps vs -> zA7 kf L' H' ps vs
 | [],_,h=>h
 | p :: r,_,h=>by
  obtain ⟨k,v,r',rfl,e,h1,h2⟩:=h;exact ⟨k,v,r',rfl,e,h1.stp s,zA7.stp s h2⟩
def zEn (K:PySem.W.Frag) (L:List Addr) (H:Hp) (a:Addr):MO -> Prop
 | .lst xs=>∃ vs,H a = some (.lst vs) /\ zG L H xs vs
 | .fro xs=>∃ o vs,H a = some (.frz o (.lst vs)) /\ zG L H xs vs
 | .dict ps=>∃ vs,H a = some (.dK vs) /\ zA7 zLP L H ps vs
 | .dicT ps=>∃ vs,H a = some (.dT vs) /\ zA7 tkD L H ps vs
 | .set _=>∃ o u,H a = some (.frz o u)
 | .froT ps=>∃ o vs,H a = some (.frz o (.dT vs)) /\ zA7 tkD L H ps vs
 | .froK ps=>∃ o vs,H a = some (.frz o (.dK vs)) /\ zA7 zLP L H ps vs
theorem zEn.there {K:PySem.W.Frag} {L:List Addr} {H:Hp} {a:Addr} {m:MO} (h:zEn K L H a m):∃ o,H a = some o:=by
 cases m with
 | lst xs=>obtain ⟨vs,e,_⟩:=h; exact ⟨_,e⟩
 | fro xs=>obtain ⟨o,vs,e,_⟩:=h; exact ⟨_,e⟩
 | dict ps=>obtain ⟨vs,e,_⟩:=h; exact ⟨_,e⟩
 | dicT ps=>obtain ⟨vs,e,_⟩:=h; exact ⟨_,e⟩
 | set _=>obtain ⟨o,u,e⟩:=h; exact ⟨_,e⟩
 | froT ps=>obtain ⟨o,vs,e,_⟩:=h; exact ⟨_,e⟩
 | froK ps=>obtain ⟨o,vs,e,_⟩:=h; exact ⟨_,e⟩
theorem zEn.stp {K:PySem.W.Frag} {L L':List Addr} {H H':Hp} {a:Addr} {m:MO} (s:Stp L H L' H') (hk:∀ o,NT o -> H a = some o -> H' a = some o) (h:zEn K L H a m):zEn K L' H' a m:=by
 cases m with
 | lst xs=>obtain ⟨vs,e,r⟩:=h; exact ⟨vs,hk _ (by intro _ z; cases z) e,r.stp s⟩
 | fro xs=>obtain ⟨o,vs,e,r⟩:=h; exact ⟨o,vs,hk _ (by intro _ z; cases z) e,r.stp s⟩
 | dict ps=>obtain ⟨vs,e,r⟩:=h; exact ⟨vs,hk _ (by intro _ z; cases z) e,r.stp s⟩
 | dicT ps=>obtain ⟨vs,e,r⟩:=h; exact ⟨vs,hk _ (by intro _ z; cases z) e,r.stp s⟩
 | set _=>obtain ⟨o,u,e⟩:=h; exact ⟨o,u,hk _ (by intro _ z; cases z) e⟩
 | froT ps=>obtain ⟨o,vs,e,r⟩:=h; exact ⟨o,vs,hk _ (by intro _ z; cases z) e,r.stp s⟩
 | froK ps=>obtain ⟨o,vs,e,r⟩:=h; exact ⟨o,vs,hk _ (by intro _ z; cases z) e,r.stp s⟩
def zFc:List Str:=["levels", "least_word", "word_into", "shows_least", "shows_into"]
def zHH (K:PySem.W.Frag) (H:Hp):Prop:=∀ x ∈ zFc,∀ c P,PySem.W.tabIn K x = some (c,P) -> ∃ ps,H P = some (.tbl ps) /\ zC2 H ps
theorem zHH.stp {K:PySem.W.Frag} {L L':List Addr} {H H':Hp} (s:Stp L H L' H') (t:zHH K H):zHH K H':=fun x hx c P e=>
 let ⟨ps,e1,g⟩:=t x hx c P e;let ⟨ps',e2,g2⟩:=s.tbl P ps e1
 ⟨ps',e2,g2 g⟩
structure Cor (K:PySem.W.Frag) (L:List Addr) (M:List MO) (H:Hp):Prop where
 len:L.length = M.length
 nd:L.Nodup
 obj:∀ (n:Nat) a m,L[n]? = some a -> M[n]? = some m -> zEn K L H a m
 tab:zHH K H
def zAC (L:List Addr) (H:Hp) (σ:List (Option D)) (τ:Sv):Prop:=τ.length = σ.length /\ ∀ (i:Nat) d,σ[i]? = some (some d) -> ∃ v,τ[i]? = some (some v) /\ Rep L H d v
theorem zAC.stp (s:Stp L H L' H') (h:zAC L H σ τ):zAC L' H' σ τ :=
 ⟨h.1,fun i d e=>let ⟨v,e1,r⟩:=h.2 i d e; ⟨v,e1,r.stp s⟩⟩
theorem Cor.tracked {K:PySem.W.Frag} {L:List Addr} {M:List MO} {H:Hp} (c:Cor K L M H) {a:Addr} (h:a ∈ L):∃ o,H a = some o:=by
 obtain ⟨n,hn⟩:=List.getElem?_of_mem h;have hl:n < M.length:=by rw [<- c.len]; exact (zNu.mp hn).1
 have m:=c.obj n a M[n] hn (zNv hl);exact m.there
theorem Cor.grow {K:PySem.W.Frag} {L:List Addr} {M:List MO} {H H':Hp} (c:Cor K L M H) (h:∀ a o,H a = some o -> H' a = some o):Cor K L M H':=by
 exact ⟨c.len,c.nd,fun n a m e1 e2=>(c.obj n a m e1 e2).stp (.grow h) fun o _ e=>h a o e,c.tab.stp (Stp.grow (L:=L) h)⟩
theorem Cor.upd {K:PySem.W.Frag} {L:List Addr} {M:List MO} {H:Hp} {p:Addr} {o:HO} (c:Cor K L M H) (h:H p = none):Cor K L M (upd H p o):=c.grow fun a u e=>by rw [zX (zt e h)]; exact e
theorem Cor.write {K:PySem.W.Frag} {L:List Addr} {M:List MO} {H:Hp} {n:Nat} {p:Addr} {xs xs':List D} {vs':List V} (c:Cor K L M H) (h1:L[n]? = some p) (h2:M[n]? = some (.lst xs)) (r:zG L H xs' vs') :
  Cor K L (M.set n (.lst xs')) (L2.upd H p (.lst vs')) /\ Stp L H L (L2.upd H p (.lst vs')):=by
 obtain ⟨vs,hp,_⟩:=c.obj n p _ h1 h2;have st:Stp L H L (L2.upd H p (.lst vs')):=by
  refine ⟨⟨[],by simp⟩,fun a ha=> .inl ha,fun a o e ha _=>?_,fun a o e=>?_,fun a o u e=>?_,zFt (fun a o u e=>?_) fun a ps e=>?_⟩
  ·rw [zX (show a ≠ p from fun z=>ha (by rw [z]; exact List.mem_of_getElem? h1))]; exact e
  all_goals (rw [zX (zMx e hp (by intro z; cases z))]; exact e)
 refine ⟨⟨by simp [c.len],c.nd,fun k a m e1 e2=>?_,c.tab.stp st⟩,st⟩;rw [zPQ] at e2;split at e2
 ·rename_i hk;subst hk;rw [h1] at e1; cases e1;split at e2
  ·cases e2; exact ⟨vs',zAg,r.stp st⟩
  ·cases e2
 ·rename_i hk;have hne:a ≠ p:=fun z=>hk (by
   subst z;exact (List.getElem?_inj (zNu.mp h1).1 c.nd).mp (h1.trans e1.symm))
  exact (c.obj k a m e1 e2).stp st fun o _ e=>by rw [zX hne]; exact e
set_option genInjectivity true in
inductive EV where
 | dat (d:D) | fl (xs:List D)
def zO (H0:Hp) (L:List Addr) (H:Hp):EV -> V -> Prop
 | .dat d,v=>Rep L H d v
 | .fl xs,v=>∃ p vs,v = .ref p /\ H0 p = none /\ H p = some (.lst vs) /\ p ∉ L /\ zG L H xs vs
abbrev Sd:=List (Option D)
abbrev Mem:=List MO
abbrev FE:=Sd -> Mem -> Option (EV × Mem)
abbrev FD:=Sd -> Mem -> Option (D × Mem)
abbrev FT:=Sd -> Mem -> Option (Bool × Mem)
abbrev FA:=Sd -> Mem -> Option (List D × Mem)
theorem Stp.there {L L':List Addr} {H H':Hp} (s:Stp L H L' H') {p:Addr} {o:HO} (h:H p = some o) (hp:p ∉ L):∃ o',H' p = some o':=by
  by_cases z:NT o
  · exact ⟨o,s.old p o h hp z⟩
  · obtain ⟨ps,z⟩:=Classical.not_forall.mp z
    rw [Classical.not_not.mp z] at h;obtain ⟨ps',e,_⟩:=s.tbl p ps h;exact ⟨_,e⟩
theorem Stp.out (s:Stp L H L' H') (h:H p = some o) (hp:p ∉ L):p ∉ L':=fun z=>by
 rcases s.new p z with q | q
 ·exact hp q
 ·rw [h] at q; cases q
theorem zO.stp (s:Stp L H L' H') (h:zO H0 L H e v):zO H0 L' H' e v:=by
 cases e with
 | dat d=>exact Rep.stp s h
 | fl xs=>
  obtain ⟨p,vs,rfl,e0,e1,e2,r⟩:=h;exact ⟨p,vs,rfl,e0,s.old p _ e1 e2 (by intro _ z; cases z),s.out e1 e2,r.stp s⟩
theorem zO.back {H0 H1:Hp} {L0 L1 L:List Addr} {H:Hp} (s:Stp L0 H0 L1 H1) {M:List MO} {K:PySem.W.Frag} (c:Cor K L0 M H0) {e:EV} {v:V} (h:zO H1 L H e v) (hL:∀ a ∈ L1,a ∈ L):zO H0 L H e v:=by
 cases e with
 | dat d=>exact h
 | fl xs=>
  obtain ⟨p,vs,rfl,e0,e1,e2,r⟩:=h;refine ⟨p,vs,rfl,?_,e1,e2,r⟩;cases q:H0 p with
  | none=>rfl
  | some o=>
   by_cases hp:p ∈ L0
   ·obtain ⟨N,hN⟩:=s.pre;exact absurd (hL p (by rw [hN]; exact List.mem_append_left _ hp)) e2
   ·obtain ⟨o',z⟩:=s.there q hp;rw [z] at e0; cases e0
section
variable (K:PySem.W.Frag)
def trE (f:FE):TE:=fun τ H Q=>∃ L σ M d M',Cor K L M H /\ zAC L H σ τ /\ f σ M = some (d,M') /\ ∀ L' H' v,Stp L H L' H' -> Cor K L' M' H' -> zO H L' H' d v -> Q v H'
def trD (f:FD):TE:=fun τ H Q=>∃ L σ M d M',Cor K L M H /\ zAC L H σ τ /\ f σ M = some (d,M') /\ ∀ L' H' v,Stp L H L' H' -> Cor K L' M' H' -> Rep L' H' d v -> Q v H'
def trT (f:FT):TT:=fun τ H Q=>∃ L σ M d M',Cor K L M H /\ zAC L H σ τ /\ f σ M = some (d,M') /\ ∀ L' H',Stp L H L' H' -> Cor K L' M' H' -> Q d H'
def trA (f:FA):TA:=fun τ H Q=>∃ L σ M ds M',Cor K L M H /\ zAC L H σ τ /\ f σ M = some (ds,M') /\ ∀ L' H' vs,Stp L H L' H' -> Cor K L' M' H' -> zG L' H' ds vs -> Q vs H'
end
theorem mkE {K:PySem.W.Frag} {f:FE} {τ:Sv} {H:Hp} {Q:VK} {σ:Sd} {M M':Mem} {d:EV} (c:Cor K L M H) (r:zAC L H σ τ) (e:f σ M = some (d,M')) (q:∀ L' H' v,Stp L H L' H' -> Cor K L' M' H' -> zO H L' H' d v -> Q v H'):trE K f τ H Q:=⟨_,_,_,_,_,c,r,e,q⟩
theorem mkD {K:PySem.W.Frag} {f:FD} {τ:Sv} {H:Hp} {Q:VK} {σ:Sd} {M M':Mem} {d:D} (c:Cor K L M H) (r:zAC L H σ τ) (e:f σ M = some (d,M')) (q:∀ L' H' v,Stp L H L' H' -> Cor K L' M' H' -> Rep L' H' d v -> Q v H'):trD K f τ H Q:=⟨_,_,_,_,_,c,r,e,q⟩
theorem mkT {K:PySem.W.Frag} {f:FT} {τ:Sv} {H:Hp} {Q} {σ:Sd} {M M':Mem} {d} (c:Cor K L M H) (r:zAC L H σ τ) (e:f σ M = some (d,M')) (q:∀ L' H',Stp L H L' H' -> Cor K L' M' H' -> Q d H'):trT K f τ H Q:=⟨_,_,_,_,_,c,r,e,q⟩
theorem mkA {K:PySem.W.Frag} {f:FA} {τ:Sv} {H:Hp} {Q} {σ:Sd} {M M':Mem} {ds} (c:Cor K L M H) (r:zAC L H σ τ) (e:f σ M = some (ds,M')) (q:∀ L' H' vs,Stp L H L' H' -> Cor K L' M' H' -> zG L' H' ds vs -> Q vs H'):trA K f τ H Q:=⟨_,_,_,_,_,c,r,e,q⟩
section
theorem PE.imp (h:PE X e t) (hi:∀ τ H Q,t' τ H Q -> t τ H Q):PE X e t':=fun zB s σ H Q I q=>h zB s σ H Q I (hi _ _ _ q)
theorem PT.imp (h:PT X e t) (hi:∀ τ H Q,t' τ H Q -> t τ H Q):PT X e t':=fun zB s σ H Q I q=>h zB s σ H Q I (hi _ _ _ q)
theorem PS.imp {st:Stmt} {t t':TS} (h:PS X st t) (hi:∀ D τ H,t' D τ H -> t D τ H):PS X st t':=fun zB s σ H D I q=>h zB s σ H D I (hi _ _ _ q)
theorem PSs.imp {st:List Stmt} {t t':TS} (h:PSs X st t) (hi:∀ D τ H,t' D τ H -> t D τ H):PSs X st t':=fun zB s σ H D I q=>h zB s σ H D I (hi _ _ _ q)
structure QE (X:Cx) (e:Expr) (f:FE):Prop where
 un:PE X e (trE X.K f)
structure QD (X:Cx) (e:Expr) (f:FD):Prop where
 un:PE X e (trD X.K f)
structure QT (X:Cx) (e:Expr) (f:FT):Prop where
 un:PT X e (trT X.K f)
structure QA (X:Cx) (es:List Expr) (f:FA):Prop where
 un:PA X es (trA X.K f)
def toD (f:FE):FD:=fun σ M=>match f σ M with
 | some (.dat d,M')=>some (d,M')
 | some (.fl xs,M')=>some (.ref M'.length,M' ++ [.lst xs])
 | none=>none
mutual
theorem Rep.more (N:List Addr):∀ {d:D} {v:V},Rep L H d v -> Rep (L ++ N) H d v
 | .non,_,h=>by unfold Rep at h ⊢; exact h
 | .bl _,_,h=>by unfold Rep at h ⊢; exact h
 | .int _,_,h=>by unfold Rep at h ⊢; exact h
 | .str _,_,h=>by unfold Rep at h ⊢; exact h
 | .tup ds,_,h=>by
  unfold Rep at h ⊢;obtain ⟨a,vs,rfl,e,r⟩:=h;exact ⟨a,vs,rfl,e,zG.more N r⟩
 | .ref n,_,h=>by
  unfold Rep at h ⊢;obtain ⟨a,rfl,e⟩:=h;exact ⟨a,rfl,zDR e⟩
 | .fn _ ds,_,h=>by
  unfold Rep at h ⊢;exact ⟨h.1,h.2.1,zG.more N h.2.2⟩
theorem zG.more (N:List Addr):∀ {ds:List D} {vs:List V},zG L H ds vs -> zG (L ++ N) H ds vs
 | [],_,h=>by unfold zG at h ⊢; exact h
 | d :: ds,_,h=>by
  unfold zG at h ⊢;obtain ⟨v,r,rfl,h1,h2⟩:=h;exact ⟨v,r,rfl,Rep.more N h1,zG.more N h2⟩
end
theorem zA7.more {κ:Type} {kf:D -> Option κ} {L:List Addr} {H:Hp} (N:List Addr):∀ {ps:List (D × D)} {vs:List (κ × V)},zA7 kf L H ps vs -> zA7 kf (L ++ N) H ps vs
 | [],_,h=>h
 | p :: r,_,h=>by
  obtain ⟨k,v,r',rfl,e,h1,h2⟩:=h;exact ⟨k,v,r',rfl,e,h1.more N,zA7.more N h2⟩
theorem zEn.more {K:PySem.W.Frag} {L:List Addr} {H:Hp} {a:Addr} {m:MO} (N:List Addr) (h:zEn K L H a m):zEn K (L ++ N) H a m:=by
 cases m with
 | lst xs=>obtain ⟨vs,e,r⟩:=h; exact ⟨vs,e,r.more N⟩
 | fro xs=>obtain ⟨o,vs,e,r⟩:=h; exact ⟨o,vs,e,r.more N⟩
 | dict ps=>obtain ⟨vs,e,r⟩:=h; exact ⟨vs,e,r.more N⟩
 | dicT ps=>obtain ⟨vs,e,r⟩:=h; exact ⟨vs,e,r.more N⟩
 | set _=>exact h
 | froT ps=>obtain ⟨o,vs,e,r⟩:=h; exact ⟨o,vs,e,r.more N⟩
 | froK ps=>obtain ⟨o,vs,e,r⟩:=h; exact ⟨o,vs,e,r.more N⟩
theorem zKs {K:PySem.W.Frag} {L L':List Addr} {M':List MO} {H H':Hp} {p:Addr} {xs:List D} {vs:List V} (s:Stp L H L' H') (c:Cor K L' M' H') (h0:H p = none) (h1:H' p = some (.lst vs)) (h2:p ∉ L') (r:zG L' H' xs vs) :
  Cor K (L' ++ [p]) (M' ++ [.lst xs]) H' /\ Stp L H (L' ++ [p]) H':=by
 refine ⟨⟨by simp [c.len],?_,fun n a m e1 e2=>?_,c.tab⟩,?_⟩
 ·rw [List.nodup_append];exact ⟨c.nd,by simp,fun a ha b hb z=>by
   have:b = p:=by simpa using hb
   subst this; subst z; exact h2 ha⟩
 ·by_cases hn:n < L'.length
  ·rw [zNy hn] at e1;rw [zNy (by rw [<- c.len]; exact hn)] at e2;exact (c.obj n a m e1 e2).more [p]
  ·have hn':n = L'.length:=by
    have:=(zNu.mp e1).1;rw [zN7] at this;simp at this; omega
   subst hn';simp at e1;rw [c.len] at e2;simp at e2;subst e1; subst e2;exact ⟨vs,h1,r.more [p]⟩
 ·obtain ⟨N,hN⟩:=s.pre;refine ⟨⟨N ++ [p],by rw [hN]; simp⟩,fun a ha=>?_,s.old,s.tup,s.frz,s.tbl⟩;rcases zOH.mp ha with z | z
  ·exact s.new a z
  ·have:a = p:=by simpa using z
   subst this; exact .inr h0
theorem Rep.last {L:List Addr} {M:List MO} {H:Hp} {K:PySem.W.Frag} {p:Addr} (c:Cor K L M H):Rep (L ++ [p]) H (.ref M.length) (.ref p):=by
 unfold Rep;exact ⟨p,rfl,by rw [<- c.len]; simp⟩
theorem zBo {f:FE} (h:QE X e f):QD X e (toD f):=.mk <| PE.imp h.un fun τ H Q zz=>by
 obtain ⟨L,σ,M,d,M',c,rs,hf,q⟩:=zz;unfold toD at hf;split at hf
 ·rename_i d' M1 e1;cases hf;exact ⟨L,σ,M,_,_,c,rs,e1,fun L' H' v s c' r=>q L' H' v s c' r⟩
 ·rename_i xs M1 e1;cases hf;refine ⟨L,σ,M,_,_,c,rs,e1,fun L' H' v s c' r=>?_⟩;obtain ⟨p,vs,rfl,e0,e2,e3,r⟩:=r;obtain ⟨c2,s2⟩:=zKs s c' e0 e2 e3 r;exact q _ H' _ s2 c2 (Rep.last c')
 ·cases hf
def zC (i:Nat):FE:=fun σ M=>match σ[i]? with
 | some (some d)=>some (.dat d,M)
 | _=>none
theorem zd (h:PE X (.Name x pos) (zML i)):QE X (.Name x pos) (zC i):=.mk <| PE.imp h fun τ H Q zz=>by
 obtain ⟨L,σ,M,d,M',c,rs,hf,q⟩:=zz;unfold zC at hf;split at hf
 ·rename_i d' e1;cases hf;obtain ⟨v,e2,r⟩:=rs.2 i d' e1;exact ⟨v,e2,q L H v (.refl L H) c r⟩
 ·cases hf
def fC (d:D):FE:=fun _ M=>some (.dat d,M)
theorem zCa (hd:∀ L H,Rep L H d v) (h:PE X e (tC v)):QE X e (fC d):=.mk <| PE.imp h fun τ H Q zz=>by
 obtain ⟨L,σ,M,d',M',c,rs,hf,q⟩:=zz;unfold fC at hf;cases hf;exact q L H v (.refl L H) c (hd L H)
theorem zKv {i j pos}:QE X (.Constant (.int i) j pos) (fC (.int i)):=zCa (fun _ _=>by unfold Rep; rfl) zLH
theorem zNH {b j pos}:QE X (.Constant (.bool b) j pos) (fC (.bl b)):=zCa (fun _ _=>by unfold Rep; rfl) zNE
theorem zJO {j pos}:QE X (.Constant .none j pos) (fC .non):=zCa (fun _ _=>by unfold Rep; rfl) zL7
theorem zM3 {x j pos}:QE X (.Constant (.str x) j pos) (fC (.str x)):=zCa (fun _ _=>by unfold Rep; rfl) zL8
def zJ:FA:=fun _ M=>some ([],M)
def zD (f:FD) (g:FA):FA:=fun σ M=>match f σ M with
 | some (d,M1)=>match g σ M1 with
  | some (ds,M2)=>some (d :: ds,M2)
  | none=>none
 | none=>none
theorem PA.imp (h:PA X es t) (hi:∀ τ H Q,t' τ H Q -> t τ H Q):PA X es t':=fun pos zB s σ H Q I q=>h pos zB s σ H Q I (hi _ _ _ q)
theorem zDu:QA X [] zJ:=.mk <| PA.imp zB9 fun τ H Q zz=>by
 obtain ⟨L,σ,M,d,M',c,rs,hf,q⟩:=zz;unfold zJ at hf;cases hf;exact q L H [] (.refl L H) c .nil
theorem zBU (h1:QD X e f) (h2:QA X es g) (hs:starEach (e :: es) X.env = (false,eval e X.env) :: starEach es X.env:=by rfl):QA X (e :: es) (zD f g) :=
 .mk <| PA.imp (zAL h1.un h2.un hs) fun τ H Q zz=>by
  obtain ⟨L,σ,M,d,M',c,rs,hf,q⟩:=zz;unfold zD at hf;split at hf
  ·rename_i d1 M1 e1;split at hf
   ·rename_i ds M2 e2;cases hf;refine ⟨L,σ,M,_,_,c,rs,e1,fun L1 H1 v s1 c1 r1=>⟨L1,σ,M1,_,_,c1,rs.stp s1,e2,fun L2 H2 vs s2 c2 r2=>?_⟩⟩;exact q L2 H2 _ (s1.trans s2) c2 (.cons (r1.stp s2) r2)
   ·cases hf
  ·cases hf
def zDn (g:FA):FE:=fun σ M=>match g σ M with
 | some (ds,M1)=>if ds.length <= sizeLine then some (.dat (.tup ds),M1) else none
 | none=>none
def zBa (g:FA):FE:=fun σ M=>match g σ M with
 | some (ds,M1)=>if ds.length <= sizeLine then some (.fl ds,M1) else none
 | none=>none
theorem Rep.newTup (h:H p = none) (r:zG L H ds vs):Rep L (upd H p (.tup vs)) (.tup ds) (.ref p):=by
 unfold Rep;exact ⟨p,vs,rfl,zAg,r.stp (.upd h)⟩
theorem zKw {x1 pos} (h:QA X es g):QE X (.Tuple es x1 pos) (zDn g):=.mk <| PE.imp (zIB h.un) fun τ H Q zz=>by
 obtain ⟨L,σ,M,d,M',c,rs,hf,q⟩:=zz;unfold zDn at hf;split at hf
 ·rename_i ds M1 e1;split at hf
  ·rename_i hz;cases hf;refine ⟨L,σ,M,_,_,c,rs,e1,fun L1 H1 vs s1 c1 r1=>⟨by rw [r1.length]; exact hz,fun p hp=>?_⟩⟩;exact q L1 _ _ (s1.trans (.upd hp)) (c1.upd hp) (Rep.newTup hp r1)
  ·cases hf
 ·cases hf
theorem zHR {L L1:List Addr} {H H1:Hp} {K:PySem.W.Frag} {M M1:List MO} (s:Stp L H L1 H1) (c:Cor K L M H) (c1:Cor K L1 M1 H1) {p:Addr} (hp:H1 p = none):H p = none /\ p ∉ L1:=by
 have hp1:p ∉ L1:=fun z=>by obtain ⟨o,e⟩:=c1.tracked z; rw [hp] at e; cases e
 refine ⟨?_,hp1⟩;cases q:H p with
 | none=>rfl
 | some o=>
  have:p ∉ L:=fun z=>hp1 (by obtain ⟨N,hN⟩:=s.pre; rw [hN]; exact List.mem_append_left _ z);obtain ⟨o',z⟩:=s.there q this;rw [z] at hp; cases hp
theorem zO.newLst {L L1:List Addr} {H H1:Hp} {K:PySem.W.Frag} {M M1:List MO} {p:Addr} {ds:List D} {vs:List V} (s:Stp L H L1 H1) (c:Cor K L M H) (c1:Cor K L1 M1 H1) (hp:H1 p = none) (r:zG L1 H1 ds vs) :
  zO H L1 (upd H1 p (.lst vs)) (.fl ds) (.ref p):=by
 obtain ⟨a,b⟩:=zHR s c c1 hp;exact ⟨p,vs,rfl,a,zAg,b,r.stp (.upd hp)⟩
theorem zM7 {pos} (h:QA X es g):QE X (.List es pos) (zBa g):=.mk <| PE.imp (zLg h.un) fun τ H Q zz=>by
 obtain ⟨L,σ,M,d,M',c,rs,hf,q⟩:=zz;unfold zBa at hf;split at hf
 ·rename_i ds M1 e1;split at hf
  ·rename_i hz;cases hf;refine ⟨L,σ,M,_,_,c,rs,e1,fun L1 H1 vs s1 c1 r1=>⟨by rw [r1.length]; exact hz,fun p hp=>?_⟩⟩;exact q L1 _ _ (s1.trans (.upd hp)) (c1.upd hp) (zO.newLst s1 c c1 hp r1)
  ·cases hf
 ·cases hf
end
abbrev FAE:=Sd -> Mem -> Option (List EV × Mem)
def zB5 (H0:Hp) (L:List Addr) (H:Hp):List EV -> List V -> Prop
 | [],vs=>vs = []
 | e :: es,vs=>∃ v r,vs = v :: r /\ zO H0 L H e v /\ zB5 H0 L H es r
theorem Stp.sub (s:Stp L H L' H'):∀ a ∈ L,a ∈ L':=fun a h=>by
 obtain ⟨N,hN⟩:=s.pre;rw [hN]; exact List.mem_append_left _ h
theorem zB5.back {H0 H1:Hp} {L0 L1 L:List Addr} {H:Hp} (s:Stp L0 H0 L1 H1) {M:List MO} {K:PySem.W.Frag} (c:Cor K L0 M H0) (hL:∀ a ∈ L1,a ∈ L):∀ {es:List EV} {vs:List V},zB5 H1 L H es vs -> zB5 H0 L H es vs
 | [],_,h=>h
 | e :: es,_,h=>by
  obtain ⟨v,r,rfl,h1,h2⟩:=h;exact ⟨v,r,rfl,h1.back s c hL,zB5.back s c hL h2⟩
def zMf (K:PySem.W.Frag) (f:FAE):TA:=fun τ H Q=>∃ L σ M ds M',Cor K L M H /\ zAC L H σ τ /\ f σ M = some (ds,M') /\ ∀ L' H' vs,Stp L H L' H' -> Cor K L' M' H' -> zB5 H L' H' ds vs -> Q vs H'
structure QAE (X:Cx) (es:List Expr) (f:FAE):Prop where
 un:PA X es (zMf X.K f)
section
variable {X:Cx} {a b e:Expr} {es:List Expr} {pos:Pos}
def zc:FAE:=fun _ M=>some ([],M)
def zQ (f:FE) (g:FAE):FAE:=fun σ M=>match f σ M with
 | some (d,M1)=>match g σ M1 with
  | some (ds,M2)=>some (d :: ds,M2)
  | none=>none
 | none=>none
theorem zCN:QAE X [] zc:=.mk <| PA.imp zB9 fun τ H Q zz=>by
 obtain ⟨L,σ,M,d,M',c,rs,hf,q⟩:=zz;unfold zc at hf;cases hf;exact q L H [] (.refl L H) c rfl
theorem zBT (h1:QE X e f) (h2:QAE X es g) (hs:starEach (e :: es) X.env = (false,eval e X.env) :: starEach es X.env:=by rfl):QAE X (e :: es) (zQ f g) :=
 .mk <| PA.imp (zAL h1.un h2.un hs) fun τ H Q zz=>by
  obtain ⟨L,σ,M,d,M',c,rs,hf,q⟩:=zz;unfold zQ at hf;split at hf
  ·rename_i d1 M1 e1;split at hf
   ·rename_i ds M2 e2;cases hf;refine ⟨L,σ,M,_,_,c,rs,e1,fun L1 H1 v s1 c1 r1=>⟨L1,σ,M1,_,_,c1,rs.stp s1,e2,fun L2 H2 vs s2 c2 r2=>?_⟩⟩;exact q L2 H2 _ (s1.trans s2) c2 ⟨v,vs,rfl,r1.stp s2,r2.back s1 c s2.sub⟩
   ·cases hf
  ·cases hf
abbrev K2:=EV -> EV -> Mem -> Option (EV × Mem)
def zA0 (K:PySem.W.Frag) (r:R2) (k:K2):Prop:=∀ {L:List Addr} {M M':Mem} {H H0:Hp} {x y d:EV} {v w:V} {Q:VK},Cor K L M H -> zO H0 L H x v -> zO H0 L H y w -> k x y M = some (d,M') ->
 (∀ L' H' u,Stp L H L' H' -> Cor K L' M' H' -> zO H L' H' d u -> Q u H') -> r v w H Q
def fOp (k:K2) (f g:FE):FE:=fun σ M=>match f σ M with
 | some (x,M1)=>match g σ M1 with
  | some (y,M2)=>k x y M2
  | none=>none
 | none=>none
theorem zCV {K:PySem.W.Frag} {r:R2} {k:K2} {f g:FE} (hk:zA0 K r k) {τ:Sv} {H:Hp} {Q:VK} (h:trE K (fOp k f g) τ H Q):tOp r (trE K f) (trE K g) τ H Q:=by
 obtain ⟨L,σ,M,d,M',c,rs,hf,q⟩:=h;unfold fOp at hf;split at hf
 ·rename_i x M1 e1;split at hf
  ·rename_i y M2 e2;refine (mkE c rs e1 (fun L1 H1 v s1 c1 r1=>(mkE c1 (rs.stp s1) e2 (fun L2 H2 w s2 c2 r2=>?_))));refine hk (H0:=H) c2 (r1.stp s2) (r2.back s1 c s2.sub) hf fun L3 H3 u s3 c3 r3=>?_;exact q L3 H3 u ((s1.trans s2).trans s3) c3 (r3.back (s1.trans s2) c s3.sub)
  ·cases hf
 ·cases hf
theorem zGi (hk:zA0 X.K r k) (ho:OpR X (binaryOp op) r) (h1:QE X a f) (h2:QE X b g):QE X (.BinOp a op b pos) (fOp k f g):=.mk <| PE.imp (zNF ho h1.un h2.un) fun _ _ _ h=>zCV hk h
theorem zK0 (hk:zA0 X.K r k) (ho:OpR X (compareOp op) r) (h1:QE X a f) (h2:QE X b g) (hm:behindInMarks op b = false):QE X (.Compare a [op] [b] pos) (fOp k f g) :=
 .mk <| PE.imp (zKH ho h1.un h2.un hm) fun _ _ _ h=>zCV hk h
def tst (f:FE):FT:=fun σ M=>match f σ M with
 | some (.dat (.bl c),M')=>some (c,M')
 | _=>none
theorem zEF {K:PySem.W.Frag} {f:FE} {τ:Sv} {H:Hp} {Q:Bool -> Hp -> Prop} (h:trT K (tst f) τ H Q):zG2 (trE K f) τ H Q:=by
 obtain ⟨L,σ,M,d,M',c,rs,hf,q⟩:=h;unfold tst at hf;split at hf
 ·rename_i k M1 e1;cases hf;refine (mkE c rs e1 (fun L1 H1 v s1 c1 r1=>?_));have:v = .bl d:=by unfold zO Rep at r1; exact r1
  exact ⟨d,this,q L1 H1 s1 c1⟩
 ·cases hf
theorem zGJ (h:∀ τ H Q,t τ H Q -> t' τ H Q) (q:zG2 t τ H Q):zG2 t' τ H Q:=h _ _ _ q
theorem zCB {op:CmpOp} {r:R2} {k:K2} {f g:FE} (hk:zA0 X.K r k) (ho:OpR X (compareOp op) r) (h1:QE X a f) (h2:QE X b g) (hm:behindInMarks op b = false):QT X (.Compare a [op] [b] pos) (tst (fOp k f g)) :=
 .mk <| PT.imp (zKV ho h1.un h2.un hm) fun _ _ _ h=>zGJ (fun _ _ _ z=>zCV hk z) (zEF h)
theorem zCr (h:QE X e f) (he:∀ whole,isTrue e X.env whole = (do let v <- whole; standAt e.pos; holding [v] (truthy v)):=by intro _; rfl):QT X e (tst f) :=
 .mk <| PT.imp (zE1 h.un he) fun _ _ _ h=>zEF h
def kI (C:Int -> Int -> Bool) (g:Int -> Int -> D):K2:=fun x y M=>match x,y with
 | .dat (.int i),.dat (.int j)=>if C i j then some (.dat (g i j),M) else none
 | _,_=>none
def kI0 (g:Int -> Int -> D):K2:=kI (fun _ _=>true) g
theorem zFr {K:PySem.W.Frag} {C:Int -> Int -> Bool} {C':Int -> Int -> Prop} {g:Int -> Int -> D} {g':Int -> Int -> V} (hC:∀ i j,C i j = true -> C' i j) (hg:∀ L H i j,Rep L H (g i j) (g' i j)):zA0 K (rI C' g') (kI C g):=by
 intro L M M' H H0 x y d v w Q c rx ry hk q;unfold kI at hk;split at hk
 ·rename_i i j;split at hk
  ·rename_i hc;cases hk;refine ⟨i,j,by unfold zO Rep at rx; exact rx,by unfold zO Rep at ry; exact ry,hC i j hc,q L H _ (.refl L H) c (hg L H i j)⟩
  ·cases hk
 ·cases hk
theorem zCo {K:PySem.W.Frag} {g:Int -> Int -> D} {g':Int -> Int -> V} (hg:∀ L H i j,Rep L H (g i j) (g' i j)):zA0 K (rI0 g') (kI0 g):=by
 intro L M M' H H0 x y d v w Q c rx ry hk q;obtain ⟨i,j,h1,h2,_,h4⟩:=zFr (C:=fun _ _=>true) (C':=fun _ _=>True) (fun _ _ _=>trivial) hg c rx ry hk q;exact ⟨i,j,h1,h2,h4⟩
theorem zAK:Rep L H (.int i) (.int i):=by unfold Rep; rfl
theorem zAj:Rep L H (.bl i) (.bl i):=by unfold Rep; rfl
def zGY (i j:Int):Bool:=(decide (-(2 ^ 64) < i) && decide (i < 2 ^ 64)) || (decide (-(2 ^ 64) < j) && decide (j < 2 ^ 64))
abbrev zNj:K2:=kI0 fun i j=> .int (i + j)
abbrev zIr:K2:=kI0 fun i j=> .int (i - j)
abbrev zGa:K2:=kI zGY fun i j=> .int (i * j)
abbrev zDE:K2:=kI (fun _ j=>decide (0 < j)) fun i j=> .int (i % j)
abbrev zHN:K2:=kI (fun _ j=>decide (0 < j) && decide (j < 1073741824)) fun i j=> .int (i / j)
abbrev zIh:K2:=kI (fun i j=>decide (0 <= j) && decide (j <= 1000000) && decide (i.natAbs < 2 ^ 64)) fun i j=> .int (i ^ j.toNat)
abbrev kLt:K2:=kI0 fun i j=> .bl (decide (i < j))
abbrev kLe:K2:=kI0 fun i j=> .bl (decide (i <= j))
abbrev kGe:K2:=kI0 fun i j=> .bl (decide (j <= i))
section
variable {f g:FE}
theorem zMW (h1:QE X a f) (h2:QE X b g):QE X (.BinOp a .Sub b pos) (fOp zIr f g):=zGi (zCo fun _ _ _ _=>zAK) zMB h1 h2
theorem zNO (h1:QE X a f) (h2:QE X b g):QE X (.BinOp a .Mult b pos) (fOp zGa f g):=zGi (zFr (fun i j h=>by
 unfold zGY at h;simp only [Bool.or_eq_true,zOR,zO4] at h;exact h) fun _ _ _ _=>zAK) zLA h1 h2
theorem zMl (h1:QE X a f) (h2:QE X b g):QE X (.BinOp a .Mod b pos) (fOp zDE f g):=zGi (zFr (fun i j h=>of_decide_eq_true h) fun _ _ _ _=>zAK) zL5 h1 h2
theorem zMP (h1:QE X a f) (h2:QE X b g):QE X (.BinOp a .FloorDiv b pos) (fOp zHN f g):=zGi (zFr (fun i j h=>by
 simp only [zOR,zO4] at h;exact h) fun _ _ _ _=>zAK) zJg h1 h2
theorem zMX (h1:QE X a f) (h2:QE X b g):QE X (.BinOp a .Pow b pos) (fOp zIh f g):=zGi (zFr (fun i j h=>by
 simp only [zOR,zO4] at h;exact ⟨h.1.1,h.1.2,h.2⟩) fun _ _ _ _=>zAK) zK4 h1 h2
theorem zMg (h1:QE X a f) (h2:QE X b g):QT X (.Compare a [.Lt] [b] pos) (tst (fOp kLt f g)):=zCB (zCo fun _ _ _ _=>zAj) zKz h1 h2 (zBn _)
theorem zMo (h1:QE X a f) (h2:QE X b g):QT X (.Compare a [.GtE] [b] pos) (tst (fOp kGe f g)):=zCB (zCo fun _ _ _ _=>zAj) zMp h1 h2 (zBn _)
end
end
def zAQ (M:Mem):EV -> Option (List D)
 | .fl xs=>some xs
 | .dat (.ref n)=>match M[n]? with
  | some (.lst xs)=>some xs
  | some (.fro xs)=>some xs
  | _=>none
 | _=>none
def zB6:EV -> Option (List D)
 | .dat (.tup xs)=>some xs
 | _=>none
def zAO (M:Mem) (x:EV):Option (List D):=match zB6 x with
 | some xs=>some xs
 | none=>zAQ M x
theorem zAo {K:PySem.W.Frag} {L:List Addr} {M:Mem} {H H0:Hp} {x:EV} {v:V} {xs:List D} (c:Cor K L M H) (r:zO H0 L H x v) (h:zAQ M x = some xs):∃ a vs,v = .ref a /\ Rd H a (.lst vs) /\ zG L H xs vs:=by
 cases x with
 | fl ys=>
  cases h;obtain ⟨p,vs,rfl,_,e,_,r⟩:=r;exact ⟨p,vs,rfl,.inl e,r⟩
 | dat d=>
  cases d with
  | ref n=>
   unfold zO Rep at r;obtain ⟨a,rfl,e⟩:=r;unfold zAQ at h;dsimp only at h;cases q:M[n]? with
   | none=>rw [q] at h; cases h
   | some m=>
    rw [q] at h;have z:=c.obj n a m e q;cases m with
    | lst ys=>cases h; obtain ⟨vs,e1,r1⟩:=z; exact ⟨a,vs,rfl,.inl e1,r1⟩
    | fro ys=>cases h; obtain ⟨o,vs,e1,r1⟩:=z; exact ⟨a,vs,rfl,.inr ⟨o,e1⟩,r1⟩
    | dict _=>cases h
    | dicT _=>cases h
    | set _=>cases h
    | froT _=>cases h
    | froK _=>cases h
  | _=>cases h
theorem zA1 {L:List Addr} {H H0:Hp} {x:EV} {v:V} {xs:List D} (r:zO H0 L H x v) (h:zB6 x = some xs):∃ a vs,v = .ref a /\ H a = some (.tup vs) /\ zG L H xs vs:=by
 cases x with
 | fl ys=>cases h
 | dat d=>
  cases d with
  | tup ys=>cases h; unfold zO Rep at r; exact r
  | _=>cases h
theorem zHF {K:PySem.W.Frag} {L:List Addr} {M:Mem} {H H0:Hp} {x:EV} {v:V} {xs:List D} (c:Cor K L M H) (r:zO H0 L H x v) (h:zAO M x = some xs):∃ a vs,v = .ref a /\ (SqL K H a vs \/ SqT K H a vs) /\ zG L H xs vs:=by
 unfold zAO at h;cases q:zB6 x with
 | some ys=>
  rw [q] at h; cases h;obtain ⟨a,vs,e,h1,h2⟩:=zA1 r q;exact ⟨a,vs,e,.inr (.of h1),h2⟩
 | none=>
  rw [q] at h;obtain ⟨a,vs,e,h1,h2⟩:=zAo c r h;exact ⟨a,vs,e,.inl (.inl h1),h2⟩
theorem zMM {L:List Addr} {H:Hp} {xs:List D} {vs:List V} {i:Int} {d:D} (r:zG L H xs vs) (h:atI xs i = some d):∃ v,atI vs i = some v /\ Rep L H d v:=by
 unfold atI at h ⊢;rw [r.length];cases q:ixN xs.length i with
 | none=>rw [q] at h; cases h
 | some j=>rw [q] at h; exact r.get h
theorem zBv {L:List Addr} {H:Hp} {i:Str}:Rep L H (.str i) (.str i):=by unfold Rep; rfl
def kIx:K2:=fun x y M=>match y with
 | .dat (.int i)=>match zAO M x with
  | some xs=>match atI xs i with
   | some d=>some (.dat d,M)
   | none=>none
  | none=>match x with
   | .dat (.str z)=>if z.length <= sizeLine then match atI z.cps.toList i with
     | some c=>some (.dat (.str ⟨#[c]⟩),M)
     | none=>none
    else none
   | _=>none
 | _=>none
theorem zLu {K:PySem.W.Frag}:zA0 K (rIx K) kIx:=by
 intro L M M' H H0 x y d v w Q c rx ry hk q;unfold kIx at hk;split at hk
 ·rename_i i;have ew:w = .int i:=by unfold zO Rep at ry; exact ry
  split at hk
  ·rename_i xs e1;split at hk
   ·rename_i d' e2;cases hk;obtain ⟨a,vs,rfl,hs,r⟩:=zHF c rx e1;obtain ⟨u,e3,r3⟩:=zMM r e2;rcases hs with hs | hs
    ·exact .inl ⟨a,vs,i,u,rfl,ew,hs,e3,q L H u (.refl L H) c r3⟩
    ·exact .inr (.inl ⟨a,vs,i,u,rfl,ew,hs,e3,q L H u (.refl L H) c r3⟩)
   ·cases hk
  ·split at hk
   ·rename_i z _;split at hk
    ·rename_i hz;split at hk
     ·rename_i ch e2;cases hk;have ev:v = .str z:=by unfold zO Rep at rx; exact rx
      exact .inr (.inr ⟨z,i,ch,ev,ew,hz,e2,q L H _ (.refl L H) c (zBv (L:=L) (H:=H))⟩)
     ·cases hk
    ·cases hk
   ·cases hk
 ·cases hk
section
variable {prog:Program} {w:World} {A:Around} {E:Value -> Shared -> Prop} {s:Shared}
theorem zGl {t sl:Addr} {items:Array Value} {vl vu:Value} {lo hi:Option Int} {Q:Value -> Shared -> Prop} (T:IsTup s.heap t items) (S:s.heap.IsSliceOf sl vl vu .none) (pl:IsPart vl lo) (pu:IsPart vu hi)
  (h1:HT.sIx items.size 0 lo = 0) (h2:HT.sIx items.size items.size hi = items.size) (h:Q (.ref t) s):wpAny (model prog w) A (getItem (.ref t) (.ref sl)) Q E s:=by
 obtain ⟨o,O,C,G⟩:=id S;have TS:s.TypeIs (.ref sl) "slice" := ⟨o,O,C⟩;unfold getItem;try with_reducible refine wpAny_holding ?_
 first | refine zNr (zNt ?_) | skip
 refine zNr (wpAny_sequenceKey T.typeIs (by decide) ?_);refine zNr (zOT (name:=Str.ofString "__getitem__") T.typeIs zPP (wpAny_call_entry zPP T.typeIs entry_tuple_getitem ?_ (args_tuple_getitem _ _)));refine zNr (m:=Builtin.Tuple.tupleItemsOf (.ref t)) (tupleItemsOf_ T (zNr (wpAny_typeOf TS ?_)));rw [zN6 (by decide)];refine zNr (HT.zBH S pl pu ?_);rw [h1,h2];show wpAny _ _ (if ((((0:Nat):Int) == 0 && (1:Int) == 1 && (items.size - 0) == items.size)) = true then _ else _) _ _ s;rw [zN6 (by simp)];unfold Builtin.Tuple.tupleIsExact;refine zNr (zNr (wpAny_typeOf T.typeIs (zNt ?_)));rw [zN6 (by decide)];exact zNr (wpAny_rule (zNt ⟨_,rfl,zNt h⟩))
end
def zNQ (K:PySem.W.Frag):V -> Option Int -> Option Int -> Hp -> VK -> Prop:=fun x lo hi H Q=>∃ a xs,x = .ref a /\ SqT K H a xs /\ (HT.sIx xs.length 0 lo = 0 /\ HT.sIx xs.length xs.length hi = xs.length) /\ Q (.ref a) H
theorem zJx {X:Cx}:SlR X (zNQ X.K):=by
 intro zB s σ H x v vl vu lo hi sl Q I rx hs pl pu h;obtain ⟨a,xs,rfl,hx,hw,q⟩:=h;cases rx;obtain ⟨its,r,ht,hz⟩:=I.tuple hx;have hlen:its.toArray.size = xs.length:=by rw [zNz]; exact r.length.symm
 exact ⟨"tuple", _,zPP.lookup,ht.typeIs,zGl ht hs pl pu (by rw [hlen]; exact hw.1) (by rw [hlen]; exact hw.2) ⟨.ref a,H,I,rfl,q⟩⟩
section
variable {X:Cx} {a b e:Expr} {es:List Expr} {pos:Pos} {f g:FE}
theorem zNa (h1:QE X a f) (h2:QE X b g) (hs:zE2 b:=by intro _ _; rfl):QE X (.Subscript a b pos) (fOp kIx f g):=.mk <| PE.imp (zK1 zLz h1.un h2.un hs) fun _ _ _ h=>zCV zLu h
abbrev FO:=Sd -> Mem -> Option (Option Int × Mem)
def trO (K:PySem.W.Frag) (f:FO):TO:=fun τ H Q=>∃ L σ M d M',Cor K L M H /\ zAC L H σ τ /\ f σ M = some (d,M') /\ ∀ L' H',Stp L H L' H' -> Cor K L' M' H' -> Q d H'
structure QO (X:Cx) (e:Option Expr) (f:FO):Prop where
 un:PO X e (trO X.K f)
def zA5:FO:=fun _ M=>some (none,M)
def zAV (f:FE):FO:=fun σ M=>match f σ M with
 | some (.dat (.int i),M')=>some (some i,M')
 | _=>none
theorem PO.imp {e:Option Expr} {t t':TO} (h:PO X e t) (hi:∀ τ H Q,t' τ H Q -> t τ H Q):PO X e t':=fun zB s σ H Q I q=>h zB s σ H Q I (hi _ _ _ q)
theorem zJu:QO X none zA5:=.mk <| PO.imp zKD fun τ H Q zz=>by
 obtain ⟨L,σ,M,d,M',c,rs,hf,q⟩:=zz;unfold zA5 at hf;cases hf;exact q L H (.refl L H) c
theorem zKS (h:QE X e f):QO X (some e) (zAV f):=.mk <| PO.imp (zJm h.un) fun τ H Q zz=>by
 obtain ⟨L,σ,M,d,M',c,rs,hf,q⟩:=zz;unfold zAV at hf;split at hf
 ·rename_i i M1 e1;cases hf;refine (mkE c rs e1 (fun L1 H1 v s1 c1 r1=>?_));exact ⟨i,by unfold zO Rep at r1; exact r1,q L1 H1 s1 c1⟩
 ·cases hf
def zEB (xs:List D) (lo hi:Option Int):List D:=(xs.drop (HT.sIx xs.length 0 lo)).take (HT.sIx xs.length xs.length hi - HT.sIx xs.length 0 lo)
theorem zHE {L:List Addr} {H:Hp} {xs:List D} {vs:List V} {lo hi:Option Int} (r:zG L H xs vs):zG L H (zEB xs lo hi) (zFi vs lo hi):=by
 unfold zEB zFi;rw [r.length];exact (r.drop _).take _
def kSl (x:EV) (lo hi:Option Int) (M:Mem):Option (EV × Mem):=match zB6 x with
 | some xs=>some (.dat (.tup (zEB xs lo hi)),M)
 | none=>match zAQ M x with
  | some xs=>some (.fl (zEB xs lo hi),M)
  | none=>none
def fSl (f:FE) (fl fh:FO):FE:=fun σ M=>match f σ M with
 | some (x,M1)=>match fl σ M1 with
  | some (lo,M2)=>match fh σ M2 with
   | some (hi,M3)=>kSl x lo hi M3
   | none=>none
  | none=>none
 | none=>none
theorem zKM {lo hi:Option Expr} {p2:Pos} {fl fh:FO} (h:QE X e f) (hl:QO X lo fl) (hh:QO X hi fh):QE X (.Subscript e (.Slice lo hi none p2) pos) (fSl f fl fh) :=
 .mk <| PE.imp (zFI (SlR.or zJf (SlR.or zLk zJx)) h.un hl.un hh.un) fun τ H Q zz=>by
  obtain ⟨L,σ,M,d,M',c,rs,hf,q⟩:=zz;unfold fSl at hf;split at hf
  ·rename_i x M1 e1;split at hf
   ·rename_i l M2 e2;split at hf
    ·rename_i u M3 e3;refine ⟨L,σ,M,_,_,c,rs,e1,fun L1 H1 v s1 c1 r1=>⟨L1,σ,M1,_,_,c1,rs.stp s1,e2,fun L2 H2 s2 c2=>⟨L2,σ,M2,_,_,c2,rs.stp (s1.trans s2),e3,fun L3 H3 s3 c3=>?_⟩⟩⟩;have s:=(s1.trans s2).trans s3;have r3:zO H L3 H3 x v:=(r1.stp s2).stp s3;unfold kSl at hf;cases t:zB6 x with
     | some xs=>
      rw [t] at hf;dsimp only at hf;cases hf;obtain ⟨a,vs,rfl,e4,r4⟩:=zA1 r3 t;by_cases hw:HT.sIx vs.length 0 l = 0 /\ HT.sIx vs.length vs.length u = vs.length
      ·refine .inr (.inr ⟨a,vs,rfl,.of e4,hw,?_⟩);have ec:zEB xs l u = xs:=by
        unfold zEB;rw [<- r4.length,hw.1,hw.2,r4.length];simp
       rw [ec] at q;refine q L3 H3 _ s c3 ?_;unfold zO Rep;exact ⟨a,vs,rfl,e4,r4⟩
      ·refine .inr (.inl ⟨a,vs,rfl,.of e4,hw,fun p hp=>?_⟩);exact q L3 _ _ (s.trans (.upd hp)) (c3.upd hp) (Rep.newTup hp (zHE r4))
     | none=>
      rw [t] at hf;dsimp only at hf;split at hf
      ·rename_i xs e4;cases hf;obtain ⟨a,vs,rfl,e5,r5⟩:=zAo c3 r3 e4;refine .inl ⟨a,vs,rfl,.inl e5,fun p hp=>?_⟩;exact q L3 _ _ (s.trans (.upd hp)) (c3.upd hp) (zO.newLst s c c3 hp (zHE r5))
      ·cases hf
    ·cases hf
   ·cases hf
  ·cases hf
abbrev KB:=List EV -> Mem -> Option (EV × Mem)
def zEs (K:PySem.W.Frag) (r:List V -> Hp -> VK -> Prop) (k:KB):Prop:=∀ {L:List Addr} {M M':Mem} {H H0:Hp} {xs:List EV} {d:EV} {vs:List V} {Q:VK},Cor K L M H -> zB5 H0 L H xs vs -> k xs M = some (d,M') ->
 (∀ L' H' u,Stp L H L' H' -> Cor K L' M' H' -> zO H L' H' d u -> Q u H') -> r vs H Q
def fB (k:KB) (f:FAE):FE:=fun σ M=>match f σ M with
 | some (xs,M1)=>k xs M1
 | none=>none
theorem zHz {K:PySem.W.Frag} {r:List V -> Hp -> VK -> Prop} {k:KB} {f:FAE} (hk:zEs K r k) {τ:Sv} {H:Hp} {Q:VK} (h:trE K (fB k f) τ H Q):tCB r (zMf K f) τ H Q:=by
 obtain ⟨L,σ,M,d,M',c,rs,hf,q⟩:=h;unfold fB at hf;split at hf
 ·rename_i xs M1 e1;refine ⟨L,σ,M,_,_,c,rs,e1,fun L1 H1 vs s1 c1 r1=>?_⟩;refine hk c1 r1 hf fun L2 H2 u s2 c2 r2=>?_;exact q L2 H2 u (s1.trans s2) c2 (r2.back s1 c s2.sub)
 ·cases hf
theorem zB5.one {H0:Hp} {L:List Addr} {H:Hp} {x:EV} {vs:List V} (h:zB5 H0 L H [x] vs):∃ v,vs = [v] /\ zO H0 L H x v:=by
 obtain ⟨v,r,rfl,h1,h2⟩:=h;unfold zB5 at h2;subst h2;exact ⟨v,rfl,h1⟩
def zBG:KB:=fun xs M=>match xs with
 | [x]=>match zAO M x with
  | some ys=>some (.dat (.int ys.length),M)
  | none=>none
 | _=>none
theorem zJt:zEs X.K (fun xs H Q=>∃ p ys,xs = [.ref p] /\ (SqL X.K H p ys \/ SqT X.K H p ys) /\ Q (.int ys.length) H) zBG:=by
 intro L M M' H H0 xs d vs Q c r hk q;unfold zBG at hk;split at hk
 ·rename_i x;split at hk
  ·rename_i ys e1;cases hk;obtain ⟨v,rfl,r1⟩:=r.one;obtain ⟨a,ws,rfl,hs,r2⟩:=zHF c r1 e1;refine ⟨a,ws,rfl,hs,q L H _ (.refl L H) c ?_⟩;rw [r2.length]; exact (zAK (L:=L) (H:=H))
  ·cases hk
 ·cases hk
theorem zDW {x:Str} {p:Pos} {id:String} {r:List V -> Hp -> VK -> Prop} {k:KB} {f:FAE} (hk:zEs X.K r k) (hc:zBL X (.builtin id) r) (hv:bootBuiltins x = some (.builtin id)) (hg:Gl X x) (hm:X.mg x = none) (ha:QAE X (e :: es) f) (hn:x ≠ "__name__" := by decide) (hdb:(x == ("__debug__" : Str)) = false:=by decide)
  (he:starEach (e :: es) X.env = (false,eval e X.env) :: starEach es X.env:=by rfl) (hpl:(backTo pos (starEach es X.env)).any (·.1) = false:=by rfl):QE X (.Call (.Name x p) (e :: es) [] pos) (fB k f) :=
 .mk <| PE.imp (zBb hc hg hm hv ha.un hn hdb he hpl) fun _ _ _ h=>zHz hk h
theorem zFe {x:Str} {p:Pos} {T:String} {r:List V -> Hp -> VK -> Prop} {k:KB} {f:FAE} (hk:zEs X.K r k) (hc:zBL X (.type T) r) (hv:bootBuiltins x = some (.type T)) (hg:Gl X x) (hm:X.mg x = none) (ha:QAE X (e :: es) f) (hn:x ≠ "__name__" := by decide) (hdb:(x == ("__debug__" : Str)) = false:=by decide)
  (he:starEach (e :: es) X.env = (false,eval e X.env) :: starEach es X.env:=by rfl) (hpl:(backTo pos (starEach es X.env)).any (·.1) = false:=by rfl):QE X (.Call (.Name x p) (e :: es) [] pos) (fB k f) :=
 .mk <| PE.imp (zHT hc hg hm hv ha.un hn hdb he hpl) fun _ _ _ h=>zHz hk h
def zAY:KB:=fun xs M=>match xs with
 | [x]=>match zAO M x with
  | some ys=>some (.dat (.tup ys),M)
  | none=>none
 | _=>none
theorem zHU:zEs X.K (fun xs H Q=>∃ p ys,xs = [.ref p] /\ ((SqL X.K H p ys /\ ∀ l,H l = none -> Q (.ref l) (upd H l (.tup ys))) \/ (SqT X.K H p ys /\ Q (.ref p) H))) zAY:=by
 intro L M M' H H0 xs d vs Q c r hk q;unfold zAY at hk;split at hk
 ·rename_i x;split at hk
  ·rename_i ys e1;cases hk;obtain ⟨v,rfl,r1⟩:=r.one;unfold zAO at e1;cases t:zB6 x with
   | some zs=>
    rw [t] at e1; cases e1;obtain ⟨a,ws,rfl,e2,r2⟩:=zA1 r1 t;refine ⟨a,ws,rfl,.inr ⟨.of e2,q L H _ (.refl L H) c ?_⟩⟩;unfold zO Rep;exact ⟨a,ws,rfl,e2,r2⟩
   | none=>
    rw [t] at e1;obtain ⟨a,ws,rfl,e2,r2⟩:=zAo c r1 e1;refine ⟨a,ws,rfl,.inl ⟨.inl e2,fun p hp=>?_⟩⟩;exact q L _ _ (.upd hp) (c.upd hp) (Rep.newTup hp r2)
  ·cases hk
 ·cases hk
end
set_option genInjectivity true in
inductive Out where
  | nx | ret (d:D) | brk | cnt
abbrev FS:=Sd -> Mem -> Option (Out × Sd × Mem)
def zKk (E:Ends) (L:List Addr) (H:Hp) (σ:Sd):Out -> Prop
  | .nx=>∀ τ,zAC L H σ τ -> E.nx τ H
  | .ret d=>∀ v,Rep L H d v -> E.rt v H
  | .brk=>∀ τ,zAC L H σ τ -> E.bk τ H
  | .cnt=>∀ τ,zAC L H σ τ -> E.ct τ H
def trS (K:PySem.W.Frag) (f:FS):TS:=fun E τ H=>∃ L σ M o σ' M',Cor K L M H /\ zAC L H σ τ /\ f σ M = some (o,σ',M') /\ ∀ L' H',Stp L H L' H' -> Cor K L' M' H' -> zKk E L' H' σ' o
structure QS (X:Cx) (st:Stmt) (f:FS):Prop where
  un:PS X st (trS X.K f)
structure QSs (X:Cx) (st:List Stmt) (f:FS):Prop where
  un:PSs X st (trS X.K f)
theorem zAC.set {L:List Addr} {H:Hp} {σ:Sd} {τ:Sv} {i:Nat} {d:D} {v:V} (h:zAC L H σ τ) (r:Rep L H d v):zAC L H (σ.set i (some d)) (τ.set i (some v)):=by
  refine ⟨by simp [h.1],fun j e q=>?_⟩;rw [zPQ] at q ⊢;split at q
  · rename_i z
    subst z;split at q
    · rename_i hl
      cases q;rw [zN6 rfl,zN6 (by rw [h.1]; exact hl)];exact ⟨v,rfl,r⟩
    · cases q
  · rename_i z
    rw [zN9 z];exact h.2 j e q
theorem zIC {K:PySem.W.Frag} {f:FE} {τ:Sv} {H:Hp} {Q:VK} (h:trD K (toD f) τ H Q):trE K f τ H Q:=by
  obtain ⟨L,σ,M,d,M',c,rs,hf,q⟩:=h;unfold toD at hf;split at hf
  · rename_i d' M1 e1
    cases hf;exact (mkE c rs e1 (fun L' H' v s c' r=>q L' H' v s c' r))
  · rename_i xs M1 e1
    cases hf;refine (mkE c rs e1 (fun L' H' v s c' r=>?_));obtain ⟨p,vs,rfl,e0,e2,e3,r⟩:=r;obtain ⟨c2,s2⟩:=zKs s c' e0 e2 e3 r;exact q _ H' _ s2 c2 (Rep.last c')
  · cases hf
def zAU:FS:=fun σ M=>some (.nx,σ,M)
def zT (f g:FS):FS:=fun σ M=>match f σ M with
  | some (.nx,σ1,M1)=>g σ1 M1
  | r=>r
def sIf (c:FT) (f g:FS):FS:=fun σ M=>match c σ M with
  | some (true,M1)=>f σ M1
  | some (false,M1)=>g σ M1
  | none=>none
def zh (f:FE):FS:=fun σ M=>match toD f σ M with
  | some (d,M1)=>some (.ret d,σ,M1)
  | none=>none
def zAF (i:Nat) (f:FE):FS:=fun σ M=>match toD f σ M with
  | some (d,M1)=>some (.nx,σ.set i (some d),M1)
  | none=>none
def zDl (f:FE):FS:=fun σ M=>match f σ M with
  | some (_,M1)=>some (.nx,σ,M1)
  | none=>none
section
variable {X:Cx} {st:Stmt} {rest:List Stmt} {e c:Expr} {pos:Pos}
theorem zBl:QSs X [] zAU:=.mk <| PSs.imp zJ7 fun E τ H zz=>by
  obtain ⟨L,σ,M,o,σ',M',c,rs,hf,q⟩:=zz;unfold zAU at hf;cases hf;exact q L H (.refl L H) c τ rs
theorem zBu {f g:FS} (h1:QS X st f) (h2:QSs X rest g):QSs X (st :: rest) (zT f g):=.mk <| PSs.imp (zFs h1.un h2.un) fun E τ H zz=>by
  obtain ⟨L,σ,M,o,σ',M',c,rs,hf,q⟩:=zz;unfold zT at hf;split at hf
  · rename_i σ1 M1 e1
    refine ⟨L,σ,M,_,_,_,c,rs,e1,fun L1 H1 s1 c1 τ1 r1=>⟨L1,σ1,M1,_,_,_,c1,r1,hf,fun L2 H2 s2 c2=>q L2 H2 (s1.trans s2) c2⟩⟩
  · rename_i hne
    refine ⟨L,σ,M,_,_,_,c,rs,hf,fun L1 H1 s1 c1=>?_⟩;have z:=q L1 H1 s1 c1;cases o with
    | nx=>exact absurd hf (hne σ' M')
    | ret d=>exact z
    | brk=>exact z
    | cnt=>exact z
theorem zBm {f:FS} (h1:QS X st f):QSs X [st] f:=.mk <| PSs.imp (zG0 h1.un) fun _ _ _ h=>h
theorem zGU {a b:List Stmt} {fc:FT} {f g:FS} (hc:QT X c fc) (ha:QSs X a f) (hb:QSs X b g):QS X (.If c a b pos) (sIf fc f g):=.mk <| PS.imp (zKq hc.un ha.un hb.un) fun E τ H zz=>by
  obtain ⟨L,σ,M,o,σ',M',c,rs,hf,q⟩:=zz;unfold sIf at hf;split at hf
  · rename_i M1 e1
    refine (mkT c rs e1 (fun L1 H1 s1 c1=>?_));exact zFu ⟨L1,σ,M1,_,_,_,c1,rs.stp s1,hf,fun L2 H2 s2 c2=>q L2 H2 (s1.trans s2) c2⟩
  · rename_i M1 e1
    refine (mkT c rs e1 (fun L1 H1 s1 c1=>?_));exact zFJ ⟨L1,σ,M1,_,_,_,c1,rs.stp s1,hf,fun L2 H2 s2 c2=>q L2 H2 (s1.trans s2) c2⟩
  · cases hf
theorem zCf {f:FE} (h:QE X e f):QS X (.Return (some e) pos) (zh f):=.mk <| PS.imp (zME (zBo h).un) fun E τ H zz=>by
  obtain ⟨L,σ,M,o,σ',M',c,rs,hf,q⟩:=zz;unfold zh at hf;split at hf
  · rename_i d M1 e1
    cases hf;exact (mkD c rs e1 (fun L1 H1 v s1 c1 r1=>q L1 H1 s1 c1 v r1))
  · cases hf
theorem zID {K:PySem.W.Frag} {i:Nat} {f:FE} {t:TE} (ht:∀ τ H Q,trE K f τ H Q -> t τ H Q) {E:Ends} {τ:Sv} {H:Hp} (h:trS K (zAF i f) E τ H):zMH t (zDC i) E τ H:=by
  obtain ⟨L,σ,M,o,σ',M',c,rs,hf,q⟩:=h;unfold zAF at hf;split at hf
  · rename_i d M1 e1
    cases hf;exact ht _ _ _ (zIC (mkD c rs e1 (fun L1 H1 v s1 c1 r1=>q L1 H1 s1 c1 _ ((rs.stp s1).set r1))))
  · cases hf
theorem zMQ {i:Nat} {x:Str} {f:FE} {pos':Pos} (hN:X.N.Nodup) (hi:X.N[i]? = some x) (hx:Loc X.env.scope x) (h:QE X e f) (hs:swapsWith e (some (.Name x pos')) pos.line X.env = pure false:=by rfl)
    (hf:X.fn x = true \/ X.env.scope.names.lookup x = some .local:=by first | exact .inl rfl | exact .inr rfl | assumption):QS X (.Assign [.Name x pos'] e pos) (zAF i f) := 
  .mk <| PS.imp (zLx hN hi hx h.un hs hf) fun _ _ _ z=>zID (fun _ _ _ z=>z) z
theorem zLV {f:FE} (h:QE X e f) (hs:swapsWith e none pos.line X.env = pure false:=by rfl):QS X (.Expr e pos) (zDl f):=.mk <| PS.imp (zJb h.un hs) fun E τ H zz=>by
  obtain ⟨L,σ,M,o,σ',M',c,rs,hf,q⟩:=zz;unfold zDl at hf;split at hf
  · rename_i d M1 e1
    cases hf;exact (mkE c rs e1 (fun L1 H1 v s1 c1 r1=>q L1 H1 s1 c1 τ (rs.stp s1)))
  · cases hf
abbrev FG:=D -> Sd -> Option Sd
def GOk (g:TG) (fg:FG):Prop:=∀ {L:List Addr} {H:Hp} {σ σ':Sd} {τ:Sv} {d:D} {v:V} {Q:Sv -> Hp -> Prop},zAC L H σ τ -> Rep L H d v -> fg d σ = some σ' -> (∀ τ',zAC L H σ' τ' -> Q τ' H) -> g v τ H Q
def gN (i:Nat):FG:=fun d σ=>some (σ.set i (some d))
theorem zH5 {i:Nat}:GOk (zDC i) (gN i):=by
  intro L H σ σ' τ d v Q rs r hf q;unfold gN at hf;cases hf;exact q _ (rs.set r)
abbrev FI:=Sd -> Mem -> Option (List D × Option (Mem -> Prop) × Mem)
def zBM (g:Option (Mem -> Prop)) (xs:List D) (M:Mem):Prop:=match g with
  | none=>True
  | some p=>p M
def zLv (K:PySem.W.Frag) (J:It) (L:List Addr) (H:Hp) (xs:List D) (g:Option (Mem -> Prop)):Prop:=∀ L' H' M',Stp L H L' H' -> Cor K L' M' H' -> zBM g xs M' ->
  (∀ (i:Nat) d,xs[i]? = some d -> J.go i H' /\ ∀ v H'',J.yld i H' v H'' -> (∀ a o,H' a = some o -> H'' a = some o) /\ Rep L' H'' d v) /\ J.stop xs.length H'
def trI (K:PySem.W.Frag) (f:FI):TI:=fun τ H R=>∃ L σ M xs g M',Cor K L M H /\ zAC L H σ τ /\ f σ M = some (xs,g,M') /\ ∀ L' H' J,Stp L H L' H' -> Cor K L' M' H' -> zLv K J L' H' xs g -> R J H'
theorem mkI {K:PySem.W.Frag} {f:FI} {τ:Sv} {H:Hp} {R} {σ:Sd} {M M':Mem} {xs g} (c:Cor K L M H) (r:zAC L H σ τ) (e:f σ M = some (xs,g,M')) (q:∀ L' H' J,Stp L H L' H' -> Cor K L' M' H' -> zLv K J L' H' xs g -> R J H'):trI K f τ H R:=⟨_,_,_,_,_,_,c,r,e,q⟩
structure QI (X:Cx) (tg e:Expr) (f:FI):Prop where
  un:PI X tg e (trI X.K f)
theorem PI.imp {tg e:Expr} {t t':TI} (h:PI X tg e t) (hi:∀ τ H R,t' τ H R -> t τ H R):PI X tg e t':=fun zB s σ H R I q=>h zB s σ H R I (hi _ _ _ q)
noncomputable def zBj (g:FG) (b:FS) (all:List D) (gd:Option (Mem -> Prop)):List D -> Sd -> Mem -> Option (Out × Sd × Mem)
  | [],σ,M=>open Classical in if zBM gd all M then some (.nx,σ,M) else none
  | x :: r,σ,M=>open Classical in if zBM gd all M then match g x σ with
      | some σ1=>match b σ1 M with
        | some (.nx,σ2,M2)=>zBj g b all gd r σ2 M2
        | some (.cnt,σ2,M2)=>zBj g b all gd r σ2 M2
        | some (.brk,σ2,M2)=>some (.nx,σ2,M2)
        | some (.ret d,σ2,M2)=>some (.ret d,σ2,M2)
        | none=>none
      | none=>none
    else none
noncomputable def zEc (fi:FI) (g:FG) (b:FS):FS:=fun σ M=>match fi σ M with
  | some (xs,gd,M1)=>zBj g b xs gd xs σ M1
  | none=>none
theorem zEH {α:Type} {xs:List α} {i:Nat} (h:i < xs.length):xs.drop i = xs[i] :: xs.drop (i + 1):=List.drop_eq_getElem_cons h
theorem Stp.yld {L L':List Addr} {H H' H'':Hp} (s:Stp L H L' H') (h:∀ a o,H' a = some o -> H'' a = some o):Stp L H L' H'':=s.trans (.grow h)
set_option genInjectivity true in
inductive FW (K:PySem.W.Frag) (fg:FG) (b:FS) (xs:List D) (gd:Option (Mem -> Prop)) (r:Option (Out × Sd × Mem)) (L1:List Addr) (H1:Hp):Nat -> Nat -> Sv -> Hp -> Prop
  | mk {i:Nat} {τ':Sv} {H':Hp} {L':List Addr} {σ':Sd} {M':Mem}:i <= xs.length -> Stp L1 H1 L' H' -> Cor K L' M' H' -> zAC L' H' σ' τ' -> zBj fg b xs gd (xs.drop i) σ' M' = r -> FW K fg b xs gd r L1 H1 i (xs.length - i) τ' H'
theorem zHx {K:PySem.W.Frag} {fi:FI} {g:TG} {fg:FG} {b:FS} (hg:GOk g fg) {E:Ends} {τ:Sv} {H:Hp} (h:trS K (zEc fi fg b) E τ H):zNJ (trI K fi) g (trS K b) E τ H:=by
  obtain ⟨L,σ,M,o,σf,Mf,c,rs,hf,q⟩:=h;unfold zEc at hf;split at hf
  · rename_i xs gd M1 e1
    refine (mkI c rs e1 (fun L1 H1 J s1 c1 it=>?_));refine ⟨FW K fg b xs gd (some (o,σf,Mf)) L1 H1,⟨_,.mk (Nat.zero_le _) (.refl _ _) c1 (rs.stp s1) (by simpa using hf)⟩,?_⟩;rintro i m τ' H' ⟨hi,s',c',rs',e'⟩;rename_i L' σ' M';by_cases hlt:i < xs.length
    · rw [zEH hlt] at e'
      unfold zBj at e';split at e'
      · rename_i hgd
        obtain ⟨step,_⟩:=it L' H' M' s' c' hgd;obtain ⟨go,yl⟩:=step i xs[i] (zNv hlt);cases eg:fg xs[i] σ' with
        | none=>rw [eg] at e'; cases e'
        | some σ1=>
          rw [eg] at e';dsimp only at e';refine .inr ⟨go,FW K fg b xs gd (some (o,σf,Mf)) L1 H1 (i + 1) (xs.length - (i + 1)),fun τ2 H2 a=>⟨xs.length - (i + 1),by omega,a⟩,fun v H2 hy=>?_⟩;obtain ⟨gr,rv⟩:=yl v H2 hy;refine hg (zAC.stp (.grow gr) rs') rv eg fun τ2 r2=>?_;cases eb:b σ1 M' with
          | none=>rw [eb] at e'; cases e'
          | some r=>
            obtain ⟨o2,σ2,M2⟩:=r;rw [eb] at e';refine ⟨L',σ1,M',_,_,_,c'.grow gr,r2,eb,fun L3 H3 s3 c3=>?_⟩;have s13:Stp L1 H1 L3 H3:=(s'.yld gr).trans s3;cases o2 with
            | nx=>exact fun τ3 r3=> .mk hlt s13 c3 r3 e'
            | cnt=>exact fun τ3 r3=> .mk hlt s13 c3 r3 e'
            | brk=>cases e'; exact q L3 H3 (s1.trans s13) c3
            | ret d=>cases e'; exact q L3 H3 (s1.trans s13) c3
      · cases e'
    · have hi':i = xs.length:=by omega
      subst hi';rw [List.drop_length] at e';unfold zBj at e';split at e'
      · rename_i hgd
        cases e';obtain ⟨_,stop⟩:=it L' H' _ s' c' hgd;exact .inl ⟨stop,q L' H' (s1.trans s') c' τ' rs'⟩
      · cases e'
  · cases hf
theorem zMm {tg iter:Expr} {body:List Stmt} {fi:FI} {g:TG} {fg:FG} {b:FS} (hg:GOk g fg) (hp:PassesOwn (model X.prog X.w) X.A X.env X.xe) (hc:X.calm = true) (hi:QI X tg iter fi) (ht:PG X tg g) (hb:QSs X body b)
    (hs:∀ x,foldedSetIterable iter X.env x = pure x:=by intro _; rfl):QS X (.For tg iter body [] pos) (zEc fi fg b):=.mk <| PS.imp (zK6 hp hc hi.un ht hb.un hs) fun _ _ _ h=>zHx hg h
end
section
variable {X:Cx} {e c iter tg elt:Expr} {pos:Pos} {scope:Scope} {ifs:List Expr}
def zAk (c:FT) (b:FS):Nat -> Sd -> Mem -> Option (Out × Sd × Mem)
  | 0,_,_=>none
  | n + 1,σ,M=>match c σ M with
    | some (true,M1)=>match b σ M1 with
      | some (.nx,σ2,M2)=>zAk c b n σ2 M2
      | some (.cnt,σ2,M2)=>zAk c b n σ2 M2
      | some (.brk,σ2,M2)=>some (.nx,σ2,M2)
      | some (.ret d,σ2,M2)=>some (.ret d,σ2,M2)
      | none=>none
    | some (false,M1)=>some (.nx,σ,M1)
    | none=>none
theorem zGW {K:PySem.W.Frag} {fc:FT} {b:FS} {n:Nat} {E:Ends} {τ:Sv} {H:Hp} (h:trS K (zAk fc b n) E τ H):zI1 (trT K fc) (trS K b) E τ H:=by
  obtain ⟨L,σ,M,o,σf,Mf,c,rs,hf,q⟩:=h;refine ⟨fun m τ' H'=>∃ L' σ' M',Stp L H L' H' /\ Cor K L' M' H' /\ zAC L' H' σ' τ' /\ zAk fc b m σ' M' = some (o,σf,Mf),⟨n,L,σ,M,.refl _ _,c,rs,hf⟩,?_⟩;rintro m τ' H' ⟨L',σ',M',s',c',rs',e'⟩;cases m with
  | zero=>unfold zAk at e'; cases e'
  | succ m=>
    unfold zAk at e';split at e'
    · rename_i M1 e1
      refine (mkT c' rs' e1 (fun L1 H1 s1 c1=>zFu ?_));refine ⟨fun τ2 H2=>∃ L2 σ2 M2,Stp L H L2 H2 /\ Cor K L2 M2 H2 /\ zAC L2 H2 σ2 τ2 /\ zAk fc b m σ2 M2 = some (o,σf,Mf),fun τ2 H2 h2=>⟨m,Nat.lt_succ_self m,h2⟩,?_⟩;cases eb:b σ' M1 with
      | none=>rw [eb] at e'; cases e'
      | some r=>
        obtain ⟨o2,σ2,M2⟩:=r;rw [eb] at e';refine ⟨L1,σ',M1,_,_,_,c1,rs'.stp s1,eb,fun L3 H3 s3 c3=>?_⟩;have s13:Stp L H L3 H3:=(s'.trans s1).trans s3;cases o2 with
        | nx=>exact fun τ3 r3=>⟨L3,σ2,M2,s13,c3,r3,e'⟩
        | cnt=>exact fun τ3 r3=>⟨L3,σ2,M2,s13,c3,r3,e'⟩
        | brk=>cases e'; exact q L3 H3 s13 c3
        | ret d=>cases e'; exact q L3 H3 s13 c3
    · rename_i M1 e1
      cases e';exact ⟨L',_,M',_,_,c',rs',e1,fun L1 H1 s1 c1=>zFJ (q L1 H1 (s'.trans s1) c1 τ' (rs'.stp s1))⟩
    · cases e'
theorem zJ8 {body:List Stmt} {fc:FT} {b:FS} (n:Nat) (hp:PassesOwn (model X.prog X.w) X.A X.env X.xe) (hc:QT X c fc) (hb:QSs X body b):QS X (.While c body [] pos) (zAk fc b n) := 
  .mk <| PS.imp (zIG hp hc.un hb.un) fun _ _ _ h=>zGW h
def zE4 (own:List Nat) (σ:Sd):Sd:=own.foldl (fun σ i=>σ.set i none) σ
theorem zG9 {L:List Addr} {H:Hp}:∀ (own:List Nat) {σ:Sd} {τ:Sv},zAC L H σ τ -> zAC L H (zE4 own σ) (clr own τ)
  | [],_,_,h=>h
  | i :: r,σ,τ,h=>by
    refine zG9 r (σ:=σ.set i none) (τ:=τ.set i none) ⟨by simp [h.1],fun j d q=>?_⟩;rw [zPQ] at q ⊢;split at q
    · split at q <;> cases q
    · rename_i z
      rw [zN9 z];exact h.2 j d q
noncomputable def zA2 (g:FG) (tc:FT) (te:FE) (σ:Sd) (all:List D) (gd:Option (Mem -> Prop)):List D -> Mem -> Option (List D × Mem)
  | [],M=>open Classical in if zBM gd all M then some ([],M) else none
  | x :: r,M=>open Classical in if zBM gd all M then match g x σ with
      | some σ1=>match tc σ1 M with
        | some (true,M1)=>match toD te σ1 M1 with
          | some (d,M2)=>match zA2 g tc te σ all gd r M2 with
            | some (ds,M3)=>some (d :: ds,M3)
            | none=>none
          | none=>none
        | some (false,M1)=>zA2 g tc te σ all gd r M1
        | none=>none
      | none=>none
    else none
noncomputable def zy (own:List Nat) (fi:FI) (g:FG) (tc:FT) (te:FE):FE:=fun σ M=>match fi σ M with
  | some (xs,gd,M1)=>if xs.length <= sizeLine then match zA2 g tc te (zE4 own σ) xs gd xs M1 with
      | some (ys,M2)=>some (.fl ys,M2)
      | none=>none
    else none
  | none=>none
/-- what a target of a comprehension does: it sets names of its own -/
def zKC (own:List Nat) (g:TG) (fg:FG):Prop:=∀ {L:List Addr} {H:Hp} {σ σ':Sd} {τ τ0:Sv} {d:D} {v:V} {Q:Sv -> Hp -> Prop},zAC L H σ τ -> Ext (clr own τ0) τ -> Rep L H d v -> fg d σ = some σ' -> (∀ τ',zAC L H σ' τ' -> Ext (clr own τ0) τ' -> Q τ' H) -> g v τ H Q
theorem zEW {own:List Nat} {i:Nat} (hi:i ∈ own):zKC own (zDC i) (gN i):=by
  intro L H σ σ' τ τ0 d v Q rs ex r hf q;unfold gN at hf;cases hf;exact q _ (rs.set r) (ex.set hi)
set_option genInjectivity true in
inductive CW (K:PySem.W.Frag) (fg:FG) (tc:FT) (te:FE) (σ0:Sd) (xs:List D) (gd:Option (Mem -> Prop)) (Mf:Mem) (zs:List D) (L1:List Addr) (H1:Hp):Nat -> Nat -> List V -> Hp -> Prop
  | mk {i:Nat} {ys:List V} {H':Hp} {L':List Addr} {M':Mem} {as bs:List D}:i <= xs.length -> Stp L1 H1 L' H' -> Cor K L' M' H' -> zG L' H' as ys -> as.length <= i -> zA2 fg tc te σ0 xs gd (xs.drop i) M' = some (bs,Mf) -> as ++ bs = zs -> CW K fg tc te σ0 xs gd Mf zs L1 H1 i (xs.length - i) ys H'
theorem zHm {K:PySem.W.Frag} {own:List Nat} {fi:FI} {g:TG} {fg:FG} {tc:FT} {te:FE} (hg:zKC own g fg) {τ:Sv} {H:Hp} {Q:VK} (h:trE K (zy own fi fg tc te) τ H Q):zKl own (trI K fi) g (trT K tc) (trD K (toD te)) τ H Q:=by
  obtain ⟨L,σ,M,d,Mf,c,rs,hf,q⟩:=h;unfold zy at hf;split at hf
  · rename_i xs gd M1 e1
    split at hf
    · rename_i hz
      split at hf
      · rename_i zs M2 e2
        cases hf;refine (mkI c rs e1 (fun L1 H1 J s1 c1 it=>?_));refine ⟨CW K fg tc te (zE4 own σ) xs gd Mf zs L1 H1,⟨_,.mk (Nat.zero_le _) (.refl _ _) c1 .nil (zNx _) (by simpa using e2) rfl⟩,?_⟩;rintro i m ys H' ⟨hi,s',c',r',hl,e',hab⟩;rename_i L' M' as bs;have hys:ys.length <= i:=by rw [r'.length]; exact hl
        by_cases hlt:i < xs.length
        · rw [zEH hlt] at e'
          unfold zA2 at e';split at e'
          · rename_i hgd
            obtain ⟨step,_⟩:=it L' H' M' s' c' hgd;obtain ⟨go,yl⟩:=step i xs[i] (zNv hlt);split at e'
            · rename_i σ1 eg
              refine .inr ⟨go,fun v H2 hy=>?_⟩;obtain ⟨gr,rv⟩:=yl v H2 hy;have s2:Stp L1 H1 L' H2:=s'.yld gr;refine hg (zG9 own ((rs.stp s1).stp s2)) (.refl _) rv eg fun τ2 r2 x2=>⟨x2,?_⟩;split at e'
              · rename_i M3 e3
                split at e'
                · rename_i d M4 e4
                  split at e'
                  · rename_i ds M5 e5
                    cases e';refine (mkT (c'.grow gr) r2 e3 (fun L3 H3 s3 c3=>zFu ?_));refine (mkD c3 (r2.stp s3) e4 (fun L4 H4 w s4 c4 r4=>?_));have st:Stp L' H' L4 H4:=((Stp.grow gr).trans s3).trans s4;refine ⟨Nat.lt_of_le_of_lt hys (zOG hlt hz),xs.length - (i + 1),by omega,.mk (as:=as ++ [d]) hlt (s'.trans st) c4 ((r'.stp st).app (.cons r4 .nil)) (by simp; omega) e5 (by rw [<- hab]; simp)⟩
                  · cases e'
                · cases e'
              · rename_i M3 e3
                refine (mkT (c'.grow gr) r2 e3 (fun L3 H3 s3 c3=>zFJ ?_));have st:Stp L' H' L3 H3:=(Stp.grow gr).trans s3;exact ⟨xs.length - (i + 1),by omega,.mk hlt (s'.trans st) c3 (r'.stp st) (by omega) e' hab⟩
              · cases e'
            · cases e'
          · cases e'
        · have hi':i = xs.length:=by omega
          subst hi';rw [List.drop_length] at e';unfold zA2 at e';split at e'
          · rename_i hgd
            cases e';obtain ⟨_,stop⟩:=it L' H' _ s' c' hgd;refine .inl ⟨stop,zOI hys hz,fun p hp=>?_⟩;rw [List.append_nil] at hab;subst hab;exact q L' _ _ ((s1.trans s').trans (.upd hp)) (c'.upd hp) (zO.newLst (s1.trans s') c c' hp r')
          · cases e'
      · cases hf
    · cases hf
  · cases hf
structure QIfs (X:Cx) (ifs:List Expr) (f:FT):Prop where
  un:zIO X ifs (trT X.K f)
def zAf:FT:=fun _ M=>some (true,M)
theorem zF6:QIfs X [] zAf:=.mk fun zB s σ H Q I h=>by
  obtain ⟨L,σ',M,d,M',c,rs,hf,q⟩:=h;unfold zAf at hf;cases hf;exact zI6 zB s σ H Q I (q L H (.refl L H) c)
theorem zLD {f:FT} (h:QT X c f):QIfs X [c] f:=.mk (zJR h.un)
/-- the parts of a comprehension in its block -/
structure QParts (X:Cx) (scope:Scope) (tg:Expr) (ifs:List Expr) (elt:Expr) (g:TG) (tc:FT) (te:FE):Prop where
  g:∀ zB cl s H fp,PG (zu X zB scope cl s H fp) tg g
  c:∀ zB cl s H fp,QIfs (zu X zB scope cl s H fp) ifs tc
  e:∀ zB cl s H fp,QE (zu X zB scope cl s H fp) elt te
theorem QParts.parts {g:TG} {tc:FT} {te:FE} (p:QParts X scope tg ifs elt g tc te):CompParts X scope tg ifs elt g (trT X.K tc) (trD X.K (toD te)) :=
  ⟨p.g,fun zB cl s H fp=>(p.c zB cl s H fp).un,fun zB cl s H fp=>(zBo (p.e zB cl s H fp)).un⟩
theorem zGf {own:List Nat} {fi:FI} {g:TG} {fg:FG} {tc:FT} {te:FE} (hg:zKC own g fg) (C:CompIn X scope own) (hcalm:X.calm = true) (hi:QI X tg iter fi) (p:QParts X scope tg ifs elt g tc te) (hs:∀ x,foldedSetIterable iter X.env x = pure x:=by intro _; rfl) :
    QE X (.ListComp elt [⟨tg,iter,ifs,0⟩] scope pos) (zy own fi fg tc te):=.mk <| PE.imp (zKb C hcalm hi.un p.parts hs) fun _ _ _ h=>zHm hg h
end
abbrev FF:=List D -> Mem -> Option (D × Mem)
def spF (K:PySem.W.Frag) (n:Nat) (g:FF):Sp:=fun vs H Q _=>∃ L ds M d M',Cor K L M H /\ zG L H ds vs /\ ds.length = n /\ g ds M = some (d,M') /\ ∀ L' H' v,Stp L H L' H' -> Cor K L' M' H' -> Rep L' H' d v -> Q v H'
def zK (g:FF) (fa:FA):FE:=fun σ M=>match fa σ M with
 | some (ds,M1)=>match g ds M1 with
  | some (d,M2)=>some (.dat d,M2)
  | none=>none
 | none=>none
section
variable {X:Cx} {e:Expr} {es:List Expr} {pos p:Pos} {x:Str} {k:Nat} {f:Addr} {fd:FuncData} {ps:List Str}
theorem zLf (F:FnOk X.prog X.w X.K X.mg X.base CX0 k f fd ps (spF X.K (e :: es).length g)) (hr:Room k X.A) (hg:Gl X x) (hm:X.mg x = some (.ref f)) (hk:PySem.W.keepIn X.K (.ref f) = true) (hb:zCW X.K fd ps [])
  (ha:QA X (e :: es) fa) (hl:∀ σ M ds M1,fa σ M = some (ds,M1) -> ds.length = (e :: es).length) (hdb:(x == ("__debug__" : Str)) = false:=by decide) (he:starEach (e :: es) X.env = (false,eval e X.env) :: starEach es X.env:=by rfl) (hpl:(backTo pos (starEach es X.env)).any (·.1) = false:=by rfl) :
  QE X (.Call (.Name x p) (e :: es) [] pos) (zK g fa) :=
 .mk <| PE.imp (zJj F hr hg hm hk hb .nil zMd ha.un hdb he hpl) fun τ H Q zz=>by
  obtain ⟨L,σ,M,d,M',c,rs,hf,q⟩:=zz;unfold zK at hf;split at hf
  ·rename_i ds M1 e1;split at hf
   ·rename_i d' M2 e2;cases hf;refine ⟨L,σ,M,_,_,c,rs,e1,fun L1 H1 vs s1 c1 r1=>?_⟩;dsimp only;rw [List.append_nil];exact ⟨L1,ds,M1,d',_,c1,r1,hl _ _ _ _ e1,e2,fun L2 H2 v s2 c2 r2=>q L2 H2 v (s1.trans s2) c2 r2⟩
   ·cases hf
  ·cases hf
def zId (fa:FA) (n:Nat):Prop:=∀ σ M ds M1,fa σ M = some (ds,M1) -> ds.length = n
theorem zDq:zId zJ 0:=fun σ M ds M1 h=>by unfold zJ at h; cases h; rfl
theorem zBJ {f:FD} {g:FA} {n:Nat} (h:zId g n):zId (zD f g) (n + 1):=fun σ M ds M1 q=>by
 unfold zD at q;split at q
 ·split at q
  ·rename_i e2;cases q;simp [h _ _ _ _ e2]
  ·cases q
 ·cases q
def zBK (n:Nat) (b:FS):FF:=fun ds M=>match b (ds.map some ++ List.replicate (n - ds.length) none) M with
 | some (.ret d,_,M')=>some (d,M')
 | some (.nx,_,M')=>some (.non,M')
 | _=>none
theorem zCw:∀ {ds:List D} {vs:List V},zG L H ds vs -> zAC L H (ds.map some ++ List.replicate (N.length - ds.length) none) (L2.zB3 N vs):=fun {ds vs} r=>by
 unfold L2.zB3;have hl:=r.length;refine ⟨by simp [hl],fun i d q=>?_⟩;by_cases hi:i < ds.length
 ·rw [zNy (by simpa using hi),List.getElem?_map] at q;rw [zNy (by simpa [hl] using hi),List.getElem?_map];cases e1:ds[i]? with
  | none=>rw [e1] at q; cases q
  | some d'=>
   rw [e1] at q; cases q;obtain ⟨v,e2,r2⟩:=r.get e1;exact ⟨v,by rw [e2]; rfl,r2⟩
 ·rw [List.getElem?_append_right (by simpa using hi),List.getElem?_replicate] at q;split at q <;> cases q
theorem zAM {P:Program} {w:World} {K:PySem.W.Frag} {mg:Str -> Option Value} {base:Heap} {qual:Str} {st:Stmt} {N:List Str} {b:FS} {n:Nat} (F:Fun K x qual st f fd) (S:FnScope N ps (zI st)) (hn:ps.length = n)
  (hb:∀ (cdv:Value) (A:Around) (outer:List Env) (s:Shared) (H:Hp) (E:XK),Room k (A.deeper (envOfC qual (zI st) s.heap.objs.size f cdv)) -> QSs (zFa CX0 P w K mg base N qual (zI st) f cdv A outer s H E).nox (zAq st) b) :
  FnOk P w K mg base CX0 (k + 1) f fd ps (spF K n (zBK N.length b)):=by
 refine F.ok S (fun vs H Q E h=>?_) (fun cdv A outer s H vs Q E hr h=>⟨_,(hb cdv A outer s H E hr).un,?_⟩)
 ·obtain ⟨L,ds,M,d,M',c,r,hl,_⟩:=h;rw [r.length,hl,hn]
 ·obtain ⟨L,ds,M,d,M',c,r,hl,hf,q⟩:=h;unfold zBK at hf;split at hf
  ·rename_i d' σ' M1 e1;cases hf;exact ⟨L,_,M,_,_,_,c,zCw r,e1,fun L1 H1 s1 c1 v r1=>q L1 H1 v s1 c1 r1⟩
  ·rename_i σ' M1 e1;cases hf;exact ⟨L,_,M,_,_,_,c,zCw r,e1,fun L1 H1 s1 c1 τ' r1=>q L1 H1 .non s1 c1 (by unfold Rep; rfl)⟩
  ·cases hf
mutual
def D.und (n:Nat):D -> Bool
 | .tup ds=>D.unds n ds
 | .ref k=>decide (k < n)
 | .fn _ ds=>D.unds n ds
 | _=>true
def D.unds (n:Nat):List D -> Bool
 | []=>true
 | d :: ds=>D.und n d && D.unds n ds
end
mutual
theorem Rep.less:∀ {d:D} {v:V},D.und L.length d = true -> Rep (L ++ N) H d v -> Rep L H d v
 | .non,_,_,h=>by unfold Rep at h ⊢; exact h
 | .bl _,_,_,h=>by unfold Rep at h ⊢; exact h
 | .int _,_,_,h=>by unfold Rep at h ⊢; exact h
 | .str _,_,_,h=>by unfold Rep at h ⊢; exact h
 | .tup ds,_,hb,h=>by
  unfold D.und at hb;unfold Rep at h ⊢;obtain ⟨a,vs,rfl,e,r⟩:=h;exact ⟨a,vs,rfl,e,zG.less hb r⟩
 | .ref n,_,hb,h=>by
  unfold D.und at hb;unfold Rep at h ⊢;obtain ⟨a,rfl,e⟩:=h;exact ⟨a,rfl,by rwa [zNy (of_decide_eq_true hb)] at e⟩
 | .fn _ ds,_,hb,h=>by
  unfold D.und at hb;unfold Rep at h ⊢;exact ⟨h.1,h.2.1,zG.less hb h.2.2⟩
theorem zG.less:∀ {ds:List D} {vs:List V},D.unds L.length ds = true -> zG (L ++ N) H ds vs -> zG L H ds vs
 | [],_,_,h=>by unfold zG at h ⊢; exact h
 | d :: ds,_,hb,h=>by
  unfold D.unds at hb;rw [zOR] at hb;unfold zG at h ⊢;obtain ⟨v,r,rfl,h1,h2⟩:=h;exact ⟨v,r,rfl,Rep.less hb.1 h1,zG.less hb.2 h2⟩
end
theorem zA7.less {κ:Type} {kf:D -> Option κ} {L N:List Addr} {H:Hp}:∀ {ps:List (D × D)} {vs:List (κ × V)},(ps.all fun p=>D.und L.length p.1 && D.und L.length p.2) = true -> zA7 kf (L ++ N) H ps vs -> zA7 kf L H ps vs
 | [],_,_,h=>h
 | p :: r,_,hb,h=>by
  rw [List.all_cons,zOR,zOR] at hb;obtain ⟨k,v,r',rfl,e,h1,h2⟩:=h;exact ⟨k,v,r',rfl,e,Rep.less hb.1.2 h1,zA7.less hb.2 h2⟩
def MO.und (n:Nat):MO -> Bool
 | .lst xs=>D.unds n xs
 | .fro xs=>D.unds n xs
 | .dict kvs=>kvs.all fun p=>D.und n p.1 && D.und n p.2
 | .dicT kvs=>kvs.all fun p=>D.und n p.1 && D.und n p.2
 | .set xs=>D.unds n xs
 | .froT kvs=>kvs.all fun p=>D.und n p.1 && D.und n p.2
 | .froK kvs=>kvs.all fun p=>D.und n p.1 && D.und n p.2
def zFT (g:FF):FF:=fun ds M=>match g ds M with
 | some (d,M')=>if D.und M.length d && (M'.take M.length).all (MO.und M.length) && decide (M.length <= M'.length) then some (d,M'.take M.length) else none
 | none=>none
theorem zJd {P:Program} {w:World} {K:PySem.W.Frag} {mg:Str -> Option Value} {base:Heap} {n:Nat} {g:FF} (h:FnOk P w K mg base CX0 k f fd ps (spF K n g)):FnOk P w K mg base CX0 k f fd ps (spF K n (zFT g)) :=
 h.imp fun vs H Q E ⟨L,ds,M,d,M',c,r,hl,hf,q⟩=>by
  unfold zFT at hf;split at hf
  ·rename_i d' M1 e1;split at hf
   ·rename_i hb;cases hf;simp only [zOR,zO4,zOS] at hb;obtain ⟨⟨hb1,hb2⟩,hb3⟩:=hb;refine ⟨L,ds,M,_,_,c,r,hl,e1,fun L1 H1 v s1 c1 r1=>?_⟩;obtain ⟨N,rfl⟩:=s1.pre;rw [<- c.len] at hb1 hb2 hb3;refine q L H1 v ⟨⟨[],by simp⟩,fun a ha=> .inl ha,s1.old,s1.tup,s1.frz,s1.tbl⟩ ⟨?_,?_,fun i a m e2 e3=>?_,c1.tab⟩ (Rep.less hb1 r1)
    ·rw [zPF,<- c.len]; omega
    ·exact (List.nodup_append.mp c1.nd).1
    ·rw [<- c.len] at e3;have hi:i < L.length:=(zNu.mp e2).1;have hm:m ∈ M1.take L.length:=List.mem_of_getElem? e3;rw [List.getElem?_take_of_lt hi] at e3;have z:=c1.obj i a m (zDR e2) e3;have bl:=hb2 m hm;cases m with
     | lst xs=>obtain ⟨ws,e4,r4⟩:=z; exact ⟨ws,e4,zG.less bl r4⟩
     | fro xs=>obtain ⟨o,ws,e4,r4⟩:=z; exact ⟨o,ws,e4,zG.less bl r4⟩
     | dict ps=>obtain ⟨vs,e,r⟩:=z; exact ⟨vs,e,zA7.less bl r⟩
     | dicT ps=>obtain ⟨vs,e,r⟩:=z; exact ⟨vs,e,zA7.less bl r⟩
     | set _=>exact z
     | froT ps=>obtain ⟨o,vs,e,r⟩:=z; exact ⟨o,vs,e,zA7.less bl r⟩
     | froK ps=>obtain ⟨o,vs,e,r⟩:=z; exact ⟨o,vs,e,zA7.less bl r⟩
   ·cases hf
  ·cases hf
theorem zLc (hl:PE X l tl):PI X tg l (fun σ H R=>tl σ H fun x H1=>∃ a,x = .ref a /\ ((∃ xs,SqL X.K H1 a xs) /\ R (Itl X.K a) H1 \/ (∃ xs,SqT X.K H1 a xs) /\ R (Itt X.K a) H1)):=by
 intro zB s σ H R I h;refine thn (hl zB s σ H _ I h) fun v s1 ⟨y,H1,I1,r1,a,hy,h1⟩=>?_;subst hy;cases r1;have fpk:∀ b ∈ [s1.heap.objs.size],zCM X zB H1 b:=fun b hb=>by
  have e:b = s1.heap.objs.size:=by simpa using hb
  subst e;exact I1.fpOk (zNx _) (I1.hok.fresh (zNx _))
 rcases h1 with ⟨⟨xs,hq⟩,q⟩ | ⟨⟨xs,hq⟩,q⟩
 ·obtain ⟨its,rv,pl,hz⟩:=I1.list hq;exact wpAny_pyIter_list pl.isList ⟨s1.heap.objs.size,[s1.heap.objs.size],_,_,H1,rfl,I1.kept (t':=s1.toks) fun b o e=>zNs _ e,zHZ a _,⟨_,zN1 _ rfl,rfl,rfl⟩,fpk,q⟩
 ·obtain ⟨its,rv,pl,hz⟩:=I1.tuple hq;exact wpAny_pyIter_tuple (show s1.heap.IsTuple a its.toArray from pl) ⟨s1.heap.objs.size,[s1.heap.objs.size],_,_,H1,rfl,I1.kept (t':=s1.toks) fun b o e=>zNs _ e,zGd a _,⟨_,zN1 _ rfl,rfl,rfl⟩,fpk,q⟩
def zND (x:EV) (xs:List D):Option (Mem -> Prop):=match x with
 | .dat (.ref n)=>some fun M=>M[n]? = some (.lst xs) \/ M[n]? = some (.fro xs)
 | _=>none
def zDI (f:FE):FI:=fun σ M=>match f σ M with
 | some (x,M1)=>match zAO M1 x with
  | some xs=>some (xs,zND x xs,M1)
  | none=>none
 | none=>none
def zAl (f:FA):FI:=fun σ M=>match f σ M with
 | some ([.int j],M1)=>if -(2 ^ 62) <= j /\ j < 2 ^ 62 then some ((List.range j.toNat).map fun (k:Nat)=>D.int k,none,M1) else none
 | some ([.int i,.int j],M1)=>if -(2 ^ 62) <= i /\ i < 2 ^ 62 /\ -(2 ^ 62) <= j /\ j < 2 ^ 62 then some ((List.range (j - i).toNat).map fun (k:Nat)=>D.int (i + k),none,M1) else none
 | _=>none
theorem zLt (h:QE X e g):QI X tg e (zDI g):=.mk <| PI.imp (zLc h.un) fun τ H R zz=>by
 obtain ⟨L,σ,M,xs,gd,M',c,rs,hf,q⟩:=zz;unfold zDI at hf;split at hf
 ·rename_i y M1 e1;split at hf
  ·rename_i zs e2;cases hf;refine (mkE c rs e1 (fun L1 H1 v s1 c1 r1=>?_));unfold zAO at e2;cases t:zB6 y with
   | some ws=>
    rw [t] at e2; cases e2;obtain ⟨a,vs,rfl,e3,r3⟩:=zA1 r1 t;refine ⟨a,rfl,.inr ⟨⟨vs,.of e3⟩,q L1 H1 _ s1 c1 fun L2 H2 M2 s2 c2 _=>?_⟩⟩;have e4:=s2.tup a vs e3;have r4:=r3.stp s2;refine ⟨fun i d hd=>?_,⟨vs,.of e4,by rw [r4.length]; exact zNx _⟩⟩;obtain ⟨u,hu,ru⟩:=r4.get hd;refine ⟨⟨vs,u,.of e4,hu⟩,fun v H3 ⟨hH,hv⟩=>?_⟩;subst hH;have:=hv vs (.of e4);rw [hu] at this; cases this;exact ⟨fun _ _ z=>z,ru⟩
   | none=>
    rw [t] at e2;dsimp only at e2;obtain ⟨a,vs,rfl,e3,r3⟩:=zAo c1 r1 e2;refine ⟨a,rfl,.inl ⟨⟨vs,.inl e3⟩,q L1 H1 _ s1 c1 fun L2 H2 M2 s2 c2 hgd=>?_⟩⟩;have key:∃ vs',SqL X.K H2 a vs' /\ zG L2 H2 xs vs':=by
     cases y with
     | fl ys=>
      cases e2;obtain ⟨p',vs',hp',_,e5,e6,r6⟩:=r1;cases hp';exact ⟨vs',.of (s2.old _ _ e5 e6 (by intro _ z; cases z)),r6.stp s2⟩
     | dat d=>
      cases d with
      | ref n=>
       unfold zO Rep at r1;obtain ⟨a',ha',e5⟩:=r1;cases ha';have e6:L2[n]? = some a:=by obtain ⟨N,hN⟩:=s2.pre; rw [hN]; exact zDR e5
       rcases hgd with z | z
       ·obtain ⟨vs',e7,r7⟩:=c2.obj n a _ e6 z; exact ⟨vs',.of e7,r7⟩
       ·obtain ⟨o,vs',e7,r7⟩:=c2.obj n a _ e6 z; exact ⟨vs',.inl (.inr ⟨o,e7⟩),r7⟩
      | _=>cases e2
    obtain ⟨vs',hq,r7⟩:=key;refine ⟨fun i d hd=>?_,⟨vs',hq,by rw [r7.length]; exact zNx _⟩⟩;obtain ⟨u,hu,ru⟩:=r7.get hd;refine ⟨⟨vs',u,hq,hu⟩,fun v H3 ⟨hH,hv⟩=>?_⟩;subst hH;have:=hv vs' hq;rw [hu] at this; cases this;exact ⟨fun _ _ z=>z,ru⟩
  ·cases hf
 ·cases hf
theorem zET (h:zG L H [.int j] vs):vs = [.int j]:=by
 unfold zG at h;obtain ⟨v,r,rfl,h1,h2⟩:=h;unfold zG at h2;unfold Rep at h1;subst h1 h2; rfl
theorem zIc {K:PySem.W.Frag} {L:List Addr} {H:Hp} {lo:Int} {n:Nat}:zLv K (Itr lo n) L H ((List.range n).map fun (k:Nat)=>D.int (lo + k)) none:=by
 intro L' H' M' s c _;refine ⟨fun i d hd=>?_,by simp [Itr]⟩;rw [List.getElem?_map] at hd;cases q:(List.range n)[i]? with
 | none=>rw [q] at hd; cases hd
 | some k=>
  rw [q] at hd; cases hd;have hi:i < n:=by have:=(zNu.mp q).1; simpa using this
  rw [List.getElem?_range hi] at q; cases q;refine ⟨hi,fun v H'' ⟨hH,hv⟩=>?_⟩;subst hH hv;exact ⟨fun _ _ z=>z,zAK⟩
theorem zHK {tg a:Expr} {g:FA} (hg:Gl X "range") (hm:X.mg "range" = none) (ha:QA X [a] g) (hl:zId g 1) (hs:starEach [a] X.env = [(false,eval a X.env)]:=by rfl):QI X tg (.Call (.Name "range" p) [a] [] pos) (zAl g) :=
 .mk <| PI.imp (zHb hg hm ha.un hs) fun τ H R zz=>by
  obtain ⟨L,σ,M,xs,gd,M',c,rs,hf,q⟩:=zz;unfold zAl at hf;split at hf
  ·rename_i j M1 e1;split at hf
   ·rename_i hb;cases hf;refine (mkA c rs e1 (fun L1 H1 vs s1 c1 r1=>⟨j,zET r1,hb.1,hb.2,q L1 H1 _ s1 c1 ?_⟩));have z:=zIc (K:=X.K) (L:=L1) (H:=H1) (lo:=0) (n:=j.toNat);simpa using z
   ·cases hf
  ·rename_i e1;have:=hl _ _ _ _ e1;simp at this
  ·cases hf
end
section
variable {X:Cx} {a b c e:Expr} {es rest:List Expr} {pos p apos cpos:Pos}
def zDa (f g:FT):FT:=fun σ M=>match f σ M with
 | some (true,M1)=>g σ M1
 | r=>r
def zCL (f g:FT):FT:=fun σ M=>match f σ M with
 | some (false,M1)=>g σ M1
 | r=>r
def zBI (f:FT):FT:=fun σ M=>match f σ M with
 | some (k,M1)=>some (!k,M1)
 | none=>none
structure QW (X:Cx) (e:Expr) (f:FT):Prop where
 un:PW X e (trT X.K f)
theorem PW.imp (h:PW X e t) (hi:∀ τ H Q,t' τ H Q -> t τ H Q):PW X e t':=fun wh zB s σ H Q I q=>h wh zB s σ H Q I (hi _ _ _ q)
theorem zJZ (h:QT X a f):QW X (.BoolOp .And [a] pos) f:=.mk (zJa h.un)
theorem zGC (h:QT X a f):QW X (.BoolOp .Or [a] pos) f:=.mk (zJG h.un)
theorem zLI (h1:QT X a f) (h2:QW X (.BoolOp .And (b :: rest) pos) g):QW X (.BoolOp .And (a :: b :: rest) pos) (zDa f g):=.mk <| PW.imp (zL3 h1.un h2.un) fun τ H Q zz=>by
 obtain ⟨L,σ,M,d,M',c,rs,hf,q⟩:=zz;unfold zDa at hf;split at hf
 ·rename_i M1 e1;exact (mkT c rs e1 (fun L1 H1 s1 c1=>zFu (mkT c1 (rs.stp s1) hf (fun L2 H2 s2 c2=>q L2 H2 (s1.trans s2) c2))))
 ·rename_i hne;cases d with
  | true=>exact absurd hf (hne M')
  | false=>exact (mkT c rs hf (fun L1 H1 s1 c1=>zFJ (q L1 H1 s1 c1)))
theorem zJH (h1:QT X a f) (h2:QW X (.BoolOp .Or (b :: rest) pos) g):QW X (.BoolOp .Or (a :: b :: rest) pos) (zCL f g):=.mk <| PW.imp (zH0 h1.un h2.un) fun τ H Q zz=>by
 obtain ⟨L,σ,M,d,M',c,rs,hf,q⟩:=zz;unfold zCL at hf;split at hf
 ·rename_i M1 e1;exact (mkT c rs e1 (fun L1 H1 s1 c1=>zFJ (mkT c1 (rs.stp s1) hf (fun L2 H2 s2 c2=>q L2 H2 (s1.trans s2) c2))))
 ·rename_i hne;cases d with
  | false=>exact absurd hf (hne M')
  | true=>exact (mkT c rs hf (fun L1 H1 s1 c1=>zFu (q L1 H1 s1 c1)))
theorem zJk (h:QW X e f):QT X e f:=.mk (PW.pt h.un)
theorem zGb (h:QT X a f):QT X (.UnaryOp .Not a pos) (zBI f):=.mk <| PT.imp (zGK h.un) fun τ H Q zz=>by
 obtain ⟨L,σ,M,d,M',c,rs,hf,q⟩:=zz;unfold zBI at hf;split at hf
 ·rename_i k M1 e1;cases hf;exact (mkT c rs e1 (fun L1 H1 s1 c1=>q L1 H1 s1 c1))
 ·cases hf
def zBz (f g:FE):FE:=fun σ M=>match f σ M with
 | some (.dat (.bl true),M1)=>g σ M1
 | some (.dat (.bl false),M1)=>some (.dat (.bl false),M1)
 | _=>none
def zFg (f:FE):FE:=fun σ M=>match f σ M with
 | some (.dat (.bl k),M1)=>some (.dat (.bl (!k)),M1)
 | _=>none
theorem zAN (h:zO H0 L H (.dat (.bl k)) v):v = .bl k:=by unfold zO Rep at h; exact h
theorem zFB {op} (h:QE X a f):QE X (.BoolOp op [a] pos) f:=.mk (zLo h.un)
theorem zD1 (h1:QE X a f) (h2:QE X (.BoolOp .And (b :: rest) pos) g):QE X (.BoolOp .And (a :: b :: rest) pos) (zBz f g):=.mk <| PE.imp (zLG h1.un h2.un) fun τ H Q zz=>by
 obtain ⟨L,σ,M,d,M',c,rs,hf,q⟩:=zz;unfold zBz at hf;split at hf
 ·rename_i M1 e1;exact (mkE c rs e1 (fun L1 H1 v s1 c1 r1=>⟨true,zAN r1,zFu (mkE c1 (rs.stp s1) hf (fun L2 H2 w s2 c2 r2=>q L2 H2 w (s1.trans s2) c2 (r2.back s1 c s2.sub)))⟩))
 ·rename_i M1 e1;cases hf;exact (mkE c rs e1 (fun L1 H1 v s1 c1 r1=>⟨false,zAN r1,zFJ (q L1 H1 _ s1 c1 (by have:=zAN r1; subst this; exact r1))⟩))
 ·cases hf
theorem zJE (h:QE X a f):QE X (.UnaryOp .Not a pos) (zFg f):=.mk <| PE.imp (zLB h.un) fun τ H Q zz=>by
 obtain ⟨L,σ,M,d,M',c,rs,hf,q⟩:=zz;unfold zFg at hf;split at hf
 ·rename_i k M1 e1;cases hf;exact (mkE c rs e1 (fun L1 H1 v s1 c1 r1=>⟨k,zAN r1,q L1 H1 _ s1 c1 (by unfold zO Rep; rfl)⟩))
 ·cases hf
abbrev KM:=EV -> List D -> Mem -> Option (D × Mem)
def fM (k:KM) (f:FE) (g:FA):FE:=fun σ M=>match f σ M with
 | some (x,M1)=>match zAQ M1 x with
  | some _=>match g σ M1 with
   | some (ds,M2)=>match k x ds M2 with
    | some (d,M3)=>some (.dat d,M3)
    | none=>none
   | none=>none
  | none=>none
 | none=>none
def zLM (K:PySem.W.Frag) (r:V -> List V -> Hp -> VK -> Prop) (k:KM):Prop:=∀ {L:List Addr} {M M':Mem} {H H0:Hp} {x:EV} {ds:List D} {d:D} {v:V} {vs:List V} {Q:VK},Cor K L M H -> zO H0 L H x v -> zG L H ds vs -> k x ds M = some (d,M') ->
 (∀ L' H' u,Stp L H L' H' -> Cor K L' M' H' -> Rep L' H' d u -> Q u H') -> r v vs H Q
theorem zJF {K:PySem.W.Frag} {r:V -> List V -> Hp -> VK -> Prop} {k:KM} {f:FE} {g:FA} (hk:zLM K r k) {τ:Sv} {H:Hp} {Q:VK} (h:trE K (fM k f g) τ H Q):tBM K "list" r (trE K f) (trA K g) τ H Q:=by
 obtain ⟨L,σ,M,d,M',c,rs,hf,q⟩:=h;unfold fM at hf;split at hf
 ·rename_i x M1 e1;split at hf
  ·rename_i xs e2;split at hf
   ·rename_i ds M2 e3;split at hf
    ·rename_i d' M3 e4;cases hf;refine (mkE c rs e1 (fun L1 H1 v s1 c1 r1=>?_));obtain ⟨a,vs,rfl,e5,r5⟩:=zAo c1 r1 e2;refine ⟨.inl ⟨rfl,vs,.inl e5⟩,L1,σ,M1,_,_,c1,rs.stp s1,e3,fun L2 H2 ws s2 c2 r2=>?_⟩;exact hk c2 (r1.stp s2) r2 e4 fun L3 H3 u s3 c3 r3=>q L3 H3 u ((s1.trans s2).trans s3) c3 r3
    ·cases hf
   ·cases hf
  ·cases hf
 ·cases hf
def zBQ:KM:=fun x ds M=>match x,ds with
 | .dat (.ref n),[d]=>match M[n]? with
  | some (.lst xs)=>if xs.length < sizeLine then some (.non,M.set n (.lst (xs ++ [d]))) else none
  | _=>none
 | _,_=>none
theorem zG.one (h:zG L H [d] vs):∃ v,vs = [v] /\ Rep L H d v:=by
 unfold zG at h;obtain ⟨v,r,rfl,h1,h2⟩:=h;unfold zG at h2;subst h2;exact ⟨v,rfl,h1⟩
theorem zGg {K:PySem.W.Frag}:zLM K zHD zBQ:=by
 intro L M M' H H0 x ds d v vs Q c rx rd hk q;unfold zBQ at hk;split at hk
 ·rename_i n d';split at hk
  ·rename_i xs e1;split at hk
   ·rename_i hz;cases hk;unfold zO Rep at rx;obtain ⟨a,rfl,e2⟩:=rx;obtain ⟨ws,e3,r3⟩:=c.obj n a _ e2 e1;obtain ⟨w,rfl,r4⟩:=rd.one;obtain ⟨c5,s5⟩:=c.write e2 e1 (r3.app (.cons r4 .nil));exact ⟨a,ws,w,rfl,rfl,e3,by rw [r3.length]; exact hz,q L _ _ s5 c5 (by unfold Rep; rfl)⟩
   ·cases hk
  ·cases hk
 ·cases hk
theorem zJL (h:QE X a f) (hg:QA X [e] g) (hbase:attributeBase a "append" X.env (eval a X.env) = eval a X.env:=by rfl)
  (hfew:((backTo cpos (starEach [e] X.env)).all (fun x=> !x.1) && (backToKw cpos (keywordEach [] X.env)).all (fun x=>x.1.isSome) && decide ([e].length + ([]:List Keyword).length + (if ([]:List Keyword).isEmpty then 0 else 1) < 30)) = true:=by rfl)
  (hline:(apos.endLine == cpos.line) = true:=by rfl) (hs:starEach [e] X.env = (false,eval e X.env) :: starEach [] X.env:=by rfl) (hplain:(backTo cpos (starEach [] X.env)).any (·.1) = false:=by rfl) :
  QE X (.Call (.Attribute a "append" apos) [e] [] cpos) (fM zBQ f g) :=
 .mk <| PE.imp (zFm PySem.F.plainAttrs_list PySem.F.slot_list_append PySem.F.type_list_append zHj h.un hg.un hbase hfew hline hs hplain) fun _ _ _ z=>zJF zGg z
def zF0:KM:=fun x ds M=>match x,ds with
 | .dat (.ref n),[.int i]=>match M[n]? with
  | some (.lst xs)=>match ixN xs.length i with
   | some k=>match xs[k]? with
    | some d=>if -(2 ^ 63) <= i /\ i < 2 ^ 63 then some (d,M.set n (.lst (xs.eraseIdx k))) else none
    | none=>none
   | none=>none
  | _=>none
 | _,_=>none
theorem zKI {K:PySem.W.Frag}:zLM K zIj zF0:=by
 intro L M M' H H0 x ds d v vs Q c rx rd hk q;unfold zF0 at hk;split at hk
 ·rename_i n i;split at hk
  ·rename_i xs e1;split at hk
   ·rename_i k e2;split at hk
    ·rename_i d' e3;split at hk
     ·rename_i hb;cases hk;unfold zO Rep at rx;obtain ⟨a,rfl,e4⟩:=rx;obtain ⟨ws,e5,r5⟩:=c.obj n a _ e4 e1;obtain ⟨u,e6,r6⟩:=r5.get e3;obtain ⟨c5,s5⟩:=c.write e4 e1 (r5.eraseIdx k);exact ⟨a,ws,i,k,u,rfl,zET rd,e5,hb.1,hb.2,by rw [r5.length]; exact (zEg e2).1,e6,q L _ _ s5 c5 (r6.stp s5)⟩
     ·cases hk
    ·cases hk
   ·cases hk
  ·cases hk
 ·cases hk
theorem zM6 (h:QE X a f) (hg:QA X [e] g) (hbase:attributeBase a "pop" X.env (eval a X.env) = eval a X.env:=by rfl)
  (hfew:((backTo cpos (starEach [e] X.env)).all (fun x=> !x.1) && (backToKw cpos (keywordEach [] X.env)).all (fun x=>x.1.isSome) && decide ([e].length + ([]:List Keyword).length + (if ([]:List Keyword).isEmpty then 0 else 1) < 30)) = true:=by rfl)
  (hline:(apos.endLine == cpos.line) = true:=by rfl) (hs:starEach [e] X.env = (false,eval e X.env) :: starEach [] X.env:=by rfl) (hplain:(backTo cpos (starEach [] X.env)).any (·.1) = false:=by rfl) :
  QE X (.Call (.Attribute a "pop" apos) [e] [] cpos) (fM zF0 f g) :=
 .mk <| PE.imp (zFm PySem.F.plainAttrs_list PySem.F.slot_list_pop PySem.F.type_list_pop zI8 h.un hg.un hbase hfew hline hs hplain) fun _ _ _ z=>zJF zKI z
def zFU (x:EV) (i:D) (d:D) (M:Mem):Option Mem:=match x,i with
 | .dat (.ref n),.int i=>match M[n]? with
  | some (.lst xs)=>match ixN xs.length i with
   | some j=>some (M.set n (.lst (xs.set j d)))
   | none=>none
  | _=>none
 | _,_=>none
def zHI (fv fo fi:FE):FS:=fun σ M=>match toD fv σ M with
 | some (d,M1)=>match fo σ M1 with
  | some (x,M2)=>match toD fi σ M2 with
   | some (i,M3)=>match zFU x i d M3 with
    | some M4=>some (.nx,σ,M4)
    | none=>none
   | none=>none
  | none=>none
 | none=>none
theorem zIW (hv:QE X v fv) (ho:QE X o fo) (hi:QE X i fi)
  (ha:∀ v,assign (.Subscript o i p) X.env v = (do
   let ov <- holding [v] (eval o X.env);let iv <- holding [v,ov] (eval i X.env);standAt p;holding [v,ov,iv] (setItem ov iv v);release [v,ov,iv] []):=by intro _; rfl)
  (hs:swapsWithSole [.Subscript o i p] v pos.line X.env = pure false:=by rfl) (hw:swappedStores [.Subscript o i p] v X.env = pure none:=by rfl) (h1:(assignEach [.Subscript o i p] X.env).map (·.2) = [assign (.Subscript o i p) X.env]:=by rfl) :
  QS X (.Assign [.Subscript o i p] v pos) (zHI fv fo fi):=.mk <| PS.imp (zLE (zBo hv).un (zMD ho.un (zBo hi).un zIR ha) hs hw h1) fun E τ H zz=>by
 obtain ⟨L,σ,M,out,σ',M',c,rs,hf,q⟩:=zz;unfold zHI at hf;split at hf
 ·rename_i d M1 e1;split at hf
  ·rename_i x M2 e2;split at hf
   ·rename_i j M3 e3;split at hf
    ·rename_i M4 e4;cases hf;refine ⟨L,σ,M,_,_,c,rs,e1,fun L1 H1 u s1 c1 r1=>⟨L1,σ,M1,_,_,c1,rs.stp s1,e2,fun L2 H2 w s2 c2 r2=>⟨L2,σ,M2,_,_,c2,rs.stp (s1.trans s2),e3,fun L3 H3 z s3 c3 r3=>?_⟩⟩⟩;have st:=(s1.trans s2).trans s3;unfold zFU at e4;split at e4
     ·rename_i n k;split at e4
      ·rename_i xs e5;split at e4
       ·rename_i m e6;cases e4;have r2':=r2.stp s3;unfold zO Rep at r2';obtain ⟨a,rfl,e7⟩:=r2';obtain ⟨ws,e8,r8⟩:=c3.obj n a _ e7 e5;obtain ⟨c9,s9⟩:=c3.write e7 e5 (zG.set ((r1.stp s2).stp s3) m r8);exact ⟨a,ws,k,m,rfl,by unfold Rep at r3; exact r3,e8,by rw [r8.length]; exact e6,q L3 _ (st.trans s9) c9 τ ((rs.stp st).stp s9)⟩
       ·cases e4
      ·cases e4
     ·cases e4
    ·cases hf
   ·cases hf
  ·cases hf
 ·cases hf
def zB0:D -> Option V
 | .non=>some .non
 | .bl k=>some (.bl k)
 | .int i=>some (.int i)
 | .str x=>some (.str x)
 | _=>none
theorem zCT (h:Rep L H d v) (e:zB0 d = some u):v = u:=by
 cases d with
 | non=>cases e; unfold Rep at h; exact h
 | bl _=>cases e; unfold Rep at h; exact h
 | int _=>cases e; unfold Rep at h; exact h
 | str _=>cases e; unfold Rep at h; exact h
 | tup _=>cases e
 | ref _=>cases e
 | fn _ _=>cases e
def zGV (neg:Bool):K2:=fun x y M=>match x,y with
 | .dat d,.dat d'=>match zB0 d,zB0 d' with
  | some u,some w=>if zJy u w then some (.dat (.bl (if neg then !decide (u = w) else decide (u = w))),M) else none
  | _,_=>none
 | _,_=>none
theorem zEQ (h:zGV neg x y M = some (r,M')):∃ d d' u w,x = .dat d /\ y = .dat d' /\ zB0 d = some u /\ zB0 d' = some w /\ zJy u w = true /\ r = .dat (.bl (if neg then !decide (u = w) else decide (u = w))) /\ M' = M:=by
 unfold zGV at h;split at h
 ·rename_i d d';split at h
  ·rename_i u w e1 e2;split at h
   ·rename_i hs;cases h;exact ⟨d,d',u,w,rfl,rfl,e1,e2,hs,rfl,rfl⟩
   ·cases h
  ·cases h
 ·cases h
theorem zGw {K:PySem.W.Frag}:zA0 K rEq (zGV false):=by
 intro L M M' H H0 x y d v w Q c rx ry hk q;obtain ⟨d1,d2,u,z,rfl,rfl,e1,e2,hs,rfl,rfl⟩:=zEQ hk;have a1:=zCT rx e1;have a2:=zCT ry e2;subst a1 a2;exact ⟨hs,q L H _ (.refl L H) c (zAj (L:=L) (H:=H))⟩
theorem zKZ {K:PySem.W.Frag}:zA0 K rNe (zGV true):=by
 intro L M M' H H0 x y d v w Q c rx ry hk q;obtain ⟨d1,d2,u,z,rfl,rfl,e1,e2,hs,rfl,rfl⟩:=zEQ hk;have a1:=zCT rx e1;have a2:=zCT ry e2;subst a1 a2;exact ⟨hs,q L H _ (.refl L H) c (zAj (L:=L) (H:=H))⟩
def zLT (neg:Bool) (K:PySem.W.Frag):R2:=fun x y H Q=>∃ p q xs,x = .ref p /\ y = .ref q /\ SqL K H p xs /\ SqL K H q [] /\ Q (.bl (if neg then !xs.isEmpty else xs.isEmpty)) H
theorem zEZ (r:zW [] its):its = []:=by cases r; rfl
theorem zFL (hu:X.A.units < cLine):OpR X (compareOp .Eq) (zLT false X.K):=by
 intro zB s σ H x y v u Q I rx ry h;obtain ⟨p,q,xs,rfl,rfl,h1,h2,hq⟩:=h;cases rx;cases ry;obtain ⟨its,rv,pl,_⟩:=I.list h1;obtain ⟨its2,rv2,pl2,_⟩:=I.list h2;cases zEZ rv2;cases rv with
 | nil=>exact SeqAt.eq_listAt (e:=fun _=>true) pl.isList pl2.isList rfl hu (fun j h1=>by simp at h1) ⟨.bl true,H,I,rfl,hq⟩
 | cons _ _=>exact SeqAt.eq_list_lengthsAt pl.isList pl2.isList (by simp) hu ⟨.bl false,H,I,rfl,hq⟩
theorem zIk (hu:X.A.units < cLine):OpR X (compareOp .NotEq) (zLT true X.K):=by
 intro zB s σ H x y v u Q I rx ry h;obtain ⟨p,q,xs,rfl,rfl,h1,h2,hq⟩:=h;cases rx;cases ry;obtain ⟨its,rv,pl,_⟩:=I.list h1;obtain ⟨its2,rv2,pl2,_⟩:=I.list h2;cases zEZ rv2;cases rv with
 | nil=>exact SeqAt.RcNeAt.lists (e:=fun _=>true) pl.isList pl2.isList rfl hu (fun j h1=>by simp at h1) _ _ _ _ ⟨.bl false,H,I,rfl,hq⟩
 | cons _ _=>exact SeqAt.RcNeAt.lists_lengths pl.isList pl2.isList (by simp) hu _ _ _ _ ⟨.bl true,H,I,rfl,hq⟩
def zJW (neg:Bool):K2:=fun x y M=>match zAQ M x,zAQ M y with
 | some xs,some []=>some (.dat (.bl (if neg then !xs.isEmpty else xs.isEmpty)),M)
 | _,_=>none
theorem zEk {K:PySem.W.Frag} {neg:Bool}:zA0 K (zLT neg K) (zJW neg):=by
 intro L M M' H H0 x y d v w Q c rx ry hk q;unfold zJW at hk;split at hk
 ·rename_i xs e1 e2;cases hk;obtain ⟨p1,vs,rfl,h1,r1⟩:=zAo c rx e1;obtain ⟨p2,ws,rfl,h2,r2⟩:=zAo c ry e2;unfold zG at r2;subst r2;refine ⟨p1,p2,vs,rfl,rfl,.inl h1,.inl h2,q L H _ (.refl L H) c ?_⟩;have:vs.isEmpty = xs.isEmpty:=by
   have:=r1.length;cases vs <;> cases xs <;> simp_all
  rw [this];exact (zAj (L:=L) (H:=H))
 ·cases hk
def kOr (k1 k2:K2):K2:=fun x y M=>match k1 x y M with
 | some r=>some r
 | none=>k2 x y M
theorem zEw {K:PySem.W.Frag} {r1 r2:R2} {k1 k2:K2} (h1:zA0 K r1 k1) (h2:zA0 K r2 k2):zA0 K (fun x y H Q=>r1 x y H Q \/ r2 x y H Q) (kOr k1 k2):=by
 intro L M M' H H0 x y d v w Q c rx ry hk q;unfold kOr at hk;split at hk
 ·rename_i r e1;cases hk;exact .inl (h1 c rx ry e1 q)
 ·exact .inr (h2 c rx ry hk q)
abbrev kEq:K2:=kOr (zGV false) (zJW false)
abbrev kNe:K2:=kOr (zGV true) (zJW true)
variable {f g:FE}
theorem zJc (hu:X.A.units < cLine) (h1:QE X a f) (h2:QE X b g):QE X (.Compare a [.Eq] [b] pos) (fOp kEq f g):=zK0 (zEw zGw zEk) (zKi.or (zFL hu)) h1 h2 (zBn _)
theorem zIg (hu:X.A.units < cLine) (h1:QE X a f) (h2:QE X b g):QT X (.Compare a [.Eq] [b] pos) (tst (fOp kEq f g)):=zCB (zEw zGw zEk) (zKi.or (zFL hu)) h1 h2 (zBn _)
theorem zKn (hu:X.A.units < cLine) (h1:QE X a f) (h2:QE X b g):QT X (.Compare a [.NotEq] [b] pos) (tst (fOp kNe f g)):=zCB (zEw zKZ zEk) (zNG.or (zIk hu)) h1 h2 (zBn _)
def zHQ:KB:=fun xs M=>match xs with
 | [.dat (.int i)]=>some (.dat (.int (if i < 0 then -i else i)),M)
 | _=>none
theorem zJq {K:PySem.W.Frag}:zEs K (fun xs H Q=>∃ i,xs = [.int i] /\ Q (.int (if i < 0 then -i else i)) H) zHQ:=by
 intro L M M' H H0 xs d vs Q c r hk q;unfold zHQ at hk;split at hk
 ·rename_i i;cases hk;obtain ⟨v,rfl,r1⟩:=r.one;have:v = .int i:=by unfold zO Rep at r1; exact r1
  subst this;exact ⟨i,rfl,q L H _ (.refl L H) c (zAK (L:=L) (H:=H))⟩
 ·cases hk
def zII:KB:=fun xs M=>match xs with
 | [.dat (.int i)]=>some (.dat (.int i),M)
 | [.dat (.bl k)]=>some (.dat (.int (if k then 1 else 0)),M)
 | _=>none
theorem zKg {K:PySem.W.Frag}:zEs K (fun xs H Q=>(∃ i,xs = [.int i] /\ Q (.int i) H) \/ ∃ k,xs = [.bl k] /\ Q (.int (if k then 1 else 0)) H) zII:=by
 intro L M M' H H0 xs d vs Q c r hk q;unfold zII at hk;split at hk
 ·rename_i i;cases hk;obtain ⟨v,rfl,r1⟩:=r.one;have:v = .int i:=by unfold zO Rep at r1; exact r1
  subst this;exact .inl ⟨i,rfl,q L H _ (.refl L H) c (zAK (L:=L) (H:=H))⟩
 ·rename_i k;cases hk;obtain ⟨v,rfl,r1⟩:=r.one;have:=zAN r1;subst this;exact .inr ⟨k,rfl,q L H _ (.refl L H) c (zAK (L:=L) (H:=H))⟩
 ·cases hk
end
section
variable {X:Cx} {a b c e:Expr} {es rest:List Expr} {pos p apos cpos:Pos}
theorem zI3 {prog:Program} {w:World} {A:Around} {E:Value -> Shared -> Prop} {s:Shared} {t b:Addr} {ws:List Value} {Q:Value -> Shared -> Prop} (ht:IsTup s.heap t #[]) (hb:IsTup s.heap b ws.toArray) (h1:Q (.ref b) s) :
  wpAny (model prog w) A (binaryOp .Add (.ref t) (.ref b)) Q E s:=by
 obtain ⟨⟨cls,dd,data,sl⟩,ho,hc,n,hd⟩:=id ht;obtain ⟨⟨cls2,dd2,data2,sl2⟩,ho2,hc2,n2,hd2⟩:=id hb;simp only at hc hd hc2 hd2;subst hc hd hc2 hd2
 exact concat_meets ⟨_,ho,rfl⟩ ⟨_,ho2,rfl⟩ noFill_tuple_add seq_tuple_add PySem.F.slot_tuple_add PySem.F.entry_tuple_add (PySem.F.args_tuple_add_2 _ _)
   (tuple_addW0 t b #[] ws.toArray n n2 dd dd2 sl sl2 (by simp)) ⟨ho,ho2,h1⟩
def zIH (K:PySem.W.Frag):R2:=fun x y H Q=>∃ a b ys,x = .ref a /\ y = .ref b /\ SqT K H a [] /\ SqT K H b ys /\ Q (.ref b) H
theorem zHy:OpR X (binaryOp .Add) (zIH X.K):=by
 intro zB s σ H x y v u Q I rx ry h;obtain ⟨a,b,ys,rfl,rfl,ha,hb,q⟩:=h;cases rx;cases ry;obtain ⟨its,r1,p1,_⟩:=I.tuple ha;obtain ⟨its2,r2,p2,_⟩:=I.tuple hb;cases zEZ r1;exact zI3 p1 p2 ⟨.ref b,H,I,rfl,q⟩
def zIY:K2:=fun x y M=>match zB6 x,zB6 y with
 | some xs,some ys=>if xs.length + ys.length <= sizeLine then some (.dat (.tup (xs ++ ys)),M) else none
 | _,_=>none
theorem zI9 {K:PySem.W.Frag}:zA0 K (fun x y H Q=>zKm K x y H Q \/ zIH K x y H Q) zIY:=by
 intro L M M' H H0 x y d v w Q c rx ry hk q;unfold zIY at hk;split at hk
 ·rename_i xs ys e1 e2;split at hk
  ·rename_i hz;cases hk;obtain ⟨p1,vs,rfl,h1,r1⟩:=zA1 rx e1;obtain ⟨p2,ws,rfl,h2,r2⟩:=zA1 ry e2;cases xs with
   | nil=>
    refine .inr ⟨p1,p2,ws,rfl,rfl,.of (by unfold zG at r1; subst r1; exact h1),.of h2,q L H _ (.refl L H) c ?_⟩;unfold zO Rep;exact ⟨p2,ws,rfl,h2,r2⟩
   | cons x0 xr=>
    have hv:vs ≠ []:=fun z=>by have:=r1.length; rw [z] at this; simp at this
    refine .inl ⟨p1,p2,vs,ws,rfl,rfl,.of h1,.of h2,hv,by rw [r1.length,r2.length]; exact hz,fun z=>?_,fun z pp hp=>?_⟩
    ·have:ys = []:=by
      have:=r2.length; rw [z] at this;cases ys with
      | nil=>rfl
      | cons _ _=>simp at this
     subst this;refine q L H _ (.refl L H) c ?_;unfold zO Rep;rw [List.append_nil];exact ⟨p1,vs,rfl,h1,r1⟩
    ·exact q L _ _ (.upd hp) (c.upd hp) (Rep.newTup hp (r1.app r2))
  ·cases hk
 ·cases hk
abbrev zAS:K2:=kOr zNj zIY
variable {f g:FE}
theorem zMF (h1:QE X a f) (h2:QE X b g):QE X (.BinOp a .Add b pos) (fOp zAS f g):=zGi (zEw (zCo fun _ _ _ _=>zAK) zI9) (zK5.or (zJ2.or zHy)) h1 h2
structure Kinds (K:PySem.W.Frag):Prop where
 k:∀ t T,t ∈ ["NoneType", "bool", "int", "str", "list", "tuple", "dict"] -> T ∈ ["int", "bool", "str", "tuple"] -> PySem.W.kitOne K (.type t) (.type T) = some (decide (t = T) || (decide (t = "bool") && decide (T = "int")))
def zFC (M:Mem):EV -> Option String
 | .dat .non=>some "NoneType"
 | .dat (.bl _)=>some "bool"
 | .dat (.int _)=>some "int"
 | .dat (.str _)=>some "str"
 | .dat (.tup _)=>some "tuple"
 | .fl _=>some "list"
 | .dat (.ref n)=>match M[n]? with
  | some (.lst _)=>some "list"
  | some (.fro _)=>some "list"
  | some (.dict _)=>some "dict"
  | some (.dicT _)=>some "dict"
  | _=>none
 | .dat (.fn _ _)=>none
theorem zK7 {K:PySem.W.Frag} {L:List Addr} {M:Mem} {H H0:Hp} {x:EV} {v:V} {t:String} (c:Cor K L M H) (r:zO H0 L H x v) (h:zFC M x = some t):TyOf K H v (.type t) /\ t ∈ ["NoneType", "bool", "int", "str", "list", "tuple", "dict"]:=by
 unfold zFC at h;split at h
 ·cases h; unfold zO Rep at r; subst r; exact ⟨.non,by simp⟩
 ·cases h; unfold zO Rep at r; subst r; exact ⟨.bl _,by simp⟩
 ·cases h; unfold zO Rep at r; subst r; exact ⟨.int _,by simp⟩
 ·cases h; unfold zO Rep at r; subst r; exact ⟨.str _,by simp⟩
 ·cases h; unfold zO Rep at r; obtain ⟨a,vs,rfl,e,_⟩:=r; exact ⟨.tup e,by simp⟩
 ·cases h;obtain ⟨p,vs,rfl,_,e,_⟩:=r;exact ⟨.lst e,by simp⟩
 ·unfold zO Rep at r;obtain ⟨a,rfl,e⟩:=r;split at h
  ·rename_i e1; cases h; obtain ⟨vs,q,_⟩:=c.obj _ a _ e e1; exact ⟨.lst q,by simp⟩
  ·rename_i e1; cases h; obtain ⟨o,vs,q,_⟩:=c.obj _ a _ e e1; exact ⟨.frz q,by simp⟩
  ·rename_i e1; cases h; obtain ⟨vs,q,_⟩:=c.obj _ a _ e e1; exact ⟨.dK q,by simp⟩
  ·rename_i e1; cases h; obtain ⟨vs,q,_⟩:=c.obj _ a _ e e1; exact ⟨.dT q,by simp⟩
  ·cases h
 ·cases h
def isT (t T:String):Bool:=decide (t = T) || (decide (t = "bool") && decide (T = "int"))
def zBZ (T:String) (f:FE):FE:=fun σ M=>match f σ M with
 | some (x,M1)=>match zFC M1 x with
  | some t=>some (.dat (.bl (isT t T)),M1)
  | none=>none
 | none=>none
def zM9 (K:PySem.W.Frag) (T:String):List V -> Hp -> VK -> Prop:=fun xs H Q=>∃ x t b,xs = [x,.ty T] /\ TyOf K H x t /\ PySem.W.kitOne K t (.type T) = some b /\ Q (.bl b) H
theorem zI7:zBL X (.builtin "isinstance") (zM9 X.K T):=by
 intro zB s σ H xs us Q I r h;obtain ⟨x,t,b,rfl,ty,e,q⟩:=h;cases r with
 | cons r1 r2=>
  cases r2 with
  | cons r3 r4=>
   cases r4;cases r3;exact zHi I r1 ty e fun tk=>⟨.bl b,H,I.tok _,rfl,q⟩
theorem zBr (hK:Kinds X.K) (hT:T ∈ ["int", "bool", "str", "tuple"]) (hg:Gl X "isinstance") (hm:X.mg "isinstance" = none) (hg2:Gl X y) (hm2:X.mg y = none) (hv2:bootBuiltins y = some (.type T)) (hn2:y ≠ "__name__") (hd2:(y == ("__debug__" : Str)) = false) (h:QE X e f)
  (he:starEach (e :: [.Name y p2]) X.env = (false,eval e X.env) :: starEach [.Name y p2] X.env:=by rfl) (he2:starEach [.Name y p2] X.env = (false,eval (.Name y p2) X.env) :: starEach [] X.env:=by rfl) (hpl:(backTo pos (starEach [.Name y p2] X.env)).any (·.1) = false:=by rfl) :
  QE X (.Call (.Name "isinstance" p1) [e,.Name y p2] [] pos) (zBZ T f) :=
 .mk <| PE.imp (zBb (r:=zM9 X.K T) zI7 hg hm (by rfl) (zAL h.un (zAL (zGy (v:=.ty T) hg2 hm2 hv2 rfl hn2 hd2) zB9 he2) he) (by decide) (by decide) he hpl) fun τ H Q zz=>by
  obtain ⟨L,σ,M,d,M',c,rs,hf,q⟩:=zz;unfold zBZ at hf;split at hf
  ·rename_i x M1 e1;split at hf
   ·rename_i t e2;cases hf;refine (mkE c rs e1 (fun L1 H1 v s1 c1 r1=>?_));obtain ⟨ty,ht⟩:=zK7 c1 r1 e2;exact ⟨v,_,_,rfl,ty,hK.k t T ht hT,q L1 H1 _ s1 c1 (zAj (L:=L1) (H:=H1))⟩
   ·cases hf
  ·cases hf
theorem zG.two (h:zG L H [d,d'] vs):∃ v v',vs = [v,v'] /\ Rep L H d v /\ Rep L H d' v':=by
 unfold zG at h;obtain ⟨v,r,rfl,h1,h2⟩:=h;obtain ⟨v',rfl,h3⟩:=h2.one;exact ⟨v,v',rfl,h1,h3⟩
section
variable {fa:FAE}
theorem zG4 (hg:Gl X "len") (hm:X.mg "len" = none) (ha:QAE X [e] fa) (he:starEach [e] X.env = (false,eval e X.env) :: starEach [] X.env:=by rfl) (hpl:(backTo pos (starEach [] X.env)).any (·.1) = false:=by rfl):QE X (.Call (.Name "len" p) [e] [] pos) (fB zBG fa) :=
 zDW zJt zEj PySem.boot_len hg hm ha (by decide) (by decide) he hpl
theorem zGv (hg:Gl X "tuple") (hm:X.mg "tuple" = none) (ha:QAE X [e] fa) (he:starEach [e] X.env = (false,eval e X.env) :: starEach [] X.env:=by rfl) (hpl:(backTo pos (starEach [] X.env)).any (·.1) = false:=by rfl):QE X (.Call (.Name "tuple" p) [e] [] pos) (fB zAY fa) :=
 zFe zHU zEC (by rfl) hg hm ha (by decide) (by decide) he hpl
theorem zNP (hg:Gl X "abs") (hm:X.mg "abs" = none) (ha:QAE X [e] fa) (he:starEach [e] X.env = (false,eval e X.env) :: starEach [] X.env:=by rfl) (hpl:(backTo pos (starEach [] X.env)).any (·.1) = false:=by rfl):QE X (.Call (.Name "abs" p) [e] [] pos) (fB zHQ fa) :=
 zDW zJq zIq (by rfl) hg hm ha (by decide) (by decide) he hpl
theorem zK8 (hg:Gl X "int") (hm:X.mg "int" = none) (ha:QAE X [e] fa) (he:starEach [e] X.env = (false,eval e X.env) :: starEach [] X.env:=by rfl) (hpl:(backTo pos (starEach [] X.env)).any (·.1) = false:=by rfl):QE X (.Call (.Name "int" p) [e] [] pos) (fB zII fa) :=
 zFe zKg zHe (by rfl) hg hm ha (by decide) (by decide) he hpl
end
end
def zCS (sc scope:Scope):Bool:=scope.names.all fun y=>
 (y.2 != .local || scope.names.lookup y.1 == some .local) && (y.2 != .cell || scope.names.lookup y.1 == some .cell) && (y.2 != .free || (sc.names.lookup y.1 == some .cell || sc.names.lookup y.1 == some .free))
def zDP (N:List Str) (scope:Scope) (own:List Nat):Bool:=(List.range N.length).all fun i=>match N[i]? with
 | some x=>decide (i ∈ own) || (scope.names.lookup x == none) || (scope.names.lookup x == some .free)
 | none=>true
theorem zBs (hk:scope.kind = .function) (hs:X.env.scope = sc) (hN:X.N = N) (h1:zCS sc scope = true) (h2:zDP N scope own = true):CompIn X scope own:=by
 unfold zCS at h1;rw [zOS] at h1;refine ⟨⟨hk,fun y hy e=>?_,fun y hy e=>?_,fun y hy e=>?_⟩,fun i x e=>?_⟩
 ·have:=h1 y hy;simp [e] at this;exact this
 ·have:=h1 y hy;simp [e] at this;exact this
 ·have:=h1 y hy;simp [e] at this;show X.env.scope.names.lookup y.1 = _ \/ X.env.scope.names.lookup y.1 = _;rw [hs];exact this
 ·unfold zDP at h2;rw [zOS] at h2;rw [hN] at e;have hi:i < N.length:=(zNu.mp e).1;have:=h2 i (by simpa using hi);rw [e] at this;simp only [Bool.or_eq_true,zO4,beq_iff_eq,or_assoc] at this;exact this
def zEq (K:PySem.W.Frag):Bool:=K.all fun p=>match p.2.cls with
 | .type n=>n != "list"
 | _=>true
theorem zFE:∀ {K:PySem.W.Frag},K.lookup a = some o -> (a,o) ∈ K
 | [],h=>by cases h
 | (b,u) :: r,h=>by
  have h':List.lookup a ((b,u) :: r) = some o:=h;rw [zPw] at h';cases q:a == b with
  | true=>rw [q] at h'; cases h'; rw [beq_iff_eq.mp q]; exact zN5
  | false=>rw [q] at h'; exact zN4 _ (zFE h')
theorem zHo {K:PySem.W.Frag} (h:zEq K = true) {o:Obj} (e:K.lookup a = some o) (hc:o.cls = .type "list"):False:=by
 unfold zEq at h;rw [zOS] at h;have:=h (a,o) (zFE e);simp [hc] at this
theorem zEP:∀ (ns:List Int),zG L H (ns.map D.int) (ns.map V.int)
 | []=> .nil
 | n :: r=> .cons (by unfold Rep; rfl) (zEP r)
def zH2 (K:PySem.W.Frag):Bool:=zFc.all fun x=>(PySem.W.tabIn K x).isNone
theorem zHd {K:PySem.W.Frag} {H:Hp} (h:zH2 K = true):zHH K H:=fun x hx c P e=>by
 unfold zH2 at h;have:=zOS.mp h x hx;rw [e] at this; cases this
theorem zJS (hO:zKE H):∀ b xs,H b ≠ some (.lst xs):=fun b xs h1=>by
 rcases hO b with z | ⟨o,xs,z⟩
 ·rw [h1] at z; cases z
 ·rw [h1] at z; cases z
theorem zHV {K:PySem.W.Frag} {m:FF} {H:Hp} {a:Addr} {ns:List Int} {E:XK} (hL:zEq K = true) (hT:zHH K H) (hO:∀ b xs,H b ≠ some (.lst xs)) (hS:SqL K H a (ns.map V.int)) (h:∃ M',m [.ref 0] [.fro (ns.map D.int)] = some (.bl true,M')) :
  spF K 1 m [.ref a] H (fun v _=>v = .bl true) E:=by
 obtain ⟨M',e⟩:=h;have hf:∃ o,H a = some (.frz o (.lst (ns.map V.int))):=by
  rcases hS with (h1 | h1) | ⟨o,its,n,h1,h2,_⟩
  ·exact (hO _ _ h1).elim
  ·exact h1
  ·exact (zHo hL h1 h2).elim
 obtain ⟨o,hf⟩:=hf;refine ⟨[a],[.ref 0],[.fro (ns.map D.int)],_,_,⟨rfl,by simp,fun n b m e1 e2=>?_,hT⟩,.cons ?_ .nil,rfl,e,fun L' H' v s c r=>?_⟩
 ·cases n with
  | zero=>simp at e1 e2; subst e1; subst e2; exact ⟨o,_,hf,zEP ns⟩
  | succ n=>simp at e1
 ·unfold Rep; exact ⟨a,rfl,rfl⟩
 ·unfold Rep at r; exact r
def Ok {α:Type} (x:Option (α × Mem)) (P:α -> Mem -> Prop):Prop:=∃ a M,x = some (a,M) /\ P a M
def OkS (x:Option (Out × Sd × Mem)) (P:Out -> Sd -> Mem -> Prop):Prop:=∃ o σ M,x = some (o,σ,M) /\ P o σ M
theorem Ok.mono {α:Type} {x:Option (α × Mem)} {P Q:α -> Mem -> Prop} (h:Ok x P) (hq:∀ a M,P a M -> Q a M):Ok x Q:=let ⟨a,M,e,p⟩:=h; ⟨a,M,e,hq a M p⟩
theorem OkS.mono {x:Option (Out × Sd × Mem)} {P Q:Out -> Sd -> Mem -> Prop} (h:OkS x P) (hq:∀ o σ M,P o σ M -> Q o σ M):OkS x Q:=let ⟨a,σ,M,e,p⟩:=h; ⟨a,σ,M,e,hq a σ M p⟩
theorem zP {α:Type} {a:α} {M:Mem} {P:α -> Mem -> Prop}:Ok (some (a,M)) P ↔ P a M:=⟨fun ⟨_,_,e,p⟩=>by cases e; exact p,fun p=>⟨a,M,rfl,p⟩⟩
theorem zDV {α:Type} {P:α -> Mem -> Prop}:Ok (none:Option (α × Mem)) P ↔ False:=⟨(fun ⟨_,_,e,_⟩=>(nomatch e)),fun h=>h.elim⟩
theorem zIJ {o:Out} {σ:Sd} {M:Mem} {P:Out -> Sd -> Mem -> Prop}:OkS (some (o,σ,M)) P ↔ P o σ M:=⟨fun ⟨_,_,_,e,p⟩=>by cases e; exact p,fun p=>⟨o,σ,M,rfl,p⟩⟩
section
theorem zL {i:Nat}:Ok (zC i σ M) P ↔ ∃ d,σ[i]? = some (some d) /\ P (.dat d) M:=by
 unfold zC;constructor
 ·rintro ⟨a,M1,e,p⟩;split at e
  ·rename_i d e1; cases e; exact ⟨d,e1,p⟩
  ·cases e
 ·rintro ⟨d,e1,p⟩;rw [e1]; exact ⟨_,_,rfl,p⟩
theorem zx {d:D}:Ok (fC d σ M) P ↔ P (.dat d) M:=zP
theorem zN {k:K2}:Ok (fOp k f g σ M) P ↔ Ok (f σ M) fun x M1=>Ok (g σ M1) fun y M2=>Ok (k x y M2) P:=by
 unfold fOp;constructor
 ·rintro ⟨a,M1,e,p⟩;split at e
  ·rename_i x M2 e1;split at e
   ·rename_i y M3 e2;exact ⟨x,M2,e1,y,M3,e2,a,M1,e,p⟩
   ·cases e
  ·cases e
 ·rintro ⟨x,M2,e1,y,M3,e2,a,M1,e,p⟩;rw [e1]; dsimp only; rw [e2]; exact ⟨a,M1,e,p⟩
def zEv (P:D -> Mem -> Prop):EV -> Mem -> Prop
 | .dat d,M=>P d M
 | .fl xs,M=>P (.ref M.length) (M ++ [.lst xs])
theorem zr {P:D -> Mem -> Prop}:Ok (toD f σ M) P ↔ Ok (f σ M) (zEv P):=by
 unfold toD;constructor
 ·rintro ⟨a,M1,e,p⟩;split at e
  ·rename_i d M2 e1; cases e; exact ⟨_,_,e1,p⟩
  ·rename_i xs M2 e1; cases e; exact ⟨_,_,e1,p⟩
  ·cases e
 ·rintro ⟨x,M2,e1,p⟩;rw [e1];cases x with
  | dat d=>exact ⟨d,M2,rfl,p⟩
  | fl xs=>exact ⟨_,_,rfl,p⟩
theorem zF {P:D -> Mem -> Prop} {d:D} {M:Mem}:zEv P (.dat d) M ↔ P d M:=Iff.rfl
theorem zE0 {P:D -> Mem -> Prop} {xs:List D} {M:Mem}:zEv P (.fl xs) M ↔ P (.ref M.length) (M ++ [.lst xs]):=Iff.rfl
section
theorem zA3:Ok (zJ σ M) P ↔ P [] M:=zP
theorem zn {f:FD} {g:FA}:Ok (zD f g σ M) P ↔ Ok (f σ M) fun d M1=>Ok (g σ M1) fun ds M2=>P (d :: ds) M2:=by
 unfold zD;constructor
 ·rintro ⟨a,M1,e,p⟩;split at e
  ·rename_i x M2 e1;split at e
   ·rename_i y M3 e2;cases e;exact ⟨x,M2,e1,y,_,e2,p⟩
   ·cases e
  ·cases e
 ·rintro ⟨x,M2,e1,y,M3,e2,p⟩;rw [e1]; dsimp only; rw [e2]; exact ⟨_,_,rfl,p⟩
end
section
theorem zAp:Ok (zc σ M) P ↔ P [] M:=zP
theorem zAR {f:FE} {g:FAE}:Ok (zQ f g σ M) P ↔ Ok (f σ M) fun d M1=>Ok (g σ M1) fun ds M2=>P (d :: ds) M2:=by
 unfold zQ;constructor
 ·rintro ⟨a,M1,e,p⟩;split at e
  ·rename_i x M2 e1;split at e
   ·rename_i y M3 e2;cases e;exact ⟨x,M2,e1,y,_,e2,p⟩
   ·cases e
  ·cases e
 ·rintro ⟨x,M2,e1,y,M3,e2,p⟩;rw [e1]; dsimp only; rw [e2]; exact ⟨_,_,rfl,p⟩
end
theorem zEr {a:FA}:Ok (zBa a σ M) P ↔ Ok (a σ M) fun ds M1=>ds.length <= sizeLine /\ P (.fl ds) M1:=by
 unfold zBa;constructor
 ·rintro ⟨x,M1,e,p⟩;split at e
  ·rename_i ds M2 e1;split at e
   ·rename_i hz; cases e; exact ⟨ds,_,e1,hz,p⟩
   ·cases e
  ·cases e
 ·rintro ⟨ds,M1,e1,hz,p⟩;rw [e1]; dsimp only; rw [zN6 hz]; exact ⟨_,_,rfl,p⟩
theorem zFP {k:KB} {a:FAE}:Ok (fB k a σ M) P ↔ Ok (a σ M) fun xs M1=>Ok (k xs M1) P:=by
 unfold fB;constructor
 ·rintro ⟨x,M1,e,p⟩;split at e
  ·rename_i ds M2 e1; exact ⟨ds,_,e1,x,M1,e,p⟩
  ·cases e
 ·rintro ⟨ds,M1,e1,p⟩;rw [e1]; exact p
theorem zBw {m:FF} {a:FA}:Ok (zK m a σ M) P ↔ Ok (a σ M) fun ds M1=>Ok (m ds M1) fun d M2=>P (.dat d) M2:=by
 unfold zK;constructor
 ·rintro ⟨x,M1,e,p⟩;split at e
  ·rename_i ds M2 e1;split at e
   ·rename_i d M3 e2; cases e; exact ⟨ds,_,e1,d,_,e2,p⟩
   ·cases e
  ·cases e
 ·rintro ⟨ds,M1,e1,d,M2,e2,p⟩;rw [e1]; dsimp only; rw [e2]; exact ⟨_,_,rfl,p⟩
theorem zM0 {k:KM} {a:FA}:Ok (fM k f a σ M) P ↔ Ok (f σ M) fun x M1=>(∃ xs,zAQ M1 x = some xs) /\ Ok (a σ M1) fun ds M2=>Ok (k x ds M2) fun d M3=>P (.dat d) M3:=by
 unfold fM;constructor
 ·rintro ⟨x,M1,e,p⟩;split at e
  ·rename_i y M2 e1;split at e
   ·rename_i xs e2;split at e
    ·rename_i ds M3 e3;split at e
     ·rename_i d M4 e4; cases e; exact ⟨y,_,e1,⟨xs,e2⟩,ds,_,e3,d,_,e4,p⟩
     ·cases e
    ·cases e
   ·cases e
  ·cases e
 ·rintro ⟨y,M1,e1,⟨xs,e2⟩,ds,M2,e3,d,M3,e4,p⟩;rw [e1]; dsimp only; rw [e2]; dsimp only; rw [e3]; dsimp only; rw [e4]; exact ⟨_,_,rfl,p⟩
section
theorem zFh:Ok (zA5 σ M) P ↔ P none M:=zP
def zNB (P:Option Int -> Mem -> Prop):EV -> Mem -> Prop
 | .dat (.int i),M=>P (some i) M
 | _,_=>False
theorem zFQ {i:Int} {M:Mem}:zNB P (.dat (.int i)) M ↔ P (some i) M:=Iff.rfl
theorem zFZ:Ok (zAV f σ M) P ↔ Ok (f σ M) (zNB P):=by
 unfold zAV;constructor
 ·rintro ⟨x,M1,e,p⟩;split at e
  ·rename_i i M2 e1; cases e; exact ⟨_,_,e1,p⟩
  ·cases e
 ·rintro ⟨x,M1,e1,p⟩;rw [e1];cases x with
  | fl xs=>exact p.elim
  | dat d=>
   cases d with
   | int i=>exact ⟨_,_,rfl,p⟩
   | _=>exact p.elim
end
theorem zKj {l h:FO}:Ok (fSl f l h σ M) P ↔ Ok (f σ M) fun x M1=>Ok (l σ M1) fun lo M2=>Ok (h σ M2) fun hi M3=>Ok (kSl x lo hi M3) P:=by
 unfold fSl;constructor
 ·rintro ⟨x,M1,e,p⟩;split at e
  ·rename_i y M2 e1;split at e
   ·rename_i lo M3 e2;split at e
    ·rename_i hi M4 e3; exact ⟨y,_,e1,lo,_,e2,hi,_,e3,x,M1,e,p⟩
    ·cases e
   ·cases e
  ·cases e
 ·rintro ⟨y,M1,e1,lo,M2,e2,hi,M3,e3,p⟩;rw [e1]; dsimp only; rw [e2]; dsimp only; rw [e3]; exact p
def blP (P:Bool -> Mem -> Prop):EV -> Mem -> Prop
 | .dat (.bl k),M=>P k M
 | _,_=>False
theorem zo {P:Bool -> Mem -> Prop} {k:Bool} {M:Mem}:blP P (.dat (.bl k)) M ↔ P k M:=Iff.rfl
theorem zAi {P:Bool -> Mem -> Prop}:Ok (tst f σ M) P ↔ Ok (f σ M) (blP P):=by
 unfold tst;constructor
 ·rintro ⟨x,M1,e,p⟩;split at e
  ·rename_i i M2 e1; cases e; exact ⟨_,_,e1,p⟩
  ·cases e
 ·rintro ⟨x,M1,e1,p⟩;rw [e1];cases x with
  | fl xs=>exact p.elim
  | dat d=>
   cases d with
   | bl i=>exact ⟨_,_,rfl,p⟩
   | _=>exact p.elim
section
theorem zDm:Ok (zAf σ M) P ↔ P true M:=zP
theorem zG7:Ok (zDa s t σ M) P ↔ Ok (s σ M) fun k M1=>if k then Ok (t σ M1) P else P false M1:=by
 unfold zDa;constructor
 ·rintro ⟨x,M1,e,p⟩;split at e
  ·rename_i M2 e1; exact ⟨true,M2,e1,by dsimp only; rw [zN6 rfl]; exact ⟨x,M1,e,p⟩⟩
  ·rename_i hn;cases x with
   | true=>exact absurd e (hn M1)
   | false=>exact ⟨false,M1,e,by simpa using p⟩
 ·rintro ⟨x,M1,e1,p⟩;rw [e1];cases x with
  | true=>simpa using p
  | false=>exact ⟨false,M1,rfl,by simpa using p⟩
theorem zL1:Ok (zCL s t σ M) P ↔ Ok (s σ M) fun k M1=>if k then P true M1 else Ok (t σ M1) P:=by
 unfold zCL;constructor
 ·rintro ⟨x,M1,e,p⟩;split at e
  ·rename_i M2 e1; exact ⟨false,M2,e1,by simpa using ⟨x,M1,e,p⟩⟩
  ·rename_i hn;cases x with
   | false=>exact absurd e (hn M1)
   | true=>exact ⟨true,M1,e,by simpa using p⟩
 ·rintro ⟨x,M1,e1,p⟩;rw [e1];cases x with
  | false=>simpa using p
  | true=>exact ⟨true,M1,rfl,by simpa using p⟩
theorem zKU:Ok (zBI s σ M) P ↔ Ok (s σ M) fun k M1=>P (!k) M1:=by
 unfold zBI;constructor
 ·rintro ⟨x,M1,e,p⟩;split at e
  ·rename_i k M2 e1; cases e; exact ⟨k,_,e1,p⟩
  ·cases e
 ·rintro ⟨k,M1,e1,p⟩;rw [e1]; exact ⟨_,_,rfl,p⟩
end
theorem zKd:Ok (zBz f g σ M) P ↔ Ok (f σ M) (blP fun k M1=>if k then Ok (g σ M1) P else P (.dat (.bl false)) M1):=by
 unfold zBz;constructor
 ·rintro ⟨x,M1,e,p⟩;split at e
  ·rename_i M2 e1; exact ⟨_,_,e1,by rw [zo,zN6 rfl]; exact ⟨x,M1,e,p⟩⟩
  ·rename_i M2 e1; cases e; exact ⟨_,_,e1,by rw [zo]; simpa using p⟩
  ·cases e
 ·rintro ⟨x,M1,e1,p⟩;rw [e1];cases x with
  | fl xs=>exact p.elim
  | dat d=>
   cases d with
   | bl i=>
    rw [zo] at p;cases i with
    | true=>simpa using p
    | false=>exact ⟨_,_,rfl,by simpa using p⟩
   | _=>exact p.elim
end
section
def nxP (k:Sd -> Mem -> Prop) (P:Out -> Sd -> Mem -> Prop):Out -> Sd -> Mem -> Prop
 | .nx,σ,M=>k σ M
 | o,σ,M=>P o σ M
theorem zV {k:Sd -> Mem -> Prop}:nxP k P .nx σ M ↔ k σ M:=Iff.rfl
theorem zJi {k:Sd -> Mem -> Prop} {d:D}:nxP k P (.ret d) σ M ↔ P (.ret d) σ M:=Iff.rfl
theorem zAJ:OkS (zAU σ M) P ↔ P .nx σ M:=zIJ
theorem zM:OkS (zT f g σ M) P ↔ OkS (f σ M) (nxP (fun σ1 M1=>OkS (g σ1 M1) P) P):=by
 unfold zT;constructor
 ·rintro ⟨o,σ1,M1,e,p⟩;split at e
  ·rename_i σ2 M2 e1; exact ⟨_,_,_,e1,o,σ1,M1,e,p⟩
  ·rename_i hn;refine ⟨o,σ1,M1,e,?_⟩;cases o with
   | nx=>exact absurd e (hn σ1 M1)
   | _=>exact p
 ·rintro ⟨o,σ1,M1,e1,p⟩;rw [e1];cases o with
  | nx=>exact p
  | _=>exact ⟨_,_,_,rfl,p⟩
theorem zAm {c:FT}:OkS (sIf c f g σ M) P ↔ Ok (c σ M) fun k M1=>if k then OkS (f σ M1) P else OkS (g σ M1) P:=by
 unfold sIf;constructor
 ·rintro ⟨o,σ1,M1,e,p⟩;split at e
  ·rename_i M2 e1; exact ⟨_,_,e1,by dsimp only; rw [zN6 rfl]; exact ⟨o,σ1,M1,e,p⟩⟩
  ·rename_i M2 e1; exact ⟨_,_,e1,by simpa using ⟨o,σ1,M1,e,p⟩⟩
  ·cases e
 ·rintro ⟨x,M1,e1,p⟩;rw [e1];cases x with
  | true=>simpa using p
  | false=>simpa using p
theorem zv {h:FE}:OkS (zh h σ M) P ↔ Ok (h σ M) (zEv fun d M1=>P (.ret d) σ M1):=by
 rw [<- zr];unfold zh;constructor
 ·rintro ⟨o,σ1,M1,e,p⟩;split at e
  ·rename_i d M2 e1; cases e; exact ⟨_,_,e1,p⟩
  ·cases e
 ·rintro ⟨x,M1,e1,p⟩;rw [e1]; exact ⟨_,_,_,rfl,p⟩
theorem zb {i:Nat} {h:FE}:OkS (zAF i h σ M) P ↔ Ok (h σ M) (zEv fun d M1=>P .nx (σ.set i (some d)) M1):=by
 rw [<- zr];unfold zAF;constructor
 ·rintro ⟨o,σ1,M1,e,p⟩;split at e
  ·rename_i d M2 e1; cases e; exact ⟨_,_,e1,p⟩
  ·cases e
 ·rintro ⟨x,M1,e1,p⟩;rw [e1]; exact ⟨_,_,_,rfl,p⟩
theorem zFH {h:FE}:OkS (zDl h σ M) P ↔ Ok (h σ M) fun _ M1=>P .nx σ M1:=by
 unfold zDl;constructor
 ·rintro ⟨o,σ1,M1,e,p⟩;split at e
  ·rename_i d M2 e1; cases e; exact ⟨_,_,e1,p⟩
  ·cases e
 ·rintro ⟨x,M1,e1,p⟩;rw [e1]; exact ⟨_,_,_,rfl,p⟩
theorem zG5 {v o i:FE}:OkS (zHI v o i σ M) P ↔ Ok (v σ M) (zEv fun d M1=>Ok (o σ M1) fun x M2=>Ok (i σ M2) (zEv fun j M3=>∃ M4,zFU x j d M3 = some M4 /\ P .nx σ M4)):=by
 rw [<- zr];unfold zHI;constructor
 ·rintro ⟨o,σ1,M1,e,p⟩;split at e
  ·rename_i d M2 e1;split at e
   ·rename_i x M3 e2;split at e
    ·rename_i j M4 e3;split at e
     ·rename_i M5 e4;cases e;refine ⟨_,_,e1,_,_,e2,?_⟩;dsimp only; rw [<- zr];exact ⟨_,_,e3,_,e4,p⟩
     ·cases e
    ·cases e
   ·cases e
  ·cases e
 ·rintro ⟨d,M1,e1,x,M2,e2,p⟩;rw [<- zr] at p;obtain ⟨j,M3,e3,M4,e4,p⟩:=p;rw [e1]; dsimp only; rw [e2]; dsimp only; rw [e3]; dsimp only; rw [e4]; exact ⟨_,_,_,rfl,p⟩
theorem zAZ {n:Nat} {ds:List D} {Q:D -> Mem -> Prop}:Ok (zBK n f ds M) Q ↔ OkS (f (ds.map some ++ List.replicate (n - ds.length) none) M) fun o _ M1=>match o with | .ret d=>Q d M1 | .nx=>Q .non M1 | _=>False:=by
 unfold zBK;constructor
 ·rintro ⟨o,M1,e,p⟩;split at e
  ·rename_i d σ1 M2 e1; cases e; exact ⟨_,_,_,e1,p⟩
  ·rename_i σ1 M2 e1; cases e; exact ⟨_,_,_,e1,p⟩
  ·cases e
 ·rintro ⟨o,σ1,M1,e1,p⟩;rw [e1];cases o with
  | ret d=>exact ⟨_,_,rfl,p⟩
  | nx=>exact ⟨_,_,rfl,p⟩
  | brk=>exact p.elim
  | cnt=>exact p.elim
theorem zCx {c:FT} {b:FS} (I:Nat -> Sd -> Mem -> Prop) (hs:∀ m σ M,I m σ M -> Ok (c σ M) fun k M1=>if k then OkS (b σ M1) fun o σ2 M2=>match o with | .nx=>∃ m',m' < m /\ I m' σ2 M2 | .cnt=>∃ m',m' < m /\ I m' σ2 M2 | .brk=>P .nx σ2 M2 | .ret d=>P (.ret d) σ2 M2 else P .nx σ M1) :
  ∀ (n m:Nat) (σ:Sd) (M:Mem),m < n -> I m σ M -> OkS (zAk c b n σ M) P
 | 0,m,σ,M,h,_=>absurd h (Nat.not_lt_zero _)
 | n + 1,m,σ,M,h,hi=>by
  obtain ⟨k,M1,e,q⟩:=hs m σ M hi;unfold zAk;rw [e];cases k with
  | false=>exact ⟨_,_,_,rfl,by simpa using q⟩
  | true=>
   rw [zN6 rfl] at q;obtain ⟨o,σ2,M2,e2,q⟩:=q;dsimp only;rw [e2];cases o with
   | nx=>obtain ⟨m',hm,q⟩:=q; exact zCx I hs n m' σ2 M2 (by omega) q
   | cnt=>obtain ⟨m',hm,q⟩:=q; exact zCx I hs n m' σ2 M2 (by omega) q
   | brk=>exact ⟨_,_,_,rfl,q⟩
   | ret d=>exact ⟨_,_,_,rfl,q⟩
theorem zCi {g:FG} {b:FS} {all:List D} {gd:Option (Mem -> Prop)} (I:List D -> Sd -> Mem -> Prop)
  (hs:∀ x r σ M,I (x :: r) σ M -> zBM gd all M /\ ∃ σ1,g x σ = some σ1 /\ OkS (b σ1 M) fun o σ2 M2=>match o with | .nx=>I r σ2 M2 | .cnt=>I r σ2 M2 | .brk=>P .nx σ2 M2 | .ret d=>P (.ret d) σ2 M2)
  (he:∀ σ M,I [] σ M -> zBM gd all M /\ P .nx σ M):∀ (xs:List D) (σ:Sd) (M:Mem),I xs σ M -> OkS (zBj g b all gd xs σ M) P
 | [],σ,M,hi=>by
  unfold zBj;obtain ⟨h1,h2⟩:=he σ M hi;rw [zN6 h1];exact ⟨_,_,_,rfl,h2⟩
 | x :: r,σ,M,hi=>by
  unfold zBj;obtain ⟨h1,σ1,e1,o,σ2,M2,e2,q⟩:=hs x r σ M hi;rw [zN6 h1,e1];dsimp only;rw [e2];cases o with
  | nx=>exact zCi I hs he r σ2 M2 q
  | cnt=>exact zCi I hs he r σ2 M2 q
  | brk=>exact ⟨_,_,_,rfl,q⟩
  | ret d=>exact ⟨_,_,_,rfl,q⟩
theorem zDL {i:FI} {g:FG} {b:FS}:OkS (zEc i g b σ M) P ↔ ∃ xs gd M1,i σ M = some (xs,gd,M1) /\ OkS (zBj g b xs gd xs σ M1) P:=by
 unfold zEc;constructor
 ·rintro ⟨o,σ1,M1,e,p⟩;split at e
  ·rename_i xs gd M2 e1; exact ⟨_,_,_,e1,_,_,_,e,p⟩
  ·cases e
 ·rintro ⟨xs,gd,M1,e1,p⟩;rw [e1]; exact p
theorem zBE {g:FG} {tc:FT} {te:FE} {all:List D} {gd:Option (Mem -> Prop)} (I:List D -> List D -> Mem -> Prop)
  (hs:∀ x r acc M,I (x :: r) acc M -> zBM gd all M /\ ∃ σ1,g x σ = some σ1 /\ Ok (tc σ1 M) fun k M1=>if k then Ok (te σ1 M1) (zEv fun d M2=>I r (acc ++ [d]) M2) else I r acc M1)
  {Q:List D -> Mem -> Prop} (he:∀ acc M,I [] acc M -> zBM gd all M /\ Q acc M):∀ (xs acc:List D) (M:Mem),I xs acc M -> Ok (zA2 g tc te σ all gd xs M) fun ys M1=>Q (acc ++ ys) M1
 | [],acc,M,hi=>by
  unfold zA2;obtain ⟨h1,h2⟩:=he acc M hi;rw [zN6 h1];exact ⟨_,_,rfl,by simpa using h2⟩
 | x :: r,acc,M,hi=>by
  unfold zA2;obtain ⟨h1,σ1,e1,k,M1,e2,q⟩:=hs x r acc M hi;rw [zN6 h1,e1];dsimp only;rw [e2];cases k with
  | false=>exact zBE I hs he r acc M1 (by simpa using q)
  | true=>
   rw [zN6 rfl,<- zr] at q;obtain ⟨d,M2,e3,q⟩:=q;dsimp only;rw [e3];obtain ⟨ys,M3,e4,p⟩:=zBE I hs he r (acc ++ [d]) M2 q;dsimp only;rw [e4];exact ⟨_,_,rfl,by simpa using p⟩
theorem zBt {own:List Nat} {i:FI} {g:FG} {tc:FT} {te:FE} {Q:EV -> Mem -> Prop}:Ok (zy own i g tc te σ M) Q ↔ ∃ xs gd M1,i σ M = some (xs,gd,M1) /\ xs.length <= sizeLine /\ Ok (zA2 g tc te (zE4 own σ) xs gd xs M1) fun ys M2=>Q (.fl ys) M2:=by
 unfold zy;constructor
 ·rintro ⟨o,M1,e,p⟩;split at e
  ·rename_i xs gd M2 e1;split at e
   ·rename_i hz;split at e
    ·rename_i ys M3 e2; cases e; exact ⟨_,_,_,e1,hz,_,_,e2,p⟩
    ·cases e
   ·cases e
  ·cases e
 ·rintro ⟨xs,gd,M1,e1,hz,ys,M2,e2,p⟩;rw [e1]; dsimp only; rw [zN6 hz,e2]; exact ⟨_,_,rfl,p⟩
theorem zEp {h:FE} {x:EV} {M1:Mem} {xs:List D} (e:h σ M = some (x,M1)) (e2:zAO M1 x = some xs):zDI h σ M = some (xs,zND x xs,M1):=by
 unfold zDI; rw [e]; dsimp only; rw [e2]
theorem zD4 {a:FA} {M1:Mem} {j:Int} (e:a σ M = some ([.int j],M1)) (h1:0 <= j) (h2:j < 2 ^ 62):zAl a σ M = some ((List.range j.toNat).map fun (k:Nat)=>D.int k,none,M1):=by
 unfold zAl; rw [e]; dsimp only; rw [zN6 ⟨by omega,h2⟩]
end
section
theorem zAh:Ok (zAS (.dat (.int i)) (.dat (.int j)) M) P ↔ P (.dat (.int (i + j))) M:=zP
theorem zKu:Ok (zIr (.dat (.int i)) (.dat (.int j)) M) P ↔ P (.dat (.int (i - j))) M:=zP
theorem zGq:Ok (zGa (.dat (.int i)) (.dat (.int j)) M) P ↔ zGY i j = true /\ P (.dat (.int (i * j))) M:=by
 unfold zGa kI; dsimp only; split
 ·rename_i h; rw [zP]; simp [h]
 ·rename_i h; rw [zDV]; simp [h]
theorem zCZ:Ok (zDE (.dat (.int i)) (.dat (.int j)) M) P ↔ 0 < j /\ P (.dat (.int (i % j))) M:=by
 unfold zDE kI; dsimp only; split
 ·rename_i h; rw [zP]; simp at h; simp [h]
 ·rename_i h; rw [zDV]; simp at h; simp; intro h'; omega
theorem zIT:Ok (zHN (.dat (.int i)) (.dat (.int j)) M) P ↔ (0 < j /\ j < 1073741824) /\ P (.dat (.int (i / j))) M:=by
 unfold zHN kI; dsimp only; split
 ·rename_i h; rw [zP]; simp at h; simp [h]
 ·rename_i h; rw [zDV]; simp at h; simp; intro h' h2; have:=h h'; omega
theorem zKp:Ok (zIh (.dat (.int i)) (.dat (.int j)) M) P ↔ (0 <= j /\ j <= 1000000 /\ i.natAbs < 2 ^ 64) /\ P (.dat (.int (i ^ j.toNat))) M:=by
 unfold zIh kI; dsimp only; split
 ·rename_i h; rw [zP]; simp only [zOR,zO4] at h; simp [h]
 ·rename_i h; rw [zDV]; simp only [zOR,zO4,not_and] at h; simp only [false_iff,not_and]; intro ⟨a,b,c⟩; exact absurd c (h ⟨a,b⟩)
theorem zMC:Ok (kLt (.dat (.int i)) (.dat (.int j)) M) P ↔ P (.dat (.bl (decide (i < j)))) M:=zP
theorem zNn:Ok (kLe (.dat (.int i)) (.dat (.int j)) M) P ↔ P (.dat (.bl (decide (i <= j)))) M:=zP
theorem zNd:Ok (kGe (.dat (.int i)) (.dat (.int j)) M) P ↔ P (.dat (.bl (decide (j <= i)))) M:=zP
theorem zEd:Ok (kEq (.dat (.int i)) (.dat (.int j)) M) P ↔ P (.dat (.bl (decide (i = j)))) M:=by
 have:kEq (.dat (.int i)) (.dat (.int j)) M = some (.dat (.bl (decide (V.int i = V.int j))),M):=rfl;rw [this,zP]; simp
theorem zNg:Ok (kNe (.dat (.int i)) (.dat (.int j)) M) P ↔ P (.dat (.bl (decide (i ≠ j)))) M:=by
 have:kNe (.dat (.int i)) (.dat (.int j)) M = some (.dat (.bl (!decide (V.int i = V.int j))),M):=rfl;rw [this,zP]; simp
theorem zJn {x:EV} {xs:List D} (h:zAQ M x = some xs) (hx:∀ d,x = .dat d -> zB0 d = none):Ok (kNe x (.fl []) M) P ↔ P (.dat (.bl (!xs.isEmpty))) M:=by
 have e1:zGV true x (.fl []) M = none:=by cases x <;> rfl
 have e2:kNe x (.fl []) M = some (.dat (.bl (!xs.isEmpty)),M):=by
  unfold kNe kOr; rw [e1]; unfold zJW; rw [h]; rfl
 rw [e2,zP]
theorem zGe {x:EV} {xs:List D} {d:D} (h:zAO M x = some xs) (hd:atI xs i = some d) (p:P (.dat d) M):Ok (kIx x (.dat (.int i)) M) P:=by
 have:kIx x (.dat (.int i)) M = some (.dat d,M):=by unfold kIx; dsimp only; rw [h]; dsimp only; rw [hd]
 rw [this,zP]; exact p
theorem zF9 {xs:List D} {k:Nat} {d:D} (h:xs[k]? = some d):atI xs (k:Int) = some d:=zEa h
theorem zMA {xs:List D} {i:Int} {d:D} (h0:0 <= i) (h:xs[i.toNat]? = some d):atI xs i = some d:=by
 have:i = ((i.toNat:Nat):Int):=by omega
 rw [this]; exact zEa h
theorem zKh {x:EV} {xs:List D} (h:zAO M x = some xs):Ok (zBG [x] M) P ↔ P (.dat (.int xs.length)) M:=by
 have:zBG [x] M = some (.dat (.int xs.length),M):=by unfold zBG; dsimp only; rw [h]
 rw [this,zP]
theorem zDT {x:EV} {xs:List D} (h:zAO M x = some xs):Ok (zAY [x] M) P ↔ P (.dat (.tup xs)) M:=by
 have:zAY [x] M = some (.dat (.tup xs),M):=by unfold zAY; dsimp only; rw [h]
 rw [this,zP]
theorem zKr:Ok (zHQ [.dat (.int i)] M) P ↔ P (.dat (.int (if i < 0 then -i else i))) M:=zP
theorem zLQ {k:Bool}:Ok (zII [.dat (.bl k)] M) P ↔ P (.dat (.int (if k then 1 else 0))) M:=zP
theorem zIN {x:EV} {xs:List D} {lo hi:Option Int} (h:zAQ M x = some xs) (ht:zB6 x = none):Ok (kSl x lo hi M) P ↔ P (.fl (zEB xs lo hi)) M:=by
 have:kSl x lo hi M = some (.fl (zEB xs lo hi),M):=by unfold kSl; rw [ht]; dsimp only; rw [h]
 rw [this,zP]
theorem zBY {xs:List D}:zAO M (.dat (.tup xs)) = some xs:=rfl
theorem zBB {xs:List D}:zAO M (.fl xs) = some xs:=rfl
theorem zH8 {xs:List D}:zAQ M (.fl xs) = some xs:=rfl
theorem zDQ {n:Nat} {xs:List D} (h:M[n]? = some (.lst xs)):zAQ M (.dat (.ref n)) = some xs:=by unfold zAQ; dsimp only; rw [h]
theorem zEy {n:Nat} {xs:List D} (h:M[n]? = some (.fro xs)):zAQ M (.dat (.ref n)) = some xs:=by unfold zAQ; dsimp only; rw [h]
theorem zDU {n:Nat} {xs:List D} (h:M[n]? = some (.lst xs)):zAO M (.dat (.ref n)) = some xs:=zDQ h
theorem zKB {n:Nat} {xs:List D} (h:M[n]? = some (.fro xs)):zAO M (.dat (.ref n)) = some xs:=zEy h
theorem zIl {n:Nat} {xs:List D} {d:D} {Q:D -> Mem -> Prop} (h:M[n]? = some (.lst xs)) (hz:xs.length < sizeLine):Ok (zBQ (.dat (.ref n)) [d] M) Q ↔ Q .non (M.set n (.lst (xs ++ [d]))):=by
 have:zBQ (.dat (.ref n)) [d] M = some (.non,M.set n (.lst (xs ++ [d]))):=by unfold zBQ; dsimp only; rw [h]; dsimp only; rw [zN6 hz]
 rw [this,zP]
theorem zMI {n:Nat} {x:D} {xs:List D} {Q:D -> Mem -> Prop} (h:M[n]? = some (.lst (x :: xs))):Ok (zF0 (.dat (.ref n)) [.int 0] M) Q ↔ Q x (M.set n (.lst xs)):=by
 have:zF0 (.dat (.ref n)) [.int 0] M = some (x,M.set n (.lst xs)):=by
  unfold zF0; dsimp only; rw [h]; dsimp only;have e:ixN (x :: xs).length 0 = some 0:=by unfold ixN; rw [zN6 (by omega),zN6 (by simp)]; rfl
  rw [e]; dsimp only [List.getElem?_cons_zero]; rw [zN6 (by decide)]; rfl
 rw [this,zP]
theorem zFd {n k:Nat} {xs:List D} {d:D} (h:M[n]? = some (.lst xs)) (hk:k < xs.length):zFU (.dat (.ref n)) (.int k) d M = some (M.set n (.lst (xs.set k d))):=by
 unfold zFU; dsimp only; rw [h]; dsimp only;have e:ixN xs.length (k:Int) = some k:=by unfold ixN; rw [zN6 (by omega),zN6 (by omega)]; simp
 rw [e]
end
theorem zJ1 {m:FF} {ds:List D} {M:Mem} {Q:D -> Mem -> Prop} (h:Ok (m ds M) fun d M1=>(D.und M.length d = true /\ M.length <= M1.length /\ ∀ (j:Nat) u,j < M.length -> M1[j]? = some u -> MO.und M.length u = true) /\ Q d (M1.take M.length)):Ok (zFT m ds M) Q:=by
 obtain ⟨d,M1,e,⟨h1,h2,h3⟩,q⟩:=h;unfold zFT;rw [e];dsimp only;rw [zN6]
 ·exact ⟨_,_,rfl,q⟩
 ·simp only [zOR,zO4,zOS];refine ⟨⟨h1,fun u hu=>?_⟩,h2⟩;obtain ⟨j,hj⟩:=List.getElem?_of_mem hu;have hlt:j < M.length:=by
   have:=(zNu.mp hj).1;rw [zPF] at this; omega
  rw [List.getElem?_take_of_lt hlt] at hj;exact h3 j u hlt hj
section
theorem TIt.but (x:h.IsTupleIter a t i) (hs:Heap.ExtBut b h h') (n:a ≠ b):h'.IsTupleIter a t i:=x.extBut hs n
theorem Tup.but (x:h.IsTuple a its) (hs:Heap.ExtBut b h h') (n:a ≠ b):h'.IsTuple a its:=x.extBut hs n
theorem zCG (I:s.heap.IsTupleIter it t i) (T:s.heap.IsTuple t its) (hx:its[i]? = some x)
  (q:∀ h',h'.IsTupleIter it t (i + 1) -> Heap.SameBut it s.heap h' -> Q x { s with heap:=h' }):wpAny (model prog w) A (Builtin.SmallTypes.nextOf (.ref it)) Q E s:=by
 obtain ⟨o,O,C,FD⟩:=id I;obtain ⟨u,U,_,m,G⟩:=T;unfold Builtin.SmallTypes.nextOf;refine zNr (zOT I.typeIs PySem.F.slot_tuple_iterator_next (wpAny_call_entry PySem.F.slot_tuple_iterator_next I.typeIs PySem.F.entry_tuple_iterator_next ?_ (PySem.F.args_tuple_iterator_next_1 _)));refine zNr (m:=field (.ref it) 0) (zOW O FD (x:=.ref t) rfl ?_);rw [zN9 (show ¬ ((Value.ref t == Value.none) = true) by exact zOD)];refine zNr (zOW O FD rfl ?_);refine zNr (wpAny_seqItems U G ?_);simp only [hx,Int.toNat_natCast];refine zNr (wpAny_setField O FD (by simp) (zNt ⟨x,rfl,zNt (q _ ⟨_,Heap.get?_update_self _ O (Obj.isFreed_of_fields (Obj.data_mapFields FD _)),(Obj.cls_mapFields ..).trans C,?_⟩ (Heap.SameBut.update ..))⟩));rw [Obj.data_mapFields FD];simp [rawInt]
theorem zEU (hh:A.handled = none) (I:s.heap.IsTupleIter it t i) (T:s.heap.IsTuple t its) (hx:its[i]? = none)
  (q:∀ h' e,Heap.ExtBut it s.heap h' -> (∃ o,h'.get? e = some o /\ o.cls = .type "StopIteration") -> E (.ref e) { s with heap:=h' }):wpAny (model prog w) A (Builtin.SmallTypes.nextOf (.ref it)) Q E s:=by
 obtain ⟨o,O,C,FD⟩:=id I;obtain ⟨u,U,_,m,G⟩:=T;unfold Builtin.SmallTypes.nextOf;refine zNr (zOT I.typeIs PySem.F.slot_tuple_iterator_next (wpAny_call_entry PySem.F.slot_tuple_iterator_next I.typeIs PySem.F.entry_tuple_iterator_next ?_ (PySem.F.args_tuple_iterator_next_1 _)));refine zNr (m:=field (.ref it) 0) (zOW O FD (x:=.ref t) rfl ?_);rw [zN9 (show ¬ ((Value.ref t == Value.none) = true) by exact zOD)];refine zNr (zOW O FD rfl ?_);refine zNr (wpAny_seqItems U G ?_);simp only [hx,Int.toNat_natCast];refine zNr (wpAny_rule (zNr (wpAny_setField O FD (by simp) ?_)));refine zNr ?_;simp only [newTuple,newExc];refine zNr (zOK (zNr (wpAny_of_eq (by first | rfl | (simp only [firstArgMember]; rfl)) (zOK ?_ (by size_fits)))) (by size_fits));simp only [raiseNew];refine zNr (wpAny_handled ?_);first | rw [hh] | rw [show A.in1.handled = none from hh]
 exact zNr (zNt (wpAny_throw (q _ _ (((Heap.SameBut.update ..).extBut.push _).push _) ⟨_,zN1 _ rfl,rfl⟩)))
structure ZipT (h:Heap) (z TI TO i1 i2 t1 t2:Addr) (f:Value) (k1 k2:Nat):Prop where
 z:IsZip h z TI TO f
 ti:IsPair h TI (.ref i1) (.ref i2)
 to:∃ a b,IsPair h TO a b
 a:h.IsTupleIter i1 t1 k1
 b:h.IsTupleIter i2 t2 k2
theorem zHt {z TI TO i1 i2 t1 t2:Addr} {k:Nat} {xs ys:Array Value} {x y:Value} {Q:Option Value -> Shared -> Prop} (D:ZipApart z TI TO i1 i2 t1 t2) (Z:ZipT s.heap z TI TO i1 i2 t1 t2 .none k k)
  (T1:s.heap.IsTuple t1 xs) (T2:s.heap.IsTuple t2 ys) (hx:xs[k]? = some x) (hy:ys[k]? = some y)
  (q:∀ h',ZipT h' z TI TO i1 i2 t1 t2 (rawInt s.heap.objs.size) (k + 1) (k + 1) -> IsPair h' s.heap.objs.size x y ->
   (∀ c o,c ∉ [z,TO,i1,i2] -> s.heap.get? c = some o -> h'.get? c = some o) -> Q (some (.ref s.heap.objs.size)) { s with heap:=h' }):wpAny (model prog w) A (pyNext (.ref z)) Q E s:=by
 obtain ⟨Z0,P0,⟨a,b,O0⟩,I1,I2⟩:=Z;have ty:s.TypeIs (.ref z) "zip" := ⟨_,Z0,rfl⟩;unfold pyNext;refine zNr (wpAny_attempt (zOT ty PySem.F.slot_zip_next (wpAny_call_entry PySem.F.slot_zip_next ty PySem.F.entry_zip_next ?_ (PySem.F.args_zip_next_1 _))));refine zNr (m:=field (.ref z) 2) (zOW Z0 rfl rfl ?_);refine zNr (zOW Z0 rfl rfl ?_);refine zNr (wpAny_seqItems P0 rfl ?_);refine zNr ?_;unfold Builtin.SmallTypes.ownedTupleIsFree;refine zNr (zOW Z0 rfl rfl (zNt ?_));simp only [if_true];refine zNr (wpAny_rule (zNr (zOW Z0 rfl rfl (zNr (wpAny_setField_rec Z0 (by simp) fun h1 Z1 e1=>?_)))));replace Z1:IsZip h1 z TI TO .ellipsis:=Z1;refine zNr ?_;simp only [List.forIn_cons,List.forIn_nil,List.zipIdx_cons,List.zipIdx_nil];refine zNr (zNr (wpAny_onRaise (zNr (zCG (TIt.but I1 e1.extBut D.i1z) (Tup.but T1 e1.extBut D.l1z) hx fun h2 J1 e2=>zNt ?_))));have O2:IsPair h2 TO a b:=e2.extBut _ _ D.TOi1 (e1.extBut _ _ D.TOz O0);refine zNr (wpAny_seqItems O2 rfl (zNr (wpAny_updateSeq_pair O2 fun h3 O3 e3=>zNr (wpAny_letGo (zNt ?_)))));replace O3:IsPair h3 TO x b:=O3
 refine zNr (zNr (wpAny_onRaise (zNr (zCG (TIt.but (TIt.but (TIt.but I2 e1.extBut D.i2z) e2.extBut D.i12.symm) e3.extBut D.TOi2.symm)
  (Tup.but (Tup.but (Tup.but T2 e1.extBut D.l2z) e2.extBut D.l2i1) e3.extBut D.l2TO) hy fun h4 J2 e4=>zNt ?_))))
 have O4:IsPair h4 TO x b:=e4.extBut _ _ D.TOi2 O3;refine zNr (wpAny_seqItems O4 rfl (zNr (wpAny_updateSeq_pair O4 fun h5 O5 e5=>zNr (wpAny_letGo (zNt (zNt ?_))))));replace O5:IsPair h5 TO x y:=O5;refine zNr (wpAny_seqItems O5 rfl (zNr (wpAny_newTuple ?_)));have sz:h5.objs.size = s.heap.objs.size:=by rw [e5.1,e4.1,e3.1,e2.1,e1.1]
 have Z5:IsZip h5 z TI TO .ellipsis:=e5.extBut _ _ D.TOz.symm (e4.extBut _ _ D.i2z.symm (e3.extBut _ _ D.TOz.symm (e2.extBut _ _ D.i1z.symm Z1)));have kp:∀ c o,c ∉ [z,TO,i1,i2] -> s.heap.get? c = some o -> h5.get? c = some o:=fun c o n e=>by
  simp only [zN3,zOM,or_false,not_or] at n;obtain ⟨n1,n2,n3,n4⟩:=n;exact e5.extBut _ _ n2 (e4.extBut _ _ n4 (e3.extBut _ _ n2 (e2.extBut _ _ n3 (e1.extBut _ _ n1 e))))
 have A5:h5.IsTupleIter i1 t1 (k + 1):=TIt.but (TIt.but (TIt.but J1 e3.extBut D.TOi1.symm) e4.extBut D.i12) e5.extBut D.TOi1.symm;have B5:h5.IsTupleIter i2 t2 (k + 1):=TIt.but J2 e5.extBut D.TOi2.symm;have zl:z < h5.objs.size:=zN2 Z5;refine zNr ?_;unfold Builtin.SmallTypes.ownedTupleHandOut;have Z6:IsZip (h5.push { cls:=.type "tuple", data:=.seq #[x,y] }) z TI TO .ellipsis:=zNs _ Z5;refine zNr (wpAny_setField_rec Z6 (by simp) fun h7 Z7 e7=>?_);replace Z7:IsZip h7 z TI TO (rawInt h5.objs.size):=Z7;refine wpAny_setField_rec Z7 (by simp) fun h8 Z8 e8=>?_;replace Z8:IsZip h8 z TI TO (rawInt h5.objs.size):=Z8;have up:∀ c o,c ≠ z -> h5.get? c = some o -> h8.get? c = some o:=fun c o n e=>e8.extBut _ _ n (e7.extBut _ _ n (zNs _ e));have N8:IsPair h8 h5.objs.size x y:=e8.extBut _ _ (Nat.ne_of_gt zl) (e7.extBut _ _ (Nat.ne_of_gt zl) (zN1 _ rfl));rw [sz] at Z8 N8;refine zNt ⟨_,rfl,?_⟩;rw [sz];refine zNt (q h8 ⟨Z8,up _ _ D.TIz (kp _ _ (by simp [D.TIz,D.TITO,D.TIi1,D.TIi2]) P0),⟨_,_,up _ _ D.TOz O5⟩,?_,?_⟩ N8 fun c o n e=>up c o (fun m=>n (by simp [m])) (kp c o n e))
 ·obtain ⟨o,e,r⟩:=A5; exact ⟨o,up _ _ D.i1z e,r⟩
 ·obtain ⟨o,e,r⟩:=B5; exact ⟨o,up _ _ D.i2z e,r⟩
theorem zJN {z TI TO i1 i2 t1 t2:Addr} {k:Nat} {xs ys:Array Value} {Q:Option Value -> Shared -> Prop} (hh:A.handled = none) (D:ZipApart z TI TO i1 i2 t1 t2) (Z:ZipT s.heap z TI TO i1 i2 t1 t2 .none k k)
  (T1:s.heap.IsTuple t1 xs) (T2:s.heap.IsTuple t2 ys) (he:xs[k]? = none \/ ys[k]? = none)
  (q:∀ h',(∀ c o,c ∉ [z,TO,i1,i2] -> s.heap.get? c = some o -> h'.get? c = some o) -> Q none { s with heap:=h' }):wpAny (model prog w) A (pyNext (.ref z)) Q E s:=by
 obtain ⟨Z0,P0,⟨a,b,O0⟩,I1,I2⟩:=Z;have ty:s.TypeIs (.ref z) "zip" := ⟨_,Z0,rfl⟩
 have stop:∀ (e:Addr) (h':Heap),(∀ c o,c ∉ [z,TO,i1,i2] -> s.heap.get? c = some o -> h'.get? c = some o) -> (∃ o,h'.get? e = some o /\ o.cls = .type "StopIteration") ->
   wpAny (model prog w) A (do if (<- isInstance (.ref e) (.type "StopIteration")) then pure none else throw (.ref e):Sem (Option Value)) Q E { s with heap:=h' }:=fun e h' k1 ⟨o,e1,e2⟩=>
  zNr (wpAny_isInstance ⟨o,e1,e2⟩ isSubtype_stop (zNt (q h' k1)))
 unfold pyNext;refine zNr (wpAny_attempt (zOT ty PySem.F.slot_zip_next (wpAny_call_entry PySem.F.slot_zip_next ty PySem.F.entry_zip_next ?_ (PySem.F.args_zip_next_1 _))));refine zNr (m:=field (.ref z) 2) (zOW Z0 rfl rfl ?_);refine zNr (zOW Z0 rfl rfl ?_);refine zNr (wpAny_seqItems P0 rfl ?_);refine zNr ?_;unfold Builtin.SmallTypes.ownedTupleIsFree;refine zNr (zOW Z0 rfl rfl (zNt ?_));simp only [if_true];refine zNr (wpAny_rule (zNr (zOW Z0 rfl rfl (zNr (wpAny_setField_rec Z0 (by simp) fun h1 Z1 e1=>?_)))));replace Z1:IsZip h1 z TI TO .ellipsis:=Z1;refine zNr ?_;simp only [List.forIn_cons,List.forIn_nil,List.zipIdx_cons,List.zipIdx_nil];cases hx:xs[k]? with
 | none=>
  refine zNr (zNr (wpAny_onRaise (zNr (zEU hh (TIt.but I1 e1.extBut D.i1z) (Tup.but T1 e1.extBut D.l1z) hx fun h2 e e2 he=>?_))));obtain ⟨oe,o1,o2⟩:=he;have Z2:IsZip h2 z TI TO .ellipsis:=e2 _ _ D.i1z.symm Z1;have ne:e ≠ z:=fun m=>by subst m; rw [Z2] at o1; cases o1; simp at o2
  refine wpAny_setField_rec Z2 (by simp) fun h3 _ e3=>stop e h3 (fun c o n x=>?_) ⟨oe,e3.extBut _ _ ne o1,o2⟩;simp only [zN3,zOM,or_false,not_or] at n;exact e3.extBut _ _ n.1 (e2 _ _ n.2.2.1 (e1.extBut _ _ n.1 x))
 | some x=>
  have hy:ys[k]? = none:=by
   rcases he with m | m
   ·rw [hx] at m; cases m
   ·exact m
  refine zNr (zNr (wpAny_onRaise (zNr (zCG (TIt.but I1 e1.extBut D.i1z) (Tup.but T1 e1.extBut D.l1z) hx fun h2 J1 e2=>zNt ?_))));have O2:IsPair h2 TO a b:=e2.extBut _ _ D.TOi1 (e1.extBut _ _ D.TOz O0);refine zNr (wpAny_seqItems O2 rfl (zNr (wpAny_updateSeq_pair O2 fun h3 O3 e3=>zNr (wpAny_letGo (zNt ?_)))))
  refine zNr (zNr (wpAny_onRaise (zNr (zEU hh (TIt.but (TIt.but (TIt.but I2 e1.extBut D.i2z) e2.extBut D.i12.symm) e3.extBut D.TOi2.symm)
   (Tup.but (Tup.but (Tup.but T2 e1.extBut D.l2z) e2.extBut D.l2i1) e3.extBut D.l2TO) hy fun h4 e e4 he=>?_))))
  obtain ⟨oe,o1,o2⟩:=he;have Z4:IsZip h4 z TI TO .ellipsis:=e4 _ _ D.i2z.symm (e3.extBut _ _ D.TOz.symm (e2.extBut _ _ D.i1z.symm Z1));have ne:e ≠ z:=fun m=>by subst m; rw [Z4] at o1; cases o1; simp at o2
  refine wpAny_setField_rec Z4 (by simp) fun h5 _ e5=>stop e h5 (fun c o n x=>?_) ⟨oe,e5.extBut _ _ ne o1,o2⟩;simp only [zN3,zOM,or_false,not_or] at n;exact e5.extBut _ _ n.1 (e4 _ _ n.2.2.2 (e3.extBut _ _ n.2.1 (e2.extBut _ _ n.2.2.1 (e1.extBut _ _ n.1 x))))
end
section
abbrev zT1 (h:Heap) (a:Addr):Heap:=h.push { cls:=.type "tuple_iterator", data:=.fields #[.ref a,.int 0 0] }
abbrev zT2 (h:Heap) (a b:Addr):Heap:=zT1 (zT1 h a) b
abbrev zT3 (h:Heap) (a b:Addr):Heap:=(zT2 h a b).push { cls:=.type "tuple", data:=.seq #[.ref h.objs.size,.ref (zT1 h a).objs.size] }
abbrev zT4 (h:Heap) (a b:Addr):Heap:=(zT3 h a b).push { cls:=.type "tuple", data:=.seq #[.none,.none] }
abbrev zT5 (h:Heap) (a b:Addr):Heap:=(zT4 h a b).push { cls:=.type "zip", data:=.fields #[.none,.bool false,.bool false,.ref (zT2 h a b).objs.size,.ref (zT3 h a b).objs.size] }
theorem zGP (a b:Addr) (xs ys:Array Value):Meets (Builtin.«zip.__new__» ⟨[.type "zip", .ref a,.ref b],[]⟩) (fun _ R s=>s.heap.IsTuple a xs /\ s.heap.IsTuple b ys /\ R (.ok (.ret (.ref (zT4 s.heap a b).objs.size))) { s with heap:=zT5 s.heap a b }) :=
 .of_wp fun prog w A R s h=>by
  obtain ⟨hp,g,d,tk,os⟩:=s;obtain ⟨Ta,Tb,h⟩:=h;have sz:=sub_zip;have U1:Heap.IsTuple (Shared.heap ⟨hp,g,d,tk,os⟩) a xs:=Ta;have U2:Heap.IsTuple (Shared.heap ⟨hp.push { cls:=.type "tuple_iterator", data:=.fields #[.ref a,.int 0 0] },g,d,tk,os⟩) b ys:=Heap.IsTuple.push Tb _;wp_walk using wpAny_pyIter_tuple U1,wpAny_pyIter_tuple U2;exact ⟨_,rfl,h⟩
theorem zJV (Ta:s.heap.IsTuple a xs) (Tb:s.heap.IsTuple b ys)
  (h:∀ h',ZipT h' (s.heap.objs.size + 4) (s.heap.objs.size + 2) (s.heap.objs.size + 3) s.heap.objs.size (s.heap.objs.size + 1) a b .none 0 0 -> (∀ c o,s.heap.get? c = some o -> h'.get? c = some o) -> Q (.ref (s.heap.objs.size + 4)) { s with heap:=h' }) :
  wpAny (model prog w) A (call (.type "zip") [.ref a,.ref b]) Q E s:=by
 refine callType_new PySem.F.called_zip (by decide) (PySem.F.typeCall_zip_2 _ _) (PySem.F.newCall_zip_2 _ _) (fun obj=>PySem.F.args_object_init_3 obj _ _) PySem.F.entry_zip_new (zGP a b xs ys) ⟨Ta,Tb,?_⟩;have q1:(zT1 s.heap a).objs.size = s.heap.objs.size + 1:=Heap.size_push ..;have q2:(zT2 s.heap a b).objs.size = s.heap.objs.size + 2:=by rw [Heap.size_push,q1]
 have q3:(zT3 s.heap a b).objs.size = s.heap.objs.size + 3:=by rw [Heap.size_push,q2]
 have q4:(zT4 s.heap a b).objs.size = s.heap.objs.size + 4:=by rw [Heap.size_push,q3]
 have u:∀ {h:Heap} {c:Addr} {o p:Obj},h.get? c = some o -> (h.push p).get? c = some o:=fun e=>zNs _ e;have p5:(zT5 s.heap a b).get? (zT4 s.heap a b).objs.size = some _:=zN1 _ rfl;have p4:(zT5 s.heap a b).get? (zT3 s.heap a b).objs.size = some _:=u (zN1 _ rfl);have p3:(zT5 s.heap a b).get? (zT2 s.heap a b).objs.size = some _:=u (u (zN1 _ rfl));have p2:(zT5 s.heap a b).get? (zT1 s.heap a).objs.size = some _:=u (u (u (zN1 _ rfl)));have p1:(zT5 s.heap a b).get? s.heap.objs.size = some _:=u (u (u (u (zN1 _ rfl))));rw [q2,q3,q4] at p5;rw [q1,q2] at p3;rw [q3] at p4;rw [q1] at p2;rw [q4];exact ⟨⟨_,p5,rfl⟩,h _ ⟨p5,p3,⟨_,_,p4⟩,⟨_,p1,rfl,rfl⟩,⟨_,p2,rfl,rfl⟩⟩ fun c o x=>u (u (u (u (u x))))⟩
end
theorem zF4 {X:Cx} {zB:List (Addr × Obj)} {σ:L2.St} {H:Hp} {s:Shared} {h':Heap} {t':Nat} {ch:List Addr} {T:Addr} {o:HO} (I:Inv X zB σ H s) (hf:∀ b ∈ ch,zCM X zB H b)
  (k:∀ b u,b ∉ ch -> s.heap.get? b = some u -> h'.get? b = some u) (hT:s.heap.objs.size <= T) (new:zAA X.prog X.w (upd H T o) h' T o):Inv X zB σ (upd H T o) { s with heap:=h',toks:=t' }:=by
 have hn:H T = none:=I.hok.fresh hT;have nch:∀ b u,H b = some u -> b ∉ ch:=fun b u e z=>by rw [(hf b z).1] at e; cases e
 have un:∀ b u,H b = some u -> upd H T o b = some u:=fun b u e=>by rw [zX (zt e hn)]; exact e
 refine I.step (fun b hb=>⟨(hf b hb).2.2.2.1,(hf b hb).2.1,(hf b hb).2.2.2.2.1,(hf b hb).2.2.2.2.2⟩) (fun b u _ _ hc e _=>k b u hc e) (fun b u _ _ hc e _=>⟨u.slots,k b u hc e⟩)
  (fun b u _ e n=>by rw [zX (fun z=>by rw [z] at e; exact absurd (zN2 e) (Nat.not_lt.mpr hT))]; exact n) (fun b u hc e=>⟨u,k b u hc e⟩) (fun b xs e=>un b _ e) (fun b p u e=>un b _ e) (fun b ps e=>⟨#[],by rw [un b _ e]; simp⟩) (fun m hm=>?_) (fun b u e=>?_) I.bare
 ·obtain ⟨p,es,ep,ho,r⟩:=hm;exact ⟨p,es,ep,k _ p (fun z=>(hf _ z).2.1 rfl) ho,r⟩
 ·by_cases hb:b = T
  ·subst hb; rw [zAg] at e; cases e; exact new
  ·rw [zX hb] at e;refine (I.hok b u e).stay (fun c v hc q=>k c v ?_ q) (fun c q=>un c _ q) fun c xs q=>un c _ q;rcases hc with z | z
   ·rw [z]; exact nch b u e
   ·exact nch c _ z
theorem zHM {X:Cx} {zB:List (Addr × Obj)} {σ:L2.St} {H:Hp} {s:Shared} {h':Heap} {t':Nat} {ch:List Addr} (I:Inv X zB σ H s) (hf:∀ b ∈ ch,zCM X zB H b)
  (k:∀ b u,b ∉ ch -> s.heap.get? b = some u -> h'.get? b = some u):Inv X zB σ H { s with heap:=h',toks:=t' }:=by
 have nch:∀ b u,H b = some u -> b ∉ ch:=fun b u e z=>by rw [(hf b z).1] at e; cases e
 refine I.step (fun b hb=>⟨(hf b hb).2.2.2.1,(hf b hb).2.1,(hf b hb).2.2.2.2.1,(hf b hb).2.2.2.2.2⟩) (fun b u _ _ hc e _=>k b u hc e) (fun b u _ _ hc e _=>⟨u.slots,k b u hc e⟩)
  (fun b u _ e n=>n) (fun b u hc e=>⟨u,k b u hc e⟩) (fun b xs e=>e) (fun b p u e=>e) (fun b ps e=>⟨#[],by rw [e]; simp⟩) (fun m hm=>?_) (fun b u e=>?_) I.bare
 ·obtain ⟨p,es,ep,ho,r⟩:=hm;exact ⟨p,es,ep,k _ p (fun z=>(hf _ z).2.1 rfl) ho,r⟩
 ·refine (I.hok b u e).stay (fun c v hc q=>k c v ?_ q) (fun c q=>q) fun c xs q=>q;rcases hc with z | z
  ·rw [z]; exact nch b u e
  ·exact nch c _ z
def Itz (K:PySem.W.Frag) (a b:Addr):It :=
 ⟨fun i H=>∃ xs ys x y,SqT K H a xs /\ SqT K H b ys /\ xs[i]? = some x /\ ys[i]? = some y,
  fun i H v H'=>∃ T x y,v = .ref T /\ H T = none /\ H' = upd H T (.tup [x,y]) /\ (∀ xs,SqT K H a xs -> xs[i]? = some x) /\ ∀ ys,SqT K H b ys -> ys[i]? = some y,
  fun i H=>∃ xs ys,SqT K H a xs /\ SqT K H b ys /\ (xs.length <= i \/ ys.length <= i)⟩
theorem zHG {P:Program} {w:World} {K:PySem.W.Frag} {es:List Expr} {ek:Nat} {ep:Pos} {z TI TO i1 i2 a b:Addr} (D:ZipApart z TI TO i1 i2 a b) :
  Turn P w K (.Tuple es ek ep) (Itz K a b) [z,TI,TO,i1,i2] z (fun i h=>ZipT h z TI TO i1 i2 a b .none i i) where
 mem:=by simp
 obj:=fun i h Z c hc=>by
  obtain ⟨Z0,P0,⟨x,y,O0⟩,⟨o1,e1,_,d1⟩,⟨o2,e2,_,d2⟩⟩:=Z;simp only [zN3,zOM,or_false] at hc;rcases hc with rfl | rfl | rfl | rfl | rfl
  ·exact ⟨_,Z0,fun v m=>by cases m⟩
  ·exact ⟨_,P0,fun v m=>by cases m⟩
  ·exact ⟨_,O0,fun v m=>by cases m⟩
  ·exact ⟨_,e1,fun v m=>by rw [d1] at m; cases m⟩
  ·exact ⟨_,e2,fun v m=>by rw [d2] at m; cases m⟩
 keep:=fun i h h' Z k=>by
  obtain ⟨Z0,P0,⟨x,y,O0⟩,⟨o1,e1,r1⟩,⟨o2,e2,r2⟩⟩:=Z;exact ⟨k z (by simp) _ Z0,k TI (by simp) _ P0,⟨x,y,k TO (by simp) _ O0⟩,⟨o1,k i1 (by simp) _ e1,r1⟩,⟨o2,k i2 (by simp) _ e2,r2⟩⟩
 item:=by
  intro X hP hw hK hc i zB s σ H E I hf Z hg;subst hP hw hK;obtain ⟨xs,ys,x,y,sa,sb,hx,hy⟩:=hg;obtain ⟨its,rv,p1,z1⟩:=I.tuple sa;obtain ⟨its2,rv2,p2,z2⟩:=I.tuple sb;obtain ⟨u,hu,ru⟩:=rv.get hx;obtain ⟨u2,hu2,ru2⟩:=rv2.get hy;refine zHt D Z (show s.heap.IsTuple a its.toArray from p1) (show s.heap.IsTuple b its2.toArray from p2) (by simpa using hu) (by simpa using hu2) fun h' Z' N' kp=>⟨_,rfl,?_⟩;refine wpAny_letOwnedTupleGo_zip Z'.z fun h2 Z2 e2=>?_;have hch:∀ c ∈ [z,TO,i1,i2],zCM X zB H c:=fun c hm=>hf c (by
   simp only [zN3,zOM,or_false] at hm ⊢;rcases hm with q | q | q | q <;> simp [q])
  have kk:∀ c o,c ∉ [z,TO,i1,i2] -> s.heap.get? c = some o -> h2.get? c = some o:=fun c o n e=>e2.extBut _ _ (fun m=>n (by simp [m])) (kp c o n e);have zlt:z < s.heap.objs.size:=zN2 Z.z;have NT:IsPair h2 s.heap.objs.size u u2:=e2.extBut _ _ (Nat.ne_of_gt zlt) N';have hfr:H s.heap.objs.size = none:=I.hok.fresh (zNx _);refine ⟨.ref s.heap.objs.size,upd H s.heap.objs.size (.tup [x,y]),zF4 (s:=s) I hch kk (zNx _) ?_,rfl,⟨_,x,y,rfl,hfr,rfl,fun ws hw=>?_,fun ws hw=>?_⟩,?_,fun c hm=>?_⟩
  ·exact ⟨by show 2 <= sizeLine; decide,[u,u2],.cons ru (.cons ru2 .nil),⟨_,NT,rfl,⟨_,rfl⟩,rfl⟩⟩
  ·rw [I.tuple_inj hw sa]; exact hx
  ·rw [I.tuple_inj hw sb]; exact hy
  ·obtain ⟨_,P1,⟨q1,q2,O1⟩,⟨o1,f1,r1⟩,⟨o2,f2,r2⟩⟩:=Z';exact ⟨Z2,e2.extBut _ _ D.TIz P1,⟨q1,q2,e2.extBut _ _ D.TOz O1⟩,⟨o1,e2.extBut _ _ D.i1z f1,r1⟩,⟨o2,e2.extBut _ _ D.i2z f2,r2⟩⟩
  ·have lt:c < s.heap.objs.size:=by
    obtain ⟨Z0,P0,⟨q1,q2,O0⟩,⟨o1,f1,_⟩,⟨o2,f2,_⟩⟩:=Z;simp only [zN3,zOM,or_false] at hm;rcases hm with rfl | rfl | rfl | rfl | rfl
    ·exact zN2 Z0
    ·exact zN2 P0
    ·exact zN2 O0
    ·exact zN2 f1
    ·exact zN2 f2
   rw [zX (zOC lt)];exact (hf c hm).1
 done:=by
  intro X hP hw hK hc i zB s σ H E I hf Z hg;subst hP hw hK;obtain ⟨xs,ys,sa,sb,hz⟩:=hg;obtain ⟨its,rv,p1,z1⟩:=I.tuple sa;obtain ⟨its2,rv2,p2,z2⟩:=I.tuple sb;have l1:=rv.length;have l2:=rv2.length;refine zJN (I.ok.hd hc) D Z (show s.heap.IsTuple a its.toArray from p1) (show s.heap.IsTuple b its2.toArray from p2) ?_ fun h' kp=>⟨rfl,zHM I (fun c hm=>hf c (by
   simp only [zN3,zOM,or_false] at hm ⊢;rcases hm with q | q | q | q <;> simp [q])) kp⟩
  rcases hz with q | q
  ·exact .inl (by simp; omega)
  ·exact .inr (by simp; omega)
 self:=fun _ _ _ _ _ Z h=>wpAny_pyIter_zip Z.z h
section
theorem zLh {ta:TA} (hg:Gl X "zip") (hm:X.mg "zip" = none) (ha:PA X [a,b] ta) (hs:starEach [a,b] X.env = [(false,eval a X.env),(false,eval b X.env)]:=by rfl) (hs2:starEach [b] X.env = [(false,eval b X.env)]:=by rfl) :
  PI X (.Tuple es ek ep) (.Call (.Name "zip" p) [a,b] [] pos) (fun σ H R=>ta σ H fun vs H1=>∃ l1 l2 xs ys,vs = [.ref l1,.ref l2] /\ SqT X.K H1 l1 xs /\ SqT X.K H1 l2 ys /\ R (Itz X.K l1 l2) H1):=by
 intro zB s σ H R I h;refine Call_ (zDZ I hg hm (by rfl) (PyProof.Rows.callWith_type1 (thn (ha pos zB s σ H _ I h) fun us s1 ⟨vs,H1,I1,r1,q1⟩=>?_) (by rw [hs,hs2]) (by rw [hs2]; rfl)));obtain ⟨l1,l2,xs,ys,rfl,s1',s2',q⟩:=q1;cases r1 with
 | cons r rr=>
  cases rr with
  | cons r' rr=>
   cases rr;cases r;cases r';obtain ⟨its,rv,p1,_⟩:=I1.tuple s1';obtain ⟨its2,rv2,p2,_⟩:=I1.tuple s2';have d1:l1 < s1.heap.objs.size:=by obtain ⟨_,e,_⟩:=p1; exact zN2 e
   have d2:l2 < s1.heap.objs.size:=by obtain ⟨_,e,_⟩:=p2; exact zN2 e
   refine zJV (show s1.heap.IsTuple l1 its.toArray from p1) (show s1.heap.IsTuple l2 its2.toArray from p2) fun h' Z kp=>wpAny_pyIter_zip Z.z ?_;refine ⟨s1.heap.objs.size + 4,[s1.heap.objs.size + 4,s1.heap.objs.size + 2,s1.heap.objs.size + 3,s1.heap.objs.size,s1.heap.objs.size + 1],_,_,H1,rfl,I1.kept kp,zHG (zipApart_new d1 d2),Z,fun c hc=>?_,q⟩;have ge:s1.heap.objs.size <= c:=by
    simp only [zN3,zOM,or_false] at hc;rcases hc with rfl | rfl | rfl | rfl | rfl
    ·exact Nat.le_add_right _ 4
    ·exact Nat.le_add_right _ 2
    ·exact Nat.le_add_right _ 3
    ·exact zNx _
    ·exact Nat.le_add_right _ 1
   exact I1.fpOk ge (I1.hok.fresh ge)
def zLs (g:FA):FI:=fun σ M=>match g σ M with
 | some ([.tup xs,.tup ys],M1)=>some ((xs.zip ys).map fun q=>D.tup [q.1,q.2],none,M1)
 | _=>none
theorem zLd (hg:Gl X "zip") (hm:X.mg "zip" = none) (ha:QA X [a,b] g) (hs:starEach [a,b] X.env = [(false,eval a X.env),(false,eval b X.env)]:=by rfl) (hs2:starEach [b] X.env = [(false,eval b X.env)]:=by rfl) :
  QI X (.Tuple es ek ep) (.Call (.Name "zip" p) [a,b] [] pos) (zLs g):=.mk <| PI.imp (zLh hg hm ha.un hs hs2) fun τ H R zz=>by
 obtain ⟨L,σ,M,xs,gd,M',c,rs,hf,q⟩:=zz;unfold zLs at hf;split at hf
 ·rename_i ds es' M1 e1;cases hf;refine ⟨L,σ,M,_,_,c,rs,e1,fun L1 H1 vs s1 c1 r1=>?_⟩;obtain ⟨v,v',rfl,r2,r3⟩:=r1.two;unfold Rep at r2 r3;obtain ⟨l1,ws1,rfl,h1,q1⟩:=r2;obtain ⟨l2,ws2,rfl,h2,q2⟩:=r3;refine ⟨l1,l2,ws1,ws2,rfl,.of h1,.of h2,q L1 H1 _ s1 c1 fun L2 H2 M2 s2 c2 _=>?_⟩;have k1:=s2.tup l1 ws1 h1;have k2:=s2.tup l2 ws2 h2;have p1:=q1.stp s2;have p2:=q2.stp s2;refine ⟨fun i d hd=>?_,⟨ws1,ws2,.of k1,.of k2,?_⟩⟩
  ·rw [List.getElem?_map] at hd;cases e2:(ds.zip es')[i]? with
   | none=>rw [e2] at hd; cases hd
   | some pr=>
    rw [e2] at hd;cases hd;obtain ⟨f1,f2⟩:=List.getElem?_zip_eq_some.mp e2;obtain ⟨u,hu,ru⟩:=p1.get f1;obtain ⟨u2,hu2,ru2⟩:=p2.get f2;refine ⟨⟨ws1,ws2,u,u2,.of k1,.of k2,hu,hu2⟩,fun v H3 hy=>?_⟩;obtain ⟨T,x,y,rfl,hT,rfl,hxx,hyy⟩:=hy;have ex:=hxx ws1 (.of k1);have ey:=hyy ws2 (.of k2);rw [hu] at ex; cases ex;rw [hu2] at ey; cases ey;exact ⟨fun a o e=>by rw [zX (zt e hT)]; exact e,Rep.newTup hT (.cons ru (.cons ru2 .nil))⟩
  ·rw [zN0,List.length_zip,p1.length,p2.length];omega
 ·cases hf
def zIf (i j:Nat):FG:=fun d σ=>match d with
 | .tup [x,y]=>some ((σ.set i (some x)).set j (some y))
 | _=>none
abbrev gP2 (K:PySem.W.Frag) (i j:Nat):TG:=zMh K 2 (zH3 (zDC i) (zH3 (zDC j) zMk))
theorem zHs {K:PySem.W.Frag} {own:List Nat} {i j:Nat} (hi:i ∈ own) (hj:j ∈ own):zKC own (gP2 K i j) (zIf i j):=by
 intro L H σ σ' τ τ0 d v Q rs ex r hf q;unfold zIf at hf;split at hf
 ·rename_i x y;cases hf;unfold Rep at r;obtain ⟨a,vs,rfl,e,r⟩:=r;obtain ⟨v1,v2,rfl,r1,r2⟩:=r.two;exact ⟨a,_,rfl,.of e,rfl,v1,[v2],rfl,v2,[],rfl,rfl,q _ ((rs.set r1).set r2) ((ex.set hi).set hj)⟩
 ·cases hf
end
section
variable {X:Cx} {a b c e:Expr} {es:List Expr} {pos p p2 pos2:Pos} {f g h:FE}
theorem zGu:∀ {bs:List Bool} {its:List Value},zW (bs.map V.bl) its -> ∀ (i:Nat) v,its[i]? = some v -> ∃ k,bs[i]? = some k /\ v = .bool k
 | [],_,.nil,_,_,h=>by simp at h
 | k :: bs,_,.cons r t,0,v,h=>by
  simp at h; subst h;exact ⟨k,rfl,r⟩
 | k :: bs,_,.cons r t,i + 1,v,h=>by
  obtain ⟨k',e1,e2⟩:=zGu t i v (by simpa using h);exact ⟨k',by simpa using e1,e2⟩
theorem zGc (bs:List Bool):((List.range bs.length).all fun i=>(bs[i]?).getD true) = bs.all id:=by
 rw [Bool.eq_iff_iff,zOS,zOS];constructor
 ·intro q k hk;obtain ⟨i,hi,rfl⟩:=List.getElem_of_mem hk;have:=q i (List.mem_range.mpr hi);rw [zNv hi] at this;exact this
 ·intro q i hi;rw [zNv (List.mem_range.mp hi)];exact q _ (List.getElem_mem _)
def zNI (K:PySem.W.Frag) (F:List Bool -> Bool):List V -> Hp -> VK -> Prop:=fun xs H Q=>∃ q bs,xs = [.ref q] /\ SqL K H q (bs.map V.bl) /\ Q (.bl (F bs)) H
theorem zHc (hc:X.calm = true):zBL X (.builtin "all") (zNI X.K fun bs=>bs.all id):=by
 intro zB s σ H xs us Q I r h;obtain ⟨l,bs,rfl,hq,q⟩:=h;obtain ⟨u,rfl,rx⟩:=zDo r;cases rx;obtain ⟨its,rv,pl,_⟩:=I.list hq;have hlt:l < s.heap.objs.size:=by obtain ⟨_,z,_⟩:=pl.isList; exact zN2 z
 refine call_all_walk (wpAny_pyIter_list pl.isList ⟨s.heap.objs.size,[s.heap.objs.size,l],[s.heap.objs.size],its.toArray.size,_,_,fun i=>(bs[i]?).getD true,rfl,Walks.list (A:=X.A.in1) (I.ok.hd hc) _ l (zOC hlt) its.toArray,
  ⟨⟨_,zN1 _ rfl,rfl,rfl⟩,pl.isList.push _⟩,fun i v s' Q' E' hP hQ=>?_,fun h' tk hk=>?_⟩)
 ·obtain ⟨k,z,rfl⟩:=zGu rv i v (by simpa using hP);dsimp only at hQ; rw [z] at hQ;exact wpAny_truthy_bool hQ
 ·have hl:=rv.length;rw [zN0] at hl;rw [zNz,<- hl,zGc];exact ⟨.bl _,H,I.kept (t':=tk) fun b o z=>hk b o (fun m=>by rw [List.mem_singleton.mp m] at z; exact zOZ _ (zN2 z)) (zNs _ z),rfl,q⟩
def zC1:List D -> Option (List Bool)
 | []=>some []
 | .bl k :: r=>match zC1 r with
  | some bs=>some (k :: bs)
  | none=>none
 | _=>none
theorem zG1:∀ {ds:List D} {bs:List Bool} {vs:List V},zC1 ds = some bs -> zG L H ds vs -> vs = bs.map V.bl
 | [],bs,vs,e,r=>by cases e; unfold zG at r; exact r
 | d :: ds,bs,vs,e,r=>by
  unfold zG at r;obtain ⟨v,r',rfl,r1,r2⟩:=r;cases d with
  | bl k=>
   unfold zC1 at e;cases q:zC1 ds with
   | none=>rw [q] at e; cases e
   | some bs'=>
    rw [q] at e; cases e;unfold Rep at r1;rw [r1,zG1 q r2]; rfl
  | _=>cases e
def zHa (F:List Bool -> Bool):KB:=fun xs M=>match xs with
 | [x]=>match zAQ M x with
  | some ds=>match zC1 ds with
   | some bs=>some (.dat (.bl (F bs)),M)
   | none=>none
  | none=>none
 | _=>none
theorem zKL {K:PySem.W.Frag} {F:List Bool -> Bool}:zEs K (zNI K F) (zHa F):=by
 intro L M M' H H0 xs d vs Q c r hk q;unfold zHa at hk;split at hk
 ·rename_i x;split at hk
  ·rename_i ds e1;split at hk
   ·rename_i bs e2;cases hk;obtain ⟨v,rfl,r1⟩:=r.one;obtain ⟨l,ws,rfl,h1,r2⟩:=zAo c r1 e1;have:=zG1 e2 r2;subst this;exact ⟨l,bs,rfl,.inl h1,q L H _ (.refl L H) c (zAj (L:=L) (H:=H))⟩
   ·cases hk
  ·cases hk
 ·cases hk
abbrev zJo:KB:=zHa fun bs=>bs.all id
section
variable {fa:FAE}
theorem zKx (hc:X.calm = true) (hg:Gl X "all") (hm:X.mg "all" = none) (ha:QAE X [e] fa) (he:starEach [e] X.env = (false,eval e X.env) :: starEach [] X.env:=by rfl) (hpl:(backTo pos (starEach [] X.env)).any (·.1) = false:=by rfl):QE X (.Call (.Name "all" p) [e] [] pos) (fB zJo fa) :=
 zDW zKL (zHc hc) (by rfl) hg hm ha (by decide) (by decide) he hpl
end
theorem zK2 (h:zAQ M x = some ds) (hb:zC1 ds = some bs):Ok (zHa F [x] M) P ↔ P (.dat (.bl (F bs))) M:=by
 have:zHa F [x] M = some (.dat (.bl (F bs)),M):=by unfold zHa; dsimp only; rw [h]; dsimp only; rw [hb]
 rw [this,zP]
theorem zCm:∀ bs:List Bool,zC1 (bs.map D.bl) = some bs
 | []=>rfl
 | k :: bs=>by rw [zOA]; unfold zC1; rw [zCm bs]
def zGm:V -> Bool
 | .non=>true
 | .bl _=>true
 | _=>false
theorem zH7:OpR X (compareOp .Is) (fun x y H Q=>zGm y = true /\ Q (.bl (decide (x = y))) H):=by
 intro zB s σ H x y v u Q I rx ry h;obtain ⟨hp,q⟩:=h;cases y with
 | non=>
  cases ry;refine wpAny_is_plain (by cases x <;> first | (cases rx; rfl) | (obtain ⟨t,rfl⟩:=rx; rfl)) (zU I q ?_);cases x <;> first | (cases rx; rfl) | (obtain ⟨t,rfl⟩:=rx; rfl)
 | bl k=>
  cases ry;refine wpAny_is_plain (by cases x <;> first | (cases rx; rfl) | (obtain ⟨t,rfl⟩:=rx; rfl)) (zU I q ?_);cases x with
  | bl k'=>cases rx; cases k <;> cases k' <;> rfl
  | _=>first | (cases rx; rfl) | (obtain ⟨t,rfl⟩:=rx; rfl)
 | _=>cases hp
def isD:EV -> D -> Option Bool
 | x,.non=>match x with
  | .dat .non=>some true
  | _=>some false
 | x,.bl k=>match x with
  | .dat (.bl k')=>some (decide (k' = k))
  | _=>some false
 | _,_=>none
def kIs (neg:Bool):K2:=fun x y M=>match y with
 | .dat d=>match isD x d with
  | some k=>some (.dat (.bl (if neg then !k else k)),M)
  | none=>none
 | _=>none
theorem zJp (rx:zO H0 L H x v) (ry:Rep L H d w) (e:isD x d = some k):zGm w = true /\ decide (v = w) = k:=by
 cases d with
 | non=>
  unfold Rep at ry; subst ry;refine ⟨rfl,?_⟩;cases x with
  | fl xs=>obtain ⟨q,vs,rfl,_⟩:=rx; cases e; rfl
  | dat d'=>
   cases d' with
   | non=>unfold zO Rep at rx; subst rx; cases e; rfl
   | bl _=>unfold zO Rep at rx; subst rx; cases e; rfl
   | int _=>unfold zO Rep at rx; subst rx; cases e; rfl
   | str _=>unfold zO Rep at rx; subst rx; cases e; rfl
   | tup _=>unfold zO Rep at rx; obtain ⟨q,vs,rfl,_⟩:=rx; cases e; rfl
   | ref _=>unfold zO Rep at rx; obtain ⟨q,rfl,_⟩:=rx; cases e; rfl
   | fn _ _=>unfold zO Rep at rx; obtain ⟨rfl,_⟩:=rx; cases e; rfl
 | bl k'=>
  unfold Rep at ry; subst ry;refine ⟨rfl,?_⟩;cases x with
  | fl xs=>obtain ⟨q,vs,rfl,_⟩:=rx; cases e; rfl
  | dat d'=>
   cases d' with
   | non=>unfold zO Rep at rx; subst rx; cases e; rfl
   | bl j=>unfold zO Rep at rx; subst rx; cases e; cases j <;> cases k' <;> rfl
   | int _=>unfold zO Rep at rx; subst rx; cases e; rfl
   | str _=>unfold zO Rep at rx; subst rx; cases e; rfl
   | tup _=>unfold zO Rep at rx; obtain ⟨q,vs,rfl,_⟩:=rx; cases e; rfl
   | ref _=>unfold zO Rep at rx; obtain ⟨q,rfl,_⟩:=rx; cases e; rfl
   | fn _ _=>unfold zO Rep at rx; obtain ⟨rfl,_⟩:=rx; cases e; rfl
 | _=>cases e
theorem zIU (h:kIs neg x y M = some (r,M')):∃ d k,y = .dat d /\ isD x d = some k /\ r = .dat (.bl (if neg then !k else k)) /\ M' = M:=by
 unfold kIs at h;split at h
 ·rename_i d;split at h
  ·rename_i k e1; cases h; exact ⟨d,k,rfl,e1,rfl,rfl⟩
  ·cases h
 ·cases h
theorem zIZ {K:PySem.W.Frag}:zA0 K (fun x y H Q=>zGm y = true /\ Q (.bl (decide (x = y))) H) (kIs false):=by
 intro L M M' H H0 x y d v w Q cc rx ry hk q;obtain ⟨d',k,rfl,e,rfl,rfl⟩:=zIU hk;obtain ⟨h1,h2⟩:=zJp rx ry e;refine ⟨h1,?_⟩;rw [h2];exact q L H _ (.refl L H) cc (zAj (L:=L) (H:=H))
theorem zNY (h1:QE X a f) (h2:QE X b g):QE X (.Compare a [.Is] [b] pos) (fOp (kIs false) f g):=zK0 zIZ zH7 h1 h2 (zBn _)
theorem zM8 (h1:QE X a f) (h2:QE X b g):QT X (.Compare a [.Is] [b] pos) (tst (fOp (kIs false) f g)):=zCB zIZ zH7 h1 h2 (zBn _)
def zCq (k k':K2) (f g h:FE):FE:=fun σ M=>match f σ M with
 | some (x,M1)=>match g σ M1 with
  | some (y,M2)=>match k x y M2 with
   | some (.dat (.bl true),M3)=>match h σ M3 with
    | some (w,M4)=>k' y w M4
    | none=>none
   | some (.dat (.bl false),M3)=>some (.dat (.bl false),M3)
   | _=>none
  | none=>none
 | none=>none
theorem zGZ {K:PySem.W.Frag} {r r':R2} {k k':K2} (hk:zA0 K r k) (hk':zA0 K r' k') {τ:Sv} {H:Hp} {Q:VK} (z:trE K (zCq k k' f g h) τ H Q):zIv r r' (trE K f) (trE K g) (trE K h) τ H Q:=by
 obtain ⟨L,σ,M,d,M',cc,rs,hf,q⟩:=z;unfold zCq at hf;split at hf
 ·rename_i x M1 e1;split at hf
  ·rename_i y M2 e2;refine (mkE cc rs e1 (fun L1 H1 v s1 c1 r1=>(mkE c1 (rs.stp s1) e2 (fun L2 H2 w s2 c2 r2=>?_))));split at hf
   ·rename_i M3 e3;split at hf
    ·rename_i u M4 e4;refine hk (H0:=H) c2 (r1.stp s2) (r2.back s1 cc s2.sub) e3 fun L3 H3 t s3 c3 r3=>⟨true,zAN r3,zFu ?_⟩;refine (mkE c3 (rs.stp ((s1.trans s2).trans s3)) e4 (fun L4 H4 w4 s4 c4 r4=>?_));have s13:=(s1.trans s2).trans s3;refine hk' (H0:=H) c4 (((r2.back s1 cc s2.sub).stp s3).stp s4) (r4.back s13 cc s4.sub) hf fun L5 H5 u5 s5 c5 r5=>?_;exact q L5 H5 u5 ((s13.trans s4).trans s5) c5 (r5.back (s13.trans s4) cc s5.sub)
    ·cases hf
   ·rename_i M3 e3;cases hf;refine hk (H0:=H) c2 (r1.stp s2) (r2.back s1 cc s2.sub) e3 fun L3 H3 t s3 c3 r3=>⟨false,zAN r3,zFJ ?_⟩;exact q L3 H3 _ ((s1.trans s2).trans s3) c3 (by have:=zAN r3; subst this; exact r3)
   ·cases hf
  ·cases hf
 ·cases hf
theorem zJr (hk:zA0 X.K r k) (hk':zA0 X.K r' k') (ho:OpR X (compareOp op) r) (ho':OpR X (compareOp op') r') (h1:QE X a f) (h2:QE X b g) (h3:QE X c h)
  (hm:lastMarks [op,op'] [b,c] = false:=by with_unfolding_all rfl):QE X (.Compare a [op,op'] [b,c] pos) (zCq k k' f g h):=.mk <| PE.imp (zIS ho ho' h1.un h2.un h3.un hm) fun _ _ _ z=>zGZ hk hk' z
section
variable {M:Mem} {σ:Sd} {P:EV -> Mem -> Prop}
theorem zH4:Ok (zCq k k' f g h σ M) P ↔ Ok (f σ M) fun x M1=>Ok (g σ M1) fun y M2=>Ok (k x y M2) (blP fun t M3=>if t then Ok (h σ M3) fun w M4=>Ok (k' y w M4) P else P (.dat (.bl false)) M3):=by
 unfold zCq;constructor
 ·rintro ⟨x,M1,z,q⟩;split at z
  ·rename_i y M2 e1;split at z
   ·rename_i y' M3 e2;split at z
    ·rename_i M4 e3;split at z
     ·rename_i w M5 e4;exact ⟨_,_,e1,_,_,e2,_,_,e3,by rw [zo,zN6 rfl]; exact ⟨_,_,e4,_,_,z,q⟩⟩
     ·cases z
    ·rename_i M4 e3;cases z;exact ⟨_,_,e1,_,_,e2,_,_,e3,by rw [zo]; simpa using q⟩
    ·cases z
   ·cases z
  ·cases z
 ·rintro ⟨x,M1,e1,y,M2,e2,t,M3,e3,q⟩;rw [e1]; dsimp only; rw [e2]; dsimp only; rw [e3];cases t with
  | fl _=>exact q.elim
  | dat d=>
   cases d with
   | bl t=>
    rw [zo] at q;cases t with
    | true=>
     rw [zN6 rfl] at q;obtain ⟨w,M4,e4,q⟩:=q;dsimp only; rw [e4]; exact q
    | false=>exact ⟨_,_,rfl,by simpa using q⟩
   | _=>exact q.elim
end
end
open AutoSeq1 (wpAny_loadPart')
theorem zKf {P:Program} {w:World} {K:PySem.W.Frag} {mg:Str -> Option Value} {base:Heap} {k:Nat} {f:Addr} {fd:FuncData} {ps:List Str} {n:Nat}:FnOk P w K mg base CX0 k f fd ps (spF K n fun _ _=>none):=by
 have no:∀ vs H Q E,¬ spF K n (fun _ _=>none) vs H Q E:=fun vs H Q E ⟨_,_,_,_,_,_,_,_,h,_⟩=>by cases h
 exact ⟨fun vs H Q E h=>absurd h (no vs H Q E),fun A outer s H args us vs Q E _ _ _ _ h=>absurd h (no vs H Q E)⟩
def zCY:Expr -> Bool
 | .Starred .. =>false
 | _=>true
theorem zE (h:zCY e = true):starEach (e :: es) env = (false,eval e env) :: starEach es env:=by
 cases e <;> first | rfl | cases h
theorem zD5 (h:zCY e = true):starEach [e] env = [(false,eval e env)]:=zE h
theorem zJC (h:zCY e = true) (h':zCY e' = true):starEach [e,e'] env = [(false,eval e env),(false,eval e' env)]:=by rw [zE h,zD5 h']
theorem za:∀ {es:List Expr},es.all zCY = true -> (backTo pos (starEach es env)).any (·.1) = false
 | [],_=>rfl
 | e :: es,h=>by
  rw [List.all_cons,zOR] at h;rw [zE h.1];have:=za (pos:=pos) (env:=env) h.2;simpa [backTo] using this
section
def kS2 (C:Str -> Str -> Bool) (w:Str -> Str -> D):K2:=fun x y M=>match x,y with
 | .dat (.str i),.dat (.str j)=>if C i j then some (.dat (w i j),M) else none
 | _,_=>none
theorem zY (r:zO H0 L H (.dat (.str k)) v):v = .str k:=by unfold zO Rep at r; exact r
def zB1:K2:=kS2 (fun i j=>decide (i.length + j.length <= sizeLine)) fun i j=> .str (i ++ j)
theorem zH1 {K:PySem.W.Frag}:zA0 K (fun x y H Q=>∃ i j,x = .str i /\ y = .str j /\ i.length + j.length <= sizeLine /\ Q (.str (i ++ j)) H) zB1:=by
 intro L M M' H H0 x y d v w Q cc rx ry hk q;unfold zB1 kS2 at hk;split at hk
 ·rename_i i j;split at hk
  ·rename_i hz;cases hk;exact ⟨i,j,zY rx,zY ry,of_decide_eq_true hz,q L H _ (.refl L H) cc (zBv (L:=L) (H:=H))⟩
  ·cases hk
 ·cases hk
theorem zLj (h1:QE X a f) (h2:QE X b g):QE X (.BinOp a .Add b pos) (fOp zB1 f g):=zGi zH1 zGh h1 h2
def zDe:KB:=fun xs M=>match xs with
 | [.dat (.str z)]=>if z.length <= sizeLine then some (.dat (.int z.length),M) else none
 | _=>none
theorem zIA {K:PySem.W.Frag}:zEs K (fun xs H Q=>∃ z,xs = [.str z] /\ z.length <= sizeLine /\ Q (.int z.length) H) zDe:=by
 intro L M M' H H0 xs d vs Q cc r hk q;unfold zDe at hk;split at hk
 ·rename_i z;split at hk
  ·rename_i hz;cases hk;obtain ⟨v,rfl,r1⟩:=r.one;rw [zY r1];exact ⟨z,rfl,hz,q L H _ (.refl L H) cc (zAK (L:=L) (H:=H))⟩
  ·cases hk
 ·cases hk
theorem zLO (hg:Gl X "len") (hm:X.mg "len" = none) (ha:QAE X [e] fa) (he:starEach [e] X.env = (false,eval e X.env) :: starEach [] X.env:=by rfl) (hpl:(backTo pos (starEach [] X.env)).any (·.1) = false:=by rfl):QE X (.Call (.Name "len" p) [e] [] pos) (fB zDe fa) :=
 zDW zIA zEe PySem.boot_len hg hm ha (by decide) (by decide) he hpl
theorem zLm:SlR X (fun x lo hi H Q=>∃ z,x = .str z /\ z.length <= sizeLine /\ Q (.str (Txt.slice z lo hi)) H):=by
 intro zB s σ H x v vl vu lo hi sl Q I rx hs pl pu q;obtain ⟨z,rfl,hz,q⟩:=q;obtain ⟨t,rfl⟩:=rx;have fin:∀ (l u:Option (Int × Tok)),s.heap.IsSlice sl l u none -> wpAny (model X.prog X.w) X.A (getItem (.str z t) (.ref sl)) (EP X zB σ fun x H'=>x = .str (Txt.slice z (l.map (·.1)) (u.map (·.1))) /\ H' = H) X.xe s:=fun l u hS=>
  wpAny_getItem_str_slice hS rfl (post_val_or_str ⟨zOI (Txt.slice_le z _ _) hz,fun t' k=>⟨.str (Txt.slice z (l.map (·.1)) (u.map (·.1))),H,I.tok _,⟨_,rfl⟩,rfl,rfl⟩⟩)
 have wk:∀ (l u:Option (Int × Tok)),l.map (·.1) = lo -> u.map (·.1) = hi -> s.heap.IsSlice sl l u none -> wpAny (model X.prog X.w) X.A (getItem (.str z t) (.ref sl)) (EP X zB σ Q) X.xe s:=fun l u el eu hS=>
  zON (fin l u hS) (fun v s' ⟨y,H',I',r',e1,e2⟩=>by
   subst e1 e2;exact ⟨_,_,I',r',by rw [el,eu]; exact q⟩) fun _ _ z=>z
 refine ⟨"str", _,PySem.F.slot_str_getitem.lookup,typeIs_str _ _ _,?_⟩;cases pl with
 | none=>
  cases pu with
  | none=>exact wk none none rfl rfl hs
  | int j u=>exact wk none (some (j,u)) rfl rfl hs
 | int i u=>
  cases pu with
  | none=>exact wk (some (i,u)) none rfl rfl hs
  | int j u2=>exact wk (some (i,u)) (some (j,u2)) rfl rfl hs
def zDG (f:FE) (fl fh:FO):FE:=fun σ M=>match f σ M with
 | some (.dat (.str z),M1)=>match fl σ M1 with
  | some (lo,M2)=>match fh σ M2 with
   | some (hi,M3)=>if z.length <= sizeLine then some (.dat (.str (Txt.slice z lo hi)),M3) else none
   | none=>none
  | none=>none
 | _=>none
theorem zIb {lo hi:Option Expr} {p2:Pos} {fl fh:FO} (h1:QE X e f) (hl:QO X lo fl) (hh:QO X hi fh):QE X (.Subscript e (.Slice lo hi none p2) pos) (zDG f fl fh) :=
 .mk <| PE.imp (zFI zLm h1.un hl.un hh.un) fun τ H Q zz=>by
  obtain ⟨L,σ,M,d,M',c,rs,hf,q⟩:=zz;unfold zDG at hf;split at hf
  ·rename_i z M1 e1;split at hf
   ·rename_i l M2 e2;split at hf
    ·rename_i u M3 e3;split at hf
     ·rename_i hz;cases hf;refine ⟨L,σ,M,_,_,c,rs,e1,fun L1 H1 v s1 c1 r1=>⟨L1,σ,M1,_,_,c1,rs.stp s1,e2,fun L2 H2 s2 c2=>⟨L2,σ,M2,_,_,c2,rs.stp (s1.trans s2),e3,fun L3 H3 s3 c3=>?_⟩⟩⟩;exact ⟨z,zY r1,hz,q L3 H3 _ ((s1.trans s2).trans s3) c3 (zBv (L:=L3) (H:=H3))⟩
     ·cases hf
    ·cases hf
   ·cases hf
  ·cases hf
def zDb (z:Str):List Str:=z.cps.toList.map fun c=>⟨#[c]⟩
def zCP:List D -> Option (List Str)
 | []=>some []
 | .str k :: r=>match zCP r with
  | some bs=>some (k :: bs)
  | none=>none
 | _=>none
theorem zDi:∀ {ds:List D} {bs:List Str} {vs:List V},zCP ds = some bs -> zG L H ds vs -> vs = bs.map V.str
 | [],bs,vs,e,r=>by cases e; unfold zG at r; exact r
 | d :: ds,bs,vs,e,r=>by
  unfold zG at r;obtain ⟨v,r',rfl,r1,r2⟩:=r;cases d with
  | str k=>
   unfold zCP at e;cases q:zCP ds with
   | none=>rw [q] at e; cases e
   | some bs'=>
    rw [q] at e; cases e;unfold Rep at r1;rw [r1,zDi q r2]; rfl
  | _=>cases e
theorem zFp:∀ {bs:List Str} {its:List Value},zW (bs.map V.str) its -> StrsAre its bs
 | [],_,.nil=> .nil
 | k :: bs,_,.cons r t=>by
  obtain ⟨u,rfl⟩:=r;exact .cons k u (zFp t)
def zMq (K:PySem.W.Frag):V -> List V -> Hp -> VK -> Prop:=fun x vs H Q=>∃ sep l ys,x = .str sep /\ vs = [.ref l] /\ SqL K H l (ys.map V.str) /\ (ys.map (·.length)).sum + ys.length * sep.length <= 16777216 /\ Q (.str (Txt.join sep ys)) H
theorem zJ9:MtR X "str.join" (zMq X.K):=by
 intro zB s σ H x xs v us Q I rx rv z;obtain ⟨sep,l,ys,rfl,rfl,hl,hz,q⟩:=z;obtain ⟨t,rfl⟩:=rx;obtain ⟨u,rfl,ru⟩:=rv.one;cases ru;obtain ⟨its,r,pl,_⟩:=I.list hl;exact join_list pl.isList (by simpa using zFp r) hz fun t' k=>⟨.str (Txt.join sep ys),H,I.tok _,⟨_,rfl⟩,q⟩
def zDA (f:FE) (fa:FAE):FE:=fun σ M=>match f σ M with
 | some (.dat (.str sep),M1)=>match fa σ M1 with
  | some ([x],M2)=>match zAQ M2 x with
   | some ds=>match zCP ds with
    | some ys=>if (ys.map (·.length)).sum + ys.length * sep.length <= 16777216 then some (.dat (.str (Txt.join sep ys)),M2) else none
    | none=>none
   | none=>none
  | _=>none
 | _=>none
theorem zL4 (h1:QE X o f) (ha:QAE X [e] fa) (hbase:attributeBase o "join" X.env (eval o X.env) = eval o X.env:=by rfl)
  (hfew:((backTo cpos (starEach [e] X.env)).all (fun x=> !x.1) && (backToKw cpos (keywordEach [] X.env)).all (fun x=>x.1.isSome) && decide ([e].length + ([]:List Keyword).length + (if ([]:List Keyword).isEmpty then 0 else 1) < 30)) = true:=by rfl)
  (hline:(apos.endLine == cpos.line) = true:=by rfl) (hs:starEach [e] X.env = (false,eval e X.env) :: starEach [] X.env:=by rfl) (hplain:(backTo cpos (starEach [] X.env)).any (·.1) = false:=by rfl) :
  QE X (.Call (.Attribute o "join" apos) [e] [] cpos) (zDA f fa) :=
 .mk <| PE.imp (zFm PySem.F.plainAttrs_str PySem.F.slot_str_join PySem.F.type_str_join zJ9 h1.un ha.un hbase hfew hline hs hplain) fun τ H Q zz=>by
  obtain ⟨L,σ,M,d,M',c,rs,hf,q⟩:=zz;unfold zDA at hf;split at hf
  ·rename_i sep M1 e1;split at hf
   ·rename_i x M2 e2;split at hf
    ·rename_i ds e3;split at hf
     ·rename_i ys e4;split at hf
      ·rename_i hz;cases hf;refine ⟨L,σ,M,_,_,c,rs,e1,fun L1 H1 v s1 c1 r1=>?_⟩;rw [zY r1];refine ⟨rfl,L1,σ,M1,_,_,c1,rs.stp s1,e2,fun L2 H2 vs s2 c2 r2=>?_⟩;obtain ⟨v2,rfl,r3⟩:=r2.one;obtain ⟨l,ws,rfl,h1,r4⟩:=zAo c2 r3 e3;have:=zDi e4 r4;subst this;exact ⟨sep,l,ys,rfl,rfl,.inl h1,hz,q L2 H2 _ (s1.trans s2) c2 (zBv (L:=L2) (H:=H2))⟩
      ·cases hf
     ·cases hf
    ·cases hf
   ·cases hf
  ·cases hf
def Its (z:Str):It:=⟨fun i _=>i < z.length,fun i H x H'=>H' = H /\ ∃ c,z.cps[i]? = some c /\ x = .str ⟨#[c]⟩,fun i _=>z.length <= i⟩
theorem zHl {P:Program} {w:World} {K:PySem.W.Frag} {tg:Expr} (it:Addr) (z:Str) (t:Tok):Turn P w K tg (Its z) [it] it (fun i h=>h.IsStrIter it "str_ascii_iterator" z t i) where
 mem:=by simp
 obj:=fun i h' st b hb=>by
  have e:b = it:=by simpa using hb
  subst e;obtain ⟨o,e,c,d⟩:=st;exact ⟨o,e,fun v q=>by rw [d] at q; cases q⟩
 keep:=fun i h1 h2 st k=>by
  obtain ⟨o,e,r⟩:=st;exact ⟨o,k it (by simp) o e,r⟩
 item:=by
  intro X hP hw hK hc i zB s σ H E I hf st hg;subst hP hw hK;obtain ⟨f0,f1,f2,f3,f4,f5⟩:=hf it (by simp);refine (Walks.strAscii (I.ok.hd hc) it z t).item i s _ _ hg st fun v h' tk hv st' kk=>?_;obtain ⟨ch,u,ec,rfl⟩:=hv;have I1:Inv X zB σ H { s with heap:=h',toks:=tk }:=I.turned (fun b o hb e=>kk b o (by simpa using hb) e) f0 f1 f3 f4 f5;obtain ⟨o,e,c,d⟩:=id st';exact ⟨_,rfl,zFx e c d (by decide) ⟨.str ⟨#[ch]⟩,H,I1,⟨u,rfl⟩,⟨rfl,ch,ec,rfl⟩,st',fun b hb=>(hf b hb).1⟩⟩
 done:=by
  intro X hP hw hK hc i zB s σ H E I hf st hg;subst hP hw hK;obtain ⟨f0,f1,f2,f3,f4,f5⟩:=hf it (by simp);have hg':z.length <= i:=hg;exact wpAny_pyNext_ascii_end (I.ok.hd hc) st (Array.getElem?_eq_none hg') fun h' eb=>⟨rfl,I.turned (fun b o hb e=>eb b o hb e) f0 f1 f3 f4 f5⟩
 self:=fun _ _ _ _ _ st q=>wpAny_pyIter_striter_ascii st q
theorem zHY {P:Program} {w:World} {K:PySem.W.Frag} {tg:Expr} (it:Addr) (z:Str) (t:Tok):Turn P w K tg (Its z) [it] it (fun i h=>h.IsStrIter it "str_iterator" z t i) where
 mem:=by simp
 obj:=fun i h' st b hb=>by
  have e:b = it:=by simpa using hb
  subst e;obtain ⟨o,e,c,d⟩:=st;exact ⟨o,e,fun v q=>by rw [d] at q; cases q⟩
 keep:=fun i h1 h2 st k=>by
  obtain ⟨o,e,r⟩:=st;exact ⟨o,k it (by simp) o e,r⟩
 item:=by
  intro X hP hw hK hc i zB s σ H E I hf st hg;subst hP hw hK;obtain ⟨f0,f1,f2,f3,f4,f5⟩:=hf it (by simp);refine (Walks.strWide (I.ok.hd hc) it z t).item i s _ _ hg st fun v h' tk hv st' kk=>?_;obtain ⟨ch,u,ec,rfl⟩:=hv;have I1:Inv X zB σ H { s with heap:=h',toks:=tk }:=I.turned (fun b o hb e=>kk b o (by simpa using hb) e) f0 f1 f3 f4 f5;obtain ⟨o,e,c,d⟩:=id st';exact ⟨_,rfl,zFx e c d (by decide) ⟨.str ⟨#[ch]⟩,H,I1,⟨u,rfl⟩,⟨rfl,ch,ec,rfl⟩,st',fun b hb=>(hf b hb).1⟩⟩
 done:=by
  intro X hP hw hK hc i zB s σ H E I hf st hg;subst hP hw hK;obtain ⟨f0,f1,f2,f3,f4,f5⟩:=hf it (by simp);have hg':z.length <= i:=hg;exact wpAny_pyNext_wide_end (I.ok.hd hc) st (Array.getElem?_eq_none hg') fun h' eb=>⟨rfl,I.turned (fun b o hb e=>eb b o hb e) f0 f1 f3 f4 f5⟩
 self:=fun _ _ _ _ _ st q=>wpAny_pyIter_striter_wide st q
theorem zLS {tg l:Expr} {tl:TE} (hl:PE X l tl):PI X tg l (fun σ H R=>tl σ H fun x H1=>∃ z,x = .str z /\ R (Its z) H1):=by
 intro zB s σ H R I q;refine thn (hl zB s σ H _ I q) fun v s1 ⟨y,H1,I1,r1,z,hy,q1⟩=>?_;subst hy;obtain ⟨t,rfl⟩:=r1;have fpk:∀ b ∈ [s1.heap.objs.size],zCM X zB H1 b:=fun b hb=>by
  have e:b = s1.heap.objs.size:=by simpa using hb
  subst e;exact I1.fpOk (zNx _) (I1.hok.fresh (zNx _))
 cases ha:z.cps.all (· < 128)
 ·exact wpAny_pyIter_wide ha ⟨s1.heap.objs.size,[s1.heap.objs.size],_,_,H1,rfl,I1.kept fun b o e=>zNs _ e,zHY _ z t,⟨_,zN1 _ rfl,rfl,rfl⟩,fpk,q1⟩
 ·exact wpAny_pyIter_ascii ha ⟨s1.heap.objs.size,[s1.heap.objs.size],_,_,H1,rfl,I1.kept fun b o e=>zNs _ e,zHl _ z t,⟨_,zN1 _ rfl,rfl,rfl⟩,fpk,q1⟩
def zD6 (f:FE):FI:=fun σ M=>match f σ M with
 | some (.dat (.str z),M1)=>some ((zDb z).map D.str,none,M1)
 | _=>none
theorem zI0 (h1:QE X e f):QI X tg e (zD6 f):=.mk <| PI.imp (zLS h1.un) fun τ H R zz=>by
 obtain ⟨L,σ,M,xs,gd,M',c,rs,hf,q⟩:=zz;unfold zD6 at hf;split at hf
 ·rename_i z M1 e1;cases hf;refine ⟨L,σ,M,_,_,c,rs,e1,fun L1 H1 v s1 c1 r1=>⟨z,zY r1,q L1 H1 _ s1 c1 fun L2 H2 M2 s2 c2 _=>⟨fun i d hd=>?_,?_⟩⟩⟩
  ·unfold zDb at hd;rw [List.map_map,List.getElem?_map] at hd;cases e2:z.cps.toList[i]? with
   | none=>rw [e2] at hd; cases hd
   | some ch=>
    rw [e2] at hd;cases hd;have hi:i < z.length:=by have:=(zNu.mp e2).1; rw [Array.length_toList] at this; exact this
    refine ⟨hi,fun v H3 hy=>?_⟩;obtain ⟨rfl,c',ec,rfl⟩:=hy;have:z.cps[i]? = some ch:=by simpa using e2
    rw [this] at ec; cases ec;exact ⟨fun _ _ q=>q,zBv⟩
  ·unfold zDb;rw [zN0,zN0,Array.length_toList];exact zNx _
 ·cases hf
end
end L3
namespace LR
open PySem PySem.Spec PyProof.Rows
open Sem (wp)
open Sem (wp)
open AutoSeq1 (wpAny_loadPart')
open Sem (wp)
open AutoSeq1 (wpAny_loadPart')
end LR
namespace L3
open PySem PySem.Spec PyProof.Rows L2
section
theorem zKN (hu:X.A.units < cLine):OpR X (compareOp .Eq) (fun x y H Q=>∃ p q xs,x = .ref p /\ y = .ref q /\ SqT X.K H p xs /\ SqT X.K H q [] /\ Q (.bl xs.isEmpty) H):=by
 intro zB s σ H x y v u Q I rx ry z;obtain ⟨p,q,xs,rfl,rfl,hp,hq,z⟩:=z;cases rx;cases ry;obtain ⟨its,r,ht,hz⟩:=I.tuple hp;obtain ⟨its2,r2,ht2,_⟩:=I.tuple hq;have e2:=r2.zero;subst e2;refine SeqAt.eq_tupleAt (e:=fun _=>true) ht ht2 hu (fun j h1 h2=>by simp at h2) ?_;have e:((List.range (min its.toArray.size ([]:List Value).toArray.size)).all (fun _=>true) && its.toArray.size == ([]:List Value).toArray.size) = xs.isEmpty:=by
  have hl:=r.length;rw [zNz,<- hl];cases xs with
  | nil=>rfl
  | cons x r=>simp
 rw [e];exact zU I z rfl
def zEV:K2:=fun x y M=>match x,y with
 | .dat (.tup xs),.dat (.tup [])=>some (.dat (.bl xs.isEmpty),M)
 | _,_=>none
theorem zIa {K:PySem.W.Frag}:zA0 K (fun x y H Q=>∃ p q xs,x = .ref p /\ y = .ref q /\ SqT K H p xs /\ SqT K H q [] /\ Q (.bl xs.isEmpty) H) zEV:=by
 intro L M M' H H0 x y d v w Q cc rx ry hk q;unfold zEV at hk;split at hk
 ·rename_i xs;cases hk;obtain ⟨a,ws,rfl,e2,r2⟩:=zA1 rx rfl;obtain ⟨b,ws',rfl,e3,r3⟩:=zA1 ry rfl;have:ws' = []:=by unfold zG at r3; exact r3
  subst this;refine ⟨a,b,ws,rfl,rfl,.of e2,.of e3,?_⟩;have e:ws.isEmpty = xs.isEmpty:=by
   have hl:=r2.length;cases xs <;> cases ws <;> first | rfl | (simp at hl)
  rw [e];exact q L H _ (.refl L H) cc (zAj (L:=L) (H:=H))
 ·cases hk
theorem zKP (hu:X.A.units < cLine) (h1:QE X a f) (h2:QE X b g):QT X (.Compare a [.Eq] [b] pos) (tst (fOp zEV f g)):=zCB zIa (zKN hu) h1 h2 (zBn _)
end
end L3
namespace L2
open PySem PySem.Spec PyProof.Rows
end L2
namespace LR
open PySem PySem.Spec PyProof.Rows
open Sem (wp)
end LR
namespace L3
open PySem PySem.Spec PyProof.Rows L2
end L3
namespace ST
open PySem
open Sem (wp)
open PySem.Spec PyProof.Rows
open Sem (wp)
open Sem (wp)
open Sem (wp)
open Sem (wp)
end ST
namespace L2
open PySem PySem.Spec PyProof.Rows ST
end L2
namespace ST
open PySem PySem.Spec PyProof.Rows
open Sem (wp)
end ST
namespace L2
open PySem PySem.Spec PyProof.Rows ST
end L2
namespace L3
open PySem PySem.Spec PyProof.Rows L2 ST
open AutoSeq1 (wpAny_loadPart')
end L3
namespace L2
open PySem PySem.Spec PyProof.Rows
end L2
namespace L3
open PySem PySem.Spec PyProof.Rows L2
open Builtin
end L3
namespace HT
open PySem PySem.Spec PyProof.Rows
end HT
namespace L3
open PySem PySem.Spec PyProof.Rows L2
end L3
namespace L2
open PySem PySem.Spec PyProof.Rows
end L2
namespace L3
open PySem PySem.Spec PyProof.Rows L2
end L3
namespace L2
open PySem PySem.Spec PyProof.Rows
end L2
namespace L3
open PySem PySem.Spec PyProof.Rows L2
open SeqAt
structure Df (K:PySem.W.Frag) (mg:Str -> Option Value) (x:Str) (st:Stmt) (ps:List Str) where
 f:Addr
 fd:FuncData
 F:Fun K x x st f fd
 b:zCW K fd ps []
 m:mg x = some (.ref f)
structure Dg (K:PySem.W.Frag) (x:Str) (st:Stmt) where
 f:Addr
 {od an:Option Addr}
 {sl:Array (Option Value)}
 {oc kV dc pm cd ct:Value}
 a:PySem.W.nsIn K mainGlobals x = some (some (.ref f))
 l:K.lookup f = some ⟨oc,od,.func (PySem.W.fnOf x x (zBy st) (zAq st) (zI st) .none kV dc pm an cd ct),sl⟩
 c:PySem.W.codeIn K cd x = true
 k:PySem.W.keepIn K (.ref f) = true
abbrev Dg.df {K:PySem.W.Frag} {x:Str} {st:Stmt} {ps:List Str} {h:Heap} {mg:Str -> Option Value} (g:Dg K x st) (X:K.In h) (G:h.Ns mainGlobals mg)
  (hb:∀ (kV doc pm:Value) (an:Option Addr) (cdv ct:Value) (us:List Value),us.length = ps.length -> bindArgs (PySem.W.fnOf x x (zBy st) (zAq st) (zI st) .none kV doc pm an cdv ct) ⟨us,[]⟩ = pure (ps.zip us)):Df K mg x st ps :=
 ⟨g.f,_,zH9 g.l g.c g.k,(zH9 g.l g.c g.k).binds hb,PySem.W.mg_of X G g.a⟩
abbrev Od (P:Program) (w:World) (base:Heap) (k:Nat) {K:PySem.W.Frag} {mg:Str -> Option Value} {x:Str} {st:Stmt} {ps:List Str} (d:Df K mg x st ps) (m:FF):Prop:=FnOk P w K mg base CX0 k d.f d.fd ps (spF K ps.length m)
abbrev Zn (K:PySem.W.Frag) (x:Str):Prop:=PySem.W.nsIn K mainGlobals x = some none
abbrev Ki (K:PySem.W.Frag) (t T:String) (b:Bool):Prop:=PySem.W.kitOne K (.type t) (.type T) = some b
theorem zKa {P:List Value -> Prop} (h:∀ a,P [a]):∀ us:List Value,us.length = 1 -> P us
 | [a],_=>h a
theorem zEi {P:List Value -> Prop} (h:∀ a b,P [a,b]):∀ us:List Value,us.length = 2 -> P us
 | [a,b],_=>h a b
theorem zMV {P:List Value -> Prop} (h:∀ a b c,P [a,b,c]):∀ us:List Value,us.length = 3 -> P us
 | [a,b,c],_=>h a b c
theorem zNm {P:List Value -> Prop} (h:∀ a b c d e,P [a,b,c,d,e]):∀ us:List Value,us.length = 5 -> P us
 | [a,b,c,d,e],_=>h a b c d e
section
variable {st:Stmt}
theorem zLp {d:Df X.K X.mg x st ps} (F:FnOk X.prog X.w X.K X.mg X.base CX0 k d.f d.fd ps (spF X.K (e :: es).length g)) (hr:Room k X.A) (hg:Gl X x)
  (ha:QA X (e :: es) fa) (hl:∀ σ M ds M1,fa σ M = some (ds,M1) -> ds.length = (e :: es).length) (hdb:(x == ("__debug__" : Str)) = false) (he:starEach (e :: es) X.env = (false,eval e X.env) :: starEach es X.env) (hpl:(backTo pos (starEach es X.env)).any (·.1) = false) :
  QE X (.Call (.Name x p) (e :: es) [] pos) (zK g fa):=zLf F hr hg d.m d.F.kp d.b ha hl hdb he hpl
theorem zMc (hN:X.N.Nodup) (hi:X.N[i]? = some x) (h:QE X e f) (hx:Loc X.env.scope x:=by first | exact Or.inl rfl | exact Or.inr rfl) (hs:swapsWith e (some (.Name x pos')) pos.line X.env = pure false:=by rfl)
  (hf:X.fn x = true \/ X.env.scope.names.lookup x = some .local:=by first | exact .inl rfl | exact .inr rfl | assumption):QS X (.Assign [.Name x pos'] e pos) (zAF i f):=zMQ hN hi hx h hs hf
theorem zHA (hN:X.N.Nodup) (hi:X.N[i]? = some x) (hx:Loc X.env.scope x:=by first | exact Or.inl rfl | exact Or.inr rfl) (hf:X.fn x = true \/ X.env.scope.names.lookup x = some .local:=by first | exact .inl rfl | exact .inr rfl | assumption):PG X (.Name x pos) (zDC i):=zKY hN hi hx hf
end
end L3
namespace ST
open PySem PySem.Spec PyProof.Rows
end ST
namespace L3
open PySem PySem.Spec PyProof.Rows L2 ST
end L3
namespace ST
open PySem PySem.Spec PyProof.Rows
section
variable {prog:Program} {w:World} {A:Around} {E:Value -> Shared -> Prop} {s:Shared} {κ:SortKind} {vs:List Value} {r:Value -> Nat} {a b:Array Keyed}
theorem zNq {α β:Type} {x:StateT SortSt Sem α} {f:α -> StateT SortSt Sem β} {Q:β -> SortSt -> Prop} {st:SortSt} {S:(α -> SortSt -> Prop) -> Prop} (h:∀ P,S P -> wpS (model prog w) A E s x P st) (g:S fun v st=>wpS (model prog w) A E s (f v) Q st):wpS (model prog w) A E s (x >>= f) Q st:=wpS_bind (h _ g)
end
end ST
namespace L3
open PySem PySem.Spec PyProof.Rows L2 ST
end L3
namespace L2
open PySem PySem.Spec PyProof.Rows
end L2
namespace L3
open PySem PySem.Spec PyProof.Rows L2
end L3
namespace L2
open PySem PySem.Spec PyProof.Rows ST
end L2
namespace L3
open PySem PySem.Spec PyProof.Rows L2 ST
open PySem.Builtin.Str (occurrences partsBetween)
section
variable {X:Cx} {o e:Expr} {apos cpos pos p:Pos} {f g:FE}
def zF2:K2:=fun x y M=>match x,y with
 | .dat (.str z),.dat (.int i)=>if z.length <= 100000 then match atI z.cps.toList i with
  | some c=>some (.dat (.str ⟨#[c]⟩),M)
  | none=>none
  else none
 | _,_=>none
theorem zKe {K:PySem.W.Frag}:zA0 K zLa zF2:=by
 intro L M M' H H0 x y d v w Q cc rx ry hk q;unfold zF2 at hk;split at hk
 ·rename_i z i;split at hk
  ·rename_i hi;split at hk
   ·rename_i c e;cases hk;have ey:w = .int i:=by unfold zO Rep at ry; exact ry
    have hsz:sizeLine = 16777216:=sizeLine_eq;exact ⟨z,i,c,zY rx,ey,by omega,e,q L H _ (.refl L H) cc (zBv (L:=L) (H:=H))⟩
   ·cases hk
  ·cases hk
 ·cases hk
theorem zMU (h1:QE X a f) (h2:QE X b g) (hs:zE2 b:=by intro _ _; rfl):QE X (.Subscript a b pos) (fOp zF2 f g):=.mk <| PE.imp (zK1 zJK h1.un h2.un hs) fun _ _ _ h=>zCV zKe h
end
open Sem (wp)
open PySem.Builtin.Str (occurrences subAt)
def ixL (c:Nat):List Nat -> Option Nat
 | []=>none
 | a :: r=>if a = c then some 0 else match ixL c r with
  | some i=>some (i + 1)
  | none=>none
theorem zLe (x:Str) (c i:Nat):(i + (⟨#[c]⟩:Str).length <= x.length /\ subAt x ⟨#[c]⟩ i = true) ↔ x.cps.toList[i]? = some c:=by
 have hl:(⟨#[c]⟩:Str).length = 1:=rfl;have hx:x.cps.toList.length = x.length:=by simp [Str.length]
 have e:((x.cps.toList.drop i).take 1 = [c]) ↔ x.cps.toList[i]? = some c:=by
  have:=List.getElem?_drop (xs:=x.cps.toList) (i:=i) (j:=0);rw [Nat.add_zero] at this;rw [<- this];cases x.cps.toList.drop i with
  | nil=>simp
  | cons a r=>simp
 rw [hl,StrLaws.subAt_eq,hl,beq_iff_eq,e];refine ⟨fun h=>h.2,fun h=>⟨?_,h⟩⟩;have:=(zNu.mp h).1;omega
theorem zF1 (x y:Str) (n:Nat):∀ (l:List Nat) (st:Array Nat × Nat),st.1.size = 1 -> (forIn l st (StrLaws.occBody x y n 1)).run.fst = st.1
 | [],st,_=>rfl
 | a :: r,st,h=>by
  rw [List.forIn_cons];unfold StrLaws.occBody;rw [zN9 (fun z=>by have:=z.1.1.1; omega)];exact zF1 x y n r (st.1,st.2) h
theorem zEI (x:Str) (c:Nat):∀ (k a f:Nat) (l:List Nat),f <= a -> x.cps.toList.drop a = l -> k = l.length + 1 -> (forIn (List.range' a k) ((#[],f):Array Nat × Nat) (StrLaws.occBody x ⟨#[c]⟩ x.length 1)).run.fst.toList = match ixL c l with
  | some i=>[i + a]
  | none=>[]
 | k,a,f,[],hf,hd,hk=>by
  subst hk;have e:x.cps.toList[a]? = none:=by
   have:=List.getElem?_drop (xs:=x.cps.toList) (i:=a) (j:=0);rw [hd] at this;simpa using this.symm
  rw [List.range'_succ,List.forIn_cons];unfold StrLaws.occBody;rw [zN9 (fun z=>by have:=(zLe x c a).mp ⟨z.1.2,z.2⟩; rw [e] at this; cases this)];rfl
 | k,a,f,b :: r,hf,hd,hk=>by
  subst hk;have e:x.cps.toList[a]? = some b:=by
   have:=List.getElem?_drop (xs:=x.cps.toList) (i:=a) (j:=0);rw [hd] at this;simpa using this.symm
  have hd2:x.cps.toList.drop (a + 1) = r:=by
   rw [<- List.tail_drop,hd]; rfl
  rw [List.range'_succ,List.forIn_cons];unfold ixL;by_cases h:b = c
  ·subst h;rw [zN6 rfl];have q:=(zLe x b a).mpr e;unfold StrLaws.occBody;rw [zN6 ⟨⟨⟨by simp,hf⟩,q.1⟩,q.2⟩];have:=zF1 x ⟨#[b]⟩ x.length (List.range' (a + 1) (r.length + 1)) (#[a],a + (⟨#[b]⟩:Str).length) rfl;refine (congrArg Array.toList this).trans ?_;simp
  ·rw [zN9 h];have nq:¬ (x.cps.toList[a]? = some c):=fun z=>by rw [e] at z; cases z; exact h rfl
   have:=zEI x c (r.length + 1) (a + 1) f r (by omega) hd2 rfl;unfold StrLaws.occBody;rw [zN9 (fun z=>nq ((zLe x c a).mp ⟨z.1.2,z.2⟩))];refine Eq.trans this ?_;cases ixL c r with
   | none=>rfl
   | some i=>simp; omega
theorem zLW (x:Str) (c:Nat):occurrences x ⟨#[c]⟩ 0 x.length 1 = match ixL c x.cps.toList with
  | some i=>[i]
  | none=>[]:=by
 rw [StrLaws.occ_eq,Nat.sub_zero];have hx:x.cps.toList.length = x.length:=by simp [Str.length]
 exact zEI x c (x.length + 1) 0 0 x.cps.toList (zNx _) (by simp) (by rw [hx])
def fnd (c:Nat) (l:List Nat):Int:=match ixL c l with
 | some i=>(i:Int)
 | none=> -1
theorem zDs {b:Str} (h:b.cps.toList = [c]):b = ⟨#[c]⟩:=by
 obtain ⟨⟨l⟩⟩:=b;simp at h;subst h; rfl
section
variable {X:Cx} {o e a b:Expr} {apos cpos pos p:Pos} {f g:FE}
theorem zJw:MtR X "str.find" (fun x vs H Q=>∃ a c,x = .str a /\ vs = [.str ⟨#[c]⟩] /\ Q (.int (fnd c a.cps.toList)) H):=by
 intro zB s σ H x xs v us Q I rx rv z;obtain ⟨a,c,rfl,rfl,q⟩:=z;obtain ⟨t,rfl⟩:=rx;obtain ⟨u,rfl,ru⟩:=rv.one;obtain ⟨t2,rfl⟩:=ru;have hg:=gives_str_find a ⟨#[c]⟩ t t2;rw [zLW] at hg;unfold fnd at q;cases hh:ixL c a.cps.toList with
 | none=>
  rw [hh] at hg q;exact call_gives PySem.F.slot_str_find (typeIs_str _ _ _) PySem.F.entry_str_find (PySem.F.args_str_find_2 _ _) hg ⟨.int _,H,I.tok _,⟨_,rfl⟩,q⟩
 | some i=>
  rw [hh] at hg q;exact call_gives PySem.F.slot_str_find (typeIs_str _ _ _) PySem.F.entry_str_find (PySem.F.args_str_find_2 _ _) hg ⟨.int _,H,I.tok _,⟨_,rfl⟩,q⟩
theorem zHL:MtR X "str.index" (fun x vs H Q=>∃ a c i,x = .str a /\ vs = [.str ⟨#[c]⟩] /\ ixL c a.cps.toList = some i /\ Q (.int i) H):=by
 intro zB s σ H x xs v us Q I rx rv z;obtain ⟨a,c,i,rfl,rfl,hi,q⟩:=z;obtain ⟨t,rfl⟩:=rx;obtain ⟨u,rfl,ru⟩:=rv.one;obtain ⟨t2,rfl⟩:=ru;refine call_gives PySem.F.slot_str_index (typeIs_str _ _ _) PySem.F.entry_str_index (PySem.F.args_str_index_2 _ _) (gives_str_index a ⟨#[c]⟩ t t2 i [] (by rw [zLW,hi])) ?_;exact ⟨.int _,H,I.tok _,⟨_,rfl⟩,q⟩
def zFb (f:FE) (fa:FAE):FE:=fun σ M=>match f σ M with
 | some (.dat (.str a),M1)=>match fa σ M1 with
  | some ([.dat (.str b)],M2)=>match b.cps.toList with
   | [c]=>some (.dat (.int (fnd c a.cps.toList)),M2)
   | _=>none
  | _=>none
 | _=>none
def zDJ (f:FE) (fa:FAE):FE:=fun σ M=>match f σ M with
 | some (.dat (.str a),M1)=>match fa σ M1 with
  | some ([.dat (.str b)],M2)=>match b.cps.toList with
   | [c]=>match ixL c a.cps.toList with
    | some i=>some (.dat (.int i),M2)
    | none=>none
   | _=>none
  | _=>none
 | _=>none
theorem zL9 (h1:QE X o f) (ha:QAE X [e] fa) (hbase:attributeBase o "find" X.env (eval o X.env) = eval o X.env:=by rfl)
  (hfew:((backTo cpos (starEach [e] X.env)).all (fun x=> !x.1) && (backToKw cpos (keywordEach [] X.env)).all (fun x=>x.1.isSome) && decide ([e].length + ([]:List Keyword).length + (if ([]:List Keyword).isEmpty then 0 else 1) < 30)) = true:=by rfl)
  (hline:(apos.endLine == cpos.line) = true:=by rfl) (hs:starEach [e] X.env = (false,eval e X.env) :: starEach [] X.env:=by rfl) (hplain:(backTo cpos (starEach [] X.env)).any (·.1) = false:=by rfl) :
  QE X (.Call (.Attribute o "find" apos) [e] [] cpos) (zFb f fa) :=
 .mk <| PE.imp (zFm PySem.F.plainAttrs_str PySem.F.slot_str_find PySem.F.type_str_find zJw h1.un ha.un hbase hfew hline hs hplain) fun τ H Q zz=>by
  obtain ⟨L,σ,M,d,M',c,rs,hf,q⟩:=zz;unfold zFb at hf;split at hf
  ·rename_i a M1 e1;split at hf
   ·rename_i b M2 e2;split at hf
    ·rename_i cc hz;cases hf;refine ⟨L,σ,M,_,_,c,rs,e1,fun L1 H1 v s1 c1 r1=>?_⟩;rw [zY r1];refine ⟨rfl,L1,σ,M1,_,_,c1,rs.stp s1,e2,fun L2 H2 vs s2 c2 r2=>?_⟩;obtain ⟨v2,rfl,r3⟩:=r2.one;rw [zY r3,zDs hz];exact ⟨a,cc,rfl,rfl,q L2 H2 _ (s1.trans s2) c2 (by unfold zO Rep; rfl)⟩
    ·cases hf
   ·cases hf
  ·cases hf
theorem zIe (h1:QE X o f) (ha:QAE X [e] fa) (hbase:attributeBase o "index" X.env (eval o X.env) = eval o X.env:=by rfl)
  (hfew:((backTo cpos (starEach [e] X.env)).all (fun x=> !x.1) && (backToKw cpos (keywordEach [] X.env)).all (fun x=>x.1.isSome) && decide ([e].length + ([]:List Keyword).length + (if ([]:List Keyword).isEmpty then 0 else 1) < 30)) = true:=by rfl)
  (hline:(apos.endLine == cpos.line) = true:=by rfl) (hs:starEach [e] X.env = (false,eval e X.env) :: starEach [] X.env:=by rfl) (hplain:(backTo cpos (starEach [] X.env)).any (·.1) = false:=by rfl) :
  QE X (.Call (.Attribute o "index" apos) [e] [] cpos) (zDJ f fa) :=
 .mk <| PE.imp (zFm PySem.F.plainAttrs_str PySem.F.slot_str_index PySem.F.type_str_index zHL h1.un ha.un hbase hfew hline hs hplain) fun τ H Q zz=>by
  obtain ⟨L,σ,M,d,M',c,rs,hf,q⟩:=zz;unfold zDJ at hf;split at hf
  ·rename_i a M1 e1;split at hf
   ·rename_i b M2 e2;split at hf
    ·rename_i cc hz;split at hf
     ·rename_i i hi;cases hf;refine ⟨L,σ,M,_,_,c,rs,e1,fun L1 H1 v s1 c1 r1=>?_⟩;rw [zY r1];refine ⟨rfl,L1,σ,M1,_,_,c1,rs.stp s1,e2,fun L2 H2 vs s2 c2 r2=>?_⟩;obtain ⟨v2,rfl,r3⟩:=r2.one;rw [zY r3,zDs hz];exact ⟨a,cc,i,rfl,rfl,hi,q L2 H2 _ (s1.trans s2) c2 (by unfold zO Rep; rfl)⟩
     ·cases hf
    ·cases hf
   ·cases hf
  ·cases hf
def zBX:K2:=fun x y M=>match x,y with
 | .dat (.str b),.dat (.str a)=>match b.cps.toList with
  | [c]=>some (.dat (.bl (ixL c a.cps.toList).isNone),M)
  | _=>none
 | _,_=>none
theorem zGo {K:PySem.W.Frag}:zA0 K (fun x y H Q=>∃ i j,x = .str i /\ y = .str j /\ Q (.bl (!(!(occurrences j i 0 j.length 1).isEmpty))) H) zBX:=by
 intro L M M' H H0 x y d v w Q cc rx ry hk q;unfold zBX at hk;split at hk
 ·rename_i b a;split at hk
  ·rename_i c hz;cases hk;refine ⟨b,a,zY rx,zY ry,?_⟩;have e:(!(!(occurrences a b 0 a.length 1).isEmpty)) = (ixL c a.cps.toList).isNone:=by
    rw [zDs hz,zLW];cases ixL c a.cps.toList <;> rfl
   rw [e];exact q L H _ (.refl L H) cc (zAj (L:=L) (H:=H))
  ·cases hk
 ·cases hk
theorem zHW (h1:QE X a f) (h2:QE X b g) (hm:behindInMarks .NotIn b = false:=by rfl):QT X (.Compare a [.NotIn] [b] pos) (tst (fOp zBX f g)):=zCB zGo zEz h1 h2 hm
theorem zDK (hg:Gl X x) (hm:X.mg x = some (.str z t)) (hd:(x == ("__debug__" : Str)) = false:=by decide):QE X (.Name x pos) (fC (.str z)):=zCa (fun _ _=>by unfold Rep; rfl) (zDS (v:=.str z) hg hm ⟨t,rfl⟩ hd)
end
end L3
namespace L2
open PySem PySem.Spec PyProof.Rows
def Fly (h:Heap) (P:Addr -> Prop) (e:Addr) (cls:Value):Prop :=
 ∃ oe vs,h.get? e = some oe /\ oe.cls = cls /\ oe.dict = none /\ oe.data = .fields vs /\ 1 < vs.size /\ P e /\
  (vs[1]? = some .none \/ ∃ T oT ts,vs[1]? = some (.ref T) /\ T ≠ e /\ P T /\ h.get? T = some oT /\ oT.data = .fields ts /\ ts[3]? = some .none)
theorem Fly.imp (f:Fly h P e cls) (i:∀ b,P b -> P' b):Fly h P' e cls:=by
 obtain ⟨oe,vs,h1,h2,h3,h4,h5,h6,h7⟩:=f;refine ⟨oe,vs,h1,h2,h3,h4,h5,i _ h6,h7.imp_right ?_⟩;rintro ⟨T,oT,ts,a1,a2,a3,a4⟩;exact ⟨T,oT,ts,a1,a2,i _ a3,a4⟩
structure Near (P:Addr -> Prop) (fs:List Addr) (h h':Heap):Prop where
 keep:∀ b o,h.get? b = some o -> ¬ P b -> b ∉ fs -> h'.get? b = some o
 slot:∀ b o,h.get? b = some o -> ¬ P b -> ∃ sl,h'.get? b = some { o with slots:=sl }
 there:∀ b o,h.get? b = some o -> ∃ o',h'.get? b = some o'
theorem Near.trans (a:Near P fs h h1) (b:Near P fs h1 h2):Near P fs h h2 where
 keep:=fun c o e n f=>b.keep c o (a.keep c o e n f) n f;slot:=fun c o e n=>by
  obtain ⟨sl,e1⟩:=a.slot c o e n;obtain ⟨sl2,e2⟩:=b.slot c _ e1 n;exact ⟨sl2,e2⟩
 there:=fun c o e=>by
  obtain ⟨o1,e1⟩:=a.there c o e;exact b.there c o1 e1
theorem nfr {o:Obj} (h:o.data = .fields vs) (f:Array Value -> Array Value):(o.mapFields f).isFreed = false:=by
 obtain ⟨c,d,dt,sl⟩:=o;cases h; rfl
theorem zJJ {o:Obj} (f:Array Value -> Array Value):(o.mapFields f).dict = o.dict:=by
 obtain ⟨c,d,dt,sl⟩:=o;cases dt <;> rfl
theorem Near.upd {h:Heap} {o:Obj} (e:h.get? a = some o) (hd:o.data = .fields vs) (hp:P a) (f:Array Value -> Array Value):Near P fs h (h.update a (Obj.mapFields f)) where
 keep:=fun b u q n _=>by rw [Heap.get?_update_ne _ _ _ _ (fun z=>n (by rw [z]; exact hp))]; exact q
 slot:=fun b u q n=>⟨u.slots,by rw [Heap.get?_update_ne _ _ _ _ (fun z=>n (by rw [z]; exact hp))]; exact q⟩;there:=fun b u q=>by
  by_cases z:b = a
  ·subst z; exact ⟨_,Heap.get?_update_self _ e (nfr hd f)⟩
  ·exact ⟨u,by rw [Heap.get?_update_ne _ _ _ _ z]; exact q⟩
theorem zFF {A:Around} {s:Shared} {env:Env}
  (hA:A.frames = some (env :: outer)) (hF:s.heap.FunFrames base (env :: outer)) (hL:env.frame = some L)
  {oe:Obj} {vs:Array Value} (h1:s.heap.get? e = some oe) (h2:oe.cls = cls) (h3:oe.dict = none) (h4:oe.data = .fields vs) (h5:1 < vs.size) (h6:P e)
  (hP:∀ b,s.heap.objs.size <= b -> P b) (hfr:∀ b ∈ frs (env :: outer),¬ P b)
  (h:∀ h',Near P (frs (env :: outer)) s.heap h' -> Fly h' P e cls -> Q () { s with heap:=h' }) :
  wpAny M A (do
   let a <- PySem.frameOf env;let pl <- entryPlaceOf L hn;let b <- EntryCells.newEntry head a Value.none (rawInt ↑L) Value.none pl;setField (.ref e) 1 b) (fun _ s2=>wpAny M A (setFlight (.ref e) none) Q E s2) E s:=by
 refine zNr (wpAny_frameOf_fun hA hF hL fun h' so=>?_);refine zNr (wpAny_entryPlaceOf fun pl ip=>?_);refine zNr ?_;unfold EntryCells.newEntry newFields;have hsz:h'.objs.size = s.heap.objs.size:=so.1;have ne:e ∉ frs (env :: outer):=fun z=>hfr e z h6;have e1:h'.get? e = some oe:=(so.2.1 e ne).trans h1;refine zOK ?_ (by
  show sizeOk _;rcases ip with rfl | ⟨_,_,_,_,_,_,_,rfl⟩ <;> exact (by decide:(11:Nat) <= sizeLine + 2))
 generalize hts:(List.toArray ([head,Value.ref L,Value.none,rawInt ↑L,Value.none] ++ if pl.isEmpty = true then List.replicate 6 Value.none else pl)) = ts;have ht3:3 < ts.size:=by rw [<- hts]; simp
 have hTe:h'.objs.size ≠ e:=fun z=>by
  have y:=zN2 e1;rw [z] at y;exact zOZ _ y
 have e2:=zNs (o:=({ cls:=Value.type "traceback", data:=.fields ts }:Obj)) e1;refine wpAny_setField e2 h4 h5 ?_;have e3:=Heap.get?_update_self (Obj.mapFields fun x=>x.setIfInBounds 1 (Value.ref h'.objs.size)) e2 (nfr h4 _);have eT:(h'.push { cls:=Value.type "traceback", data:=.fields ts }).get? h'.objs.size = some { cls:=Value.type "traceback", data:=.fields ts }:=zN1 _ rfl;have eT2:((h'.push { cls:=Value.type "traceback", data:=.fields ts }).update e (Obj.mapFields fun x=>x.setIfInBounds 1 (Value.ref h'.objs.size))).get? h'.objs.size = some { cls:=Value.type "traceback", data:=.fields ts }:=by
  rw [Heap.get?_update_ne _ _ _ _ hTe]; exact eT
 refine wpAny_setFlight_none e3 (Obj.data_mapFields h4 _) (by simp [h5]) eT2 rfl ht3 ?_;have n1:Near P (frs (env :: outer)) s.heap h':=⟨fun b o q _ f=>(so.2.1 b f).trans q,fun b o q _=>so.2.2 b o q,fun b o q=>let ⟨sl,z⟩:=so.2.2 b o q; ⟨_,z⟩⟩;have n2:Near P (frs (env :: outer)) h' (h'.push { cls:=Value.type "traceback", data:=.fields ts }):=⟨fun b o q _ _=>zNs _ q,fun b o q _=>⟨o.slots,zNs _ q⟩,fun b o q=>⟨o,zNs _ q⟩⟩;have pT:P h'.objs.size:=hP _ (by omega);refine h _ (n1.trans (n2.trans ((Near.upd e2 h4 h6 _).trans (Near.upd eT2 rfl pT _)))) ?_;refine ⟨_,_,(Heap.get?_update_ne _ _ _ _ (Ne.symm hTe)).trans e3,(Obj.cls_mapFields _ _).trans h2,(zJJ _).trans h3,Obj.data_mapFields h4 _,by simp [h5],h6,.inr ⟨h'.objs.size,_,_,by simp [h5],hTe,pT,Heap.get?_update_self _ eT2 (nfr rfl _),rfl,by simp [ht3]⟩⟩
theorem zHB
  (hA:A.frames = some (env :: outer)) (hF:s.heap.FunFrames base (env :: outer)) (hL:env.frame = some L) (fl:Fly s.heap P e cls)
  (hP:∀ b,s.heap.objs.size <= b -> P b) (hfr:∀ b ∈ frs (env :: outer),¬ P b)
  (h:∀ h',Near P (frs (env :: outer)) s.heap h' -> Fly h' P e cls -> Q () { s with heap:=h' }) :
  wpAny M A (noteFrame (.ref e) env) (fun _ s2=>wpAny M A (setFlight (.ref e) none) Q E s2) E s:=by
 obtain ⟨oe,vs,h1,h2,h3,h4,h5,h6,h7⟩:=fl;unfold noteFrame;rw [hL];rcases h7 with h7 | ⟨T,oT,ts,h7,h8,h9,h10,h11,h12⟩
 ·refine zNr (zOW h1 h4 h7 ?_);exact zFF hA hF hL h1 h2 h3 h4 h5 h6 hP hfr h
 ·refine zNr (zOW h1 h4 h7 ?_);refine zNr (zOW h10 h11 h12 ?_);have h3s:3 < ts.size:=by
   have:=Array.getElem?_eq_some_iff.mp h12;exact this.1
  refine zNr (wpAny_setField h10 h11 h3s ?_);have e1:(s.heap.update T (Obj.mapFields fun x=>x.setIfInBounds 3 Value.none)).get? e = some oe:=by rw [Heap.get?_update_ne _ _ _ _ (Ne.symm h8)]; exact h1
  have n0:Near P (frs (env :: outer)) s.heap (s.heap.update T (Obj.mapFields fun x=>x.setIfInBounds 3 Value.none)):=Near.upd h10 h11 h9 _;refine zFF (base:=base) hA ?_ hL e1 h2 h3 h4 h5 h6 ?_ hfr fun h' n f=>h h' (n0.trans n) f
  ·exact Heap.FunFrames.of_keeps (fun b o q nf=>⟨o,by rw [Heap.get?_update_ne _ _ _ _ (fun z=>by subst z; rw [h10] at q; cases q; exact nf _ h11)]; exact q,rfl⟩) hF
  ·intro b hb;refine hP b ?_;simpa [Heap.update] using hb
theorem zAA.got (x:zAA P w H h a o):∃ u,h.get? a = some u:=by
 induction o with
 | lst xs=>obtain ⟨z,its,n,r,e⟩:=x; exact ⟨_,e⟩
 | tup xs=>obtain ⟨z,its,r,ob,e,c⟩:=x; exact ⟨_,e⟩
 | dK kvs=>obtain ⟨z,y,vs,r,ob,es,ep,e,c⟩:=x; exact ⟨_,e⟩
 | dT kvs=>obtain ⟨z,y,xs,r,ob,es,ep,e,c⟩:=x; exact ⟨_,e⟩
 | set S n=>obtain ⟨ob,es,ep,t,e,c⟩:=x; exact ⟨_,e⟩
 | ins C dx fs=>obtain ⟨d,z,ne,e,_⟩:=x; exact ⟨_,e⟩
 | own y=>obtain ⟨ob,e⟩:=x; exact ⟨_,e⟩
 | xd fs=>obtain ⟨mA,⟨od,es,ep,e,c⟩,r⟩:=x; exact ⟨_,e⟩
 | rng lo hi=>obtain ⟨t,u,v,e⟩:=x; exact ⟨_,e⟩
 | frz ob u ih=>obtain ⟨e,q⟩:=x; exact ⟨_,e⟩
 | tbl ps=>exact ⟨_,x⟩
 | met f y=>exact ⟨_,x⟩
 | ext φ=>obtain ⟨p,⟨o,e⟩,st⟩:=x; exact ⟨_,e⟩
def CXe (P:Program) (w:World):CXT:=fun outer H s E e s'=>∃ a C H',e = .ref a /\ s'.os = s.os /\ AllBare s'.gens /\ Un (frs outer) [] H H' s.heap s'.heap /\ HOk P w H' s'.heap /\
 Fly s'.heap (fun b=>s.heap.get? b = none /\ H' b = none) a C /\ E C none H'
def New (X:Cx) (H:Hp) (b:Addr):Prop:=X.s₀.heap.get? b = none /\ H b = none /\ b ∉ frs X.stack
section
variable {X:Cx} {zB:List (Addr × Obj)} {σ:St} {H:Hp} {s:Shared}
theorem Inv.newP (I:Inv X zB σ H s):∀ b,s.heap.objs.size <= b -> New X H b:=fun b hb=>
 ⟨Heap.get?_none_of_le (zOI I.sz hb),I.hok.fresh hb,fun z=>by
  obtain ⟨_,o,e,_⟩:=I.stack.mem z;exact absurd (zOG (zN2 e) hb) (zOZ _)⟩
theorem Inv.newN (I:Inv X zB σ H s) (hx:X.ex = []) (hb:s.heap.get? b = none):New X H b:=by
 refine ⟨?_,?_,fun z=>?_⟩
 ·cases q:X.s₀.heap.get? b with
  | none=>rfl
  | some o=>
   obtain ⟨o',e⟩:=I.base.there b o q (by rw [hx]; simp);rw [hb] at e; cases e
 ·cases q:H b with
  | none=>rfl
  | some o=>
   obtain ⟨o',e⟩:=(I.hok b o q).got;rw [hb] at e; cases e
 ·obtain ⟨_,o,e,_⟩:=I.stack.mem z;rw [hb] at e; cases e
theorem Inv.nearOk (I:Inv X zB σ H s) (n:Near (New X H) (frs X.stack) s.heap h'):HOk X.prog X.w H h':=fun b u e=>by
 refine (I.hok b u e).stay (fun c v hc q=>?_) (fun _ q=>q) fun _ _ q=>q;have z:H c ≠ none:=by
  rcases hc with rfl | hc
  ·rw [e]; simp
  ·rw [hc]; simp
 exact n.keep c v q (fun p=>z p.2.1) fun p=>z (I.stkFree c p)
end
section
variable {P:Program} {w:World} {K:PySem.W.Frag} {mg:Str -> Option Value} {base:Heap} {N:List Str} {qual:Str} {scope:Scope} {f:Addr} {cd:Value} {A:Around} {outer:List Env} {s₀:Shared} {H₀:Hp} {E:XK}
abbrev cxE (P:Program) (w:World) (K:PySem.W.Frag) (mg:Str -> Option Value) (base:Heap) (N:List Str) (qual:Str) (scope:Scope) (f:Addr) (cd:Value) (A:Around) (outer:List Env) (s₀:Shared) (H₀:Hp) (E:XK):Cx :=
 zFa (CXe P w) P w K mg base N qual scope f cd A outer s₀ H₀ E
theorem zJI (I:Inv (cxE P w K mg base N qual scope f cd A outer s₀ H₀ E) zB σ H s)
  (fl:Fly s.heap (New (cxE P w K mg base N qual scope f cd A outer s₀ H₀ E) H) e C) (h:E C none H):(cxE P w K mg base N qual scope f cd A outer s₀ H₀ E).xe (.ref e) s:=by
 refine zNr (zHB I.ok.frames I.stack rfl fl I.newP (fun b z p=>p.2.2 z) fun h' n fy=>?_);have nb:∀ b o,s₀.heap.get? b = some o -> b ∉ frs outer -> b ∉ frs (cxE P w K mg base N qual scope f cd A outer s₀ H₀ E).stack:=fun b o q hb z=>by
  rcases zN3.mp (I.stkSub b z) with y | y
  ·exact absurd (zOG (zN2 q) I.ok.above) (by rw [y]; exact zOZ _)
  ·exact hb y
 have nP:∀ b o,s₀.heap.get? b = some o -> ¬ New (cxE P w K mg base N qual scope f cd A outer s₀ H₀ E) H b:=fun b o q p=>by
  have:=p.1;rw [show s₀.heap.get? b = none from this] at q; cases q
 refine ⟨e,C,H,rfl,I.os,I.bare,⟨fun b o q m hb hx=>?_,fun b o q m hb hx=>?_,I.base.free,fun b o q hx=>?_,I.base.tups,I.base.frzs,I.base.tbls⟩,I.nearOk n,fy.imp fun b p=>⟨p.1,p.2.1⟩,h⟩
 ·exact n.keep b o (I.base.keep b o q m hb hx) (nP b o q) (nb b o q hb)
 ·obtain ⟨sl,q1⟩:=I.base.slot b o q m hb hx;obtain ⟨sl2,q2⟩:=n.slot b _ q1 (nP b o q);exact ⟨sl2,q2⟩
 ·obtain ⟨o1,q1⟩:=I.base.there b o q hx;exact n.there b o1 q1
end
end L2
namespace L3
open PySem PySem.Spec PyProof.Rows L2
abbrev zJD:List Value:=[.type "ValueError", .type "Exception", .type "BaseException", .type "object"]
abbrev FXS:=Sd -> Mem -> Option ((Out × Sd × Mem) ⊕ Mem)
abbrev FFX:=List D -> Mem -> Option ((D × Mem) ⊕ Mem)
def trX (K:PySem.W.Frag) (C:Value) (E:XK) (f:FXS):TS:=fun B τ H=>∃ L σ M,Cor K L M H /\ zAC L H σ τ /\
 ((∃ o σ' M',f σ M = some (.inl (o,σ',M')) /\ ∀ L' H',Stp L H L' H' -> Cor K L' M' H' -> zKk B L' H' σ' o) \/ (∃ M',f σ M = some (.inr M') /\ ∀ L' H',Stp L H L' H' -> Cor K L' M' H' -> E C none H'))
structure QX (X:Cx) (C:Value) (E:XK) (st:Stmt) (f:FXS):Prop where
 un:PS X st (trX X.K C E f)
structure QXs (X:Cx) (C:Value) (E:XK) (st:List Stmt) (f:FXS):Prop where
 un:PSs X st (trX X.K C E f)
def xOf (f:FS):FXS:=fun σ M=>match f σ M with
 | some r=>some (.inl r)
 | none=>none
def zE5:FXS:=fun _ M=>some (.inr M)
def xIf (c:FT) (f g:FXS):FXS:=fun σ M=>match c σ M with
 | some (true,M1)=>f σ M1
 | some (false,M1)=>g σ M1
 | none=>none
def zDH (f g:FXS):FXS:=fun σ M=>match f σ M with
 | some (.inl (.nx,σ1,M1))=>g σ1 M1
 | r=>r
def spX (K:PySem.W.Frag) (n:Nat) (C:Value) (g:FFX):Sp:=fun vs H Q E=>∃ L ds M,Cor K L M H /\ zG L H ds vs /\ ds.length = n /\
 ((∃ d M',g ds M = some (.inl (d,M')) /\ ∀ L' H' v,Stp L H L' H' -> Cor K L' M' H' -> Rep L' H' d v -> Q v H') \/ (∃ M',g ds M = some (.inr M') /\ ∀ L' H',Stp L H L' H' -> Cor K L' M' H' -> E C none H'))
def zDt (n:Nat) (b:FXS):FFX:=fun ds M=>match b (ds.map some ++ List.replicate (n - ds.length) none) M with
 | some (.inl (.ret d,_,M'))=>some (.inl (d,M'))
 | some (.inl (.nx,_,M'))=>some (.inl (.non,M'))
 | some (.inr M')=>some (.inr M')
 | _=>none
section
variable {X:Cx} {C:Value} {E:XK} {st:Stmt} {rest:List Stmt} {c:Expr} {pos:Pos}
theorem zJP (h:QS X st f):QX X C E st (xOf f):=.mk <| PS.imp h.un fun B τ H zz=>by
 obtain ⟨L,σ,M,co,rs,r⟩:=zz;unfold xOf at r;rcases r with ⟨o,σ',M',e,q⟩ | ⟨M',e,q⟩
 ·split at e
  ·rename_i e1;cases e;exact ⟨L,σ,M,_,_,_,co,rs,e1,q⟩
  ·cases e
 ·split at e <;> cases e
theorem zLX (h:QSs X rest f):QXs X C E rest (xOf f):=.mk <| PSs.imp h.un fun B τ H zz=>by
 obtain ⟨L,σ,M,co,rs,r⟩:=zz;unfold xOf at r;rcases r with ⟨o,σ',M',e,q⟩ | ⟨M',e,q⟩
 ·split at e
  ·rename_i e1;cases e;exact ⟨L,σ,M,_,_,_,co,rs,e1,q⟩
  ·cases e
 ·split at e <;> cases e
theorem zIy (h:PS X st (fun _ _ H=>E C none H)):QX X C E st zE5:=.mk <| PS.imp h fun B τ H zz=>by
 obtain ⟨L,σ,M,co,rs,r⟩:=zz;unfold zE5 at r;rcases r with ⟨o,σ',M',e,q⟩ | ⟨M',e,q⟩
 ·cases e
 ·cases e;exact q L H (.refl L H) co
theorem zFA (h1:QX X C E st f) (h2:QXs X C E rest g):QXs X C E (st :: rest) (zDH f g):=.mk <| PSs.imp (zFs h1.un h2.un) fun B τ H zz=>by
 obtain ⟨L,σ,M,co,rs,r⟩:=zz;unfold zDH at r;refine ⟨L,σ,M,co,rs,?_⟩;split at r
 ·rename_i σ1 M1 e1;refine .inl ⟨_,_,_,e1,fun L1 H1 s1 c1 τ1 r1=>⟨L1,σ1,M1,c1,r1,?_⟩⟩;rcases r with ⟨o,σ',M',e,q⟩ | ⟨M',e,q⟩
  ·exact .inl ⟨o,σ',M',e,fun L2 H2 s2 c2=>q L2 H2 (s1.trans s2) c2⟩
  ·exact .inr ⟨M',e,fun L2 H2 s2 c2=>q L2 H2 (s1.trans s2) c2⟩
 ·rename_i hne;rcases r with ⟨o,σ',M',e,q⟩ | ⟨M',e,q⟩
  ·refine .inl ⟨o,σ',M',e,fun L1 H1 s1 c1=>?_⟩;have z:=q L1 H1 s1 c1;cases o with
   | nx=>exact absurd e (hne σ' M')
   | ret d=>exact z
   | brk=>exact z
   | cnt=>exact z
  ·exact .inr ⟨M',e,q⟩
theorem zIz (h1:QX X C E st f):QXs X C E [st] f:=.mk <| PSs.imp (zG0 h1.un) fun _ _ _ h=>h
theorem zMY (hc:QT X c fc) (ha:QXs X C E a f) (hb:QXs X C E b g):QX X C E (.If c a b pos) (xIf fc f g):=.mk <| PS.imp (zKq hc.un ha.un hb.un) fun B τ H zz=>by
 obtain ⟨L,σ,M,co,rs,r⟩:=zz;unfold xIf at r;split at r
 ·rename_i M1 e1;refine ⟨L,σ,M,_,_,co,rs,e1,fun L1 H1 s1 c1=>zFu ⟨L1,σ,M1,c1,rs.stp s1,?_⟩⟩;rcases r with ⟨o,σ',M',e,q⟩ | ⟨M',e,q⟩
  ·exact .inl ⟨o,σ',M',e,fun L2 H2 s2 c2=>q L2 H2 (s1.trans s2) c2⟩
  ·exact .inr ⟨M',e,fun L2 H2 s2 c2=>q L2 H2 (s1.trans s2) c2⟩
 ·rename_i M1 e1;refine ⟨L,σ,M,_,_,co,rs,e1,fun L1 H1 s1 c1=>zFJ ⟨L1,σ,M1,c1,rs.stp s1,?_⟩⟩;rcases r with ⟨o,σ',M',e,q⟩ | ⟨M',e,q⟩
  ·exact .inl ⟨o,σ',M',e,fun L2 H2 s2 c2=>q L2 H2 (s1.trans s2) c2⟩
  ·exact .inr ⟨M',e,fun L2 H2 s2 c2=>q L2 H2 (s1.trans s2) c2⟩
 ·rcases r with ⟨o,σ',M',e,q⟩ | ⟨M',e,q⟩ <;> cases e
end
section
variable {x:Str} {k:Nat} {f:Addr} {fd:FuncData} {ps:List Str} {C:Value}
theorem zKQ {P:Program} {w:World} {K:PySem.W.Frag} {mg:Str -> Option Value} {base:Heap} {qual:Str} {st:Stmt} {N:List Str} {b:FXS} {n:Nat} (F:Fun K x qual st f fd) (S:FnScope N ps (zI st)) (hn:ps.length = n)
  (hb:∀ (cdv:Value) (A:Around) (outer:List Env) (s:Shared) (H:Hp) (E:XK),Room k (A.deeper (envOfC qual (zI st) s.heap.objs.size f cdv)) -> QXs (cxE P w K mg base N qual (zI st) f cdv A outer s H E) C E (zAq st) b) :
  FnOk P w K mg base (CXe P w) (k + 1) f fd ps (spX K n C (zDt N.length b)):=by
 obtain ⟨oc,od,kV,doc,pm,an,cdv,ct,osl,rfl,lk,hcd⟩:=F.ex;refine zKt lk hcd S (fun vs H Q E h=>?_) fun A outer s H vs Q E hr h=>⟨_,(hb cdv A outer s H E hr).un,?_⟩
 ·obtain ⟨L,ds,M,c,r,hl,_⟩:=h;rw [r.length,hl,hn]
 ·obtain ⟨L,ds,M,c,r,hl,q⟩:=h;refine ⟨L,_,M,c,zCw r,?_⟩;unfold zDt at q;rcases q with ⟨d,M',e,q⟩ | ⟨M',e,q⟩
  ·split at e
   ·rename_i e1;cases e;exact .inl ⟨_,_,_,e1,fun L1 H1 s1 c1 v r1=>q L1 H1 v s1 c1 r1⟩
   ·rename_i e1;cases e;exact .inl ⟨_,_,_,e1,fun L1 H1 s1 c1 τ' r1=>q L1 H1 .non s1 c1 (by unfold Rep; rfl)⟩
   ·cases e
   ·cases e
  ·split at e
   ·cases e
   ·cases e
   ·rename_i e1;cases e;exact .inr ⟨_,e1,q⟩
   ·cases e
end
structure Xq (K:PySem.W.Frag) (N:Addr):Prop where
 n:PySem.W.nsOkIn K N = true
 i:PySem.W.nsIn K N "__init__" = some none
 g:PySem.W.nsIn K N "__getattribute__" = some none
 h:PySem.W.nsIn K N "__getattr__" = some none
 a:PySem.W.nsIn K N "args" = some none
theorem Xq.quiet {K:PySem.W.Frag} {h:Heap} (q:Xq K N) (hK:K.In h):∀ n ∈ quietNames,h.nsMap N n = none:=by
 intro n hn;simp only [quietNames,zN3,zOM,or_false] at hn;rcases hn with rfl | rfl | rfl | rfl
 ·exact PySem.W.nsMap_none_of_in hK q.n q.i
 ·exact PySem.W.nsMap_none_of_in hK q.n q.g
 ·exact PySem.W.nsMap_none_of_in hK q.n q.h
 ·exact PySem.W.nsMap_none_of_in hK q.n q.a
structure Xd (K:PySem.W.Frag) (C CH:Addr) where
 {N:Addr} {nm q:Str} {bs sub:List Value} {hdct ab:Bool} {sn:List Str} {col:Option Bool} {dd:Option Addr} {k0 k1 k2 k3 k5:Option Value}
 {c0:Value} {dh:Option Addr} {cd:ClassData} {sl:Array (Option Value)}
 l:K.lookup C = some (excClassObj nm q C N bs (.ref CH :: zJD) hdct sn sub ab col dd k0 k1 k2 k3 k5 "ValueError.__new__")
 lh:K.lookup CH = some ⟨c0,dh,.cls cd,sl⟩
 qn:Xq K N
 qh:Xq K cd.ns
 ga:PySem.W.findIn K (.ref C) "__getattribute__" = some (some (.builtin "BaseException.__getattribute__"))
 gt:PySem.W.findIn K (.ref C) "__getattr__" = some none
 cl:PySem.W.findObj K C none "__class__" = some (.bind (.builtin "getset_descriptor.__get__") (.builtin "object.__class__"))
 mo:PySem.W.mroIn K C (.type "object") = some true
 ks:PySem.W.kitCls K (.ref C) (.ref C) = some true
section
variable {K:PySem.W.Frag} {C CH:Addr} {h:Heap}
theorem Xd.tail (c:Xd K C CH) (hK:K.In h):OwnTail h zJD (.ref CH :: zJD):=.own (hK _ _ c.lh) (Heap.Ns.of_isNs (PySem.W.isNs_of_in hK c.qh.n)) (PySem.W.nsMap_none_of_in hK c.qh.n c.qh.i) .base
theorem Xd.tailQ (c:Xd K C CH) (hK:K.In h):OwnTailQ h zJD (.ref CH :: zJD):=.own (hK _ _ c.lh) (Heap.Ns.of_isNs (PySem.W.isNs_of_in hK c.qh.n)) (c.qh.quiet hK) .base
def IsX (C:Addr) (e:Addr) (h:Heap):Prop:=∃ oe vs,h.get? e = some oe /\ oe.cls = .ref C /\ oe.dict = none /\ oe.data = .fields vs
theorem IsX.inst (x:IsX C e h):∃ oe,PySem.W.InstAt h e oe C none:=by
 obtain ⟨oe,vs,h1,h2,h3,h4⟩:=x;refine ⟨oe,h1,h2,?_,?_⟩
 ·unfold PySem.W.notCls;rw [h4]
 ·rw [h3]; trivial
variable {prog:Program} {w:World} {A:Around} {E:Value -> Shared -> Prop} {s:Shared} {e:Addr}
theorem zF5 (c:Xd K C CH) (hK:K.In s.heap) (x:IsX C e s.heap) (q:Q (Fin.done (Flow.ret (.ref C))) s) :
  wpAny (model prog w) A (Builtin.«object.__getattribute__» ⟨[.ref e,.str "__class__" tk],[]⟩) Q E s:=by
 obtain ⟨oe,i⟩:=x.inst;unfold Builtin.«object.__getattribute__»;refine zNr ?_;unfold slotArgs;refine wpAny_ite_false rfl (wpAny_ite_false rfl (zNt ?_));refine zNr (zNt ?_);refine zNr (wpAny_typeOf_ref i.at_ ?_);rw [i.cls];refine zNr (PySem.W.looks_find hK i c.cl A _ _ s (fun _ _ z=>z) ?_);refine zNr (wpAny_holding (wpAny_call ?_));refine PySem.W.class_get hK i c.mo ?_;exact zNt q
theorem zIp (c:Xd K C CH) (hK:K.In s.heap) (x:IsX C e s.heap) (q:Q (.ref C) s) :
  wpAny (model prog w) A (getAttrBy (.ref e) (.str "__class__" tk) false) Q E s:=by
 obtain ⟨oe,i⟩:=x.inst;obtain ⟨hp,gn,dr,tks,os⟩:=s;have f3:=F.attrBase_ValueError.ga.bind (.ref e);unfold getAttrBy;refine wpAny_holding (zNr (wpAny_typeOf_ref i.at_ ?_));rw [i.cls];refine zNr (PySem.W.looks_findIn hK c.ga A _ _ _ (fun _ _ z=>z) ?_);refine wpAny_ite_false rfl ?_;unfold getAttrByItsOwn;refine zNr (wpAny_ite_true rfl (PySem.W.looks_findIn hK c.gt A _ _ _ (fun _ _ z=>z) ?_));refine zNr (wpAny_attempt (wpAny_holding (wpAny_ite_false rfl ?_)));refine zNr (wpAny_of_eq f3 (wpAny_call ?_));refine codeAny_call_builtin F.attrBase_ValueError.ga.plain F.entry_bexc_ga ?_;refine wpAny_check_ga_own F.attrBase_ValueError (hK _ _ c.l) (c.tailQ hK) i.at_ i.cls ?_;refine zF5 c hK x ?_;exact zNt q
theorem zDr (c:Xd K C CH):PySem.W.KitX K (.ref e) (.ref C) (IsX C e) where
 ty:=fun M h hK ⟨oe,vs,h1,h2,_⟩ A Q E s k q=>wpAny_typeOf_ref (k _ _ h1) (by rw [h2]; exact q);it:=fun M h hK _=>(PySem.W.kit_cls hK c.ks).2.1;ne:=fun h tp dd its n sl hK ht=>by
  have:=hK _ _ c.l;by_cases z:C = tp
  ·subst z;rw [ht] at this;injection this with this
   have y:=congrArg Obj.cls this;simp at y
  ·simp [z]
 ca:=fun {prog w A E Q s} hK x q=>by
  unfold getAttr?;refine zNr (wpAny_mkText ?_);unfold getAttrBy?;refine zNr (wpAny_attempt (zIp (s:={ s with toks:=s.toks + 1 }) c hK x ?_));exact zNt q
theorem zHn (hK:K.In s.heap) (he:s.heap.get? e = some oe) (hc:oe.cls = .ref C) (k1:PySem.W.kitCls K (.ref C) (.ref CH) = some true) (k2:PySem.W.kitCls K (.ref CH) (.type "BaseException") = some true) (q:Q true s):wpAny M A (excMatches (.ref e) (.ref CH)) Q E s:=by
 obtain ⟨t1,t2,t3⟩:=PySem.W.kit_cls (M:=M) hK k1;obtain ⟨_,_,u3⟩:=PySem.W.kit_cls (M:=M) hK k2;unfold excMatches;refine zNr (zNr (t1 A _ _ s (fun _ _ z=>z) (wpAny_of_eq tc_notTuple ?_)));refine wpAny_ite_false rfl ?_;refine zNr (zNt ?_);refine zNr ?_;rw [List.forIn_cons];refine zNr (zNr ?_);unfold isExcClass;refine zNr (t2 A _ _ s (fun _ _ z=>z) (wpAny_ite_true rfl (u3 A _ _ s (fun _ _ z=>z) ?_)));refine wpAny_ite_false rfl (zNt ?_);show wpAny _ _ (pure PUnit.unit) _ _ _;refine zNt ?_;refine zNr (wpAny_typeOf_ref he ?_);rw [hc];refine zNr ?_;rw [List.forIn_cons];refine zNr (zNr (t3 A _ _ s (fun _ _ z=>z) (wpAny_ite_true rfl (zNt (zNt ?_)))));exact zNt q
end
end L3
namespace L2
open PySem PySem.Spec PyProof.Rows
abbrev inX (X:Cx) (a:Addr) (oe:Obj):Cx:={ X with A:=X.A.mark (some (.ref a)),calm:=false,pn:=(a,oe) :: X.pn,xe:=fun _ _=>False }
section
variable {X:Cx} {zB:List (Addr × Obj)} {σ:St} {H H' H1:Hp} {s s1 s':Shared} {a:Addr} {oe:Obj} {C:Value}
theorem Inv.inX (I:Inv X zB σ H s) (h:s.heap.get? a = some oe /\ H a = none /\ a ≠ X.env.locals /\ a ∉ X.fs /\ ∀ v,oe.data ≠ .cell v):Inv (inX X a oe) zB σ H s :=
 ⟨⟨I.ok.mod,I.ok.kind,I.ok.glob,I.ok.blt,I.ok.above,I.ok.inj,I.ok.has,I.ok.cab,fun z=>Bool.noConfusion z,I.ok.frames,I.ok.stk,I.ok.exf,I.ok.bs,I.ok.bsz,I.ok.noex,I.ok.exfs,I.ok.funs,I.ok.frf⟩,I.os,I.bare,I.base,I.loc,I.cell,I.free,I.freeC,
  fun p hp=>by
   rcases zN3.mp hp with z | z
   ·rw [z]; exact h
   ·exact I.pin p z,I.hok,I.len⟩
theorem Inv.outX (ok:X.Ok) (I:Inv (L2.inX X a oe) zB σ H s):Inv X zB σ H s :=
 ⟨ok,I.os,I.bare,I.base,I.loc,I.cell,I.free,I.freeC,fun p hp=>I.pin p (zN4 _ hp),I.hok,I.len⟩
structure Cau (X:Cx) (zB:List (Addr × Obj)) (σ:St) (H1:Hp) (s1:Shared) (H':Hp) (s':Shared) (a:Addr) (C:Value):Prop where
 I:Inv X zB σ H1 s1
 os:s'.os = s1.os
 bare:AllBare s'.gens
 un:Un (frs X.stack) [] H1 H' s1.heap s'.heap
 hok:HOk X.prog X.w H' s'.heap
 fl:Fly s'.heap (fun b=>s1.heap.get? b = none /\ H' b = none) a C
theorem Cau.inv (c:Cau X zB σ H1 s1 H' s' a C):Inv X zB σ H' s':=c.I.call' c.os c.un c.hok c.bare fun b z=>absurd z (by simp)
theorem Cau.near (c:Cau X zB σ H1 s1 H' s' a C) (n:Near (fun b=>s1.heap.get? b = none /\ H' b = none) (frs X.stack) s'.heap h') (fy:Fly h' (fun b=>s1.heap.get? b = none /\ H' b = none) a C) :
  Cau X zB σ H1 s1 H' { s' with heap:=h' } a C:=by
 have np:∀ b o,s1.heap.get? b = some o -> ¬ (s1.heap.get? b = none /\ H' b = none):=fun b o e z=>by rw [z.1] at e; cases e
 refine ⟨c.I,c.os,c.bare,⟨fun b o q m hb hx=>?_,fun b o q m hb hx=>?_,c.un.free,fun b o q hx=>?_,c.un.tups,c.un.frzs,c.un.tbls⟩,fun b u e=>?_,fy⟩
 ·exact n.keep b o (c.un.keep b o q m hb hx) (np b o q) hb
 ·obtain ⟨sl,q1⟩:=c.un.slot b o q m hb hx;obtain ⟨sl2,q2⟩:=n.slot b _ q1 (np b o q);exact ⟨sl2,q2⟩
 ·obtain ⟨o1,q1⟩:=c.un.there b o q hx;exact n.there b o1 q1
 ·refine (c.hok b u e).stay (fun d v hc q=>?_) (fun _ q=>q) fun _ _ q=>q;have z:H' d ≠ none:=by
   rcases hc with rfl | hc
   ·rw [e]; simp
   ·rw [hc]; simp
  exact n.keep d v q (fun p=>z p.2) fun p=>z (c.inv.stkFree d p)
theorem zHh (fl:Fly s.heap P a C)
  (h:∀ h',Near P fs s.heap h' -> Fly h' P a C -> Q () { s with heap:=h' }):wpAny M A (setFlight (.ref a) none) Q E s:=by
 have f0:=fl;obtain ⟨oe,vs,h1,h2,h3,h4,h5,h6,h7⟩:=fl;rcases h7 with h7 | ⟨T,oT,ts,h7,h8,h9,h10,h11,h12⟩
 ·unfold setFlight;refine zNr (zOW h1 h4 h7 ?_);refine wpAny_ite_false rfl (zNt ?_);exact h s.heap ⟨fun _ _ q _ _=>q,fun _ o q _=>⟨o.slots,q⟩,fun _ o q=>⟨o,q⟩⟩ f0
 ·have h3s:3 < ts.size:=(Array.getElem?_eq_some_iff.mp h12).1;refine wpAny_setFlight_none h1 h4 h7 h10 h11 h3s ?_;refine h _ (Near.upd h10 h11 h9 _) ?_;exact ⟨oe,vs,(Heap.get?_update_ne _ _ _ _ (Ne.symm h8)).trans h1,h2,h3,h4,h5,h6,.inr ⟨T,_,_,h7,h8,h9,Heap.get?_update_self _ h10 (nfr h11 _),Obj.data_mapFields h11 _,by simp [h3s]⟩⟩
theorem zHP (I:Inv X zB σ H s) (hN:X.N.Nodup) (hj:X.N[j]? = some x) (hk:X.env.scope.names.lookup x = some .local) (hv:σ[j]? = some (some v))
  (h:∀ s',Inv X zB (σ.set j none) H s' -> Q () s'):wpAny M A (unbindName X.env x) Q E s:=by
 obtain ⟨m,hn,hl⟩:=id I.loc;have hcls:(X.env.scope.kind == .class || (X.env.scope.kind == .module && X.env.locals != X.env.globals)) = false:=by rw [I.ok.kind]; rfl
 obtain ⟨u,r,l⟩:=hl j x v hj hv (.inl hk);have hm:m x = some u:=by
  rcases l with l | ⟨k,_⟩
  ·exact l.2
  ·rcases k with k | k
   ·rw [show X.env.kindOf x = some .local from hk] at k; cases k
   ·rw [show X.env.kindOf x = some .local from hk] at k; cases k
 refine wpAny_unbindName_local hk hn hm hcls fun h' u' hn' hs=>?_;obtain ⟨oL,_,_,hoL,_⟩:=id hn;have hjσ:j < σ.length:=(zNu.mp hv).1;have cne:=I.cne;refine h _ ⟨I.ok,I.os,I.bare,⟨fun b o e n hb hx=>?_,fun b o e n hb hx=>?_,I.base.free,fun b o e hx=>?_,I.base.tups,I.base.frzs,I.base.tbls⟩,⟨_,hn',fun i y v' e1 e2 e3=>?_⟩,fun y c e=>?_,I.free,I.freeC,fun p hp=>?_,fun b ob e=>?_,by simpa using I.len⟩
 ·exact (hs.2 b (zOC (zOG (zN2 e) I.ok.above))).trans (I.base.keep b o e n hb hx)
 ·obtain ⟨sl,e1⟩:=I.base.slot b o e n hb hx;exact ⟨sl,(hs.2 b (zOC (zOG (zN2 e) I.ok.above))).trans e1⟩
 ·obtain ⟨o',e1⟩:=I.base.there b o e hx;exact ⟨o',(hs.2 b (zOC (zOG (zN2 e) I.ok.above))).trans e1⟩
 ·by_cases hij:i = j
  ·subst hij;rw [zOl hjσ] at e2;cases e2
  ·rw [zOL (Ne.symm hij)] at e2;obtain ⟨w,r',q⟩:=hl i y v' e1 e2 e3;refine ⟨w,r',?_⟩;rcases q with ⟨k,e⟩ | ⟨k,c,e,z⟩
   ·refine .inl ⟨k,?_⟩;have:y ≠ x:=fun e=>hij (zDg hN e1 (e ▸ hj));simp [this,e]
   ·exact .inr ⟨k,c,e,z.sameBut hs (cne y c e)⟩
 ·obtain ⟨w',z⟩:=I.cell y c e;exact ⟨w',z.sameBut hs (cne y c e)⟩
 ·obtain ⟨e,n,ne,nf,d⟩:=I.pin p hp;exact ⟨(hs.2 p.1 ne).trans e,n,ne,nf,d⟩
 ·refine (I.hok b ob e).stay (fun c w' hc q=>(hs.2 c ?_).trans q) (fun _ q=>q) fun _ _ q=>q;rintro rfl;rcases hc with rfl | hc
  ·rw [I.free] at e; cases e
  ·rw [I.free] at hc; cases hc
end
end L2
namespace L3
open PySem PySem.Spec PyProof.Rows L2
def zIQ (i j:Nat) (g:FFX) (fa:FA):FS:=fun σ M=>match fa σ M with
 | some (ds,M1)=>match g ds M1 with
  | some (.inl (d,M2))=>some (.nx,σ.set i (some d),M2)
  | some (.inr M2)=>match σ[j]? with
   | some none=>some (.nx,σ,M2)
   | _=>none
  | none=>none
 | none=>none
section
variable {X:Cx} {e:Expr} {es:List Expr} {fn xt xe xh:Str} {p pos pf pc pa px ph pi hp:Pos} {k:Nat} {f:Addr} {fd:FuncData} {ps:List Str} {C CH:Addr} {g:FFX} {fa:FA}
theorem zJB (F:FnOk X.prog X.w X.K X.mg X.base (CXe X.prog X.w) k f fd ps (spX X.K (e :: es).length (.ref C) g)) (hr:Room k X.A) (hg:Gl X fn) (hm:X.mg fn = some (.ref f)) (hk:PySem.W.keepIn X.K (.ref f) = true) (hb:zCW X.K fd ps [])
  (hxe:X.xe = fun _ _=>False) (ha:QA X (e :: es) fa) (hdb:(fn == ("__debug__" : Str)) = false) (he:starEach (e :: es) X.env = (false,eval e X.env) :: starEach es X.env) (hpl:(backTo pos (starEach es X.env)).any (·.1) = false)
  (I:L2.Inv X zB τ H s) (h:trA X.K fa τ H fun vs H1=>spX X.K (e :: es).length (.ref C) g vs H1 Q Ex) :
  wpAny (model X.prog X.w) X.A (eval (.Call (.Name fn p) (e :: es) [] pos) X.env) (EP X zB τ Q) (fun v s'=>∃ H1 s1,L2.Inv X zB τ H1 s1 /\ CXe X.prog X.w X.stack H1 s1 Ex v s') s:=by
 refine wpAny_Call_Name_kw (zCl I hg hm ?_ hdb);refine PySem.W.callWith_K (h₀:=X.base) I.ok.mod.kin hk (zON (ha.un pos zB s τ H _ I h) (fun us s1 ⟨vs,H1,I1,r,q⟩=>⟨I1.kIn,?_⟩) (fun v s1 z=>by rw [hxe] at z; exact z.elim)) he hpl;have hl:(us ++ []).length = ps.length:=by rw [List.append_nil,<- r.length]; exact F.len _ _ _ _ q
 have hb':=hb s1 us I1.kIn hl;rw [List.append_nil] at hb';refine wpAny_call (codeAny_mono (F.run X.A X.stack s1 H1 ⟨us,[]⟩ us vs Q Ex hr I1.env0 hb' r q) fun r s' hq=>?_);cases r with
 | error v=>exact ⟨H1,s1,I1,hq⟩
 | ok fl=>
  cases fl with
  | ret u=>exact I1.after hq
  | next=>exact False.elim hq
  | brk=>exact False.elim hq
  | cont=>exact False.elim hq
theorem zNM (c:Xd X.K C CH) (k1:PySem.W.kitCls X.K (.ref C) (.ref CH) = some true) (k2:PySem.W.kitCls X.K (.ref CH) (.type "BaseException") = some true)
  (F:FnOk X.prog X.w X.K X.mg X.base (CXe X.prog X.w) k f fd ps (spX X.K (e :: es).length (.ref C) g)) (hr:Room k X.A) (hg:Gl X fn) (hm:X.mg fn = some (.ref f)) (hk:PySem.W.keepIn X.K (.ref f) = true) (hb:zCW X.K fd ps [])
  (hxe:X.xe = fun _ _=>False) (hst:X.stack = X.env :: X.outer) (hfr:X.env.frame = some X.env.locals)
  (ha:QA X (e :: es) fa) (hl:zId fa (e :: es).length) (hdb:(fn == ("__debug__" : Str)) = false) (he:starEach (e :: es) X.env = (false,eval e X.env) :: starEach es X.env) (hpl:(backTo pc (starEach es X.env)).any (·.1) = false)
  (hsw:swapsWith (.Call (.Name fn pf) (e :: es) [] pc) (some (.Name xt px)) pa.line X.env = pure false)
  (hN:X.N.Nodup) (hi:X.N[i]? = some xt) (hxt:X.env.scope.names.lookup xt = some .local) (hj:X.N[j]? = some xe) (hxl:X.env.scope.names.lookup xe = some .local)
  (hgh:Gl X xh) (hmh:X.mg xh = some (.ref CH)) (hdh:(xh == ("__debug__" : Str)) = false)
  (ht:∀ (a:Addr) (oe:Obj) (vs:Array Value),oe.cls = .ref C -> oe.dict = none -> oe.data = .fields vs -> PT (L2.inX X a oe) te (fun σ H Q=>σ[j]? = some (some (.ref a)) /\ ∀ p,H p = none -> Q false (upd H p (.tup [.ref D1,.ref D2])))) :
  QS X (.Try [.Assign [.Name xt px] (.Call (.Name fn pf) (e :: es) [] pc) pa] [.ExceptHandler (some (.Name xh ph)) (some xe) [.If te su [] pi] hp] [] [] pos) (zIQ i j g fa):=by
 refine ⟨fun zB s τ H B I h=>?_⟩;obtain ⟨L,σ,M,o,σ',M',c0,rs,hf,q⟩:=h;unfold zIQ at hf;split at hf
 ·rename_i ds M1 e1;refine wpAny_Try_except ?_;split at hf
  ·rename_i d M2 e2;cases hf;refine wpAny_execs_cons (wpAny_Assign_Name (zON (zJB (Q:=fun v H'=>∃ L',Stp L H L' H' /\ Cor X.K L' M' H' /\ Rep L' H' d v) (Ex:=fun _ _ _=>False) F hr hg hm hk hb hxe ha hdb he hpl I ⟨L,σ,M,_,_,c0,rs,e1,fun L1 H1 vs s1 c1 r1=>⟨L1,ds,M1,c1,r1,hl _ _ _ _ e1,.inl ⟨d,_,e2,fun L2 H2 v s2 c2 r2=>⟨L2,s1.trans s2,c2,r2⟩⟩⟩⟩) ?_ ?_) hsw)
   ·intro v s1 ⟨x,H1,I1,r1,L',st,co,rp⟩;refine zBk I1 hN hi (.inl hxt) r1 (fun s2 I2=>?_) (.inr hxt);refine wpAny_execs_nil ?_;refine wpAny_execs_nil ?_;exact ⟨_,H1,I2,q L' H1 st co _ ((rs.stp st).set rp)⟩
   ·rintro v s' ⟨H1,s1,I1,a,C',H',rfl,_,_,_,_,_,z⟩;exact z.elim
  ·rename_i M2 e2;split at hf
   ·rename_i hjn;cases hf;refine wpAny_execs_cons (wpAny_Assign_Name (zON (zJB (Q:=fun v H'=>False) (Ex:=fun C' _ H'=>C' = .ref C /\ ∃ L',Stp L H L' H' /\ Cor X.K L' M' H') F hr hg hm hk hb hxe ha hdb he hpl I ⟨L,σ,M,_,_,c0,rs,e1,fun L1 H1 vs s1 c1 r1=>⟨L1,ds,M1,c1,r1,hl _ _ _ _ e1,.inr ⟨_,e2,fun L2 H2 s2 c2=>⟨rfl,L2,s1.trans s2,c2⟩⟩⟩⟩) ?_ ?_) hsw)
    ·rintro v s1 ⟨x,H1,I1,r1,z⟩;exact z.elim
    ·rintro v s' ⟨H1,s1,I1,a,C',H',rfl,os,bare,un,hok,fl,rfl,L',st,co⟩;have ca:Cau X zB τ H1 s1 H' s' a (.ref C):=⟨I1,os,bare,un,hok,fl⟩;have Ia:=ca.inv;refine zHB (base:=X.base) (by rw [Ia.ok.frames,hst]) (by rw [<- hst]; exact Ia.stack) hfr fl (fun b hb=>⟨?_,hok.fresh hb⟩) (fun b hb z=>?_) fun h' n fy=>?_
     ·cases q:s1.heap.get? b with
      | none=>rfl
      | some o=>
       obtain ⟨o',e⟩:=un.there b o q (by simp);exact absurd (zOG (zN2 e) hb) (zOZ _)
     ·rw [<- hst] at hb;obtain ⟨_,o,e,_⟩:=I1.stack.mem hb;rw [z.1] at e; cases e
     ·rw [<- hst] at n;have cb:=ca.near n fy;have Ib:=cb.inv;obtain ⟨oe,vs,f1,f2,f3,f4,_,f6,_⟩:=id cb.fl;have hpin:∀ {s2:Shared},s2.heap.get? a = some oe -> s2.heap.get? a = some oe /\ H' a = none /\ a ≠ X.env.locals /\ a ∉ X.fs /\ ∀ v,oe.data ≠ .cell v:=fun e=>by
       refine ⟨e,f6.2,fun z=>?_,fun z=>?_,fun v z=>?_⟩
       ·obtain ⟨m,⟨o,_,_,ho,_⟩,_⟩:=I1.loc;rw [<- z,f6.1] at ho; cases ho
       ·obtain ⟨_,o,e,_⟩:=I1.funs.mem z;rw [f6.1] at e; cases e
       ·rw [f4] at z; cases z
      have Ic:=Ib.inX (hpin f1);refine wpAny_handleBy_cons ?_ (by simp [byPass]);refine codeAny_handlers_test (zCl (X:=L2.inX X a oe) Ic hgh hmh ?_ hdh);refine zHn Ib.kIn f1 f2 k1 k2 ?_;refine codeAny_handlers_suite_as (zHh (fs:=frs X.stack) cb.fl fun h2 n2 fy2=>?_);have cc:=cb.near n2 fy2;have Id:=cc.inv;obtain ⟨oe2,vs2,g1,g2,g3,g4,_,g6,_⟩:=id cc.fl;have hpin2:(({ s' with heap:=h2 }:Shared).heap.get? a = some oe2 /\ H' a = none /\ a ≠ X.env.locals /\ a ∉ X.fs /\ ∀ v,oe2.data ≠ .cell v):=by
       obtain ⟨_,y2,y3,y4,_⟩:=hpin f1;exact ⟨g1,y2,y3,y4,fun v z=>by rw [g4] at z; cases z⟩
      have Ie:=Id.inX hpin2;refine zBk (X:=L2.inX X a oe2) (v:=.ref a) Ie hN hj (.inl hxl) rfl (fun s3 I3=>?_) (.inr hxl);have hjl:j < τ.length:=by rw [I.len]; exact (zNu.mp hj).1
      refine wpAny_execs_cons (wpAny_If (zON (ht a oe2 vs2 g2 g3 g4 zB s3 _ H' (fun b H2=>b = false /\ ∃ L2,Stp L H L2 H2 /\ Cor X.K L2 M' H2) I3 ⟨by rw [zOl hjl],fun p hp=>⟨rfl,L',st.trans (.upd hp),co.upd hp⟩⟩) ?_ fun _ _ z=>z.elim));rintro b s4 ⟨H4,I4,rfl,L4,st4,co4⟩;rw [zN9 zOD];refine wpAny_execs_nil (wpAny_execs_nil ?_);have I5:=Inv.outX I.ok I4;refine zNr (wpAny_bindName (zBk (v:=.non) I5 hN hj (.inl hxl) rfl (fun s5 I6=>?_) (.inr hxl)));unfold unbindBehindTheSuite;refine wpAny_onRaise (zHP I6 hN hj hxl (v:=.non) (by rw [zOl (by simpa using hjl)]) fun s6 I7=>?_);refine ⟨_,H4,I7,q L4 H4 st4 co4 _ ?_⟩;have rs4:=rs.stp st4;refine ⟨by simpa using rs4.1,fun n d y=>?_⟩;have nj:n ≠ j:=fun z=>by rw [z,hjn] at y; cases y
      obtain ⟨v,y1,y2⟩:=rs4.2 n d y;refine ⟨v,?_,y2⟩;simp only [List.set_set];rw [zOL (Ne.symm nj)]; exact y1
   ·cases hf
  ·cases hf
 ·cases hf
end
def zM5 (K:PySem.W.Frag) (C a:Addr):List V -> Hp -> VK -> Prop:=fun xs H Q=>∃ y b,xs = [.ref a,y] /\
 ((∃ T,y = .ty T /\ PySem.W.kitOne K (.ref C) (.type T) = some b) \/ (∃ D,y = .ref D /\ PySem.W.kitOne K (.ref C) (.ref D) = some b) \/
  (∃ p D1 D2,y = .ref p /\ H p = some (.tup [.ref D1,.ref D2]) /\ PySem.W.kitAny K (.ref C) [.ref D1,.ref D2] = some b)) /\ Q (.bl b) H
section
variable {X:Cx} {C CH a:Addr} {oe:Obj} {vs:Array Value}
theorem zIM (c:Xd X.K C CH) (hp:(a,oe) ∈ X.pn) (h2:oe.cls = .ref C) (h3:oe.dict = none) (h4:oe.data = .fields vs):zBL X (.builtin "isinstance") (zM5 X.K C a):=by
 intro zB s σ H xs us Q I r h;obtain ⟨y,b,rfl,hy,q⟩:=h;cases r with
 | cons r1 r2=>
  cases r2 with
  | cons r3 r4=>
   cases r4;cases r1;have hx:IsX C a s.heap:=⟨oe,vs,(I.pin _ (List.mem_append_left _ hp)).1,h2,h3,h4⟩;rcases hy with ⟨T,rfl,e⟩ | ⟨D,rfl,e⟩ | ⟨p,D1,D2,rfl,ht,e⟩
   ·cases r3;exact zPU (zDr c) I.kIn hx e (fun z=>nomatch z) fun tk=>⟨.bl b,H,I.tok _,rfl,q⟩
   ·cases r3;exact zPU (zDr c) I.kIn hx e (fun z=>nomatch z) fun tk=>⟨.bl b,H,I.tok _,rfl,q⟩
   ·cases r3;obtain ⟨_,its,rv,o,ho,oc,⟨n,od⟩,odd⟩:=(show zAA X.prog X.w H s.heap p (.tup [.ref D1,.ref D2]) from I.hok p _ ht);cases rv with
    | cons ra rb=>
     cases rb with
     | cons rc rd=>
      cases rd;cases ra;cases rc;obtain ⟨oc',od',oda,osl⟩:=o;simp only at oc od odd;subst oc od odd;exact PySem.W.kia_tup (its:=[.ref D1,.ref D2]) (zDr c) I.kIn hx ho e (fun z=>nomatch z) fun tk=>⟨.bl b,H,I.tok _,rfl,q⟩
variable {j:Nat} {xe y1 y2 y3 y4:Str} {D1 D2:Addr} {pb p1 p2 p3 p4 p5 p6 p7 p8 p9 q1 q2 q3 q4 q5 q6 q7:Pos} {kt:Nat}
theorem zGL (c:Xd X.K C CH) (h2:oe.cls = .ref C) (h3:oe.dict = none) (h4:oe.data = .fields vs)
  (k1:PySem.W.kitOne X.K (.ref C) (.type "ValueError") = some true) (k2:PySem.W.kitAny X.K (.ref C) [.ref D1,.ref D2] = some false)
  (hj:X.N[j]? = some xe) (hv:Vis X.env.scope xe) (hg:Gl X "isinstance") (hm:X.mg "isinstance" = none)
  (g1:Gl X y1) (m1:X.mg y1 = some (.ref C)) (g2:Gl X "ValueError") (m2:X.mg "ValueError" = none) (g3:Gl X y3) (m3:X.mg y3 = some (.ref D1)) (g4:Gl X y4) (m4:X.mg y4 = some (.ref D2))
  (d0:(xe == ("__debug__" : Str)) = false) (d0':(xe == ("__classdict__" : Str)) = false) (d1:(y1 == ("__debug__" : Str)) = false) (d3:(y3 == ("__debug__" : Str)) = false) (d4:(y4 == ("__debug__" : Str)) = false) :
  PT (L2.inX X a oe) (.BoolOp .Or [.UnaryOp .Not (.Call (.Name "isinstance" p1) [.Name xe p2,.Name y1 p3] [] p4) p5,.UnaryOp .Not (.Call (.Name "isinstance" p6) [.Name xe p7,.Name "ValueError" p8] [] p9) q1,.Call (.Name "isinstance" q2) [.Name xe q3,.Tuple [.Name y3 q4,.Name y4 q5] kt q6] [] q7] pb)
   (fun σ H Q=>σ[j]? = some (some (.ref a)) /\ ∀ p,H p = none -> Q false (upd H p (.tup [.ref D1,.ref D2]))):=by
 have cx:zBL (L2.inX X a oe) (.builtin "isinstance") (zM5 X.K C a):=zIM (X:=L2.inX X a oe) c (zN5) h2 h3 h4
 have key:=PW.pt (zH0 (X:=L2.inX X a oe) (pos:=pb) (zGK (pos:=p5) (zE1 (zBb cx hg hm (by rfl) (zAL (zE3 (pos:=p2) hj hv d0 d0') (zAL (zDS (pos:=p3) (v:=.ref C) g1 m1 rfl d1) zB9)) (p:=p1) (pos:=p4))))
  (zH0 (zGK (pos:=q1) (zE1 (zBb cx hg hm (by rfl) (zAL (zE3 (pos:=p7) hj hv d0 d0') (zAL (zGy (pos:=p8) (v:=.ty "ValueError") g2 m2 (by rfl) rfl) zB9)) (p:=p6) (pos:=p9))))
  (zJG (zE1 (zBb cx hg hm (by rfl) (zAL (zE3 (pos:=q3) hj hv d0 d0') (zAL (zIB (x1:=kt) (pos:=q6) (zAL (zDS (pos:=q4) (v:=.ref D1) g3 m3 rfl d3) (zAL (zDS (pos:=q5) (v:=.ref D2) g4 m4 rfl d4) zB9))) zB9)) (p:=q2) (pos:=q7))))))
 intro zB s σ H Q I h;refine key zB s σ H Q I ?_;obtain ⟨hj,q⟩:=h;refine ⟨.ref a,hj,⟨.ref C,true,rfl,.inr (.inl ⟨C,rfl,by unfold PySem.W.kitOne; simp⟩),true,rfl,?_⟩⟩;refine (show (if (!true) = true then _ else _) from (zN9 (by decide:¬ (!true) = true)) ▸ ?_);refine ⟨.ref a,hj,⟨.ty "ValueError", true,rfl,.inl ⟨_,rfl,k1⟩,true,rfl,?_⟩⟩;refine (show (if (!true) = true then _ else _) from (zN9 (by decide:¬ (!true) = true)) ▸ ?_);refine ⟨.ref a,hj,(by decide:(2:Nat) <= sizeLine),fun p hp=>⟨.ref p,false,rfl,.inr (.inr ⟨p,D1,D2,rfl,zAg,k2⟩),false,rfl,q p hp⟩⟩
end
section
variable {P:Program} {w:World} {K:PySem.W.Frag} {mg:Str -> Option Value} {base:Heap} {N:List Str} {qual:Str} {scope:Scope} {f:Addr} {cd:Value} {A:Around} {outer:List Env} {s₀:Shared} {H₀:Hp} {E:XK} {x:Str} {np cpos pos:Pos} {C CH:Addr}
theorem zJA (c:Xd K C CH) (hm:mg x = some (.ref C)) (hg:Gl (cxE P w K mg base N qual scope f cd A outer s₀ H₀ E) x) (hdb:(x == ("__debug__" : Str)) = false) :
  PS (cxE P w K mg base N qual scope f cd A outer s₀ H₀ E) (.Raise (some (.Call (.Name x np) [] [] cpos)) none pos) (fun _ _ H=>E (.ref C) none H):=by
 intro zB s σ H D I h;refine wpAny_Raise_call_subT (nm:=c.nm) (q:=c.q) (N:=c.N) (bs:=c.bs) (hdct:=c.hdct) (sn:=c.sn) (sub:=c.sub) (ab:=c.ab) (col:=c.col) (dd:=c.dd) (k0:=c.k0) (k1:=c.k1) (k2:=c.k2) (k3:=c.k3) (k5:=c.k5) F.excBase_ValueError ((c.tail I.kIn).hasType rfl) (I.ok.hd rfl) rfl (PySem.W.nsMap_none_of_in I.kIn c.qn.n c.qn.i) (zCl I hg hm ⟨rfl,?_⟩ hdb);refine PySem.evalArgs_none ?_;refine ⟨rfl,Nat.zero_le _,I.kIn _ _ c.l,Heap.Ns.of_isNs (PySem.W.isNs_of_in I.kIn c.qn.n),c.tail I.kIn,fun h' e m=>?_⟩;obtain ⟨t,ht,_⟩:=m.there;have I2:=I.kept (t':=s.toks) m.keeps;exact zJI I2 ⟨_,_,ht,rfl,rfl,rfl,(by decide:(1:Nat) < 6),I.newN rfl m.new,.inl rfl⟩ h
end
end L3
namespace Law
open PySem PySem.Spec PyProof.Rows L2 L3
open PySem.Builtin.Str (occurrences partsBetween strSub subAt)
abbrev tx (L:List Nat):Str:=⟨L.toArray⟩
theorem zBN (x:Str):tx x.cps.toList = x:=by cases x; simp
theorem zDz (L:List Nat):(tx L).length = L.length:=by simp [Str.length]
noncomputable def zBq:FS:=(zT (zAF 1 (fOp zAS (fB zBG (zQ (zC 0) zc)) (fC (.int 3))))
  (zT (zEc (zDI (fSl (zC 0) zA5 (zAV (fC (.int 63))))) (gN 2) (zAF 1 (fOp zDE (fOp zAS (fOp zAS (fOp zGa (zC 1) (fC (.int 6364136223846793))) (fOp zDE (zC 2) (fOp zIh (fC (.int 10)) (fC (.int 30))))) (fC (.int 1442695040888963))) (fC (.int 2305843009213693951)))))
  (zh (zBa (zD (toD (zy [2] (zDI (fSl (zC 0) zA5 (zAV (fC (.int 63))))) (gN 2) (tst (fOp kGe (fB zHQ (zQ (zC 2) zc)) (fOp zIh (fC (.int 10)) (fC (.int 18))))) (fB zHQ (zQ (zC 2) zc)))) (zD (toD (zC 1)) zJ))))))
noncomputable def zAe:FF:=zBK 3 zBq
noncomputable def zCR:FS:=(zT (zAk (zDa (tst (fOp kNe (fOp kIx (zC 0) (fC (.int 0))) (zBa zJ))) (tst (fOp kEq (fOp kIx (fOp kIx (zC 0) (fC (.int 0))) (fC (.int 0))) (fC (.int 0))))) (zDl (fM zF0 (fOp kIx (zC 0) (fC (.int 0))) (zD (toD (fC (.int 0))) zJ))) 100)
  (zT (sIf (tst (fOp kNe (fOp kIx (zC 0) (fC (.int 0))) (zBa zJ))) (zT (zAF 2 (fOp zDE (fOp kIx (fOp kIx (zC 0) (fC (.int 0))) (fC (.int 0))) (zC 1)))
  (zT (zHI (fOp zHN (fOp kIx (fOp kIx (zC 0) (fC (.int 0))) (fC (.int 0))) (zC 1)) (fOp kIx (zC 0) (fC (.int 0))) (fC (.int 0)))
  (zh (zC 2)))) zAU)
  (zT (zHI (fOp zDE (fOp zAS (fOp zGa (fOp kIx (zC 0) (fC (.int 1))) (fC (.int 6364136223846793))) (fC (.int 1442695040888963))) (fC (.int 2305843009213693951))) (zC 0) (fC (.int 1)))
  (zh (fOp zDE (fOp zHN (fOp zDE (fOp zGa (fOp kIx (zC 0) (fC (.int 1))) (fOp kIx (zC 0) (fC (.int 1)))) (fC (.int 2305843009213693921))) (fC (.int 65537))) (zC 1))))))
noncomputable def zH:FF:=zBK 3 zCR
structure Gen (M:Mem) (n k:Nat):Prop where
 ex:∃ (c:List Int) (s:Int),M[n]? = some (.lst [.ref k,.int s]) /\ M[k]? = some (.lst (c.map D.int)) /\ (∀ x ∈ c,0 <= x) /\ c.length <= 63 /\ 0 <= s /\ s < 2305843009213693951
 ne:n ≠ k
 wf:∀ (j:Nat) u,M[j]? = some u -> MO.und M.length u = true
structure Nx (M M':Mem) (n k:Nat):Prop where
 gen:Gen M' n k
 len:M'.length = M.length
 fr:∀ j,j ≠ n -> j ≠ k -> M'[j]? = M[j]?
theorem Nx.refl (h:Gen M n k):Nx M M n k:=⟨h,rfl,fun _ _ _=>rfl⟩
theorem Nx.trans {M M1 M2:Mem} {n k:Nat} (a:Nx M M1 n k) (b:Nx M1 M2 n k):Nx M M2 n k:=⟨b.gen,b.len.trans a.len,fun j h1 h2=>(b.fr j h1 h2).trans (a.fr j h1 h2)⟩
theorem zAt (n:Nat):∀ c:List Int,D.unds n (c.map D.int) = true
 | []=>rfl
 | x :: r=>by
  show (D.und n (D.int x) && D.unds n (r.map D.int)) = true;rw [zAt n r]; rfl
theorem Gen.lt (h:Gen M n k):n < M.length /\ k < M.length:=by
 obtain ⟨c,s,e1,e2,_⟩:=h.ex;exact ⟨(zNu.mp e1).1,(zNu.mp e2).1⟩
theorem Gen.put {M:Mem} (h:Gen M n k) {c:List Int} (hc:∀ x ∈ c,0 <= x) (hl:c.length <= 63) (h0:0 <= s) (h1:s < 2305843009213693951) :
  Nx M ((M.set k (.lst (c.map D.int))).set n (.lst [.ref k,.int s])) n k:=by
 obtain ⟨hn,hk⟩:=h.lt;refine ⟨⟨⟨c,s,?_,?_,hc,hl,h0,h1⟩,h.ne,fun j u e=>?_⟩,by simp,fun j h1 h2=>?_⟩
 ·rw [zOl (by simpa using hn)]
 ·rw [zOL h.ne,zOl hk]
 ·rw [List.length_set,List.length_set];rw [zPQ] at e;split at e
  ·split at e
   ·cases e;show D.unds _ _ = true;unfold D.unds D.unds D.unds D.und;simp [hk]
   ·cases e
  ·rw [zPQ] at e;split at e
   ·rename_i z;subst z;cases e; exact zAt _ _
   ·exact h.wf j u e
 ·rw [zOL (Ne.symm h1),zOL (Ne.symm h2)]
theorem zDd {M:Mem} (h:M[k]? = some u):M.set k u = M:=by
 apply List.ext_getElem?;intro i;rw [zPQ];split
 ·rename_i e; subst e;rw [zN6 (zNu.mp h).1]; exact h.symm
 ·rfl
theorem zFK:∀ {a b:List Int},a.map D.int = b.map D.int -> a = b
 | [],[],_=>rfl
 | [],_ :: _,h=>by cases h
 | _ :: _,[],h=>by cases h
 | x :: a,y :: b,h=>by
  rw [zOA,zOA] at h;have h1:=(List.cons.inj h).1;have h2:=zFK (List.cons.inj h).2;cases h1; rw [h2]
theorem at0 {x:D} {xs:List D}:atI (x :: xs) 0 = some x:=zF9 rfl
theorem at1 {x y:D} {xs:List D}:atI (x :: y :: xs) 1 = some y:=zF9 rfl
theorem zKO (h:Gen M n k) (h0:0 < m) (h1:m < 1073741824) :
  Ok (zH [.ref n,.int m] M) fun d M'=>(∃ i,d = .int i /\ 0 <= i /\ i < m) /\ Nx M M' n k:=by
 unfold zH;rw [zAZ];unfold zCR;rw [zM];have st:∀ {M:Mem} {c:List Int} {s:Int} {σ:Sd} {P:EV -> Mem -> Prop},σ[0]? = some (some (.ref n)) -> M[n]? = some (.lst [.ref k,.int s]) -> P (.dat (.ref k)) M -> Ok (fOp kIx (zC 0) (fC (.int 0)) σ M) P:=fun hσ hM p=>
  zN.mpr (zL.mpr ⟨_,hσ,zx.mpr (zGe (zDU hM) at0 p)⟩)
 have sd:∀ {M:Mem} {s:Int} {σ:Sd} {P:EV -> Mem -> Prop},σ[0]? = some (some (.ref n)) -> M[n]? = some (.lst [.ref k,.int s]) -> P (.dat (.int s)) M -> Ok (fOp kIx (zC 0) (fC (.int 1)) σ M) P:=fun hσ hM p=>
  zN.mpr (zL.mpr ⟨_,hσ,zx.mpr (zGe (zDU hM) at1 p)⟩)
 have hd:∀ {M:Mem} {c:List Int} {x s:Int} {σ:Sd} {P:EV -> Mem -> Prop},σ[0]? = some (some (.ref n)) -> M[n]? = some (.lst [.ref k,.int s]) -> M[k]? = some (.lst ((x :: c).map D.int)) -> P (.dat (.int x)) M -> Ok (fOp kIx (fOp kIx (zC 0) (fC (.int 0))) (fC (.int 0)) σ M) P:=fun {M c x s σ P} hσ hM hK p=>
  zN.mpr (st (c:=c) hσ hM (zx.mpr (zGe (zDU hK) at0 p)))
 have ne:∀ {M:Mem} {c:List Int} {s:Int} {σ:Sd} {P:Bool -> Mem -> Prop},σ[0]? = some (some (.ref n)) -> M[n]? = some (.lst [.ref k,.int s]) -> M[k]? = some (.lst (c.map D.int)) -> P (!c.isEmpty) M -> Ok (tst (fOp kNe (fOp kIx (zC 0) (fC (.int 0))) (zBa zJ)) σ M) P:=fun {M c s σ P} hσ hM hK p=>by
  refine zAi.mpr (zN.mpr (st (c:=c) hσ hM (zEr.mpr (zA3.mpr ⟨Nat.zero_le _,?_⟩))));rw [zJn (zDQ hK) (by intro d e; cases e; rfl)];rw [zo];simpa using p
 have W:∀ (fuel m':Nat) (σ:Sd) (M':Mem),m' < fuel -> ((σ = [some (.ref n),some (.int m),none] /\ Nx M M' n k) /\ ∃ (c:List Int) (s:Int),M'[n]? = some (.lst [.ref k,.int s]) /\ M'[k]? = some (.lst (c.map D.int)) /\ c.length = m') ->
   OkS (zAk (zDa (tst (fOp kNe (fOp kIx (zC 0) (fC (.int 0))) (zBa zJ))) (tst (fOp kEq (fOp kIx (fOp kIx (zC 0) (fC (.int 0))) (fC (.int 0))) (fC (.int 0))))) (zDl (fM zF0 (fOp kIx (zC 0) (fC (.int 0))) (zD (toD (fC (.int 0))) zJ))) fuel σ M')
    (fun o σ1 M1=>o = .nx /\ σ1 = [some (.ref n),some (.int m),none] /\ Nx M M1 n k):=by
  intro fuel m' σ M' hlt hI;refine zCx (I:=fun m' σ M'=>(σ = [some (.ref n),some (.int m),none] /\ Nx M M' n k) /\ ∃ (c:List Int) (s:Int),M'[n]? = some (.lst [.ref k,.int s]) /\ M'[k]? = some (.lst (c.map D.int)) /\ c.length = m') ?_ fuel m' σ M' hlt hI;rintro m' σ M' ⟨⟨rfl,nx⟩,c,s,e1,e2,hl⟩;refine zG7.mpr (ne rfl e1 e2 ?_);cases c with
  | nil=>simp; exact nx
  | cons x c=>
   simp only [List.isEmpty_cons,Bool.not_false,if_true];refine zAi.mpr (zN.mpr (hd rfl e1 e2 (zx.mpr (zEd.mpr (zo.mpr ?_)))));by_cases hx:x = 0
   ·rw [zN6 (by simpa using hx)];refine zFH.mpr (zM0.mpr (st (c:=c) rfl e1 ⟨⟨_,zDQ e2⟩,zn.mpr (zr.mpr (zx.mpr (zF.mpr (zA3.mpr ?_))))⟩));rw [zOA] at e2;rw [zMI e2];refine ⟨c.length,by rw [<- hl]; simp,?_⟩;obtain ⟨c',s',z1,z2,z3,z4,z5,z6⟩:=nx.gen.ex;rw [e1] at z1; cases z1;rw [e2] at z2;have hcc:c' = x :: c:=by
     have:(x :: c).map D.int = c'.map D.int:=by have:=z2; simp only [Option.some.injEq,MO.lst.injEq] at this; simpa using this
     exact (zFK this).symm
    subst hcc;have P:=nx.gen.put (c:=c) (s:=s) (fun y hy=>z3 y (zN4 _ hy)) (by simp at z4; omega) z5 z6;have q:((M'.set k (.lst (c.map D.int))).set n (.lst [.ref k,.int s])) = M'.set k (.lst (c.map D.int)):=zDd (by rw [zOL (Ne.symm nx.gen.ne)]; exact e1);rw [q] at P;have hk:=nx.gen.lt.2;refine ⟨⟨rfl,nx.trans P⟩,c,s,?_,?_,rfl⟩
    ·rw [zOL (Ne.symm nx.gen.ne)]; exact e1
    ·rw [zOl hk]
   ·rw [zN9 (by simpa using hx)];first | exact ⟨rfl,rfl,nx⟩ | exact ⟨trivial,trivial,nx⟩ | simpa using nx
 obtain ⟨c,s,e1,e2,e3,e4,_⟩:=h.ex;refine OkS.mono (W 100 c.length _ M (by omega) ⟨⟨rfl,.refl h⟩,c,s,e1,e2,rfl⟩) ?_;rintro o σ M1 ⟨rfl,rfl,nx⟩;rw [zV,zM,zAm];obtain ⟨c,s,e1,e2,e3,e4,e5,e6⟩:=nx.gen.ex;refine ne rfl e1 e2 ?_;cases c with
 | nil=>
  simp only [List.isEmpty_nil,Bool.not_true,Bool.false_eq_true,if_false];rw [zAJ,zV,zM,zG5];refine zN.mpr (zN.mpr (zN.mpr (sd rfl e1 (zx.mpr (zGq.mpr ⟨by simp [zGY] <;> omega,zx.mpr (zAh.mpr (zx.mpr (zCZ.mpr ⟨by decide,?_⟩)))⟩)))));rw [zF];refine zL.mpr ⟨_,rfl,zx.mpr ?_⟩;rw [zF];have hs0:0 <= (s * 6364136223846793 + 1442695040888963) % 2305843009213693951:=Int.emod_nonneg _ (by decide);have hs1:(s * 6364136223846793 + 1442695040888963) % 2305843009213693951 < 2305843009213693951:=Int.emod_lt_of_pos _ (by decide);generalize (s * 6364136223846793 + 1442695040888963) % 2305843009213693951 = s' at hs0 hs1;have P:=nx.gen.put (c:=[]) (fun _ h=>by cases h) (by simp) hs0 hs1;rw [zDd (show M1[k]? = some (.lst (([]:List Int).map D.int)) from e2)] at P;refine ⟨_,zFd (k:=1) e1 (by simp),?_⟩;rw [zV,zv];have e1':(M1.set n (.lst [.ref k,.int s']))[n]? = some (.lst [.ref k,.int s']):=zOl nx.gen.lt.1;refine zN.mpr (zN.mpr (zN.mpr (zN.mpr (sd rfl e1' (sd rfl e1' (zGq.mpr ⟨by simp [zGY] <;> omega,zx.mpr (zCZ.mpr ⟨by decide,zx.mpr (zIT.mpr ⟨by decide,zL.mpr ⟨_,rfl,zCZ.mpr ⟨h0,?_⟩⟩⟩)⟩)⟩))))));rw [zF];exact ⟨⟨_,rfl,Int.emod_nonneg _ (by omega),Int.emod_lt_of_pos _ h0⟩,nx.trans P⟩
 | cons x c=>
  simp only [List.isEmpty_cons,Bool.not_false,if_true];rw [zM,zb];refine zN.mpr (hd rfl e1 e2 (zL.mpr ⟨_,rfl,zCZ.mpr ⟨h0,?_⟩⟩));rw [zF,zV,zM,zG5];refine zN.mpr (hd rfl e1 e2 (zL.mpr ⟨_,rfl,zIT.mpr ⟨⟨h0,h1⟩,?_⟩⟩));rw [zF];refine st (c:=c) rfl e1 (zx.mpr ?_);rw [zF];refine ⟨_,zFd (k:=0) e2 (by simp),?_⟩;rw [zV,zv];refine zL.mpr ⟨_,rfl,?_⟩;rw [zF,zJi];have hx:=e3 x zN5;have P:=nx.gen.put (c:=(x / m) :: c) (fun y hy=>by
   rcases zN3.mp hy with z | z
   ·subst z; exact Int.ediv_nonneg hx (by omega)
   ·exact e3 y (zN4 _ z)) (by simpa using e4) e5 e6
  rw [zDd (by rw [zOL (Ne.symm nx.gen.ne)]; exact e1)] at P;exact ⟨⟨_,rfl,Int.emod_nonneg _ (by omega),Int.emod_lt_of_pos _ h0⟩,nx.trans P⟩
theorem zFf (ns:List Int) (lo hi:Option Int):∃ c:List Int,L3.zEB (ns.map D.int) lo hi = c.map D.int /\ c.length <= ns.length:=by
 refine ⟨(ns.drop (HT.sIx ns.length 0 lo)).take (HT.sIx ns.length ns.length hi - HT.sIx ns.length 0 lo),?_,?_⟩
 ·unfold L3.zEB;rw [zN0,List.map_take,List.map_drop]
 ·rw [zPF,List.length_drop]; omega
theorem zB4 (h:x :: r = c.map D.int):∃ y c',c = y :: c' /\ x = .int y /\ r = c'.map D.int:=by
 cases c with
 | nil=>cases h
 | cons y c'=>rw [zOA] at h; exact ⟨y,c',rfl,(List.cons.inj h).1,(List.cons.inj h).2⟩
theorem zAH:zBM none xs M:=trivial
theorem zk (h:n <= 100000):n <= sizeLine:=zOI h (by decide)
theorem zI2 {ns:List Int} (h:ns.length <= 63):Ok (zAe [.ref 0] [.fro (ns.map D.int)]) fun d M'=>d = .ref 2 /\ Gen M' 2 1 /\ M'[0]? = some (.fro (ns.map D.int)) /\ M'.length = 3:=by
 unfold zAe;rw [zAZ];unfold zBq;have e0:([.fro (ns.map D.int)]:Mem)[0]? = some (.fro (ns.map D.int)):=rfl;obtain ⟨cut,ec,lc⟩:=zFf ns none (some 63);have sl:∀ {σ:Sd} {P:EV -> Mem -> Prop},σ[0]? = some (some (.ref 0)) -> P (.fl (cut.map D.int)) [.fro (ns.map D.int)] -> Ok (fSl (zC 0) zA5 (zAV (fC (.int 63))) σ [.fro (ns.map D.int)]) P:=fun hσ p=>by
  refine zKj.mpr (zL.mpr ⟨_,hσ,zFh.mpr (zFZ.mpr (zx.mpr (zFQ.mpr ?_)))⟩);rw [zIN (zEy e0) rfl,ec]; exact p
 rw [zM,zb];refine zN.mpr (zFP.mpr (zAR.mpr (zL.mpr ⟨_,rfl,zAp.mpr ((zKh (zKB e0)).mpr (zx.mpr (zAh.mpr ?_)))⟩)));rw [zF,zV,zM,zDL];obtain ⟨x,M1,ex,px⟩:=sl (σ:=[some (.ref 0),some (.int (((ns.map D.int).length:Int) + 3)),none]) (P:=fun x M=>x = .fl (cut.map D.int) /\ M = [.fro (ns.map D.int)]) rfl ⟨rfl,rfl⟩;obtain ⟨rfl,rfl⟩:=px;refine ⟨_,_,_,zEp ex zBB,?_⟩;refine zCi (I:=fun r σ M=>M = [.fro (ns.map D.int)] /\ (∃ c:List Int,r = c.map D.int) /\ ∃ s y,σ = [some (.ref 0),some (.int s),y] /\ 0 <= s /\ s < 2305843009213693951) ?_ ?_ _ _ _ ⟨rfl,⟨cut,rfl⟩,_,none,rfl,by simp; omega,by simp; omega⟩
 ·rintro x r σ M ⟨rfl,⟨c,hc⟩,s,y,rfl,h0,h1⟩;obtain ⟨z,c',rfl,rfl,rfl⟩:=zB4 hc;refine ⟨zAH,_,rfl,?_⟩;rw [zb];refine zN.mpr (zN.mpr (zN.mpr (zN.mpr (zL.mpr ⟨_,rfl,zx.mpr (zGq.mpr ⟨by simp [zGY],?_⟩)⟩))));refine zN.mpr (zL.mpr ⟨_,rfl,zN.mpr (zx.mpr (zx.mpr (zKp.mpr ⟨by decide,zCZ.mpr ⟨by decide,zAh.mpr (zx.mpr (zAh.mpr (zx.mpr (zCZ.mpr ⟨by decide,?_⟩))))⟩⟩)))⟩);rw [zF];exact ⟨rfl,⟨c',rfl⟩,_,_,rfl,Int.emod_nonneg _ (by decide),Int.emod_lt_of_pos _ (by decide)⟩
 ·rintro σ M ⟨rfl,_,s,y,rfl,h0,h1⟩;refine ⟨zAH,?_⟩;rw [zV,zv,zEr,zn,zr,zBt];obtain ⟨x,M1,ex,px⟩:=sl (σ:=[some (.ref 0),some (.int s),y]) (P:=fun x M=>x = .fl (cut.map D.int) /\ M = [.fro (ns.map D.int)]) rfl ⟨rfl,rfl⟩;obtain ⟨rfl,rfl⟩:=px;refine ⟨_,_,_,zEp ex zBB,by rw [zN0]; exact zk (by omega),?_⟩;refine Ok.mono (zBE (I:=fun r acc M=>M = [.fro (ns.map D.int)] /\ (∃ c:List Int,r = c.map D.int) /\ r.length + acc.length <= 63 /\ ∃ b:List Int,acc = b.map D.int /\ ∀ x ∈ b,0 <= x) (Q:=fun acc M=>M = [.fro (ns.map D.int)] /\ acc.length <= 63 /\ ∃ b:List Int,acc = b.map D.int /\ ∀ x ∈ b,0 <= x) ?_ ?_ _ [] _ ⟨rfl,⟨cut,rfl⟩,by simp; omega,[],rfl,fun _ h=>by cases h⟩) ?_
  ·rintro x r acc M ⟨rfl,⟨c,hc⟩,hl,b,rfl,hb⟩;obtain ⟨z,c',rfl,rfl,rfl⟩:=zB4 hc;refine ⟨zAH,_,rfl,?_⟩;refine zAi.mpr (zN.mpr (zFP.mpr (zAR.mpr (zL.mpr ⟨_,rfl,zAp.mpr (zKr.mpr (zN.mpr (zx.mpr (zx.mpr (zKp.mpr ⟨by decide,zNd.mpr (zo.mpr ?_)⟩)))))⟩))));by_cases hz:(10:Int) ^ (18:Int).toNat <= (if z < 0 then -z else z)
   ·rw [zN6 (by simpa using hz)];refine zFP.mpr (zAR.mpr (zL.mpr ⟨_,rfl,zAp.mpr (zKr.mpr (zF.mpr ⟨rfl,⟨c',rfl⟩,?_,b ++ [if z < 0 then -z else z],by simp,?_⟩))⟩))
    ·simp at hl ⊢; omega
    ·intro y hy;rcases zOH.mp hy with q | q
     ·exact hb y q
     ·have:y = if z < 0 then -z else z:=by simpa using q
      rw [this]; split <;> omega
   ·rw [zN9 (by simpa using hz)];exact ⟨rfl,⟨c',rfl⟩,by simp at hl ⊢; omega,b,rfl,hb⟩
  ·rintro acc M ⟨rfl,_,hl,hb⟩;exact ⟨zAH,rfl,by simpa using hl,hb⟩
  ·rintro ys M ⟨rfl,hl,b,hb,hp⟩;rw [List.nil_append] at hb hl;subst hb;rw [zE0,zn,zr,zL];refine ⟨_,rfl,?_⟩;rw [zF,zA3];refine ⟨zk (by simp),?_⟩;rw [zE0];refine ⟨rfl,⟨⟨b,s,rfl,rfl,hp,by simpa using hl,h0,h1⟩,by decide,?_⟩,rfl,rfl⟩;intro j u e;match j,e with
   | 0,e=>cases e; exact zAt _ _
   | 1,e=>cases e; exact zAt _ _
   | 2,e=>cases e; rfl
   | j + 3,e=>simp at e
mutual
theorem zD0 (h:a <= b):∀ {d:D},D.und a d = true -> D.und b d = true
 | .non,_=>by unfold D.und; rfl
 | .bl _,_=>by unfold D.und; rfl
 | .int _,_=>by unfold D.und; rfl
 | .str _,_=>by unfold D.und; rfl
 | .tup ds,e=>by unfold D.und at e ⊢; exact zAs h e
 | .ref k,e=>by unfold D.und at e ⊢; simp at e ⊢; omega
 | .fn _ ds,e=>by unfold D.und at e ⊢; exact zAs h e
theorem zAs (h:a <= b):∀ {ds:List D},D.unds a ds = true -> D.unds b ds = true
 | [],_=>by unfold D.unds; rfl
 | d :: ds,e=>by
  unfold D.unds at e ⊢;rw [zOR] at e ⊢;exact ⟨zD0 h e.1,zAs h e.2⟩
end
theorem zHO (h:a <= b) (e:MO.und a u = true):MO.und b u = true:=by
 cases u with
 | lst xs=>exact zAs h e
 | fro xs=>exact zAs h e
 | set xs=>exact zAs h e
 | dict kvs | dicT kvs | froT kvs | froK kvs=>
  unfold MO.und at e ⊢;rw [zOS] at e ⊢;intro p hp;have:=e p hp;rw [zOR] at this ⊢;exact ⟨zD0 h this.1,zD0 h this.2⟩
theorem zDp:∀ {xs:List D},(∀ x ∈ xs,D.und n x = true) -> D.unds n xs = true
 | [],_=>rfl
 | x :: xs,h=>by
  show (D.und n x && D.unds n xs) = true;rw [h x zN5,zDp fun y hy=>h y (zN4 _ hy)]; rfl
theorem zFz (c:List Int):D.und n (.tup (c.map D.int)) = true:=by unfold D.und; exact zAt n c
theorem Gen.app (h:Gen A n k) (hu:∀ u ∈ us,MO.und (A.length + us.length) u = true):Gen (A ++ us) n k:=by
 obtain ⟨c,s,e1,e2,r⟩:=h.ex;obtain ⟨hn,hk⟩:=h.lt;refine ⟨⟨c,s,by rw [zNy hn]; exact e1,by rw [zNy hk]; exact e2,r⟩,h.ne,fun j u e=>?_⟩;rw [zN7];by_cases hj:j < A.length
 ·rw [zNy hj] at e;exact zHO (by omega) (h.wf j u e)
 ·rw [List.getElem?_append_right (by omega)] at e;exact hu u (List.mem_of_getElem? e)
theorem Nx.split (h:Gen A n k) (x:Nx (A ++ us) M n k):∃ A',M = A' ++ us /\ Nx A A' n k:=by
 obtain ⟨hn,hk⟩:=h.lt;have hl:=x.len;rw [zN7] at hl;have ed:M.drop A.length = us:=by
  apply List.ext_getElem?;intro i;rw [List.getElem?_drop,x.fr _ (by omega) (by omega),List.getElem?_append_right (by omega)];congr 1; omega
 refine ⟨M.take A.length,by rw [<- ed,List.take_append_drop],?_⟩;have tk:∀ j,j < A.length -> (M.take A.length)[j]? = M[j]?:=fun j hj=>List.getElem?_take_of_lt hj;have tl:(M.take A.length).length = A.length:=by rw [zPF]; omega
 obtain ⟨c,s,e1,e2,r⟩:=x.gen.ex;refine ⟨⟨⟨c,s,(tk n hn).trans e1,(tk k hk).trans e2,r⟩,h.ne,fun j u e=>?_⟩,tl,fun j h1 h2=>?_⟩
 ·rw [tl];have hj:j < A.length:=by have:=(zNu.mp e).1; rw [tl] at this; exact this
  rw [tk j hj] at e;by_cases q1:j = n
  ·subst q1; rw [e1] at e; cases e;show D.unds _ _ = true;unfold D.unds D.unds D.unds D.und;simp [hk]
  ·by_cases q2:j = k
   ·subst q2; rw [e2] at e; cases e; exact zAt _ _
   ·rw [x.fr j q1 q2,zNy hj] at e;exact h.wf j u e
 ·by_cases hj:j < A.length
  ·rw [tk j hj,x.fr j h1 h2,zNy hj]
  ·rw [List.getElem?_eq_none (by rw [tl]; omega),List.getElem?_eq_none (by omega)]
theorem zZ (h:Gen M n k) (ha:fa σ M = some (.dat (.ref n),M)) (hb:fb σ M = some (.dat (.int m),M)) (h0:0 < m) (h1:m < 1073741824)
  (q:∀ i M',0 <= i -> i < m -> Nx M M' n k -> P (.dat (.int i)) M'):Ok (zK zH (zD (toD fa) (zD (toD fb) zJ)) σ M) P:=by
 rw [zBw,zn,zr];refine ⟨_,_,ha,?_⟩;rw [zF,zn,zr];refine ⟨_,_,hb,?_⟩;rw [zF,zA3];refine Ok.mono (zKO h h0 h1) ?_;rintro d M' ⟨⟨i,rfl,i0,i1⟩,nx⟩;exact q i M' i0 i1 nx
def zAv (i:Nat):Nat -> List D
 | 0=>[]
 | n + 1=> .int i :: zAv (i + 1) n
theorem zE9 (n:Nat):∀ i,((List.range' i n).map fun (k:Nat)=>D.int k) = zAv i n:=by
 induction n with
 | zero=>intro i; rfl
 | succ n ih=>intro i; rw [List.range'_succ,zOA,ih]; rfl
theorem zFM (n:Nat):((List.range n).map fun (k:Nat)=>D.int k) = zAv 0 n:=by rw [List.range_eq_range',zE9]
theorem zBD:∀ (n i:Nat),(zAv i n).length = n
 | 0,_=>rfl
 | n + 1,i=>by show (zAv (i + 1) n).length + 1 = _; rw [zBD n]
theorem zGN (n:Nat) (I:Nat -> Sd -> Mem -> Prop)
  (hs:∀ i σ M,i < n -> I i σ M -> ∃ σ1,g (.int i) σ = some σ1 /\ OkS (b σ1 M) fun o σ2 M2=>match o with | .nx=>I (i + 1) σ2 M2 | .cnt=>I (i + 1) σ2 M2 | .brk=>P .nx σ2 M2 | .ret d=>P (.ret d) σ2 M2)
  (he:∀ σ M,I n σ M -> P .nx σ M) (σ:Sd) (M:Mem) (h0:I 0 σ M):OkS (zBj g b all none (zAv 0 n) σ M) P:=by
 refine zCi (I:=fun r σ M=>∃ i,i <= n /\ r = zAv i (n - i) /\ I i σ M) ?_ ?_ _ _ _ ⟨0,Nat.zero_le _,by simp,h0⟩
 ·rintro x r σ M ⟨i,hi,e,hI⟩;have hlt:i < n:=by
   rcases Nat.lt_or_ge i n with z | z
   ·exact z
   ·rw [show n - i = 0 by omega] at e; cases e
  rw [show n - i = (n - (i + 1)) + 1 by omega] at e;obtain ⟨rfl,rfl⟩:=List.cons.inj e;obtain ⟨σ1,e1,q⟩:=hs i σ M hlt hI;refine ⟨zAH,σ1,e1,OkS.mono q ?_⟩;intro o σ2 M2 z;cases o with
  | nx=>exact ⟨i + 1,hlt,rfl,z⟩
  | cnt=>exact ⟨i + 1,hlt,rfl,z⟩
  | brk=>exact z
  | ret d=>exact z
 ·rintro σ M ⟨i,hi,e,hI⟩;have:i = n:=by
   rcases Nat.lt_or_ge i n with z | z
   ·rw [show n - i = (n - (i + 1)) + 1 by omega] at e; cases e
   ·omega
  subst this;exact ⟨zAH,he σ M hI⟩
theorem zIx (n:Nat) (I:Nat -> List D -> Mem -> Prop)
  (hs:∀ i acc M,i < n -> I i acc M -> ∃ σ1,g (.int i) σ = some σ1 /\ Ok (te σ1 M) (zEv fun d M2=>I (i + 1) (acc ++ [d]) M2)) (h0:I 0 [] M) :
  Ok (zA2 g zAf te σ all none (zAv 0 n) M) fun ys M1=>I n ys M1:=by
 refine Ok.mono (zBE (I:=fun r acc M=>∃ i,i <= n /\ r = zAv i (n - i) /\ I i acc M) (Q:=fun acc M=>I n acc M) ?_ ?_ _ [] _ ⟨0,Nat.zero_le _,by simp,h0⟩) fun ys M1 q=>by simpa using q
 ·rintro x r acc M ⟨i,hi,e,hI⟩;have hlt:i < n:=by
   rcases Nat.lt_or_ge i n with z | z
   ·exact z
   ·rw [show n - i = 0 by omega] at e; cases e
  rw [show n - i = (n - (i + 1)) + 1 by omega] at e;obtain ⟨rfl,rfl⟩:=List.cons.inj e;obtain ⟨σ1,e1,q⟩:=hs i acc M hlt hI;refine ⟨zAH,σ1,e1,zDm.mpr ?_⟩;rw [zN6 rfl];refine Ok.mono q ?_;intro x M2 z;cases x with
  | dat d=>exact ⟨i + 1,hlt,rfl,z⟩
  | fl xs=>exact ⟨i + 1,hlt,rfl,z⟩
 ·rintro acc M ⟨i,hi,e,hI⟩;have:i = n:=by
   rcases Nat.lt_or_ge i n with z | z
   ·rw [show n - i = (n - (i + 1)) + 1 by omega] at e; cases e
   ·omega
  subst this;exact ⟨zAH,hI⟩
theorem zCj (e:f σ M = some (.dat (.int j),M)) (h1:0 <= j) (h2:j < 2 ^ 62):zAl (zD (toD f) zJ) σ M = some (zAv 0 j.toNat,none,M):=by
 have e':(zD (toD f) zJ) σ M = some ([.int j],M):=by unfold zD toD zJ; rw [e]
 rw [zD4 e' h1 h2,zFM]
noncomputable def zCD:FS:=(zT (sIf (tst (fOp kEq (zC 1) (fC (.int 0)))) (zh (zK zH (zD (toD (zC 0)) (zD (toD (zC 2)) zJ)))) zAU)
  (zT (sIf (tst (fOp kEq (zC 1) (fC (.int 1)))) (zh (fOp zDE (fOp zAS (zC 3) (zK zH (zD (toD (zC 0)) (zD (toD (fC (.int 3))) zJ)))) (zC 2))) zAU)
  (zT (sIf (tst (fOp kEq (zC 1) (fC (.int 2)))) (zT (zAF 5 (fOp zHN (zC 2) (fC (.int 2))))
  (zT (sIf (tst (fOp kLt (zC 3) (zC 5))) (zh (zK zH (zD (toD (zC 0)) (zD (toD (zC 5)) zJ)))) zAU)
  (zh (fOp zAS (zC 5) (zK zH (zD (toD (zC 0)) (zD (toD (fOp zIr (zC 2) (zC 5))) zJ))))))) zAU)
  (zT (sIf (tst (fOp kEq (zC 4) (fC (.int 0)))) (zh (fOp zDE (fOp zAS (zC 3) (fC (.int 1))) (zC 2))) zAU)
  (zT (sIf (tst (fOp kEq (zC 1) (fC (.int 3)))) (zh (fOp kIx (zBa (zD (toD (zC 3)) (zD (toD (fC (.int 0))) zJ))) (fB zII (zQ (fOp kEq (zC 3) (fOp zIr (zC 2) (fC (.int 1)))) zc)))) zAU)
  (zh (fOp zDE (fOp zAS (fOp zAS (zC 3) (fC (.int 1))) (fOp zGa (zK zH (zD (toD (zC 0)) (zD (toD (fC (.int 2))) zJ))) (fOp zIr (zC 2) (fC (.int 2))))) (zC 2))))))))
noncomputable def zAx:FF:=zBK 6 zCD
noncomputable def zA9:FS:=(zT (zAF 3 (fOp zAS (fC (.int 1)) (zK zH (zD (toD (zC 0)) (zD (toD (zC 1)) zJ)))))
  (zT (zAF 4 (fOp zAS (fC (.int 1)) (zK zH (zD (toD (zC 0)) (zD (toD (zC 2)) zJ)))))
  (zT (zAF 5 (zK zH (zD (toD (zC 0)) (zD (toD (fC (.int 5))) zJ))))
  (zT (zAF 6 (zBa zJ))
  (zT (zEc (zAl (zD (toD (zC 3)) zJ)) (gN 7) (zDl (fM zBQ (zC 6) (zD (toD (fB zAY (zQ (zy [8] (zAl (zD (toD (zC 4)) zJ)) (gN 8) zAf (zK zAx (zD (toD (zC 0)) (zD (toD (zC 5)) (zD (toD (zC 3)) (zD (toD (zC 7)) (zD (toD (zC 8)) zJ))))))) zc))) zJ))))
  (zh (fB zAY (zQ (zC 6) zc))))))))
noncomputable def zAG:FF:=zFT (zBK 9 zA9)
theorem zJ5 (h:Gen M n k) (hr0:0 <= room) (hr:room < rooms) (hR:rooms <= 1000) :
  Ok (zAx [.ref n,.int fam,.int rooms,.int room,.int letter] M) fun d M'=>(∃ i,d = .int i /\ 0 <= i /\ i < rooms) /\ Nx M M' n k:=by
 unfold zAx;rw [zAZ];unfold zCD;have hm:∀ x:Int,0 <= x % rooms /\ x % rooms < rooms:=fun x=>⟨Int.emod_nonneg _ (by omega),Int.emod_lt_of_pos _ (by omega)⟩;rw [zM,zAm];refine zAi.mpr (zN.mpr (zL.mpr ⟨_,rfl,zx.mpr (zEd.mpr (zo.mpr ?_))⟩));by_cases f0:fam = 0
 ·rw [zN6 (by simpa using f0),zv];refine zZ h rfl rfl (by omega) (by omega) fun i M' i0 i1 nx=>?_;exact ⟨⟨i,rfl,i0,i1⟩,nx⟩
 rw [zN9 (by simpa using f0),zAJ,zV,zM,zAm];refine zAi.mpr (zN.mpr (zL.mpr ⟨_,rfl,zx.mpr (zEd.mpr (zo.mpr ?_))⟩));by_cases f1:fam = 1
 ·rw [zN6 (by simpa using f1),zv];refine zN.mpr (zN.mpr (zL.mpr ⟨_,rfl,zZ h rfl rfl (by decide) (by decide) fun i M' i0 i1 nx=>zAh.mpr (zL.mpr ⟨_,rfl,zCZ.mpr ⟨by omega,?_⟩⟩)⟩));exact ⟨⟨_,rfl,hm _⟩,nx⟩
 rw [zN9 (by simpa using f1),zAJ,zV,zM,zAm];refine zAi.mpr (zN.mpr (zL.mpr ⟨_,rfl,zx.mpr (zEd.mpr (zo.mpr ?_))⟩));by_cases f2:fam = 2
 ·rw [zN6 (by simpa using f2),zM,zb];refine zN.mpr (zL.mpr ⟨_,rfl,zx.mpr (zIT.mpr ⟨by decide,?_⟩)⟩);rw [zF,zV,zM,zAm];refine zAi.mpr (zN.mpr (zL.mpr ⟨_,rfl,zL.mpr ⟨_,rfl,zMC.mpr (zo.mpr ?_)⟩⟩));by_cases hh:room < rooms / 2
  ·rw [zN6 (by simpa using hh),zv];refine zZ h rfl rfl (by omega) (by omega) fun i M' i0 i1 nx=>?_;exact ⟨⟨i,rfl,i0,by omega⟩,nx⟩
  ·rw [zN9 (by simpa using hh),zAJ,zV,zv];refine zN.mpr (zL.mpr ⟨_,rfl,zZ h rfl rfl (m:=rooms - rooms / 2) (by omega) (by omega) fun i M' i0 i1 nx=>zAh.mpr ?_⟩);exact ⟨⟨_,rfl,by omega,by omega⟩,nx⟩
 rw [zN9 (by simpa using f2),zAJ,zV,zM,zAm];refine zAi.mpr (zN.mpr (zL.mpr ⟨_,rfl,zx.mpr (zEd.mpr (zo.mpr ?_))⟩));by_cases l0:letter = 0
 ·rw [zN6 (by simpa using l0),zv];refine zN.mpr (zN.mpr (zL.mpr ⟨_,rfl,zx.mpr (zAh.mpr (zL.mpr ⟨_,rfl,zCZ.mpr ⟨by omega,?_⟩⟩))⟩));exact ⟨⟨_,rfl,hm _⟩,.refl h⟩
 rw [zN9 (by simpa using l0),zAJ,zV,zM,zAm];refine zAi.mpr (zN.mpr (zL.mpr ⟨_,rfl,zx.mpr (zEd.mpr (zo.mpr ?_))⟩));by_cases f3:fam = 3
 ·rw [zN6 (by simpa using f3),zv];refine zN.mpr (zEr.mpr (zn.mpr (zr.mpr (zL.mpr ⟨_,rfl,zF.mpr (zn.mpr (zr.mpr (zx.mpr (zF.mpr (zA3.mpr ⟨zk (by simp),?_⟩)))))⟩))));refine zFP.mpr (zAR.mpr (zN.mpr (zL.mpr ⟨_,rfl,zN.mpr (zL.mpr ⟨_,rfl,zx.mpr (zKu.mpr (zEd.mpr (zAp.mpr (zLQ.mpr ?_))))⟩)⟩)));by_cases q:room = rooms - 1
  ·rw [zN6 (by simpa using q)];exact zGe zBB at1 ⟨⟨_,rfl,by omega,by omega⟩,.refl h⟩
  ·rw [zN9 (by simpa using q)];exact zGe zBB at0 ⟨⟨_,rfl,by omega,by omega⟩,.refl h⟩
 rw [zN9 (by simpa using f3),zAJ,zV,zv];refine zN.mpr (zN.mpr (zN.mpr (zL.mpr ⟨_,rfl,zx.mpr (zAh.mpr (zN.mpr (zZ h rfl rfl (by decide) (by decide) fun i M' i0 i1 nx=>?_)))⟩)));refine zN.mpr (zL.mpr ⟨_,rfl,zx.mpr (zKu.mpr (zGq.mpr ⟨by simp [zGY] <;> omega,zAh.mpr (zL.mpr ⟨_,rfl,zCZ.mpr ⟨by omega,?_⟩⟩)⟩))⟩);exact ⟨⟨_,rfl,hm _⟩,nx⟩
def mD (zA:List (List Int)):D:=.tup (zA.map fun r=> .tup (r.map D.int))
structure IsM (zA:List (List Int)) (l:Nat):Prop where
 r0:0 < zA.length
 l0:0 < l
 row:∀ r ∈ zA,r.length = l /\ ∀ g ∈ r,0 <= g /\ g < zA.length
theorem zK3 (zA:List (List Int)):D.und n (mD zA) = true:=by
 unfold mD D.und;refine zDp fun x hx=>?_;obtain ⟨r,_,rfl⟩:=List.mem_map.mp hx;exact zFz r
theorem zH6 (zA:List (List Int)):D.unds n (zA.map fun r=>D.tup (r.map D.int)) = true:=by
 refine zDp fun x hx=>?_;obtain ⟨r,_,rfl⟩:=List.mem_map.mp hx;exact zFz r
theorem zGA (h:Gen M n k) (hm:0 < most) (hm1:most <= 999) (hl:0 < lm) (hl1:lm <= 999) :
  Ok (zAG [.ref n,.int most,.int lm] M) fun d M'=>(∃ zA l,d = mD zA /\ IsM zA l /\ (zA.length:Int) <= most /\ (l:Int) <= lm) /\ Nx M M' n k:=by
 unfold zAG;refine zJ1 ?_;rw [zAZ];unfold zA9;rw [zM,zb];refine zN.mpr (zx.mpr (zZ h rfl rfl (by omega) (by omega) fun R M1 R0 R1 nx1=>zAh.mpr ?_));rw [zF,zV,zM,zb];refine zN.mpr (zx.mpr (zZ nx1.gen rfl rfl (by omega) (by omega) fun L M2 L0 L1 nx2=>zAh.mpr ?_));rw [zF,zV,zM,zb];refine zZ nx2.gen rfl rfl (by decide) (by decide) fun F M3 F0 F1 nx3=>?_;rw [zF,zV,zM,zb];refine zEr.mpr (zA3.mpr ⟨zk (by simp),?_⟩);rw [zE0,zV,zM,zDL];have nx:=(nx1.trans nx2).trans nx3;refine ⟨_,_,_,zCj rfl (by omega) (by omega),?_⟩;have hlen:M3.length = M.length:=nx.len;generalize eR:1 + R = Rm;generalize eL:1 + L = Lm
 refine zGN (n:=Rm.toNat) (I:=fun i σ M'=>∃ x y,σ = [some (.ref n),some (.int most),some (.int lm),some (.int Rm),some (.int Lm),some (.int F),some (.ref M.length),x,y] /\ ∃ (A:Mem) (zA:List (List Int)),M' = A ++ [.lst (zA.map fun r=>D.tup (r.map D.int))] /\ Nx M A n k /\ zA.length = i /\ ∀ r ∈ zA,r.length = Lm.toNat /\ ∀ g ∈ r,0 <= g /\ g < Rm)
  ?_ ?_ _ _ ⟨none,none,by simp [hlen],M3,[],rfl,nx,rfl,fun _ h=>by cases h⟩
 ·rintro i σ M' hi ⟨x,y,rfl,A,zA,rfl,nxA,hrl,hrow⟩;refine ⟨_,rfl,?_⟩;rw [zFH];have eA:(A ++ [MO.lst (zA.map fun r=>D.tup (r.map D.int))])[M.length]? = some (.lst (zA.map fun r=>D.tup (r.map D.int))):=by
   rw [<- nxA.len]; simp
  refine zM0.mpr (zL.mpr ⟨_,rfl,⟨_,zDQ eA⟩,zn.mpr (zr.mpr (zFP.mpr (zAR.mpr (zBt.mpr ⟨_,_,_,zCj rfl (by omega) (by omega),by rw [zBD]; exact zk (by omega),?_⟩))))⟩);refine Ok.mono (zIx (n:=Lm.toNat) (I:=fun j acc M2=>∃ (A2:Mem) (c:List Int),M2 = A2 ++ [.lst (zA.map fun r=>D.tup (r.map D.int))] /\ Nx M A2 n k /\ acc = c.map D.int /\ c.length = j /\ ∀ g ∈ c,0 <= g /\ g < Rm) ?_ ⟨A,[],rfl,nxA,rfl,rfl,fun _ h=>by cases h⟩) ?_
  ·rintro j acc M2 hj ⟨A2,c,rfl,nxA2,rfl,hcl,hc⟩;refine ⟨_,rfl,?_⟩;have gA:Gen (A2 ++ [MO.lst (zA.map fun r=>D.tup (r.map D.int))]) n k:=nxA2.gen.app (by
    intro u hu;have:u = .lst (zA.map fun r=>D.tup (r.map D.int)):=by simpa using hu
    subst this;exact zH6 zA)
   refine zBw.mpr (zn.mpr (zr.mpr (zL.mpr ⟨_,rfl,zF.mpr (zn.mpr (zr.mpr (zL.mpr ⟨_,rfl,zF.mpr (zn.mpr (zr.mpr (zL.mpr ⟨_,rfl,zF.mpr (zn.mpr (zr.mpr (zL.mpr ⟨_,rfl,zF.mpr (zn.mpr (zr.mpr (zL.mpr ⟨_,rfl,zF.mpr (zA3.mpr ?_)⟩)))⟩)))⟩)))⟩)))⟩)));refine Ok.mono (zJ5 gA (by omega) (by omega) (by omega)) ?_;rintro d M4 ⟨⟨g,rfl,g0,g1⟩,nx4⟩;obtain ⟨A3,rfl,nx5⟩:=nx4.split nxA2.gen;rw [zF];refine ⟨A3,c ++ [g],rfl,nxA2.trans nx5,by simp,by simp [hcl],fun z hz=>?_⟩;rcases zOH.mp hz with q | q
   ·exact hc z q
   ·have:z = g:=by simpa using q
    subst this; exact ⟨g0,g1⟩
  ·rintro ys M2 ⟨A2,c,rfl,nxA2,rfl,hcl,hc⟩;refine zAp.mpr ((zDT zBB).mpr (zF.mpr (zA3.mpr ?_)));have eA2:(A2 ++ [MO.lst (zA.map fun r=>D.tup (r.map D.int))])[M.length]? = some (.lst (zA.map fun r=>D.tup (r.map D.int))):=by
    rw [<- nxA2.len]; simp
   rw [zIl eA2 (by rw [zN0,hrl]; exact zOG (by omega) (zk (n:=100000) (by omega)))];refine ⟨_,_,rfl,A2,zA ++ [c],?_,nxA2,by simp [hrl],fun r hr=>?_⟩
   ·rw [<- nxA2.len,List.set_append_right _ _ (by omega)];simp
   ·rcases zOH.mp hr with q | q
    ·exact hrow r q
    ·have:r = c:=by simpa using q
     subst this; exact ⟨hcl,hc⟩
 ·rintro σ M' ⟨x,y,rfl,A,zA,rfl,nxA,hrl,hrow⟩;rw [zV,zv];have eA:(A ++ [MO.lst (zA.map fun r=>D.tup (r.map D.int))])[M.length]? = some (.lst (zA.map fun r=>D.tup (r.map D.int))):=by
   rw [<- nxA.len]; simp
  refine zFP.mpr (zAR.mpr (zL.mpr ⟨_,rfl,zAp.mpr ((zDT (zDU eA)).mpr ?_)⟩));rw [zF];have tk:(A ++ [MO.lst (zA.map fun r=>D.tup (r.map D.int))]).take M.length = A:=by rw [<- nxA.len]; simp
  refine ⟨⟨zK3 zA,by rw [zN7,nxA.len]; omega,fun j u hj e=>?_⟩,⟨zA,Lm.toNat,rfl,⟨by omega,by omega,fun r hr=>?_⟩,by omega,by omega⟩,by rw [tk]; exact nxA⟩
  ·rw [zNy (by rw [nxA.len]; exact hj)] at e;have:=nxA.gen.wf j u e;rw [nxA.len] at this;exact this
  ·obtain ⟨q1,q2⟩:=hrow r hr;exact ⟨q1,fun g hg=>⟨(q2 g hg).1,by have:=(q2 g hg).2; omega⟩⟩
theorem zR {α:Type} {x:Option (α × Mem)} {a:α} {M:Mem} (h:Ok x fun b M'=>b = a /\ M' = M):x = some (a,M):=by
 obtain ⟨b,M',e,rfl,rfl⟩:=h; exact e
theorem zS {α:Type} {x:Option (α × Mem)} {a:α} {M:Mem} {P:α -> Mem -> Prop} (h:x = some (a,M)) (p:P a M):Ok x P:=⟨a,M,h,p⟩
theorem zq {c:FT} {a g:FS} {σ:Sd} {M:Mem} {P:Out -> Sd -> Mem -> Prop} (hc:c σ M = some (false,M)) (h:OkS (g σ M) P):OkS (zT (sIf c a zAU) g σ M) P:=by
 rw [zM,zAm];refine zS hc ?_;rw [zN9 (by decide),zAJ];exact h
theorem zIE {c:FT} {a:FS} {σ:Sd} {M:Mem} {P:Out -> Sd -> Mem -> Prop} (hc:c σ M = some (false,M)) (h:P .nx σ M):OkS (sIf c a zAU σ M) P:=by
 rw [zAm];refine zS hc ?_;rw [zN9 (by decide),zAJ];exact h
theorem zEh {f:FE} {σ:Sd} {M M':Mem} {k:Bool} (h:f σ M = some (.dat (.bl k),M')):zBI (tst f) σ M = some (!k,M'):=by
 unfold zBI tst; rw [h]
theorem zAW {f:FE} {σ:Sd} {M:Mem} {d:D} (h:f σ M = some (.dat d,M)):zD (toD f) zJ σ M = some ([d],M):=by
 unfold zD toD zJ; rw [h]
theorem zAn {f:FE} {g:FA} {σ:Sd} {M:Mem} {d:D} {ds:List D} (h:f σ M = some (.dat d,M)) (hg:g σ M = some (ds,M)):zD (toD f) g σ M = some (d :: ds,M):=by
 unfold zD toD; rw [h]; dsimp only; rw [hg]
theorem zAI {m:FF} {a:FA} {σ:Sd} {M M':Mem} {ds:List D} {d:D} (h:a σ M = some (ds,M)) (hm:m ds M = some (d,M')):zK m a σ M = some (.dat d,M'):=by
 unfold zK; rw [h]; dsimp only; rw [hm]
theorem ze {k:K2} {f g:FE} {σ:Sd} {M:Mem} {x y:EV} {r:Option (EV × Mem)} (hf:f σ M = some (x,M)) (hg:g σ M = some (y,M)) (hk:k x y M = r):fOp k f g σ M = r:=by
 unfold fOp; rw [hf]; dsimp only; rw [hg]; exact hk
theorem zNK {x:EV} {xs:List D} {i:Int} {d:D} {M:Mem} (h:zAO M x = some xs) (hd:atI xs i = some d):kIx x (.dat (.int i)) M = some (.dat d,M):=zR (zGe h hd ⟨rfl,rfl⟩)
theorem zCv {f:FE} {x:EV} {xs:List D} {σ:Sd} {M:Mem} (hf:f σ M = some (x,M)) (h:zAO M x = some xs):fB zBG (zQ f zc) σ M = some (.dat (.int xs.length),M):=by
 unfold fB zQ zc; rw [hf]; exact zR ((zKh h).mpr ⟨rfl,rfl⟩)
theorem zLl {zA:List (List Int)} {h:Int} (h0:0 <= h) (h1:h < zA.length):atI (zA.map fun r=>D.tup (r.map D.int)) h = some (.tup ((zA.getD h.toNat []).map D.int)):=by
 refine zMA h0 ?_;rw [List.getElem?_map,List.getD_eq_getElem?_getD,zNv (by omega)];rfl
theorem IsM.get {zA:List (List Int)} {l:Nat} (m:IsM zA l) {h:Int} (h0:0 <= h) (h1:h < zA.length):(zA.getD h.toNat []).length = l /\ ∀ g ∈ zA.getD h.toNat [],0 <= g /\ g < zA.length:=by
 refine m.row _ ?_;rw [List.getD_eq_getElem?_getD,zNv (by omega)];exact List.getElem_mem _
theorem zLR {σ:Sd} {M:Mem} {ns:List Int} {j:Nat} {i:Int} (hσ:σ[i.toNat]? = σ[i.toNat]?) (hi:zC j σ M = some (.dat (.ref 0),M)) (h0:M[0]? = some (.fro (ns.map D.int))):∃ c:List Int,fSl (zC j) zA5 (zAV (fC (.int i))) σ M = some (.fl (c.map D.int),M) /\ c.length <= ns.length:=by
 obtain ⟨c,ec,lc⟩:=zFf ns none (some i);refine ⟨c,zR (zKj.mpr (zS hi (zFh.mpr (zFZ.mpr (zx.mpr (zFQ.mpr ?_)))))),lc⟩;rw [zIN (zEy h0) rfl,ec]; exact ⟨rfl,rfl⟩
noncomputable def zBP (g_rec:FF):FS:=(zT (sIf (tst (zBZ "tuple" (zC 1))) (zT (sIf (zCL (zBI (tst (zBZ "tuple" (zC 0)))) (tst (fOp kNe (fB zBG (zQ (zC 0) zc)) (fB zBG (zQ (zC 1) zc))))) (zh (fC (.bl false))) zAU)
  (zh (fB zJo (zQ (zy [2,3] (zLs (zD (toD (zC 0)) (zD (toD (zC 1)) zJ))) (zIf 2 3) zAf (zK g_rec (zD (toD (zC 2)) (zD (toD (zC 3)) zJ)))) zc)))) zAU)
  (zT (sIf (tst (fOp (kIs false) (zC 1) (fC .non))) (zh (fOp (kIs false) (zC 0) (fC .non))) zAU)
  (zT (sIf (tst (zBZ "bool" (zC 1))) (zh (zBz (zBZ "bool" (zC 0)) (fOp kEq (zC 0) (zC 1)))) zAU)
  (zT (sIf (tst (zBZ "str" (zC 1))) (zh (zBz (zBZ "str" (zC 0)) (fOp kEq (zC 0) (zC 1)))) zAU)
  (zh (zBz (zBZ "int" (zC 0)) (zBz (zFg (zBZ "bool" (zC 0))) (fOp kEq (zC 0) (zC 1)))))))))
noncomputable def zf:Nat -> FF
 | 0=>fun _ _=>none
 | n + 1=>zBK 4 (zBP (zf n))
noncomputable def zAB:FF:=zf 5
theorem zCH (hf:f σ M = some (x,M)) (ht:zFC M x = some t):zBZ T f σ M = some (.dat (.bl (isT t T)),M):=by
 unfold zBZ; rw [hf]; dsimp only; rw [ht]
theorem zAP (h:f σ M = some (.dat (.bl k),M')):tst f σ M = some (k,M'):=by unfold tst; rw [h]
theorem isV (hf:f σ M = some (x,M)) (ht:zFC M x = some t) (h:isT t T = k):zBZ T f σ M = some (.dat (.bl k),M):=by
 rw [zCH hf ht,h]
theorem isF (hf:f σ M = some (x,M)) (ht:zFC M x = some t) (h:isT t T = false):tst (zBZ T f) σ M = some (false,M):=by
 rw [zAP (zCH hf ht),h]
theorem zKR (hf:f σ M = some (x,M)) (ht:zFC M x = some t) (h:isT t T = true):tst (zBZ T f) σ M = some (true,M):=by
 rw [zAP (zCH hf ht),h]
theorem zDN (hc:c σ M = some (true,M)) (h:OkS (a σ M) (nxP (fun σ1 M1=>OkS (g σ1 M1) P) P)):OkS (zT (sIf c a b) g σ M) P:=by
 rw [zM,zAm];refine zS hc ?_;rw [zN6 rfl];exact h
theorem zBd (hf:f σ M = some (.dat d,M)) (h:P (.ret d) σ M):OkS (zh f σ M) P:=by
 rw [zv]; exact zS hf h
def Pl:Nat -> D -> Prop
 | 0,d=>(zB0 d).isSome = true
 | n + 1,d=>(zB0 d).isSome = true \/ ∃ ds,d = .tup ds /\ ds.length <= sizeLine /\ ∀ x ∈ ds,Pl n x
theorem Pl.int (n:Nat) (i:Int):Pl n (.int i):=by cases n; exact rfl; exact .inl rfl
theorem Pl.tup (hz:ds.length <= 100000) (h:∀ x ∈ ds,Pl n x):Pl (n + 1) (.tup ds):=.inr ⟨ds,rfl,zk hz,h⟩
theorem Pl.ints {c:List Int} (hz:c.length <= 100000):Pl 1 (.tup (c.map D.int)):=Pl.tup (by simpa using hz) fun x hx=>by obtain ⟨i,_,rfl⟩:=List.mem_map.mp hx; exact Pl.int 0 i
theorem zDx (h:(zB0 d).isSome = true):kEq (.dat d) (.dat d) M = some (.dat (.bl true),M):=by
 cases d with
 | tup _=>cases h
 | ref _=>cases h
 | fn _ _=>cases h
 | non=>rfl
 | bl k=>cases k <;> rfl
 | int i=>show some (EV.dat (.bl (decide (V.int i = V.int i))),M) = _; simp
 | str x=>show some (EV.dat (.bl (decide (V.str x = V.str x))),M) = _; simp
theorem zBx (hf:f σ M = some (.dat (.bl true),M)) (hg:g σ M = some (.dat (.bl true),M)):zBz f g σ M = some (.dat (.bl true),M):=by
 unfold zBz; rw [hf]; exact hg
theorem zGQ (hf:f σ M = some (.dat (.bl false),M)):zFg f σ M = some (.dat (.bl true),M):=by
 unfold zFg; rw [hf]; rfl
theorem zHw:∀ (n:Nat) (d:D) (M:Mem),Pl n d -> zf (n + 1) [d,d] M = some (.bl true,M):=by
 intro n;have sc:∀ (n:Nat) (d:D) (M:Mem),(zB0 d).isSome = true -> zf (n + 1) [d,d] M = some (.bl true,M):=by
  intro n d M hs;refine zR ?_;unfold zf;rw [zAZ];unfold zBP;cases d with
  | tup _=>cases hs
  | ref _=>cases hs
  | fn _ _=>cases hs
  | non=>
   refine zq (isF rfl rfl (by decide)) ?_;refine zDN (zAP (ze rfl rfl rfl)) (zBd (ze rfl rfl rfl) ⟨rfl,rfl⟩)
  | bl k=>
   refine zq (isF rfl rfl (by decide)) (zq (zAP (ze rfl rfl rfl)) ?_);refine zDN (zKR rfl rfl (by decide)) (zBd (zBx (isV rfl rfl (by decide)) (ze rfl rfl (zDx rfl))) ⟨rfl,rfl⟩)
  | str x=>
   refine zq (isF rfl rfl (by decide)) (zq (zAP (ze rfl rfl rfl)) (zq (isF rfl rfl (by decide)) ?_));refine zDN (zKR rfl rfl (by decide)) (zBd (zBx (isV rfl rfl (by decide)) (ze rfl rfl (zDx rfl))) ⟨rfl,rfl⟩)
  | int i=>
   refine zq (isF rfl rfl (by decide)) (zq (zAP (ze rfl rfl rfl)) (zq (isF rfl rfl (by decide)) (zq (isF rfl rfl (by decide)) ?_)));exact zBd (zBx (isV rfl rfl (by decide)) (zBx (zGQ (isV rfl rfl (by decide))) (ze rfl rfl (zDx rfl)))) ⟨rfl,rfl⟩
 induction n with
 | zero=>exact fun d M h=>sc 0 d M h
 | succ n ih=>
  intro d M h;rcases h with h | ⟨ds,rfl,hz,h⟩
  ·exact sc (n + 1) d M h
  refine zR ?_;unfold zf;rw [zAZ];unfold zBP;refine zDN (zKR rfl rfl (by decide)) (zq ?_ ?_)
  ·refine zR (zL1.mpr (zKU.mpr (zS (zKR rfl rfl (by decide)) ?_)));rw [zN9 (by decide)];refine zAi.mpr (zS (ze (zCv rfl zBY) (zCv rfl zBY) (zR (zNg.mpr ⟨rfl,rfl⟩))) ?_);rw [zo]; simp
  ·rw [zv];refine zFP.mpr (zAR.mpr (zBt.mpr ⟨(ds.zip ds).map fun q=>D.tup [q.1,q.2],none,M,rfl,?_,?_⟩))
   ·rw [zN0,List.length_zip]; omega
   ·refine Ok.mono (zBE (I:=fun r acc M'=>M' = M /\ (∃ rest:List D,r = (rest.zip rest).map (fun q=>D.tup [q.1,q.2]) /\ ∀ x ∈ rest,Pl n x) /\ ∃ k:Nat,acc = (List.replicate k true).map D.bl) (Q:=fun acc M'=>M' = M /\ ∃ k:Nat,acc = (List.replicate k true).map D.bl) ?_ ?_ _ [] _ ⟨rfl,⟨ds,rfl,h⟩,0,rfl⟩) ?_
    ·rintro x r acc M' ⟨rfl,⟨rest,hr,hp⟩,k,rfl⟩;cases rest with
     | nil=>cases hr
     | cons y rest=>
      rw [List.zip_cons_cons,zOA] at hr;obtain ⟨rfl,rfl⟩:=List.cons.inj hr;refine ⟨zAH,_,rfl,zDm.mpr ?_⟩;rw [zN6 rfl];refine zS (zAI (zAn rfl (zAW rfl)) (ih y M' (hp y zN5))) ?_;rw [zF];exact ⟨rfl,⟨rest,rfl,fun z hz=>hp z (zN4 _ hz)⟩,k + 1,by rw [List.replicate_succ',List.map_append]; rfl⟩
    ·rintro acc M' ⟨rfl,_,hk⟩;exact ⟨zAH,rfl,hk⟩
    ·rintro ys M' ⟨rfl,k,hk⟩;rw [List.nil_append] at hk;subst hk;refine zAp.mpr ((zK2 zH8 (zCm _)).mpr ?_);rw [zF];refine ⟨?_,rfl⟩;simp
theorem zCb {α:Type} (as:List α) (enc out:α -> D) (hi:fi σ M = some (as.map enc,gd,M)) (hgd:zBM gd (as.map enc) M) (hz:as.length <= 100000)
  (he:∀ a ∈ as,∃ σ1,g (enc a) (zE4 own σ) = some σ1 /\ te σ1 M = some (.dat (out a),M)):zy own fi g zAf te σ M = some (.fl (as.map out),M):=by
 refine zR (zBt.mpr ⟨_,_,_,hi,by rw [zN0]; exact zk hz,?_⟩);refine Ok.mono (zBE (I:=fun r acc M'=>M' = M /\ ∃ ra rb:List α,as = rb ++ ra /\ r = ra.map enc /\ acc = rb.map out) (Q:=fun acc M'=>M' = M /\ acc = as.map out) ?_ ?_ _ [] _ ⟨rfl,as,[],rfl,rfl,rfl⟩) ?_
 ·rintro x r acc M' ⟨rfl,ra,rb,hab,hr,rfl⟩;cases ra with
  | nil=>cases hr
  | cons a ra=>
   rw [zOA] at hr;obtain ⟨rfl,rfl⟩:=List.cons.inj hr;obtain ⟨σ1,e1,e2⟩:=he a (by rw [hab]; simp);refine ⟨hgd,σ1,e1,zDm.mpr ?_⟩;rw [zN6 rfl];refine zS e2 ?_;rw [zF];exact ⟨rfl,ra,rb ++ [a],by rw [hab]; simp,rfl,by simp⟩
 ·rintro acc M' ⟨rfl,ra,rb,hab,hr,rfl⟩;cases ra with
  | nil=>rw [List.append_nil] at hab; subst hab; exact ⟨hgd,rfl,rfl⟩
  | cons a ra=>cases hr
 ·rintro ys M' ⟨rfl,h⟩;rw [List.nil_append] at h;subst h;exact ⟨rfl,rfl⟩
theorem zFD (hf:f σ M = some (x,M)) (h:zAO M x = some xs):fB zAY (zQ f zc) σ M = some (.dat (.tup xs),M):=by
 unfold fB zQ zc; rw [hf]; exact zR ((zDT h).mpr ⟨rfl,rfl⟩)
theorem zG6 (hf:f σ M = some (.dat (.tup xs),M)):zDI f σ M = some (xs,none,M):=zEp hf zBY
theorem zGE (hf:f σ M = some (.dat d,M)) (h:OkS (g (σ.set i (some d)) M) P):OkS (zT (zAF i f) g σ M) P:=by
 rw [zM,zb]; exact zS hf h
theorem zMv (h:f σ M = some (.dat d,M')):zD (toD f) zJ σ M = some ([d],M'):=by
 unfold zD toD zJ; rw [h]
noncomputable def zB8:FS:=(zh (zBz (zBZ "int" (zC 0)) (zFg (zBZ "bool" (zC 0)))))
noncomputable def zAw:FF:=zBK 1 zB8
noncomputable def zCA:FS:=(zh (zBz (zK zAw (zD (toD (zC 0)) zJ)) (zCq kLe kLt (fC (.int 0)) (zC 0) (zC 1))))
noncomputable def zAy:FF:=zBK 2 zCA
noncomputable def zAa:FS:=(zh (zBz (zBZ "tuple" (zC 0)) (fB zJo (zQ (zy [2] (zDI (zC 0)) (gN 2) zAf (zK zAy (zD (toD (zC 2)) (zD (toD (zC 1)) zJ)))) zc))))
noncomputable def zm:FF:=zBK 3 zAa
mutual
def Vd (M:Mem):D -> Prop
 | .ref n=>∃ t,zFC M (.dat (.ref n)) = some t /\ (t = "list" \/ t = "dict")
 | .tup ds=>ds.length <= 100000 /\ Vds M ds
 | .fn _ _=>False
 | _=>True
def Vds (M:Mem):List D -> Prop
 | []=>True
 | d :: ds=>Vd M d /\ Vds M ds
end
theorem Vds.mem:∀ {ds:List D},Vds M ds -> ∀ d ∈ ds,Vd M d
 | [],_,d,h=>by cases h
 | x :: ds,hv,d,h=>by
  unfold Vds at hv;rcases zN3.mp h with q | q
  ·subst q; exact hv.1
  ·exact Vds.mem hv.2 d q
theorem Vds.of:∀ {ds:List D},(∀ d ∈ ds,Vd M d) -> Vds M ds
 | [],_=>trivial
 | x :: ds,h=>⟨h x zN5,Vds.of fun d hd=>h d (zN4 _ hd)⟩
def zGn:D -> Bool
 | .int _=>true
 | _=>false
def zBg (n:Int):D -> Bool
 | .int i=>decide (0 <= i) && decide (i < n)
 | _=>false
def tbD (n:Int):D -> Bool
 | .tup ds=>ds.all (zBg n)
 | _=>false
def zLq:D -> Bool
 | .tup _=>true
 | _=>false
theorem zI5 (out:D -> D) (hf:f σ M = some (.dat (.tup ds),M)) (hz:ds.length <= 100000)
  (he:∀ a ∈ ds,∃ σ1,g a (zE4 own σ) = some σ1 /\ te σ1 M = some (.dat (out a),M)):zy own (zDI f) g zAf te σ M = some (.fl (ds.map out),M) :=
 zCb (gd:=none) ds id out (by rw [List.map_id]; exact zG6 hf) trivial hz he
theorem Vd.ty (h:Vd M d):∃ t,zFC M (.dat d) = some t /\ isT t "tuple" = zLq d /\ (isT t "int" && !isT t "bool") = zGn d:=by
 cases d with
 | non=>exact ⟨_,rfl,(show isT "NoneType" "tuple" = false by decide),(show (isT "NoneType" "int" && !isT "NoneType" "bool") = false by decide)⟩
 | bl k=>exact ⟨_,rfl,(show isT "bool" "tuple" = false by decide),(show (isT "bool" "int" && !isT "bool" "bool") = false by decide)⟩
 | int i=>exact ⟨_,rfl,(show isT "int" "tuple" = false by decide),(show (isT "int" "int" && !isT "int" "bool") = true by decide)⟩
 | str x=>exact ⟨_,rfl,(show isT "str" "tuple" = false by decide),(show (isT "str" "int" && !isT "str" "bool") = false by decide)⟩
 | tup ds=>exact ⟨_,rfl,(show isT "tuple" "tuple" = true by decide),(show (isT "tuple" "int" && !isT "tuple" "bool") = false by decide)⟩
 | ref n=>
  unfold Vd at h;obtain ⟨t,e,h⟩:=h;rcases h with rfl | rfl
  ·exact ⟨_,e,(show isT "list" "tuple" = false by decide),(show (isT "list" "int" && !isT "list" "bool") = false by decide)⟩
  ·exact ⟨_,e,(show isT "dict" "tuple" = false by decide),(show (isT "dict" "int" && !isT "dict" "bool") = false by decide)⟩
 | fn _ _=>exact h.elim
theorem zDM (hf:f σ M = some (.dat (.bl a),M)) (hg:a = true -> g σ M = some (.dat (.bl b),M)):zBz f g σ M = some (.dat (.bl (a && b)),M):=by
 unfold zBz; rw [hf];cases a with
 | true=>exact hg rfl
 | false=>rfl
theorem zJe (hf:f σ M = some (.dat (.bl a),M)):zFg f σ M = some (.dat (.bl (!a)),M):=by unfold zFg; rw [hf]
theorem zDO (h:f (ds.map some ++ List.replicate (n - ds.length) none) M = some (.dat d,M)):zBK n (zh f) ds M = some (d,M):=by
 refine zR ?_;rw [zAZ];exact zBd h ⟨rfl,rfl⟩
theorem zIP (h:Vd M d):zAw [d] M = some (.bl (zGn d),M):=by
 obtain ⟨t,e,_,q⟩:=h.ty;unfold zAw zB8;refine zDO ?_;rw [<- q];exact zDM (zCH rfl e) fun _=>zJe (zCH rfl e)
theorem zIo (h:Vd M d):zAy [d,.int n] M = some (.bl (zBg n d),M):=by
 unfold zAy zCA;refine zDO ?_;have hw:=zAI (σ:=[some d,some (.int n)]) (a:=zD (toD (zC 0)) zJ) (zAW rfl) (zIP h);have e:zBg n d = (zGn d && zBg n d):=by cases d <;> rfl
 rw [e];refine zDM hw fun hi=>?_;cases d with
 | int i=>
  refine zR (zH4.mpr (zx.mpr (zL.mpr ⟨_,rfl,zNn.mpr (zo.mpr ?_)⟩)));by_cases h0:0 <= i
  ·rw [zN6 (by simpa using h0)];refine zL.mpr ⟨_,rfl,zMC.mpr ⟨?_,rfl⟩⟩;simp [zBg,h0]
  ·rw [zN9 (by simpa using h0)];exact ⟨by simp [zBg,h0],rfl⟩
 | _=>cases hi
theorem zK9 {bs:List Bool} (h:f σ M = some (.fl (bs.map D.bl),M)):fB zJo (zQ f zc) σ M = some (.dat (.bl (bs.all id)),M):=by
 unfold fB zQ zc; rw [h]; exact zR ((zK2 zH8 (zCm bs)).mpr ⟨rfl,rfl⟩)
theorem zGG {α:Type} (xs:List α) (p:α -> Bool):(xs.map p).all id = xs.all p:=by rw [List.all_map]; rfl
theorem zNC (h:Vd M d):zm [d,.int n] M = some (.bl (tbD n d),M):=by
 unfold zm zAa;refine zDO ?_;obtain ⟨t,e,q,_⟩:=h.ty;cases d with
 | tup ds=>
  have hh:Vd M (.tup ds):=h;unfold Vd at hh;have:tbD n (.tup ds) = (true && (ds.map (zBg n)).all id):=by rw [Bool.true_and,zGG]; rfl
  rw [this];refine zDM (by rw [zCH rfl e,q]; rfl) fun _=>zK9 ?_;rw [List.map_map];exact zI5 (fun x=> .bl (zBg n x)) rfl hh.1 fun x hx=>⟨_,rfl,zAI (zAn rfl (zAW rfl)) (zIo (hh.2.mem x hx))⟩
 | _=>
  have:∀ b,(false && b) = false:=fun b=>rfl;refine (zDM (a:=false) (b:=true) (by rw [zCH rfl e,q]; rfl) fun z=>by cases z).trans ?_;rfl
theorem zLF (h:z.length <= 100000):Ok (zDe [.dat (.str z)] M) P ↔ P (.dat (.int z.length)) M:=by
 unfold zDe; dsimp only; rw [zN6 (zk h),zP]
theorem zKW (hf:f σ M = some (.dat (.str z),M)) (h:z.length <= 100000):fB zDe (zQ f zc) σ M = some (.dat (.int z.length),M):=by
 unfold fB zQ zc; rw [hf]; exact zR ((zLF h).mpr ⟨rfl,rfl⟩)
theorem zDX (x y:Str):(x ++ y).cps.toList = x.cps.toList ++ y.cps.toList:=by
 show (x.cps ++ y.cps).toList = _; simp
theorem zEK:∀ cs:List Nat,(Str.join (Str.ofString "") (cs.map fun c=>(⟨#[c]⟩:Str))).cps.toList = cs
 | []=>rfl
 | [c]=>rfl
 | c :: d :: r=>by
  have ih:=zEK (d :: r);rw [zOA] at ih ⊢;rw [zOA];show ((⟨#[c]⟩:Str) ++ Str.ofString "" ++ Str.join (Str.ofString "") _).cps.toList = _;rw [zDX,zDX,ih,show (Str.ofString "").cps.toList = [] by decide +kernel]; rfl
theorem zIK (cs:List Nat):(Txt.join (Str.ofString "") (cs.map fun c=>(⟨#[c]⟩:Str))).cps.toList = cs:=by
 rw [eq_of_beq (join_plain_closes _ _),zEK]
theorem zDv:∀ ys:List Str,zCP (ys.map D.str) = some ys
 | []=>rfl
 | y :: r=>by rw [zOA]; unfold zCP; rw [zDv r]
theorem zKG (hf:f σ M = some (.dat (.str sep),M))
  (h:Ok (fa σ M) fun xs M2=>∃ (x:EV) (ys:List Str),xs = [x] /\ zAQ M2 x = some (ys.map D.str) /\ (ys.map (·.length)).sum + ys.length * sep.length <= 16777216 /\ P (.dat (.str (Txt.join sep ys))) M2):Ok (zDA f fa σ M) P:=by
 obtain ⟨xs,M2,e,x,ys,rfl,hl,hz,p⟩:=h;refine ⟨_,_,?_,p⟩;unfold zDA;rw [hf]; dsimp only;rw [e]; dsimp only;rw [hl]; dsimp only;rw [zDv]; dsimp only;rw [zN6 hz]
theorem zIF (h:i.length + j.length <= 100000):Ok (zB1 (.dat (.str i)) (.dat (.str j)) M) P ↔ P (.dat (.str (i ++ j))) M:=by
 unfold zB1 kS2; dsimp only; rw [zN6 (zOz (zk h)),zP]
theorem zFy:∀ cs:List Nat,((cs.map fun c=>(⟨#[c]⟩:Str)).map (·.length)).sum = cs.length
 | []=>rfl
 | c :: r=>by rw [zOA,zOA,List.sum_cons,zFy r,List.length_cons]; show 1 + _ = _; omega
open ST
def tI (xs:List Int):D:=.tup (xs.map D.int)
end Law
namespace Law
open PySem PySem.Spec PyProof.Rows L2 L3 ST
theorem zBF (n:Nat) (hn:n < 5) (hp:Pl n d) (e1:f1 σ M = some (.dat d,M)) (e2:f2 σ M = some (.dat d,M)):zK zAB (zD (toD f1) (zD (toD f2) zJ)) σ M = some (.dat (.bl true),M):=by
  refine zAI (zAn e1 (zAW e2)) ?_;unfold zAB;have up:∀ (m n:Nat) (d:D),n <= m -> Pl n d -> Pl m d:=by
    intro m;induction m with
    | zero => intro n d h p; have : n = 0 := by omega
              subst this; exact p
    | succ m ih=>
      intro n d h p;cases n with
      | zero=>exact .inl p
      | succ n=>
        rcases p with p | ⟨ds,e,hz,p⟩
        · exact .inl p
        · exact .inr ⟨ds,e,hz,fun x hx=>ih n x (by omega) (p x hx)⟩
  exact zHw 4 d M (up 4 n d (by omega) hp)
theorem zEt (m:IsM zA l) (e:f σ M = some (.dat (mD zA),M)):fB zBG (zQ (fOp kIx f (fC (.int 0))) zc) σ M = some (.dat (.int l),M):=by
 have r0:=m.r0;have:=zCv (ze (g:=fC (.int 0)) e rfl (zNK zBY (zLl (by omega) (by omega)))) zBY;rw [zN0,(m.get (by omega) (by omega)).1] at this; exact this
theorem oS (h:f σ M = some (.dat (.int i),M)):zAV f σ M = some (some i,M):=by unfold zAV; rw [h]
theorem zJz {c:List Int} (h:c.length <= 100000):Vd M (.tup (c.map D.int)):=by
 unfold Vd;exact ⟨by simpa using h,Vds.of fun d hd=>by obtain ⟨i,_,rfl⟩:=List.mem_map.mp hd; unfold Vd; trivial⟩
end Law
namespace Lac
open PySem PySem.Spec PyProof.Rows L2 L3 ST Law
end Lac
namespace Lac
open PySem PySem.Spec PyProof.Rows L2 L3 ST Law
end Lac
namespace Lac
open PySem PySem.Spec PyProof.Rows L2 L3 ST Law
end Lac
namespace Lac
open PySem PySem.Spec PyProof.Rows L2 L3 ST Law
end Lac
namespace Lac
open PySem PySem.Spec PyProof.Rows L2 L3 ST Law
end Lac
namespace Lac
open PySem PySem.Spec PyProof.Rows L2 L3 ST Law
end Lac
namespace Lac
open PySem PySem.Spec PyProof.Rows L2 L3 ST Law
end Lac
namespace Lac
open PySem PySem.Spec PyProof.Rows L2 L3 ST Law
theorem zBi (ha:a σ M = some (true,M)):zCL a b σ M = some (true,M):=by unfold zCL; rw [ha]
theorem zA8 (ha:a σ M = some (false,M)) (hb:b σ M = some (k,M)):zCL a b σ M = some (k,M):=by unfold zCL; rw [ha]; exact hb
theorem zFS {g:FA} {σ:Sd} {M M1:Mem} {ds:List D} (h:g σ M = some (ds,M1)) (hz:ds.length <= 100000):zBa g σ M = some (.fl ds,M1):=by
 unfold zBa; rw [h]; dsimp only; rw [zN6 (zk hz)]
theorem zD7 {g:FA} {σ:Sd} {M M1:Mem} {ds:List D} (h:g σ M = some (ds,M1)) (hz:ds.length <= 100000):zDn g σ M = some (.dat (.tup ds),M1):=by
 unfold zDn; rw [h]; dsimp only; rw [zN6 (zk hz)]
theorem zES {α:Type} (hgd:zBM gd all M) (enc out:α -> D) (keep:α -> Bool):∀ (as:List α),(∀ a ∈ as,∃ σ1,g (enc a) σ = some σ1 /\ tc σ1 M = some (keep a,M) /\ (keep a = true -> te σ1 M = some (.dat (out a),M))) -> zA2 g tc te σ all gd (as.map enc) M = some ((as.filter keep).map out,M)
 | [],_=>by
  rw [List.map_nil];unfold zA2;rw [zN6 hgd]; rfl
 | a :: r,h=>by
  obtain ⟨σ1,e1,e2,e3⟩:=h a zN5;have ih:=zES hgd enc out keep r fun b hb=>h b (zN4 _ hb);rw [zOA];unfold zA2;rw [zN6 hgd,e1];dsimp only;rw [e2];cases hk:keep a with
  | false=>
   dsimp only;rw [ih,List.filter_cons_of_neg (by simp [hk])]
  | true=>
   dsimp only;rw [show toD te σ1 M = some (out a,M) by unfold toD; rw [e3 hk]];dsimp only;rw [ih,List.filter_cons_of_pos hk];rfl
theorem z0 {α:Type} {own:List Nat} {fi:FI} {g:FG} {tc:FT} {te:FE} {σ:Sd} {M M1:Mem} {gd:Option (Mem -> Prop)} (as:List α) (enc out:α -> D) (keep:α -> Bool) (hi:fi σ M = some (as.map enc,gd,M1)) (hgd:zBM gd (as.map enc) M1) (hz:as.length <= 100000)
  (he:∀ a ∈ as,∃ σ1,g (enc a) (zE4 own σ) = some σ1 /\ tc σ1 M1 = some (keep a,M1) /\ (keep a = true -> te σ1 M1 = some (.dat (out a),M1))):zy own fi g tc te σ M = some (.fl ((as.filter keep).map out),M1) :=
 zR (zBt.mpr ⟨_,_,_,hi,by rw [zN0]; exact zk hz,zS (zES hgd enc out keep as he) ⟨rfl,rfl⟩⟩)
theorem eqE:kEq (.dat (.int a)) (.dat (.int b)) M = some (.dat (.bl (decide (a = b))),M):=zR (zEd.mpr ⟨rfl,rfl⟩)
end Lac
namespace Lac
open PySem PySem.Spec PyProof.Rows L2 L3 ST Law
end Lac
namespace Lac
open PySem PySem.Spec PyProof.Rows L2 L3 ST Law
end Lac
namespace Lac
open PySem PySem.Spec PyProof.Rows L2 L3 ST Law
end Lac
namespace Lac
open PySem PySem.Spec PyProof.Rows L2 L3 ST Law
end Lac
namespace Lac
open PySem PySem.Spec PyProof.Rows L2 L3 ST Law
theorem zCd:zAS (.dat (.int i)) (.dat (.int j)) M = some (.dat (.int (i + j)),M):=zR (zAh.mpr ⟨rfl,rfl⟩)
end Lac
namespace Lab
open PySem PySem.Spec PyProof.Rows L2 L3 ST Law
open Lac (z0 zCd zFS zA8 zBi zD7)
abbrev nS (w:List Nat):D:=.str (tx w)
theorem zJs {s:Str} (h:s.cps.toList = [c]):s = ⟨#[c]⟩:=by rw [<- zBN s,h]
open Lac (z0 zCd zFS zA8 zBi zD7)
theorem zL0 (h:tx a = tx b):a = b:=by
 have:=congrArg (fun s:Str=>s.cps.toList) h;simpa using this
open Lac (z0 zCd zFS zA8 zBi zD7)
open Lac (z0 zCd zFS zA8 zBi zD7)
theorem zI4 (a b:List Nat):tx a ++ tx b = tx (a ++ b):=by
 rw [<- zBN (tx a ++ tx b),zDX]
theorem zNe {f g:FE} {σ:Sd} {M:Mem} {a b:List Nat} (hf:f σ M = some (.dat (nS a),M)) (hg:g σ M = some (.dat (nS b),M)) (h:a.length + b.length <= 100000):fOp zB1 f g σ M = some (.dat (nS (a ++ b)),M):=by
 refine ze hf hg (zR ((zIF (by rw [zDz,zDz]; exact h)).mpr ?_));rw [zI4]; exact ⟨rfl,rfl⟩
open Lac (z0 zCd zA8 zBi zD7 eqE zFS)
noncomputable def zCy:FS:=(zh (zK zm (zD (toD (zC 1)) (zD (toD (fB zBG (zQ (fOp kIx (zC 0) (fC (.int 0))) zc))) zJ))))
noncomputable def zAb:FF:=zBK 2 zCy
noncomputable def zBc:FS:=(zT (sIf (tst (fOp kEq (fB zBG (zQ (zC 0) zc)) (fC (.int 0)))) (zh (fC (.str "-"))) zAU)
  (zh (zDA (fC (.str "")) (zQ (zy [1] (zDI (zC 0)) (gN 1) zAf (fOp zF2 (fC (.str "abcdefghijklmnopqrstuvwxyz")) (zC 1))) zc))))
noncomputable def zp:FF:=zBK 2 zBc
noncomputable def zAc:FXS:=(zDH (xOf (sIf (tst (fOp kEq (zC 1) (fC (.str "-")))) (zh (zDn zJ)) zAU))
  (zDH (xOf (zAF 2 (fB zAY (zQ (zy [3] (zD6 (zC 1)) (gN 3) zAf (zFb (fC (.str "abcdefghijklmnopqrstuvwxyz")) (zQ (zC 3) zc))) zc))))
  (zDH (xIf (zCL (tst (fOp kEq (fB zBG (zQ (zC 2) zc)) (fC (.int 0)))) (zBI (tst (zK zAb (zD (toD (zC 0)) (zD (toD (zC 2)) zJ)))))) zE5 (xOf zAU))
  (xOf (zh (zC 2))))))
noncomputable def zAd:FFX:=zDt 4 zAc
noncomputable def zCt:FS:=(zT (sIf (tst (fOp kEq (zC 0) (fC (.str "-")))) (zh (zDn zJ)) zAU)
  (zT (zAF 2 (zDG (fC (.str "abcdef")) zA5 (zAV (zC 1))))
  (zT (sIf (zCL (tst (fOp kEq (zC 0) (fC (.str "")))) (tst (fOp kNe (zy [3] (zD6 (zC 0)) (gN 3) (tst (fOp zBX (zC 3) (zC 2))) (zC 3)) (zBa zJ)))) (zh (fC .non)) zAU)
  (zh (fB zAY (zQ (zy [3] (zD6 (zC 0)) (gN 3) zAf (zDJ (zC 2) (zQ (zC 3) zc))) zc))))))
noncomputable def zAr:FF:=zBK 4 zCt
noncomputable def zCF:FS:=(zT (zAF 2 (fC .non))
  (zT (zIQ 2 3 zAd (zD (toD (zC 0)) (zD (toD (zC 1)) zJ)))
  (zh (zC 2))))
noncomputable def zi:FF:=zBK 4 zCF
theorem zCz (c:Nat):∀ (n a:Nat),ixL c (List.range' a n) = if a <= c /\ c < a + n then some (c - a) else none
 | 0,a=>by rw [List.range'_zero,zN9 (by omega)]; rfl
 | n + 1,a=>by
  rw [List.range'_succ];unfold ixL;by_cases h:a = c
  ·subst h; rw [zN6 rfl,zN6 (by omega),Nat.sub_self]
  ·rw [zN9 h,zCz c n (a + 1)];by_cases q:a + 1 <= c /\ c < a + 1 + n
   ·rw [zN6 q,zN6 (by omega)];show some (c - (a + 1) + 1) = _;congr 1; omega
   ·rw [zN9 q,zN9 (by omega)]
theorem zFv:(Str.ofString "abcdefghijklmnopqrstuvwxyz").cps.toList = List.range' 97 26:=by decide +kernel
theorem zFY:(Str.ofString "abcdef").cps.toList = List.range' 97 6:=by decide +kernel
theorem zEu:Str.ofString "-" = tx [45]:=zJs (by decide +kernel)
theorem zIV:Str.ofString "" = tx []:=by rw [<- zBN (Str.ofString "")]; rfl
def okL (l c:Nat):Bool:=decide (97 <= c /\ c < 97 + l)
def wI (x:List Nat):List Int:=x.map fun c=>((c - 97:Nat):Int)
def rdD (l:Nat) (x:List Nat):D:=if x = [45] then .tup [] else if x ≠ [] /\ x.all (okL l) = true then tI (wI x) else .non
theorem zGx (c:Nat):fnd c (Str.ofString "abcdefghijklmnopqrstuvwxyz").cps.toList = if 97 <= c /\ c < 123 then ((c - 97:Nat):Int) else -1:=by
 unfold fnd;rw [zFv,zCz];by_cases h:97 <= c /\ c < 123
 ·rw [zN6 (by omega),zN6 h]
 ·rw [zN9 (by omega),zN9 h]
theorem zMJ:kEq (.dat (nS x)) (.dat (nS y)) M = some (.dat (.bl (decide (x = y))),M):=by
 have e:decide (V.str (tx x) = V.str (tx y)) = decide (x = y):=by
  by_cases h:x = y
  ·subst h; rw [zOz rfl,zOz rfl]
  ·rw [zOQ h,zOQ fun z=>h (zL0 (V.str.inj z))]
 rw [<- e]; rfl
theorem zLZ (x:List Nat):(zDb (tx x)).map D.str = x.map fun c=>D.str ⟨#[c]⟩:=by
 unfold zDb; rw [List.map_map]; rfl
theorem zEl (hf:f σ M = some (.dat (nS x),M)):zD6 f σ M = some (x.map (fun c=>D.str ⟨#[c]⟩),none,M):=by
 unfold zD6; rw [hf]; dsimp only; rw [zLZ]
theorem zKK (m:IsM zA l) (hz:w.length <= 90000):zAb [mD zA,tI w] M = some (.bl (w.all fun i=>decide (0 <= i) && decide (i < l)),M):=by
 unfold zAb zCy;have e:tbD l (tI w) = w.all fun i=>decide (0 <= i) && decide (i < l):=by
  show List.all (w.map D.int) _ = _;rw [List.all_map]; rfl
 rw [<- e];exact zDO (zAI (zAn (d:=tI w) rfl (zAW (Law.zEt m rfl))) (zNC (zJz (by omega))))
theorem zE7 {f g:FXS} {σ σ1:Sd} {M M1:Mem} (h:f σ M = some (.inl (.nx,σ1,M1))):zDH f g σ M = g σ1 M1:=by unfold zDH; rw [h]
theorem zIL {f g:FXS} {σ σ1:Sd} {M M1:Mem} {d:D} (h:f σ M = some (.inl (.ret d,σ1,M1))):zDH f g σ M = some (.inl (.ret d,σ1,M1)):=by unfold zDH; rw [h]
theorem zJl {f g:FXS} {σ:Sd} {M M1:Mem} (h:f σ M = some (.inr M1)):zDH f g σ M = some (.inr M1):=by unfold zDH; rw [h]
theorem zEY (h:f σ M = some r):xOf f σ M = some (.inl r):=by unfold xOf; rw [h]
theorem zGt {c:FT} {f g:FS} {σ:Sd} {M M1:Mem} (h:c σ M = some (true,M1)):sIf c f g σ M = f σ M1:=by unfold sIf; rw [h]
theorem zMO {c:FT} {f g:FS} {σ:Sd} {M M1:Mem} (h:c σ M = some (false,M1)):sIf c f g σ M = g σ M1:=by unfold sIf; rw [h]
theorem zMR {c:FT} {f g:FXS} {σ:Sd} {M M1:Mem} (h:c σ M = some (true,M1)):xIf c f g σ M = f σ M1:=by unfold xIf; rw [h]
theorem zMj {c:FT} {f g:FXS} {σ:Sd} {M M1:Mem} (h:c σ M = some (false,M1)):xIf c f g σ M = g σ M1:=by unfold xIf; rw [h]
theorem zCk {f:FE} {σ:Sd} {M M1:Mem} {d:D} (h:f σ M = some (.dat d,M1)):zh f σ M = some (.ret d,σ,M1):=by unfold zh toD; rw [h]
theorem zKF {i:Nat} {f:FE} {σ:Sd} {M M1:Mem} {d:D} (h:f σ M = some (.dat d,M1)):zAF i f σ M = some (.nx,σ.set i (some d),M1):=by unfold zAF toD; rw [h]
theorem zIw (hx:x.length <= 90000) (hf:f σ M = some (.dat (nS x),M)) (hi:∀ d,∃ σ1,gN i d (zE4 [own] σ) = some σ1 /\ zC i σ1 M = some (.dat d,M)) :
  zy [own] (zD6 f) (gN i) zAf (zFb (fC (.str (Str.ofString "abcdefghijklmnopqrstuvwxyz"))) (zQ (zC i) zc)) σ M = some (.fl ((x.map fun c=>fnd c (Str.ofString "abcdefghijklmnopqrstuvwxyz").cps.toList).map D.int),M):=by
 rw [List.map_map];refine zCb (gd:=none) x (fun c=>D.str ⟨#[c]⟩) _ (zEl hf) trivial (by omega) fun c _=>?_;obtain ⟨σ1,e1,e2⟩:=hi (D.str ⟨#[c]⟩);refine ⟨σ1,e1,?_⟩;unfold zFb;have e3:zQ (zC i) zc σ1 M = some ([.dat (.str ⟨#[c]⟩)],M):=by unfold zQ zc; rw [e2]
 show (match zQ (zC i) zc σ1 M with | some ([.dat (.str b)],M2)=>_ | _=>none) = _;rw [e3]; rfl
theorem zKJ (l:Nat) (hl:l <= 26) (x:List Nat):((x.map fun c=>fnd c (Str.ofString "abcdefghijklmnopqrstuvwxyz").cps.toList).all fun i=>decide (0 <= i) && decide (i < l)) = x.all (okL l):=by
 rw [List.all_map];congr 1;funext c;show (decide (0 <= fnd c _) && decide (fnd c _ < l)) = okL l c;rw [zGx];unfold okL;by_cases h:97 <= c /\ c < 123
 ·rw [zN6 h];by_cases q:c < 97 + l
  ·rw [zOz (by omega),zOz (by omega),zOz ⟨h.1,q⟩]; rfl
  ·rw [zOQ (p:=_ < _) (by omega),zOQ (p:=_ /\ _) (by omega),Bool.and_false]
 ·rw [zN9 h,zOQ (by omega),zOQ (p:=_ /\ _) (by omega)]; rfl
theorem zLy (hl:l <= 26) (h:x.all (okL l) = true):(x.map fun c=>fnd c (Str.ofString "abcdefghijklmnopqrstuvwxyz").cps.toList) = wI x:=by
 unfold wI;refine List.map_congr_left fun c hc=>?_;have:=zOS.mp h c hc;unfold okL at this;have:=of_decide_eq_true this;rw [zGx,zN6 (by omega)]
theorem zEN {n:Nat} {b:FXS} {ds:List D} {σ:Sd} {M M1:Mem} {d:D} (h:b (ds.map some ++ List.replicate (n - ds.length) none) M = some (.inl (.ret d,σ,M1))):zDt n b ds M = some (.inl (d,M1)):=by unfold zDt; rw [h]
theorem zJM {n:Nat} {b:FXS} {ds:List D} {M M1:Mem} (h:b (ds.map some ++ List.replicate (n - ds.length) none) M = some (.inr M1)):zDt n b ds M = some (.inr M1):=by unfold zDt; rw [h]
theorem zJ6 {zA:List (List Int)} {l:Nat} (m:IsM zA l) (hl:l <= 26) {x:List Nat} (hx:x.length <= 50000) (M:Mem) :
  zAd [mD zA,nS x] M = some (if x = [45] then .inl (.tup [],M) else if x ≠ [] /\ x.all (okL l) = true then .inl (tI (wI x),M) else .inr M):=by
 have t1:tst (fOp kEq (zC 1) (fC (.str (Str.ofString "-")))) [some (mD zA),some (nS x),none,none] M = some (decide (x = [45]),M):=zAP (ze (x:=.dat (nS x)) (y:=.dat (nS [45])) rfl (by rw [zEu]; rfl) zMJ);unfold zAd;by_cases h1:x = [45]
 ·rw [zOz h1] at t1;rw [zN6 h1];refine zEN (σ:=[some (mD zA),some (nS x),none,none]) ?_;show zAc [some (mD zA),some (nS x),none,none] M = _;unfold zAc;exact zIL (zEY ((zGt t1).trans (zCk (zD7 rfl (by simp)))))
 ·rw [zOQ h1] at t1;rw [zN9 h1];have e2:=zFD (zIw (f:=zC 1) (σ:=[some (mD zA),some (nS x),none,none]) (M:=M) (own:=3) (i:=3) (x:=x) (by omega) rfl fun d=>⟨_,rfl,rfl⟩) zBB;have t3:zCL (tst (fOp kEq (fB zBG (zQ (zC 2) zc)) (fC (.int 0)))) (zBI (tst (zK zAb (zD (toD (zC 0)) (zD (toD (zC 2)) zJ))))) [some (mD zA),some (nS x),some (tI (x.map fun c=>fnd c (Str.ofString "abcdefghijklmnopqrstuvwxyz").cps.toList)),none] M = some (!decide (x ≠ [] /\ x.all (okL l) = true),M):=by
   have l1:=zCv (f:=zC 2) (σ:=[some (mD zA),some (nS x),some (tI (x.map fun c=>fnd c (Str.ofString "abcdefghijklmnopqrstuvwxyz").cps.toList)),none]) (M:=M) rfl zBY;rw [zN0,zN0] at l1;have l2:=zAP (ze (y:=.dat (.int 0)) (g:=fC (.int 0)) l1 rfl eqE);by_cases h0:x = []
   ·rw [zBi (l2.trans (by rw [h0]; rfl)),zOQ (fun z=>z.1 h0)]; rfl
   ·rw [zA8 (l2.trans (by rw [zOQ (fun z=>h0 (List.length_eq_zero_iff.mp (by omega)))])) (zEh (zAI (zAn (d:=mD zA) rfl (zAW (d:=tI _) rfl)) (zKK m (by rw [zN0]; omega)))),zKJ l hl];congr 2;cases q:x.all (okL l) <;> simp [h0]
  have hb:zAc [some (mD zA),some (nS x),none,none] M = zDH (xIf (zCL (tst (fOp kEq (fB zBG (zQ (zC 2) zc)) (fC (.int 0)))) (zBI (tst (zK zAb (zD (toD (zC 0)) (zD (toD (zC 2)) zJ)))))) zE5 (xOf zAU)) (xOf (zh (zC 2))) [some (mD zA),some (nS x),some (tI (x.map fun c=>fnd c (Str.ofString "abcdefghijklmnopqrstuvwxyz").cps.toList)),none] M:=by
   unfold zAc;rw [zE7 (zEY ((zMO t1).trans rfl)),zE7 (zEY (zKF (i:=2) e2))]; rfl
  by_cases h2:x ≠ [] /\ x.all (okL l) = true
  ·rw [zOz h2] at t3;rw [zN6 h2,<- zLy hl h2.2];exact zEN (hb.trans ((zE7 ((zMj t3).trans rfl)).trans (zEY (zCk (d:=tI _) rfl))))
  ·rw [zOQ h2] at t3;rw [zN9 h2];exact zJM (hb.trans (zJl ((zMR t3).trans rfl)))
theorem zD2 (m:IsM zA l) (hl:l <= 26) (hx:x.length <= 50000) (M:Mem):zi [mD zA,nS x] M = some (rdD l x,M):=by
 refine zR ?_;unfold zi;rw [zAZ];unfold zCF;show OkS (zT _ _ [some (mD zA),some (nS x),none,none] M) _;refine zGE (d:=.non) rfl ?_;show OkS (zT _ _ [some (mD zA),some (nS x),some .non,none] M) _;have ea:zD (toD (zC 0)) (zD (toD (zC 1)) zJ) [some (mD zA),some (nS x),some .non,none] M = some ([mD zA,nS x],M):=zAn (d:=mD zA) rfl (zAW (d:=nS x) rfl);have er:=zJ6 m hl hx M;have key:zIQ 2 3 zAd (zD (toD (zC 0)) (zD (toD (zC 1)) zJ)) [some (mD zA),some (nS x),some .non,none] M = some (.nx,[some (mD zA),some (nS x),some (rdD l x),none],M):=by
  unfold zIQ;rw [ea];dsimp only;rw [er];unfold rdD;by_cases h1:x = [45]
  ·rw [zN6 h1,zN6 h1]; rfl
  ·rw [zN9 h1,zN9 h1];by_cases h2:x ≠ [] /\ x.all (okL l) = true
   ·rw [zN6 h2,zN6 h2]; rfl
   ·rw [zN9 h2,zN9 h2]; rfl
 unfold OkS zT;rw [key];exact ⟨_,_,_,rfl,rfl,rfl⟩
theorem zDy (z:Str) (k:Nat) (h:k <= z.length):(Txt.slice z none (some (k:Int))).cps.toList = z.cps.toList.take k:=by
 rw [eq_of_beq (slice_closes_toL (x:=z) (j:=(k:Int)) (by omega) (by omega))];simp
theorem zGD (z:Str) (k:Nat):(Txt.slice z (some (k:Int)) none).cps.toList = z.cps.toList.drop k:=by
 by_cases h:k <= z.length
 ·rw [slice_from_eq (x:=z) (i:=(k:Int)) (b:=z.length) (by omega) (by omega) rfl];have:z.cps.toList.length = z.length:=by simp [Str.length]
  simp only [Int.toNat_natCast];rw [List.take_of_length_le (by rw [List.length_drop]; omega)]
 ·rw [slice_from_beyond (by omega)];have:z.cps.toList.length = z.length:=by simp [Str.length]
  rw [List.drop_eq_nil_of_le (by omega)]
theorem zMw:kNe (.fl xs) (.fl []) M = some (.dat (.bl (!xs.isEmpty)),M):=rfl
theorem zFV:∀ (k n a:Nat),k <= n -> (List.range' a n).take k = List.range' a k
 | 0,n,a,_=>by simp
 | k + 1,0,a,h=>by omega
 | k + 1,n + 1,a,h=>by rw [List.range'_succ,List.take_succ_cons,zFV k n (a + 1) (by omega),List.range'_succ]
theorem slS {f:FE} {fl fh:FO} {σ:Sd} {M:Mem} {z:Str} {lo hi:Option Int} (hf:f σ M = some (.dat (.str z),M)) (hl:fl σ M = some (lo,M)) (hh:fh σ M = some (hi,M)) (hz:z.length <= 100000):zDG f fl fh σ M = some (.dat (.str (Txt.slice z lo hi)),M):=by
 unfold zDG; rw [hf]; dsimp only; rw [hl]; dsimp only; rw [hh]; dsimp only; rw [zN6 (zk hz)]
theorem zKX {l:Nat} (hl:l <= 6) {x:List Nat} (hx:x.length <= 50000) (M:Mem):zAr [nS x,.int (l:Nat)] M = some (rdD l x,M):=by
 have t1:tst (fOp kEq (zC 0) (fC (.str (Str.ofString "-")))) [some (nS x),some (.int (l:Nat)),none,none] M = some (decide (x = [45]),M):=zAP (ze (x:=.dat (nS x)) (y:=.dat (nS [45])) rfl (by rw [zEu]; rfl) zMJ);refine zR ?_;unfold zAr;rw [zAZ];unfold zCt;show OkS (zT _ _ [some (nS x),some (.int (l:Nat)),none,none] M) _;unfold rdD;by_cases h1:x = [45]
 ·rw [zOz h1] at t1;rw [zN6 h1];unfold OkS zT;rw [zGt t1,zCk (zD7 rfl (by simp))];exact ⟨_,_,_,rfl,rfl,rfl⟩
 ·rw [zOQ h1] at t1;rw [zN9 h1];refine zq t1 ?_;have hs:Txt.slice (Str.ofString "abcdef") none (some (l:Int)) = tx (List.range' 97 l):=by
   rw [<- zBN (Txt.slice _ _ _),zDy _ _ (by rw [show (Str.ofString "abcdef").length = 6 from by decide +kernel]; exact hl),zFY,zFV _ _ _ hl]
  refine zGE (d:=nS (List.range' 97 l)) ?_ ?_
  ·rw [slS (z:=Str.ofString "abcdef") (lo:=none) (hi:=some (l:Int)) rfl rfl rfl (by decide +kernel),hs]
  show OkS (zT _ _ [some (nS x),some (.int (l:Nat)),some (nS (List.range' 97 l)),none] M) _;have hix:∀ c,ixL c (tx (List.range' 97 l)).cps.toList = if okL l c = true then some (c - 97) else none:=fun c=>by
   rw [show (tx (List.range' 97 l)).cps.toList = List.range' 97 l from by simp,zCz];unfold okL;by_cases q:97 <= c /\ c < 97 + l
   ·rw [zN6 q,zN6 (by simpa using q)]
   ·rw [zN9 q,zN9 (by simpa using q)]
  have t2:tst (fOp kEq (zC 0) (fC (.str (Str.ofString "")))) [some (nS x),some (.int (l:Nat)),some (nS (List.range' 97 l)),none] M = some (decide (x = []),M):=zAP (ze (x:=.dat (nS x)) (y:=.dat (nS [])) rfl (by rw [zIV]; rfl) zMJ);have t3:tst (fOp kNe (zy [3] (zD6 (zC 0)) (gN 3) (tst (fOp zBX (zC 3) (zC 2))) (zC 3)) (zBa zJ)) [some (nS x),some (.int (l:Nat)),some (nS (List.range' 97 l)),none] M = some (!x.all (okL l),M):=by
   have c1:=z0 (own:=[3]) (g:=gN 3) (tc:=tst (fOp zBX (zC 3) (zC 2))) (te:=zC 3) (gd:=none) x (fun c=>D.str ⟨#[c]⟩) (fun c=>D.str ⟨#[c]⟩) (fun c=> !okL l c) (zEl (f:=zC 0) (σ:=[some (nS x),some (.int (l:Nat)),some (nS (List.range' 97 l)),none]) (M:=M) rfl) trivial (by omega) fun c _=>by
    refine ⟨_,rfl,zAP (ze (x:=.dat (.str ⟨#[c]⟩)) (y:=.dat (nS (List.range' 97 l))) rfl rfl ?_),fun _=>rfl⟩;show some (EV.dat (.bl (ixL c (tx (List.range' 97 l)).cps.toList).isNone),M) = _;rw [hix];cases okL l c <;> rfl
   refine zAP (ze (y:=.fl []) c1 (zFS rfl (by simp)) (zMw.trans ?_));congr 3;rw [List.isEmpty_map];cases q:x.all (okL l) with
   | true=>
    rw [List.filter_eq_nil_iff.mpr fun c hc=>by rw [zOS.mp q c hc]; decide]; rfl
   | false=>
    obtain ⟨c,hc,hn⟩:=List.all_eq_false.mp q;cases e:x.filter fun c=> !okL l c with
    | nil=>exact absurd (List.filter_eq_nil_iff.mp e c hc) (by simpa using hn)
    | cons _ _=>rfl
  by_cases h2:x ≠ [] /\ x.all (okL l) = true
  ·rw [zN6 h2];rw [zOQ h2.1] at t2;rw [h2.2] at t3;refine zq (zA8 t2 t3) ?_;refine zBd (d:=tI (wI x)) ?_ ⟨rfl,rfl⟩;refine zFD (x:=.fl ((wI x).map D.int)) ?_ zBB;unfold wI;rw [List.map_map];refine zCb (gd:=none) x (fun c=>D.str ⟨#[c]⟩) _ (zEl rfl) trivial (by omega) fun c hc=>⟨_,rfl,?_⟩;have ho:=zOS.mp h2.2 c hc;unfold zDJ;show (match ixL c (tx (List.range' 97 l)).cps.toList with | some i=>some (EV.dat (.int i),M) | none=>none) = _;rw [hix,zN6 ho]; rfl
  ·rw [zN9 h2];have t4:zCL (tst (fOp kEq (zC 0) (fC (.str (Str.ofString ""))))) (tst (fOp kNe (zy [3] (zD6 (zC 0)) (gN 3) (tst (fOp zBX (zC 3) (zC 2))) (zC 3)) (zBa zJ))) [some (nS x),some (.int (l:Nat)),some (nS (List.range' 97 l)),none] M = some (true,M):=by
    by_cases h0:x = []
    ·rw [zOz h0] at t2;exact zBi t2
    ·rw [zOQ h0] at t2;refine (zA8 t2 t3).trans ?_;cases q:x.all (okL l) with
     | true=>exact absurd ⟨h0,q⟩ h2
     | false=>rfl
   unfold OkS zT;rw [zGt t4,zCk (d:=.non) rfl];exact ⟨_,_,_,rfl,rfl,rfl⟩
open Lac (z0 zCd zA8 zBi zD7 eqE zFS)
noncomputable def zCJ:FS:=(zT (zAF 3 (zK zH (zD (toD (zC 0)) (zD (toD (fC (.int 13))) zJ))))
  (zT (sIf (zDa (tst (fOp kLt (zC 2) (fC (.int 2)))) (tst (fOp kEq (zK zH (zD (toD (zC 0)) (zD (toD (fC (.int 2))) zJ))) (fC (.int 0))))) (zAF 3 (zK zH (zD (toD (zC 0)) (zD (toD (fC (.int 4001))) zJ)))) zAU)
  (zh (fB zAY (zQ (zy [4] (zAl (zD (toD (zC 3)) zJ)) (gN 4) zAf (zK zH (zD (toD (zC 0)) (zD (toD (zC 1)) zJ)))) zc)))))
noncomputable def zAu:FF:=zBK 5 zCJ
noncomputable def zBR:FS:=(zT (zEc (zAl (zD (toD (zK zH (zD (toD (zC 0)) (zD (toD (fC (.int 4))) zJ)))) zJ)) (gN 2) (zT (zAF 3 (zK zH (zD (toD (zC 0)) (zD (toD (fOp zAS (fB zDe (zQ (zC 1) zc)) (fC (.int 1)))) zJ))))
  (zT (zAF 4 (fOp kIx (zBa (zD (toD (fC (.str "a"))) (zD (toD (fC (.str "b"))) (zD (toD (fC (.str "c"))) (zD (toD (fC (.str "d"))) (zD (toD (fC (.str "e"))) (zD (toD (fC (.str "f"))) (zD (toD (fC (.str "g"))) (zD (toD (fC (.str "z"))) (zD (toD (fC (.str "A"))) (zD (toD (fC (.str " "))) (zD (toD (fC (.str "-"))) (zD (toD (fC (.str "0"))) (zD (toD (fC (.str "\n"))) (zD (toD (fC (.str ""))) zJ))))))))))))))) (zK zH (zD (toD (zC 0)) (zD (toD (fC (.int 14))) zJ)))))
  (zAF 1 (fOp zB1 (fOp zB1 (zDG (zC 1) zA5 (zAV (zC 3))) (zC 4)) (zDG (zC 1) (zAV (fOp zAS (zC 3) (zK zH (zD (toD (zC 0)) (zD (toD (fC (.int 2))) zJ))))) zA5))))))
  (zh (zC 1)))
noncomputable def zAT:FF:=zBK 5 zBR
noncomputable def zIi:FS:=(zT (zAF 1 (zK zAe (zD (toD (zC 0)) zJ)))
  (zT (zAF 2 (zK zAG (zD (toD (zC 1)) (zD (toD (fC (.int 26))) (zD (toD (fC (.int 6))) zJ)))))
  (zT (zEc (zAl (zD (toD (fOp zAS (fC (.int 2)) (fB zBG (zQ (fSl (zC 0) zA5 (zAV (fC (.int 40)))) zc)))) zJ)) (gN 3) (zT (zAF 4 (zK zAu (zD (toD (zC 1)) (zD (toD (fB zBG (zQ (fOp kIx (zC 2) (fC (.int 0))) zc))) (zD (toD (zC 3)) zJ)))))
  (zT (zAF 5 (zDA (fC (.str "")) (zQ (zy [6] (zDI (zC 4)) (gN 6) zAf (fOp zF2 (fC (.str "abcdef")) (zC 6))) zc)))
  (zT (sIf (tst (fOp zEV (zC 4) (zDn zJ))) (zAF 5 (fC (.str "-"))) zAU)
  (zT (sIf (zCL (zBI (tst (zK zAB (zD (toD (zK zp (zD (toD (zC 4)) zJ))) (zD (toD (zC 5)) zJ))))) (zBI (tst (zK zAB (zD (toD (zK zi (zD (toD (zC 2)) (zD (toD (zC 5)) zJ)))) (zD (toD (zC 4)) zJ)))))) (zh (fC (.bl false))) zAU)
  (zT (zAF 7 (zK zAT (zD (toD (zC 1)) (zD (toD (zC 5)) zJ))))
  (sIf (zBI (tst (zK zAB (zD (toD (zK zi (zD (toD (zC 2)) (zD (toD (zC 7)) zJ)))) (zD (toD (zK zAr (zD (toD (zC 7)) (zD (toD (fB zBG (zQ (fOp kIx (zC 2) (fC (.int 0))) zc))) zJ)))) zJ))))) (zh (fC (.bl false))) zAU)))))))
  (zh (zBz (zK zAB (zD (toD (zK zi (zD (toD (zC 2)) (zD (toD (fC (.str ""))) zJ)))) (zD (toD (fC .non)) zJ))) (zK zAB (zD (toD (zK zp (zD (toD (zDn (zD (toD (fC (.int 25))) (zD (toD (fC (.int 0))) zJ)))) zJ))) (zD (toD (fC (.str "za"))) zJ))))))))
noncomputable def zC0:FF:=zBK 8 zIi
def wS (w:List Int):List Nat:=w.map fun a=>97 + a.toNat
def wTx (w:List Int):List Nat:=if w = [] then [45] else wS w
theorem zJ4 {z:Str} (hz:z.cps.toList = List.range' 97 n) (hn:n <= 26) {i:Int} (h0:0 <= i) (h1:i < n):zF2 (.dat (.str z)) (.dat (.int i)) M = some (.dat (nS [97 + i.toNat]),M):=by
 unfold zF2;dsimp only;have hl:z.cps.toList.length = z.length:=by simp [Str.length]
 rw [zN6 (by rw [<- hl,hz,List.length_range']; omega),hz];have:=zEa (xs:=List.range' 97 n) (j:=i.toNat) (v:=97 + i.toNat) (by rw [List.getElem?_range' (by omega),Nat.one_mul]);rw [show ((i.toNat:Nat):Int) = i by omega] at this;rw [this]
theorem zNA (hf:f σ M = some (.fl (cs.map fun c=>nS [c]),M)) (h:cs.length <= 90000):zDA (fC (.str (Str.ofString ""))) (zQ f zc) σ M = some (.dat (nS cs),M):=by
 refine zR (zKG (sep:=Str.ofString "") rfl (zAR.mpr (zS hf (zAp.mpr ⟨_,cs.map fun c=>(⟨#[c]⟩:Str),rfl,?_,?_,?_,rfl⟩))))
 ·show some (cs.map fun c=>nS [c]) = _;rw [List.map_map]; rfl
 ·rw [zFy,show (Str.ofString "").length = 0 from by decide +kernel]; omega
 ·show EV.dat (.str _) = _;rw [<- zBN (Txt.join _ _),zIK]
theorem zFo {z:Str} (hz:z.cps.toList = List.range' 97 n) (hn:n <= 26) {w:List Int} (hw:∀ y ∈ w,0 <= y /\ y < n) (hl:w.length <= 90000) (hf:f σ M = some (.dat (tI w),M)) (hi:∀ d,∃ σ1,gN i d (zE4 [own] σ) = some σ1 /\ zC i σ1 M = some (.dat d,M)) :
  zDA (fC (.str (Str.ofString ""))) (zQ (zy [own] (zDI f) (gN i) zAf (fOp zF2 (fC (.str z)) (zC i))) zc) σ M = some (.dat (nS (wS w)),M):=by
 refine zNA ?_ (by unfold wS; rw [zN0]; omega);unfold wS;rw [List.map_map];refine zCb (gd:=none) w D.int _ (zG6 hf) trivial (by omega) fun a ha=>?_;obtain ⟨σ1,e1,e2⟩:=hi (.int a);exact ⟨σ1,e1,ze (x:=.dat (.str z)) rfl e2 (zJ4 hz hn (hw a ha).1 (hw a ha).2)⟩
theorem zFq {w:List Int} (hw:∀ y ∈ w,0 <= y /\ y < 26) (hl:w.length <= 90000) (M:Mem):zp [tI w] M = some (nS (wTx w),M):=by
 refine zR ?_;unfold zp;rw [zAZ];unfold zBc;show OkS (zT _ _ [some (tI w),none] M) _;have l1:=zCv (f:=zC 0) (σ:=[some (tI w),none]) (M:=M) rfl zBY;rw [zN0] at l1;have l2:=zAP (ze (y:=.dat (.int 0)) (g:=fC (.int 0)) l1 rfl eqE);unfold wTx;by_cases h0:w = []
 ·rw [zN6 h0];unfold OkS zT;rw [zGt (l2.trans (by rw [h0]; rfl)),zCk (d:=nS [45]) (by rw [zEu]; rfl)];exact ⟨_,_,_,rfl,rfl,rfl⟩
 ·rw [zN9 h0];refine zq (l2.trans (by rw [zOQ (fun z=>h0 (List.length_eq_zero_iff.mp (by omega)))])) ?_;exact zBd (d:=nS (wS w)) (zFo zFv (zNx _) hw hl rfl fun d=>⟨_,rfl,rfl⟩) ⟨rfl,rfl⟩
theorem zMb {l:Nat} {w:List Int} (hw:∀ y ∈ w,0 <= y /\ y < l):rdD l (wTx w) = tI w:=by
 unfold rdD wTx;by_cases h0:w = []
 ·rw [zN6 h0,zN6 rfl,h0]; rfl
 ·rw [zN9 h0];have ne:wS w ≠ []:=fun z=>h0 (by unfold wS at z; exact List.map_eq_nil_iff.mp z);have n45:wS w ≠ [45]:=fun z=>by
   have:(45:Nat) ∈ wS w:=by rw [z]; simp
   obtain ⟨a,_,e⟩:=List.mem_map.mp this;omega
  have ha:(wS w).all (okL l) = true:=zOS.mpr fun c hc=>by
   obtain ⟨a,ha,rfl⟩:=List.mem_map.mp hc;have:=hw a ha;unfold okL;exact zOz ⟨by omega,by omega⟩
  rw [zN9 n45,zN6 ⟨ne,ha⟩];congr 1;unfold wI wS;rw [List.map_map];refine (List.map_congr_left fun a ha=>?_).trans (List.map_id _);have:=hw a ha;show ((97 + a.toNat - 97:Nat):Int) = a;omega
theorem zMS (hx:x.length <= 50000):Pl 1 (rdD l x):=by
 unfold rdD;by_cases h1:x = [45]
 ·rw [zN6 h1]; exact Pl.tup (by simp) fun y hy=>by cases hy
 ·rw [zN9 h1];by_cases h2:x ≠ [] /\ x.all (okL l) = true
  ·rw [zN6 h2]; exact Pl.ints (by unfold wI; rw [zN0]; omega)
  ·rw [zN9 h2]; exact .inl rfl
theorem zJY (h:Gen M n k) (hl:0 < l) (hl1:l <= 1000) :
  Ok (zAu [.ref n,.int l,.int turn] M) fun d M'=>(∃ w:List Int,d = tI w /\ w.length <= 4000 /\ ∀ g ∈ w,0 <= g /\ g < l) /\ Nx M M' n k:=by
 unfold zAu;rw [zAZ];unfold zCJ;show OkS (zT _ _ [some (.ref n),some (.int l),some (.int turn),none,none] M) _;rw [zM,zb];refine zZ h rfl rfl (by decide) (by decide) fun c M1 c0 c1 nx1=>?_;rw [zF,zV,zM]
 suffices hk:∀ (c:Int) (M2:Mem),0 <= c -> c <= 4000 -> Nx M M2 n k -> OkS (zh (fB zAY (zQ (zy [4] (zAl (zD (toD (zC 3)) zJ)) (gN 4) zAf (zK zH (zD (toD (zC 0)) (zD (toD (zC 1)) zJ)))) zc)) [some (.ref n),some (.int l),some (.int turn),some (.int c),none] M2)
   (fun o _ M'=>match o with | .ret d=>(∃ w:List Int,d = tI w /\ w.length <= 4000 /\ ∀ g ∈ w,0 <= g /\ g < l) /\ Nx M M' n k | .nx=>(∃ w:List Int,D.non = tI w /\ w.length <= 4000 /\ ∀ g ∈ w,0 <= g /\ g < l) /\ Nx M M' n k | _=>False) by
  rw [zAm];refine zG7.mpr (zAi.mpr (zN.mpr (zL.mpr ⟨_,rfl,zx.mpr (zMC.mpr (zo.mpr ?_))⟩)));by_cases ht:turn < 2
  ·rw [zN6 (by simpa using ht)];refine zAi.mpr (zN.mpr (zZ nx1.gen rfl rfl (by decide) (by decide) fun i M2 i0 i1 nx2=>zx.mpr (zEd.mpr (zo.mpr ?_))));by_cases hi:i = 0
   ·rw [zN6 (by simpa using hi),zb];refine zZ nx2.gen rfl rfl (by decide) (by decide) fun c' M3 d0 d1 nx3=>?_;rw [zF,zV];exact hk c' M3 d0 (by omega) ((nx1.trans nx2).trans nx3)
   ·rw [zN9 (by simpa using hi),zAJ,zV];exact hk c M2 c0 (by omega) (nx1.trans nx2)
  ·rw [zN9 (by simpa using ht),zN9 (by decide),zAJ,zV];exact hk c M1 c0 (by omega) nx1
 intro c M2 c0 c1 nx;rw [zv];refine zFP.mpr (zAR.mpr (zBt.mpr ⟨_,_,_,zCj rfl c0 (by omega),by rw [zBD]; exact zk (by omega),?_⟩));refine Ok.mono (zIx (n:=c.toNat) (I:=fun j acc M3=>∃ w:List Int,acc = w.map D.int /\ w.length = j /\ (∀ g ∈ w,0 <= g /\ g < l) /\ Nx M M3 n k) ?_ ⟨[],rfl,rfl,(fun _ h=>by cases h),nx⟩) ?_
 ·rintro j acc M3 hj ⟨w,rfl,hw,hg,nx3⟩;refine ⟨_,rfl,zZ nx3.gen rfl rfl hl (by omega) fun i M4 i0 i1 nx4=>?_⟩;rw [zF];refine ⟨w ++ [i],by simp,by simp [hw],fun g hg'=>?_,nx3.trans nx4⟩;rcases zOH.mp hg' with q | q
  ·exact hg g q
  ·have:g = i:=by simpa using q
   subst this; exact ⟨i0,i1⟩
 ·rintro ys M3 ⟨w,rfl,hw,hg,nx3⟩;refine zAp.mpr ((zDT zBB).mpr ?_);rw [zF];exact ⟨⟨w,rfl,by omega,hg⟩,nx3⟩
theorem zM4 {k:K2} {f g:FE} {σ:Sd} {M M1 M2:Mem} {x y:EV} {r:Option (EV × Mem)} (hf:f σ M = some (x,M1)) (hg:g σ M1 = some (y,M2)) (hk:k x y M2 = r):fOp k f g σ M = r:=by
 unfold fOp; rw [hf]; dsimp only; rw [hg]; exact hk
theorem zMa {f:FE} {fl fh:FO} {σ:Sd} {M M1 M2 M3:Mem} {z:Str} {lo hi:Option Int} (hf:f σ M = some (.dat (.str z),M1)) (hl:fl σ M1 = some (lo,M2)) (hh:fh σ M2 = some (hi,M3)) (hz:z.length <= 100000):zDG f fl fh σ M = some (.dat (.str (Txt.slice z lo hi)),M3):=by
 unfold zDG; rw [hf]; dsimp only; rw [hl]; dsimp only; rw [hh]; dsimp only; rw [zN6 (zk hz)]
theorem zGr (h:Gen M n k) (ha:fa σ M = some (.dat (.ref n),M)) (hb:fb σ M = some (.dat (.int m),M)) (h0:0 < m) (h1:m < 1073741824) :
  ∃ i M',zK zH (zD (toD fa) (zD (toD fb) zJ)) σ M = some (.dat (.int i),M') /\ 0 <= i /\ i < m /\ Nx M M' n k:=by
 obtain ⟨x,M',e,i,rfl,i0,i1,nx⟩:=zZ (P:=fun x M'=>∃ i,x = .dat (.int i) /\ 0 <= i /\ i < m /\ Nx M M' n k) h ha hb h0 h1 fun i M' i0 i1 nx=>⟨i,rfl,i0,i1,nx⟩;exact ⟨i,M',e,i0,i1,nx⟩
theorem zIu {σ:Sd} {M M1:Mem} {f:FE} {j:Int} (e:f σ M = some (.dat (.int j),M1)) (h1:0 <= j) (h2:j < 2 ^ 62):zAl (zD (toD f) zJ) σ M = some (zAv 0 j.toNat,none,M1):=by
 rw [zD4 (zMv e) h1 h2,zFM]
theorem zHp {M:Mem} {n k:Nat} {x:List Nat} (h:Gen M n k) (hx:x.length <= 5000):Ok (zAT [.ref n,nS x] M) fun d M'=>(∃ y:List Nat,d = nS y /\ y.length <= x.length + 4) /\ Nx M M' n k:=by
 unfold zAT;rw [zAZ];unfold zBR;show OkS (zT _ _ [some (.ref n),some (nS x),none,none,none] M) _;rw [zM,zDL];obtain ⟨r,M1,er,r0,r1,nx1⟩:=zGr (fa:=zC 0) (fb:=fC (.int 4)) (σ:=[some (.ref n),some (nS x),none,none,none]) (m:=4) h rfl rfl (by decide) (by decide);refine ⟨_,_,_,zIu er r0 (by omega),?_⟩;refine zGN (n:=r.toNat) (I:=fun s σ A=>(∃ y z2 z3 z4,σ = [some (.ref n),some (nS y),z2,z3,z4] /\ y.length <= x.length + s) /\ Nx M A n k) ?_ ?_ _ _ ⟨⟨x,_,_,_,rfl,zNx _⟩,nx1⟩
 ·rintro s σ A hs ⟨⟨y,z2,z3,z4,rfl,hy⟩,nxA⟩;refine ⟨_,rfl,?_⟩;show OkS (zT _ _ [some (.ref n),some (nS y),some (.int (s:Nat)),z3,z4] A) _;rw [zM,zb];have hyl:(tx y).length = y.length:=zDz y;refine zZ nxA.gen rfl (ze (x:=.dat (.int (y.length:Nat))) (y:=.dat (.int 1)) (by rw [zKW (z:=tx y) rfl (by omega),hyl]) rfl zCd) (by omega) (by omega) fun at_ A1 a0 a1 nxB=>?_;rw [zF,zV];show OkS (zT _ _ [some (.ref n),some (nS y),some (.int (s:Nat)),some (.int at_),z4] A1) _;rw [zM,zb];refine zN.mpr ?_;refine zS (zFS (ds:=[.str (Str.ofString "a"),.str (Str.ofString "b"),.str (Str.ofString "c"),.str (Str.ofString "d"),.str (Str.ofString "e"),.str (Str.ofString "f"),.str (Str.ofString "g"),.str (Str.ofString "z"),.str (Str.ofString "A"),.str (Str.ofString " "),.str (Str.ofString "-"),.str (Str.ofString "0"),.str (Str.ofString "\n"),.str (Str.ofString "")]) rfl (by simp)) ?_;refine zZ nxB.gen rfl rfl (by decide) (by decide) fun j A2 j0 j1 nxC=>?_;have hds:∀ d ∈ ([.str (Str.ofString "a"),.str (Str.ofString "b"),.str (Str.ofString "c"),.str (Str.ofString "d"),.str (Str.ofString "e"),.str (Str.ofString "f"),.str (Str.ofString "g"),.str (Str.ofString "z"),.str (Str.ofString "A"),.str (Str.ofString " "),.str (Str.ofString "-"),.str (Str.ofString "0"),.str (Str.ofString "\n"),.str (Str.ofString "")]:List D),∃ z:Str,d = .str z /\ z.cps.toList.length <= 1:=by
   intro d hd;simp only [zN3,zOM,or_false] at hd;rcases hd with rfl | rfl | rfl | rfl | rfl | rfl | rfl | rfl | rfl | rfl | rfl | rfl | rfl | rfl <;> exact ⟨_,rfl,by decide +kernel⟩
  generalize hL:([.str (Str.ofString "a"),.str (Str.ofString "b"),.str (Str.ofString "c"),.str (Str.ofString "d"),.str (Str.ofString "e"),.str (Str.ofString "f"),.str (Str.ofString "g"),.str (Str.ofString "z"),.str (Str.ofString "A"),.str (Str.ofString " "),.str (Str.ofString "-"),.str (Str.ofString "0"),.str (Str.ofString "\n"),.str (Str.ofString "")]:List D) = ds at hds;have hlen:ds.length = 14:=by rw [<- hL]; rfl
  have hj:j.toNat < ds.length:=by omega
  obtain ⟨z,ez,hz⟩:=hds _ (List.getElem_mem hj);have hat:atI ds j = some (.str z):=by
   have:=zF9 (xs:=ds) (k:=j.toNat) (d:=.str z) (by rw [zNv hj,ez]);rwa [show ((j.toNat:Nat):Int) = j by omega] at this
  refine zGe zBB hat ?_;rw [zF,zV];show OkS (zAF _ _ [some (.ref n),some (nS y),some (.int (s:Nat)),some (.int at_),some (.str z)] A2) _;rw [zb];obtain ⟨q,A3,eq,q0,q1,nxD⟩:=zGr (fa:=zC 0) (fb:=fC (.int 2)) (σ:=[some (.ref n),some (nS y),some (.int (s:Nat)),some (.int at_),some (.str z)]) (m:=2) nxC.gen rfl rfl (by decide) (by decide);have s1:zDG (zC 1) zA5 (zAV (zC 3)) [some (.ref n),some (nS y),some (.int (s:Nat)),some (.int at_),some (.str z)] A2 = some (.dat (nS (y.take at_.toNat)),A2):=by
   rw [zMa (z:=tx y) (lo:=none) (hi:=some at_) rfl rfl (oS rfl) (by omega)];congr 3;rw [<- zBN (Txt.slice _ _ _)];have:=zDy (tx y) at_.toNat (by omega);rw [show ((at_.toNat:Nat):Int) = at_ by omega] at this;rw [this]
  have s2:zDG (zC 1) (zAV (fOp zAS (zC 3) (zK zH (zD (toD (zC 0)) (zD (toD (fC (.int 2))) zJ))))) zA5 [some (.ref n),some (nS y),some (.int (s:Nat)),some (.int at_),some (.str z)] A2 = some (.dat (nS (y.drop (at_ + q).toNat)),A3):=by
   have ep:fOp zAS (zC 3) (zK zH (zD (toD (zC 0)) (zD (toD (fC (.int 2))) zJ))) [some (.ref n),some (nS y),some (.int (s:Nat)),some (.int at_),some (.str z)] A2 = some (.dat (.int (at_ + q)),A3):=zM4 (x:=.dat (.int at_)) rfl eq zCd;rw [zMa (z:=tx y) (lo:=some (at_ + q)) (hi:=none) (M2:=A3) rfl (by unfold zAV; rw [ep]) rfl (by omega)];congr 3;rw [<- zBN (Txt.slice _ _ _)];have:=zGD (tx y) (at_ + q).toNat;rw [show (((at_ + q).toNat:Nat):Int) = at_ + q by omega] at this;rw [this]
  have htk:(y.take at_.toNat).length <= y.length:=by rw [zPF]; omega
  have s3:fOp zB1 (zDG (zC 1) zA5 (zAV (zC 3))) (zC 4) [some (.ref n),some (nS y),some (.int (s:Nat)),some (.int at_),some (.str z)] A2 = some (.dat (nS (y.take at_.toNat ++ z.cps.toList)),A2):=zNe s1 (by show some (EV.dat (.str z),A2) = some (EV.dat (.str (tx z.cps.toList)),A2); rw [zBN]) (by omega);have hdr:(y.drop (at_ + q).toNat).length <= y.length:=by rw [List.length_drop]; omega
  have s4:=zM4 (k:=zB1) s3 s2 (zR ((zIF (i:=tx (y.take at_.toNat ++ z.cps.toList)) (j:=tx (y.drop (at_ + q).toNat)) (M:=A3) (P:=fun x M'=>x = .dat (nS (y.take at_.toNat ++ z.cps.toList ++ y.drop (at_ + q).toNat)) /\ M' = A3) (by rw [zDz,zDz,zN7]; omega)).mpr ⟨by rw [zI4],rfl⟩));refine zS s4 ?_;rw [zF];refine ⟨⟨_,_,_,_,rfl,?_⟩,((nxA.trans nxB).trans nxC).trans nxD⟩;rw [zN7,zN7,zPF,List.length_drop];omega
 ·rintro σ A ⟨⟨y,z2,z3,z4,rfl,hy⟩,nxA⟩;rw [zV];exact zBd (d:=nS y) rfl ⟨⟨y,rfl,by omega⟩,nxA⟩
theorem zJQ (ns:List Int) (h:ns.length <= 63):∃ M',zC0 [.ref 0] [.fro (ns.map D.int)] = some (.bl true,M'):=by
 suffices hh:Ok (zC0 [.ref 0] [.fro (ns.map D.int)]) fun d _=>d = .bl true by
  obtain ⟨d,M',e,rfl⟩:=hh;exact ⟨M',e⟩
 unfold zC0;rw [zAZ];unfold zIi;show OkS (zT _ _ [some (.ref 0),none,none,none,none,none,none,none] _) _;rw [zM,zb];refine zBw.mpr (zS (zAW (d:=.ref 0) rfl) (Ok.mono (zI2 h) ?_));rintro d M1 ⟨rfl,g1,e0,hl3⟩;rw [zF,zV];show OkS (zT _ _ [some (.ref 0),some (.ref 2),none,none,none,none,none,none] M1) _;rw [zM,zb];refine zBw.mpr (zS (zAn (d:=.ref 2) rfl (zAn (d:=.int 26) rfl (zAW (d:=.int 6) rfl))) (Ok.mono (zGA g1 (by decide) (by decide) (by decide) (by decide)) ?_));rintro d A1 ⟨⟨zA,l,rfl,m,h26,hl6⟩,nx1⟩;have hl6:l <= 6:=by omega
 have e0:A1[0]? = some (.fro (ns.map D.int)):=by rw [nx1.fr 0 (by decide) (by decide)]; exact e0
 rw [zF,zV];show OkS (zT _ _ [some (.ref 0),some (.ref 2),some (mD zA),none,none,none,none,none] A1) _;rw [zM,zDL];obtain ⟨c,ec,lc⟩:=zLR (σ:=[some (.ref 0),some (.ref 2),some (mD zA),none,none,none,none,none]) (M:=A1) (j:=0) (i:=40) rfl rfl e0;have elen:=zCv ec zBB;rw [zN0] at elen;refine ⟨_,_,_,zCj (j:=2 + (c.length:Int)) (ze (x:=.dat (.int 2)) rfl elen zCd) (by omega) (by omega),?_⟩;refine zGN (n:=(2 + (c.length:Int)).toNat) (I:=fun t σ A=>(∃ y3 y4 y5 y6 y7,σ = [some (.ref 0),some (.ref 2),some (mD zA),y3,y4,y5,y6,y7]) /\ Gen A 2 1) ?_ ?_ _ _ ⟨⟨_,_,_,_,_,rfl⟩,nx1.gen⟩
 ·rintro t σ A0 ht ⟨⟨y3,y4,y5,y6,y7,rfl⟩,g0⟩;refine ⟨_,rfl,?_⟩;show OkS (zT _ _ [some (.ref 0),some (.ref 2),some (mD zA),some (.int (t:Nat)),y4,y5,y6,y7] A0) _;rw [zM,zb];refine zBw.mpr (zS (zAn (d:=.ref 2) rfl (zAn (d:=.int (l:Nat)) (Law.zEt m rfl) (zAW (d:=.int (t:Nat)) rfl))) (Ok.mono (zJY g0 (by have:=m.l0; omega) (by omega)) ?_));rintro d A2 ⟨⟨w,rfl,hw4,hw⟩,nx2⟩;rw [zF,zV];refine zGE (d:=nS (wS w)) (zFo (z:=Str.ofString "abcdef") (w:=w) zFY (by decide) (fun y hy=>⟨(hw y hy).1,by have:=(hw y hy).2; omega⟩) (by omega) (f:=zC 4) rfl fun d=>⟨_,rfl,rfl⟩) ?_;have hseq:∀ {P:Out -> Sd -> Mem -> Prop} {g:FS},OkS (g [some (.ref 0),some (.ref 2),some (mD zA),some (.int (t:Nat)),some (tI w),some (nS (wTx w)),y6,y7] A2) P -> OkS (zT (sIf (tst (fOp zEV (zC 4) (zDn zJ))) (zAF 5 (fC (.str (Str.ofString "-")))) zAU) g [some (.ref 0),some (.ref 2),some (mD zA),some (.int (t:Nat)),some (tI w),some (nS (wS w)),y6,y7] A2) P:=fun {P g} hq=>by
   have te:tst (fOp zEV (zC 4) (zDn zJ)) [some (.ref 0),some (.ref 2),some (mD zA),some (.int (t:Nat)),some (tI w),some (nS (wS w)),y6,y7] A2 = some (w.isEmpty,A2):=zAP (ze (x:=.dat (tI w)) (y:=.dat (.tup [])) rfl (zD7 rfl (by simp)) (by show some (EV.dat (.bl (w.map D.int).isEmpty),A2) = _; rw [List.isEmpty_map]));rw [zM,zAm];refine zS te ?_;unfold wTx at hq;cases w with
   | nil=>
    rw [zN6 rfl] at hq;rw [List.isEmpty_nil,zN6 rfl,zb];refine zS (x:=fC (.str (Str.ofString "-")) _ A2) (a:=.dat (nS [45])) (by rw [zEu]; rfl) ?_;rw [zF,zV];exact hq
   | cons a r=>
    rw [zN9 (by simp)] at hq;rw [List.isEmpty_cons,zN9 (by decide),zAJ,zV];exact hq
  refine hseq ?_;have hwl:(wTx w).length <= 4001:=by
   unfold wTx;split
   ·simp
   ·unfold wS; rw [zN0]; omega
  have hw26:∀ y ∈ w,0 <= y /\ y < 26:=fun y hy=>⟨(hw y hy).1,by have:=(hw y hy).2; omega⟩;have c1:=zBF (σ:=[some (.ref 0),some (.ref 2),some (mD zA),some (.int (t:Nat)),some (tI w),some (nS (wTx w)),y6,y7]) (M:=A2) (f1:=zK zp (zD (toD (zC 4)) zJ)) (f2:=zC 5) (d:=nS (wTx w)) 0 (by omega) rfl (zAI (zAW (d:=tI w) rfl) (zFq hw26 (by omega) A2)) rfl;have hrd:=zD2 m (by omega) (x:=wTx w) (by omega) A2;rw [zMb hw] at hrd;have c2:=zBF (σ:=[some (.ref 0),some (.ref 2),some (mD zA),some (.int (t:Nat)),some (tI w),some (nS (wTx w)),y6,y7]) (M:=A2) (f1:=zK zi (zD (toD (zC 2)) (zD (toD (zC 5)) zJ))) (f2:=zC 4) (d:=tI w) 1 (by omega) (Pl.ints (by omega)) (zAI (zAn (d:=mD zA) rfl (zAW (d:=nS (wTx w)) rfl)) hrd) rfl;refine zq (zA8 (zEh c1) (zEh c2)) ?_;rw [zM,zb];refine zBw.mpr (zS (zAn (d:=.ref 2) rfl (zAW (d:=nS (wTx w)) rfl)) (Ok.mono (zHp nx2.gen (x:=wTx w) (by omega)) ?_));rintro d A3 ⟨⟨y,rfl,hy⟩,nx3⟩;rw [zF,zV];show OkS (sIf _ _ _ [some (.ref 0),some (.ref 2),some (mD zA),some (.int (t:Nat)),some (tI w),some (nS (wTx w)),y6,some (nS y)] A3) _;have c3:=zBF (σ:=[some (.ref 0),some (.ref 2),some (mD zA),some (.int (t:Nat)),some (tI w),some (nS (wTx w)),y6,some (nS y)]) (M:=A3) (f1:=zK zi (zD (toD (zC 2)) (zD (toD (zC 7)) zJ))) (f2:=zK zAr (zD (toD (zC 7)) (zD (toD (fB zBG (zQ (fOp kIx (zC 2) (fC (.int 0))) zc))) zJ))) (d:=rdD l y) 1 (by omega) (zMS (by omega)) (zAI (zAn (d:=mD zA) rfl (zAW (d:=nS y) rfl)) (zD2 m (by omega) (by omega) A3)) (zAI (zAn (d:=nS y) rfl (zAW (Law.zEt m rfl))) (zKX hl6 (by omega) A3));refine zIE (zEh c3) ?_;exact ⟨⟨_,_,_,_,_,rfl⟩,nx3.gen⟩
 ·rintro σ A ⟨⟨y3,y4,y5,y6,y7,rfl⟩,g0⟩;rw [zV];have hrd:=zD2 m (by omega) (x:=[]) (by simp) A;have e1:rdD l [] = .non:=by unfold rdD; rw [zN9 (by simp),zN9 (by simp)]
  rw [e1] at hrd;have c4:=zBF (σ:=[some (.ref 0),some (.ref 2),some (mD zA),y3,y4,y5,y6,y7]) (M:=A) (f1:=zK zi (zD (toD (zC 2)) (zD (toD (fC (.str (Str.ofString "")))) zJ))) (f2:=fC .non) (d:=.non) 0 (by omega) rfl (zAI (zAn (d:=mD zA) rfl (zAW (d:=nS []) (by rw [zIV]; rfl))) hrd) rfl;have hza:Str.ofString "za" = tx [122,97]:=by rw [<- zBN (Str.ofString "za")]; congr 1
  have hwt:=zFq (w:=[25,0]) (by decide) (by simp) A;have c5:=zBF (σ:=[some (.ref 0),some (.ref 2),some (mD zA),y3,y4,y5,y6,y7]) (M:=A) (f1:=zK zp (zD (toD (zDn (zD (toD (fC (.int 25))) (zD (toD (fC (.int 0))) zJ)))) zJ)) (f2:=fC (.str (Str.ofString "za"))) (d:=nS [122,97]) 0 (by omega) rfl (zAI (zAW (d:=tI [25,0]) (zD7 (zAn (d:=.int 25) rfl (zAW (d:=.int 0) rfl)) (by simp))) hwt) (by rw [hza]; rfl);rw [zv];refine zKd.mpr (zS c4 (zo.mpr ?_));rw [zN6 rfl];refine zS c5 ?_;rw [zF]
end Lab
set_option maxHeartbeats 4000000
namespace Lab
open PySem PySem.Spec PyProof.Rows L2 L3 Law
-- the text by places
def top (i:Nat):Stmt:=PySem.Challenge.pw_bringhome_k09_words_written.main.body.getD i (.Pass ⟨0,0,0,0⟩)
abbrev zCI:Stmt:=top 6
abbrev zCO:Stmt:=top 7
abbrev zAX:Stmt:=top 8
abbrev zCp:Stmt:=top 9
abbrev zBh:Stmt:=top 13
abbrev zA6:Stmt:=top 14
abbrev zBe:Stmt:=top 16
abbrev zCQ:Stmt:=top 17
abbrev zCC:Stmt:=top 18
abbrev zBC:Stmt:=top 19
abbrev zBO:Stmt:=top 20
abbrev zCK:Stmt:=top 21
abbrev zBV:Stmt:=top 22
abbrev zCn:Stmt:=top 23
abbrev zB7:Stmt:=top 24
abbrev zIm:Stmt:=top 25
structure Txt (K:PySem.W.Frag) (mg:Str -> Option Value) where
  d_is_whole:Df K mg "is_whole" zCI ["thing"]
  d_is_below:Df K mg "is_below" zCO ["thing", "many"]
  d_is_tuple_below:Df K mg "is_tuple_below" zAX ["thing", "many"]
  d_is_word:Df K mg "is_word" zCp ["machine", "thing"]
  d_word_text:Df K mg "word_text" zBh ["word"]
  d_read_word:Df K mg "read_word" zA6 ["machine", "text"]
  d_law_begin:Df K mg "_law_begin" zBe ["_law_script"]
  d_law_next:Df K mg "_law_next" zCQ ["_law_state", "_law_many"]
  d_law_goal:Df K mg "_law_goal" zCC ["_law_state", "_law_family", "_law_rooms", "_law_room", "_law_letter"]
  d_law_machine:Df K mg "_law_machine" zBC ["_law_state", "_law_most", "_law_letters_most"]
  d_law_same:Df K mg "_law_same" zBO ["_law_found", "_law_due_here"]
  d_law_word:Df K mg "_law_word" zCK ["_law_state", "_law_letters", "_law_turn"]
  d_law_spoilt:Df K mg "_law_spoilt" zBV ["_law_state", "_law_text"]
  d_law_due:Df K mg "_law_due" zCn ["_law_text", "_law_letters"]
  d_law_read:Df K mg "_law_read" zB7 ["_law_machine_here", "_law_text"]
  d_law:Df K mg "law" zIm ["_law_script"]
  z_isinstance:mg "isinstance" = none
  z_int:mg "int" = none
  z_bool:mg "bool" = none
  z_tuple:mg "tuple" = none
  z_all:mg "all" = none
  z_len:mg "len" = none
  z_abs:mg "abs" = none
  z_range:mg "range" = none
  z_str:mg "str" = none
  z_zip:mg "zip" = none
  z_ValueError:mg "ValueError" = none
  t_LETTERS:Tok
  g_LETTERS:mg "LETTERS" = some (.str "abcdefghijklmnopqrstuvwxyz" t_LETTERS)
  t_NO_LETTER:Tok
  g_NO_LETTER:mg "NO_LETTER" = some (.str "-" t_NO_LETTER)
  x_NoWord:Addr
  xm_NoWord:mg "NoWord" = some (.ref x_NoWord)
  x_HomeError:Addr
  xm_HomeError:mg "HomeError" = some (.ref x_HomeError)
  x_NoMachine:Addr
  xm_NoMachine:mg "NoMachine" = some (.ref x_NoMachine)
  x_NoSheet:Addr
  xm_NoSheet:mg "NoSheet" = some (.ref x_NoSheet)
  xd:Xd K x_NoWord x_HomeError
  xk1:PySem.W.kitCls K (.ref x_NoWord) (.ref x_HomeError) = some true
  xk2:PySem.W.kitCls K (.ref x_HomeError) (.type "BaseException") = some true
  xk3:PySem.W.kitOne K (.ref x_NoWord) (.type "ValueError") = some true
  xk4:PySem.W.kitAny K (.ref x_NoWord) [.ref x_NoMachine,.ref x_NoSheet] = some false
  kinds:Kinds K
section
variable {P:Program} {w:World} {K:PySem.W.Frag} {mg:Str -> Option Value} {base:Heap}
theorem zHf {X:Cx} {scope sc:Scope} {own:List Nat} {N ps:List Str} (_:FnScope N ps sc) (hk:scope.kind = .function) (hs:X.env.scope = sc) (hN:X.N = N) (h1:zCS sc scope = true) (h2:zDP N scope own = true):CompIn X scope own:=zBs hk hs hN h1 h2
theorem zMN {X:Cx} {scope sc sd:Scope} {own:List Nat} {N ps:List Str} (_:FnScope N ps sd) (hk:scope.kind = .function) (hs:X.env.scope = sc) (hN:X.N = N) (h1:zCS sc scope = true) (h2:zDP N scope own = true):CompIn X scope own:=zBs hk hs hN h1 h2
set_option hygiene false in
local macro_rules | `(tactic| decreasing_trivial)=> `(tactic| repeat' first
  | refine zd (pv _)
  | refine zBo ?_
  | refine zBU ?_ ?_ (zE rfl)
  | refine zBJ ?_
  | refine zKv
  | refine zDu
  | refine zDq
  | refine zBu ?_ ?_
  | refine zLp (by first | exact zC7 T | exact zDD T | exact zC4 T | exact zCU T | exact zDB T | exact zC6 T | exact zC8 T | exact zA4 T | exact zCX T | exact zCc T | exact zBf T | exact zC9 T | exact zB2 T | exact zDY T) (hr.mono (by omega)) rfl ?_ ?_ (by decide) (zE rfl) (za rfl)
  | refine zBm ?_
  | refine zCf ?_
  | refine zM3
  | refine zCN
  | refine zBT ?_ ?_ (zE rfl)
  | refine zNa ?_ ?_
  | refine zBl
  | refine zGU ?_ ?_ ?_
  | refine zMF ?_ ?_
  | refine zHA sc.nd rfl
  | refine zIg hr.units0 ?_ ?_
  | refine zMl ?_ ?_
  | refine zGf (zEW (by decide)) (zHf sc rfl rfl rfl (by decide +kernel) (by decide +kernel)) rfl ?_ ⟨fun _ _ _ _ _=>?_,fun _ _ _ _ _=>?_,fun _ _ _ _ _=>?_⟩
  | refine zM7 ?_
  | refine zG4 rfl T.z_len ?_ (zE rfl) rfl
  | refine zF6
  | refine zJu
  | refine zKS ?_
  | refine zLt ?_
  | refine zHK rfl T.z_range ?_ ?_ (zD5 rfl)
  | refine zFB ?_
  | refine zD1 ?_ ?_
  | refine zNO ?_ ?_
  | refine zMm zH5 PassesOwn.never rfl ?_ ?_ ?_
  | refine zGv rfl T.z_tuple ?_ (zE rfl) rfl
  | refine zKM ?_ ?_ ?_
  | refine zKn hr.units0 ?_ ?_
  | refine zMP ?_ ?_
  | refine zKw ?_
  | refine zIb ?_ ?_ ?_
  | refine zJO
  | refine zMW ?_ ?_
  | refine zGb ?_
  | refine zMU ?_ ?_
  | refine zL4 ?_ ?_
  | refine zMX ?_ ?_
  | refine zNP rfl T.z_abs ?_ (zE rfl) rfl
  | refine zLD ?_
  | refine zJZ ?_
  | refine zLV ?_
  | refine zIW ?_ ?_ ?_
  | refine zI0 ?_
  | refine zGC ?_
  | refine zMg ?_ ?_
  | refine zLj ?_ ?_
  | refine zNH
  | refine zBr T.kinds (by decide) rfl T.z_isinstance rfl T.z_int (by rfl) (by decide) (by decide) ?_ (zE rfl) (zE rfl) (za rfl)
  | refine zBr T.kinds (by decide) rfl T.z_isinstance rfl T.z_bool (by rfl) (by decide) (by decide) ?_ (zE rfl) (zE rfl) (za rfl)
  | refine zJE ?_
  | refine zDK rfl T.g_NO_LETTER
  | refine zDK rfl T.g_LETTERS
  | refine zMo ?_ ?_
  | refine zM6 ?_ ?_
  | refine zJ8 _ PassesOwn.never ?_ ?_
  | refine zHW ?_ ?_
  | refine zIe ?_ ?_
  | refine zJr (zCo fun _ _ _ _=>zAj) (zCo fun _ _ _ _=>zAj) zMT zKz ?_ ?_ ?_
  | refine zJc hr.units0 ?_ ?_
  | refine zK8 rfl T.z_int ?_ (zE rfl) rfl
  | refine zLO rfl T.z_len ?_ (zE rfl) rfl
  | refine zBr T.kinds (by decide) rfl T.z_isinstance rfl T.z_tuple (by rfl) (by decide) (by decide) ?_ (zE rfl) (zE rfl) (za rfl)
  | refine zKx rfl rfl T.z_all ?_ (zE rfl) rfl
  | refine zJL ?_ ?_
  | refine zNM T.xd T.xk1 T.xk2 (by first | exact zC7 T | exact zDD T | exact zC4 T | exact zCU T | exact zDB T | exact zC6 T | exact zC8 T | exact zA4 T | exact zCX T | exact zCc T | exact zBf T | exact zC9 T | exact zB2 T | exact zDY T) (hr.mono (by omega)) rfl T.d_read_word.m T.d_read_word.F.kp T.d_read_word.b rfl rfl rfl ?_ ?_ (by decide) (zE rfl) (za rfl) rfl sc.nd rfl rfl rfl rfl rfl T.xm_HomeError (by decide) (fun a oe vs h2 h3 h4=>zGL T.xd h2 h3 h4 T.xk3 T.xk4 rfl (Or.inl rfl) rfl T.z_isinstance rfl T.xm_NoWord rfl T.z_ValueError rfl T.xm_NoMachine rfl T.xm_NoSheet (by decide) (by decide) (by decide) (by decide) (by decide))
  | refine zKP hr.units0 ?_ ?_
  | refine zMc sc.nd rfl ?_
  | refine zJk (zLI ?_ ?_)
  | refine zJk (zJH ?_ ?_)
  | refine zCr ?_)
abbrev zGF:List Str:=["thing"]
theorem zFj:FnScope zGF ["thing"] (zI zCI):=⟨rfl,rfl,rfl,by decide +kernel,rfl,by decide +kernel,by decide +kernel⟩
theorem zDB (T:Txt K mg):Od P w base 1 T.d_is_whole zAw:=by
  unfold zAw;have sc:=zFj;exact zAM (n:=1) T.d_is_whole.F sc rfl (fun cdv A outer s H E hr=>by
    unfold zB8;decreasing_trivial)
abbrev zFW:List Str:=["word", "letter"]
theorem zEX:FnScope zFW ["word"] (zI zBh):=⟨rfl,rfl,rfl,by decide +kernel,rfl,by decide +kernel,by decide +kernel⟩
theorem zCU (T:Txt K mg):Od P w base 1 T.d_word_text zp:=by
  unfold zp;have sc:=zEX;exact zAM (n:=1) T.d_word_text.F sc rfl (fun cdv A outer s H E hr=>by
    unfold zBc;decreasing_trivial)
abbrev zFl:List Str:=["_law_script", "_law_seed", "_law_cell"]
theorem zE8:FnScope zFl ["_law_script"] (zI zBe):=⟨rfl,rfl,rfl,by decide +kernel,rfl,by decide +kernel,by decide +kernel⟩
theorem zCc (T:Txt K mg):Od P w base 1 T.d_law_begin zAe:=by
  unfold zAe;have sc:=zE8;exact zAM (n:=1) T.d_law_begin.F sc rfl (fun cdv A outer s H E hr=>by
    unfold zBq;decreasing_trivial)
abbrev zF7:List Str:=["_law_state", "_law_many", "_law_digit"]
theorem zFk:FnScope zF7 ["_law_state", "_law_many"] (zI zCQ):=⟨rfl,rfl,rfl,by decide +kernel,rfl,by decide +kernel,by decide +kernel⟩
theorem zC7 (T:Txt K mg):Od P w base 1 T.d_law_next zH:=by
  unfold zH;have sc:=zFk;exact zAM (n:=2) T.d_law_next.F sc rfl (fun cdv A outer s H E hr=>by
    unfold zCR;decreasing_trivial)
abbrev zHJ:List Str:=["_law_text", "_law_letters", "_law_signs", "_law_sign"]
theorem zGj:FnScope zHJ ["_law_text", "_law_letters"] (zI zCn):=⟨rfl,rfl,rfl,by decide +kernel,rfl,by decide +kernel,by decide +kernel⟩
theorem zDY (T:Txt K mg):Od P w base 1 T.d_law_due zAr:=by
  unfold zAr;have sc:=zGj;exact zAM (n:=2) T.d_law_due.F sc rfl (fun cdv A outer s H E hr=>by
    unfold zCt;decreasing_trivial)
abbrev zGS:List Str:=["thing", "many"]
theorem zFn:FnScope zGS ["thing", "many"] (zI zCO):=⟨rfl,rfl,rfl,by decide +kernel,rfl,by decide +kernel,by decide +kernel⟩
theorem zC6 (T:Txt K mg):Od P w base 2 T.d_is_below zAy:=by
  unfold zAy;have sc:=zFn;exact zAM (n:=2) T.d_is_below.F sc rfl (fun cdv A outer s H E hr=>by
    unfold zCA;decreasing_trivial)
abbrev zGT:List Str:=["_law_state", "_law_family", "_law_rooms", "_law_room", "_law_letter", "_law_half"]
theorem zF3:FnScope zGT ["_law_state", "_law_family", "_law_rooms", "_law_room", "_law_letter"] (zI zCC):=⟨rfl,rfl,rfl,by decide +kernel,rfl,by decide +kernel,by decide +kernel⟩
theorem zC8 (T:Txt K mg):Od P w base 2 T.d_law_goal zAx:=by
  unfold zAx;have sc:=zF3;exact zAM (n:=5) T.d_law_goal.F sc rfl (fun cdv A outer s H E hr=>by
    unfold zCD;decreasing_trivial)
abbrev zGO:List Str:=["_law_state", "_law_letters", "_law_turn", "_law_many", "_law_k"]
theorem zFO:FnScope zGO ["_law_state", "_law_letters", "_law_turn"] (zI zCK):=⟨rfl,rfl,rfl,by decide +kernel,rfl,by decide +kernel,by decide +kernel⟩
theorem zC9 (T:Txt K mg):Od P w base 2 T.d_law_word zAu:=by
  unfold zAu;have sc:=zFO;exact zAM (n:=3) T.d_law_word.F sc rfl (fun cdv A outer s H E hr=>by
    unfold zCJ;decreasing_trivial)
abbrev zEb:List Str:=["_law_state", "_law_text", "_law_k", "_law_at", "_law_sign"]
theorem zED:FnScope zEb ["_law_state", "_law_text"] (zI zBV):=⟨rfl,rfl,rfl,by decide +kernel,rfl,by decide +kernel,by decide +kernel⟩
theorem zB2 (T:Txt K mg):Od P w base 2 T.d_law_spoilt zAT:=by
  unfold zAT;have sc:=zED;exact zAM (n:=2) T.d_law_spoilt.F sc rfl (fun cdv A outer s H E hr=>by
    unfold zBR;decreasing_trivial)
abbrev zCs:List Str:=["thing", "many", "part"]
theorem zCg:FnScope zCs ["thing", "many"] (zI zAX):=⟨rfl,rfl,rfl,by decide +kernel,rfl,by decide +kernel,by decide +kernel⟩
theorem zA4 (T:Txt K mg):Od P w base 3 T.d_is_tuple_below zm:=by
  unfold zm;have sc:=zCg;exact zAM (n:=2) T.d_is_tuple_below.F sc rfl (fun cdv A outer s H E hr=>by
    unfold zAa;decreasing_trivial)
abbrev zD8:List Str:=["_law_state", "_law_most", "_law_letters_most", "_law_rooms", "_law_letters", "_law_family", "_law_rows", "_law_room", "_law_letter"]
theorem zDc:FnScope zD8 ["_law_state", "_law_most", "_law_letters_most"] (zI zBC):=⟨rfl,rfl,rfl,by decide +kernel,rfl,by decide +kernel,by decide +kernel⟩
theorem zBf (T:Txt K mg):Od P w base 3 T.d_law_machine zAG:=by
  unfold zAG;have sc:=zDc;exact zJd (zAM (n:=3) T.d_law_machine.F sc rfl (fun cdv A outer s H E hr=>by
    unfold zA9;decreasing_trivial))
abbrev zHg:List Str:=["machine", "thing"]
theorem zGB:FnScope zHg ["machine", "thing"] (zI zCp):=⟨rfl,rfl,rfl,by decide +kernel,rfl,by decide +kernel,by decide +kernel⟩
theorem zGk (T:Txt K mg):Od P w base 4 T.d_is_word zAb:=by
  unfold zAb;have sc:=zGB;exact zAM (n:=2) T.d_is_word.F sc rfl (fun cdv A outer s H E hr=>by
    unfold zCy;decreasing_trivial)
abbrev zC5:List Str:=["machine", "text", "word", "sign"]
theorem zBW:FnScope zC5 ["machine", "text"] (zI zA6):=⟨rfl,rfl,rfl,by decide +kernel,rfl,by decide +kernel,by decide +kernel⟩
theorem zCX (T:Txt K mg):FnOk P w K mg base (CXe P w) 5 T.d_read_word.f T.d_read_word.fd ["machine", "text"] (spX K 2 (.ref T.x_NoWord) zAd) :=
  zKQ (n:=2) T.d_read_word.F zBW rfl fun cdv A outer s H E hr=>(zFA (zJP (zGU (zIg hr.units0 (zd (pv 1)) (zDK rfl T.g_NO_LETTER)) (zBm (zCf (zKw zDu))) zBl))
    (zFA (zJP (zMc (i:=2) zBW.nd rfl (zGv rfl T.z_tuple (zBT (zGf (zEW (i:=3) (by decide)) (zBs (sc:=zI zA6) (N:=zC5) rfl rfl rfl (by decide +kernel) (by decide +kernel)) rfl (zI0 (zd (pv 1))) ⟨fun _ _ _ _ _=>(zHA (i:=3) zBW.nd rfl),fun _ _ _ _ _=>zF6,fun _ _ _ _ _=>(zL9 (zDK rfl T.g_LETTERS) (zBT (zd (pv 3)) zCN (zE rfl)))⟩) zCN (zE rfl)) (zE rfl) rfl)))
    (zFA (zMY (zJk (zJH (zIg hr.units0 (zG4 rfl T.z_len (zBT (zd (pv 2)) zCN (zE rfl)) (zE rfl) rfl) zKv) (zGC (zGb (zCr (zLp (zGk T) (hr.mono (by omega)) rfl (zBU (zBo (zd (pv 0))) (zBU (zBo (zd (pv 2))) zDu (zE rfl)) (zE rfl)) (zBJ (zBJ zDq)) (by decide) (zE rfl) (za rfl))))))) (zIz (zIy (zJA T.xd T.xm_NoWord rfl (by decide)))) (zLX zBl))
    (zIz (zJP (zCf (zd (pv 2))))))))
abbrev zDh:List Str:=["_law_found", "_law_due_here", "_law_one", "_law_other"]
theorem zBp:FnScope zDh ["_law_found", "_law_due_here"] (zI zBO):=⟨rfl,rfl,rfl,by decide +kernel,rfl,by decide +kernel,by decide +kernel⟩
theorem zCe (T:Txt K mg):∀ n:Nat,FnOk P w K mg base CX0 (n + 0) T.d_law_same.f T.d_law_same.fd ["_law_found", "_law_due_here"] (spF K 2 (zf n))
  | 0=>zKf
  | n + 1=>by
    have hrec:=zCe T n;unfold zf;rw [show n + 1 + 0 = (n + 0) + 1 by omega];exact zAM (n:=2) T.d_law_same.F zBp rfl (fun cdv A outer s H E hr=>by
      unfold zBP;exact (zBu (zGU (zCr (zBr T.kinds (by decide) rfl T.z_isinstance rfl T.z_tuple (by rfl) (by decide) (by decide) (zd (pv 1)) (zE rfl) (zE rfl) (za rfl))) (zBu (zGU (zJk (zJH (zGb (zCr (zBr T.kinds (by decide) rfl T.z_isinstance rfl T.z_tuple (by rfl) (by decide) (by decide) (zd (pv 0)) (zE rfl) (zE rfl) (za rfl)))) (zGC (zKn hr.units0 (zG4 rfl T.z_len (zBT (zd (pv 0)) zCN (zE rfl)) (zE rfl) rfl) (zG4 rfl T.z_len (zBT (zd (pv 1)) zCN (zE rfl)) (zE rfl) rfl))))) (zBm (zCf zNH)) zBl)
    (zBm (zCf (zKx rfl rfl T.z_all (zBT (zGf (zHs (i:=2) (j:=3) (by decide) (by decide)) (zBs (sc:=zI zBO) (N:=zDh) rfl rfl rfl (by decide +kernel) (by decide +kernel)) rfl (zLd rfl T.z_zip (zBU (zBo (zd (pv 0))) (zBU (zBo (zd (pv 1))) zDu (zE rfl)) (zE rfl)) (zJC rfl rfl) (zD5 rfl)) ⟨fun _ _ _ _ _=>(zMK rfl (zFR (zHA (i:=2) zBp.nd rfl) (zFR (zHA (i:=3) zBp.nd rfl) zKT))),fun _ _ _ _ _=>zF6,fun _ _ _ _ _=>(zLp hrec (hr.mono (by omega)) rfl (zBU (zBo (zd (pv 2))) (zBU (zBo (zd (pv 3))) zDu (zE rfl)) (zE rfl)) (zBJ (zBJ zDq)) (by decide) (zE rfl) (za rfl))⟩) zCN (zE rfl)) (zE rfl) rfl)))) zBl)
    (zBu (zGU (zM8 (zd (pv 1)) zJO) (zBm (zCf (zNY (zd (pv 0)) zJO))) zBl)
    (zBu (zGU (zCr (zBr T.kinds (by decide) rfl T.z_isinstance rfl T.z_bool (by rfl) (by decide) (by decide) (zd (pv 1)) (zE rfl) (zE rfl) (za rfl))) (zBm (zCf (zD1 (zBr T.kinds (by decide) rfl T.z_isinstance rfl T.z_bool (by rfl) (by decide) (by decide) (zd (pv 0)) (zE rfl) (zE rfl) (za rfl)) (zFB (zJc hr.units0 (zd (pv 0)) (zd (pv 1))))))) zBl)
    (zBu (zGU (zCr (zBr T.kinds (by decide) rfl T.z_isinstance rfl T.z_str (by rfl) (by decide) (by decide) (zd (pv 1)) (zE rfl) (zE rfl) (za rfl))) (zBm (zCf (zD1 (zBr T.kinds (by decide) rfl T.z_isinstance rfl T.z_str (by rfl) (by decide) (by decide) (zd (pv 0)) (zE rfl) (zE rfl) (za rfl)) (zFB (zJc hr.units0 (zd (pv 0)) (zd (pv 1))))))) zBl)
    (zBm (zCf (zD1 (zBr T.kinds (by decide) rfl T.z_isinstance rfl T.z_int (by rfl) (by decide) (by decide) (zd (pv 0)) (zE rfl) (zE rfl) (za rfl)) (zD1 (zJE (zBr T.kinds (by decide) rfl T.z_isinstance rfl T.z_bool (by rfl) (by decide) (by decide) (zd (pv 0)) (zE rfl) (zE rfl) (za rfl))) (zFB (zJc hr.units0 (zd (pv 0)) (zd (pv 1)))))))))))))
theorem zDD (T:Txt K mg):Od P w base 5 T.d_law_same zAB:=zCe T 5
abbrev zGI:List Str:=["_law_machine_here", "_law_text", "_law_told", "e"]
theorem zFw:FnScope zGI ["_law_machine_here", "_law_text"] (zI zB7):=⟨rfl,rfl,rfl,by decide +kernel,rfl,by decide +kernel,by decide +kernel⟩
theorem zC4 (T:Txt K mg):Od P w base 6 T.d_law_read zi:=by
  unfold zi;have sc:=zFw;exact zAM (n:=2) T.d_law_read.F sc rfl (fun cdv A outer s H E hr=>by
    unfold zCF;decreasing_trivial)
abbrev zM1:List Str:=["_law_script", "_law_state", "_law_machine_here", "_law_turn", "_law_word_here", "_law_due_here", "_law_letter", "_law_text"]
theorem zLY:FnScope zM1 ["_law_script"] (zI zIm):=⟨rfl,rfl,rfl,by decide +kernel,rfl,by decide +kernel,by decide +kernel⟩
theorem zLJ (T:Txt K mg):Od P w base 7 T.d_law zC0:=by
  unfold zC0;have sc:=zLY;exact zAM (n:=1) T.d_law.F sc rfl (fun cdv A outer s H E hr=>by
    unfold zIi;decreasing_trivial)
end
theorem all_mk {l:PySem.W.OpenLaw} {w:World} {K:PySem.W.Frag} {h:Heap} {mg:Str -> Option Value} {fa:Addr} (X:K.In h) (G:h.Ns mainGlobals mg) (hfa:mg "law" = some (.ref fa))
    {ts1:Tok} {ts2:Tok} {C1:Addr} {C2:Addr} {C3:Addr} {C4:Addr}(g1:Dg K "is_whole" zCI) (g2:Dg K "is_below" zCO) (g3:Dg K "is_tuple_below" zAX) (g4:Dg K "is_word" zCp) (g5:Dg K "word_text" zBh) (g6:Dg K "read_word" zA6) (g7:Dg K "_law_begin" zBe) (g8:Dg K "_law_next" zCQ) (g9:Dg K "_law_goal" zCC) (g10:Dg K "_law_machine" zBC) (g11:Dg K "_law_same" zBO) (g12:Dg K "_law_word" zCK) (g13:Dg K "_law_spoilt" zBV) (g14:Dg K "_law_due" zCn) (g15:Dg K "_law_read" zB7) (g16:Dg K "law" zIm) (z1:Zn K "isinstance") (z2:Zn K "int") (z3:Zn K "bool") (z4:Zn K "tuple") (z5:Zn K "all") (z6:Zn K "len") (z7:Zn K "abs") (z8:Zn K "range") (z9:Zn K "str") (z10:Zn K "zip") (z11:Zn K "ValueError") (ws1:PySem.W.nsIn K mainGlobals "LETTERS" = some (some (.str "abcdefghijklmnopqrstuvwxyz" ts1))) (ws2:PySem.W.nsIn K mainGlobals "NO_LETTER" = some (some (.str "-" ts2))) (xa1:PySem.W.nsIn K mainGlobals "NoWord" = some (some (.ref C1))) (xa2:PySem.W.nsIn K mainGlobals "HomeError" = some (some (.ref C2))) (xa3:PySem.W.nsIn K mainGlobals "NoMachine" = some (some (.ref C3))) (xa4:PySem.W.nsIn K mainGlobals "NoSheet" = some (some (.ref C4))) (xd:Xd K C1 C2) (xk1:PySem.W.kitCls K (.ref C1) (.ref C2) = some true) (xk2:PySem.W.kitCls K (.ref C2) (.type "BaseException") = some true) (xk3:PySem.W.kitOne K (.ref C1) (.type "ValueError") = some true) (xk4:PySem.W.kitAny K (.ref C1) [.ref C3,.ref C4] = some false) (y1:Ki K "NoneType" "int" false) (y2:Ki K "NoneType" "bool" false) (y3:Ki K "NoneType" "str" false) (y4:Ki K "NoneType" "tuple" false) (y5:Ki K "bool" "int" true) (y6:Ki K "bool" "bool" true) (y7:Ki K "bool" "str" false) (y8:Ki K "bool" "tuple" false) (y9:Ki K "int" "int" true) (y10:Ki K "int" "bool" false) (y11:Ki K "int" "str" false) (y12:Ki K "int" "tuple" false) (y13:Ki K "str" "int" false) (y14:Ki K "str" "bool" false) (y15:Ki K "str" "str" true) (y16:Ki K "str" "tuple" false) (y17:Ki K "list" "int" false) (y18:Ki K "list" "bool" false) (y19:Ki K "list" "str" false) (y20:Ki K "list" "tuple" false) (y21:Ki K "tuple" "int" false) (y22:Ki K "tuple" "bool" false) (y23:Ki K "tuple" "str" false) (y24:Ki K "tuple" "tuple" true) (y25:Ki K "dict" "int" false) (y26:Ki K "dict" "bool" false) (y27:Ki K "dict" "str" false) (y28:Ki K "dict" "tuple" false) :
    ∃ fd:FuncData,(∀ (s:Shared) (v:Value),BindsTo s fd ⟨[v],[]⟩ [("_law_script", v)]) /\ ∀ base:Heap,K.In base -> base.Ns mainGlobals mg -> FnOk l.prog w K mg base CX0 7 fa fd ["_law_script"] (spF K 1 zC0):=by
  have e:=hfa.symm.trans (PySem.W.mg_of X G g16.a);cases e;have kinds:Kinds K:=⟨by
    intro t T ht hT;simp only [zN3,zOM,or_false] at ht hT;rcases ht with rfl | rfl | rfl | rfl | rfl | rfl | rfl <;> rcases hT with rfl | rfl | rfl | rfl <;> assumption⟩
  let T:Txt K mg:=⟨g1.df X G fun _ _ _ _ _ _=>zKa fun _=>rfl,g2.df X G fun _ _ _ _ _ _=>zEi fun _ _=>rfl,g3.df X G fun _ _ _ _ _ _=>zEi fun _ _=>rfl,g4.df X G fun _ _ _ _ _ _=>zEi fun _ _=>rfl,g5.df X G fun _ _ _ _ _ _=>zKa fun _=>rfl,g6.df X G fun _ _ _ _ _ _=>zEi fun _ _=>rfl,g7.df X G fun _ _ _ _ _ _=>zKa fun _=>rfl,g8.df X G fun _ _ _ _ _ _=>zEi fun _ _=>rfl,g9.df X G fun _ _ _ _ _ _=>zNm fun _ _ _ _ _=>rfl,g10.df X G fun _ _ _ _ _ _=>zMV fun _ _ _=>rfl,g11.df X G fun _ _ _ _ _ _=>zEi fun _ _=>rfl,g12.df X G fun _ _ _ _ _ _=>zMV fun _ _ _=>rfl,g13.df X G fun _ _ _ _ _ _=>zEi fun _ _=>rfl,g14.df X G fun _ _ _ _ _ _=>zEi fun _ _=>rfl,g15.df X G fun _ _ _ _ _ _=>zEi fun _ _=>rfl,g16.df X G fun _ _ _ _ _ _=>zKa fun _=>rfl,zOq X G z1,zOq X G z2,zOq X G z3,zOq X G z4,zOq X G z5,zOq X G z6,zOq X G z7,zOq X G z8,zOq X G z9,zOq X G z10,zOq X G z11,_,PySem.W.mg_of X G ws1,_,PySem.W.mg_of X G ws2,_,PySem.W.mg_of X G xa1,_,PySem.W.mg_of X G xa2,_,PySem.W.mg_of X G xa3,_,PySem.W.mg_of X G xa4,xd,xk1,xk2,xk3,xk4,kinds⟩;refine ⟨T.d_law.fd,fun s v=> .of_eq rfl,fun base _ _=>?_⟩;exact zLJ (P:=l.prog) (w:=w) (base:=base) T
theorem walk {l:PySem.W.OpenLaw} {q:Program} {loose:List Str} {XP:(Str -> Option Value) -> Heap -> Prop} {YP:World -> Heap -> Prop} {d:DefRec} {K:Params -> PySem.W.Frag} (hn:l.most = some 63) (hdf:d.params.defaults = [])
    (hY:∀ (w:World) (h:Heap),YP w h -> (K w.params).In h) (hL:∀ w:World,zEq (K w.params) = true) (hT:∀ w:World,zH2 (K w.params) = true)
    (F:∀ (w:World) (mg:Str -> Option Value) (fa:Addr) (h:Heap),(K w.params).In h -> h.Ns mainGlobals mg -> mg d.name = some (.ref fa) ->
      ∃ fd:FuncData,(∀ (s:Shared) (u:Value),BindsTo s fd ⟨[u],[]⟩ [("_law_script", u)]) /\ ∀ base:Heap,(K w.params).In base -> base.Ns mainGlobals mg -> FnOk l.prog w (K w.params) mg base CX0 7 fa fd ["_law_script"] (spF (K w.params) 1 zC0)) :
    PySem.W.WalkO q loose XP YP l.row.toRowW d [] (fun f vs=>PySem.call f vs) :=
  L2.zKc (n:=63) (k:=7) (x := "_law_script") (CX:=fun _=>CX0) (sp:=fun w=>spF (K w.params) 1 zC0) hn (by decide) hdf ⟨rfl,by decide,by decide⟩ hY F
    (fun w H a ns hl hO hS=>zHV (hL w) (zHd (hT w)) (zJS hO) hS (zJQ ns hl)) fun _ _ _ _ _ z=>z
end Lab
open PySem PySem.W PyProof.Rows
set_option maxRecDepth 100000 in
set_option maxHeartbeats 0 in
theorem PySem.Challenge.cw_bringhome_k09_words_written_holds : PySem.Challenge.rw_bringhome_k09_words_written.Holds := by
  w_on; o_law; k_head; (case hw=>w_witness2);k_fill;refine Lab.walk (l:=PySem.Challenge.rw_bringhome_k09_words_written) rfl rfl (fun w h Y=>PySem.W.kIn_of Y) (fun w=>by rfl) (fun w=>by rfl) ?F
  case F=>
    intro w mg fa h KX G hmg;refine' Lab.all_mk KX G hmg ?_ ?_ ?_ ?_ ?_ ?_ ?_ ?_ ?_ ?_ ?_ ?_ ?_ ?_ ?_ ?_ ?_ ?_ ?_ ?_ ?_ ?_ ?_ ?_ ?_ ?_ ?_ ?_ ?_ ?_ ?_ ?_ ?_ ?_ ?_ ?_ ?_ ?_ ?_ ?_ ?_ ?_ ?_ ?_ ?_ ?_ ?_ ?_ ?_ ?_ ?_ ?_ ?_ ?_ ?_ ?_ ?_ ?_ ?_ ?_ ?_ ?_ ?_ ?_ ?_ ?_;all_goals try (first | exact ⟨_,by k_is,by k_is,by k_is,by k_is⟩ | exact ⟨by k_is,by k_is,⟨by with_unfolding_all rfl,by rfl,by rfl,by rfl,by rfl⟩,⟨by with_unfolding_all rfl,by rfl,by rfl,by rfl,by rfl⟩,by k_is,by k_is,by rfl,by rfl,by rfl⟩ | (unfold L3.Zn; k_is) | (unfold L3.Ki; kit_is) | k_is | rfl)
