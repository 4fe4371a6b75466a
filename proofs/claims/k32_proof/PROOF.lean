import PyProof.Rows.All
import Wide.All
import OpenK.AllK
import Wide.FinOn
import Lean
import PyProof.EqAt
import PyProof.EqKinds
import PyProof.TupleCall
import PyProof.NeKinds
import PyProof.ZipIter
import PyProof.ListRange
import PyProof.TupleOfSeq
import PyProof.ConsumeWalk
import PyProof.IsRules
import PyProof.SetKind
import PyProof.SetRoads
import PyProof.Rows.SetFrom
import PyProof.Draws
import PyProof.EnumMake
import PyProof.DictCompW
import PyProof.ListMulRoad
import PyProof.Rows.SeqMore2
import PyProof.WalkInts
import PyProof.DictRoadsH
import PySem.Challenge.RW_bringhome_k32_whole_no_word_leaves_fewer
namespace PySem.W.Fast
def tw9291164710994348902:=0
def tw14886704406274019529:=0
def tw11275089325815224519:=0
def tw1564418724216976363:=0
def tw14086434697806107838:=0
def tw15654937340866962210:=0
def tw5148515404089910221:=0
def tw15603547035115273510:=0
def tw12627041190825303975:=0
def tw11550560161546106333:=0
def tw16136079253189401984:=0
def tw6489678197567236315:=0
def tw11664781872819599201:=0
def tw1844065141614555484:=0
def tw13735445645581902287:=0
def tw9962513924696183219:=0
def tw12709479396572271228:=0
def tw6620347403614898325:=0
def tw5734651256841770963:=0
def tw14629642700832651508:=0
def tw12675505658435776725:=0
def tw2177126870198582055:=0
def tw16085939107399842348:=0
def tw15010532636571845090:=0
def tw2579556130393094491:=0
def tw4956114995723728484:=0
def tw5473347698221829283:=0
def tw11817276663217998835:=0
def tw15418362623373089411:=0
def tw10592768543802802573:=0
def tw3966909111591340423:=0
def tw9559665541265344872:=0
def tw8781590453838610227:=0
def tw13324483980301326880:=0
def tw5197094168996540985:=0
def tw15847876836097318433:=0
def tw8698016120088494663:=0
def tw2934542590232540431:=0
def tw14398928358056865192:=0
def tw2976382426479628880:=0
end PySem.W.Fast
section
open PySem PySem.Spec PyProof.Rows
theorem zVN : type_of% @wpAny_bind:=@wpAny_bind
theorem zVO : type_of% @Heap.get?_push_of_some:=@Heap.get?_push_of_some
theorem zVP : type_of% @wpAny_pure:=@wpAny_pure
theorem zVQ : type_of% @List.getElem?_eq_some_iff:=@List.getElem?_eq_some_iff
theorem zVR : type_of% @List.getElem?_eq_getElem:=@List.getElem?_eq_getElem
theorem zVS : type_of% @List.getD_eq_getElem?_getD:=@List.getD_eq_getElem?_getD
theorem zVT : type_of% @Nat.le_refl:=@Nat.le_refl
theorem zVU : type_of% @List.getElem?_append_left:=@List.getElem?_append_left
theorem zVV : type_of% @List.size_toArray:=@List.size_toArray
theorem zVW : type_of% @List.length_map:=@List.length_map
theorem zVX : type_of% @Heap.get?_push_size:=@Heap.get?_push_size
theorem zVY : type_of% @Heap.lt_size:=@Heap.lt_size
theorem zVZ : type_of% @List.mem_cons:=@List.mem_cons
theorem zVa : type_of% @List.mem_cons_of_mem:=@List.mem_cons_of_mem
theorem zVb : type_of% @List.mem_cons_self:=@List.mem_cons_self
theorem zVc : type_of% @if_pos:=@if_pos
theorem zVd : type_of% @List.length_append:=@List.length_append
theorem zVe : type_of% @List.mem_map:=@List.mem_map
theorem zVf : type_of% @if_neg:=@if_neg
theorem zVg : type_of% @List.map_cons:=@List.map_cons
theorem zVh : type_of% @List.mem_append_right:=@List.mem_append_right
theorem zVi : type_of% @Nat.ne_of_lt:=@Nat.ne_of_lt
theorem zVj : type_of% @Bool.false_ne_true:=@Bool.false_ne_true
theorem zVk : type_of% @List.getElem?_map:=@List.getElem?_map
theorem zVl : type_of% @List.map_map:=@List.map_map
theorem zVm : type_of% @Nat.lt_of_lt_of_le:=@Nat.lt_of_lt_of_le
theorem zVn : type_of% @List.mem_append:=@List.mem_append
theorem zVo : type_of% @Nat.le_trans:=@Nat.le_trans
theorem zVp : type_of% @List.mem_singleton:=@List.mem_singleton
theorem zVq : type_of% @wpAny_newObj_type:=@wpAny_newObj_type
theorem zVr : type_of% @List.getElem?_set_ne:=@List.getElem?_set_ne
theorem zVs : type_of% @List.not_mem_nil:=@List.not_mem_nil
theorem zVt : type_of% @wpAny_mono:=@wpAny_mono
theorem zVu : type_of% @List.length_cons:=@List.length_cons
theorem zVv : type_of% @List.getElem_mem:=@List.getElem_mem
theorem zVw : type_of% @decide_eq_false:=@decide_eq_false
theorem zVx : type_of% @Bool.and_eq_true:=@Bool.and_eq_true
theorem zVy : type_of% @List.all_eq_true:=@List.all_eq_true
theorem zVz : type_of% @wpAny_callSpecial?_slot:=@wpAny_callSpecial?_slot
theorem zV0 : type_of% @wpAny_call_entry:=@wpAny_call_entry
theorem zV1 : type_of% @List.mem_range:=@List.mem_range
theorem zV2 : type_of% @wpAny_field:=@wpAny_field
theorem zV3 : type_of% @Heap.size_push:=@Heap.size_push
theorem zV4 : type_of% @Heap.get?_update_other:=@Heap.get?_update_other
theorem zV5 : type_of% @Nat.lt_irrefl:=@Nat.lt_irrefl
theorem zV6 : type_of% @Array.length_toList:=@Array.length_toList
theorem zV7 : type_of% @List.append_nil:=@List.append_nil
theorem zV8 : type_of% @Array.getElem?_eq_getElem:=@Array.getElem?_eq_getElem
theorem zV9 : type_of% @Nat.zero_le:=@Nat.zero_le
theorem zWA : type_of% @Heap.get?_update_self:=@Heap.get?_update_self
theorem zWC : type_of% @Nat.lt_succ_of_lt:=@Nat.lt_succ_of_lt
theorem zWD : type_of% @wpAny_seqItems:=@wpAny_seqItems
theorem zWF : type_of% @List.map_append:=@List.map_append
theorem zWG : type_of% @wpAny_holding:=@wpAny_holding
theorem zWH : type_of% @List.getElem?_set_self:=@List.getElem?_set_self
theorem zWI : type_of% @Around.under_plainId:=@Around.under_plainId
theorem zWJ : type_of% @of_decide_eq_true:=@of_decide_eq_true
theorem zWK : type_of% @Nat.lt_succ_self:=@Nat.lt_succ_self
theorem zWL : type_of% @wpAny_standAt:=@wpAny_standAt
theorem zWM : type_of% @PySem.W.mg_none_of:=@PySem.W.mg_none_of
theorem zWN : type_of% @Option.some.inj:=@Option.some.inj
theorem zWO : type_of% @Bool.false_eq_true:=@Bool.false_eq_true
theorem zWP : type_of% @PySem.mem_of_lookup:=@PySem.mem_of_lookup
theorem zWQ : type_of% @Heap.SameBut.update:=@Heap.SameBut.update
theorem zWR : type_of% @List.cons.inj:=@List.cons.inj
theorem zWS : type_of% @codeAny_builtin:=@codeAny_builtin
theorem zWT : type_of% @List.append_assoc:=@List.append_assoc
theorem zWV : type_of% @decide_eq_true:=@decide_eq_true
theorem zWW : type_of% @List.getElem?_eq_none:=@List.getElem?_eq_none
theorem zWX : type_of% @List.getElem?_append_right:=@List.getElem?_append_right
theorem zWY : type_of% @List.mem_filter:=@List.mem_filter
theorem zWZ : type_of% @wpAny_truthy_bool:=@wpAny_truthy_bool
theorem zWa : type_of% @decide_eq_true_eq:=@decide_eq_true_eq
theorem zWb : type_of% @List.nodup_append:=@List.nodup_append
theorem zWc : type_of% @List.mem_append_left:=@List.mem_append_left
theorem zWe : type_of% @Obj.data_mapFields:=@Obj.data_mapFields
theorem zWi : type_of% @or_false:=@or_false
theorem zWk : type_of% @wpAny_rule:=@wpAny_rule
theorem zWl : type_of% @List.length_take:=@List.length_take
theorem zWq : type_of% @PassesOwn.never:=@PassesOwn.never
theorem zWs : type_of% @Nat.ne_of_gt:=@Nat.ne_of_gt
theorem zWv : type_of% @PyProof.Rows.slot_tuple_getitem:=@PyProof.Rows.slot_tuple_getitem
theorem zWw : type_of% @List.getElem?_set:=@List.getElem?_set
theorem zWz : type_of% @Nat.mul_le_mul:=@Nat.mul_le_mul
theorem zW0 : type_of% @PySem.W.kia_one:=@PySem.W.kia_one
theorem zW3 : type_of% @wpAny_pyIter_tuple:=@wpAny_pyIter_tuple
theorem zW5 : type_of% @Nat.le_succ:=@Nat.le_succ
theorem zW9 : type_of% @List.find?_cons:=@List.find?_cons
theorem zXA : type_of% @congrArg:=@congrArg
theorem zXH : type_of% @wpAny_comprehension_free:=@wpAny_comprehension_free
theorem zXK : type_of% @List.length_range:=@List.length_range
theorem zXS : type_of% @List.lookup_cons:=@List.lookup_cons
theorem zXX : type_of% @List.pairwise_cons:=@List.pairwise_cons
end
set_option Elab.async false
set_option linter.all false
set_option maxRecDepth 100000
set_option genSizeOf false
set_option genInjectivity false
noncomputable section
namespace L2
open PySem PySem.Spec PyProof.Rows
abbrev Key:=Sum Int Str
def zIw : Key -> Value -> Bool
 | .inl k,v => Value.isInt k v
 | .inr x,v => Value.isStrOf x v
def zU9 (w : World) : Key -> Int
 | .inl k => hashInt k
 | .inr x => hashStr w x
theorem zAn : ∀ {k : Key} {v : Value},zIw k v = true -> (∃ i t,k = Sum.inl i /\ v = Value.int i t) \/ (∃ x t,k = Sum.inr x /\ v = Value.str x t)
 | .inl i,v,h => by
  obtain ⟨t,e⟩:=Value.isInt_shape (k:=i) (v:=v) h;exact .inl ⟨i,t,rfl,e⟩
 | .inr x,v,h => by
  obtain ⟨t,e⟩:=Value.isStrOf_shape (x:=x) (v:=v) h;exact .inr ⟨x,t,rfl,e⟩
theorem zNx (i : Int) (t : Tok) : zIw (.inl i) (.int i t) = true:=by simp [zIw,Value.isInt]
theorem zNn (x : Str) (t : Tok) : zIw (.inr x) (.str x t) = true:=by simp [zIw,Value.isStrOf]
theorem zSt (a b : Int) : decide ((Sum.inl a : Key) = Sum.inl b) = (a == b):=by
 by_cases e : a = b
 ·subst e; simp
 ·have h : ¬ (Sum.inl a : Key) = Sum.inl b:=fun q => e (Sum.inl.inj q);rw [zVw h];exact (beq_eq_false_iff_ne.mpr e).symm
theorem zTb (a b : Str) : decide ((Sum.inr a : Key) = Sum.inr b) = decide (a = b):=by
 by_cases e : a = b
 ·subst e; simp
 ·have h : ¬ (Sum.inr a : Key) = Sum.inr b:=fun q => e (Sum.inr.inj q);rw [zVw h,zVw e]
theorem zSp (a : Int) (b : Str) : decide ((Sum.inl a : Key) = Sum.inr b) = false:=zVw (fun q => nomatch q)
theorem zTE (a : Str) (b : Int) : decide ((Sum.inr a : Key) = Sum.inl b) = false:=zVw (fun q => nomatch q)
def zAl (prog : Program) (w : World) : PySem.KeyKind prog w Key where
 is:=zIw
 hash:=zU9 w
 inj:=fun v a b ha hb => by
  rcases zAn ha with ⟨i,t,rfl,rfl⟩ | ⟨x,t,rfl,rfl⟩
  ·rcases zAn hb with ⟨j,u,rfl,e⟩ | ⟨y,u,rfl,e⟩
   ·injection e with e1 _; rw [e1]
   ·exact nomatch e
  ·rcases zAn hb with ⟨j,u,rfl,e⟩ | ⟨y,u,rfl,e⟩
   ·exact nomatch e
   ·injection e with e1 _; rw [e1]
 byValue:=fun k v h => by
  rcases zAn h with ⟨i,t,rfl,rfl⟩ | ⟨x,t,rfl,rfl⟩ <;> rfl
 pyHash:=fun hv h => by
  rcases zAn hv with ⟨i,t,rfl,rfl⟩ | ⟨x,t,rfl,rfl⟩
  ·exact wpAny_pyHash_int h
  ·exact wpAny_pyHash_str h
 eqBool:=fun hu hv h => by
  rcases zAn hu with ⟨i,t,rfl,rfl⟩ | ⟨x,t,rfl,rfl⟩
  ·rcases zAn hv with ⟨j,u,rfl,rfl⟩ | ⟨y,u,rfl,rfl⟩
   ·rw [zSt] at h; exact wpAny_eqBool_int h
   ·rw [zSp] at h; exact SeqAt.EqAt.int_str i t y u _ _ _ _ h
  ·rcases zAn hv with ⟨j,u,rfl,rfl⟩ | ⟨y,u,rfl,rfl⟩
   ·rw [zTE] at h; exact SeqAt.EqAt.str_int x t j u _ _ _ _ h
   ·rw [zTb] at h; exact wpAny_eqBool_str h
 «strs»:=fun k x t v h => by
  rcases zAn h with ⟨i,u,rfl,e⟩ | ⟨y,u,rfl,e⟩
  ·exact nomatch e
  ·injection e with e1 _
   subst e1
   cases v <;> rfl
theorem zKv (prog : Program) (w : World) (i : Int) (t : Tok) : (zAl prog w).is (.inl i) (.int i t) = true:=zNx i t
theorem zKp (prog : Program) (w : World) (x : Str) (t : Tok) : (zAl prog w).is (.inr x) (.str x t) = true:=zNn x t
set_option genInjectivity true in
inductive V where
 | non | bl (b : Bool) | int (i : Int) | str (x : Str) | byt (b : Array UInt8) | flt (b : UInt64) | ref (a : Addr) | ty (n : String)
 deriving DecidableEq
def zv : V -> Value -> Prop
 | .non,u => u = Value.none
 | .bl b,u => u = Value.bool b
 | .int i,u => ∃ t,u = Value.int i t
 | .str x,u => ∃ t,u = Value.str x t
 | .byt b,u => ∃ t,u = Value.bytes b t
 | .flt b,u => ∃ t,u = Value.float b t
 | .ref a,u => u = Value.ref a
 | .ty n,u => u = Value.type n
abbrev zo : List V -> List Value -> Prop:=Paired zv
theorem zo.length {xs : List V} {us : List Value} (r : zo xs us) : xs.length = us.length:=Paired.length r
theorem zo.get : ∀ {xs : List V} {us : List Value} {i : Nat} {x : V},zo xs us -> xs[i]? = some x -> ∃ u,us[i]? = some u /\ zv x u
 | _,_,_,_,.nil,e => by simp at e
 | _,_,0,_,.cons r _,e => by simp at e; subst e; exact ⟨_,rfl,r⟩
 | _,_,i + 1,x,.cons _ t,e => by
  obtain ⟨u,h1,h2⟩:=zo.get (i:=i) (x:=x) t (by simpa using e);exact ⟨u,by simpa using h1,h2⟩
theorem zo.set {x : V} {u : Value} (r : zv x u) : ∀ {xs : List V} {us : List Value} (i : Nat),zo xs us -> zo (xs.set i x) (us.set i u)
 | _,_,_,.nil => .nil
 | _,_,0,.cons _ t => .cons r t
 | _,_,i + 1,.cons q t => .cons q (zo.set r i t)
theorem zo.append : ∀ {xs ys : List V} {us ws : List Value},zo xs us -> zo ys ws -> zo (xs ++ ys) (us ++ ws)
 | _,_,_,_,.nil,s => s
 | _,_,_,_,.cons r t,s => .cons r (zo.append t s)
theorem zo.take : ∀ {xs : List V} {us : List Value} (n : Nat),zo xs us -> zo (xs.take n) (us.take n)
 | _,_,0,_ => .nil
 | _,_,_ + 1,.nil => .nil
 | _,_,n + 1,.cons r t => .cons r (zo.take n t)
theorem zo.drop : ∀ {xs : List V} {us : List Value} (n : Nat),zo xs us -> zo (xs.drop n) (us.drop n)
 | _,_,0,r => r
 | _,_,_ + 1,.nil => .nil
 | _,_,n + 1,.cons _ t => zo.drop n t
def zF9 : Option V -> Option Value -> Prop
 | some v,some u => zv v u
 | none,none => True
 | _,_ => False
def KV {κ : Type} : List (κ × V) -> List (κ × Value) -> Prop:=Paired fun (p : κ × V) (q : κ × Value) => p.1 = q.1 /\ zv p.2 q.2
def kV : Key -> V
 | .inl i => .int i
 | .inr x => .str x
set_option genInjectivity true in
inductive HO where
 | lst (xs : List V)
 | tup (xs : List V)
 | dK (kvs : List (Key × V)) | dT (kvs : List (List Key × V))
 | set (S : Int -> Bool) (n : Nat)
 | ins (C dx : Addr) (fs : List (Str × V))
 | own (x : Addr)
 | xd (fs : List (Str × V))
 | met (f x : Addr)
 | rng (lo hi : Int)
 | frz (o : Obj) (u : HO)
 | tbl (ps : Array Value)
 | ext (φ : Heap -> Prop)
abbrev Hp:=Addr -> Option HO
def upd (H : Hp) (a : Addr) (o : HO) : Hp:=fun b => if b = a then some o else H b
theorem zAi {H : Hp} {a : Addr} {o : HO} : upd H a o a = some o:=by unfold upd; rw [zVc rfl]
theorem zh {H : Hp} {a b : Addr} {o : HO} (h : b ≠ a) : upd H a o b = H b:=by unfold upd; rw [zVf h]
theorem zJO {H : Hp} {a b : Addr} {o u : HO} (h : H a = some o) (h' : H b = some u) (d : o ≠ u) : a ≠ b:=by
 intro e; subst e; rw [h] at h'; exact d (zWN h')
theorem zAO {H : Hp} {a b : Addr} {o : HO} (h : H a = some o) (h' : H b = none) : a ≠ b:=by
 intro e; subst e; rw [h] at h'; cases h'
def zCo (h : Heap) (a : Addr) (items : Array Value) : Prop:=∃ o,h.get? a = some o /\ o.cls = .type "tuple" /\ (∃ n,o.data = .seq items n) /\ o.dict = none
theorem zCo.tup {h : Heap} {a : Addr} {items : Array Value} (x : zCo h a items) : IsTup h a items:=let ⟨o,e,c,d,_⟩:=x; ⟨o,e,c,d⟩
theorem zCo.lt {h : Heap} {a : Addr} {items : Array Value} (x : zCo h a items) : a < h.objs.size:=let ⟨_,e,_⟩:=x; zVY e
theorem zCo.new (h : Heap) (items : Array Value) : zCo (h.push { cls:=.type "tuple", data:=.seq items }) h.objs.size items:=⟨_,zVX _ rfl,rfl,⟨_,rfl⟩,rfl⟩
section
variable (P : Program) (w : World)
def zAh (H : Hp) (h : Heap) (a : Addr) : HO -> Prop
 | .lst xs => xs.length <= sizeLine /\ ∃ (its : List Value) (n : Nat),zo xs its /\ h.get? a = some { cls:=.type "list", data:=.seq its.toArray n }
 | .tup xs => xs.length <= sizeLine /\ ∃ its : List Value,zo xs its /\ zCo h a its.toArray
 | .dK kvs => kvs.length <= sizeLine /\ (a == sysModules) = false /\ ∃ vs,KV kvs vs /\ h.DictOf (zAl P w) a vs
 | .dT kvs => kvs.length <= sizeLine /\ (a == sysModules) = false /\ ∃ xs : List (List Key × Addr × Value),
   Paired (fun (p : List Key × V) (q : List Key × Addr × Value) => p.1 = q.1 /\ H q.2.1 = some (.tup (p.1.map kV)) /\ zv p.2 q.2.2) kvs xs /\
   ∃ o es ep,h.get? a = some o /\ o.ExactDict /\ o.data = .dict es ep /\ es.toList = xs.map (entryOfKey (tupleKind (zAl P w))) /\ (xs.map (·.1)).Nodup
 | .set S n => h.SetOf (intKind P w) a S n
 | .ins C dx fs => H dx = some (.own a) /\ fs.length <= 1000 /\ dx ≠ a /\ h.get? a = some (PySem.W.instObj C dx) /\
   ∃ mA,h.Ns1 dx mA /\ (∀ f,zF9 (fs.lookup f) (mA f)) /\ PySem.Within mA (fs.map (·.1))
 | .own _ => ∃ o,h.get? a = some o
 | .xd fs => ∃ mA,h.Ns1 a mA /\ ∀ f,zF9 (fs.lookup f) (mA f)
 | .rng lo hi => ∃ t u v,h.get? a = some { cls:=.type "range", data:=.fields #[.int lo t,.int hi u,.int 1 v] }
 | .frz o u => h.get? a = some o /\ zAh H h a u
 | .tbl ps => h.get? a = some { cls:=.none,data:=.fields ps }
 | .met f x => h.get? a = some (PySem.W.methodObj (.ref f) (.ref x))
 | .ext φ => φ h /\ (∃ o,h.get? a = some o) /\ ∀ h1 h2 : Heap,φ h1 -> (∀ o,h1.get? a = some o -> h2.get? a = some o) -> φ h2
def HOk (H : Hp) (h : Heap) : Prop:=∀ a o,H a = some o -> zAh P w H h a o
end
section
variable {P : Program} {w : World} {H H' : Hp} {h h' : Heap} {a : Addr} {o : HO}
theorem zAh.lt (x : zAh P w H h a o) : a < h.objs.size:=by
 cases o with
 | lst xs => obtain ⟨_,_,_,_,e⟩:=x; exact zVY e
 | tup xs => obtain ⟨_,_,_,p⟩:=x; exact p.lt
 | dK kvs => obtain ⟨_,_,_,_,o,_,_,e,_⟩:=x; exact zVY e
 | dT kvs => obtain ⟨_,_,_,_,o,_,_,e,_⟩:=x; exact zVY e
 | set S n => obtain ⟨o,_,_,_,e,_⟩:=x; exact zVY e
 | ins C dx fs => obtain ⟨_,_,_,e,_⟩:=x; exact zVY e
 | own y => obtain ⟨_,e⟩:=x; exact zVY e
 | xd fs => obtain ⟨_,⟨_,_,_,e,_⟩,_⟩:=x; exact zVY e
 | rng lo hi => obtain ⟨_,_,_,e⟩:=x; exact zVY e
 | frz ob u => obtain ⟨e,_⟩:=x; exact zVY e
 | tbl ps => exact zVY (show h.get? a = some _ from x)
 | met f y => exact zVY (show h.get? a = some _ from x)
 | ext φ => obtain ⟨_,⟨_,e⟩,_⟩:=x; exact zVY e
theorem Paired.mapP {α β : Type} {F G : α -> β -> Prop} : ∀ {l₁ : List α} {l₂ : List β},Paired F l₁ l₂ -> (∀ a b,F a b -> G a b) -> Paired G l₁ l₂
 | _,_,.nil,_ => .nil
 | _,_,.cons r t,f => .cons (f _ _ r) (Paired.mapP t f)
theorem zAh.stay (x : zAh P w H h a o) (k : ∀ b u,(b = a \/ H b = some (.own a)) -> h.get? b = some u -> h'.get? b = some u)
  (ho : ∀ b,H b = some (.own a) -> H' b = some (.own a)) (ht : ∀ b xs,H b = some (.tup xs) -> H' b = some (.tup xs)) : zAh P w H' h' a o:=by
 induction o with
 | lst xs => obtain ⟨z,its,n,r,e⟩:=x; exact ⟨z,its,n,r,k _ _ (.inl rfl) e⟩
 | tup xs => obtain ⟨z,its,r,ob,e,c⟩:=x; exact ⟨z,its,r,ob,k _ _ (.inl rfl) e,c⟩
 | dK kvs => obtain ⟨z,y,vs,r,ob,es,ep,e,c⟩:=x; exact ⟨z,y,vs,r,ob,es,ep,k _ _ (.inl rfl) e,c⟩
 | dT kvs =>
  obtain ⟨z,y,xs,r,ob,es,ep,e,c⟩:=x;exact ⟨z,y,xs,Paired.mapP r fun p q z => ⟨z.1,ht _ _ z.2.1,z.2.2⟩,ob,es,ep,k _ _ (.inl rfl) e,c⟩
 | set S n => obtain ⟨ob,es,ep,t,e,c⟩:=x; exact ⟨ob,es,ep,t,k _ _ (.inl rfl) e,c⟩
 | ins C dx fs =>
  obtain ⟨d,z,ne,e,mA,⟨od,es,ep,e2,c⟩,r⟩:=x;exact ⟨ho _ d,z,ne,k _ _ (.inl rfl) e,mA,⟨od,es,ep,k _ _ (.inr d) e2,c⟩,r⟩
 | own y => obtain ⟨ob,e⟩:=x; exact ⟨ob,k _ _ (.inl rfl) e⟩
 | xd fs => obtain ⟨mA,⟨od,es,ep,e,c⟩,r⟩:=x; exact ⟨mA,⟨od,es,ep,k _ _ (.inl rfl) e,c⟩,r⟩
 | rng lo hi => obtain ⟨t,u,v,e⟩:=x; exact ⟨t,u,v,k _ _ (.inl rfl) e⟩
 | frz ob u ih => obtain ⟨e,q⟩:=x; exact ⟨k _ _ (.inl rfl) e,ih q⟩
 | tbl ps =>
  have e : h.get? a = some { cls:=.none,data:=.fields ps }:=x;show h'.get? a = some { cls:=.none,data:=.fields ps };exact k a _ (.inl rfl) e
 | met f y =>
  have e : h.get? a = some (PySem.W.methodObj (.ref f) (.ref y)):=x;show h'.get? a = some (PySem.W.methodObj (.ref f) (.ref y));exact k a _ (.inl rfl) e
 | ext φ => obtain ⟨p,⟨o,e⟩,st⟩:=x; exact ⟨st _ _ p fun o q => k _ _ (.inl rfl) q,⟨o,k _ _ (.inl rfl) e⟩,st⟩
theorem HOk.lt (x : HOk P w H h) (e : H a = some o) : a < h.objs.size:=(x a o e).lt
theorem HOk.fresh (x : HOk P w H h) (e : h.objs.size <= a) : H a = none:=by
 cases q : H a with
 | none => rfl
 | some u => exact absurd (zVm (x.lt q) e) (zV5 _)
theorem HOk.kept (x : HOk P w H h) (k : ∀ b u,h.get? b = some u -> h'.get? b = some u) : HOk P w H h':=fun a o e =>
 (x a o e).stay (fun b u _ q => k b u q) (fun _ q => q) fun _ _ q => q
theorem HOk.laid (x : HOk P w H h) (k : ∀ b u,h.get? b = some u -> h'.get? b = some u) (hp : h.objs.size <= a) (new : zAh P w (upd H a o) h' a o) : HOk P w (upd H a o) h':=fun b u e => by
 have hn:=x.fresh hp;by_cases hb : b = a
 ·subst hb; rw [zAi] at e; cases e; exact new
 ·rw [zh hb] at e;exact (x b u e).stay (fun c v _ q => k c v q) (fun c q => by rw [zh (zAO q hn)]; exact q) fun c xs q => by rw [zh (zAO q hn)]; exact q
end
def Rd (H : Hp) (a : Addr) (u : HO) : Prop:=H a = some u \/ ∃ o,H a = some (.frz o u)
theorem Rd.ok {P : Program} {w : World} {H : Hp} {h : Heap} {a : Addr} {u : HO} (r : Rd H a u) (x : HOk P w H h) : zAh P w H h a u:=by
 rcases r with r | ⟨o,r⟩
 ·exact x a u r
 ·obtain ⟨_,q⟩:=x a _ r;exact q
def Mut : Option HO -> Prop
 | some (.lst _) => True
 | some (.dK _) => True
 | some (.dT _) => True
 | some (.set _ _) => True
 | some (.ins _ _ _) => True
 | some (.ext _) => True
 | _ => False
section
variable {P : Program} {w : World} {H : Hp} {h h' : Heap} {x e : Addr} {o' : HO}
theorem HOk.write (ok : HOk P w H h) (mu : Mut (H x)) (he : e = x \/ H e = some (.own x)) (k : ∀ b u,b ≠ e -> h.get? b = some u -> h'.get? b = some u) (heo : ∃ u,h'.get? e = some u)
  (new : zAh P w (upd H x o') h' x o') : HOk P w (upd H x o') h':=fun b u q => by
 have nown : ∀ c y,H c = some (.own y) -> c ≠ x:=fun c y r z => by subst z; rw [r] at mu; exact mu
 have ntup : ∀ c xs,H c = some (.tup xs) -> c ≠ x:=fun c xs r z => by subst z; rw [r] at mu; exact mu
 by_cases hb : b = x
 ·subst hb; rw [zAi] at q; cases q; exact new
 ·rw [zh hb] at q;by_cases hbe : b = e
  ·have q' : H b = some (.own x):=by
    rcases he with z | z
    ·exact absurd (hbe.trans z) hb
    ·rw [hbe]; exact z
   rw [q] at q'; cases q';obtain ⟨v,hv⟩:=heo;exact ⟨v,by rw [hbe]; exact hv⟩
  ·refine (ok b u q).stay (fun c v hc r => k c v ?_ r) (fun c r => by rw [zh (nown c b r)]; exact r) fun c xs r => by rw [zh (ntup c xs r)]; exact r
   rcases hc with rfl | hc
   ·exact hbe
   ·rintro rfl;rcases he with z | z
    ·exact nown c b hc z
    ·rw [hc] at z; cases z; exact hb rfl
end
structure Un (fs ex : List Addr) (H H' : Hp) (h h' : Heap) : Prop where
 keep : ∀ b o,h.get? b = some o -> H b = none -> b ∉ fs -> b ∉ ex -> h'.get? b = some o
 slot : ∀ b o,h.get? b = some o -> H b = none -> b ∈ fs -> b ∉ ex -> ∃ sl,h'.get? b = some { o with slots:=sl }
 free : ∀ b o,h.get? b = some o -> H b = none -> b ∉ ex -> H' b = none
 there : ∀ b o,h.get? b = some o -> b ∉ ex -> ∃ o',h'.get? b = some o'
 tups : ∀ b xs,H b = some (.tup xs) -> H' b = some (.tup xs)
 frzs : ∀ b o u,H b = some (.frz o u) -> H' b = some (.frz o u)
 tbls : ∀ b ps,H b = some (.tbl ps) -> ∃ more,H' b = some (.tbl (ps ++ more))
section
variable {fs fs' ex ex' : List Addr} {H H1 H2 : Hp} {h h1 h2 h' : Heap} {a x e : Addr} {o : HO}
theorem Un.any (u : Un fs ex H H1 h h1) {b : Addr} {ob : Obj} (q : h.get? b = some ob) (n : H b = none) (hx : b ∉ ex) : ∃ sl,h1.get? b = some { ob with slots:=sl }:=by
 by_cases hb : b ∈ fs
 ·exact u.slot b ob q n hb hx
 ·exact ⟨ob.slots,u.keep b ob q n hb hx⟩
theorem Un.kept (k : ∀ b u,h.get? b = some u -> h'.get? b = some u) : Un fs ex H H h h' :=
 ⟨fun b ob q _ _ _ => k b ob q,fun b ob q _ _ _ => ⟨ob.slots,k b ob q⟩,fun _ _ _ n _ => n,fun b ob q _ => ⟨ob,k b ob q⟩,fun _ _ q => q,fun _ _ _ q => q,fun _ ps q => ⟨#[],by rw [q]; simp⟩⟩
theorem Un.refl : Un fs ex H H h h:=Un.kept fun _ _ q => q
theorem Un.laid (k : ∀ b u,h.get? b = some u -> h'.get? b = some u) (hp : h.objs.size <= a) (hn : H a = none) : Un fs ex H (upd H a o) h h' where
 keep:=fun b u q _ _ _ => k b u q;slot:=fun b u q _ _ _ => ⟨u.slots,k b u q⟩;free:=fun b u q n _ => by rw [zh (zVi (zVm (zVY q) hp))]; exact n
 there:=fun b u q _ => ⟨u,k b u q⟩;tups:=fun b xs q => by rw [zh (zAO q hn)]; exact q
 frzs:=fun b u xs q => by rw [zh (zAO q hn)]; exact q
 tbls:=fun b ps q => ⟨#[],by rw [zh (zAO q hn),q]; simp⟩
theorem Un.write (mu : Mut (H x)) (he : e = x \/ H e = some (.own x)) (k : ∀ b u,b ≠ e -> h.get? b = some u -> h'.get? b = some u) (heo : ∃ u,h'.get? e = some u) : Un fs ex H (upd H x o) h h':=by
 have hx : ∀ b,H b = none -> b ≠ x:=fun b n z => by subst z; rw [n] at mu; exact mu
 have hb : ∀ b,H b = none -> b ≠ e:=fun b n z => by
  subst z;rcases he with r | r
  ·exact hx b n r
  ·rw [n] at r; cases r
 have hm : ∀ b u,H b = some u -> ¬ Mut (some u) -> b ≠ x:=fun b u q nm z => by subst z; rw [q] at mu; exact nm mu
 refine ⟨fun b u q n _ _ => k b u (hb b n) q,fun b u q n _ _ => ⟨u.slots,k b u (hb b n) q⟩,fun b u q n _ => by rw [zh (hx b n)]; exact n,fun b u q _ => ?_,
  fun b xs q => by rw [zh (hm b _ q fun z => z)]; exact q,fun b u xs q => by rw [zh (hm b _ q fun z => z)]; exact q,fun b ps q => ⟨#[],by rw [zh (hm b _ q fun z => z),q]; simp⟩⟩
 by_cases hbe : b = e
 ·subst hbe; exact heo
 ·exact ⟨u,k b u hbe q⟩
end
def trk (h : Heap) (H : Hp) : List Addr:=(List.range h.objs.size).filter fun a => (H a).isSome
def zJ9 (h : Heap) (H : Hp) : Heap:=PySem.W.hideAll h (trk h H)
theorem zNh (h : Heap) (H : Hp) : (zJ9 h H).objs.size = h.objs.size:=PySem.W.hideAll_size _ _
theorem zOx {h : Heap} {H : Hp} {b : Addr} {o : Obj} (e : h.get? b = some o) (n : H b = none) : (zJ9 h H).get? b = some o :=
 PySem.W.hideAll_get _ e fun hm => by
  have q : (H b).isSome = true:=(zWY.mp hm).2;rw [n] at q; simp at q
theorem zRE {h : Heap} {H : Hp} {b : Addr} {o : Obj} (e : (zJ9 h H).get? b = some o) : h.get? b = some o /\ H b = none:=by
 have e' : h.get? b = some o:=PySem.W.of_hideAll (trk h H) e;refine ⟨e',?_⟩;cases q : H b with
 | none => rfl
 | some x =>
  have hm : b ∈ trk h H:=zWY.mpr ⟨zV1.mpr (zVY e'),by simp [q]⟩;have z : (zJ9 h H).get? b = none:=PySem.W.hideAll_none (trk h H) hm;rw [z] at e; cases e
structure Mod (K : PySem.W.Frag) (mg : Str -> Option Value) (base : Heap) : Prop where
 kin : K.In base
 glob : base.Ns mainGlobals mg
 blt : ∃ mb,base.Ns builtinsNs mb /\ ∀ x : Str,x ≠ "__name__" -> mb x = bootBuiltins x
 nolimit : base.NoLimit
structure Cx where
 prog : Program
 w : World
 K : PySem.W.Frag
 mg : Str -> Option Value
 base : Heap
 A : Around
 N : List Str
 s₀ : Shared
 H₀ : Hp
 env : Env
 outer : List Env
 stack : List Env
 ex : List Addr
 fn : Str -> Bool
 calm : Bool
 pn : List (Addr × Obj)
 xe : Value -> Shared -> Prop
def frs (l : List Env) : List Addr:=l.filterMap (·.frame)
abbrev Cx.fs (X : Cx) : List Addr:=frs X.outer
def Vis (sc : Scope) (x : Str) : Prop:=sc.names.lookup x = some .local \/ sc.names.lookup x = some .cell \/ sc.names.lookup x = some .free
def Loc (sc : Scope) (x : Str) : Prop:=sc.names.lookup x = some .local \/ sc.names.lookup x = some .cell
def zU3 (env : Env) (h : Heap) (m : Str -> Option Value) (x : Str) (u : Value) : Prop :=
 (env.kindOf x = some .local /\ m x = some u) \/ ((env.kindOf x = some .cell \/ env.kindOf x = some .free) /\ ∃ c,env.cells.lookup x = some c /\ h.IsCell c (some u))
structure Cx.Ok (X : Cx) : Prop where
 mod : Mod X.K X.mg X.base
 kind : X.env.scope.kind = .function
 glob : X.env.globals = mainGlobals
 blt : X.env.builtins = builtinsNs
 above : X.s₀.heap.objs.size <= X.env.locals
 inj : ∀ x y c,X.env.cells.lookup x = some c -> X.env.cells.lookup y = some c -> x = y
 has : ∀ x,(X.env.kindOf x = some .cell \/ X.env.kindOf x = some .free) -> ∃ c,X.env.cells.lookup x = some c
 cab : ∀ x c,X.fn x = true -> X.env.cells.lookup x = some c -> X.s₀.heap.objs.size <= c
 hd : X.calm = true -> X.A.handled = none
 frames : X.A.frames = some X.stack
 stk : X.stack = X.outer \/ (X.stack = X.env :: X.outer /\ X.env.frame = some X.env.locals)
 exf : ∀ b ∈ X.ex,b ≠ X.env.locals /\ ∀ x c,X.env.cells.lookup x = some c -> c ≠ b
 bs : ∀ b o,X.base.get? b = some o -> X.s₀.heap.get? b = some o /\ X.H₀ b = none
 bsz : X.base.objs.size <= X.s₀.heap.objs.size
 noex : ∀ b o,X.base.get? b = some o -> b ∉ X.ex
 exfs : ∀ b ∈ X.ex,b ∉ X.fs
 funs : X.s₀.heap.FunFrames X.base X.outer
 frf : ∀ b ∈ X.fs,X.H₀ b = none
structure Inv (X : Cx) (zB : List (Addr × Obj)) (σ : List (Option V)) (H : Hp) (s : Shared) : Prop where
 ok : X.Ok
 os : s.os = X.s₀.os
 bare : AllBare s.gens
 base : Un X.fs X.ex X.H₀ H X.s₀.heap s.heap
 loc : ∃ m,s.heap.Ns X.env.locals m /\ ∀ (i : Nat) (x : Str) (v : V),X.N[i]? = some x -> σ[i]? = some (some v) -> Vis X.env.scope x -> ∃ u,zv v u /\ zU3 X.env s.heap m x u
 cell : ∀ x c,X.env.cells.lookup x = some c -> ∃ v,s.heap.IsCell c v
 free : H X.env.locals = none
 freeC : ∀ x c,X.env.cells.lookup x = some c -> H c = none
 pin : ∀ p ∈ X.pn ++ zB,s.heap.get? p.1 = some p.2 /\ H p.1 = none /\ p.1 ≠ X.env.locals /\ p.1 ∉ X.fs /\ ∀ v,p.2.data ≠ .cell v
 hok : HOk X.prog X.w H s.heap
 len : σ.length = X.N.length
section
variable {X : Cx} {zB : List (Addr × Obj)} {σ : List (Option V)} {H H' : Hp} {s : Shared} {h' : Heap}
theorem Cx.Ok.nofr (ok : X.Ok) {b : Addr} {o : Obj} (e : X.base.get? b = some o) : b ∉ X.fs:=fun hb => by
 have:=(ok.funs.mem hb).1;rw [e] at this; cases this
theorem Inv.bs (I : Inv X zB σ H s) : ∀ b o,X.base.get? b = some o -> s.heap.get? b = some o /\ H b = none:=fun b o e =>
 ⟨I.base.keep b o (I.ok.bs b o e).1 (I.ok.bs b o e).2 (I.ok.nofr e) (I.ok.noex b o e),I.base.free b o (I.ok.bs b o e).1 (I.ok.bs b o e).2 (I.ok.noex b o e)⟩
theorem Inv.bk (I : Inv X zB σ H s) : ∀ b o,X.base.get? b = some o -> s.heap.get? b = some o:=fun b o e => (I.bs b o e).1
theorem Inv.mod (I : Inv X zB σ H s) : Mod X.K X.mg X.base:=I.ok.mod
theorem Inv.kIn (I : Inv X zB σ H s) : X.K.In s.heap:=I.ok.mod.kin.keeps I.bk
theorem Inv.lt (I : Inv X zB σ H s) : X.env.locals < s.heap.objs.size:=let ⟨_,hn,_⟩:=I.loc; hn.lt
theorem Inv.sz (I : Inv X zB σ H s) : X.s₀.heap.objs.size <= s.heap.objs.size:=zVo I.ok.above (Nat.le_of_lt I.lt)
theorem Inv.nofs (I : Inv X zB σ H s) {a : Addr} (h : s.heap.objs.size <= a) : a ∉ X.fs:=fun hb => by
 obtain ⟨_,o,ho,_⟩:=I.ok.funs.mem hb;exact absurd (zVm (zVY ho) (zVo I.sz h)) (zV5 _)
theorem Inv.cne (I : Inv X zB σ H s) : ∀ x c,X.env.cells.lookup x = some c -> c ≠ X.env.locals:=fun x c e z => by
 obtain ⟨v,o,ho,hd⟩:=I.cell x c e;obtain ⟨m,⟨o',es,ep,ho',hd',_⟩,_⟩:=I.loc;rw [z,ho'] at ho; cases ho; rw [hd'] at hd; cases hd
theorem Inv.funs (I : Inv X zB σ H s) : s.heap.FunFrames X.base X.outer:=by
 have all : ∀ (l : List Env),(∀ b ∈ frs l,b ∈ X.fs) -> X.s₀.heap.FunFrames X.base l -> s.heap.FunFrames X.base l:=by
  intro l;induction l with
  | nil => intro _ _; trivial
  | cons env r ih =>
   intro hs hl;obtain ⟨hk,⟨L,o,hf,hn,ho,hd⟩,hr⟩:=hl;have hL : L ∈ X.fs:=hs L (by unfold frs; rw [List.filterMap_cons,hf]; exact zVb);obtain ⟨sl,e⟩:=I.base.slot L o ho (I.ok.frf L hL) hL fun z => I.ok.exfs L z hL;exact ⟨hk,⟨L,_,hf,hn,e,hd⟩,ih (fun b hb => hs b (by unfold frs; rw [List.filterMap_cons,hf]; exact zVa _ hb)) hr⟩
 exact all X.outer (fun _ hb => hb) I.ok.funs
theorem Inv.stack (I : Inv X zB σ H s) : s.heap.FunFrames X.base X.stack:=by
 rcases I.ok.stk with e | ⟨e,hf⟩
 ·rw [e]; exact I.funs
 ·rw [e];obtain ⟨m,hn,_⟩:=I.loc;refine .cons (by rw [I.ok.kind]; decide) hf hn ?_ I.funs;exact Heap.get?_none_of_le (zVo I.ok.bsz I.ok.above)
theorem Inv.stkSub (I : Inv X zB σ H s) : ∀ b ∈ frs X.stack,b ∈ X.env.locals :: X.fs:=fun b hb => by
 rcases I.ok.stk with e | ⟨e,hf⟩
 ·rw [e] at hb; exact zVa _ hb
 ·rw [e] at hb;unfold frs at hb;rw [List.filterMap_cons,hf] at hb;exact hb
theorem Inv.stkFree (I : Inv X zB σ H s) : ∀ b ∈ frs X.stack,H b = none:=fun b hb => by
 rcases zVZ.mp (I.stkSub b hb) with e | hb
 ·rw [e]; exact I.free
 ·obtain ⟨_,o,ho,_⟩:=I.ok.funs.mem hb;exact I.base.free b o ho (I.ok.frf b hb) fun z => I.ok.exfs b z hb
theorem Inv.step {g' : Array GenState} {t' : Nat} {d' : Drawn} {ch : List Addr} (I : Inv X zB σ H s)
  (hch : ∀ b ∈ ch,(b ∈ X.ex \/ X.s₀.heap.objs.size <= b) /\ b ≠ X.env.locals /\ (∀ x c,X.env.cells.lookup x = some c -> c ≠ b) /\ ∀ p ∈ X.pn ++ zB,p.1 ≠ b)
  (keep : ∀ b o,b ≠ X.env.locals -> b ∉ X.fs -> b ∉ ch -> s.heap.get? b = some o -> H b = none -> h'.get? b = some o)
  (slot : ∀ b o,b ≠ X.env.locals -> b ∈ X.fs -> b ∉ ch -> s.heap.get? b = some o -> H b = none -> ∃ sl,h'.get? b = some { o with slots:=sl }) (free : ∀ b o,b ∉ ch -> s.heap.get? b = some o -> H b = none -> H' b = none)
  (there : ∀ b o,b ∉ ch -> s.heap.get? b = some o -> ∃ o',h'.get? b = some o')
  (tups : ∀ b xs,H b = some (.tup xs) -> H' b = some (.tup xs)) (frzs : ∀ b o u,H b = some (.frz o u) -> H' b = some (.frz o u)) (tbls : ∀ b ps,H b = some (.tbl ps) -> ∃ more,H' b = some (.tbl (ps ++ more)))
  (ns : ∀ m,s.heap.Ns X.env.locals m -> h'.Ns X.env.locals m) (hok : HOk X.prog X.w H' h') (hg : AllBare g') :
  Inv X zB σ H' { s with heap:=h',gens:=g',drawn:=d',toks:=t' }:=by
 have neL : ∀ b o,X.s₀.heap.get? b = some o -> b ≠ X.env.locals:=fun b o e => zVi (zVm (zVY e) I.ok.above);have neC : ∀ b o,X.s₀.heap.get? b = some o -> b ∉ X.ex -> b ∉ ch:=fun b o e hx hb => by
  rcases (hch b hb).1 with z | z
  ·exact hx z
  ·exact absurd (zVm (zVY e) z) (zV5 _)
 have cellK : ∀ x c,X.env.cells.lookup x = some c -> ∀ v,s.heap.IsCell c v -> h'.IsCell c v:=fun x c e v ⟨o,ho,hd⟩ => by
  have nch : c ∉ ch:=fun z => (hch c z).2.2.1 x c e rfl;by_cases hc : c ∈ X.fs
  ·obtain ⟨sl,q⟩:=slot c o (I.cne x c e) hc nch ho (I.freeC x c e);exact ⟨_,q,hd⟩
  ·exact ⟨o,keep c o (I.cne x c e) hc nch ho (I.freeC x c e),hd⟩
 refine ⟨I.ok,I.os,hg,⟨fun b o e n hb hx => ?_,fun b o e n hb hx => ?_,fun b o e n hx => ?_,fun b o e hx => ?_,fun b xs e => tups b xs (I.base.tups b xs e),fun b o xs e => frzs b o xs (I.base.frzs b o xs e),fun b ps e => ?_⟩,?_,fun x c e => ?_,?_,fun x c e => ?_,fun p hp => ?_,hok,I.len⟩
 ·exact keep b o (neL b o e) hb (neC b o e hx) (I.base.keep b o e n hb hx) (I.base.free b o e n hx)
 ·obtain ⟨sl,e1⟩:=I.base.slot b o e n hb hx;obtain ⟨sl',e2⟩:=slot b _ (neL b o e) hb (neC b o e hx) e1 (I.base.free b o e n hx);exact ⟨sl',e2⟩
 ·obtain ⟨o',e1⟩:=I.base.there b o e hx;exact free b o' (neC b o e hx) e1 (I.base.free b o e n hx)
 ·obtain ⟨o',e1⟩:=I.base.there b o e hx;exact there b o' (neC b o e hx) e1
 ·obtain ⟨m1,e1⟩:=I.base.tbls b ps e;obtain ⟨m2,e2⟩:=tbls b _ e1;exact ⟨m1 ++ m2,by rw [e2,Array.append_assoc]⟩
 ·obtain ⟨m,hn,hl⟩:=I.loc;refine ⟨m,ns m hn,fun i x v e1 e2 e3 => ?_⟩;obtain ⟨u,r,l⟩:=hl i x v e1 e2 e3;refine ⟨u,r,?_⟩;rcases l with l | ⟨k,c,e,z⟩
  ·exact .inl l
  ·exact .inr ⟨k,c,e,cellK x c e _ z⟩
 ·obtain ⟨v,z⟩:=I.cell x c e;exact ⟨v,cellK x c e v z⟩
 ·obtain ⟨m,⟨o,_,_,ho,_⟩,_⟩:=I.loc;exact free _ o (fun z => (hch _ z).2.1 rfl) ho I.free
 ·obtain ⟨v,o,ho,hd⟩:=I.cell x c e;exact free c o (fun z => (hch c z).2.2.1 x c e rfl) ho (I.freeC x c e)
 ·obtain ⟨e,n,ne,nf,d⟩:=I.pin p hp;have nch : p.1 ∉ ch:=fun z => (hch p.1 z).2.2.2 p hp rfl;exact ⟨keep p.1 p.2 ne nf nch e n,free p.1 p.2 nch e n,ne,nf,d⟩
theorem Inv.un {t' : Nat} (I : Inv X zB σ H s) (u : Un X.fs [] H H' s.heap h') (hok : HOk X.prog X.w H' h') : Inv X zB σ H' { s with heap:=h',toks:=t' }:=by
 obtain ⟨m,⟨o,es,ep,ho,r⟩,_⟩:=id I.loc;obtain ⟨sl,hL⟩:=u.any ho I.free (by simp);exact I.step (g':=s.gens) (d':=s.drawn) (ch:=[]) (fun _ z => nomatch z) (fun b o _ hb _ e n => u.keep b o e n hb (by simp)) (fun b o _ hb _ e n => u.slot b o e n hb (by simp)) (fun b o _ e n => u.free b o e n (by simp)) (fun b o _ e => u.there b o e (by simp)) u.tups u.frzs u.tbls (fun m' hm => by
  obtain ⟨o',es',ep',ho',r'⟩:=hm;rw [ho] at ho'; cases ho';exact ⟨_,es',ep',hL,r'⟩) hok I.bare
theorem Inv.call {g' : Array GenState} {t' : Nat} {d' : Drawn} {ch : List Addr} (I : Inv X zB σ H s) (u : Un (frs X.stack) ch H H' s.heap h') (hok : HOk X.prog X.w H' h') (hg : AllBare g')
  (hch : ∀ b ∈ ch,(b ∈ X.ex \/ X.s₀.heap.objs.size <= b) /\ b ≠ X.env.locals /\ (∀ x c,X.env.cells.lookup x = some c -> c ≠ b) /\ ∀ p ∈ X.pn ++ zB,p.1 ≠ b) :
  Inv X zB σ H' { s with heap:=h',gens:=g',drawn:=d',toks:=t' }:=by
 obtain ⟨m,⟨o,es,ep,ho,r⟩,_⟩:=id I.loc;obtain ⟨sl,hL⟩:=u.any ho I.free fun z => (hch _ z).2.1 rfl;exact I.step (ch:=ch) hch (fun b o hL hb hc e n => u.keep b o e n (fun z => (zVZ.mp (I.stkSub b z)).elim hL hb) hc) (fun b o _ _ hc e n => u.any e n hc) (fun b o hc e n => u.free b o e n hc) (fun b o hc e => u.there b o e hc) u.tups u.frzs u.tbls (fun m' hm => by
  obtain ⟨o',es',ep',ho',r'⟩:=hm;rw [ho] at ho'; cases ho';exact ⟨_,es',ep',hL,r'⟩) hok hg
theorem Inv.turned {t' : Nat} {it : Addr} (I : Inv X zB σ H s) (k : ∀ b o,b ≠ it -> s.heap.get? b = some o -> h'.get? b = some o) (hn : H it = none) (hL : it ≠ X.env.locals)
  (h1 : it ∈ X.ex \/ X.s₀.heap.objs.size <= it) (h2 : ∀ x c,X.env.cells.lookup x = some c -> c ≠ it) (h3 : ∀ p ∈ X.pn ++ zB,p.1 ≠ it) : Inv X zB σ H { s with heap:=h',toks:=t' }:=by
 have nit : ∀ b u,H b = some u -> b ≠ it:=fun b u e z => by rw [z,hn] at e; cases e
 refine I.step (g':=s.gens) (d':=s.drawn) (ch:=[it]) (fun b hb => ?_) (fun b o _ _ hc e _ => k b o (fun z => hc (by simp [z])) e) (fun b o _ _ hc e _ => ⟨o.slots,k b o (fun z => hc (by simp [z])) e⟩) (fun _ _ _ _ n => n)
  (fun b o hc e => ⟨o,k b o (fun z => hc (by simp [z])) e⟩) (fun _ _ e => e) (fun _ _ _ e => e) (fun b ps e => ⟨#[],by rw [e]; simp⟩) (fun m hm => ?_) (fun b u e => ?_) I.bare
 ·have e : b = it:=by simpa using hb
  subst e;exact ⟨h1,hL,h2,h3⟩
 ·obtain ⟨o,es,ep,ho,r⟩:=hm;exact ⟨o,es,ep,k _ o (Ne.symm hL) ho,r⟩
 ·refine (I.hok b u e).stay (fun c v hc q => k c v ?_ q) (fun _ q => q) fun _ _ q => q;rcases hc with z | z
  ·rw [z]; exact nit b u e
  ·exact nit c _ z
theorem Inv.tok (I : Inv X zB σ H s) (t : Nat) : Inv X zB σ H { s with toks:=t }:=I.un (h':=s.heap) (t':=t) Un.refl I.hok
theorem Inv.kept {t' : Nat} (I : Inv X zB σ H s) (k : ∀ b u,s.heap.get? b = some u -> h'.get? b = some u) : Inv X zB σ H { s with heap:=h',toks:=t' }:=I.un (Un.kept k) (I.hok.kept k)
theorem Inv.laid {a : Addr} {o : HO} {t' : Nat} (I : Inv X zB σ H s) (k : ∀ b u,s.heap.get? b = some u -> h'.get? b = some u) (hp : s.heap.objs.size <= a) (new : zAh X.prog X.w (upd H a o) h' a o) :
  Inv X zB σ (upd H a o) { s with heap:=h',toks:=t' }:=I.un (Un.laid k hp (I.hok.fresh hp)) (I.hok.laid k hp new)
theorem Inv.write {x e : Addr} {o : HO} {t' : Nat} (I : Inv X zB σ H s) (mu : Mut (H x)) (he : e = x \/ H e = some (.own x)) (k : ∀ b u,b ≠ e -> s.heap.get? b = some u -> h'.get? b = some u) (heo : ∃ u,h'.get? e = some u)
  (new : zAh X.prog X.w (upd H x o) h' x o) : Inv X zB σ (upd H x o) { s with heap:=h',toks:=t' }:=I.un (Un.write mu he k heo) (I.hok.write mu he k heo new)
theorem Inv.weak {σ' : List (Option V)} (I : Inv X zB σ H s) (hl : σ'.length = σ.length) (w : ∀ (i : Nat) v,σ'[i]? = some (some v) -> σ[i]? = some (some v)) : Inv X zB σ' H s :=
 ⟨I.ok,I.os,I.bare,I.base,let ⟨m,hn,hl'⟩:=I.loc; ⟨m,hn,fun i x v e1 e2 e3 => hl' i x v e1 (w i v e2) e3⟩,I.cell,I.free,I.freeC,I.pin,I.hok,hl.trans I.len⟩
theorem Inv.pins_of {pins' : List (Addr × Obj)} (I : Inv X zB σ H s) (h : ∀ p ∈ pins',s.heap.get? p.1 = some p.2 /\ H p.1 = none /\ p.1 ≠ X.env.locals /\ p.1 ∉ X.fs /\ ∀ v,p.2.data ≠ .cell v) : Inv X pins' σ H s :=
 ⟨I.ok,I.os,I.bare,I.base,I.loc,I.cell,I.free,I.freeC,fun p hp => (zVn.mp hp).elim (fun z => I.pin p (zWc _ z)) (h p),I.hok,I.len⟩
theorem zK6 {N : List Str} (hN : N.Nodup) {i j : Nat} {x : Str} (a : N[i]? = some x) (b : N[j]? = some x) : i = j:=by
 obtain ⟨h1,e1⟩:=zVQ.mp a;obtain ⟨h2,e2⟩:=zVQ.mp b;exact (List.getElem_inj hN).mp (e1.trans e2.symm)
theorem zN9 {M : Model} {A : Around} {E : Value -> Shared -> Prop} {i : Nat} {x : Str} {v : V} {u : Value} {Q : Unit -> Shared -> Prop} (I : Inv X zB σ H s) (hN : X.N.Nodup) (hi : X.N[i]? = some x) (hx : Loc X.env.scope x) (r : zv v u)
  (h : ∀ s',Inv X zB (σ.set i (some v)) H s' -> (∃ a,Heap.SameBut a s.heap s'.heap /\ (a = X.env.locals \/ X.env.cells.lookup x = some a)) -> Q () s') (hf : X.fn x = true \/ X.env.scope.names.lookup x = some .local:=by first | exact .inl rfl | exact .inr rfl | assumption) : wpAny M A (storeName X.env x u) Q E s:=by
 obtain ⟨m,hn,hl⟩:=id I.loc;have hcls : (X.env.scope.kind == .class || (X.env.scope.kind == .module && X.env.locals != X.env.globals)) = false:=by rw [I.ok.kind]; rfl
 have hiσ : i < σ.length:=by rw [I.len]; exact (zVQ.mp hi).1
 have cne:=I.cne;have tracked : ∀ {a : Addr} {h' : Heap},(∃ o,s.heap.get? a = some o /\ H a = none) -> Heap.SameBut a s.heap h' -> HOk X.prog X.w H h':=fun {a h'} ha hs b ob e => by
  obtain ⟨_,_,hfree⟩:=ha;refine (I.hok b ob e).stay (fun c w' hc q => (hs.2 c ?_).trans q) (fun _ q => q) fun _ _ q => q;rintro rfl;rcases hc with rfl | hc
  ·rw [hfree] at e; cases e
  ·rw [hfree] at hc; cases hc
 rcases hx with hk | hk
 ·refine wpAny_storeName_local hk hn (fun h' hn' hs => ?_) hcls;obtain ⟨oL,_,_,hoL,_⟩:=id hn;refine h _ ⟨I.ok,I.os,I.bare,⟨fun b o e n hb hx => ?_,fun b o e n hb hx => ?_,I.base.free,fun b o e hx => ?_,I.base.tups,I.base.frzs,I.base.tbls⟩,⟨_,hn',fun j y v' e1 e2 e3 => ?_⟩,fun y c e => ?_,I.free,I.freeC,fun p hp => ?_,tracked ⟨oL,hoL,I.free⟩ hs,by simpa using I.len⟩ ⟨_,hs,.inl rfl⟩
  ·exact (hs.2 b (zVi (zVm (zVY e) I.ok.above))).trans (I.base.keep b o e n hb hx)
  ·obtain ⟨sl,e1⟩:=I.base.slot b o e n hb hx;exact ⟨sl,(hs.2 b (zVi (zVm (zVY e) I.ok.above))).trans e1⟩
  ·obtain ⟨o',e1⟩:=I.base.there b o e hx;exact ⟨o',(hs.2 b (zVi (zVm (zVY e) I.ok.above))).trans e1⟩
  ·by_cases hj : j = i
   ·subst hj;rw [hi] at e1; cases e1;rw [zWH hiσ] at e2;cases e2;exact ⟨u,r,.inl ⟨hk,by simp⟩⟩
   ·rw [zVr (Ne.symm hj)] at e2;obtain ⟨u',r',q⟩:=hl j y v' e1 e2 e3;refine ⟨u',r',?_⟩;rcases q with ⟨k,e⟩ | ⟨k,c,e,z⟩
    ·refine .inl ⟨k,?_⟩;have : y ≠ x:=fun e => hj (zK6 hN e1 (e ▸ hi));simp [this,e]
    ·exact .inr ⟨k,c,e,z.sameBut hs (cne y c e)⟩
  ·obtain ⟨w',z⟩:=I.cell y c e;exact ⟨w',z.sameBut hs (cne y c e)⟩
  ·obtain ⟨e,n,ne,nf,d⟩:=I.pin p hp;exact ⟨(hs.2 p.1 ne).trans e,n,ne,nf,d⟩
 ·have hfn : X.fn x = true:=by
   rcases hf with z | z
   ·exact z
   ·rw [z] at hk; cases hk
  obtain ⟨c,hc⟩:=I.ok.has x (.inl hk);obtain ⟨w',z⟩:=I.cell x c hc;refine wpAny_storeName_cell I.ok.kind hk hc z (fun h' hc' hs => ?_);obtain ⟨oc,hoc,hocd⟩:=id z;refine h { s with heap:=h' } ⟨I.ok,I.os,I.bare,⟨fun b o e n hb hx => ?_,fun b o e n hb hx => ?_,I.base.free,fun b o e hx => ?_,I.base.tups,I.base.frzs,I.base.tbls⟩,⟨m,hn.sameBut hs (Ne.symm (cne x c hc)),fun j y v' e1 e2 e3 => ?_⟩,fun y c' e => ?_,I.free,I.freeC,fun p hp => ?_,tracked ⟨oc,hoc,I.freeC x c hc⟩ hs,by simpa using I.len⟩ ⟨c,hs,.inr hc⟩
  ·exact (hs.2 b (zVi (zVm (zVY e) (I.ok.cab x c hfn hc)))).trans (I.base.keep b o e n hb hx)
  ·obtain ⟨sl,e1⟩:=I.base.slot b o e n hb hx;exact ⟨sl,(hs.2 b (zVi (zVm (zVY e) (I.ok.cab x c hfn hc)))).trans e1⟩
  ·obtain ⟨o',e1⟩:=I.base.there b o e hx;exact ⟨o',(hs.2 b (zVi (zVm (zVY e) (I.ok.cab x c hfn hc)))).trans e1⟩
  ·by_cases hj : j = i
   ·subst hj;rw [hi] at e1; cases e1;rw [zWH hiσ] at e2;cases e2;exact ⟨u,r,.inr ⟨.inl hk,c,hc,hc'⟩⟩
   ·rw [zVr (Ne.symm hj)] at e2;obtain ⟨u',r',q⟩:=hl j y v' e1 e2 e3;refine ⟨u',r',?_⟩;rcases q with q | ⟨k,c',e,z'⟩
    ·exact .inl q
    ·refine .inr ⟨k,c',e,z'.sameBut hs ?_⟩;rintro rfl;exact hj (zK6 hN e1 (I.ok.inj _ _ _ e hc ▸ hi))
  ·by_cases hcc : c' = c
   ·subst hcc; exact ⟨_,hc'⟩
   ·obtain ⟨w2,z2⟩:=I.cell y c' e;exact ⟨w2,z2.sameBut hs hcc⟩
  ·obtain ⟨e,n,ne,nf,d⟩:=I.pin p hp;refine ⟨(hs.2 p.1 ?_).trans e,n,ne,nf,d⟩;intro q;rw [q,hoc] at e;have q' : oc = p.2:=zWN e;exact d w' (by rw [<- q']; exact hocd)
theorem zK7 {M : Model} {A : Around} {E : Value -> Shared -> Prop} {i : Nat} {x : Str} {v : V} {u : Value} {Q : Unit -> Shared -> Prop} (I : Inv X zB σ H s) (hN : X.N.Nodup) (hi : X.N[i]? = some x) (hx : Loc X.env.scope x) (r : zv v u)
  (h : ∀ s',Inv X zB (σ.set i (some v)) H s' -> Q () s') (hf : X.fn x = true \/ X.env.scope.names.lookup x = some .local:=by first | exact .inl rfl | exact .inr rfl | assumption) : wpAny M A (storeName X.env x u) Q E s :=
 zN9 I hN hi hx r (fun s' I' _ => h s' I') hf
theorem Inv.call' {s' : Shared} {ch : List Addr} (I : Inv X zB σ H s) (ho : s'.os = s.os) (u : Un (frs X.stack) ch H H' s.heap s'.heap) (hok : HOk X.prog X.w H' s'.heap) (hg : AllBare s'.gens)
  (hch : ∀ b ∈ ch,(b ∈ X.ex \/ X.s₀.heap.objs.size <= b) /\ b ≠ X.env.locals /\ (∀ x c,X.env.cells.lookup x = some c -> c ≠ b) /\ ∀ p ∈ X.pn ++ zB,p.1 ≠ b) : Inv X zB σ H' s':=by
 obtain ⟨h',g',d',t',o'⟩:=s';have e : o' = s.os:=ho;subst e;exact I.call (g':=g') (t':=t') (d':=d') u hok hg hch
end
abbrev XK:=Value -> Option Addr -> Hp -> Prop
abbrev St:=List (Option V)
abbrev VK:=V -> Hp -> Prop
abbrev TE:=St -> Hp -> VK -> Prop
abbrev TT:=St -> Hp -> (Bool -> Hp -> Prop) -> Prop
abbrev TA:=St -> Hp -> (List V -> Hp -> Prop) -> Prop
structure Ends where
 nx : St -> Hp -> Prop
 rt : VK
 bk : St -> Hp -> Prop:=fun _ _ => False
 ct : St -> Hp -> Prop:=fun _ _ => False
abbrev TS:=Ends -> St -> Hp -> Prop
def EP (X : Cx) (zB : List (Addr × Obj)) (σ : St) (Q : VK) (u : Value) (s' : Shared) : Prop:=∃ v H',Inv X zB σ H' s' /\ zv v u /\ Q v H'
def TP (X : Cx) (zB : List (Addr × Obj)) (σ : St) (Q : Bool -> Hp -> Prop) (b : Bool) (s' : Shared) : Prop:=∃ H',Inv X zB σ H' s' /\ Q b H'
def AP (X : Cx) (zB : List (Addr × Obj)) (σ : St) (Q : List V -> Hp -> Prop) (us : List Value) (s' : Shared) : Prop:=∃ vs H',Inv X zB σ H' s' /\ zo vs us /\ Q vs H'
def SP (X : Cx) (zB : List (Addr × Obj)) (D : Ends) (f : Flow) (s' : Shared) : Prop :=
 match f with
 | .next => ∃ σ' H',Inv X zB σ' H' s' /\ D.nx σ' H'
 | .brk => ∃ σ' H',Inv X zB σ' H' s' /\ D.bk σ' H'
 | .cont => ∃ σ' H',Inv X zB σ' H' s' /\ D.ct σ' H'
 | .ret u => ∃ v σ' H',Inv X zB σ' H' s' /\ zv v u /\ D.rt v H'
def PE (X : Cx) (e : Expr) (t : TE) : Prop :=
 ∀ (zB : List (Addr × Obj)) (s : Shared) (σ : St) (H : Hp) (Q : VK),Inv X zB σ H s -> t σ H Q -> wpAny (model X.prog X.w) X.A (eval e X.env) (EP X zB σ Q) X.xe s
def PT (X : Cx) (e : Expr) (t : TT) : Prop :=
 ∀ (zB : List (Addr × Obj)) (s : Shared) (σ : St) (H : Hp) (Q : Bool -> Hp -> Prop),Inv X zB σ H s -> t σ H Q -> wpAny (model X.prog X.w) X.A (isTrue e X.env (eval e X.env)) (TP X zB σ Q) X.xe s
def PW (X : Cx) (e : Expr) (t : TT) : Prop :=
 ∀ (whole : Sem Value) (zB : List (Addr × Obj)) (s : Shared) (σ : St) (H : Hp) (Q : Bool -> Hp -> Prop),Inv X zB σ H s -> t σ H Q -> wpAny (model X.prog X.w) X.A (isTrue e X.env whole) (TP X zB σ Q) X.xe s
theorem PW.pt {X : Cx} {e : Expr} {t : TT} (h : PW X e t) : PT X e t:=h _
def PA (X : Cx) (es : List Expr) (t : TA) : Prop :=
 ∀ (pos : Pos) (zB : List (Addr × Obj)) (s : Shared) (σ : St) (H : Hp) (Q : List V -> Hp -> Prop),Inv X zB σ H s -> t σ H Q -> wpAny (model X.prog X.w) X.A (spliced (backTo pos (starEach es X.env))) (AP X zB σ Q) X.xe s
def PS (X : Cx) (st : Stmt) (t : TS) : Prop :=
 ∀ (zB : List (Addr × Obj)) (s : Shared) (σ : St) (H : Hp) (D : Ends),Inv X zB σ H s -> t D σ H -> wpAny (model X.prog X.w) X.A (exec st X.env) (SP X zB D) X.xe s
def PSs (X : Cx) (st : List Stmt) (t : TS) : Prop :=
 ∀ (zB : List (Addr × Obj)) (s : Shared) (σ : St) (H : Hp) (D : Ends),Inv X zB σ H s -> t D σ H -> wpAny (model X.prog X.w) X.A (execs st X.env) (SP X zB D) X.xe s
theorem thn {α : Type} {t : Sem α} {Q Q' : α -> Shared -> Prop} {M : Model} {A : Around} {E : Value -> Shared -> Prop} {s : Shared} (h : wpAny M A t Q E s) (hQ : ∀ a s,Q a s -> Q' a s) : wpAny M A t Q' E s:=zVt h hQ fun _ _ x => x
section
variable {X : Cx}
def zTk (i : Nat) : TE:=fun σ H Q => ∃ v,σ[i]? = some (some v) /\ Q v H
def tC (v : V) : TE:=fun _ H Q => Q v H
theorem zTh {i : Nat} {x : Str} {pos : Pos} (hN : X.N[i]? = some x) (hv : Vis X.env.scope x) (hd : (x == ("__debug__" : Str)) = false:=by decide) (hcd : (x == ("__classdict__" : Str)) = false:=by decide) : PE X (.Name x pos) (zTk i):=by
 intro zB s σ H Q I h;obtain ⟨v,e,h⟩:=h;obtain ⟨m,hn,hl⟩:=I.loc;obtain ⟨u,r,l⟩:=hl i x v hN e hv;have fin : EP X zB σ Q u s:=⟨v,H,I,r,h⟩;rcases l with ⟨hk,hm⟩ | ⟨hk,c,hc,hcell⟩
 ·exact wpAny_Name (wpAny_loadName_local I.ok.kind hk hn hm fin) hd
 ·rcases hk with hk | hk
  ·exact wpAny_Name (wpAny_loadName_cell I.ok.kind hk hc hcell fin) hd
  ·exact wpAny_Name (wpAny_loadName_free I.ok.kind hk hc hcell fin hcd) hd
theorem zTR {i j pos} : PE X (.Constant (.int i) j pos) (tC (.int i)):=fun _ _ _ H _ I h => wpAny_Constant_int ⟨.int i,H,I.tok _,⟨_,rfl⟩,h⟩
theorem zUq {b j pos} : PE X (.Constant (.bool b) j pos) (tC (.bl b)):=fun _ _ _ H _ I h => Constant_bool ⟨.bl b,H,I,rfl,h⟩
theorem zSo {j pos} : PE X (.Constant .none j pos) (tC .non):=fun _ _ _ H _ I h => Constant_none ⟨.non,H,I,rfl,h⟩
def Gl (X : Cx) (x : Str) : Prop:=X.env.kindOf x = some .globalImplicit
theorem zQ4 {E : Value -> Shared -> Prop} {zB : List (Addr × Obj)} {s : Shared} {σ : St} {H : Hp} {x : Str} {u : Value} {pos : Pos} {Q : Value -> Shared -> Prop} (I : Inv X zB σ H s) (hg : Gl X x) (hm : X.mg x = some u) (h : Q u s)
  (hd : (x == ("__debug__" : Str)) = false:=by decide) : wpAny (model X.prog X.w) X.A (eval (.Name x pos) X.env) Q E s :=
 Calls.Name_function_global I.ok.kind hg (Calls.loadGlobal_global (by rw [I.ok.glob]; exact I.mod.glob.keeps I.bk) hm h) hd
theorem zEc {E : Value -> Shared -> Prop} {zB : List (Addr × Obj)} {s : Shared} {σ : St} {H : Hp} {x : Str} {u : Value} {pos : Pos} {Q : Value -> Shared -> Prop} (I : Inv X zB σ H s) (hg : Gl X x) (hm : X.mg x = none) (hv : bootBuiltins x = some u) (h : Q u s)
  (hn : x ≠ "__name__" := by decide) (hd : (x == ("__debug__" : Str)) = false:=by decide) : wpAny (model X.prog X.w) X.A (eval (.Name x pos) X.env) Q E s:=by
 obtain ⟨mb,h1,h2⟩:=I.mod.blt;exact Calls.Name_function_global I.ok.kind hg (Calls.loadGlobal_builtin (by rw [I.ok.glob]; exact I.mod.glob.keeps I.bk) hm (by rw [I.ok.blt]; exact h1.keeps I.bk) ((h2 x hn).trans hv) h) hd
theorem zRI {x : Str} {v : V} {u : Value} {pos : Pos} (hg : Gl X x) (hm : X.mg x = none) (hv : bootBuiltins x = some u) (r : zv v u) (hn : x ≠ "__name__" := by decide) (hd : (x == ("__debug__" : Str)) = false:=by decide) : PE X (.Name x pos) (tC v) :=
 fun _ _ _ H _ I h => zEc I hg hm hv ⟨v,H,I,r,h⟩ hn hd
variable {a b : Expr} {ta tb : TE} {pos : Pos}
def PC (X : Cx) (op : CmpOp) (a b : Expr) (t : TE) : Prop :=
 ∀ (zB : List (Addr × Obj)) (s : Shared) (σ : St) (H : Hp) (Q : VK),Inv X zB σ H s -> t σ H Q ->
  wpAny (model X.prog X.w) X.A (eval a X.env) (fun v s₁ => wpAny (model X.prog X.w) X.A (eval b X.env) (fun u s₂ => wpAny (model X.prog X.w) X.A (compareOp op v u) (EP X zB σ Q) X.xe s₂) X.xe s₁) X.xe s
def tB (t : TE) : TT:=fun σ H Q => t σ H fun x H1 => ∃ c,x = .bl c /\ Q c H1
theorem zTY {op : CmpOp} {t : TE} (h : PC X op a b t) (h1 : behindInMarks op b = false:=by first | exact nobehind _ (by decide) (by decide) | rfl) : PE X (.Compare a [op] [b] pos) t:=fun zB s σ H Q I hw => wpAny_Compare1 (h zB s σ H Q I hw) h1
theorem zO4 {op : CmpOp} {t : TE} (h : PC X op a b t) (h1 : behindInMarks op b = false:=by first | exact nobehind _ (by decide) (by decide) | rfl) : PT X (.Compare a [op] [b] pos) (tB t):=by
 intro zB s σ H Q I hw;refine wpAny_isTrue_Compare1 (thn (h zB s σ H _ I hw) fun v s1 h1 => thn h1 fun u s2 h2 => thn h2 fun c s3 ⟨x,H1,I1,r1,q1⟩ => ?_) h1;obtain ⟨d,rfl,q⟩:=q1;cases r1;exact zWZ ⟨H1,I1,q⟩
theorem zTt {e : Expr} {t : TE} (h : PE X e t) (he : ∀ whole,isTrue e X.env whole = (do let v <- whole; standAt e.pos; holding [v] (truthy v)):=by intro _; rfl) : PT X e (tB t):=by
 intro zB s σ H Q I hw;refine isTrue_plain (thn (h zB s σ H _ I hw) fun v s1 ⟨x,H1,I1,r1,q1⟩ => ?_) (he _);obtain ⟨d,rfl,q⟩:=q1;cases r1;exact zWZ ⟨H1,I1,q⟩
variable {tA tB' : TT} {rest : List Expr}
def zVE (t u : TT) : TT:=fun σ H Q => t σ H fun c H1 => if c = true then u σ H1 Q else Q false H1
def tOr (t u : TT) : TT:=fun σ H Q => t σ H fun c H1 => if c = true then Q true H1 else u σ H1 Q
def zVI (t : TT) : TT:=fun σ H Q => t σ H fun c H1 => Q (!c) H1
theorem zRJ (ha : PT X a tA) : PW X (.BoolOp .And [a] pos) tA:=by
 intro wh zB s σ H Q I h;refine isTrue_and (thn (ha zB s σ H Q I h) fun c s1 e => ?_);cases c with
 | true => exact isTrue_and_nil e
 | false => exact e
theorem zTV (ha : PT X a tA) : PW X (.BoolOp .Or [a] pos) tA:=by
 intro wh zB s σ H Q I h;refine isTrue_or (thn (ha zB s σ H Q I h) fun c s1 e => ?_);cases c with
 | false => exact isTrue_or_nil e
 | true => exact e
theorem zTP (ha : PT X a tA) (hb : PW X (.BoolOp .And (b :: rest) pos) tB') : PW X (.BoolOp .And (a :: b :: rest) pos) (zVE tA tB'):=by
 intro wh zB s σ H Q I h;refine isTrue_and (thn (ha zB s σ H _ I h) fun c s1 ⟨H1,I1,q1⟩ => ?_);cases c with
 | true => exact hb wh zB s1 σ H1 Q I1 q1
 | false => exact ⟨H1,I1,q1⟩
theorem zUY (ha : PT X a tA) (hb : PW X (.BoolOp .Or (b :: rest) pos) tB') : PW X (.BoolOp .Or (a :: b :: rest) pos) (tOr tA tB'):=by
 intro wh zB s σ H Q I h;refine isTrue_or (thn (ha zB s σ H _ I h) fun c s1 ⟨H1,I1,q1⟩ => ?_);cases c with
 | true => exact ⟨H1,I1,q1⟩
 | false => exact hb wh zB s1 σ H1 Q I1 q1
theorem zSm (ha : PT X a tA) : PT X (.UnaryOp .Not a pos) (zVI tA):=by
 intro zB s σ H Q I h;exact isTrue_not (ha zB s σ H (fun c H1 => Q (!c) H1) I h)
def zUL (ta tb : TE) : TE:=fun σ H Q => ta σ H fun x H1 => ∃ c,x = .bl c /\ if c = true then tb σ H1 Q else Q (.bl false) H1
def zT9 (ta : TE) : TE:=fun σ H Q => ta σ H fun x H1 => ∃ c,x = .bl c /\ Q (.bl (!c)) H1
theorem zS0 {op} {t : TE} (h : PE X a t) : PE X (.BoolOp op [a] pos) t:=fun zB s σ H Q I hw => BoolOp_one (h zB s σ H Q I hw)
theorem zSy (ha : PE X a ta) (hb : PE X (.BoolOp .And (b :: rest) pos) tb) : PE X (.BoolOp .And (a :: b :: rest) pos) (zUL ta tb):=by
 intro zB s σ H Q I h;refine BoolOp_and (thn (ha zB s σ H _ I h) fun v s1 ⟨x,H1,I1,r1,q1⟩ => ?_);obtain ⟨c,rfl,q1⟩:=q1;cases r1;refine zWZ ?_;cases c with
 | true => exact hb zB s1 σ H1 Q I1 q1
 | false => exact ⟨.bl false,H1,I1,rfl,q1⟩
theorem zS7 (ha : PE X a ta) : PE X (.UnaryOp .Not a pos) (zT9 ta):=by
 intro zB s σ H Q I h;refine UnaryOp_ (thn (ha zB s σ H _ I h) fun v s1 ⟨x,H1,I1,r1,q1⟩ => ?_);obtain ⟨c,rfl,q1⟩:=q1;cases r1;exact not_of (zWZ ⟨.bl (!c),H1,I1,rfl,q1⟩)
def tIf (t : TT) (ta tb : TE) : TE:=fun σ H Q => t σ H fun c H1 => if c = true then ta σ H1 Q else tb σ H1 Q
theorem zPs {c : Expr} (hc : PT X c tA) (ha : PE X a ta) (hb : PE X b tb) : PE X (.IfExp c a b pos) (tIf tA ta tb):=by
 intro zB s σ H Q I h;refine wpAny_IfExp (thn (hc zB s σ H _ I h) fun d s1 ⟨H1,I1,q1⟩ => ?_);cases d with
 | true => exact ha zB s1 σ H1 Q I1 q1
 | false => exact hb zB s1 σ H1 Q I1 q1
end
def SqL (K : PySem.W.Frag) (H : Hp) (a : Addr) (xs : List V) : Prop :=
 Rd H a (.lst xs) \/
  ∃ (o : Obj) (its : Array Value) (n : Nat),K.lookup a = some o /\ o.cls = .type "list" /\ o.dict = none /\ o.data = .seq its n /\ its.size <= sizeLine /\ zo xs its.toList
def SqT (K : PySem.W.Frag) (H : Hp) (a : Addr) (xs : List V) : Prop :=
 Rd H a (.tup xs) \/
  ∃ (o : Obj) (its : Array Value) (n : Nat),K.lookup a = some o /\ o.cls = .type "tuple" /\ o.data = .seq its n /\ its.size <= sizeLine /\ zo xs its.toList
def zU0 : Value -> Option V
 | .none => some .non
 | .bool b => some (.bl b)
 | .int i _ => some (.int i)
 | .str x _ => some (.str x)
 | .bytes b _ => some (.byt b)
 | .float b _ => some (.flt b)
 | .ref a => some (.ref a)
 | .type n => some (.ty n)
 | _ => none
theorem zv.abs {x : V} {u : Value} (r : zv x u) : zU0 u = some x:=by
 cases x with
 | non => cases r; rfl
 | bl _ => cases r; rfl
 | int _ => obtain ⟨t,rfl⟩:=r; rfl
 | str _ => obtain ⟨t,rfl⟩:=r; rfl
 | byt _ => obtain ⟨t,rfl⟩:=r; rfl
 | flt _ => obtain ⟨t,rfl⟩:=r; rfl
 | ref _ => cases r; rfl
 | ty _ => cases r; rfl
theorem zv.inj {x y : V} {u : Value} (r : zv x u) (q : zv y u) : x = y:=zWN (r.abs.symm.trans q.abs)
theorem zo.inj : ∀ {xs ys : List V} {us : List Value},zo xs us -> zo ys us -> xs = ys
 | _,_,_,.nil,.nil => rfl
 | _,_,_,.cons r t,.cons r' t' => by rw [r.inj r',zo.inj t t']
section
variable {X : Cx} {zB : List (Addr × Obj)} {σ : St} {H : Hp} {s : Shared} {a : Addr} {xs ys : List V}
theorem SqL.of {K : PySem.W.Frag} (h : H a = some (.lst xs)) : SqL K H a xs:=.inl (.inl h)
theorem SqT.of {K : PySem.W.Frag} (h : H a = some (.tup xs)) : SqT K H a xs:=.inl (.inl h)
theorem Inv.list (I : Inv X zB σ H s) (h : SqL X.K H a xs) : ∃ its : List Value,zo xs its /\ PlainL s.heap a its.toArray /\ xs.length <= sizeLine:=by
 rcases h with h | ⟨o,its,n,hk,hc,hd,hs,hz,r⟩
 ·obtain ⟨z,its,n,r,e⟩:=h.ok I.hok;exact ⟨its,r,⟨_,n,e,rfl,rfl,rfl⟩,z⟩
 ·refine ⟨its.toList,r,⟨o,n,I.kIn a o hk,hc,hd,by simpa using hs⟩,?_⟩;have e:=r.length;simp only [zV6] at e;omega
theorem Inv.tuple (I : Inv X zB σ H s) (h : SqT X.K H a xs) : ∃ its : List Value,zo xs its /\ IsTup s.heap a its.toArray /\ xs.length <= sizeLine:=by
 rcases h with h | ⟨o,its,n,hk,hc,hs,hz,r⟩
 ·obtain ⟨z,its,r,p⟩:=h.ok I.hok;exact ⟨its,r,p.tup,z⟩
 ·refine ⟨its.toList,r,⟨o,I.kIn a o hk,hc,n,by simpa using hs⟩,?_⟩;have e:=r.length;simp only [zV6] at e;omega
theorem Inv.list_inj (I : Inv X zB σ H s) (h : SqL X.K H a xs) (h' : SqL X.K H a ys) : xs = ys:=by
 obtain ⟨its,r,⟨o,n,e,_,_,d⟩,_⟩:=I.list h;obtain ⟨its',r',⟨o',n',e',_,_,d'⟩,_⟩:=I.list h';rw [e] at e'; cases e';rw [d] at d';injection d' with d1 _
 have : its = its':=by simpa using zXA Array.toList d1
 subst this;exact r.inj r'
theorem Inv.tuple_inj (I : Inv X zB σ H s) (h : SqT X.K H a xs) (h' : SqT X.K H a ys) : xs = ys:=by
 obtain ⟨its,r,⟨o,e,_,n,d⟩,_⟩:=I.tuple h;obtain ⟨its',r',⟨o',e',_,n',d'⟩,_⟩:=I.tuple h';rw [e] at e'; cases e';rw [d] at d';injection d' with d1 _
 have : its = its':=by simpa using zXA Array.toList d1
 subst this;exact r.inj r'
end
abbrev Cx.wish (X : Cx) (E : Value -> Shared -> Prop) : Cx:={ X with xe:=E }
abbrev Cx.nox (X : Cx) : Cx:=X.wish fun _ _ => False
theorem Cx.Ok.wish {X : Cx} (ok : X.Ok) (E : Value -> Shared -> Prop) : (X.wish E).Ok :=
 ⟨ok.mod,ok.kind,ok.glob,ok.blt,ok.above,ok.inj,ok.has,ok.cab,ok.hd,ok.frames,ok.stk,ok.exf,ok.bs,ok.bsz,ok.noex,ok.exfs,ok.funs,ok.frf⟩
theorem Cx.Ok.unwish {X : Cx} {E : Value -> Shared -> Prop} (ok : (X.wish E).Ok) : X.Ok :=
 ⟨ok.mod,ok.kind,ok.glob,ok.blt,ok.above,ok.inj,ok.has,ok.cab,ok.hd,ok.frames,ok.stk,ok.exf,ok.bs,ok.bsz,ok.noex,ok.exfs,ok.funs,ok.frf⟩
section
variable {X : Cx} {zB : List (Addr × Obj)} {σ : St} {H : Hp} {s : Shared} {E : Value -> Shared -> Prop}
theorem Inv.wish (I : Inv X zB σ H s) (E : Value -> Shared -> Prop) : Inv (X.wish E) zB σ H s:=⟨I.ok.wish E,I.os,I.bare,I.base,I.loc,I.cell,I.free,I.freeC,I.pin,I.hok,I.len⟩
theorem Inv.unwish (I : Inv (X.wish E) zB σ H s) : Inv X zB σ H s:=⟨I.ok.unwish,I.os,I.bare,I.base,I.loc,I.cell,I.free,I.freeC,I.pin,I.hok,I.len⟩
theorem SP.unwish {D : Ends} {f : Flow} {s' : Shared} (h : SP (X.wish E) zB D f s') : SP X zB D f s':=by
 cases f with
 | next => obtain ⟨σ',H',I,q⟩:=h; exact ⟨σ',H',I.unwish,q⟩
 | brk => obtain ⟨σ',H',I,q⟩:=h; exact ⟨σ',H',I.unwish,q⟩
 | cont => obtain ⟨σ',H',I,q⟩:=h; exact ⟨σ',H',I.unwish,q⟩
 | ret u => obtain ⟨v,σ',H',I,r,q⟩:=h; exact ⟨v,σ',H',I.unwish,r,q⟩
theorem PSs.nox {st : List Stmt} {t : TS} (h : PSs X.nox st t) : PSs X st t:=fun zB s σ H D I hw =>
 zVt (h zB s σ H D (I.wish _) hw) (fun _ _ q => q.unwish) fun _ _ z => False.elim z
end
section
variable {X : Cx} {st : Stmt} {rest : List Stmt} {t u : TS} {e : Expr} {te : TE} {pos : Pos}
def zUM : TS:=fun D σ H => D.nx σ H
def zU2 (t u : TS) : TS:=fun D σ H => t { D with nx:=u D } σ H
theorem zQx : PSs X [] zUM:=fun _ _ σ H _ I h => wpAny_execs_nil ⟨σ,H,I,h⟩
theorem zQB (h1 : PS X st t) (h2 : PSs X rest u) : PSs X (st :: rest) (zU2 t u):=by
 intro zB s σ H D I h;refine wpAny_execs_cons (thn (h1 zB s σ H { D with nx:=u D } I h) fun f s1 q => ?_);cases f with
 | next =>
  obtain ⟨σ',H',I',q⟩:=q;exact h2 zB s1 σ' H' D I' q
 | ret v => exact q
 | brk => exact q
 | cont => exact q
theorem zQ1 (h1 : PS X st t) : PSs X [st] t:=by
 intro zB s σ H D I h;refine wpAny_execs_cons (thn (h1 zB s σ H D I h) fun f s1 q => ?_);cases f with
 | next => exact wpAny_execs_nil q
 | ret v => exact q
 | brk => exact q
 | cont => exact q
theorem Inv.quiet {zB : List (Addr × Obj)} {σ : St} {H : Hp} {s : Shared} (I : Inv X zB σ H s) : interactive X.env = false:=by simp [interactive,I.ok.kind]
def zUE (te : TE) : TS:=fun D σ H => te σ H fun _ H1 => D.nx σ H1
theorem zRl (he : PE X e te) (hs : swapsWith e none pos.line X.env = pure false:=by rfl) : PS X (.Expr e pos) (zUE te):=by
 intro zB s σ H D I h;exact wpAny_Expr_any (thn (he zB s σ H _ I h) fun v s1 ⟨x,H1,I1,r1,q1⟩ => ⟨σ,H1,I1,q1⟩) I.quiet hs
def zVK (te : TE) : TS:=fun D σ H => te σ H D.rt
theorem zSn (he : PE X e te) : PS X (.Return (some e) pos) (zVK te):=by
 intro zB s σ H D I h;exact wpAny_Return_some (thn (he zB s σ H _ I h) fun v s1 ⟨x,H1,I1,r1,q1⟩ => ⟨x,σ,H1,I1,r1,q1⟩)
def zVM (c : TT) (t u : TS) : TS:=fun D σ H => c σ H fun b H1 => if b = true then t D σ H1 else u D σ H1
theorem zUT {c : Expr} {a b : List Stmt} {tc : TT} (hc : PT X c tc) (ha : PSs X a t) (hb : PSs X b u) : PS X (.If c a b pos) (zVM tc t u):=by
 intro zB s σ H D I h;refine wpAny_If (thn (hc zB s σ H _ I h) fun d s1 ⟨H1,I1,q1⟩ => ?_);cases d with
 | true => exact ha zB s1 σ H1 D I1 q1
 | false => exact hb zB s1 σ H1 D I1 q1
end
abbrev TG:=V -> St -> Hp -> (St -> Hp -> Prop) -> Prop
abbrev TGs:=List V -> St -> Hp -> (St -> Hp -> Prop) -> Prop
def PG (X : Cx) (target : Expr) (t : TG) : Prop :=
 ∀ (zB : List (Addr × Obj)) (s : Shared) (σ : St) (H : Hp) (v : V) (u : Value) (Q : St -> Hp -> Prop),Inv X zB σ H s -> zv v u -> t v σ H Q ->
  wpAny (model X.prog X.w) X.A (assign target X.env u) (fun _ s' => ∃ σ' H',Inv X zB σ' H' s' /\ Q σ' H') X.xe s
def PGs (X : Cx) (ts : List Expr) (t : TGs) : Prop :=
 ∀ (zB : List (Addr × Obj)) (s : Shared) (σ : St) (H : Hp) (vs : List V) (us : List Value) (Q : St -> Hp -> Prop),Inv X zB σ H s -> zo vs us -> t vs σ H Q ->
  wpAny (model X.prog X.w) X.A (assignInOrder ((assignEach ts X.env).map (·.2)) us) (fun _ s' => ∃ σ' H',Inv X zB σ' H' s' /\ Q σ' H') X.xe s
abbrev zSf:=V -> V -> V -> Hp -> (Hp -> Prop) -> Prop
def zT0 (X : Cx) (t : zSf) : Prop :=
 ∀ (zB : List (Addr × Obj)) (s : Shared) (σ : St) (H : Hp) (o i v : V) (ov iv u : Value) (Q : Hp -> Prop),Inv X zB σ H s -> zv o ov -> zv i iv -> zv v u -> t o i v H Q ->
  wpAny (model X.prog X.w) X.A (setItem ov iv u) (fun _ s' => ∃ H',Inv X zB σ H' s' /\ Q H') X.xe s
section
variable {X : Cx} {pos : Pos}
def zCq (i : Nat) : TG:=fun v σ H Q => Q (σ.set i (some v)) H
theorem zJc {i : Nat} {x : Str} (hN : X.N.Nodup) (hi : X.N[i]? = some x) (hx : Loc X.env.scope x) (hf : X.fn x = true \/ X.env.scope.names.lookup x = some .local:=by first | exact .inl rfl | exact .inr rfl | assumption) : PG X (.Name x pos) (zCq i):=by
 intro zB s σ H v u Q I r h;exact wpAny_assign_Name (zK7 I hN hi hx r (fun s' I' => ⟨_,H,I',h⟩) hf)
def zSu : TGs:=fun vs σ H Q => vs = [] /\ Q σ H
def zJW (t : TG) (u : TGs) : TGs:=fun vs σ H Q => ∃ v r,vs = v :: r /\ t v σ H fun σ' H' => u r σ' H' Q
theorem zG3 : PGs X [] zSu:=by
 intro zB s σ H vs us Q I r h;obtain ⟨e,h⟩:=h;subst e;cases r;exact assignInOrder_nil ⟨σ,H,I,h⟩
theorem zBY {e : Expr} {es : List Expr} {t : TG} {u : TGs} (h1 : PG X e t) (h2 : PGs X es u)
  (hs : (assignEach (e :: es) X.env).map (·.2) = assign e X.env :: (assignEach es X.env).map (·.2):=by rfl) : PGs X (e :: es) (zJW t u):=by
 intro zB s σ H vs us Q I r h;obtain ⟨v,vr,e1,h⟩:=h;subst e1;cases r with
 | cons r rr =>
  rw [hs];refine assignInOrder_cons (thn (h1 zB s σ H _ _ _ I r h) fun _ s1 ⟨σ1,H1,I1,q1⟩ => ?_);exact h2 zB s1 σ1 H1 _ _ Q I1 rr q1
def zTK (K : PySem.W.Frag) (n : Nat) (t : TGs) : TG:=fun v σ H Q => ∃ a xs,v = .ref a /\ SqT K H a xs /\ xs.length = n /\ t xs σ H Q
theorem zKH {es : List Expr} {k : Nat} {t : TGs} {n : Nat} (hc : X.calm = true) (h : PGs X es t)
  (hn : (assignEach es X.env).length = n:=by rfl) (hst : (assignEach es X.env).findIdx? (·.1) = none:=by rfl) : PG X (.Tuple es k pos) (zTK X.K n t):=by
 intro zB s σ H v u Q I r hw;obtain ⟨a,xs,e1,hq,hl,hw⟩:=hw;subst e1;cases r;obtain ⟨its,rv,ht,hz⟩:=I.tuple hq;refine assign_Tuple_tuple (I.ok.hd hc) ht (by simp [hn,<- hl,rv.length]) hst fun h' hx => ?_;have I1 : Inv X zB σ H { s with heap:=h' }:=I.kept (t':=s.toks) fun b o e => hx b o (zVi (zVY e)) e;exact h zB _ σ H xs _ Q I1 (by simpa using rv) hw
def zVL (to ti : TE) (t : zSf) : TG:=fun v σ H Q => to σ H fun o H1 => ti σ H1 fun i H2 => t o i v H2 fun H3 => Q σ H3
theorem zTC {o i : Expr} {to ti : TE} {t : zSf} (ho : PE X o to) (hi : PE X i ti) (hs : zT0 X t)
  (ha : ∀ v,assign (.Subscript o i pos) X.env v = (do
   let ov <- holding [v] (eval o X.env);let iv <- holding [v,ov] (eval i X.env);standAt pos;holding [v,ov,iv] (setItem ov iv v);release [v,ov,iv] []):=by intro _; rfl) : PG X (.Subscript o i pos) (zVL to ti t):=by
 intro zB s σ H v u Q I r h;rw [ha];refine zVN (zWG (thn (ho zB s σ H _ I h) fun ov s1 ⟨x,H1,I1,r1,q1⟩ => ?_));refine zVN (zWG (thn (hi zB s1 σ H1 _ I1 q1) fun iv s2 ⟨y,H2,I2,r2,q2⟩ => ?_));refine zVN (zWL (zVN (zWG (thn (hs zB s2 σ H2 x y v ov iv u _ I2 r1 r2 r q2) fun _ s3 ⟨H3,I3,q3⟩ => ?_))));exact wpAny_release ⟨σ,H3,I3,q3⟩
def zOs (te : TE) (g : TG) : TS:=fun D σ H => te σ H fun x H1 => g x σ H1 D.nx
theorem zP8 {tg e : Expr} {te : TE} {g : TG} (he : PE X e te) (hg : PG X tg g) (hs : swapsWithSole [tg] e pos.line X.env = pure false:=by rfl) (hw : swappedStores [tg] e X.env = pure none:=by rfl)
  (h1 : (assignEach [tg] X.env).map (·.2) = [assign tg X.env]:=by rfl) : PS X (.Assign [tg] e pos) (zOs te g):=by
 intro zB s σ H D I h;refine wpAny_Assign_stores (thn (he zB s σ H _ I h) fun v s1 ⟨x,H1,I1,r1,q1⟩ => ?_) hs hw;rw [h1];exact thn (hg zB s1 σ H1 x v _ I1 r1 q1) fun _ s2 q => q
theorem zTN {i : Nat} {x : Str} {e : Expr} {te : TE} {pos' : Pos} (hN : X.N.Nodup) (hi : X.N[i]? = some x) (hx : Loc X.env.scope x) (he : PE X e te) (hs : swapsWith e (some (.Name x pos')) pos.line X.env = pure false:=by rfl) (hf : X.fn x = true \/ X.env.scope.names.lookup x = some .local:=by first | exact .inl rfl | exact .inr rfl | assumption) :
  PS X (.Assign [.Name x pos'] e pos) (zOs te (zCq i)):=by
 intro zB s σ H D I h;refine wpAny_Assign_Name (thn (he zB s σ H _ I h) fun v s1 ⟨y,H1,I1,r1,q1⟩ => ?_) hs;exact zK7 I1 hN hi hx r1 (fun s2 I2 => ⟨_,H1,I2,q1⟩) hf
def zP6 (c : TT) (tb : TS) : TS:=fun D σ H => ∃ W : Nat -> St -> Hp -> Prop,(∃ m,W m σ H) /\ ∀ m σ H,W m σ H ->
 c σ H fun b H1 => if b = true then ∃ N : St -> Hp -> Prop,(∀ σ' H',N σ' H' -> ∃ m',m' < m /\ W m' σ' H') /\ tb { D with nx:=N,ct:=N,bk:=D.nx } σ H1 else D.nx σ H1
theorem zO5 {c : Expr} {body : List Stmt} {tc : TT} {tb : TS} (hp : PassesOwn (model X.prog X.w) X.A X.env X.xe) (hc : PT X c tc) (hb : PSs X body tb) : PS X (.While c body [] pos) (zP6 tc tb):=by
 intro zB s σ H D I h;obtain ⟨W,⟨m0,w0⟩,turn⟩:=h;refine wpAny_While (codeAny_whileLoop (fun n s' => ∃ σ' H',Inv X zB σ' H' s' /\ W n σ' H') ?_ m0 ⟨σ,H,I,w0⟩);rintro n s1 ⟨σ1,H1,I1,w1⟩;refine wpAny_passesOwn hp (thn (hc zB s1 σ1 H1 _ I1 (turn n σ1 H1 w1)) fun b s2 ⟨H2,I2,q2⟩ => ?_);cases b with
 | true =>
  obtain ⟨N,hN,q2⟩:=q2;rw [zVc rfl];refine wpAny_passesOwn hp (thn (hb zB s2 σ1 H2 _ I2 q2) fun f s3 q3 => ?_);cases f with
  | next =>
   obtain ⟨σ3,H3,I3,n3⟩:=q3;obtain ⟨m',hm,w3⟩:=hN σ3 H3 n3;exact ⟨m',hm,σ3,H3,I3,w3⟩
  | cont =>
   obtain ⟨σ3,H3,I3,n3⟩:=q3;obtain ⟨m',hm,w3⟩:=hN σ3 H3 n3;exact ⟨m',hm,σ3,H3,I3,w3⟩
  | brk => exact q3
  | ret v => exact q3
 | false =>
  rw [zVf zVj];exact wpAny_execs_nil ⟨σ1,H2,I2,q2⟩
end
structure It where
 go : Nat -> Hp -> Prop
 yld : Nat -> Hp -> V -> Hp -> Prop
 stop : Nat -> Hp -> Prop
def zCT (X : Cx) (zB : List (Addr × Obj)) (H : Hp) (b : Addr) : Prop :=
 H b = none /\ b ≠ X.env.locals /\ b ∉ X.fs /\ (b ∈ X.ex \/ X.s₀.heap.objs.size <= b) /\ (∀ x c,X.env.cells.lookup x = some c -> c ≠ b) /\ ∀ p ∈ X.pn ++ zB,p.1 ≠ b
theorem Inv.fpOk {X : Cx} {zB : List (Addr × Obj)} {σ : St} {H H' : Hp} {s : Shared} {b : Addr} (I : Inv X zB σ H s) (hb : s.heap.objs.size <= b) (hn : H' b = none) : zCT X zB H' b:=by
 refine ⟨hn,zWs (zVm I.lt hb),I.nofs hb,.inr (zVo I.sz hb),fun x c e z => ?_,fun p hp z => ?_⟩
 ·obtain ⟨v,q⟩:=I.cell x c e;exact absurd (zVm q.lt (by rw [z]; exact hb)) (zV5 _)
 ·exact absurd (zVm (zVY (I.pin p hp).1) (by rw [z]; exact hb)) (zV5 _)
structure Turn (P : Program) (w : World) (K : PySem.W.Frag) (tg : Expr) (J : It) (fp : List Addr) (it : Addr) (tn : Nat -> Heap -> Prop) : Prop where
 mem : it ∈ fp
 obj : ∀ i h,tn i h -> ∀ b ∈ fp,∃ o,h.get? b = some o /\ ∀ v,o.data ≠ .cell v
 keep : ∀ i h h',tn i h -> (∀ b ∈ fp,∀ o,h.get? b = some o -> h'.get? b = some o) -> tn i h'
 item : ∀ (X : Cx),X.prog = P -> X.w = w -> X.K = K -> X.calm = true -> ∀ (i : Nat) (zB : List (Addr × Obj)) (s : Shared) (σ : St) (H : Hp) (E : Value -> Shared -> Prop),Inv X zB σ H s -> (∀ b ∈ fp,zCT X zB H b) -> tn i s.heap -> J.go i H ->
  wpAny (model P w) X.A (pyNext (.ref it)) (fun r s1 => ∃ u,r = some u /\
   wpAny (model P w) X.A (letOwnedTupleGo tg (.ref it) u) (fun _ s2 => ∃ x H',Inv X zB σ H' s2 /\ zv x u /\ J.yld i H x H' /\ tn (i + 1) s2.heap /\ ∀ b ∈ fp,H' b = none) E s1) E s
 done : ∀ (X : Cx),X.prog = P -> X.w = w -> X.K = K -> X.calm = true -> ∀ (i : Nat) (zB : List (Addr × Obj)) (s : Shared) (σ : St) (H : Hp) (E : Value -> Shared -> Prop),Inv X zB σ H s -> (∀ b ∈ fp,zCT X zB H b) -> tn i s.heap -> J.stop i H ->
  wpAny (model P w) X.A (pyNext (.ref it)) (fun r s1 => r = none /\ Inv X zB σ H s1) E s
 self : ∀ (A : Around) (i : Nat) (s : Shared) (Q : Value -> Shared -> Prop) (E : Value -> Shared -> Prop),tn i s.heap -> Q (.ref it) s -> wpAny (model P w) A (pyIter (.ref it)) Q E s
abbrev TI:=St -> Hp -> (It -> Hp -> Prop) -> Prop
def PIE (X : Cx) (zB : List (Addr × Obj)) (σ : St) (tg : Expr) (R : It -> Hp -> Prop) (itv : Value) (s2 : Shared) : Prop :=
 ∃ (it : Addr) (fp : List Addr) (tn : Nat -> Heap -> Prop) (J : It) (H' : Hp),itv = .ref it /\ Inv X zB σ H' s2 /\ Turn X.prog X.w X.K tg J fp it tn /\ tn 0 s2.heap /\ (∀ b ∈ fp,zCT X zB H' b) /\ R J H'
def PI (X : Cx) (tg iter : Expr) (wi : TI) : Prop :=
  ∀ (zB : List (Addr × Obj)) (s : Shared) (σ : St) (H : Hp) (R : It -> Hp -> Prop),Inv X zB σ H s -> wi σ H R ->
    wpAny (model X.prog X.w) X.A (eval iter X.env) (fun v s1 => wpAny (model X.prog X.w) X.A (pyIter v) (PIE X zB σ tg R) X.xe s1) X.xe s
theorem zP5 {M : Model} {A : Around} {E : Value -> Shared -> Prop} {s : Shared} {tg : Expr} {it : Addr} {u : Value} {o : Obj} {n : String} {vs : Array Value} {Q : Unit -> Shared -> Prop} (ho : s.heap.get? it = some o) (hc : o.cls = .type n) (hd : o.data = .fields vs)
    (hn : ["enumerate", "zip", "dict_itemiterator", "dict_reverseitemiterator", "odict_iterator", "itertools.zip_longest", "itertools.pairwise"].contains n = false) (hQ : Q () s) : wpAny M A (letOwnedTupleGo tg (.ref it) u) Q E s:=by
  unfold letOwnedTupleGo
  cases tg <;> first
    | exact zVP hQ
    | (cases u <;> first
        | exact zVP hQ
        | (refine zVN (wpAny_load ho ?_)
           rw [hc,hd];show wpAny M A (if (["enumerate", "zip", "dict_itemiterator", "dict_reverseitemiterator", "odict_iterator", "itertools.zip_longest", "itertools.pairwise"].contains n && vs[0]? == some (rawInt _)) = true then _ else _) Q E s;rw [zVf (by intro h; rw [hn,Bool.false_and] at h; cases h)];exact zVP hQ))
def Itl (K : PySem.W.Frag) (a : Addr) : It :=
 ⟨fun i H => ∃ xs x,SqL K H a xs /\ xs[i]? = some x,fun i H x H' => H' = H /\ ∀ xs,SqL K H a xs -> xs[i]? = some x,fun i H => ∃ xs,SqL K H a xs /\ xs.length <= i⟩
def Itt (K : PySem.W.Frag) (a : Addr) : It :=
 ⟨fun i H => ∃ xs x,SqT K H a xs /\ xs[i]? = some x,fun i H x H' => H' = H /\ ∀ xs,SqT K H a xs -> xs[i]? = some x,fun i H => ∃ xs,SqT K H a xs /\ xs.length <= i⟩
def Itr (lo : Int) (n : Nat) : It:=⟨fun i _ => i < n,fun i H x H' => H' = H /\ x = .int (lo + i),fun i _ => n <= i⟩
theorem zN5 {P : Program} {w : World} {K : PySem.W.Frag} {tg : Expr} (a it : Addr) : Turn P w K tg (Itl K a) [it] it (fun i h => h.IsListIter it a i) where
 mem:=by simp
 obj:=fun i h st b hb => by
  have e : b = it:=by simpa using hb
  subst e;obtain ⟨o,e,c,d⟩:=st;exact ⟨o,e,fun v z => by rw [d] at z; cases z⟩
 keep:=fun i h h' st k => st.at fun o e => k it (by simp) o e;item:=by
  intro X hP hw hK hc i zB s σ H E I hf st hg;subst hP hw hK;obtain ⟨xs,x,hq,hx⟩:=hg;obtain ⟨its,rv,p,hz⟩:=I.list hq;obtain ⟨u,hu,ru⟩:=rv.get hx;obtain ⟨f0,f1,f2,f3,f4,f5⟩:=hf it (by simp);refine wpAny_pyNext_list_item st p.isList (x:=u) (by simpa using hu) fun h' st' sb => ?_;have I1 : Inv X zB σ H { s with heap:=h' }:=I.turned (t':=s.toks) (fun b o hb e => (sb.2 b hb).trans e) f0 f1 f3 f4 f5;obtain ⟨o,e,c,d⟩:=id st';exact ⟨u,rfl,zP5 (s:={ s with heap:=h' }) e c d (by decide) ⟨x,H,I1,ru,⟨rfl,fun ys hy => by rw [I.list_inj hy hq]; exact hx⟩,st',fun b hb => (hf b hb).1⟩⟩
 done:=by
  intro X hP hw hK hc i zB s σ H E I hf st hg;subst hP hw hK;obtain ⟨xs,hq,hx⟩:=hg;obtain ⟨its,rv,p,hz⟩:=I.list hq;obtain ⟨f0,f1,f2,f3,f4,f5⟩:=hf it (by simp);have hl:=rv.length;exact wpAny_pyNext_list_end (I.ok.hd hc) st p.isList (by simp; omega) fun h' eb => ⟨rfl,I.turned (t':=s.toks) (fun b o hb e => eb b o hb e) f0 f1 f3 f4 f5⟩
 self:=fun _ _ _ _ _ st h => wpAny_pyIter_listiter st h
theorem zMA {P : Program} {w : World} {K : PySem.W.Frag} {tg : Expr} (a it : Addr) : Turn P w K tg (Itt K a) [it] it (fun i h => h.IsTupleIter it a i) where
 mem:=by simp
 obj:=fun i h st b hb => by
  have e : b = it:=by simpa using hb
  subst e;obtain ⟨o,e,c,d⟩:=st;exact ⟨o,e,fun v z => by rw [d] at z; cases z⟩
 keep:=fun i h h' st k => st.at fun o e => k it (by simp) o e;item:=by
  intro X hP hw hK hc i zB s σ H E I hf st hg;subst hP hw hK;obtain ⟨xs,x,hq,hx⟩:=hg;obtain ⟨its,rv,p,hz⟩:=I.tuple hq;obtain ⟨u,hu,ru⟩:=rv.get hx;obtain ⟨f0,f1,f2,f3,f4,f5⟩:=hf it (by simp);refine wpAny_pyNext_tuple_item st (show s.heap.IsTuple a its.toArray from p) (x:=u) (by simpa using hu) fun h' st' sb => ?_;have I1 : Inv X zB σ H { s with heap:=h' }:=I.turned (t':=s.toks) (fun b o hb e => (sb.2 b hb).trans e) f0 f1 f3 f4 f5;obtain ⟨o,e,c,d⟩:=id st';exact ⟨u,rfl,zP5 (s:={ s with heap:=h' }) e c d (by decide) ⟨x,H,I1,ru,⟨rfl,fun ys hy => by rw [I.tuple_inj hy hq]; exact hx⟩,st',fun b hb => (hf b hb).1⟩⟩
 done:=by
  intro X hP hw hK hc i zB s σ H E I hf st hg;subst hP hw hK;obtain ⟨xs,hq,hx⟩:=hg;obtain ⟨its,rv,p,hz⟩:=I.tuple hq;obtain ⟨f0,f1,f2,f3,f4,f5⟩:=hf it (by simp);have hl:=rv.length;exact wpAny_pyNext_tuple_end (I.ok.hd hc) st (show s.heap.IsTuple a its.toArray from p) (by simp; omega) fun h' eb => ⟨rfl,I.turned (t':=s.toks) (fun b o hb e => eb b o hb e) f0 f1 f3 f4 f5⟩
 self:=fun _ _ _ _ _ st h => wpAny_pyIter_tupleiter st h
theorem zLt {P : Program} {w : World} {K : PySem.W.Frag} {tg : Expr} (it : Addr) (lo : Int) (n : Nat) : Turn P w K tg (Itr lo n) [it] it (fun i h => IsRangeIter h it (lo + (i : Nat) * 1) ((n : Int) - (i : Nat)) 1) where
 mem:=by simp
 obj:=fun i h st b hb => by
  have e : b = it:=by simpa using hb
  subst e;exact ⟨_,st,fun v z => by
   have z' : Data.fields _ = Data.cell v:=z;cases z'⟩
 keep:=fun i h h' st k => k it (by simp) _ st;item:=by
  intro X hP hw hK hc i zB s σ H E I hf st hg;subst hP hw hK;obtain ⟨f0,f1,f2,f3,f4,f5⟩:=hf it (by simp);have W:=Walks.range (prog:=X.prog) (w:=X.w) (I.ok.hd hc) it lo 1 n;refine W.item i s _ _ hg st fun v h' tk hv st' kk => ?_;obtain ⟨t,rfl⟩:=hv;have I1 : Inv X zB σ H { s with heap:=h',toks:=tk }:=I.turned (fun b o hb e => kk b o (by simpa using hb) e) f0 f1 f3 f4 f5;refine ⟨_,rfl,zP5 (s:={ s with heap:=h',toks:=tk }) (n := "range_iterator") st' rfl rfl (by decide) ⟨.int (lo + i),H,I1,⟨t,?_⟩,⟨rfl,rfl⟩,st',fun b hb => (hf b hb).1⟩⟩;rw [Int.mul_one]
 done:=by
  intro X hP hw hK hc i zB s σ H E I hf st hg;subst hP hw hK;obtain ⟨f0,f1,f2,f3,f4,f5⟩:=hf it (by simp);exact wpAny_pyNext_range_end (I.ok.hd hc) st (by have : n <= i:=hg; omega) fun h' eb => ⟨rfl,I.turned (t':=s.toks) (fun b o hb e => eb b o hb e) f0 f1 f3 f4 f5⟩
 self:=fun _ _ _ _ _ st h => wpAny_pyIter_rangeiter st h
section
variable {X : Cx} {tg : Expr}
theorem zOd {zB : List (Addr × Obj)} {σ : St} {H : Hp} {s : Shared} {R : It -> Hp -> Prop} {E : Value -> Shared -> Prop} {lo hi : Int} {t u v : Tok} {tk : Nat} (I : Inv X zB σ H s) (h1 : -(2 ^ 62) <= lo) (h2 : lo < 2 ^ 62) (h3 : -(2 ^ 62) <= hi) (h4 : hi < 2 ^ 62)
  (q : R (Itr lo (hi - lo).toNat) H) : wpAny (model X.prog X.w) X.A (pyIter (.ref s.heap.objs.size)) (PIE X zB σ tg R) E { s with heap:=s.heap.push { cls:=.type "range", data:=.fields #[.int lo t,.int hi u,.int 1 v] },toks:=tk }:=by
 refine wpAny_pyIter_range (IsRange.new ..) (small_one h1 h2 h3 h4) ?_;have I1 : Inv X zB σ H { s with heap:=s.heap.push { cls:=.type "range", data:=.fields #[.int lo t,.int hi u,.int 1 v] },toks:=tk }:=I.kept fun b o e => zVO _ e
 refine ⟨(s.heap.push { cls:=.type "range", data:=.fields #[.int lo t,.int hi u,.int 1 v] }).objs.size,[(s.heap.push { cls:=.type "range", data:=.fields #[.int lo t,.int hi u,.int 1 v] }).objs.size],_,_,H,rfl,
  I1.kept (t':=tk) fun b o e => zVO _ e,zLt _ lo (hi - lo).toNat,?_,fun b hb => ?_,q⟩
 ·have e1 : lo + ((0 : Nat) : Int) * 1 = lo:=by simp
  have e2 : (((hi - lo).toNat : Nat) : Int) - ((0 : Nat) : Int) = Builtin.Range.rangeSize lo hi 1:=by rw [rangeSize_one]; split <;> omega
  show IsRangeIter _ _ (lo + ((0 : Nat) : Int) * 1) ((((hi - lo).toNat : Nat) : Int) - ((0 : Nat) : Int)) 1;rw [e1,e2];exact zVX _ rfl
 ·have e : b = (s.heap.push { cls:=.type "range", data:=.fields #[.int lo t,.int hi u,.int 1 v] }).objs.size:=by simpa using hb
  subst e;exact I1.fpOk (zVT _) (I1.hok.fresh (zVT _))
def zUi (ta : TA) : TI:=fun σ H R => ta σ H fun vs H1 => ∃ j : Int,vs = [.int j] /\ -(2 ^ 62) <= j /\ j < 2 ^ 62 /\ R (Itr 0 j.toNat) H1
theorem zNo {a : Expr} {ta : TA} {p pos : Pos} (hg : Gl X "range") (hm : X.mg "range" = none) (ha : PA X [a] ta) (hs : starEach [a] X.env = [(false,eval a X.env)]:=by rfl) : PI X tg (.Call (.Name "range" p) [a] [] pos) (zUi ta):=by
 intro zB s σ H R I h;refine Call_ (zEc I hg hm boot_range (PyProof.Rows.callWith_type1 (thn (ha pos zB s σ H _ I h) fun us s1 ⟨vs,H1,I1,r1,q1⟩ => ?_) hs rfl));obtain ⟨j,e,q1,q2,q⟩:=q1;subst e;cases r1 with
 | cons r rr =>
  cases rr;obtain ⟨t,rfl⟩:=r;exact call_range_1 (zOd I1 (by omega) (by omega) q1 q2 (by simpa using q))
def zUK (wi : TI) (g : TG) (tb : TS) : TS:=fun D σ H => wi σ H fun J H1 => ∃ W : Nat -> Nat -> St -> Hp -> Prop,(∃ m,W 0 m σ H1) /\ ∀ i m σ H,W i m σ H ->
 (J.stop i H /\ D.nx σ H) \/ (J.go i H /\ ∃ N : St -> Hp -> Prop,(∀ σ' H',N σ' H' -> ∃ m',m' < m /\ W (i + 1) m' σ' H') /\ ∀ x H',J.yld i H x H' -> g x σ H' fun σ2 H2 => tb { D with nx:=N,ct:=N,bk:=D.nx } σ2 H2)
def zDR (fp : List Addr) (h : Heap) : List (Addr × Obj):=fp.filterMap fun b => (h.get? b).map fun o => (b,o)
theorem zAa {fp : List Addr} {h : Heap} {b : Addr} {o : Obj} (hb : b ∈ fp) (e : h.get? b = some o) : (b,o) ∈ zDR fp h:=List.mem_filterMap.mpr ⟨b,hb,by rw [e]; rfl⟩
theorem zJS {fp : List Addr} {h : Heap} {p : Addr × Obj} (hp : p ∈ zDR fp h) : p.1 ∈ fp /\ h.get? p.1 = some p.2:=by
 obtain ⟨b,hb,e⟩:=List.mem_filterMap.mp hp;cases q : h.get? b with
 | none => rw [q] at e; cases e
 | some o =>
  rw [q] at e;have e' : (b,o) = p:=zWN e;subst e';exact ⟨hb,q⟩
theorem Inv.pinned {zB : List (Addr × Obj)} {σ : St} {H : Hp} {s : Shared} {fp : List Addr} (I : Inv X zB σ H s) (hf : ∀ b ∈ fp,zCT X zB H b) (ho : ∀ b ∈ fp,∃ o,s.heap.get? b = some o /\ ∀ v,o.data ≠ .cell v) : Inv X (zB ++ zDR fp s.heap) σ H s :=
 I.pins_of fun p hp => (zVn.mp hp).elim (fun z => I.pin p (zVh _ z)) fun z => by
  obtain ⟨hb,e⟩:=zJS z;obtain ⟨f0,f1,f2,_⟩:=hf p.1 hb;obtain ⟨o,e',d⟩:=ho p.1 hb;rw [e] at e'; cases e';exact ⟨e,f0,f1,f2,d⟩
theorem Inv.unpinned {zB pl : List (Addr × Obj)} {σ : St} {H : Hp} {s : Shared} (I : Inv X (zB ++ pl) σ H s) : Inv X zB σ H s:=I.pins_of fun p hp => I.pin p (zVh _ (zWc _ hp))
theorem zTZ {iter : Expr} {body : List Stmt} {wi : TI} {g : TG} {tb : TS} {pos : Pos} (hp : PassesOwn (model X.prog X.w) X.A X.env X.xe) (hc : X.calm = true) (hi : PI X tg iter wi) (hg : PG X tg g) (hb : PSs X body tb)
  (hs : ∀ x,foldedSetIterable iter X.env x = pure x:=by intro _; rfl) : PS X (.For tg iter body [] pos) (zUK wi g tb):=by
 intro zB s σ H D I h;refine wpAny_For (thn (hi zB s σ H _ I h) fun v s1 h1 => thn h1 fun itv s2 h2 => ?_) hs;obtain ⟨it,fp,tn,J,H2,e,I2,T,st2,f2,W,⟨m0,w0⟩,turn⟩:=h2;subst e;have stat : ∀ {H' : Hp},(∀ b ∈ fp,H' b = none) -> ∀ b ∈ fp,zCT X zB H' b:=fun hn b hb => ⟨hn b hb,(f2 b hb).2⟩;refine codeAny_forLoop_any (fun n s' => ∃ i σ' H',Inv X zB σ' H' s' /\ tn i s'.heap /\ (∀ b ∈ fp,H' b = none) /\ W i n σ' H') ?_ m0 ⟨0,σ,H2,I2,st2,fun b hb => (f2 b hb).1,w0⟩;rintro n s3 ⟨i,σ3,H3,I3,st3,fr3,w3⟩;rcases turn i n σ3 H3 w3 with ⟨stop,qn⟩ | ⟨go,N,hN,step⟩
 ·refine wpAny_passesOwn hp (thn (T.done X rfl rfl rfl hc i zB s3 σ3 H3 X.xe I3 (stat fr3) st3 stop) fun r s4 ⟨hr,I4⟩ => ?_);subst hr;exact wpAny_execs_nil ⟨σ3,H3,I4,qn⟩
 ·refine wpAny_passesOwn hp (thn (T.item X rfl rfl rfl hc i zB s3 σ3 H3 X.xe I3 (stat fr3) st3 go) fun r s4 ⟨u,hr,h4⟩ => ?_);subst hr;refine wpAny_passesOwn hp (thn h4 fun _ s5 ⟨x,H5,I5,r5,y5,st5,fr5⟩ => ?_);have I5':=I5.pinned (stat fr5) (T.obj _ _ st5);refine wpAny_passesOwn hp (thn (hg _ s5 σ3 H5 x u _ I5' r5 (step x H5 y5)) fun _ s6 ⟨σ6,H6,I6,q6⟩ => ?_);refine wpAny_passesOwn hp (thn (hb _ s6 σ6 H6 _ I6 q6) fun f s7 q7 => ?_);have again : ∀ {σ7 : St} {H7 : Hp},Inv X (zB ++ zDR fp s5.heap) σ7 H7 s7 -> N σ7 H7 -> ∃ m,m < n /\ ∃ i σ' H',Inv X zB σ' H' s7 /\ tn i s7.heap /\ (∀ b ∈ fp,H' b = none) /\ W i m σ' H':=fun {σ7 H7} I7 n7 => by
   obtain ⟨m',hm,w7⟩:=hN σ7 H7 n7;refine ⟨m',hm,i + 1,σ7,H7,I7.unpinned,T.keep _ _ _ st5 fun b hb o e => (I7.pin (b,o) (zVh _ (zVh _ (zAa hb e)))).1,fun b hb => ?_,w7⟩;obtain ⟨o,e,d⟩:=T.obj _ _ st5 b hb;exact (I7.pin (b,o) (zVh _ (zVh _ (zAa hb e)))).2.1
  cases f with
  | next => obtain ⟨σ7,H7,I7,n7⟩:=q7; exact again I7 n7
  | cont => obtain ⟨σ7,H7,I7,n7⟩:=q7; exact again I7 n7
  | brk => obtain ⟨σ7,H7,I7,q7⟩:=q7; exact ⟨σ7,H7,I7.unpinned,q7⟩
  | ret v => obtain ⟨x7,σ7,H7,I7,r7,q7⟩:=q7; exact ⟨x7,σ7,H7,I7.unpinned,r7,q7⟩
end
abbrev R2:=V -> V -> Hp -> VK -> Prop
def OpR (X : Cx) (f : Value -> Value -> Sem Value) (r : R2) : Prop :=
 ∀ (zB : List (Addr × Obj)) (s : Shared) (σ : St) (H : Hp) (x y : V) (v u : Value) (Q : VK),Inv X zB σ H s -> zv x v -> zv y u -> r x y H Q ->
  wpAny (model X.prog X.w) X.A (f v u) (EP X zB σ Q) X.xe s
def UnR (X : Cx) (f : Value -> Sem Value) (r : V -> Hp -> VK -> Prop) : Prop :=
 ∀ (zB : List (Addr × Obj)) (s : Shared) (σ : St) (H : Hp) (x : V) (v : Value) (Q : VK),Inv X zB σ H s -> zv x v -> r x H Q ->
  wpAny (model X.prog X.w) X.A (f v) (EP X zB σ Q) X.xe s
def zCr (X : Cx) (f : Value) (r : List V -> Hp -> VK -> Prop) : Prop :=
 ∀ (zB : List (Addr × Obj)) (s : Shared) (σ : St) (H : Hp) (xs : List V) (us : List Value) (Q : VK),Inv X zB σ H s -> zo xs us -> r xs H Q ->
  wpAny (model X.prog X.w) X.A (call f us) (EP X zB σ Q) X.xe s
def zVF (X : Cx) (r : V -> Hp -> (Bool -> Hp -> Prop) -> Prop) : Prop :=
 ∀ (zB : List (Addr × Obj)) (s : Shared) (σ : St) (H : Hp) (x : V) (v : Value) (Q : Bool -> Hp -> Prop),Inv X zB σ H s -> zv x v -> r x H Q ->
  wpAny (model X.prog X.w) X.A (truthy v) (TP X zB σ Q) X.xe s
def tOp (r : R2) (ta tb : TE) : TE:=fun σ H Q => ta σ H fun x H1 => tb σ H1 fun y H2 => r x y H2 Q
def tUn (r : V -> Hp -> VK -> Prop) (ta : TE) : TE:=fun σ H Q => ta σ H fun x H1 => r x H1 Q
def rI (C : Int -> Int -> Prop) (g : Int -> Int -> V) : R2:=fun x y H Q => ∃ i j,x = .int i /\ y = .int j /\ C i j /\ Q (g i j) H
def rI0 (g : Int -> Int -> V) : R2:=fun x y H Q => ∃ i j,x = .int i /\ y = .int j /\ Q (g i j) H
def rU (g : Int -> V) : V -> Hp -> VK -> Prop:=fun x H Q => ∃ i,x = .int i /\ Q (g i) H
section
variable {X : Cx} {a b c : Expr} {ta tb tc : TE} {pos : Pos}
theorem zSz (ha : PE X a ta) (hb : PE X b tb) {zB : List (Addr × Obj)} {s : Shared} {σ : St} {H : Hp} {R : V -> V -> Hp -> Prop} (I : Inv X zB σ H s)
  (h : ta σ H fun x H1 => tb σ H1 fun y H2 => R x y H2) {Q : Value -> Shared -> Prop} {f : Value -> Value -> Sem Value}
  (hf : ∀ v u s2 x y H2,Inv X zB σ H2 s2 -> zv x v -> zv y u -> R x y H2 -> wpAny (model X.prog X.w) X.A (f v u) Q X.xe s2) :
  wpAny (model X.prog X.w) X.A (eval a X.env) (fun v s₁ => wpAny (model X.prog X.w) X.A (eval b X.env) (fun u s₂ => wpAny (model X.prog X.w) X.A (f v u) Q X.xe s₂) X.xe s₁) X.xe s:=by
 refine thn (ha zB s σ H _ I h) fun v s1 ⟨x,H1,I1,r1,q1⟩ => ?_;refine thn (hb zB s1 σ H1 _ I1 q1) fun u s2 ⟨y,H2,I2,r2,q2⟩ => ?_;exact hf v u s2 x y H2 I2 r1 r2 q2
theorem zUI {op : Operator} {r : R2} (ho : OpR X (binaryOp op) r) (ha : PE X a ta) (hb : PE X b tb) : PE X (.BinOp a op b pos) (tOp r ta tb):=by
 intro zB s σ H Q I h;exact wpAny_BinOp (zSz ha hb I h fun v u s2 x y H2 I2 rx ry q => ho zB s2 σ H2 x y v u Q I2 rx ry q)
theorem zUe {op : UnaryOp} {r : V -> Hp -> VK -> Prop} (ho : UnR X (unaryOp op) r) (ha : PE X a ta) : PE X (.UnaryOp op a pos) (tUn r ta):=by
 intro zB s σ H Q I h;exact UnaryOp_ (thn (ha zB s σ H _ I h) fun v s1 ⟨x,H1,I1,r1,q1⟩ => ho zB s1 σ H1 x v Q I1 r1 q1)
theorem opI {f : Value -> Value -> Sem Value} {C : Int -> Int -> Prop} {g : Int -> Int -> Int}
  (rule : ∀ (i j : Int) (t u : Tok) (s : Shared) (Q : Value -> Shared -> Prop) (E : Value -> Shared -> Prop),C i j -> Q (.int (g i j) s.toks) { s with toks:=s.toks + 1 } -> wpAny (model X.prog X.w) X.A (f (.int i t) (.int j u)) Q E s) :
  OpR X f (rI C fun i j => .int (g i j)):=by
 intro zB s σ H x y v u Q I rx ry h;obtain ⟨i,j,rfl,rfl,hc,q⟩:=h;obtain ⟨t,rfl⟩:=rx;obtain ⟨t',rfl⟩:=ry;exact rule i j t t' s _ _ hc ⟨.int (g i j),H,I.tok _,⟨_,rfl⟩,q⟩
theorem zUJ {f : Value -> Value -> Sem Value} {g : Int -> Int -> Int}
  (rule : ∀ (i j : Int) (t u : Tok) (s : Shared) (Q : Value -> Shared -> Prop) (E : Value -> Shared -> Prop),Q (.int (g i j) s.toks) { s with toks:=s.toks + 1 } -> wpAny (model X.prog X.w) X.A (f (.int i t) (.int j u)) Q E s) :
  OpR X f (rI0 fun i j => .int (g i j)):=by
 intro zB s σ H x y v u Q I rx ry h;obtain ⟨i,j,rfl,rfl,q⟩:=h;obtain ⟨t,rfl⟩:=rx;obtain ⟨t',rfl⟩:=ry;exact rule i j t t' s _ _ ⟨.int (g i j),H,I.tok _,⟨_,rfl⟩,q⟩
theorem zRN {f : Value -> Value -> Sem Value} {g : Int -> Int -> Bool}
  (rule : ∀ (i j : Int) (t u : Tok) (s : Shared) (Q : Value -> Shared -> Prop) (E : Value -> Shared -> Prop),Q (.bool (g i j)) s -> wpAny (model X.prog X.w) X.A (f (.int i t) (.int j u)) Q E s) :
  OpR X f (rI0 fun i j => .bl (g i j)):=by
 intro zB s σ H x y v u Q I rx ry h;obtain ⟨i,j,rfl,rfl,q⟩:=h;obtain ⟨t,rfl⟩:=rx;obtain ⟨t',rfl⟩:=ry;exact rule i j t t' s _ _ ⟨.bl (g i j),H,I,rfl,q⟩
def zUz (i j : Int) : Prop:=0 < j /\ j < 1073741824
def zUy (i j : Int) : Prop:=0 <= j /\ j <= 1000000 /\ i.natAbs < 2 ^ 64
def zTq (i j : Int) : Prop:=(-(2 ^ 64) < i /\ i < 2 ^ 64) \/ (-(2 ^ 64) < j /\ j < 2 ^ 64)
theorem zTq.ok {i j : Int} (h : zTq i j) : IntMulOk i j:=by
 rcases h with ⟨h1,h2⟩ | ⟨h1,h2⟩
 ·exact .of_left (intBits_le_64 h1 h2)
 ·exact .of_right (intBits_le_64 h1 h2)
theorem zSd : OpR X (binaryOp .Add) (rI0 fun i j => .int (i + j)):=zUJ fun _ _ _ _ _ _ _ q => add_int q
theorem zSi : OpR X (binaryOp .Sub) (rI0 fun i j => .int (i - j)):=zUJ fun _ _ _ _ _ _ _ q => sub_int q
theorem zS3 : OpR X (binaryOp .Mult) (rI zTq fun i j => .int (i * j)):=opI fun _ _ _ _ _ _ _ hc q => mul_int q hc.ok
theorem zRK : OpR X (binaryOp .FloorDiv) (rI zUz fun i j => .int (i / j)):=opI fun i j _ _ _ _ _ hc q => by
 have h1 : (0 : Int) < j:=hc.1;have h2 : j < 1073741824:=hc.2;exact floordiv_int (by omega) (by rw [Int.fdiv_eq_ediv_of_nonneg i (by omega)]; exact q) (.inl (PyProof.noPylong_small (by omega)))
theorem zSe : OpR X (binaryOp .Mod) (rI (fun _ j => 0 < j) fun i j => .int (i % j)):=opI fun i j _ _ _ _ _ hc q => by
 have h1 : (0 : Int) < j:=hc;exact mod_int' (by omega) (by rw [Int.fmod_eq_emod_of_nonneg i (by omega)]; exact q)
theorem zTm : OpR X (binaryOp .Pow) (rI zUy fun i j => .int (i ^ j.toNat)):=opI fun _ _ _ _ _ _ _ hc q => pow_int_small hc.1 hc.2.1 hc.2.2 q
theorem unI {f : Value -> Sem Value} {g : Int -> Int}
  (rule : ∀ (i : Int) (t : Tok) (s : Shared) (Q : Value -> Shared -> Prop) (E : Value -> Shared -> Prop),Q (.int (g i) s.toks) { s with toks:=s.toks + 1 } -> wpAny (model X.prog X.w) X.A (f (.int i t)) Q E s) :
  UnR X f (rU fun i => .int (g i)):=by
 intro zB s σ H x v Q I rx h;obtain ⟨i,rfl,q⟩:=h;obtain ⟨t,rfl⟩:=rx;exact rule i t s _ _ ⟨.int (g i),H,I.tok _,⟨_,rfl⟩,q⟩
theorem zTs : UnR X (unaryOp .USub) (rU fun i => .int (-i)):=unI fun _ _ _ _ _ q => neg_int q
end
def zRQ : V -> V -> Bool
 | .non,.non => true | .non,.int _ => true | .int _,.non => true | .non,.bl _ => true | .bl _,.non => true | .non,.str _ => true | .str _,.non => true
 | .int _,.int _ => true | .bl _,.bl _ => true | .str _,.str _ => true | .byt _,.byt _ => true
 | .int _,.str _ => true | .str _,.int _ => true | .bl _,.str _ => true | .str _,.bl _ => true
 | _,_ => false
def rEq : R2:=fun x y H Q => zRQ x y = true /\ Q (.bl (decide (x = y))) H
def rNe : R2:=fun x y H Q => zRQ x y = true /\ Q (.bl (!decide (x = y))) H
theorem zMu {i j : Int} : decide (V.int i = V.int j) = (i == j):=by
 rw [Bool.eq_iff_iff];simp
theorem zPg {i j : Bool} : decide (V.bl i = V.bl j) = (i == j):=by
 rw [Bool.eq_iff_iff];simp
theorem zNC {i j : Str} : decide (V.str i = V.str j) = (i == j):=by
 rw [Bool.eq_iff_iff];simp
theorem zNM {i j : Array UInt8} : decide (V.byt i = V.byt j) = (i.toList == j.toList):=by
 rw [Bool.eq_iff_iff];cases i;cases j;simp
section
variable {X : Cx} {a b c : Expr} {ta tb tc : TE} {pos : Pos}
theorem zAA {zB : List (Addr × Obj)} {σ : St} {H : Hp} {s : Shared} {Q : VK} {k k' : Bool} (I : Inv X zB σ H s) (q : Q (.bl k) H) (e : k = k') : EP X zB σ Q (.bool k') s:=by
 subst e;exact ⟨.bl k,H,I,rfl,q⟩
theorem zSb : OpR X (compareOp .Eq) rEq:=by
 intro zB s σ H x y v u Q I rx ry h;obtain ⟨hs,q⟩:=h;cases x with
 | non =>
  cases rx;cases y with
  | non => cases ry; exact PySem.EqNone.eq_none_none (zAA I q (by simp))
  | bl j => cases ry; exact PySem.EqNone.eq_none_bool (zAA I q (by simp))
  | int j => obtain ⟨t',rfl⟩:=ry; exact PySem.EqNone.eq_none_int (zAA I q (by simp))
  | str j => obtain ⟨t',rfl⟩:=ry; exact PySem.EqNone.eq_none_str (zAA I q (by simp))
  | _ => exact absurd (show false = true from hs) zVj
 | bl i =>
  cases rx;cases y with
  | non => cases ry; exact PySem.EqNone.eq_bool_none (zAA I q (by simp))
  | bl j => cases ry; exact eq_bool (zAA I q zPg)
  | str j => obtain ⟨t',rfl⟩:=ry; exact PySem.EqMixed.eq_bool_str (zAA I q (by simp))
  | _ => exact absurd (show false = true from hs) zVj
 | int i =>
  obtain ⟨t,rfl⟩:=rx;cases y with
  | non => cases ry; exact PySem.EqNone.eq_int_none (zAA I q (by simp))
  | int j => obtain ⟨t',rfl⟩:=ry; exact eq_int (zAA I q zMu)
  | str j => obtain ⟨t',rfl⟩:=ry; exact PySem.EqMixed.eq_int_str (zAA I q (by simp))
  | _ => exact absurd (show false = true from hs) zVj
 | str i =>
  obtain ⟨t,rfl⟩:=rx;cases y with
  | non => cases ry; exact PySem.EqNone.eq_str_none (zAA I q (by simp))
  | bl j => cases ry; exact PySem.EqMixed.eq_str_bool (zAA I q (by simp))
  | int j => obtain ⟨t',rfl⟩:=ry; exact PySem.EqMixed.eq_str_int (zAA I q (by simp))
  | str j => obtain ⟨t',rfl⟩:=ry; exact eq_str (zAA I q zNC)
  | _ => exact absurd (show false = true from hs) zVj
 | byt i =>
  obtain ⟨t,rfl⟩:=rx;cases y with
  | byt j => obtain ⟨t',rfl⟩:=ry; exact PySem.W.eq_bytes (zAA I q zNM)
  | _ => exact absurd (show false = true from hs) zVj
 | _ => cases y <;> exact absurd (show false = true from hs) zVj
theorem zUp : OpR X (compareOp .NotEq) rNe:=by
 intro zB s σ H x y v u Q I rx ry h;obtain ⟨hs,q⟩:=h;cases x with
 | non =>
  cases rx;cases y with
  | non => cases ry; exact PySem.EqNone.ne_none_none (zAA I q (by simp))
  | bl j => cases ry; exact PySem.EqNone.ne_none_bool (zAA I q (by simp))
  | int j => obtain ⟨t',rfl⟩:=ry; exact PySem.EqNone.ne_none_int (zAA I q (by simp))
  | str j => obtain ⟨t',rfl⟩:=ry; exact PySem.EqNone.ne_none_str (zAA I q (by simp))
  | _ => exact absurd (show false = true from hs) zVj
 | bl i =>
  cases rx;cases y with
  | non => cases ry; exact PySem.EqNone.ne_bool_none (zAA I q (by simp))
  | bl j => cases ry; exact ne_bool (zAA I q (zXA not zPg))
  | str j => obtain ⟨t',rfl⟩:=ry; exact PySem.EqMixed.ne_bool_str (zAA I q (by simp))
  | _ => exact absurd (show false = true from hs) zVj
 | int i =>
  obtain ⟨t,rfl⟩:=rx;cases y with
  | non => cases ry; exact PySem.EqNone.ne_int_none (zAA I q (by simp))
  | int j => obtain ⟨t',rfl⟩:=ry; exact ne_int (zAA I q (zXA not zMu))
  | str j => obtain ⟨t',rfl⟩:=ry; exact PySem.EqMixed.ne_int_str (zAA I q (by simp))
  | _ => exact absurd (show false = true from hs) zVj
 | str i =>
  obtain ⟨t,rfl⟩:=rx;cases y with
  | non => cases ry; exact PySem.EqNone.ne_str_none (zAA I q (by simp))
  | bl j => cases ry; exact PySem.EqMixed.ne_str_bool (zAA I q (by simp))
  | int j => obtain ⟨t',rfl⟩:=ry; exact PySem.EqMixed.ne_str_int (zAA I q (by simp))
  | str j => obtain ⟨t',rfl⟩:=ry; exact ne_str (zAA I q (zXA not zNC))
  | _ => exact absurd (show false = true from hs) zVj
 | byt i =>
  obtain ⟨t,rfl⟩:=rx;cases y with
  | byt j => obtain ⟨t',rfl⟩:=ry; exact PySem.W.ne_bytes (zAA I q (zXA not zNM))
  | _ => exact absurd (show false = true from hs) zVj
 | _ => cases y <;> exact absurd (show false = true from hs) zVj
theorem zPW : OpR X (compareOp .Lt) (rI0 fun i j => .bl (decide (i < j))):=zRN fun _ _ _ _ _ _ _ q => lt_int q
theorem zT8 : OpR X (compareOp .LtE) (rI0 fun i j => .bl (decide (i <= j))):=zRN fun _ _ _ _ _ _ _ q => le_int q
theorem zUR : OpR X (compareOp .Gt) (rI0 fun i j => .bl (decide (j < i))):=zRN fun _ _ _ _ _ _ _ q => gt_int q
theorem zUn : OpR X (compareOp .GtE) (rI0 fun i j => .bl (decide (j <= i))):=zRN fun _ _ _ _ _ _ _ q => ge_int q
theorem OpR.or {f : Value -> Value -> Sem Value} {r r' : R2} (h : OpR X f r) (h' : OpR X f r') : OpR X f (fun x y H Q => r x y H Q \/ r' x y H Q):=by
 intro zB s σ H x y v u Q I rx ry q;rcases q with q | q
 ·exact h zB s σ H x y v u Q I rx ry q
 ·exact h' zB s σ H x y v u Q I rx ry q
theorem zEf (b : Expr) {op : CmpOp} (h : op ≠ .In:=by decide) (h2 : op ≠ .NotIn:=by decide) : behindInMarks op b = false:=by
 have e1 : (op == CmpOp.In) = false:=by cases op <;> first | rfl | exact absurd rfl h
 have e2 : (op == CmpOp.NotIn) = false:=by cases op <;> first | rfl | exact absurd rfl h2
 cases b <;> simp [behindInMarks,e1,e2]
theorem zQ3 {op : CmpOp} {r : R2} (ho : OpR X (compareOp op) r) (ha : PE X a ta) (hb : PE X b tb) (hm : behindInMarks op b = false) : PE X (.Compare a [op] [b] pos) (tOp r ta tb):=by
 intro zB s σ H Q I h;exact wpAny_Compare1 (zSz ha hb I h fun v u s2 x y H2 I2 rx ry q => ho zB s2 σ H2 x y v u Q I2 rx ry q) hm
def zND (t : TE) : TT:=fun σ H Q => t σ H fun x H' => ∃ k,x = .bl k /\ Q k H'
theorem zRd {op : CmpOp} {r : R2} (ho : OpR X (compareOp op) r) (ha : PE X a ta) (hb : PE X b tb) (hm : behindInMarks op b = false) : PT X (.Compare a [op] [b] pos) (zND (tOp r ta tb)):=by
 intro zB s σ H Q I h;refine wpAny_isTrue_Compare1 (thn (ha zB s σ H _ I h) fun v s1 ⟨x,H1,I1,r1,q1⟩ => thn (hb zB s1 σ H1 _ I1 q1) fun u s2 ⟨y,H2,I2,r2,q2⟩ =>
  thn (ho zB s2 σ H2 x y v u _ I2 r1 r2 q2) fun c s3 ⟨z,H3,I3,r3,k,e,q3⟩ => ?_) hm
 subst e;cases r3;exact zWZ ⟨H3,I3,q3⟩
def zOt (r r' : R2) (ta tb tc : TE) : TE:=fun σ H Q => ta σ H fun x H1 => tb σ H1 fun y H2 => r x y H2 fun z H3 => ∃ k,z = .bl k /\
 (if k = true then tc σ H3 fun w' H4 => r' y w' H4 Q else Q (.bl false) H3)
theorem zPT {op op' : CmpOp} {r r' : R2} (ho : OpR X (compareOp op) r) (ho' : OpR X (compareOp op') r') (ha : PE X a ta) (hb : PE X b tb) (hc : PE X c tc)
  (hm : lastMarks [op,op'] [b,c] = false:=by with_unfolding_all rfl) : PE X (.Compare a [op,op'] [b,c] pos) (zOt r r' ta tb tc):=by
 intro zB s σ H Q I h;refine Compare_chain (thn (ha zB s σ H _ I h) fun v s1 ⟨x,H1,I1,r1,q1⟩ => chain_link (thn (hb zB s1 σ H1 _ I1 q1) fun u s2 ⟨y,H2,I2,r2,q2⟩ =>
  thn (ho zB s2 σ H2 x y v u _ I2 r1 r2 q2) fun d s3 ⟨z,H3,I3,r3,k,e,q3⟩ => ?_)) hm
 subst e;cases r3;refine zWZ ?_;cases k with
 | false => exact ite_ff ⟨.bl false,H3,I3,rfl,q3⟩
 | true => exact ite_tt (chain_last (thn (hc zB s3 σ H3 _ I3 q3) fun w' s4 ⟨z',H4,I4,r4,q4⟩ => ho' zB s4 σ H4 y z' u w' Q I4 r2 r4 q4))
def zUg (K : PySem.W.Frag) (x : V) (H : Hp) (k : Bool) : Prop :=
 match x with
 | .non => k = false
 | .bl b => k = b
 | .int i => k = (i != 0)
 | .str y => y.length <= sizeLine /\ k = ((y.length : Int) != 0)
 | .byt y => y.size <= sizeLine /\ k = ((y.size : Int) != 0)
 | .ref p => (∃ xs,SqL K H p xs /\ k = !xs.isEmpty) \/ (∃ xs,SqT K H p xs /\ k = !xs.isEmpty) \/ ∃ kvs,H p = some (.dK kvs) /\ k = !kvs.isEmpty
 | _ => False
theorem zLv {κ : Type} {kvs : List (κ × V)} {vs : List (κ × Value)} (r : KV kvs vs) : (!vs.isEmpty) = !kvs.isEmpty:=by
 cases r <;> rfl
theorem zH1 {xs : List V} {its : List Value} (r : zo xs its) : (!its.toArray.isEmpty) = !xs.isEmpty:=by
 cases r <;> simp
theorem zGR : (sizeLine : Nat) < 2 ^ 63:=by rw [sizeLine_eq]; decide
theorem zTp : zVF X (fun x H Q => ∃ k,zUg X.K x H k /\ Q k H):=by
 intro zB s σ H x v Q I rx h;obtain ⟨k,e,q⟩:=h;have hl:=zGR;have hs : sizeLine = 16777216:=sizeLine_eq;cases x with
 | non =>
  cases rx;have e' : k = false:=e;subst e';exact truthy_none ⟨H,I,q⟩
 | bl b =>
  cases rx;have e' : k = b:=e;subst e';exact zWZ ⟨H,I,q⟩
 | int i =>
  obtain ⟨t,rfl⟩:=rx;have e' : k = (i != 0):=e;subst e';exact PySem.P.truthy_int ⟨H,I,q⟩
 | str y =>
  obtain ⟨t,rfl⟩:=rx;obtain ⟨hy,e'⟩ : y.length <= sizeLine /\ k = ((y.length : Int) != 0):=e;subst e';exact PySem.P.truthy_str (by omega) ⟨H,I.tok _,q⟩
 | byt y =>
  obtain ⟨t,rfl⟩:=rx;obtain ⟨hy,e'⟩ : y.size <= sizeLine /\ k = ((y.size : Int) != 0):=e;subst e';exact PySem.W.truthy_bytes (by omega) ⟨H,I.tok _,q⟩
 | ref p =>
  cases rx;have e' : (∃ xs,SqL X.K H p xs /\ k = !xs.isEmpty) \/ (∃ xs,SqT X.K H p xs /\ k = !xs.isEmpty) \/ ∃ kvs,H p = some (.dK kvs) /\ k = !kvs.isEmpty:=e;rcases e' with ⟨xs,hx,e'⟩ | ⟨xs,hx,e'⟩ | ⟨kvs,hx,e'⟩
  ·subst e';obtain ⟨its,r,pl,hz⟩:=I.list hx;have hlen:=r.length;exact wpAny_truthy_list pl.isList (by simp only [zVV]; omega) ⟨H,I.tok _,by rw [zH1 r]; exact q⟩
  ·subst e';obtain ⟨its,r,pl,hz⟩:=I.tuple hx;have hlen:=r.length;exact truthy_tuple pl (by simp only [zVV]; omega) ⟨H,I.tok _,by rw [zH1 r]; exact q⟩
  ·subst e';obtain ⟨hz,hS,vs,r,m⟩ : kvs.length <= sizeLine /\ (p == sysModules) = false /\ ∃ vs,KV kvs vs /\ s.heap.DictOf (zAl X.prog X.w) p vs:=I.hok p _ hx;have hlen : kvs.length = vs.length:=Paired.length r;exact wpAny_truthy_dict hS m (by omega) ⟨H,I.tok _,by rw [zLv r]; exact q⟩
 | _ => exact (show False from e).elim
theorem zOh (ha : PE X a ta) (he : ∀ whole,isTrue a X.env whole = (do let v <- whole; standAt a.pos; holding [v] (truthy v))) :
  PT X a (fun σ H Q => ta σ H fun x H' => ∃ k,zUg X.K x H' k /\ Q k H'):=by
 intro zB s σ H Q I h;exact isTrue_plain (thn (ha zB s σ H _ I h) fun v s1 ⟨x,H1,I1,r1,q1⟩ => zTp zB s1 σ H1 x v Q I1 r1 q1) (he _)
theorem zEZ {x : V} {us : List Value} (r : zo [x] us) : ∃ u,us = [u] /\ zv x u:=by
 cases r with
 | cons r1 r2 => cases r2; exact ⟨_,rfl,r1⟩
theorem zQR : zCr X (.builtin "abs") (fun xs H Q => ∃ i,xs = [.int i] /\ Q (.int (if i < 0 then -i else i)) H):=by
 intro zB s σ H xs us Q I r h;obtain ⟨i,rfl,q⟩:=h;obtain ⟨u,rfl,t,rfl⟩:=zEZ r;exact call_abs_int fun u tk => ⟨.int (if i < 0 then -i else i),H,I.tok _,⟨_,rfl⟩,q⟩
theorem zOC : zCr X (.type "int") (fun xs H Q => (∃ i,xs = [.int i] /\ Q (.int i) H) \/ ∃ k,xs = [.bl k] /\ Q (.int (if k then 1 else 0)) H):=by
 intro zB s σ H xs us Q I r h;rcases h with ⟨i,rfl,q⟩ | ⟨k,rfl,q⟩
 ·obtain ⟨u,rfl,t,rfl⟩:=zEZ r;exact call_int_int ⟨.int i,H,I,⟨_,rfl⟩,q⟩
 ·obtain ⟨u,rfl,r1⟩:=zEZ r;cases r1;exact call_int_bool ⟨.int (if k then 1 else 0),H,I.tok _,⟨_,rfl⟩,q⟩
end
structure ObjM (h : Heap) (x dx C : Addr) (mA : Str -> Option Value) : Prop where
 obj : h.get? x = some (PySem.W.instObj C dx)
 ns : h.Ns1 dx mA
 ne : dx ≠ x
theorem zNy {h : Heap} {dx : Addr} {mA : Str -> Option Value} (n : h.Ns1 dx mA) : ∃ od,h.get? dx = some od /\ ∀ name,PySem.W.lookIn name od = some (mA name):=by
 obtain ⟨o,es,ep,ho,hd,hk,_,hm⟩:=n;refine ⟨o,ho,fun name => ?_⟩;have e:=hm name;unfold nsFind findBy at e;rw [<- Array.find?_toList] at e;unfold PySem.W.lookIn;rw [hd];dsimp only;split
 ·rename_i y q;rw [q] at e;exact zXA some e
 ·rename_i q;rw [q] at e;have a : es.toList.any (·.refKey) = false:=by
   rw [List.any_eq_false];intro y hy;obtain ⟨z,t,hkey⟩:=hk y (Array.mem_toList_iff.mp hy);simp [DictEntry.refKey,hkey]
  have a' : ¬ es.toList.any (·.refKey) = true:=by rw [a]; exact zVj
  rw [zVf a'];exact zXA some e
theorem ObjM.look {h : Heap} {x dx C : Addr} {mA : Str -> Option Value} (I : ObjM h x dx C mA) : ∃ od,PySem.W.InstAt h x (PySem.W.instObj C dx) C (some od) /\ ∀ name,PySem.W.lookIn name od = some (mA name) :=
 let ⟨od,ho,hl⟩:=zNy I.ns
 ⟨od,⟨I.obj,rfl,rfl,ho⟩,hl⟩
theorem zF9.some_of {v : V} {o : Option Value} (r : zF9 (some v) o) : ∃ u,o = some u /\ zv v u:=by
 cases o with
 | none => exact (show False from r).elim
 | some u => exact ⟨u,rfl,r⟩
section
variable {P : Program} {w : World} {H H' : Hp} {h h' : Heap} {a C dx : Addr} {fs fs' : List (Str × V)}
theorem zQn (hok : HOk P w H h) (e : H a = some (.ins C dx fs)) : ∃ mA,ObjM h a dx C mA /\ (∀ f,zF9 (fs.lookup f) (mA f)) /\ PySem.Within mA (fs.map (·.1)) /\ fs.length <= 1000 /\ H dx = some (.own a):=by
 obtain ⟨d,z,ne,ob,mA,n,r,q⟩:=(show zAh P w H h a (.ins C dx fs) from hok a _ e);exact ⟨mA,⟨ob,n,ne⟩,r,q,z,d⟩
end
structure Cls (K : PySem.W.Frag) (C : Addr) : Prop where
 pg : PySem.W.plainGet K C Str.empty = true
 hd : PySem.W.hasDictIn K C = true
 po : PySem.W.plainOver K C = true
 sa : PySem.W.findIn K (.ref C) "__setattr__" = some (some (.builtin "object.__setattr__"))
theorem Cls.get {K : PySem.W.Frag} {C : Addr} (c : Cls K C) (f : Str) : PySem.W.plainGet K C f = true:=c.pg
section
variable {X : Cx} {zB : List (Addr × Obj)} {σ : St} {H : Hp} {s : Shared} {A : Around} {E : Value -> Shared -> Prop} {Q : Value -> Shared -> Prop} {c : Value} {b : Bool}
set_option genInjectivity true in
inductive TyOf (K : PySem.W.Frag) (H : Hp) : V -> Value -> Prop where
 | non : TyOf K H .non (.type "NoneType")
 | bl (x : Bool) : TyOf K H (.bl x) (.type "bool")
 | int (i : Int) : TyOf K H (.int i) (.type "int")
 | str (x : Str) : TyOf K H (.str x) (.type "str")
 | flt (x : UInt64) : TyOf K H (.flt x) (.type "float")
 | lst {a : Addr} {xs : List V} (e : H a = some (.lst xs)) : TyOf K H (.ref a) (.type "list")
 | frz {a : Addr} {o : Obj} {xs : List V} (e : H a = some (.frz o (.lst xs))) : TyOf K H (.ref a) (.type "list")
 | tup {a : Addr} {xs : List V} (e : H a = some (.tup xs)) : TyOf K H (.ref a) (.type "tuple")
 | dK {a : Addr} {kvs : List (Key × V)} (e : H a = some (.dK kvs)) : TyOf K H (.ref a) (.type "dict")
 | dT {a : Addr} {kvs : List (List Key × V)} (e : H a = some (.dT kvs)) : TyOf K H (.ref a) (.type "dict")
 | ins {a C dx : Addr} {fs : List (Str × V)} (e : H a = some (.ins C dx fs)) (cl : Cls K C) (ha : PySem.W.findIn K (.ref C) "__class__" = some (some (.builtin "object.__class__")))
   (hn : PySem.W.specialIn K (.builtin "object.__class__") "__get__" = some (some (.builtin "getset_descriptor.__get__"))) (htk : PySem.W.takesIn K (.builtin "object.__class__") = some true)
   (hm : PySem.W.mroIn K C (.type "object") = some true) : TyOf K H (.ref a) (.ref C)
theorem zNp {x : V} {u t : Value} (I : Inv X zB σ H s) (rx : zv x u) (ty : TyOf X.K H x t) (e : PySem.W.kitOne X.K t c = some b) (h : ∀ tk,Q (.bool b) { s with toks:=tk }) :
  wpAny (model X.prog X.w) A (call (.builtin "isinstance") [u,c]) Q E s:=by
 cases ty with
 | non => cases (show u = Value.none from rx); exact zW0 PySem.W.kitx_none I.kIn True.intro e (fun z => nomatch z) h
 | bl y => cases (show u = Value.bool y from rx); exact zW0 PySem.W.kitx_bool I.kIn True.intro e (fun z => nomatch z) h
 | int i => obtain ⟨t,q⟩:=(show ∃ t,u = Value.int i t from rx); cases q; exact zW0 PySem.W.kitx_int I.kIn True.intro e (fun z => nomatch z) h
 | str y => obtain ⟨t,q⟩:=(show ∃ t,u = Value.str y t from rx); cases q; exact zW0 PySem.W.kitx_str I.kIn True.intro e (fun z => nomatch z) h
 | flt y => obtain ⟨t,q⟩:=(show ∃ t,u = Value.float y t from rx); cases q; exact zW0 PySem.W.kitx_float I.kIn True.intro e (fun z => nomatch z) h
 | @lst a xs ea =>
  cases (show u = Value.ref a from rx);obtain ⟨_,_,n,_,h1⟩:=(show zAh X.prog X.w H s.heap a (.lst xs) from I.hok a _ ea);exact zW0 PySem.W.kitx_list I.kIn ⟨_,h1,rfl⟩ e (fun z => nomatch z) h
 | @frz a ob xs ea =>
  cases (show u = Value.ref a from rx);obtain ⟨_,_,_,n,_,h1⟩:=(show zAh X.prog X.w H s.heap a (.frz ob (.lst xs)) from I.hok a _ ea);exact zW0 PySem.W.kitx_list I.kIn ⟨_,h1,rfl⟩ e (fun z => nomatch z) h
 | @tup a xs ea =>
  cases (show u = Value.ref a from rx);obtain ⟨_,_,_,p⟩:=(show zAh X.prog X.w H s.heap a (.tup xs) from I.hok a _ ea);obtain ⟨o,h1,h2,_⟩:=p;exact zW0 PySem.W.kitx_tuple I.kIn ⟨o,h1,h2⟩ e (fun z => nomatch z) h
 | @dK a kvs ea =>
  cases (show u = Value.ref a from rx);obtain ⟨_,_,vs,_,p⟩:=(show zAh X.prog X.w H s.heap a (.dK kvs) from I.hok a _ ea);obtain ⟨o,es,ep,h1,h2,_⟩:=p;exact zW0 PySem.W.kitx_dict I.kIn ⟨o,h1,h2.1⟩ e (fun z => nomatch z) h
 | @dT a kvs ea =>
  cases (show u = Value.ref a from rx);obtain ⟨_,_,xs,_,o,es,ep,h1,h2,_⟩:=(show zAh X.prog X.w H s.heap a (.dT kvs) from I.hok a _ ea);exact zW0 PySem.W.kitx_dict I.kIn ⟨o,h1,h2.1⟩ e (fun z => nomatch z) h
 | @ins a C dx fs ea cl ha hn htk hm =>
  cases (show u = Value.ref a from rx);obtain ⟨mA,O,_⟩:=zQn I.hok ea;obtain ⟨od,J,_⟩:=O.look;exact zW0 (PySem.W.kitx_own (cl.get _) cl.hd ha hn htk hm) I.kIn J e (fun z => nomatch z) h
end
structure Room (k : Nat) (A : Around) : Prop where
 hd : A.handled = none
 dp : A.depth + 3 * k + 5 < recursionLimit
 un : A.units + 16 * k + 200 < cLine
theorem Room.mono {j k : Nat} {A : Around} (r : Room k A) (h : j <= k) : Room j A:=⟨r.hd,by have:=r.dp; omega,by have:=r.un; omega⟩
theorem Room.deeper {k : Nat} {A : Around} (r : Room (k + 1) A) (env : Env) : Room k (A.deeper env) :=
 ⟨r.hd,by have:=r.dp; show A.depth + 1 + 3 * k + 5 < _; omega,by have:=r.un; show A.units + 3 + 16 * k + 200 < _; omega⟩
theorem Room.depth {k : Nat} {A : Around} (r : Room k A) : A.depth < recursionLimit:=by have:=r.dp; omega
theorem Room.units {k : Nat} {A : Around} (r : Room k A) : A.units + 64 < cLine:=by have:=r.un; omega
theorem Room.units0 {k : Nat} {A : Around} (r : Room k A) : A.units < cLine:=by have:=r.un; omega
def zU6 : TA:=fun _ H Q => Q [] H
def zUo (ta : TE) (tr : TA) : TA:=fun σ H Q => ta σ H fun x H1 => tr σ H1 fun xs H2 => Q (x :: xs) H2
section
variable {X : Cx} {e : Expr} {es : List Expr} {te : TE} {t : TA} {pos : Pos}
theorem zHG : PA X [] zU6:=fun _ _ _ _ H Q I h => Calls.spliced_nil ⟨[],H,I,.nil,h⟩
theorem zEo (ha : PE X e te) (hr : PA X es t) (hs : starEach (e :: es) X.env = (false,eval e X.env) :: starEach es X.env:=by rfl) : PA X (e :: es) (zUo te t):=by
 intro pos zB s σ H Q I h;rw [hs];show wpAny _ _ (spliced ((false,eval e X.env) :: backTo pos (starEach es X.env))) _ _ s;refine Calls.spliced_cons (thn (ha zB s σ H _ I h) fun u s1 ⟨x,H1,I1,r1,q1⟩ => ?_);exact thn (hr pos zB s1 σ H1 _ I1 q1) fun us s2 ⟨xs,H2,I2,r2,q2⟩ => ⟨x :: xs,H2,I2,.cons r1 r2,q2⟩
def zUx (t : TA) : TE:=fun σ H Q => t σ H fun xs H1 => xs.length <= sizeLine /\ ∀ p,H1 p = none -> Q (.ref p) (upd H1 p (.tup xs))
def zVH (t : TA) : TE:=fun σ H Q => t σ H fun xs H1 => xs.length <= sizeLine /\ ∀ p,H1 p = none -> Q (.ref p) (upd H1 p (.lst xs))
theorem zTX {x1} (h : PA X es t) : PE X (.Tuple es x1 pos) (zUx t):=by
 intro zB s σ H Q I hq;refine wpAny_Tuple_spliced (thn (h pos zB s σ H _ I hq) fun us s1 ⟨xs,H1,I1,r,z,q⟩ => ⟨by rw [<- r.length]; exact z,?_⟩);have hf : H1 s1.heap.objs.size = none:=I1.hok.fresh (zVT _);refine ⟨.ref s1.heap.objs.size,upd H1 s1.heap.objs.size (.tup xs),I1.laid (t':=s1.toks) (fun b u e => zVO _ e) (zVT _) ?_,rfl,q _ hf⟩;exact ⟨z,us,r,⟨_,zVX _ rfl,rfl,⟨_,rfl⟩,rfl⟩⟩
theorem zSv (h : PA X es t) : PE X (.List es pos) (zVH t):=by
 intro zB s σ H Q I hq;refine wpAny_List_spliced (thn (h pos zB s σ H _ I hq) fun us s1 ⟨xs,H1,I1,r,z,q⟩ => ⟨by rw [<- r.length]; exact z,?_⟩);have hf : H1 s1.heap.objs.size = none:=I1.hok.fresh (zVT _);refine ⟨.ref s1.heap.objs.size,upd H1 s1.heap.objs.size (.lst xs),I1.laid (t':=s1.toks) (fun b u e => zVO _ e) (zVT _) ?_,rfl,q _ hf⟩;exact ⟨z,us,0,r,zVX _ rfl⟩
end
abbrev Sp:=List V -> Hp -> VK -> XK -> Prop
abbrev CXT:=List Env -> Hp -> Shared -> XK -> Value -> Shared -> Prop
structure Env0 (P : Program) (w : World) (K : PySem.W.Frag) (mg : Str -> Option Value) (base : Heap) (A : Around) (outer : List Env) (s : Shared) (H : Hp) : Prop where
 frames : A.frames = some outer
 mod : Mod K mg base
 bs : ∀ b o,base.get? b = some o -> s.heap.get? b = some o /\ H b = none
 bsz : base.objs.size <= s.heap.objs.size
 funs : s.heap.FunFrames base outer
 frf : ∀ b ∈ frs outer,H b = none
 hok : HOk P w H s.heap
 bare : AllBare s.gens
def CE (outer : List Env) (P : Program) (w : World) (H : Hp) (s : Shared) (Q : VK) (u : Value) (s' : Shared) : Prop :=
 ∃ v H',s'.os = s.os /\ AllBare s'.gens /\ Un (frs outer) [] H H' s.heap s'.heap /\ HOk P w H' s'.heap /\ zv v u /\ Q v H'
def CR (CX : CXT) (outer : List Env) (P : Program) (w : World) (H : Hp) (s : Shared) (Q : VK) (E : XK) (r : Result) (s' : Shared) : Prop :=
 match r with
 | .ok (.ret u) => CE outer P w H s Q u s'
 | .ok _ => False
 | .error e => CX outer H s E e s'
structure FnOk (P : Program) (w : World) (K : PySem.W.Frag) (mg : Str -> Option Value) (base : Heap) (CX : CXT) (k : Nat) (f : Addr) (fd : FuncData) (ps : List Str) (sp : Sp) : Prop where
 len : ∀ vs H Q E,sp vs H Q E -> vs.length = ps.length
 run : ∀ (A : Around) (outer : List Env) (s : Shared) (H : Hp) (args : Args) (us : List Value) (vs : List V) (Q : VK) (E : XK),Room k A -> Env0 P w K mg base A outer s H -> BindsTo s fd args (ps.zip us) -> zo vs us -> sp vs H Q E ->
  codeAny (model P w) A (.call (.ref f) args) (CR CX outer P w H s Q E) s
theorem FnOk.imp {P : Program} {w : World} {K : PySem.W.Frag} {mg : Str -> Option Value} {base : Heap} {CX : CXT} {k : Nat} {f : Addr} {fd : FuncData} {ps : List Str} {sp sp' : Sp} (F : FnOk P w K mg base CX k f fd ps sp)
  (h : ∀ vs H Q E,sp' vs H Q E -> sp vs H Q E) : FnOk P w K mg base CX k f fd ps sp' :=
 ⟨fun vs H Q E q => F.len vs H Q E (h _ _ _ _ q),fun A outer s H args us vs Q E hr he hb hv hs => F.run A outer s H args us vs Q E hr he hb hv (h _ _ _ _ hs)⟩
section
variable {X : Cx} {zB : List (Addr × Obj)} {σ : St} {H : Hp} {s s' : Shared}
theorem Inv.env0 (I : Inv X zB σ H s) : Env0 X.prog X.w X.K X.mg X.base X.A X.stack s H :=
 ⟨I.ok.frames,I.ok.mod,I.bs,zVo I.ok.bsz I.sz,I.stack,I.stkFree,I.hok,I.bare⟩
theorem Inv.after {Q : VK} {u : Value} (I : Inv X zB σ H s) (h : CE X.stack X.prog X.w H s Q u s') : EP X zB σ Q u s':=by
 obtain ⟨v,H',os,bare,un,hok,r,q⟩:=h;obtain ⟨hh,g,d,t,os'⟩:=s';obtain rfl : os' = s.os:=os;exact ⟨v,H',I.call (h':=hh) (g':=g) (d':=d) (t':=t) (ch:=[]) un hok bare (fun b z => absurd z (by simp)),r,q⟩
end
def zUP (sp : Sp) (dvs : List V) (E : XK) (t : TA) : TE:=fun σ H Q => t σ H fun vs H1 => sp (vs ++ dvs) H1 Q E
def zIQ (K : PySem.W.Frag) (fd : FuncData) (ps : List Str) (ds : List Value) : Prop :=
 ∀ (s : Shared) (us : List Value),K.In s.heap -> (us ++ ds).length = ps.length -> BindsTo s fd ⟨us,[]⟩ (ps.zip (us ++ ds))
theorem zIQ.all {K : PySem.W.Frag} {fd : FuncData} {ps : List Str} (h : ∀ us : List Value,us.length = ps.length -> bindArgs fd ⟨us,[]⟩ = pure (ps.zip us)) : zIQ K fd ps []:=fun s us _ hl => by
 rw [zV7] at hl ⊢;exact .of_eq (h us hl)
def zLw (CX : CXT) (X : Cx) (E : XK) : Prop:=∀ (zB : List (Addr × Obj)) (σ : St) (H : Hp) (s : Shared) (e : Value) (s' : Shared),Inv X zB σ H s -> CX X.stack H s E e s' -> X.xe e s'
section
variable {X : Cx} {CX : CXT} {k : Nat} {f C : Addr} {fd : FuncData} {ps : List Str} {sp : Sp} {dvs : List V} {ds : List Value} {E : XK} {x m : Str} {p pos apos : Pos} {e o : Expr} {es : List Expr} {ta : TE} {t : TA}
theorem zTO {zB : List (Addr × Obj)} {σ : St} {H : Hp} {s : Shared} {Q : VK} {us : List Value} {vs : List V} (F : FnOk X.prog X.w X.K X.mg X.base CX k f fd ps sp) (hr : Room k X.A) (hb : zIQ X.K fd ps ds) (hd : zo dvs ds) (hx : zLw CX X E)
  (I : Inv X zB σ H s) (r : zo vs us) (h : sp (vs ++ dvs) H Q E) : wpAny (model X.prog X.w) X.A (call (.ref f) us) (EP X zB σ Q) X.xe s:=by
 have r2 : zo (vs ++ dvs) (us ++ ds):=r.append hd;have hl : (us ++ ds).length = ps.length:=by rw [<- r2.length]; exact F.len _ _ _ _ h
 refine wpAny_call (codeAny_mono (F.run X.A X.stack s H ⟨us,[]⟩ (us ++ ds) (vs ++ dvs) Q E hr I.env0 (hb s us I.kIn hl) r2 h) fun r s' hq => ?_);cases r with
 | error e => exact hx zB σ H s e s' I hq
 | ok fl =>
  cases fl with
  | ret u => exact I.after hq
  | next => exact False.elim hq
  | brk => exact False.elim hq
  | cont => exact False.elim hq
theorem zQ5 (F : FnOk X.prog X.w X.K X.mg X.base CX k f fd ps sp) (hr : Room k X.A) (hg : Gl X x) (hm : X.mg x = some (.ref f)) (hk : PySem.W.keepIn X.K (.ref f) = true) (hb : zIQ X.K fd ps ds) (hd : zo dvs ds) (hx : zLw CX X E)
  (ha : PA X (e :: es) t) (hdb : (x == ("__debug__" : Str)) = false:=by decide) (he : starEach (e :: es) X.env = (false,eval e X.env) :: starEach es X.env:=by rfl) (hpl : (backTo pos (starEach es X.env)).any (·.1) = false:=by rfl) :
  PE X (.Call (.Name x p) (e :: es) [] pos) (zUP sp dvs E t):=by
 intro zB s σ H Q I h;refine wpAny_Call_Name_kw (zQ4 I hg hm ?_ hdb);refine PySem.W.callWith_K (h₀:=X.base) I.ok.mod.kin hk (thn (ha pos zB s σ H _ I h) fun us s1 ⟨vs,H1,I1,r,q⟩ => ⟨I1.kIn,?_⟩) he hpl;exact zTO F hr hb hd hx I1 r q
end
structure FnScope (N P : List Str) (sc : Scope) : Prop where
 kind : sc.kind = .function
 co : sc.isCoroutine = false
 gen : sc.isGenerator = false
 nd : N.Nodup
 pre : N.take P.length = P
 par : ∀ x ∈ P,sc.names.lookup x = some .local \/ sc.names.lookup x = some .cell
 nofree : ∀ y ∈ sc.names,y.2 ≠ .free
theorem zJL {kindOf : Str -> Option NameKind} {x : Str} : ∀ {binds : List (Str × Value)} {m : Str -> Option Value},(∀ v,(x,v) ∉ binds) -> bindL kindOf binds m x = m x
 | [],_,_ => rfl
 | (n,v) :: r,m,h => by
  unfold bindL;rw [zJL fun w hw => h w (zVa _ hw)];split
  ·have : x ≠ n:=by rintro rfl; exact h v zVb
   simp [this]
  ·rfl
theorem zJP {kindOf : Str -> Option NameKind} {x : Str} : ∀ {binds : List (Str × Value)} {m : Str -> Option Value},(∀ v,(x,v) ∉ binds) -> bindC kindOf binds m x = m x
 | [],_,_ => rfl
 | (n,v) :: r,m,h => by
  unfold bindC;rw [zJP fun w hw => h w (zVa _ hw)];split
  ·rfl
  ·have : x ≠ n:=by rintro rfl; exact h v zVb
   simp [this]
theorem zJI {kindOf : Str -> Option NameKind} {x : Str} {v : Value} : ∀ {P : List Str} {vs : List Value} {i : Nat} {m : Str -> Option Value},P.Nodup -> P[i]? = some x -> vs[i]? = some v -> kindOf x = some .local ->
  bindL kindOf (P.zip vs) m x = some v
 | [],_,_,_,_,h,_,_ => by simp at h
 | _ :: _,[],_,_,_,_,h,_ => by simp at h
 | p :: P,w :: vs,0,m,nd,h1,h2,hk => by
  simp at h1 h2; subst h1; subst h2;show bindL kindOf ((p,w) :: P.zip vs) m p = _;unfold bindL;rw [zJL fun v hv => (List.nodup_cons.mp nd).1 (List.of_mem_zip hv).1,zVc hk];simp
 | p :: P,w :: vs,i + 1,m,nd,h1,h2,hk => by
  show bindL kindOf ((p,w) :: P.zip vs) m x = _;unfold bindL;exact zJI (i:=i) (List.nodup_cons.mp nd).2 (by simpa using h1) (by simpa using h2) hk
theorem zIj {kindOf : Str -> Option NameKind} {x : Str} {v : Value} : ∀ {P : List Str} {vs : List Value} {i : Nat} {m : Str -> Option Value},P.Nodup -> P[i]? = some x -> vs[i]? = some v -> kindOf x ≠ some .local ->
  bindC kindOf (P.zip vs) m x = some v
 | [],_,_,_,_,h,_,_ => by simp at h
 | _ :: _,[],_,_,_,_,h,_ => by simp at h
 | p :: P,w :: vs,0,m,nd,h1,h2,hk => by
  simp at h1 h2; subst h1; subst h2;show bindC kindOf ((p,w) :: P.zip vs) m p = _;unfold bindC;rw [zJP fun v hv => (List.nodup_cons.mp nd).1 (List.of_mem_zip hv).1,zVf hk];simp
 | p :: P,w :: vs,i + 1,m,nd,h1,h2,hk => by
  show bindC kindOf ((p,w) :: P.zip vs) m x = _;unfold bindC;exact zIj (i:=i) (List.nodup_cons.mp nd).2 (by simpa using h1) (by simpa using h2) hk
def zE5 (N : List Str) (vs : List V) : St:=vs.map some ++ List.replicate (N.length - vs.length) none
def zL2 (CX : CXT) (P : Program) (w : World) (K : PySem.W.Frag) (mg : Str -> Option Value) (base : Heap) (N : List Str) (qual : Str) (scope : Scope) (f : Addr) (cd : Value) (A : Around) (outer : List Env) (s : Shared) (H : Hp) (E : XK) : Cx where
 prog:=P
 w:=w
 K:=K
 mg:=mg
 base:=base
 A:=A.deeper (envOfC qual scope s.heap.objs.size f cd)
 N:=N
 s₀:=s
 H₀:=H
 env:=envOfC qual scope s.heap.objs.size f cd
 outer:=outer
 stack:=envOfC qual scope s.heap.objs.size f cd :: outer
 ex:=[]
 calm:=true
 fn:=fun _ => true
 pn:=[]
 xe:=fun e s' => wpAny (model P w) (A.deeper (envOfC qual scope s.heap.objs.size f cd)) (leaving (envOfC qual scope s.heap.objs.size f cd) e) (fun _ s'' => CX outer H s E e s'') (fun e' s'' => CX outer H s E e' s'') s'
theorem zH0 {sc : Scope} {n : Nat} {x : Str} (h : sc.names.lookup x = some .cell) : ∃ c,(cellsFrom n sc.names []).lookup x = some c:=by
 have q:=PySem.W.cellsFrom_some sc.names n [] (.inl h);exact Option.isSome_iff_exists.mp q
theorem zNT {CX : CXT} {P : Program} {w : World} {K : PySem.W.Frag} {mg : Str -> Option Value} {base : Heap} {N ps : List Str} {qual : Str} {scope : Scope} {f : Addr} {cd : Value} {A : Around} {outer : List Env} {s s1 : Shared} {H : Hp} {E : XK} {us : List Value} {vs : List V}
  (S : FnScope N ps scope) (hd : A.handled = none) (e0 : Env0 P w K mg base A outer s H) (hl : vs.length = ps.length) (r : zo vs us)
  (x : InCallC s s.heap.objs.size (bindL (envOfC qual scope s.heap.objs.size f cd).kindOf (ps.zip us) fun _ => none) (cellsFrom (s.heap.objs.size + 1) scope.names []) (bindC (envOfC qual scope s.heap.objs.size f cd).kindOf (ps.zip us) fun _ => none) s1) :
  Inv (zL2 CX P w K mg base N qual scope f cd A outer s H E) [] (zE5 N vs) H s1:=by
 have hpl : ps.length <= N.length:=by have:=zXA List.length S.pre; rw [zWl] at this; omega
 obtain ⟨h1,tk,rfl,hk⟩:=x.done;have noA : ∀ b : Addr,b ∉ (zL2 CX P w K mg base N qual scope f cd A outer s H E).ex:=fun b z => absurd (show b ∈ ([] : List Addr) from z) (by simp)
 refine ⟨⟨e0.mod,S.kind,rfl,rfl,zVT _,fun y z c h1 h2 => ?_,fun y hy => ?_,fun y c _ h => ?_,fun _ => hd,Around.frames_deeper e0.frames,.inr ⟨rfl,rfl⟩,fun b z => absurd z (noA b),e0.bs,e0.bsz,fun b _ _ => noA b,fun b z => absurd z (noA b),e0.funs,e0.frf⟩,
  rfl,e0.bare,Un.kept hk,⟨_,x.toInCall.ns,fun i y v h1 h2 h3 => ?_⟩,fun y c h => ⟨_,x.cell y c h⟩,e0.hok.fresh (zVT _),fun y c h => ?_,fun p hp => absurd (show p ∈ ([] : List (Addr × Obj)) from hp) (by simp),e0.hok.kept hk,?_⟩
 ·exact name_of_addr x.apart (zWP h1) (zWP h2)
 ·have hy : scope.names.lookup y = some .cell \/ scope.names.lookup y = some .free:=hy;rcases hy with hy | hy
  ·exact zH0 hy
  ·exact absurd rfl (S.nofree _ (zWP hy))
 ·exact Nat.le_of_lt (x.above y c (zWP h))
 ·have hi : i < vs.length:=by
   unfold zE5 at h2;by_cases hi : i < vs.length
   ·exact hi
   ·rw [zWX (by simpa using hi)] at h2;rw [List.getElem?_replicate] at h2;split at h2 <;> cases h2
  have ha : vs[i]? = some v:=by
   unfold zE5 at h2;rw [zVU (by simpa using hi),zVk] at h2;cases e : vs[i]? with
   | none => rw [e] at h2; cases h2
   | some a => rw [e] at h2; cases h2; rfl
  obtain ⟨u,hu,rv⟩:=r.get ha;have hp : ps[i]? = some y:=by
   rw [<- S.pre,List.getElem?_take_of_lt (by omega)]; exact h1
  have ndP : ps.Nodup:=by rw [<- S.pre]; exact S.nd.sublist (List.take_sublist _ _)
  refine ⟨u,rv,?_⟩;rcases S.par y (List.mem_of_getElem? hp) with k | k
  ·exact .inl ⟨k,zJI ndP hp hu k⟩
  ·obtain ⟨c,e⟩:=zH0 (n:=s.heap.objs.size + 1) k;refine .inr ⟨.inl k,c,e,?_⟩;have q:=x.cell y c e;rw [zIj ndP hp hu (by show scope.names.lookup y ≠ _; rw [k]; decide)] at q;exact q
 ·exact e0.hok.fresh (Nat.le_of_lt (x.above y c (zWP h)))
 ·unfold zE5;show _ = N.length;rw [zVd,zVW,List.length_replicate];omega
theorem zUO {CX : CXT} {P : Program} {w : World} {K : PySem.W.Frag} {mg : Str -> Option Value} {base : Heap} {k : Nat} {f : Addr} {name qual : Str} {params : Arguments} {body : List Stmt} {scope : Scope} {dV kV doc pm cdv ct oc : Value} {an od : Option Addr}
  {osl : Array (Option Value)} {N ps : List Str} {sp : Sp} (lk : K.lookup f = some ⟨oc,od,.func (PySem.W.fnOf name qual params body scope dV kV doc pm an cdv ct),osl⟩) (hcd : PySem.W.codeIn K cdv qual = true) (S : FnScope N ps scope)
  (len : ∀ vs H Q E,sp vs H Q E -> vs.length = ps.length)
  (hbody : ∀ (A : Around) (outer : List Env) (s : Shared) (H : Hp) (vs : List V) (Q : VK) (E : XK),Room k (A.deeper (envOfC qual scope s.heap.objs.size f cdv)) -> sp vs H Q E ->
   ∃ t,PSs (zL2 CX P w K mg base N qual scope f cdv A outer s H E) body t /\ t { nx:=fun _ H' => Q .non H',rt:=Q } (zE5 N vs) H) :
  FnOk P w K mg base CX (k + 1) f (PySem.W.fnOf name qual params body scope dV kV doc pm an cdv ct) ps sp:=by
 refine ⟨len,fun A outer s H args us vs Q E hr e0 hb r hsp => ?_⟩;have hl:=len _ _ _ _ hsp;have KX : K.In s.heap:=e0.mod.kin.keeps fun b o e => (e0.bs b o e).1;have lim : s.heap.NoLimit:=e0.mod.nolimit.keeps fun b o e => (e0.bs b o e).1;have hkind : ∀ y ∈ ps.zip us,scope.names.lookup y.1 = some .local \/ (scope.names.lookup y.1 = some .cell /\ ((cellsFrom (s.heap.objs.size + 1) scope.names []).lookup y.1).isSome = true):=fun ⟨n,v⟩ hy => by
  rcases S.par n (List.of_mem_zip hy).1 with q | q
  ·exact .inl q
  ·exact .inr ⟨q,PySem.W.cellsFrom_some _ _ _ (.inl q)⟩
 refine codeAny_call_function hr.depth (KX _ _ lk) rfl S.co S.gen rfl (PySem.W.codeRec_of KX hcd) (hb _ _ _ _ ?_);refine wpAny_newFunctionEnv_cells S.kind hkind fun env he s1 x => ?_;subst he;refine ⟨lim.keeps x.toInCall.keep,codeAny_func ?_⟩;obtain ⟨t,ht,hq⟩:=hbody A outer s H vs Q E (hr.deeper _) hsp;have I : Inv (zL2 CX P w K mg base N qual scope f cdv A outer s H E) [] (zE5 N vs) H s1:=zNT S hr.hd e0 hl r x;refine zVt (ht [] s1 (zE5 N vs) H _ I hq) (fun fl s' hs => ?_) fun e s' hs => hs;have fin : ∀ {σ' : St} {H' : Hp} {v : V} {u : Value},Inv (zL2 CX P w K mg base N qual scope f cdv A outer s H E) [] σ' H' s' -> zv v u -> Q v H' -> CE outer P w H s Q u s' :=
  fun {σ' H' v u} J rv q => ⟨v,H',J.os,J.bare,J.base,J.hok,rv,q⟩
 cases fl with
 | ret u =>
  obtain ⟨v,σ',H',J,rv,q⟩:=hs;exact fin J rv q
 | next =>
  obtain ⟨σ',H',J,q⟩:=hs;exact fin (v:=V.non) (u:=Value.none) J rfl q
 | brk =>
  obtain ⟨_,_,_,q⟩:=hs;exact False.elim q
 | cont =>
  obtain ⟨_,_,_,q⟩:=hs;exact False.elim q
section
variable {X : Cx} {x : Str} {p pos : Pos} {e : Expr} {es : List Expr} {t : TA} {id T : String} {r : List V -> Hp -> VK -> Prop}
def tCB (r : List V -> Hp -> VK -> Prop) (t : TA) : TE:=fun σ H Q => t σ H fun vs H1 => r vs H1 Q
theorem zLV (hc : zCr X (.builtin id) r) (hg : Gl X x) (hm : X.mg x = none) (hv : bootBuiltins x = some (.builtin id)) (ha : PA X (e :: es) t) (hn : x ≠ "__name__" := by decide) (hdb : (x == ("__debug__" : Str)) = false:=by decide)
  (he : starEach (e :: es) X.env = (false,eval e X.env) :: starEach es X.env:=by rfl) (hpl : (backTo pos (starEach es X.env)).any (·.1) = false:=by rfl) : PE X (.Call (.Name x p) (e :: es) [] pos) (tCB r t):=by
 intro zB s σ H Q I h;refine wpAny_Call_Name_kw (zEc I hg hm hv ?_ hn hdb);exact PyProof.Rows.callWith_builtin1 (thn (ha pos zB s σ H _ I h) fun us s1 ⟨vs,H1,I1,r1,q1⟩ => hc zB s1 σ H1 vs us Q I1 r1 q1) he hpl
theorem zGZ (hc : zCr X (.type T) r) (hg : Gl X x) (hm : X.mg x = none) (hv : bootBuiltins x = some (.type T)) (ha : PA X (e :: es) t) (hn : x ≠ "__name__" := by decide) (hdb : (x == ("__debug__" : Str)) = false:=by decide)
  (he : starEach (e :: es) X.env = (false,eval e X.env) :: starEach es X.env:=by rfl) (hpl : (backTo pos (starEach es X.env)).any (·.1) = false:=by rfl) : PE X (.Call (.Name x p) (e :: es) [] pos) (tCB r t):=by
 intro zB s σ H Q I h;refine wpAny_Call_Name_kw (zEc I hg hm hv ?_ hn hdb);exact PyProof.Rows.callWith_type1 (thn (ha pos zB s σ H _ I h) fun us s1 ⟨vs,H1,I1,r1,q1⟩ => hc zB s1 σ H1 vs us Q I1 r1 q1) he hpl
end
end L2
namespace HT
open PySem PyProof.Rows
section
variable {prog : Program} {w : World} {A : Around} {E : Value -> Shared -> Prop} {s : Shared}
theorem zRn {t b : Addr} {vs ws : List Value} {Q : Value -> Shared -> Prop} (ht : IsTup s.heap t vs.toArray) (hb : IsTup s.heap b ws.toArray) (hv : vs ≠ [])
  (h1 : ws = [] -> Q (.ref t) s) (h2 : ws ≠ [] -> Q (.ref s.heap.objs.size) { s with heap:=s.heap.push { cls:=.type "tuple", data:=.seq (vs ++ ws).toArray } })
  (hsz : vs.length + ws.length <= sizeLine) : wpAny (model prog w) A (binaryOp .Add (.ref t) (.ref b)) Q E s:=by
 obtain ⟨⟨cls,dd,data,sl⟩,ho,hc,n,hd⟩:=id ht;obtain ⟨⟨cls2,dd2,data2,sl2⟩,ho2,hc2,n2,hd2⟩:=id hb;simp only at hc hd hc2 hd2;subst hc hd hc2 hd2;have e : vs.toArray ++ ws.toArray = (vs ++ ws).toArray:=by simp
 by_cases hw : ws = []
 ·exact concat_meets ⟨_,ho,rfl⟩ ⟨_,ho2,rfl⟩ noFill_tuple_add seq_tuple_add PySem.F.slot_tuple_add PySem.F.entry_tuple_add (PySem.F.args_tuple_add_2 _ _)
   (tuple_addW1 t b vs.toArray ws.toArray n n2 dd dd2 sl sl2 (by simpa using hv) (by simp [hw])) ⟨ho,ho2,h1 hw⟩
 ·refine concat_meets ⟨_,ho,rfl⟩ ⟨_,ho2,rfl⟩ noFill_tuple_add seq_tuple_add PySem.F.slot_tuple_add PySem.F.entry_tuple_add (PySem.F.args_tuple_add_2 _ _)
   (tuple_addW2 t b vs.toArray ws.toArray n n2 dd dd2 sl sl2 (by simpa using hv) (by simpa using hw) (by rw [zVV,zVV]; exact hsz)) ⟨ho,ho2,?_⟩
  rw [e];exact h2 hw
def sIx (n d : Nat) : Option Int -> Nat
 | none => d
 | some v => if v < 0 then (v + (n : Int)).toNat else min v.toNat n
theorem zRs (n d k : Nat) : sIx n d (some (k : Int)) = min k n:=by
 show (if (k : Int) < 0 then ((k : Int) + (n : Int)).toNat else min (k : Int).toNat n) = min k n;rw [zVf (by omega),Int.toNat_natCast]
theorem zSh (n d : Nat) (hd : d <= n) (o : Option Int) : sIx n d o <= n:=by
 cases o with
 | none => exact hd
 | some v =>
  show (if v < 0 then (v + (n : Int)).toNat else min v.toNat n) <= n;by_cases hv : v < 0
  ·rw [zVc hv]; omega
  ·rw [zVf hv]; exact Nat.min_le_right _ _
theorem zNJ (v : Int) (n d : Nat) : (if v < 0 then max (v + (n : Int)) 0 else min v (n : Int)) = ((sIx n d (some v) : Nat) : Int):=by
 show (if v < 0 then max (v + (n : Int)) 0 else min v (n : Int)) = (((if v < 0 then (v + (n : Int)).toNat else min v.toNat n) : Nat) : Int);by_cases hv : v < 0
 ·simp only [zVc hv]; omega
 ·simp only [zVf hv]; omega
theorem zL1 (lo hi : Option Int) (n : Nat) : Builtin.Slice.sliceAdjust lo hi 1 (n : Int) = (((sIx n 0 lo : Nat) : Int),((sIx n n hi : Nat) : Int)):=by
 have h1 : ¬ ((1 : Int) < 0):=by omega
 unfold Builtin.Slice.sliceAdjust;simp only [h1,if_false];refine Prod.ext ?_ ?_
 ·cases lo with
  | none => rfl
  | some v => exact zNJ v n 0
 ·cases hi with
  | none => rfl
  | some v => exact zNJ v n n
theorem zMS (i j : Nat) : Builtin.Slice.slicePlaces (i : Int) (j : Int) 1 = j - i:=by
 unfold Builtin.Slice.slicePlaces;have h1 : (1 : Int) > 0:=by omega
 simp only [h1,if_true,Int.ediv_one];split <;> omega
theorem zH4 {v : Value} {o : Option Int} {Q : Option Int -> Shared -> Prop} (p : IsPart v o) (h : Q o s) : wpAny (model prog w) A (Builtin.Slice.slicePartIndex v) Q E s:=by
 cases p with
 | none => exact slicePart_none h
 | int i t => exact slicePart_int h
theorem zDb {sl : Addr} {vl vu : Value} {lo hi : Option Int} {n : Nat} {Q : Int × Int × Nat -> Shared -> Prop} (hs : s.heap.IsSliceOf sl vl vu .none) (pl : IsPart vl lo) (pu : IsPart vu hi)
  (h : Q (((sIx n 0 lo : Nat) : Int),1,sIx n n hi - sIx n 0 lo) s) : wpAny (model prog w) A (Builtin.Slice.sliceApplied (.ref sl) (pure (n : Int))) Q E s:=by
 obtain ⟨os,hos,hcs,hds⟩:=id hs;unfold Builtin.Slice.sliceApplied Builtin.Slice.sliceFields;refine zVN (zVN (zV2 hos hds (x:=vl) rfl (zVN (zV2 hos hds (x:=vu) rfl (zVN (zV2 hos hds (x:=.none) rfl (zVP ?_)))))));refine zVN (slicePart_none ?_);show wpAny _ _ (if ((1 : Int) == 0) = true then _ else _) _ _ s;rw [zVf (by decide)];refine zVN (zH4 pl (zVN (zH4 pu (zVN (zVP ?_)))));show wpAny _ _ (match Builtin.Slice.sliceAdjust lo hi 1 (n : Int) with | (lo,hi) => pure (lo,(1 : Int),Builtin.Slice.slicePlaces lo hi 1)) _ _ s;rw [zL1 lo hi n];show wpAny _ _ (pure (((sIx n 0 lo : Nat) : Int),(1 : Int),Builtin.Slice.slicePlaces ((sIx n 0 lo : Nat) : Int) ((sIx n n hi : Nat) : Int) 1)) _ _ s;rw [zMS];exact zVP h
theorem zP1 (xs : Array Value) (i k : Nat) : ((List.range k).filterMap fun (m : Nat) => xs[((i : Int) + (m : Int) * 1).toNat]?).toArray = ((xs.toList.drop i).take k).toArray:=by
 have e : (fun (m : Nat) => xs[((i : Int) + (m : Int) * 1).toNat]?) = fun m => xs[i + m]?:=by
  funext m;have : ((i : Int) + (m : Int) * 1).toNat = i + m:=by omega
  rw [this]
 rw [e];have:=pick_run xs i k;rw [List.filterMap_map] at this;have e2 : ((fun x => xs[x]?) ∘ fun x => i + x) = fun m => xs[i + m]?:=rfl;rw [e2] at this;rw [this]
theorem zFa {t sl : Addr} {items : Array Value} {vl vu : Value} {lo hi : Option Int} {Q : Value -> Shared -> Prop} (ht : IsTup s.heap t items) (hs : s.heap.IsSliceOf sl vl vu .none) (pl : IsPart vl lo) (pu : IsPart vu hi)
  (hw : ¬ (sIx items.size 0 lo = 0 /\ sIx items.size items.size hi = items.size))
  (h : Q (.ref s.heap.objs.size) { s with heap:=s.heap.push { cls:=.type "tuple", data:=.seq ((items.toList.drop (sIx items.size 0 lo)).take (sIx items.size items.size hi - sIx items.size 0 lo)).toArray } })
  (hsz : items.size <= sizeLine) : wpAny (model prog w) A (getItem (.ref t) (.ref sl)) Q E s:=by
 have htake : sizeOk (.seq ((items.toList.drop (sIx items.size 0 lo)).take (sIx items.size items.size hi - sIx items.size 0 lo)).toArray):=by
  show ((items.toList.drop (sIx items.size 0 lo)).take (sIx items.size items.size hi - sIx items.size 0 lo)).toArray.size <= sizeLine;rw [zVV,zWl,List.length_drop,zV6];omega
 have hj : sIx items.size items.size hi <= items.size:=zSh _ _ (zVT _) hi;obtain ⟨os,hos,hcs,hds⟩:=id hs;have hTs : s.TypeIs (.ref sl) "slice" := ⟨os,hos,hcs⟩;unfold getItem;try with_reducible refine zWG ?_
 first | refine zVN (zVP ?_) | skip
 refine zVN (wpAny_sequenceKey ht.typeIs (by decide) ?_)
 refine zVN (zVz (name:=Str.ofString "__getitem__") ht.typeIs zWv
  (zV0 zWv ht.typeIs entry_tuple_getitem ?_ (args_tuple_getitem _ _)))
 show wpAny _ _ (Builtin.Tuple.tupleItemsOf (.ref t) >>= _) _ _ s;refine zVN (tupleItemsOf_ ht ?_);refine zVN (wpAny_typeOf hTs ?_);rw [zVc (by decide)];refine zVN (zDb hs pl pu ?_);have hno : ¬ ((((sIx items.size 0 lo : Nat) : Int) == 0 && (1 : Int) == 1 && (sIx items.size items.size hi - sIx items.size 0 lo) == items.size) = true):=by
  intro q;rw [zVx,zVx] at q;have q1 : ((sIx items.size 0 lo : Nat) : Int) = 0:=eq_of_beq q.1.1;have q2 : sIx items.size items.size hi - sIx items.size 0 lo = items.size:=eq_of_beq q.2;exact hw ⟨by omega,by omega⟩
 show wpAny _ _ (if (((sIx items.size 0 lo : Nat) : Int) == 0 && (1 : Int) == 1 && (sIx items.size items.size hi - sIx items.size 0 lo) == items.size) = true then _ else _) _ _ s;rw [zVf hno,zP1]
 first
  | exact zVN (m:=Builtin.Tuple.tupleExact _) (zVq (zVP ⟨_,rfl,zVP h⟩) htake)
  | exact zVN (m:=Builtin.Tuple.tupleExact _) (zVq (zVN (zVP (zVP ⟨_,rfl,zVP h⟩))) htake)
  | exact zVN (zVN (m:=Builtin.Tuple.tupleExact _) (zVq (zVP (zVP ⟨_,rfl,zVP h⟩)) htake))
  | exact zVN (zVN (m:=Builtin.Tuple.tupleExact _) (zVq (zVP ⟨_,rfl,zVP h⟩) htake))
end
end HT
namespace L2
open PySem PySem.Spec PyProof.Rows
abbrev TO:=St -> Hp -> (Option Int -> Hp -> Prop) -> Prop
def PO (X : Cx) (e : Option Expr) (t : TO) : Prop :=
 ∀ (zB : List (Addr × Obj)) (s : Shared) (σ : St) (H : Hp) (Q : Option Int -> Hp -> Prop),Inv X zB σ H s -> t σ H Q ->
  wpAny (model X.prog X.w) X.A (evalPart e X.env) (fun u s' => ∃ o H',Inv X zB σ H' s' /\ IsPart u o /\ Q o H') X.xe s
def zQv : TO:=fun _ H Q => Q none H
def zUC (t : TE) : TO:=fun σ H Q => t σ H fun x H1 => ∃ i,x = .int i /\ Q (some i) H1
section
variable {X : Cx} {e : Expr} {te : TE} {lo hi : Option Expr} {tl th : TO} {pos p2 : Pos}
theorem zRo : PO X none zQv:=by
 intro zB s σ H Q I h;rw [evalPart_none];exact zVP ⟨none,H,I,.none,h⟩
theorem zSD (h : PE X e te) : PO X (some e) (zUC te):=by
 intro zB s σ H Q I hw;rw [evalPart_some];refine thn (h zB s σ H _ I hw) fun u s1 ⟨x,H1,I1,r1,q1⟩ => ?_;obtain ⟨i,rfl,q⟩:=q1;obtain ⟨t,rfl⟩:=r1;exact ⟨some i,H1,I1,.int i t,q⟩
def SlR (X : Cx) (r : V -> Option Int -> Option Int -> Hp -> VK -> Prop) : Prop :=
 ∀ (zB : List (Addr × Obj)) (s : Shared) (σ : St) (H : Hp) (x : V) (v vl vu : Value) (lo hi : Option Int) (sl : Addr) (Q : VK),Inv X zB σ H s -> zv x v -> s.heap.IsSliceOf sl vl vu .none -> IsPart vl lo -> IsPart vu hi -> r x lo hi H Q ->
  ∃ T id,typeLookup (.type T) "__getitem__" = pure (some (.builtin id)) /\ s.TypeIs v T /\ wpAny (model X.prog X.w) X.A (getItem v (.ref sl)) (EP X zB σ Q) X.xe s
theorem SlR.or {r r' : V -> Option Int -> Option Int -> Hp -> VK -> Prop} (h : SlR X r) (h' : SlR X r') : SlR X (fun x lo hi H Q => r x lo hi H Q \/ r' x lo hi H Q):=by
 intro zB s σ H x v vl vu lo hi sl Q I rx hs pl pu q;rcases q with q | q
 ·exact h zB s σ H x v vl vu lo hi sl Q I rx hs pl pu q
 ·exact h' zB s σ H x v vl vu lo hi sl Q I rx hs pl pu q
def tSl (r : V -> Option Int -> Option Int -> Hp -> VK -> Prop) (te : TE) (tl th : TO) : TE:=fun σ H Q => te σ H fun x H1 => tl σ H1 fun l H2 => th σ H2 fun u H3 => r x l u H3 Q
theorem zQE {r : V -> Option Int -> Option Int -> Hp -> VK -> Prop} (hr : SlR X r) (he : PE X e te) (hl : PO X lo tl) (hu : PO X hi th) : PE X (.Subscript e (.Slice lo hi none p2) pos) (tSl r te tl th):=by
 intro zB s σ H Q I h;refine Subscript_ (thn (he zB s σ H _ I h) fun v s1 ⟨x,H1,I1,r1,q1⟩ => ?_);refine wpAny_Slice (thn (hl zB s1 σ H1 _ I1 q1) fun vl s2 ⟨l,H2,I2,pl,q2⟩ => thn (hu zB s2 σ H2 _ I2 q2) fun vu s3 ⟨u,H3,I3,pu,q3⟩ => ?_);rw [evalPart_none];refine zVP ?_;have I4 : Inv X zB σ H3 { s3 with heap:=s3.heap.push { cls:=.type "slice", data:=.fields #[vl,vu,.none] } }:=I3.kept (t':=s3.toks) fun b ob q => zVO _ q;obtain ⟨T,id,hT,ht,hg⟩:=hr zB { s3 with heap:=s3.heap.push { cls:=.type "slice", data:=.fields #[vl,vu,.none] } } σ H3 x v vl vu l u s3.heap.objs.size Q I4 r1 (Heap.IsSliceOf.new ..) pl pu q3;show wpAny (model X.prog X.w) X.A (subscriptTail e (.Slice lo hi none p2) v (.ref s3.heap.objs.size)) (EP X zB σ Q) X.xe { s3 with heap:=s3.heap.push { cls:=.type "slice", data:=.fields #[vl,vu,.none] } };exact tail_any (ops:=[.ref s3.heap.objs.size,v]) ht hT hg (by with_unfolding_all rfl)
def zLQ (xs : List V) (lo hi : Option Int) : List V:=(xs.drop (HT.sIx xs.length 0 lo)).take (HT.sIx xs.length xs.length hi - HT.sIx xs.length 0 lo)
theorem zGo (xs : List V) (lo hi : Option Int) : (zLQ xs lo hi).length <= xs.length:=by
 unfold zLQ;rw [zWl,List.length_drop];omega
def zUu (K : PySem.W.Frag) : V -> Option Int -> Option Int -> Hp -> VK -> Prop:=fun x lo hi H Q => ∃ a xs,x = .ref a /\ SqT K H a xs /\
 ¬ (HT.sIx xs.length 0 lo = 0 /\ HT.sIx xs.length xs.length hi = xs.length) /\ ∀ p,H p = none -> Q (.ref p) (upd H p (.tup (zLQ xs lo hi)))
theorem zTo : SlR X (zUu X.K):=by
 intro zB s σ H x v vl vu lo hi sl Q I rx hs pl pu h;obtain ⟨a,xs,rfl,hx,hw,q⟩:=h;cases rx;obtain ⟨its,r,ht,hz⟩:=I.tuple hx;have hlen : its.toArray.size = xs.length:=by rw [zVV]; exact r.length.symm
 refine ⟨"tuple", _,zWv.lookup,ht.typeIs,?_⟩;refine HT.zFa ht hs pl pu (by rw [hlen]; exact hw) ?_ (by rw [hlen]; exact hz);rw [hlen];refine ⟨.ref s.heap.objs.size,_,I.laid (t':=s.toks) (o:=.tup (zLQ xs lo hi)) (fun b ob q => zVO _ q) (zVT _) ?_,rfl,q _ (I.hok.fresh (zVT _))⟩;exact ⟨zVo (zGo xs lo hi) hz,_,(r.drop (HT.sIx xs.length 0 lo)).take (HT.sIx xs.length xs.length hi - HT.sIx xs.length 0 lo),zCo.new _ _⟩
def zSS (K : PySem.W.Frag) : R2:=fun x y H Q => ∃ a b xs ys,x = .ref a /\ y = .ref b /\ SqT K H a xs /\ SqT K H b ys /\ xs ≠ [] /\ xs.length + ys.length <= sizeLine /\
 (ys = [] -> Q (.ref a) H) /\ (ys ≠ [] -> ∀ p,H p = none -> Q (.ref p) (upd H p (.tup (xs ++ ys))))
theorem zo.nil_iff {xs : List V} {us : List Value} (r : zo xs us) : us = [] ↔ xs = []:=by
 cases r with
 | nil => simp
 | cons _ _ => simp
theorem zR3 : OpR X (binaryOp .Add) (zSS X.K):=by
 intro zB s σ H x y v u Q I rx ry h;obtain ⟨a,b,xs,ys,rfl,rfl,ha,hb,hx,hz,q1,q2⟩:=h;cases rx;cases ry;obtain ⟨its,r1,p1,_⟩:=I.tuple ha;obtain ⟨its2,r2,p2,_⟩:=I.tuple hb;refine HT.zRn p1 p2 (fun z => hx (r1.nil_iff.mp z)) (fun z => ⟨.ref a,H,I,rfl,q1 (r2.nil_iff.mp z)⟩) (fun z => ?_) (by rw [<- r1.length,<- r2.length]; exact hz);refine ⟨.ref s.heap.objs.size,_,I.laid (t':=s.toks) (o:=.tup (xs ++ ys)) (fun b ob q => zVO _ q) (zVT _) ?_,rfl,q2 (fun w => z (r2.nil_iff.mpr w)) _ (I.hok.fresh (zVT _))⟩;exact ⟨by rw [zVd]; exact hz,_,r1.append r2,zCo.new _ _⟩
end
def ixN (n : Nat) (i : Int) : Option Nat:=if 0 <= i then (if i < n then some i.toNat else none) else if -(n : Int) <= i then some (i + n).toNat else none
def atI {α : Type} (xs : List α) (i : Int) : Option α:=(ixN xs.length i).bind fun j => xs[j]?
theorem zJ0 {n : Nat} {i : Int} {j : Nat} (h : ixN n i = some j) : seqIndex? i n = some j /\ j < n /\ -(n : Int) <= i /\ i < n:=by
 unfold ixN at h;by_cases h0 : 0 <= i
 ·rw [zVc h0] at h;by_cases h1 : i < n
  ·rw [zVc h1] at h;have e : i.toNat = j:=zWN h;exact ⟨by rw [seqIndex_of h0 h1,e],by omega,by omega,h1⟩
  ·rw [zVf h1] at h; cases h
 ·rw [zVf h0] at h;by_cases h1 : -(n : Int) <= i
  ·rw [zVc h1] at h;have e : (i + n).toNat = j:=zWN h;exact ⟨by rw [seqIndex_neg (by omega) h1,e],by omega,h1,by omega⟩
  ·rw [zVf h1] at h; cases h
theorem zJf {α : Type} {xs : List α} {i : Int} {v : α} (h : atI xs i = some v) : ∃ j,seqIndex? i xs.length = some j /\ xs[j]? = some v /\ j < xs.length /\ -(xs.length : Int) <= i /\ i < xs.length:=by
 unfold atI at h;cases e : ixN xs.length i with
 | none => rw [e] at h; cases h
 | some j =>
  rw [e] at h;obtain ⟨h1,h2,h3,h4⟩:=zJ0 e;exact ⟨j,h1,h,h2,h3,h4⟩
theorem zM5 {α : Type} {xs : List α} {j : Nat} {v : α} (h : xs[j]? = some v) : atI xs (j : Int) = some v:=by
 have hj : j < xs.length:=(zVQ.mp h).1;have e : ixN xs.length (j : Int) = some j:=by
  unfold ixN;rw [zVc (by omega),zVc (by omega)]; simp
 unfold atI; rw [e]; exact h
def zMp (b : Expr) : Prop:=∀ o i,subscripted b false o i = operate [o,i] (getItem o i)
def IxR (X : Cx) (r : R2) : Prop :=
 ∀ (value slice : Expr) (zB : List (Addr × Obj)) (s : Shared) (σ : St) (H : Hp) (x y : V) (v u : Value) (Q : VK),Inv X zB σ H s -> zv x v -> zv y u -> r x y H Q ->
  subscripted slice false v u = operate [v,u] (getItem v u) -> wpAny (model X.prog X.w) X.A (subscriptTail value slice v u) (EP X zB σ Q) X.xe s
def MtR (X : Cx) (id : String) (r : V -> List V -> Hp -> VK -> Prop) : Prop :=
 ∀ (zB : List (Addr × Obj)) (s : Shared) (σ : St) (H : Hp) (x : V) (xs : List V) (v : Value) (us : List Value) (Q : VK),Inv X zB σ H s -> zv x v -> zo xs us -> r x xs H Q ->
  wpAny (model X.prog X.w) X.A (call (.builtin id) (v :: us)) (EP X zB σ Q) X.xe s
section
variable {X : Cx} {a b : Expr} {ta tb : TE} {pos : Pos}
theorem IxR.or {r r' : R2} (h : IxR X r) (h' : IxR X r') : IxR X (fun x y H Q => r x y H Q \/ r' x y H Q):=by
 intro value slice zB s σ H x y v u Q I rx ry q hs;rcases q with q | q
 ·exact h value slice zB s σ H x y v u Q I rx ry q hs
 ·exact h' value slice zB s σ H x y v u Q I rx ry q hs
theorem zUt {r : R2} (hr : IxR X r) (ha : PE X a ta) (hb : PE X b tb) (hs : zMp b) : PE X (.Subscript a b pos) (tOp r ta tb):=by
 intro zB s σ H Q I h;exact Subscript_ (zSz ha hb I h fun v u s2 x y H2 I2 rx ry q => hr a b zB s2 σ H2 x y v u Q I2 rx ry q (hs _ _))
def zUm (K : PySem.W.Frag) : R2:=fun x y H Q => ∃ p xs i v,x = .ref p /\ y = .int i /\ SqL K H p xs /\ atI xs i = some v /\ Q v H
def zUb (K : PySem.W.Frag) : R2:=fun x y H Q => ∃ p xs i v,x = .ref p /\ y = .int i /\ SqT K H p xs /\ atI xs i = some v /\ Q v H
def zTy : R2:=fun x y H Q => ∃ z i c,x = .str z /\ y = .int i /\ z.length <= sizeLine /\ atI z.cps.toList i = some c /\ Q (.str ⟨#[c]⟩) H
theorem zRu : IxR X (zUm X.K):=by
 intro value slice zB s σ H x y v u Q I rx ry h hs;obtain ⟨p,xs,i,z,rfl,rfl,hq,he,q⟩:=h;cases rx;obtain ⟨t,rfl⟩:=ry;obtain ⟨its,r,pl,hz⟩:=I.list hq;obtain ⟨j,h1,h2,h3,h4,h5⟩:=zJf he;obtain ⟨w,ew,rw'⟩:=r.get h2;have hl:=r.length;have hn:=zGR;have fin : EP X zB σ Q w s:=⟨z,H,I,rw',q⟩;by_cases h0 : 0 <= i
 ·have hj : i.toNat = j:=by
   rw [seqIndex_of h0 h5] at h1;exact zWN h1
  exact item_listR pl.isList h0 (by omega) (by rw [hj]; simpa using ew) fin hs
 ·have hj : (i + (its.toArray.size : Int)).toNat = j:=by
   rw [seqIndex_neg (by omega) h4] at h1;rw [zVV,<- hl];exact zWN h1
  exact subscriptTail_builtinR (x:=w) pl.isList.typeIs slot_list_getitem.lookup
   (wpAny_getItem_list_neg (Q:=fun r s' => r = w /\ EP X zB σ Q r s') pl.isList (by omega) (by rw [zVV] <;> omega) (by omega) (by rw [hj]; simpa using ew) ⟨rfl,fin⟩) hs
theorem zS8 : IxR X (zUb X.K):=by
 intro value slice zB s σ H x y v u Q I rx ry h hs;obtain ⟨p,xs,i,z,rfl,rfl,hq,he,q⟩:=h;cases rx;obtain ⟨t,rfl⟩:=ry;obtain ⟨its,r,pl,hz⟩:=I.tuple hq;obtain ⟨j,h1,h2,h3,h4,h5⟩:=zJf he;obtain ⟨w,ew,rw'⟩:=r.get h2;have hl:=r.length;have hn:=zGR;have fin : EP X zB σ Q w s:=⟨z,H,I,rw',q⟩
 exact subscriptTail_builtinR (x:=w) pl.typeIs slot_tuple_getitem.lookup
  (getItem_tuple (j:=j) (Q:=fun r s' => r = w /\ EP X zB σ Q r s') pl (by omega) (by omega) (by rw [zVV,<- hl]; exact h1) (by simpa using ew) ⟨rfl,fin⟩) hs
theorem zS5 : IxR X zTy:=by
 intro value slice zB s σ H x y v u Q I rx ry h hs;obtain ⟨z,i,c,rfl,rfl,hz,he,q⟩:=h;obtain ⟨t,rfl⟩:=rx;obtain ⟨t',rfl⟩:=ry;obtain ⟨j,h1,h2,h3,h4,h5⟩:=zJf he;have hl : z.cps.toList.length = z.length:=by simp [Str.length]
 rw [hl] at h1 h4 h5;have hn:=zGR;exact tail_any (typeIs_str s z t) slot_str_getitem.lookup (getItem_str (c:=c) (by
  have e1 : decide (i < -(2 ^ 63 : Int)) = false:=zVw (by omega);have e2 : decide (i ≥ 2 ^ 63) = false:=zVw (by omega);rw [e1,e2,Bool.or_false]) (by rw [h1]; simpa using h2) ⟨.str ⟨#[c]⟩,H,I.tok _,⟨_,rfl⟩,q⟩) hs
def rIx (K : PySem.W.Frag) : R2:=fun x y H Q => zUm K x y H Q \/ zUb K x y H Q \/ zTy x y H Q
theorem zTW : IxR X (rIx X.K):=zRu.or (zS8.or zS5)
theorem zMF (its : List Value) (n j : Nat) (u : Value) : Obj.mapSeq (·.setIfInBounds j u) { cls:=.type "list", data:=.seq its.toArray n } = { cls:=.type "list", data:=.seq (its.set j u).toArray n }:=by
 simp [Obj.mapSeq]
theorem Inv.lst {zB : List (Addr × Obj)} {σ : St} {H : Hp} {s : Shared} {p : Addr} {xs : List V} (I : Inv X zB σ H s) (h : H p = some (.lst xs)) :
  ∃ (its : List Value) (n : Nat),zo xs its /\ s.heap.get? p = some { cls:=.type "list", data:=.seq its.toArray n } /\ xs.length <= sizeLine:=by
 obtain ⟨z,its,n,r,e⟩:=I.hok p _ h;exact ⟨its,n,r,e,z⟩
theorem Inv.lstUpd {zB : List (Addr × Obj)} {σ : St} {H : Hp} {s : Shared} {p : Addr} {xs ys : List V} {its its' : List Value} {n n' : Nat} {f : Obj -> Obj} (I : Inv X zB σ H s) (h : H p = some (.lst xs))
  (ho : s.heap.get? p = some { cls:=.type "list", data:=.seq its.toArray n }) (hf : f { cls:=.type "list", data:=.seq its.toArray n } = { cls:=.type "list", data:=.seq its'.toArray n' }) (r : zo ys its') (hz : ys.length <= sizeLine) (t : Nat) :
  Inv X zB σ (upd H p (.lst ys)) { s with heap:=s.heap.update p f,toks:=t }:=by
 have e : (s.heap.update p f).get? p = some { cls:=.type "list", data:=.seq its'.toArray n' }:=by
  rw [zWA f ho (by rw [hf] <;> rfl),hf]
 refine I.write (x:=p) (e:=p) (by rw [h]; trivial) (.inl rfl) (fun b u hb q => (zV4 _ _ (Ne.symm hb)).trans q) ⟨_,e⟩ ?_;exact ⟨hz,its',n',r,e⟩
def zUS : V -> V -> V -> Hp -> (Hp -> Prop) -> Prop:=fun o i v H Q => ∃ p xs k j,o = .ref p /\ i = .int k /\ H p = some (.lst xs) /\ ixN xs.length k = some j /\ Q (upd H p (.lst (xs.set j v)))
theorem zPk : zT0 X zUS:=by
 intro zB s σ H o i v ov iv u Q I ro ri rv h;obtain ⟨p,xs,k,j,rfl,rfl,hp,hj,q⟩:=h;cases ro;obtain ⟨t,rfl⟩:=ri;obtain ⟨its,n,r,ho,hz⟩:=I.lst hp;obtain ⟨h1,h2,h3,h4⟩:=zJ0 hj;have hl:=r.length;have hn:=zGR;have I' : Inv X zB σ (upd H p (.lst (xs.set j v))) { s with heap:=s.heap.update p (Obj.mapSeq (·.setIfInBounds j u)) } :=
  I.lstUpd hp ho (zMF its n j u) (r.set rv j) (by rw [List.length_set]; exact hz) s.toks
 by_cases h0 : 0 <= k
 ·have hk : k.toNat = j:=by
   rw [seqIndex_of h0 h4] at h1;exact zWN h1
  exact PySem.W.ki_setAt ho h0 (by omega) (by rw [zVV,<- hl]; exact h4) (by rw [hk]; exact ⟨_,I',q⟩)
 ·have hk : (k + (its.toArray.size : Int)).toNat = j:=by
   rw [seqIndex_neg (by omega) h3] at h1;rw [zVV,<- hl];exact zWN h1
  exact PySem.W.ki_setBack ho (by omega) (by rw [zVV,<- hl]; exact h3) (by omega) (by rw [hk]; exact ⟨_,I',q⟩)
theorem zKG (lo hi : Option Int) (n : Nat) : (sliceBounds lo hi none n).1 = ((HT.sIx n 0 lo : Nat) : Int) /\ (sliceBounds lo hi none n).2.1 = ((HT.sIx n n hi : Nat) : Int) /\ (sliceBounds lo hi none n).2.2 = 1:=by
 refine ⟨?_,?_,rfl⟩
 ·cases lo with
  | none => simp [sliceBounds,HT.sIx]
  | some i =>
   simp only [sliceBounds,HT.sIx,Option.getD_none,show (1 : Int) > 0 by decide,if_true];by_cases h : i < 0
   ·simp only [h,if_true] <;> omega
   ·simp only [h,if_false] <;> omega
 ·cases hi with
  | none => simp [sliceBounds,HT.sIx]
  | some i =>
   simp only [sliceBounds,HT.sIx,Option.getD_none,show (1 : Int) > 0 by decide,if_true];by_cases h : i < 0
   ·simp only [h,if_true] <;> omega
   ·simp only [h,if_false] <;> omega
theorem zIa (its : List Value) (lo hi : Option Int) : slicePick its.toArray lo hi none = ((its.drop (HT.sIx its.length 0 lo)).take (HT.sIx its.length its.length hi - HT.sIx its.length 0 lo)).toArray:=by
 obtain ⟨h1,h2,h3⟩:=zKG lo hi its.toArray.size;unfold slicePick;rw [h1,h2,h3];simp only [sliceRange_one,pick_run,zVV] <;> rfl
def zU1 (K : PySem.W.Frag) : V -> Option Int -> Option Int -> Hp -> VK -> Prop:=fun x lo hi H Q => ∃ a xs,x = .ref a /\ SqL K H a xs /\ ∀ p,H p = none -> Q (.ref p) (upd H p (.lst (zLQ xs lo hi)))
theorem zRa : SlR X (zU1 X.K):=by
 intro zB s σ H x v vl vu lo hi sl Q I rx hs pl pu h;obtain ⟨a,xs,rfl,hx,q⟩:=h;cases rx;obtain ⟨its,r,ht,hz⟩:=I.list hx;have hlen:=r.length;refine ⟨"list", _,slot_list_getitem.lookup,ht.isList.typeIs,?_⟩;refine wpAny_getItem_list_slice ht.isList hs pl pu .none (by simp) ?_ (by rw [zVV] <;> omega);rw [zIa,<- hlen];refine ⟨.ref s.heap.objs.size,_,I.laid (t':=s.toks) (o:=.lst (zLQ xs lo hi)) (fun b ob q => zVO _ q) (zVT _) ?_,rfl,q _ (I.hok.fresh (zVT _))⟩;exact ⟨zVo (zGo xs lo hi) hz,_,0,(r.drop (HT.sIx xs.length 0 lo)).take (HT.sIx xs.length xs.length hi - HT.sIx xs.length 0 lo),zVX _ rfl⟩
theorem zKI : zCr X (.builtin "len") (fun xs H Q => ∃ p ys,xs = [.ref p] /\ (SqL X.K H p ys \/ SqT X.K H p ys) /\ Q (.int ys.length) H):=by
 intro zB s σ H xs us Q I r h;obtain ⟨p,ys,rfl,hq,q⟩:=h;obtain ⟨u,rfl,rx⟩:=zEZ r;cases rx;have hn:=zGR;rcases hq with hq | hq
 ·obtain ⟨its,r',pl,hz⟩:=I.list hq;have hlen:=r'.length;exact Calls.call_len_list pl.isList (by simp only [zVV] <;> omega) ⟨.int ys.length,H,I.tok _,⟨s.toks + 1,by rw [zVV,hlen]⟩,q⟩
 ·obtain ⟨its,r',pl,hz⟩:=I.tuple hq;have hlen:=r'.length;exact len_tuple pl (by simp only [zVV] <;> omega) ⟨.int ys.length,H,I.tok _,⟨s.toks + 1,by rw [zVV,hlen]⟩,q⟩
theorem zJx : zCr X (.type "list") (fun xs H Q => ∃ p ys,xs = [.ref p] /\ (SqL X.K H p ys \/ SqT X.K H p ys) /\ ∀ l,H l = none -> Q (.ref l) (upd H l (.lst ys))):=by
 intro zB s σ H xs us Q I r h;obtain ⟨p,ys,rfl,hq,q⟩:=h;obtain ⟨u,rfl,rx⟩:=zEZ r;cases rx
 have fin : ∀ (its : List Value),zo ys its -> ys.length <= sizeLine -> ∀ (h' : Heap) (c' : Nat),(∀ b o',s.heap.get? b = some o' -> h'.get? b = some o') ->
   h'.get? s.heap.objs.size = some { cls:=.type "list", dict:=none,data:=.seq its.toArray c',slots:=#[] } -> EP X zB σ Q (.ref s.heap.objs.size) { s with heap:=h' }:=fun its r' hz h' c' kp e =>
  ⟨.ref s.heap.objs.size,_,I.laid (t':=s.toks) kp (zVT _) (show zAh X.prog X.w _ h' _ (.lst ys) from ⟨hz,its,c',r',e⟩),rfl,q _ (I.hok.fresh (zVT _))⟩
 rcases hq with hq | hq
 ·obtain ⟨its,r',pl,hz⟩:=I.list hq;have hlen:=r'.length;obtain ⟨o,ho,hc,n,hd⟩:=pl.isList;exact call_list_seq p (.inl rfl) ho hc hd (fun h' c' kp e => fin its r' hz h' c' kp e) (by simp only [zVV] <;> omega)
 ·obtain ⟨its,r',pl,hz⟩:=I.tuple hq;have hlen:=r'.length;obtain ⟨o,ho,hc,n,hd⟩:=pl;exact call_list_seq p (.inr rfl) ho hc hd (fun h' c' kp e => fin its r' hz h' c' kp e) (by simp only [zVV] <;> omega)
theorem zIf : zCr X (.type "tuple") (fun xs H Q => ∃ p ys,xs = [.ref p] /\ ((SqL X.K H p ys /\ ∀ l,H l = none -> Q (.ref l) (upd H l (.tup ys))) \/ (SqT X.K H p ys /\ Q (.ref p) H))):=by
 intro zB s σ H xs us Q I r h;obtain ⟨p,ys,rfl,h⟩:=h;obtain ⟨u,rfl,rx⟩:=zEZ r;cases rx;rcases h with ⟨hq,q⟩ | ⟨hq,q⟩
 ·obtain ⟨its,r',pl,hz⟩:=I.list hq;have hlen:=r'.length;refine call_tuple_list pl.isList (fun h' kp => ?_) (by simp only [zVV] <;> omega);have I1 : Inv X zB σ H { s with heap:=h' }:=I.kept (t':=s.toks) kp;have I2 : Inv X zB σ (upd H h'.objs.size (.tup ys)) { s with heap:=h'.push { cls:=.type "tuple", data:=.seq its.toArray } } :=
   I1.laid (t':=s.toks) (fun b o e => zVO _ e) (zVT _) (show zAh X.prog X.w _ _ _ (.tup ys) from ⟨hz,its,r',zCo.new _ _⟩)
  exact ⟨.ref h'.objs.size,_,I2,rfl,q _ (I1.hok.fresh (zVT _))⟩
 ·obtain ⟨its,r',pl,hz⟩:=I.tuple hq;exact call_tuple_same pl ⟨.ref p,H,I,rfl,q⟩
def tyV (K : PySem.W.Frag) (T : String) (x : V) (H : Hp) : Prop:=match x with
 | .str _ => T = "str"
 | .int _ => T = "int"
 | .ref p => (T = "list" /\ ∃ xs,SqL K H p xs) \/ (T = "tuple" /\ ((∃ o,K.lookup p = some o /\ o.cls = .type "tuple" /\ o.dict = none) \/ ∃ xs,H p = some (.tup xs))) \/
   (T = "dict" /\ ((∃ kvs,H p = some (.dK kvs)) \/ ∃ kvs,H p = some (.dT kvs))) \/ (T = "set" /\ ∃ S n,H p = some (.set S n))
 | _ => False
theorem zS2 {zB : List (Addr × Obj)} {σ : St} {H : Hp} {s : Shared} {T : String} {x : V} {v : Value} (I : Inv X zB σ H s) (r : zv x v) (ty : tyV X.K T x H) :
  s.TypeIs v T /\ ∀ a,v = .ref a -> ∃ ob,s.heap.get? a = some ob /\ ob.dict = none:=by
 cases x with
 | str z =>
  obtain ⟨t,rfl⟩:=r;cases (show T = "str" from ty);exact ⟨typeIs_str s z t,fun _ e => nomatch e⟩
 | int i =>
  obtain ⟨t,rfl⟩:=r;cases (show T = "int" from ty);exact ⟨typeIs_int s i t,fun _ e => nomatch e⟩
 | ref p =>
  cases r;rcases ty with ⟨rfl,xs,hq⟩ | ⟨rfl,⟨o,hk,hc,hd⟩ | ⟨xs,hq⟩⟩ | ⟨rfl,hk⟩ | ⟨rfl,S,n,hk⟩
  ·obtain ⟨its,_,pl,_⟩:=I.list hq;refine ⟨pl.isList.typeIs,fun a e => ?_⟩;cases e;obtain ⟨o,n,e,c,hd,_⟩:=pl;exact ⟨o,e,hd⟩
  ·refine ⟨⟨o,I.kIn p o hk,hc⟩,fun a e => ?_⟩;cases e;exact ⟨o,I.kIn _ o hk,hd⟩
  ·obtain ⟨_,its,_,o,e,c,_,hd⟩:=I.hok p _ hq;refine ⟨⟨o,e,c⟩,fun a e2 => ?_⟩;cases e2;exact ⟨o,e,hd⟩
  ·have z : ∃ o,s.heap.get? p = some o /\ o.ExactDict:=by
    rcases hk with ⟨kvs,hk⟩ | ⟨kvs,hk⟩
    ·obtain ⟨_,_,_,_,o,_,_,e,ex,_⟩:=I.hok p _ hk;exact ⟨o,e,ex⟩
    ·obtain ⟨_,_,_,_,o,_,_,e,ex,_⟩:=I.hok p _ hk;exact ⟨o,e,ex⟩
   obtain ⟨o,e,ex⟩:=z;refine ⟨⟨o,e,ex.1⟩,fun a e2 => ?_⟩;cases e2;exact ⟨o,e,ex.2.1⟩
  ·obtain ⟨o,_,_,_,e,ex,_⟩:=I.hok p _ hk;refine ⟨⟨o,e,ex.1⟩,fun a e2 => ?_⟩;cases e2;exact ⟨o,e,ex.2.1⟩
 | _ => exact False.elim ty
def tBM (K : PySem.W.Frag) (T : String) (r : V -> List V -> Hp -> VK -> Prop) (to : TE) (t : TA) : TE:=fun σ H Q => to σ H fun x H1 => tyV K T x H1 /\ t σ H1 fun xs H2 => r x xs H2 Q
variable {o e : Expr} {es : List Expr} {to : TE} {t : TA} {name : Str} {apos cpos : Pos} {T id : String} {r : V -> List V -> Hp -> VK -> Prop}
theorem zPZ (pa : PlainAttrs T) (slot : Slot T name id) (hty : typeOf (.builtin id) = pure (.type "method_descriptor")) (hm : MtR X id r) (ho : PE X o to) (ha : PA X (e :: es) t)
  (hbase : attributeBase o name X.env (eval o X.env) = eval o X.env:=by rfl)
  (hfew : ((backTo cpos (starEach (e :: es) X.env)).all (fun x => !x.1) && (backToKw cpos (keywordEach [] X.env)).all (fun x => x.1.isSome)
   && decide ((e :: es).length + ([] : List Keyword).length + (if ([] : List Keyword).isEmpty then 0 else 1) < 30)) = true:=by rfl)
  (hline : (apos.endLine == cpos.line) = true:=by rfl) (hs : starEach (e :: es) X.env = (false,eval e X.env) :: starEach es X.env:=by rfl) (hplain : (backTo cpos (starEach es X.env)).any (·.1) = false:=by rfl) :
  PE X (.Call (.Attribute o name apos) (e :: es) [] cpos) (tBM X.K T r to t):=by
 intro zB s σ H Q I h;refine wpAny_Call_method_late hbase hfew hline rfl (thn (ho zB s σ H _ I h) fun v s1 ⟨x,H1,I1,r1,ty,q1⟩ => ?_);obtain ⟨h1,h2⟩:=zS2 I1 r1 ty;refine ⟨T,id,pa,slot,hty,h1,h2,?_⟩;have hA:=ha cpos zB s1 σ H1 _ I1 q1;rw [hs] at hA ⊢;refine Calls.callWith_builtin (by show (false || (backTo cpos (starEach es X.env)).any (·.1)) = false; rw [hplain] <;> rfl) (Calls.evalArgs_plain ?_);exact thn hA fun us s2 ⟨vs,H2,I2,r2,q2⟩ => hm zB s2 σ H2 x vs v us Q I2 r1 r2 q2
end
def MtM (X : Cx) (id : String) (r : V -> List V -> Hp -> VK -> Prop) : Prop :=
 ∀ (zB : List (Addr × Obj)) (s : Shared) (σ : St) (H : Hp) (x : V) (xs : List V) (v : Value) (us : List Value) (Q : VK),Inv X zB σ H s -> zv x v -> zo xs us -> r x xs H Q ->
  wpAny (model X.prog X.w) X.A (call (.builtin id) (v :: us)) (EP X zB σ Q) X.xe s
theorem zo.one : ∀ {x : V} {us : List Value},zo [x] us -> ∃ u,us = [u] /\ zv x u
 | _,_,.cons r .nil => ⟨_,rfl,r⟩
theorem zo.two : ∀ {x y : V} {us : List Value},zo [x,y] us -> ∃ u v,us = [u,v] /\ zv x u /\ zv y v
 | _,_,_,.cons r (.cons q .nil) => ⟨_,_,rfl,r,q⟩
theorem zo.eraseIdx : ∀ {xs : List V} {us : List Value} (i : Nat),zo xs us -> zo (xs.eraseIdx i) (us.eraseIdx i)
 | _,_,_,.nil => .nil
 | _,_,0,.cons _ t => t
 | _,_,i + 1,.cons r t => .cons r (zo.eraseIdx i t)
theorem zJb {α : Type} : ∀ (l : List α) (i : Nat),(l.eraseIdx i).length <= l.length
 | [],_ => zVT _
 | _ :: _,0 => zW5 _
 | _ :: r,i + 1 => Nat.succ_le_succ (zJb r i)
section
variable {X : Cx} {zB : List (Addr × Obj)} {σ : St} {H : Hp} {s : Shared} {l b : Addr} {xs ys zs : List V}
theorem Inv.lset {its its' : List Value} {n : Nat} {f : Array Value -> Array Value} {t' : Nat} (I : Inv X zB σ H s) (hH : H l = some (.lst xs))
  (e : s.heap.get? l = some { cls:=.type "list", data:=.seq its.toArray n }) (hf : f its.toArray = its'.toArray) (hv : zo ys its') (hz : ys.length <= sizeLine) :
  Inv X zB σ (upd H l (.lst ys)) { s with heap:=s.heap.update l (Obj.mapSeq f),toks:=t' }:=by
 have q:=PySem.IsL.update e f;rw [hf] at q;refine I.write (x:=l) (e:=l) (by rw [hH]; exact trivial) (.inl rfl) (fun b' u hb hu => (zV4 s.heap (Obj.mapSeq f) (Ne.symm hb)).trans hu) ⟨_,q⟩ ?_;exact ⟨hz,its',_,hv,q⟩
theorem Inv.lnew {its : List Value} {t' : Nat} (I : Inv X zB σ H s) (hv : zo ys its) (hz : ys.length <= sizeLine) :
  Inv X zB σ (upd H s.heap.objs.size (.lst ys)) { s with heap:=s.heap.push { cls:=.type "list", data:=.seq its.toArray },toks:=t' } :=
 I.laid (fun _ _ q => zVO _ q) (zVT _) ⟨hz,its,0,hv,zVX _ rfl⟩
theorem Inv.fresh (I : Inv X zB σ H s) : H s.heap.objs.size = none:=I.hok.fresh (zVT _)
theorem Inv.lstM (I : Inv X zB σ H s) (hH : H l = some (.lst xs)) : xs.length <= sizeLine /\ ∃ (its : List Value) (n : Nat),zo xs its /\ xs.length = its.length /\ s.heap.get? l = some { cls:=.type "list", data:=.seq its.toArray n }:=by
 obtain ⟨z,its,n,r,e⟩:=I.hok l _ hH;exact ⟨z,its,n,r,r.length,e⟩
end
section
variable {X : Cx}
def zM9 : V -> List V -> Hp -> VK -> Prop:=fun x vs H Q => ∃ l xs y,x = .ref l /\ vs = [y] /\ H l = some (.lst xs) /\ xs.length < sizeLine /\ Q .non (upd H l (.lst (xs ++ [y])))
theorem zNv : MtM X "list.append" zM9:=by
 intro zB s σ H x vs v us Q I rx rv h;obtain ⟨l,xs,y,rfl,rfl,hH,hz,q⟩:=h;cases rx;obtain ⟨u,rfl,ru⟩:=rv.one;obtain ⟨z,its,n,r,hl,e⟩:=I.lstM hH;refine call_meets F.slot_list_append ⟨_,e,rfl⟩ F.entry_list_append (F.args_list_append_2 _ _) (PySem.list_append l its.toArray n u (by rw [zVV]; omega)) ⟨e,?_⟩;refine ⟨.non,_,I.lset (its':=its ++ [u]) hH e (by simp) (r.append (.cons ru .nil)) ?_,rfl,q⟩;rw [zVd,List.length_singleton];omega
def zOf : V -> List V -> Hp -> VK -> Prop:=fun x vs H Q => ∃ l xs i k y,x = .ref l /\ vs = [.int i] /\ H l = some (.lst xs) /\ -(2 ^ 63) <= i /\ i < 2 ^ 63 /\ seqIndex? i xs.length = some k /\ xs[k]? = some y /\ Q y (upd H l (.lst (xs.eraseIdx k)))
theorem zQC : MtM X "list.pop" zOf:=by
 intro zB s σ H x vs v us Q I rx rv h;obtain ⟨l,xs,i,k,y,rfl,rfl,hH,h1,h2,hk,hy,q⟩:=h;cases rx;obtain ⟨u,rfl,ru⟩:=rv.one;obtain ⟨t,rfl⟩:=ru;obtain ⟨z,its,n,r,hl,e⟩:=I.lstM hH;obtain ⟨w,hw,rw'⟩:=r.get hy
 refine call_meets F.slot_list_pop ⟨_,e,rfl⟩ F.entry_list_pop (F.args_list_pop_2 _ _)
  (MeetsSeq.list_pop_at l its.toArray n i t k w (fitsIndex_both h1 h2) (by rw [zVV,<- hl]; exact hk) (by rw [<- Array.getElem?_toList]; exact hw) (by rw [zVV]; omega)) ⟨e,?_⟩
 refine ⟨y,_,I.lset (its':=its.eraseIdx k) hH e ?_ (r.eraseIdx k) ?_,rw',q⟩
 ·show its.toArray.eraseIdxIfInBounds k = (its.eraseIdx k).toArray;rw [List.eraseIdxIfInBounds_toArray]
 ·have:=zJb xs k;omega
def zUh : R2:=fun x y H Q => ∃ l b xs zs,x = .ref l /\ y = .ref b /\ H l = some (.lst xs) /\ H b = some (.lst zs) /\ xs.length + zs.length <= sizeLine /\ ∀ p,H p = none -> Q (.ref p) (upd H p (.lst (xs ++ zs)))
theorem zTi : OpR X (binaryOp .Add) zUh:=by
 intro zB s σ H x y v u Q I rx ry h;obtain ⟨l,b,xs,zs,rfl,rfl,hH,hB,hz,q⟩:=h;cases rx;cases ry;obtain ⟨z,its,n,r,hl,e⟩:=I.lstM hH;obtain ⟨z2,its2,n2,r2,hl2,e2⟩:=I.lstM hB;refine PySem.P.add_list e e2 ?_ (by rw [zVV,zVV]; omega);have ea : its.toArray ++ its2.toArray = (its ++ its2).toArray:=by simp
 rw [ea];exact ⟨.ref _,_,I.lnew (t':=s.toks) (r.append r2) (by rw [zVd]; omega),rfl,q _ I.fresh⟩
end
end L2
namespace Att
open PySem PySem.W PySem.Calls PyProof.Rows
theorem zGy {P : Params} {h : Heap} : ∀ (ns : List Int) (vs : List Value),WellAll P h vs (ns.map WData.int) -> IntsAre vs ns:=by
 intro ns;induction ns with
 | nil =>
  intro vs w;rw [List.map_nil] at w;cases w;exact .nil
 | cons n ns ih =>
  intro vs w;rw [zVg] at w;cases w with
  | cons a b =>
   cases a;exact .cons _ _ (ih _ b)
theorem zNa {l : OpenLaw} {n : Nat} (hn : l.most = some n) {P : Params} {h : Heap} {args : List WData} {vals : List Value}
  (hpre : l.row.toRowW.claim.pre args = true) (hwl : WellAll P h vals args) :
  ∃ a vs ns,vals = [Value.ref a] /\ args = [WData.list (ns.map WData.int)] /\ h.get? a = some { cls:=.type "list", data:=.seq vs.toArray } /\ IntsAre vs ns /\ ns.length <= n:=by
 have hsh : WShape.hasAll [] args [.list .int] = true:=(pre_splitW hpre).1;have hc : l.pre.holds [] { args:=args } = true:=(pre_splitW hpre).2;obtain ⟨d,r,rfl,h1,h2⟩:=hasAllW_cons hsh;obtain rfl:=hasAllW_nil h2;obtain ⟨xs,rfl,h3⟩:=hasW_list h1;obtain ⟨ns,rfl⟩:=items_int h3;have hlen : ns.length <= n:=by
  unfold OpenLaw.pre at hc;have h4 : (WTm.not (.lt (.lit (.int (n : Int))) (.len (.arg 0)))).holds [] { args:=[.list (ns.map .int)] } = true:=by
   have h4:=(holds_andW hc).1;rw [hn] at h4;exact h4
  have h5:=condW_of h4 (w_not (w_lt w_lit (w_len_list (w_arg rfl))));rw [zVW] at h5;refine Nat.le_of_not_lt fun q => ?_;have q' : (n : Int) < ((ns.length : Nat) : Int):=by omega
  first
   | (rw [zWV q'] at h5; exact absurd h5 (by decide))
   | (simp at h5; omega)
 cases hwl with
 | cons w1 w2 =>
  cases w2;cases w1 with
  | list ho hall => exact ⟨_,_,ns,rfl,rfl,ho,zGy ns _ hall,hlen⟩
theorem zOM (l : OpenLaw) (args : List WData) : l.row.toRowW.claim.post args (.bool true) args = true :=
 postW_of (r:=l.row.toRowW) (X:=(true == true))
  (show WShape.has [] (.bool true) .bool = true by first | rfl | decide | simp [WShape.has,WShape.arms,WShape.armsAll])
  (show (WTm.eq .res (.lit (.bool true))).value [] { args:=args,res:=some (.bool true),after:=args } = some (.bool (true == true)) from w_eq_bool (w_res rfl) w_lit) rfl
theorem zKa {l : OpenLaw} {n : Nat} {q : Program} {loose : List Str} {XP : (Str -> Option Value) -> Heap -> Prop} {YP : World -> Heap -> Prop} {d : DefRec}
  (hn : l.most = some n) (hdf : d.params.defaults = [])
  (call : ∀ (w : World) (s₀ s₁ : Shared) (mg mb : Str -> Option Value) (fa : Addr) (o : Obj) (pm cd doc : Value) (a : Addr) (vs : List Value) (ns : List Int),
   Ground q loose [] XP w s₀ mg mb s₁.heap -> YP w s₁.heap ->
   s₁.heap.get? fa = some o -> o.data = .func (docDef d.name d.params d.body d.scope pm cd doc) -> s₁.heap.CodeRec cd d.name -> mg d.name = some (.ref fa) ->
   s₁.heap.get? a = some { cls:=.type "list", data:=.seq vs.toArray } -> IntsAre vs ns -> ns.length <= n -> s₁.gens = #[] ->
   codeAny (model l.prog w) callerA (.call (.ref fa) ⟨[.ref a],[]⟩) (fun r s' => r = .ok (.ret (.bool true)) /\ OldK s₁.heap s'.heap /\ s'.os = s₁.os /\ AllBare s'.gens) s₁) :
  WalkO q loose XP YP l.row.toRowW d [] (fun f vs => PySem.call f vs):=by
 intro w s₀ s₁ mg mb G Y fa o pm cd doc dV kV ho hd hcd hD hmg hg args vals as hpre hlay hrd hwl hlo;obtain rfl : dV = .none:=Dflts.none hD hdf;obtain rfl : kV = .none:=Dflts.noKw hD;obtain ⟨a,vs,ns,rfl,rfl,hobj,hints,hlen⟩:=zNa hn hpre hwl;refine enter_call (codeAny_mono (call w s₀ s₁ mg mb fa o pm cd doc a vs ns G Y ho (fd_plain hd) hcd hmg hobj hints hlen hg) fun r s' hq => ?_);obtain ⟨rfl,h2,h3,h4⟩:=hq;exact ⟨.inl ⟨.bool true,.bool true,[],rfl,fun _ => rfl,.bool true,zOM l _,fun _ => ⟨List.Pairwise.nil,fun _ hm => (nomatch hm)⟩⟩,h2,h3,h4⟩
end Att
namespace L2
open PySem PySem.Spec PyProof.Rows
theorem zI5 : ∀ {vs : List Value} {ns : List Int},IntsAre vs ns -> zo (ns.map V.int) vs
 | _,_,.nil => .nil
 | _,_,.cons n t h => .cons ⟨t,rfl⟩ (zI5 h)
def zRc (H : Hp) : Prop:=∀ b,H b = none \/ ∃ o xs,H b = some (.frz o (.lst xs))
theorem zPL {P : Program} {w : World} {K : PySem.W.Frag} {mg mb : Str -> Option Value} {CX : CXT} {k : Nat} {fa a : Addr} {fd : FuncData} {x : Str} {sp : Sp} {s₁ : Shared} {vs : List Value} {ns : List Int}
  (KX : K.In s₁.heap) (hns : s₁.heap.Ns mainGlobals mg) (hb : s₁.heap.Ns builtinsNs mb) (hbb : ∀ x : Str,x ≠ "__name__" -> mb x = bootBuiltins x) (hlim : s₁.heap.NoLimit) (hg : s₁.gens = #[])
  (ha : s₁.heap.get? a = some { cls:=.type "list", data:=.seq vs.toArray }) (hi : IntsAre vs ns) (hl : ns.length <= sizeLine) (hr : Room k callerA)
  (F : ∀ base : Heap,K.In base -> base.Ns mainGlobals mg -> FnOk P w K mg base CX k fa fd [x] sp) (hbind : ∀ (s : Shared) (u : Value),BindsTo s fd ⟨[u],[]⟩ [(x,u)])
  (hsp : ∀ H : Hp,zRc H -> SqL K H a (ns.map V.int) -> sp [.ref a] H (fun v _ => v = .bl true) fun _ _ _ => False)
  (hCX : ∀ H e s',CX [] H s₁ (fun _ _ _ => False) e s' -> False) :
  codeAny (model P w) callerA (.call (.ref fa) ⟨[.ref a],[]⟩) (fun r s' => r = .ok (.ret (.bool true)) /\ OldK s₁.heap s'.heap /\ s'.os = s₁.os /\ AllBare s'.gens) s₁:=by
 have rv:=zI5 hi;have lenV:=hi.length
 have core : ∀ H : Hp,zRc H -> SqL K H a (ns.map V.int) -> HOk P w H s₁.heap -> (∀ b,H b ≠ none -> b = a) -> (H a ≠ none -> K.lookup a = none) ->
   codeAny (model P w) callerA (.call (.ref fa) ⟨[.ref a],[]⟩) (fun r s' => r = .ok (.ret (.bool true)) /\ OldK s₁.heap s'.heap /\ s'.os = s₁.os /\ AllBare s'.gens) s₁:=by
  intro H hO hS hok hA hK;have base_of : ∀ {b : Addr} {o : Obj},s₁.heap.get? b = some o -> H b = none -> (zJ9 s₁.heap H).get? b = some o:=fun e n => zOx e n;have noA : ∀ {b : Addr} {o : Obj} {es : Array DictEntry} {ep : Nat},s₁.heap.get? b = some o -> o.data = .dict es ep -> H b = none:=fun {b o es ep} e d => by
   cases q : H b with
   | none => rfl
   | some u =>
    have e' : b = a:=hA b (by rw [q]; simp);subst e';rw [ha] at e; cases e;have d' : Data.seq vs.toArray _ = Data.dict es ep:=d;cases d'
  have nsK : ∀ {b : Addr} {m : Str -> Option Value},s₁.heap.Ns b m -> (zJ9 s₁.heap H).Ns b m:=fun {b m} ⟨o,es,ep,e,d,r⟩ => ⟨o,es,ep,base_of e (noA e d),d,r⟩;have hKb : K.In (zJ9 s₁.heap H):=fun b o e => base_of (KX b o e) (by
   cases q : H b with
   | none => rfl
   | some u =>
    have e' : b = a:=hA b (by rw [q]; simp);subst e';rw [hK (by rw [q]; simp)] at e; cases e)
  have hM : Mod K mg (zJ9 s₁.heap H):=⟨hKb,nsK hns,⟨mb,nsK hb,hbb⟩,let ⟨mc,h1,h2⟩:=hlim; ⟨mc,nsK h1,h2⟩⟩;have e0 : Env0 P w K mg (zJ9 s₁.heap H) callerA [] s₁ H:=⟨rfl,hM,fun b o e => zRE e,Nat.le_of_eq (zNh _ _),trivial,fun b hb => absurd (show b ∈ ([] : List Addr) from hb) (by simp),hok,.of_eq hg⟩;refine codeAny_mono ((F _ hKb (nsK hns)).run callerA [] s₁ H ⟨[.ref a],[]⟩ [.ref a] [.ref a] _ _ hr e0 (hbind s₁ (.ref a)) (.cons rfl .nil) (hsp H hO hS)) fun r s' h => ?_;cases r with
  | error e => exact (hCX H e s' h).elim
  | ok fl =>
   cases fl with
   | next => exact False.elim h
   | brk => exact False.elim h
   | cont => exact False.elim h
   | ret u =>
    obtain ⟨v,H',os,bare,un,hok',r',q⟩:=h;have q' : v = .bl true:=q;subst q';obtain rfl : u = Value.bool true:=r';refine ⟨rfl,OldK.of_keep fun b o e => ?_,os,bare⟩;cases q : H b with
    | none => exact un.keep b o e q (by intro z; exact absurd (show b ∈ ([] : List Addr) from z) (by simp)) (by simp)
    | some u =>
     rcases hO b with z | ⟨ob,xs,z⟩
     ·rw [q] at z; cases z
     ·have z2:=un.frzs b ob _ z;obtain ⟨e1,_⟩:=hok b _ z;obtain ⟨e2,_⟩:=hok' b _ z2;rw [e] at e1; cases e1;exact e2
 cases hk : K.lookup a with
 | some o =>
  have e:=KX a o hk;rw [ha] at e;cases e;refine core (fun _ => none) (fun _ => .inl rfl) (.inr ⟨_,vs.toArray,_,hk,rfl,rfl,rfl,by rw [zVV,lenV]; exact hl,by simpa using rv⟩) (fun b u z => by have z' : (none : Option HO) = some u:=z; cases z') (fun b z => absurd rfl z) fun z => absurd rfl z
 | none =>
  refine core (fun b => if b = a then some (.frz { cls:=.type "list", data:=.seq vs.toArray } (.lst (ns.map V.int))) else none) (fun b => ?_) (.inl (.inr ⟨{ cls:=.type "list", data:=.seq vs.toArray },zVc rfl⟩)) (fun b u z => ?_) (fun b z => ?_) fun _ => hk
  ·by_cases hb : b = a
   ·exact .inr ⟨_,_,zVc hb⟩
   ·exact .inl (zVf hb)
  ·by_cases hb : b = a
   ·have z':=(zVc hb).symm.trans z;cases z';subst hb;exact ⟨ha,by rw [zVW]; exact hl,vs,_,rv,ha⟩
   ·have z':=(zVf hb).symm.trans z;cases z'
  ·by_cases hb : b = a
   ·exact hb
   ·exact absurd (zVf hb) z
theorem zR2 {l : PySem.W.OpenLaw} {n k : Nat} {q : Program} {loose : List Str} {XP : (Str -> Option Value) -> Heap -> Prop} {YP : World -> Heap -> Prop} {d : DefRec} {K : Params -> PySem.W.Frag} {CX : World -> CXT} {sp : World -> Sp} {x : Str}
  (hn : l.most = some n) (hn2 : n <= sizeLine) (hdf : d.params.defaults = []) (hr : Room k callerA)
  (hY : ∀ (w : World) (h : Heap),YP w h -> (K w.params).In h)
  (F : ∀ (w : World) (mg : Str -> Option Value) (fa : Addr) (h : Heap),(K w.params).In h -> h.Ns mainGlobals mg -> mg d.name = some (.ref fa) ->
   ∃ fd : FuncData,(∀ (s : Shared) (u : Value),BindsTo s fd ⟨[u],[]⟩ [(x,u)]) /\
    ∀ base : Heap,(K w.params).In base -> base.Ns mainGlobals mg -> FnOk l.prog w (K w.params) mg base (CX w) k fa fd [x] (sp w))
  (hsp : ∀ (w : World) (H : Hp) (a : Addr) (ns : List Int),ns.length <= n -> zRc H -> SqL (K w.params) H a (ns.map V.int) -> sp w [.ref a] H (fun v _ => v = .bl true) fun _ _ _ => False)
  (hCX : ∀ (w : World) (H : Hp) (s : Shared) (e : Value) (s' : Shared),CX w [] H s (fun _ _ _ => False) e s' -> False) :
  PySem.W.WalkO q loose XP YP l.row.toRowW d [] (fun f vs => PySem.call f vs):=by
 refine Att.zKa hn hdf fun w s₀ s₁ mg mb fa o pm cd doc a vs ns G Y ho hd hcd hmg hobj hints hlen hg => ?_;have KX:=hY w _ Y;obtain ⟨fd,hb,hF⟩:=F w mg fa _ KX G.T.g hmg;exact zPL KX G.T.g G.T.b G.T.builtins G.T.nolimit hg hobj hints (zVo hlen hn2) hr hF hb (fun H hO hS => hsp w H a ns hlen hO hS) fun H e s' => hCX w H s₁ e s'
def zEp (s : Stmt) : Arguments:=match s with
 | .FunctionDef _ a _ _ _ _ _ _ _ _ => a
 | _ => { posonlyargs:=[],args:=[],vararg:=none,kwonlyargs:=[],kw_defaults:=[],kwarg:=none,defaults:=[] }
def zC8 (s : Stmt) : List Stmt:=match s with
 | .FunctionDef _ _ b _ _ _ _ _ _ _ => b
 | _ => []
def zN (s : Stmt) : Scope:=match s with
 | .FunctionDef _ _ _ _ _ _ sc _ _ _ => sc
 | _ => { kind:=.function,names:=[],isGenerator:=false,isCoroutine:=false }
abbrev CX0 : CXT:=fun _ _ _ _ _ _ => False
abbrev E0 : XK:=fun _ _ _ => False
theorem zUD {X : Cx} : zLw CX0 X E0:=fun _ _ _ _ _ _ _ h => h.elim
structure Fun (K : PySem.W.Frag) (x qual : Str) (st : Stmt) (f : Addr) (fd : FuncData) : Prop where
 ex : ∃ (oc : Value) (od : Option Addr) (kV doc pm : Value) (an : Option Addr) (cdv ct : Value) (osl : Array (Option Value)),
  fd = PySem.W.fnOf x qual (zEp st) (zC8 st) (zN st) .none kV doc pm an cdv ct /\ K.lookup f = some ⟨oc,od,.func fd,osl⟩ /\ PySem.W.codeIn K cdv qual = true
 kp : PySem.W.keepIn K (.ref f) = true
section
variable {P : Program} {w : World} {K : PySem.W.Frag} {mg : Str -> Option Value} {base : Heap}
theorem Fun.ok {x qual : Str} {st : Stmt} {f : Addr} {fd : FuncData} {N ps : List Str} {k : Nat} {sp : Sp} (F : Fun K x qual st f fd) (S : FnScope N ps (zN st)) (len : ∀ vs H Q E,sp vs H Q E -> vs.length = ps.length)
  (hbody : ∀ (cdv : Value) (A : Around) (outer : List Env) (s : Shared) (H : Hp) (vs : List V) (Q : VK) (E : XK),Room k (A.deeper (envOfC qual (zN st) s.heap.objs.size f cdv)) -> sp vs H Q E ->
   ∃ t,PSs (zL2 CX0 P w K mg base N qual (zN st) f cdv A outer s H E).nox (zC8 st) t /\ t { nx:=fun _ H' => Q .non H',rt:=Q } (zE5 N vs) H) : FnOk P w K mg base CX0 (k + 1) f fd ps sp:=by
 obtain ⟨oc,od,kV,doc,pm,an,cdv,ct,osl,rfl,lk,hcd⟩:=F.ex;refine zUO lk hcd S len fun A outer s H vs Q E hr hsp => ?_;obtain ⟨t,h,q⟩:=hbody cdv A outer s H vs Q E hr hsp;exact ⟨t,h.nox,q⟩
theorem Fun.binds {x qual : Str} {st : Stmt} {f : Addr} {fd : FuncData} {ps : List Str} (F : Fun K x qual st f fd)
  (h : ∀ (kV doc pm : Value) (an : Option Addr) (cdv ct : Value) (us : List Value),us.length = ps.length -> bindArgs (PySem.W.fnOf x qual (zEp st) (zC8 st) (zN st) .none kV doc pm an cdv ct) ⟨us,[]⟩ = pure (ps.zip us)) : zIQ K fd ps []:=by
 obtain ⟨oc,od,kV,doc,pm,an,cdv,ct,osl,rfl,lk,hcd⟩:=F.ex;exact .all (h kV doc pm an cdv ct)
theorem zP7 {x qual : Str} {st : Stmt} {f : Addr} {oc : Value} {od an : Option Addr} {osl : Array (Option Value)} {kV doc pm cdv ct : Value} (l : K.lookup f = some ⟨oc,od,.func (PySem.W.fnOf x qual (zEp st) (zC8 st) (zN st) .none kV doc pm an cdv ct),osl⟩)
  (c : PySem.W.codeIn K cdv qual = true) (k : PySem.W.keepIn K (.ref f) = true) : Fun K x qual st f (PySem.W.fnOf x qual (zEp st) (zC8 st) (zN st) .none kV doc pm an cdv ct):=⟨⟨oc,od,kV,doc,pm,an,cdv,ct,osl,rfl,l,c⟩,k⟩
end
theorem zBr {A : Around} {k : Nat} (hr : Room k A) : A.units + 1 < cLine:=Nat.lt_of_le_of_lt (Nat.add_le_add_left (by decide : 1 <= 64) _) hr.units
section
variable {X : Cx}
theorem pv (i : Nat) {x : Str} {pos : Pos} (hN : X.N[i]? = some x:=by rfl) (hv : Vis X.env.scope x:=by first | exact Or.inl rfl | exact Or.inr (Or.inl rfl) | exact Or.inr (Or.inr rfl)) (hd : (x == ("__debug__" : Str)) = false:=by decide)
  (hcd : (x == ("__classdict__" : Str)) = false:=by decide) : PE X (.Name x pos) (zTk i):=zTh hN hv hd hcd
end
theorem zGq {A B : Prop} (h : B) : if false = true then A else B:=by
 rw [zVf zVj];exact h
theorem zGu {A B : Prop} (h : A) : if true = true then A else B:=by
 rw [zVc rfl];exact h
section
variable {κ : Type} [DecidableEq κ]
def zEy (kvs : List (κ × V)) (k : κ) : Option V:=(kvs.find? fun kv => decide (kv.1 = k)).map (·.2)
def zEB (kvs : List (κ × V)) (k : κ) (v : V) : List (κ × V) :=
 if (kvs.any fun kv => decide (kv.1 = k)) = true then kvs.map (fun kv => if kv.1 = k then (kv.1,v) else kv) else kvs ++ [(k,v)]
theorem zFu {p : κ × V} {r : List (κ × V)} {k : κ} (e : p.1 = k) : zEy (p :: r) k = some p.2:=by simp [zEy,zW9,e]
theorem zFR {p : κ × V} {r : List (κ × V)} {k : κ} (e : ¬ p.1 = k) : zEy (p :: r) k = zEy r k:=by simp [zEy,zW9,e]
theorem zKb (k : κ) : ∀ kvs : List (κ × V),(kvs.any fun kv => decide (kv.1 = k)) = (zEy kvs k).isSome
 | [] => rfl
 | p :: r => by
  rw [List.any_cons];by_cases e : p.1 = k
  ·simp only [zFu e,zWV e,Bool.true_or,Option.isSome_some]
  ·rw [zFR e,zVw e,Bool.false_or]; exact zKb k r
theorem zDI (kvs : List (κ × V)) (k : κ) (v : V) : (zEB kvs k v).length <= kvs.length + 1:=by
 unfold zEB;split
 ·rw [zVW]; omega
 ·rw [zVd,zVu,List.length_nil]; omega
theorem zF9.isSome_eq (r : zF9 o u) : o.isSome = u.isSome:=by
 cases o with
 | none => cases u with
  | none => rfl
  | some _ => exact (show False from r).elim
 | some _ => cases u with
  | none => exact (show False from r).elim
  | some _ => rfl
theorem zF9.getD (r : zF9 o u) (rd : zv d d') : zv (o.getD d) (u.getD d'):=by
 cases o with
 | none => cases u with
  | none => exact rd
  | some _ => exact (show False from r).elim
 | some _ => cases u with
  | none => exact (show False from r).elim
  | some _ => exact r
theorem KV.val {kvs : List (κ × V)} {vs : List (κ × Value)} (r : KV kvs vs) (k : κ) : zF9 (zEy kvs k) (valueAt vs k):=by
 unfold KV at r;induction r with
 | nil => exact True.intro
 | @cons p q ps qs h t ih =>
  obtain ⟨h1,h2⟩:=h;by_cases e : p.1 = k
  ·have e' : q.1 = k:=h1.symm.trans e;have b : valueAt (q :: qs) k = some q.2:=by simp [valueAt,zW9,e']
   rw [zFu e,b]; exact h2
  ·have e' : ¬ q.1 = k:=fun z => e (h1.trans z);have b : valueAt (q :: qs) k = valueAt qs k:=by simp [valueAt,zW9,e']
   rw [zFR e,b]; exact ih
theorem KV.any (r : KV kvs vs) (k : κ) : (kvs.any fun kv => decide (kv.1 = k)) = vs.any fun kv => decide (kv.1 = k):=by
 unfold KV at r;induction r with
 | nil => rfl
 | cons h t ih => rw [List.any_cons,List.any_cons,ih,h.1]
theorem KV.repl (r : KV kvs vs) (k : κ) (ry : zv y u) :
  KV (kvs.map fun kv => if kv.1 = k then (kv.1,y) else kv) (vs.map fun kv => if kv.1 = k then (kv.1,u) else kv):=by
 unfold KV at r ⊢;induction r with
 | nil => exact .nil
 | @cons p q ps qs h t ih =>
  rw [zVg,zVg];refine .cons ?_ ih;obtain ⟨h1,h2⟩:=h;by_cases e : p.1 = k
  ·rw [zVc e,zVc (h1.symm.trans e)]; exact ⟨h1,ry⟩
  ·rw [zVf e,zVf (fun z => e (h1.trans z))]; exact ⟨h1,h2⟩
theorem KV.put (r : KV kvs vs) (k : κ) (ry : zv y u) : KV (zEB kvs k y) (stored vs k u):=by
 unfold zEB stored;rw [r.any k];by_cases e : (vs.any fun kv => decide (kv.1 = k)) = true
 ·rw [zVc e,zVc e]; exact r.repl k ry
 ·rw [zVf e,zVf e]; exact Paired.snoc r ⟨rfl,ry⟩
theorem KV.length (r : KV kvs vs) : kvs.length = vs.length:=Paired.length r
end
theorem zIR (r : zv (kV k) u) : (zAl P w).is k u = true:=by
 cases k with
 | inl i => obtain ⟨t,e⟩:=(show ∃ t,u = Value.int i t from r); subst e; exact zKv P w i t
 | inr x => obtain ⟨t,e⟩:=(show ∃ t,u = Value.str x t from r); subst e; exact zKp P w x t
theorem zJE : ∀ {ks : List Key} {us : List Value},zo (ks.map kV) us -> ItemsAre (zAl P w) ks us
 | [],_,r => by rw [List.map_nil] at r; cases r; exact .nil
 | k :: ks,_,r => by
  rw [zVg] at r;cases r with
  | cons h t => exact .cons (zIR h) (zJE t)
abbrev KT (H : Hp) : List (List Key × V) -> List (List Key × Addr × Value) -> Prop:=Paired fun p q => p.1 = q.1 /\ H q.2.1 = some (.tup (p.1.map kV)) /\ zv p.2 q.2.2
theorem KT.val {H : Hp} {kvs : List (List Key × V)} {xs : List (List Key × Addr × Value)} (r : KT H kvs xs) (k : List Key) : zF9 (zEy kvs k) ((atKey xs k).map (·.2)):=by
 induction r with
 | nil => exact True.intro
 | @cons p q ps qs h t ih =>
  obtain ⟨h1,_,h2⟩:=h;by_cases e : p.1 = k
  ·have e' : q.1 = k:=h1.symm.trans e;have b : atKey (q :: qs) k = some q.2:=by simp [atKey,zW9,e']
   rw [zFu e,b]; exact h2
  ·have e' : ¬ q.1 = k:=fun z => e (h1.trans z);have b : atKey (q :: qs) k = atKey qs k:=by simp [atKey,zW9,e']
   rw [zFR e,b]; exact ih
theorem KT.repl (r : KT H kvs xs) (k : List Key) (ry : zv y u) :
  KT H (kvs.map fun kv => if kv.1 = k then (kv.1,y) else kv) (xs.map (putAt k u)):=by
 induction r with
 | nil => exact .nil
 | @cons p q ps qs h t ih =>
  rw [zVg,zVg];refine .cons ?_ ih;obtain ⟨h1,h2,h3⟩:=h;unfold putAt;by_cases e : p.1 = k
  ·rw [zVc e,zVc (h1.symm.trans e)]; exact ⟨h1,h2,ry⟩
  ·rw [zVf e,zVf (fun z => e (h1.trans z))]; exact ⟨h1,h2,h3⟩
theorem KT.put (r : KT H kvs xs) (k : List Key) (hb : H b = some (.tup (k.map kV))) (ry : zv y u) :
  KT H (zEB kvs k y) (storedH xs k b u):=by
 have e : (kvs.any fun kv => decide (kv.1 = k)) = (atKey xs k).isSome:=by
  rw [zKb,(r.val k).isSome_eq,Option.isSome_map]
 unfold zEB storedH;rw [e];by_cases q : (atKey xs k).isSome = true
 ·rw [zVc q,zVc q]; exact r.repl k ry
 ·rw [zVf q,zVf q]; exact Paired.snoc r ⟨rfl,hb,ry⟩
theorem KT.keeps (r : KT H kvs xs) (ht : ∀ b ys,H b = some (.tup ys) -> H' b = some (.tup ys)) : KT H' kvs xs :=
 Paired.mapP r fun _ _ z => ⟨z.1,ht _ _ z.2.1,z.2.2⟩
section
variable {P : Program} {w : World} {H : Hp} {h : Heap} {a : Addr}
theorem zSQ (ok : HOk P w H h) (e : Rd H a u) : zAh P w H h a u:=e.ok ok
theorem zHm (ok : HOk P w H h) (e : Rd H a (.dK kvs)) : kvs.length <= sizeLine /\ (a == sysModules) = false /\ ∃ vs,KV kvs vs /\ h.DictOf (zAl P w) a vs :=
 show zAh P w H h a (.dK kvs) from zSQ ok e
theorem zST (ok : HOk P w H h) (e : H a = some (.dK kvs)) : kvs.length <= sizeLine /\ (a == sysModules) = false /\ ∃ vs,KV kvs vs /\ h.DictOf (zAl P w) a vs:=zHm ok (.inl e)
theorem zFG (ok : HOk P w H h) (e : H a = some (.tup (ks.map kV))) : (tupleKind (zAl P w)).is h ks a:=by
 obtain ⟨_,its,r,o,h1,h2,⟨n,h3⟩,_⟩:=(show zAh P w H h a (.tup (ks.map kV)) from ok a _ e);exact ⟨o,its.toArray,n,h1,h2,h3,by simpa using zJE r⟩
theorem zIA (ok : HOk P w H h) (e : Rd H a (.dT kvs)) : kvs.length <= sizeLine /\ (a == sysModules) = false /\
  ∃ xs,KT H kvs xs /\ h.DictOfH (tupleKind (zAl P w)) a xs:=by
 obtain ⟨z,y,xs,r,o,es,ep,h1,h2,h3,h4,h5⟩:=(show zAh P w H h a (.dT kvs) from zSQ ok e);refine ⟨z,y,xs,r,o,es,ep,h1,h2,h3,h4,fun x hx => ?_,h5⟩;have all : ∀ {l : List (List Key × V)} {m : List (List Key × Addr × Value)},KT H l m -> ∀ x ∈ m,(tupleKind (zAl P w)).is h x.1 x.2.1:=by
  intro l m q;induction q with
  | nil => intro x hx; exact nomatch hx
  | @cons p q ps qs hq t ih =>
   intro x hx;rcases zVZ.mp hx with e | hx
   ·subst e;exact zFG ok (by rw [<- hq.1]; exact hq.2.1)
   ·exact ih x hx
 exact all r x hx
theorem zSM (ok : HOk P w H h) (e : H a = some (.dT kvs)) : kvs.length <= sizeLine /\ (a == sysModules) = false /\
  ∃ xs,KT H kvs xs /\ h.DictOfH (tupleKind (zAl P w)) a xs:=zIA ok (.inl e)
end
def zDr (H : Hp) (a : Addr) (y : V) (r : Option V) : Prop :=
 (∃ kvs k,Rd H a (.dK kvs) /\ y = kV k /\ r = zEy kvs k) \/ ∃ kvs k b,Rd H a (.dT kvs) /\ y = .ref b /\ H b = some (.tup (k.map kV)) /\ r = zEy kvs k
def zGs (H : Hp) (a : Addr) (y v : V) (H' : Hp) : Prop :=
 (∃ kvs k,H a = some (.dK kvs) /\ y = kV k /\ kvs.length < sizeLine /\ H' = upd H a (.dK (zEB kvs k v))) \/
 ∃ kvs k b,H a = some (.dT kvs) /\ y = .ref b /\ H b = some (.tup (k.map kV)) /\ kvs.length < sizeLine /\ H' = upd H a (.dT (zEB kvs k v))
theorem zDr.k {H : Hp} {a : Addr} {kvs : List (Key × V)} {k : Key} (e : H a = some (.dK kvs)) : zDr H a (kV k) (zEy kvs k):=.inl ⟨kvs,k,.inl e,rfl,rfl⟩
theorem zDr.t {k : List Key} (e : H a = some (.dT kvs)) (eb : H b = some (.tup (k.map kV))) : zDr H a (.ref b) (zEy kvs k):=.inr ⟨kvs,k,b,.inl e,rfl,eb,rfl⟩
theorem zGs.k {H : Hp} {a : Addr} {kvs : List (Key × V)} {k : Key} {v : V} (e : H a = some (.dK kvs)) (hl : kvs.length < sizeLine) : zGs H a (kV k) v (upd H a (.dK (zEB kvs k v))):=.inl ⟨kvs,k,e,rfl,hl,rfl⟩
theorem zGs.t {kvs : List (List Key × V)} {k : List Key} (e : H a = some (.dT kvs)) (eb : H b = some (.tup (k.map kV))) (hl : kvs.length < sizeLine) :
  zGs H a (.ref b) v (upd H a (.dT (zEB kvs k v))):=.inr ⟨kvs,k,b,e,rfl,eb,hl,rfl⟩
section
variable {X : Cx} {zB : List (Addr × Obj)} {σ : St} {H : Hp} {s : Shared} {a : Addr} {y v : V} {u r : Value} {o : Option V} {A : Around} {E : Value -> Shared -> Prop}
theorem Inv.big (I : Inv X zB σ H s) : sysModules < s.heap.objs.size:=by
 have h : mainGlobals < s.heap.objs.size:=(I.mod.glob.keeps I.bk).lt;exact Nat.lt_trans (by decide) h
theorem zOP (hu : A.units + 1 < cLine) (I : Inv X zB σ H s) (g : zDr H a y (some v)) (ry : zv y u) (h : ∀ w' s',Inv X zB σ H s' -> zv v w' -> Q w' s') :
  wpAny (model X.prog X.w) A (getItem (.ref a) u) Q E s:=by
 rcases g with ⟨kvs,k,e,ey,l⟩ | ⟨kvs,k,b,e,ey,eb,l⟩
 ·subst ey;obtain ⟨z,hd,vs,rel,dd⟩:=zHm I.hok e;obtain ⟨w',hw,rw'⟩:=zF9.some_of (v:=v) (o:=valueAt vs k) (by rw [l]; exact rel.val k);exact wpAny_getItem_of (zIR ry) dd.mapOf hw (h w' _ (I.tok _) rw')
 ·subst ey;cases (show u = Value.ref b from ry);obtain ⟨z,hd,xs,rel,dd⟩:=zIA I.hok e;obtain ⟨w',hw,rw'⟩:=zF9.some_of (v:=v) (o:=(atKey xs k).map (·.2)) (by rw [l]; exact rel.val k);obtain ⟨p,hp,hp2⟩:=Option.map_eq_some_iff.mp hw;refine wpAny_getItem_heap (tupleKind_room_in1 hu) (zFG I.hok eb) dd hp ?_;rw [hp2];exact h w' _ (I.tok _) rw'
theorem zVD (hu : A.units + 1 < cLine) (I : Inv X zB σ H s) (g : zDr H a y o) (ry : zv y u) (h : ∀ s',Inv X zB σ H s' -> Q (.bool o.isSome) s') :
  wpAny (model X.prog X.w) A (compareOp .In u (.ref a)) Q E s:=by
 rcases g with ⟨kvs,k,e,ey,l⟩ | ⟨kvs,k,b,e,ey,eb,l⟩
 ·subst ey;obtain ⟨z,hd,vs,rel,dd⟩:=zHm I.hok e;refine wpAny_in_of (zIR ry) hd dd.mapOf ?_;rw [<- (rel.val k).isSome_eq,<- l];exact h _ (I.tok _)
 ·subst ey;cases (show u = Value.ref b from ry);obtain ⟨z,hd,xs,rel,dd⟩:=zIA I.hok e;refine wpAny_in_heap (tupleKind_room_in1 hu) (zFG I.hok eb) hd dd ?_;have q:=(rel.val k).isSome_eq;rw [Option.isSome_map] at q;rw [<- q,<- l];exact h _ (I.tok _)
theorem zRb (hu : A.units + 1 < cLine) (I : Inv X zB σ H s) (g : zDr H a y o) (ry : zv y u) (h : ∀ s',Inv X zB σ H s' -> Q (.bool (!o.isSome)) s') :
  wpAny (model X.prog X.w) A (compareOp .NotIn u (.ref a)) Q E s:=by
 rcases g with ⟨kvs,k,e,ey,l⟩ | ⟨kvs,k,b,e,ey,eb,l⟩
 ·subst ey;obtain ⟨z,hd,vs,rel,dd⟩:=zHm I.hok e;refine wpAny_notIn_of (zIR ry) hd dd.mapOf ?_;rw [<- (rel.val k).isSome_eq,<- l];exact h _ (I.tok _)
 ·subst ey;cases (show u = Value.ref b from ry);obtain ⟨z,hd,xs,rel,dd⟩:=zIA I.hok e;refine wpAny_notIn_heap (tupleKind_room_in1 hu) (zFG I.hok eb) hd dd ?_;have q:=(rel.val k).isSome_eq;rw [Option.isSome_map] at q;rw [<- q,<- l];exact h _ (I.tok _)
theorem zG2 (I : Inv X zB σ H s) (mu : Mut (H a)) (hs : Heap.SameBut a s.heap h') (he : ∃ q,h'.get? a = some q) (new : zAh X.prog X.w (upd H a ob) h' a ob) :
  Inv X zB σ (upd H a ob) { s with heap:=h',toks:=t' } :=
 I.write (x:=a) (e:=a) mu (.inl rfl) (fun b q hb z => (hs.2 b hb).trans z) he new
theorem zPr (z : kvs.length <= sizeLine) (hd : (a == sysModules) = false) (rel : KV kvs vs) (dd : h'.DictOf (zAl P w) a vs) :
  zAh P w H' h' a (.dK kvs):=⟨z,hd,vs,rel,dd⟩
theorem zNU (hu : A.units + 1 < cLine) (I : Inv X zB σ H s) (g : zGs H a y v H') (ry : zv y u) (rv : zv v r) (h : ∀ s',Inv X zB σ H' s' -> Q () s') :
  wpAny (model X.prog X.w) A (setItem (.ref a) u r) Q E s:=by
 rcases g with ⟨kvs,k,e,ey,l,eH⟩ | ⟨kvs,k,b,e,ey,eb,l,eH⟩
 ·subst ey eH;obtain ⟨z,hd,vs,rel,dd⟩:=zST I.hok e;have hz : vs.length <= sizeLine:=by rw [<- rel.length]; exact z
  have hl : (zEB kvs k v).length <= sizeLine:=by have:=zDI kvs k v; omega
  refine wpAny_setItem_pairs (hsz:=hz) (zIR ry) dd fun h' dd' hs => h _ ?_;have he : ∃ q,h'.get? a = some q:=let ⟨q,_,_,hq,_⟩:=dd'; ⟨q,hq⟩;exact zG2 I (by rw [e]; exact True.intro) hs he (zPr hl hd (rel.put k rv) dd')
 ·subst ey eH;cases (show u = Value.ref b from ry);obtain ⟨z,hd,xs,rel,dd⟩:=zSM I.hok e;have hz : xs.length <= sizeLine:=by rw [<- Paired.length rel]; exact z
  have hl : (zEB kvs k v).length <= sizeLine:=by have:=zDI kvs k v; omega
  refine wpAny_setItem_heap (hsz:=hz) (tupleKind_room_in1 hu) (zFG I.hok eb) dd fun h' dd' hs => h _ ?_;obtain ⟨q,es,ep,hq,h2,h3,h4,_,h5⟩:=dd';refine zG2 I (by rw [e]; exact True.intro) hs ⟨q,hq⟩ ⟨hl,hd,_,(rel.put k eb rv).keeps fun c ys ec => ?_,q,es,ep,hq,h2,h3,h4,h5⟩;rw [zh (zJO ec e (fun z => nomatch z))];exact ec
end
def zTM (i : Expr) : Prop:=∀ ov iv,subscripted i false ov iv = operate [ov,iv] (getItem ov iv)
theorem zQy {prog : Program} {w : World} {A : Around} {E : Value -> Shared -> Prop} {s : Shared} {env : Env} {value slice : Expr} {pos : Pos} {T id : String} {Q : Value -> Shared -> Prop}
  (hl : typeLookup (.type T) "__getitem__" = pure (some (.builtin id))) (hs : zTM slice)
  (h : wpAny (model prog w) A (eval value env) (fun o s₁ => wpAny (model prog w) A (eval slice env) (fun i s₂ => s₂.TypeIs o T /\ wpAny (model prog w) A (getItem o i) Q E s₂) E s₁) E s) :
  wpAny (model prog w) A (eval (.Subscript value slice pos) env) Q E s:=by
 refine Subscript_ (zVt h (fun o s₁ h₁ => zVt h₁ (fun i s₂ h₂ => ?_) fun _ _ x => x) fun _ _ x => x);obtain ⟨hT,h₂⟩:=h₂;unfold subscriptTail;refine zVN ?_;rw [getitemInPython_of_ne hT.not_modules];refine zVN (wpAny_specialOf hT hl ?_);have fin : wpAny (model prog w) A (subscripted slice false o i) (fun r s₃ => wpAny (model prog w) A (letTemporaryGo value o r >>= fun _ => pure r) Q E s₃) E s₂:=by
  rw [hs o i];exact wpAny_operating (zVt h₂ (fun r s₃ h₃ => zVN (wpAny_letTemporaryGo (zVP h₃))) fun _ _ x => x)
 first
  | exact zVP (zVN fin)
  | exact zVN (zVP (zVN fin))
  | exact zVN fin
theorem zK3 (I : Inv X zB σ H s) (g : zDr H a y o) : s.TypeIs (.ref a) "dict" := by
 rcases g with ⟨kvs,k,e,_,_⟩ | ⟨kvs,k,b,e,_,_,_⟩
 ·obtain ⟨_,_,vs,_,dd⟩:=zHm I.hok e;exact dd.typeIs
 ·obtain ⟨_,_,xs,_,dd⟩:=zIA I.hok e;exact dd.typeIs
def zUH (td ty : TE) : TE:=fun σ H Q => td σ H fun x H1 => ty σ H1 fun y H2 => ∃ a v,x = .ref a /\ zDr H2 a y (some v) /\ Q v H2
def zUw (ty td : TE) : TE:=fun σ H Q => ty σ H fun y H1 => td σ H1 fun x H2 => ∃ a o,x = .ref a /\ zDr H2 a y o /\ Q (.bl o.isSome) H2
def zR8 (ty td : TE) : TE:=fun σ H Q => ty σ H fun y H1 => td σ H1 fun x H2 => ∃ a o,x = .ref a /\ zDr H2 a y o /\ Q (.bl (!o.isSome)) H2
def zUc (td ty tv : TE) : TS:=fun D σ H => tv σ H fun v H1 => td σ H1 fun x H2 => ty σ H2 fun y H3 => ∃ a H4,x = .ref a /\ zGs H3 a y v H4 /\ D.nx σ H4
section
variable {X : Cx} {o i e value : Expr} {pos pos' tpos : Pos} {td ty tv : TE}
theorem zRZ (hu : X.A.units + 1 < cLine) (ho : PE X o td) (hi : PE X i ty) (hs : zTM i) : PE X (.Subscript o i pos) (zUH td ty):=by
 intro zB s σ H Q I h;refine zQy PySem.F.slot_dict_getitem.lookup hs (thn (ho zB s σ H _ I h) fun u s1 ⟨x,H1,I1,rx,q1⟩ => thn (hi zB s1 σ H1 _ I1 q1) fun iv s2 ⟨y,H2,I2,ry,a,v,ex,g,q2⟩ => ?_);subst ex;obtain rfl : u = Value.ref a:=rx;exact ⟨zK3 I2 g,zOP hu I2 g ry fun w' s3 I3 rw' => ⟨v,H2,I3,rw',q2⟩⟩
theorem zTH (hu : X.A.units + 1 < cLine) (hi : PE X i ty) (ho : PE X o td) : PC X .In i o (zUw ty td):=by
 intro zB s σ H Q I h;refine thn (hi zB s σ H _ I h) fun iv s1 ⟨y,H1,I1,ry,q1⟩ => thn (ho zB s1 σ H1 _ I1 q1) fun u s2 ⟨x,H2,I2,rx,a,ov,ex,g,q2⟩ => ?_;subst ex;obtain rfl : u = Value.ref a:=rx;exact zVD hu I2 g ry fun s3 I3 => ⟨.bl ov.isSome,H2,I3,rfl,q2⟩
theorem zJM (hu : X.A.units + 1 < cLine) (hi : PE X i ty) (ho : PE X o td) : PC X .NotIn i o (zR8 ty td):=by
 intro zB s σ H Q I h;refine thn (hi zB s σ H _ I h) fun iv s1 ⟨y,H1,I1,ry,q1⟩ => thn (ho zB s1 σ H1 _ I1 q1) fun u s2 ⟨x,H2,I2,rx,a,ov,ex,g,q2⟩ => ?_;subst ex;obtain rfl : u = Value.ref a:=rx;exact zRb hu I2 g ry fun s3 I3 => ⟨.bl (!ov.isSome),H2,I3,rfl,q2⟩
theorem zSA (hu : X.A.units + 1 < cLine) (ho : PE X o td) (hi : PE X i ty) (hv : PE X value tv) (hs : swapsWith value (some (.Subscript o i pos')) pos.line X.env = pure false) :
  PS X (.Assign [.Subscript o i pos'] value pos) (zUc td ty tv):=by
 intro zB s σ H D I h;refine wpAny_Assign_Subscript (thn (hv zB s σ H _ I h) fun r s1 ⟨v,H1,I1,rv,q1⟩ => thn (ho zB s1 σ H1 _ I1 q1) fun u s2 ⟨x,H2,I2,rx,q2⟩ => thn (hi zB s2 σ H2 _ I2 q2) fun iv s3 ⟨y,H3,I3,ry,a,H4,ex,g,q3⟩ => ?_) hs;subst ex;obtain rfl : u = Value.ref a:=rx;exact zNU hu I3 g ry rv fun s4 I4 => ⟨σ,H4,I4,q3⟩
end
theorem zPe (h : Heap) (hb : sysModules < h.objs.size) : zAh P w H (h.push { cls:=.type "dict", data:=.dict #[] }) h.objs.size (.dT []) :=
 ⟨zV9 _,beq_eq_false_iff_ne.mpr (Ne.symm (zVi hb)),[],.nil,_,#[],0,zVX _ rfl,⟨rfl,rfl,rfl⟩,rfl,rfl,List.nodup_nil⟩
def zSr : TE:=fun _ H Q => ∀ p,H p = none -> Q (.ref p) (upd H p (.dT []))
section
variable {X : Cx} {pos : Pos}
theorem zOv : PE X (.Dict [] [] pos) zSr:=fun zB s σ H Q I h =>
 wpAny_Dict_empty ⟨.ref s.heap.objs.size,_,I.laid (a:=s.heap.objs.size) (o:=.dT []) (t':=s.toks) (fun _ _ q => zVO _ q) (zVT _) (zPe s.heap I.big),rfl,h _ (I.hok.fresh (zVT _))⟩
end
structure M2 (X : Cx) (o : Expr) (m : Str) (apos : Pos) (e f : Expr) (cpos : Pos) : Prop where
 base : attributeBase o m X.env (eval o X.env) = eval o X.env
 few : ((backTo cpos (starEach [e,f] X.env)).all (fun x => !x.1) && (backToKw cpos (keywordEach [] X.env)).all (fun x => x.1.isSome)
  && decide (([e,f] : List Expr).length + ([] : List Keyword).length + (if ([] : List Keyword).isEmpty then 0 else 1) < 30)) = true
 line : (apos.endLine == cpos.line) = true
 trees : backTo cpos (starEach [e,f] X.env) = [(false,eval e X.env),(false,eval f X.env)]
def IsD (H : Hp) (a : Addr) : Prop:=(∃ kvs,Rd H a (.dK kvs)) \/ ∃ kvs,Rd H a (.dT kvs)
theorem zTG (I : Inv X zB σ H s) (d : IsD H a) :
  s.TypeIs (.ref a) "dict" /\ (∀ b,Value.ref a = .ref b -> ∃ ob,s.heap.get? b = some ob /\ ob.dict = none) /\ (a == sysModules) = false:=by
 rcases d with ⟨kvs,e⟩ | ⟨kvs,e⟩
 ·obtain ⟨_,hd,vs,_,dd⟩:=zHm I.hok e;refine ⟨dd.typeIs,fun b q => ?_,hd⟩;cases q;obtain ⟨ob,_,_,h1,h2,_⟩:=dd;exact ⟨ob,h1,h2.2.1⟩
 ·obtain ⟨_,hd,xs,_,dd⟩:=zIA I.hok e;refine ⟨dd.typeIs,fun b q => ?_,hd⟩;cases q;obtain ⟨ob,_,_,h1,h2,_⟩:=dd;exact ⟨ob,h1,h2.2.1⟩
section
variable {X : Cx} {zB : List (Addr × Obj)} {σ : St} {H : Hp} {s : Shared} {a : Addr} {y d : V} {u r : Value} {o : Option V} {A : Around} {E : Value -> Shared -> Prop}
theorem zTS (hu : A.units + 1 < cLine) (I : Inv X zB σ H s) (g : zDr H a y o) (ry : zv y u) (rd : zv d r) (h : ∀ w' s',Inv X zB σ H s' -> zv (o.getD d) w' -> Q w' s') :
  wpAny (model X.prog X.w) A (call (.builtin "dict.get") [.ref a,u,r]) Q E s:=by
 rcases g with ⟨kvs,k,e,ey,l⟩ | ⟨kvs,k,b,e,ey,eb,l⟩
 ·subst ey;obtain ⟨z,hd,vs,rel,dd⟩:=zHm I.hok e;refine call_meetsIn PySem.F.slot_dict_get dd.typeIs PySem.F.entry_dict_get (PySem.F.args_dict_get_3 _ _ _) (meets_dict_get_default (zAl X.prog X.w) a (zIR ry) hd r) ⟨_,dd.mapOf,h _ _ (I.tok _) ?_⟩;rw [l];exact (rel.val k).getD rd
 ·subst ey;cases (show u = Value.ref b from ry);obtain ⟨z,hd,xs,rel,dd⟩:=zIA I.hok e;refine call_meetsIn PySem.F.slot_dict_get dd.typeIs PySem.F.entry_dict_get (PySem.F.args_dict_get_3 _ _ _) (meetsH_dict_get_default (tupleKind (zAl X.prog X.w)) a b hd r) ⟨tupleKind_room_in1 hu,k,xs,zFG I.hok eb,dd,h _ _ (I.tok _) ?_⟩;rw [l];exact (rel.val k).getD rd
end
def zPy (td ty tx : TE) : TE:=fun σ H Q => td σ H fun x H1 => ∃ a,x = .ref a /\ IsD H1 a /\ ty σ H1 fun y H2 => tx σ H2 fun z H3 => ∃ o,zDr H3 a y o /\ Q (o.getD z) H3
section
variable {X : Cx} {o e f : Expr} {apos cpos : Pos} {td ty tx : TE}
theorem zOn (hu : X.A.units + 1 < cLine) (ho : PE X o td) (he : PE X e ty) (hf : PE X f tx) (m : M2 X o "get" apos e f cpos) : PE X (.Call (.Attribute o "get" apos) [e,f] [] cpos) (zPy td ty tx):=by
 intro zB s σ H Q I h;refine wpAny_Call_method m.base m.few m.line PySem.F.plainAttrs_dict PySem.F.slot_dict_get PySem.F.type_dict_get (thn (ho zB s σ H _ I h) fun u s1 ⟨x,H1,I1,rx,a,ex,d,q1⟩ => ?_);subst ex;obtain rfl : u = Value.ref a:=rx;obtain ⟨t1,t2,_⟩:=zTG I1 d;refine ⟨t1,t2,?_⟩;rw [m.trees];refine Calls.callWith_builtin rfl (Calls.evalArgs_plain (Calls.spliced_cons (thn (he zB s1 σ H1 _ I1 q1) fun iv s2 ⟨y,H2,I2,ry,q2⟩ =>
  Calls.spliced_cons (thn (hf zB s2 σ H2 _ I2 q2) fun fv s3 ⟨z,H3,I3,rz,ov,g,q3⟩ => Calls.spliced_nil ?_))))
 exact zTS hu I3 g ry rz fun w' s4 I4 rw' => ⟨_,H3,I4,rw',q3⟩
end
theorem zAq : ∀ (names : List (Str × NameKind)) (n : Nat) (acc : List (Str × Addr)),cellsFrom n names acc = cellsFrom n names [] ++ acc
 | [],_,_ => rfl
 | (name,kind) :: r,n,acc => by
  unfold cellsFrom;split
  ·rw [zAq r (n + 1) ((name,n) :: acc),zAq r (n + 1) [(name,n)],zWT];rfl
  ·exact zAq r n acc
theorem zCk {α : Type} (x : Str) : ∀ (l r : List (Str × α)),(l ++ r).lookup x = (match l.lookup x with | some c => some c | none => r.lookup x)
 | [],r => rfl
 | (k,v) :: l,r => by
  rw [List.cons_append,zXS,zXS];cases hb : x == k with
  | true => rfl
  | false => exact zCk x l r
theorem zE8 : ∀ (names : List (Str × NameKind)) (acc : List (Str × Addr)),
  (∀ y ∈ names,y.2 = .free -> ∃ c,env.cells.lookup y.1 = some c) ->
  (∀ x c,acc.lookup x = some c -> env.cells.lookup x = some c) ->
  ∃ cl : List (Str × Addr),(forIn names acc (fun (p : Str × NameKind) (cs : List (Str × Addr)) => (do
    if p.2 == .free then
     let a <- cellOf env p.1;pure (ForInStep.yield ((p.1,a) :: cs))
    else pure (ForInStep.yield cs) : Sem (ForInStep (List (Str × Addr)))))) = pure cl /\
   (∀ x c,cl.lookup x = some c -> env.cells.lookup x = some c) /\
   (∀ x,(acc.lookup x).isSome = true -> (cl.lookup x).isSome = true) /\ ∀ y ∈ names,y.2 = .free -> (cl.lookup y.1).isSome = true
 | [],acc,_,ha => ⟨acc,by rw [List.forIn_nil],ha,fun _ h => h,fun _ h => nomatch h⟩
 | (n,k) :: r,acc,hf,ha => by
  rw [List.forIn_cons];by_cases hk : k = .free
  ·subst hk;obtain ⟨c,hc⟩:=hf (n,.free) zVb rfl;have hco : cellOf env n = pure c:=by unfold cellOf; rw [hc]
   obtain ⟨cl,e,h1,h2,h3⟩:=zE8 r ((n,c) :: acc) (fun y hy => hf y (zVa _ hy)) (fun x d hx => by
    rw [zXS] at hx;cases hb : x == n with
    | true => rw [hb] at hx; cases hx; rw [beq_iff_eq.mp hb]; exact hc
    | false => rw [hb] at hx; exact ha x d hx)
   refine ⟨cl,?_,h1,fun x hx => h2 x ?_,fun y hy hk => ?_⟩
   ·rw [<- e];simp only [beq_self_eq_true,if_true,hco];rfl
   ·rw [zXS];cases hb : x == n with
    | true => rfl
    | false => exact hx
   ·rcases zVZ.mp hy with z | z
    ·subst z;exact h2 n (by rw [zXS]; simp)
    ·exact h3 y z hk
  ·obtain ⟨cl,e,h1,h2,h3⟩:=zE8 r acc (fun y hy => hf y (zVa _ hy)) ha;refine ⟨cl,?_,h1,h2,fun y hy hk' => ?_⟩
   ·rw [<- e];have : (k == NameKind.free) = false:=by simpa using hk
    simp only [this,zWO,if_false];rfl
   ·rcases zVZ.mp hy with z | z
    ·subst z; exact absurd hk' hk
    ·exact h3 y z hk'
theorem zIe (hf : ∀ y ∈ scope.names,y.2 = .free -> ∃ c,env.cells.lookup y.1 = some c) :
  ∃ cl,closureFor scope env = pure cl /\ (∀ x c,cl.lookup x = some c -> env.cells.lookup x = some c) /\ ∀ y ∈ scope.names,y.2 = .free -> (cl.lookup y.1).isSome = true:=by
 obtain ⟨cl,e,h1,_,h3⟩:=zE8 (env:=env) scope.names [] hf (fun x c h => nomatch h);refine ⟨cl,?_,h1,h3⟩;unfold closureFor;rw [show (pure cl : Sem _) = pure cl >>= pure from rfl,<- e]
theorem zC4
  (hQ : Q (newEnv scope s.heap.objs.size globals (cellsFrom (s.heap.objs.size + 1) scope.names cl) qual none .none (some env) builtinsNs)
   { s with heap:=pushCells (s.heap.push { cls:=.type "dict", data:=.dict #[] }) scope.names }) :
  wpAny M A (newFunctionEnv scope globals cl [] qual none .none (some env)) Q E s:=by
 simp only [newFunctionEnv,Option.isSome_some,if_true];refine zVN (wpAny_alloc ?_);refine zVN (wpAny_layCells _ (fun name kind cells => by cases hkc : kind == NameKind.cell <;> simp [hkc]) _ _ _ _ ?_);rw [show ({ s with heap:=s.heap.push { cls:=.type "dict", data:=.dict #[] } } : Shared).heap.objs.size = s.heap.objs.size + 1 from zV3 ..];exact zVN (zVP (zVP hQ))
def zR (X : Cx) (zB : List (Addr × Obj)) (scope : Scope) (cl : List (Str × Addr)) (s : Shared) (H : Hp) (fp : List Addr) : Cx where
 prog:=X.prog
 w:=X.w
 K:=X.K
 mg:=X.mg
 base:=X.base
 A:=X.A
 N:=X.N
 s₀:=s
 H₀:=H
 env:={ scope:=relabel scope X.env,locals:=s.heap.objs.size + 1,globals:=X.env.globals,cells:=cellsFrom (s.heap.objs.size + 1 + 1) scope.names cl,qual:=X.env.qual,func:=none,code:=X.env.code,frame:=X.env.frame,builtins:=X.env.builtins }
 outer:=X.stack
 stack:=X.stack
 ex:=fp
 fn:=fun x => decide (scope.names.lookup x = some .cell)
 calm:=X.calm
 pn:=X.pn ++ zB
 xe:=fun _ _ => False
theorem zBN {scope : Scope} {env : Env} (x : Str) : ∀ {names : List (Str × NameKind)} {k : NameKind},
  (names.map fun (n,k) => if (k == NameKind.free && env.scope.kind == .function && env.kindOf n == some .cell) then (n,NameKind.cell) else (n,k)).lookup x = some k ->
  names.lookup x = some k \/ (names.lookup x = some .free /\ k = .cell)
 | [],_,h => by simp at h
 | (n,k') :: r,k,h => by
  rw [zVg] at h;by_cases hc : (k' == NameKind.free && env.scope.kind == .function && env.kindOf n == some .cell) = true
  ·simp only [hc,if_true] at h;rw [zXS] at h ⊢;cases hb : x == n with
   | true =>
    rw [hb] at h;simp only [zVx,beq_iff_eq] at hc;exact .inr ⟨by rw [hc.1.1],(zWN h).symm⟩
   | false => rw [hb] at h; exact zBN (scope:=scope) x h
  ·simp only [hc,zWO,if_false] at h;rw [zXS] at h ⊢;cases hb : x == n with
   | true => rw [hb] at h; exact .inl h
   | false => rw [hb] at h; exact zBN (scope:=scope) x h
theorem zIG : ∀ (names : List (Str × NameKind)) (n : Nat) (acc : List (Str × Addr)) (x : Str) (c : Addr),(x,c) ∈ cellsFrom n names acc -> (x,c) ∉ acc -> (x,NameKind.cell) ∈ names
 | [],_,_,_,_,h,h' => absurd h h'
 | (name,kind) :: r,n,acc,x,c,h,h' => by
  unfold cellsFrom at h;split at h
  ·rename_i hk;by_cases e : (x,c) = (name,n)
   ·cases e;rw [beq_iff_eq] at hk;subst hk;exact zVb
   ·exact zVa _ (zIG r _ _ x c h fun z => (zVZ.mp z).elim e h')
  ·exact zVa _ (zIG r _ _ x c h h')
structure CompScope (X : Cx) (scope : Scope) : Prop where
 kind : scope.kind = .function
 names : ∀ y ∈ scope.names,y.2 = .local -> scope.names.lookup y.1 = some .local
 cells : ∀ y ∈ scope.names,y.2 = .cell -> scope.names.lookup y.1 = some .cell
 free : ∀ y ∈ scope.names,y.2 = .free -> X.env.kindOf y.1 = some .cell \/ X.env.kindOf y.1 = some .free
section
variable {X : Cx} {zB : List (Addr × Obj)} {σ σc : St} {H : Hp} {s s4 : Shared} {scope : Scope} {cl : List (Str × Addr)} {fp : List Addr}
theorem zFc (S : CompScope X scope) (I : Inv X zB σ H s) (hf : ∀ b ∈ fp,zCT X zB H b) (ho : ∀ b : Nat,b ∈ fp -> b < s.heap.objs.size)
  (c1 : ∀ x c,cl.lookup x = some c -> X.env.cells.lookup x = some c) (c2 : ∀ y ∈ scope.names,y.2 = .free -> (cl.lookup y.1).isSome = true)
  (hl : σc.length = σ.length) (hσ : ∀ (i : Nat) x v,X.N[i]? = some x -> σc[i]? = some (some v) -> (relabel scope X.env).names.lookup x ≠ none -> scope.names.lookup x = some .free /\ σ[i]? = some (some v))
  (lo : Obj) (hlo : ∀ v,lo.data ≠ .cell v) (hfr : lo.isFreed = false)
  (h4 : s4 = { s with heap:=pushCells ((s.heap.push lo).push { cls:=.type "dict", data:=.dict #[] }) scope.names }) :
  Inv (zR X zB scope cl s H fp) [(s.heap.objs.size,lo)] σc H s4:=by
 subst h4;have sz1 : (s.heap.push lo).objs.size = s.heap.objs.size + 1:=zV3 ..;have sz2 : ((s.heap.push lo).push { cls:=.type "dict", data:=.dict #[] }).objs.size = s.heap.objs.size + 1 + 1:=by rw [zV3,sz1]
 have hk : ∀ b o,s.heap.get? b = some o -> (pushCells ((s.heap.push lo).push { cls:=.type "dict", data:=.dict #[] }) scope.names).get? b = some o:=fun b o e =>
  pushCells_keeps _ _ b o (zVO _ (zVO _ e))
 have ok:=cellsFrom_ok scope.names ((s.heap.push lo).push { cls:=.type "dict", data:=.dict #[] }) (s.heap.objs.size + 1 + 1) [] ⟨fun _ _ hm => (nomatch hm),List.Pairwise.nil⟩ (by rw [sz2]; exact zVT _);rw [sz2] at ok;have look : ∀ x c,(cellsFrom (s.heap.objs.size + 1 + 1) scope.names cl).lookup x = some c -> ((cellsFrom (s.heap.objs.size + 1 + 1) scope.names []).lookup x = some c) \/ ((cellsFrom (s.heap.objs.size + 1 + 1) scope.names []).lookup x = none /\ X.env.cells.lookup x = some c):=fun x c e => by
  rw [zAq,zCk] at e;cases q : (cellsFrom (s.heap.objs.size + 1 + 1) scope.names []).lookup x with
  | some d => rw [q] at e; exact .inl e
  | none => rw [q] at e; exact .inr ⟨rfl,c1 x c e⟩
 have old : ∀ x (c : Nat),X.env.cells.lookup x = some c -> c < s.heap.objs.size:=fun x c e => let ⟨_,q⟩:=I.cell x c e; q.lt;have new : ∀ x (c : Nat),(cellsFrom (s.heap.objs.size + 1 + 1) scope.names []).lookup x = some c -> s.heap.objs.size + 1 + 1 <= c:=fun x c e => (ok.empty x c (zWP e)).2;have own : ∀ x,scope.names.lookup x = some .cell -> ∃ c,(cellsFrom (s.heap.objs.size + 1 + 1) scope.names []).lookup x = some c:=fun x e => zH0 e;have cne : ∀ x (c : Nat),(cellsFrom (s.heap.objs.size + 1 + 1) scope.names cl).lookup x = some c -> c < s.heap.objs.size \/ s.heap.objs.size + 1 + 1 <= c:=fun x c e => by
  rcases look x c e with q | ⟨_,q⟩
  ·exact .inr (new x c q)
  ·exact .inl (old x c q)
 refine ⟨⟨I.ok.mod,S.kind,I.ok.glob,I.ok.blt,zW5 _,fun x y c h1 h2 => ?_,fun x hx => ?_,fun x c hx h => ?_,I.ok.hd,I.ok.frames,.inl rfl,fun b hb => ⟨?_,fun x c e z => ?_⟩,I.bs,zVo I.ok.bsz I.sz,fun b o e hb => ?_,fun b hb z => ?_,I.stack,I.stkFree⟩,
  rfl,I.bare,Un.kept hk,⟨fun _ => none,?_,fun i x v h1 h2 h3 => ?_⟩,fun x c e => ?_,I.hok.fresh (zW5 _),fun x c e => ?_,fun p hp => ?_,I.hok.kept hk,hl.trans I.len⟩
 ·rcases look x c h1 with a | ⟨_,a⟩ <;> rcases look y c h2 with b | ⟨_,b⟩
  ·exact name_of_addr ok.apart (zWP a) (zWP b)
  ·exact absurd (Nat.lt_of_le_of_lt (new x c a) (old y c b)) (by omega)
  ·exact absurd (Nat.lt_of_le_of_lt (new y c b) (old x c a)) (by omega)
  ·exact I.ok.inj x y c a b
 ·have hx' : (relabel scope X.env).names.lookup x = some .cell \/ (relabel scope X.env).names.lookup x = some .free:=hx;have go : scope.names.lookup x = some .cell \/ scope.names.lookup x = some .free:=by
   rcases hx' with q | q
   ·rcases zBN (scope:=scope) x q with z | z
    ·exact .inl z
    ·exact .inr z.1
   ·rcases zBN (scope:=scope) x q with z | z
    ·exact .inr z
    ·exact .inr z.1
  show ∃ c,(cellsFrom (s.heap.objs.size + 1 + 1) scope.names cl).lookup x = some c;rw [zAq,zCk];rcases go with q | q
  ·obtain ⟨c,e⟩:=own x q;exact ⟨c,by rw [e]⟩
  ·cases e : (cellsFrom (s.heap.objs.size + 1 + 1) scope.names []).lookup x with
   | some d => exact ⟨d,rfl⟩
   | none => exact Option.isSome_iff_exists.mp (c2 (x,.free) (zWP q) rfl)
 ·obtain ⟨d,e⟩:=own x (zWJ hx);have h' : (cellsFrom (s.heap.objs.size + 1 + 1) scope.names cl).lookup x = some c:=h;rw [zAq,zCk,e] at h';cases h';exact zVo (zVo (zW5 _) (zW5 _)) (new x _ e)
 ·exact zVi (zWC (ho b hb))
 ·rcases look x c e with q | ⟨_,q⟩
  ·have a:=new x c q;rw [z] at a;exact absurd (Nat.lt_of_le_of_lt a (ho b hb)) (by omega)
  ·exact (hf b hb).2.2.2.2.1 x c q z
 ·rcases (hf b hb).2.2.2.1 with z | z
  ·exact I.ok.noex b o e z
  ·exact absurd (zVm (zVY e) (zVo I.ok.bsz z)) (zV5 _)
 ·rcases zVZ.mp (I.stkSub b z) with q | q
  ·exact (hf b hb).2.1 q
  ·exact (hf b hb).2.2.1 q
 ·have q : ((s.heap.push lo).push { cls:=.type "dict", data:=.dict #[] }).Ns (s.heap.push lo).objs.size (fun _ => none):=Heap.Ns.new ..;rw [sz1] at q;exact q.keeps (pushCells_keeps _ _)
 ·have h3' : (relabel scope X.env).names.lookup x ≠ none:=by
   rcases h3 with z | z | z <;> (intro q; have z' : (relabel scope X.env).names.lookup x = _:=z; rw [q] at z'; cases z')
  obtain ⟨fr,hv⟩:=hσ i x v h1 h2 h3';obtain ⟨m,hn,hlk⟩:=I.loc;have kx:=S.free (x,.free) (zWP fr) rfl;obtain ⟨u,rv,lk⟩:=hlk i x v h1 hv (by rcases kx with z | z; exact .inr (.inl z); exact .inr (.inr z));refine ⟨u,rv,?_⟩;rcases lk with ⟨z,_⟩ | ⟨_,c,e,ic⟩
  ·rcases kx with k | k <;> (rw [k] at z; cases z)
  ·have kind : (relabel scope X.env).names.lookup x = some .cell \/ (relabel scope X.env).names.lookup x = some .free:=by
    cases q : (relabel scope X.env).names.lookup x with
    | none => exact absurd q h3'
    | some k =>
     rcases zBN (scope:=scope) x q with z | z
     ·rw [fr] at z; cases z; exact .inr rfl
     ·rw [z.2]; exact .inl rfl
   refine .inr ⟨kind,c,?_,ic.keeps hk⟩;show (cellsFrom (s.heap.objs.size + 1 + 1) scope.names cl).lookup x = some c;rw [zAq,zCk];obtain ⟨d,hd⟩:=Option.isSome_iff_exists.mp (c2 (x,.free) (zWP fr) rfl);have:=c1 x d hd;rw [e] at this; cases this;have nn : (cellsFrom (s.heap.objs.size + 1 + 1) scope.names []).lookup x = none:=by
    cases q : (cellsFrom (s.heap.objs.size + 1 + 1) scope.names []).lookup x with
    | none => rfl
    | some d' =>
     have z:=S.cells (x,.cell) (zIG scope.names _ [] x d' (zWP q) fun z => nomatch z) rfl;rw [fr] at z; cases z
   rw [nn]; exact hd
 ·rcases look x c e with q | ⟨_,q⟩
  ·exact ⟨none,(ok.empty x c (zWP q)).1⟩
  ·obtain ⟨v,z⟩:=I.cell x c q;exact ⟨v,z.keeps hk⟩
 ·rcases look x c e with q | ⟨_,q⟩
  ·exact I.hok.fresh (by have:=new x c q; omega)
  ·exact I.freeC x c q
 ·have hp' : p ∈ X.pn ++ zB \/ p = (s.heap.objs.size,lo):=by
   rcases zVn.mp hp with z | z
   ·exact .inl z
   ·exact .inr (by simpa using z)
  rcases hp' with z | z
  ·obtain ⟨e,n,ne,nf,d⟩:=I.pin p z;have lt : (p.1 : Nat) < s.heap.objs.size:=zVY e;refine ⟨hk _ _ e,n,?_,fun q => ?_,d⟩
   ·exact zVi (zWC lt)
   ·rcases zVZ.mp (I.stkSub _ q) with r | r
    ·exact ne r
    ·exact nf r
  ·subst z;refine ⟨pushCells_keeps _ _ _ _ (zVO _ (zVX _ hfr)),I.hok.fresh (zVT _),?_,fun q => ?_,hlo⟩
   ·show s.heap.objs.size ≠ s.heap.objs.size + 1;omega
   ·rcases zVZ.mp (I.stkSub _ q) with r | r
    ·exact absurd I.lt (by rw [<- r]; exact zV5 _)
    ·exact I.nofs (zVT _) r
end
def clr (own : List Nat) (σ : St) : St:=own.foldl (fun σ i => σ.set i none) σ
theorem zBa : ∀ (own : List Nat) (σ : St),(clr own σ).length = σ.length
 | [],_ => rfl
 | i :: r,σ => by
  show (clr r (σ.set i none)).length = _;rw [zBa r,List.length_set]
theorem zDC : ∀ (own : List Nat) (σ : St) (j : Nat) (v : V),(clr own σ)[j]? = some (some v) -> σ[j]? = some (some v) /\ j ∉ own
 | [],_,_,_,h => ⟨h,fun z => nomatch z⟩
 | i :: r,σ,j,v,h => by
  have h' : (clr r (σ.set i none))[j]? = some (some v):=h;obtain ⟨a,b⟩:=zDC r _ j v h';rw [zWw] at a;split at a
  ·split at a <;> cases a
  ·rename_i hne;exact ⟨a,fun z => (zVZ.mp z).elim (fun e => hne e.symm) b⟩
def Ext (a b : St) : Prop:=b.length = a.length /\ ∀ (i : Nat) v,a[i]? = some (some v) -> b[i]? = some (some v)
theorem Ext.refl (a : St) : Ext a a:=⟨rfl,fun _ _ h => h⟩
theorem Ext.set (e : Ext (clr own σ) a) (h : i ∈ own) : Ext (clr own σ) (a.set i (some v)):=by
 refine ⟨by rw [List.length_set]; exact e.1,fun j u q => ?_⟩;rw [zWw];split
 ·rename_i z;exact absurd (z ▸ h) (zDC own σ j u q).2
 ·exact e.2 j u q
def zGr (X : Cx) (ifs : List Expr) (t : TT) : Prop :=
 ∀ (zB : List (Addr × Obj)) (s : Shared) (σ : St) (H : Hp) (Q : Bool -> Hp -> Prop),Inv X zB σ H s -> t σ H Q ->
  wpAny (model X.prog X.w) X.A (forIn ifs true fun c r => if r = true then do let ok <- isTrue c X.env (eval c X.env); pure (ForInStep.yield ok) else pure (ForInStep.yield r)) (TP X zB σ Q) X.xe s
def zU8 : TT:=fun _ H Q => Q true H
theorem zPF : zGr X [] zU8:=fun _ _ _ H _ I h => wpAny_tests_nil ⟨H,I,h⟩
theorem zQZ (h : PT X c t) : zGr X [c] t:=fun zB s σ H Q I hq => wpAny_tests_one (h zB s σ H Q I hq)
section
variable {prog : Program} {w : World} {A : Around} {E : Value -> Shared -> Prop} {R : Result -> Shared -> Prop} {s : Shared}
theorem zJ5 (I : Nat -> Shared -> Prop)
  (turn : ∀ n s,I n s -> wpAny (model prog w) A (pyNext it) (fun r s₁ => match r with
   | none => R (.ok .next) s₁
   | some v => wpAny (model prog w) A (letOwnedTupleGo target it v) (fun _ s₁' => wpAny (model prog w) A (assign target env v) (fun _ s₂ =>
     wpAny (model prog w) A (forIn ifs true fun c r => if r = true then do let ok <- isTrue c env (eval c env); pure (ForInStep.yield ok) else pure (ForInStep.yield r)) (fun ok s₃ =>
      if ok = true then wpAny (model prog w) A (eval elt env) (fun x s₄ =>
       wpAny (model prog w) A (call (.builtin "list.append") [acc,x]) (fun _ s₅ => ∃ m,m < n /\ I m s₅) (fun _ _ => False) s₄) (fun _ _ => False) s₃
      else ∃ m,m < n /\ I m s₃) (fun _ _ => False) s₂) (fun _ _ => False) s₁') (fun _ _ => False) s₁) (fun _ _ => False) s)
  (n : Nat) (h : I n s) :
  codeAny (model prog w) A (.compLoop (.ListComp elt [⟨target,iter,ifs,0⟩] scope pos) 0 it acc env) R s:=by
 refine codeAny_loop rfl I (fun n s hI => ?_) n h;show wpAny _ A ((compTurn (.ListComp elt [⟨target,iter,ifs,0⟩] scope pos) 0 it acc env).onRaise (fun x => do noteFrame x env; theTreesLotGoes x)) _ _ s;refine wpAny_noted ?_;rw [compTurn_list];refine zVN (zWL (zVN (zVt (turn n s hI) (fun r s₁ h₁ => ?_) fun _ _ h' => h'.elim)));cases r with
 | none => exact zVP h₁
 | some v =>
  refine zVN (zVt h₁ (fun _ s₁' h₁' => ?_) fun _ _ h' => h'.elim);refine zVN (zVt h₁' (fun _ s₂ h₂ => zVN (zVt h₂ (fun ok s₃ h₃ => ?_) fun _ _ h' => h'.elim)) fun _ _ h' => h'.elim);cases ok with
  | false => exact zVP ⟨rfl,h₃⟩
  | true =>
   exact zVN (zVN (zVt h₃ (fun x s₄ h₄ => zVN (zVt h₄ (fun _ s₅ h₅ => zVP (zVP ⟨rfl,h₅⟩)) fun _ _ h' => h'.elim)) fun _ _ h' => h'.elim))
end
def zQk (own : List Nat) (wi : TI) (g : TG) (tc : TT) (te : TE) : TE:=fun σ H Q => wi σ H fun J H1 => ∃ W : Nat -> Nat -> List V -> Hp -> Prop,(∃ m,W 0 m [] H1) /\ ∀ i m ys H,W i m ys H ->
 (J.stop i H /\ ys.length <= sizeLine /\ ∀ D,H D = none -> Q (.ref D) (upd H D (.lst ys))) \/
 (J.go i H /\ ∀ x H',J.yld i H x H' -> g x (clr own σ) H' fun σ2 H2 => Ext (clr own σ) σ2 /\ tc σ2 H2 fun b H3 =>
  if b = true then te σ2 H3 fun v H4 => ys.length < sizeLine /\ ∃ m',m' < m /\ W (i + 1) m' (ys ++ [v]) H4 else ∃ m',m' < m /\ W (i + 1) m' ys H3)
abbrev zq (its : List Value) (n : Nat) : Obj:={ cls:=.type "list", data:=.seq its.toArray n }
section
variable {X : Cx} {zB : List (Addr × Obj)} {σ : St} {H : Hp} {s : Shared}
theorem Inv.repin (I : Inv X (pl ++ [(D,o)]) σ H s) (hpl : ∀ p ∈ X.pn ++ pl,p.1 ≠ D) (hs : Heap.SameBut D s.heap h') (hD : X.s₀.heap.objs.size <= D) (hc : ∀ x c,X.env.cells.lookup x = some c -> c ≠ D)
  (e : h'.get? D = some o') (hn : ∀ v,o'.data ≠ .cell v) : Inv X (pl ++ [(D,o')]) σ H { s with heap:=h' }:=by
 obtain ⟨e0,n0,ne0,nf0,d0⟩:=I.pin (D,o) (by simp);have I1 : Inv X pl σ H s:=I.pins_of fun p hp => I.pin p (by simp [hp]);have I2 : Inv X pl σ H { s with heap:=h' }:=I1.turned (t':=s.toks) (it:=D) (fun b u hb q => hs.extBut b u hb q) n0 ne0 (.inr hD) hc hpl;exact I2.pins_of fun p hp => by
  rcases zVn.mp hp with z | z
  ·exact I2.pin p (zVh _ z)
  ·have : p = (D,o'):=by simpa using z
   subst this;exact ⟨e,n0,ne0,nf0,hn⟩
end
section
variable {X : Cx} {zB : List (Addr × Obj)} {σ : St} {H : Hp} {s : Shared} {scope : Scope} {cl : List (Str × Addr)} {fp : List Addr} {it : Addr} {tn : Nat -> Heap -> Prop} {J : It} {tg elt iter : Expr} {ifs : List Expr} {pos : Pos}
 {own : List Nat} {g : TG} {tc : TT} {te : TE} {E : Value -> Shared -> Prop}
structure CompIn (X : Cx) (scope : Scope) (own : List Nat) : Prop where
 sc : CompScope X scope
 nm : ∀ (i : Nat) x,X.N[i]? = some x -> i ∈ own \/ scope.names.lookup x = none \/ scope.names.lookup x = some .free
theorem zCV (x : Str) (h : scope.names.lookup x = none) : (relabel scope env).names.lookup x = none:=by
 cases q : (relabel scope env).names.lookup x with
 | none => rfl
 | some k =>
  rcases zBN (scope:=scope) x q with z | z
  ·rw [h] at z; cases z
  ·rw [h] at z; cases z.1
theorem zHh (C : CompIn X scope own) (hcalm : X.calm = true) (I : Inv X zB σ H s) (T : Turn X.prog X.w X.K tg J fp it tn) (st : tn 0 s.heap) (hf : ∀ b ∈ fp,zCT X zB H b)
  (c1 : ∀ x c,cl.lookup x = some c -> X.env.cells.lookup x = some c) (c2 : ∀ y ∈ scope.names,y.2 = .free -> (cl.lookup y.1).isSome = true)
  (hg : PG (zR X zB scope cl s H fp) tg g) (hi : zGr (zR X zB scope cl s H fp) ifs tc) (he : PE (zR X zB scope cl s H fp) elt te)
  {RR : Value -> Addr -> Result -> Shared -> Prop} {QQ : List V -> Hp -> Prop} {W : Nat -> Nat -> List V -> Hp -> Prop} {m0 : Nat} (w0 : W 0 m0 [] H)
  (turn : ∀ i m ys H,W i m ys H -> (J.stop i H /\ ys.length <= sizeLine /\ QQ ys H) \/
   (J.go i H /\ ∀ x H',J.yld i H x H' -> g x (clr own σ) H' fun σ2 H2 => Ext (clr own σ) σ2 /\ tc σ2 H2 fun b H3 =>
    if b = true then te σ2 H3 fun v H4 => ys.length < sizeLine /\ ∃ m',m' < m /\ W (i + 1) m' (ys ++ [v]) H4 else ∃ m',m' < m /\ W (i + 1) m' ys H3))
  (fin : ∀ σc H' s' its n ys,Inv (zR X zB scope cl s H fp) [(s.heap.objs.size,zq its n)] σc H' s' -> zo ys its -> ys.length <= sizeLine -> QQ ys H' -> RR (.ref s.heap.objs.size) (s.heap.objs.size + 1) (.ok .next) s') :
  wpAny (model X.prog X.w) X.A (newList []) (fun acc s₃ => wpAny (model X.prog X.w) X.A (newFunctionEnv scope X.env.globals cl [] X.env.qual none .none (some X.env)) (fun cenv s₄ =>
   codeAny (model X.prog X.w) X.A (.compStart (.ListComp elt [⟨tg,iter,ifs,0⟩] scope pos) 0 (.ref it) acc { cenv with scope:=relabel scope X.env }) (RR acc cenv.locals) s₄) E s₃) E s:=by
 have ob : ∀ b : Nat,b ∈ fp -> b < s.heap.objs.size:=fun b hb => let ⟨_,e,_⟩:=T.obj 0 _ st b hb; zVY e;refine zVq (zC4 ?_);have sz1 : (s.heap.push (zq [] 0)).objs.size = s.heap.objs.size + 1:=zV3 ..;have I4:=zFc (X:=X) (zB:=zB) (σ:=σ) (σc:=clr own σ) (H:=H) (s:=s) (scope:=scope) (cl:=cl) (fp:=fp) C.sc I hf ob c1 c2 (zBa own σ) (fun i x v h1 h2 h3 => by
  obtain ⟨a,b⟩:=zDC own σ i v h2;rcases C.nm i x h1 with z | z | z
  ·exact absurd z b
  ·exact absurd (zCV x z) h3
  ·exact ⟨z,a⟩) (zq [] 0) (by intro v z; cases z) rfl rfl
 have st4 : tn 0 (pushCells ((s.heap.push (zq [] 0)).push { cls:=.type "dict", data:=.dict #[] }) scope.names):=T.keep 0 _ _ st fun b _ o e => pushCells_keeps _ _ b o (zVO _ (zVO _ e));dsimp only;unfold newEnv;dsimp only;rw [sz1];have hDfp : s.heap.objs.size ∉ fp:=fun z => zV5 _ (ob _ z);have hcD : ∀ x c,(zR X zB scope cl s H fp).env.cells.lookup x = some c -> c ≠ s.heap.objs.size:=fun x c e z => by
  obtain ⟨v,o,ho,hd⟩:=I4.cell x c e;obtain ⟨q,_⟩:=I4.pin (s.heap.objs.size,zq [] 0) (by simp);rw [z,q] at ho;cases ho; cases hd
 have fpk : ∀ {H' : Hp} {pl : List (Addr × Obj)},(∀ b ∈ fp,H' b = none) -> (∀ p ∈ pl,p.1 = s.heap.objs.size) -> ∀ b ∈ fp,zCT (zR X zB scope cl s H fp) pl H' b:=fun {H' pl} hn hp b hb =>
  ⟨hn b hb,(I4.ok.exf b hb).1,I4.ok.exfs b hb,.inl hb,(I4.ok.exf b hb).2,fun p hq => by
   rcases zVn.mp hq with z | z
   ·exact (hf b hb).2.2.2.2.2 p z
   ·intro e;have e2:=hp p z;rw [e] at e2;exact hDfp (e2 ▸ hb)⟩
 have loop : codeAny (model X.prog X.w) X.A (.compLoop (.ListComp elt [⟨tg,iter,ifs,0⟩] scope pos) 0 (.ref it) (.ref s.heap.objs.size) (zR X zB scope cl s H fp).env) (RR (.ref s.heap.objs.size) (s.heap.objs.size + 1))
   { s with heap:=pushCells ((s.heap.push (zq [] 0)).push { cls:=.type "dict", data:=.dict #[] }) scope.names }:=by
  refine zJ5 (fun n s' => ∃ i H' ys its k,Inv (zR X zB scope cl s H fp) [(s.heap.objs.size,zq its k)] (clr own σ) H' s' /\ zo ys its /\ tn i s'.heap /\ (∀ b ∈ fp,H' b = none) /\ W i n ys H') ?_ m0
   ⟨0,H,[],[],0,I4,.nil,st4,fun b hb => (hf b hb).1,w0⟩
  rintro n s5 ⟨i,H5,ys,its,k,I5,r5,st5,f5,w5⟩;have pinD : ∀ p ∈ [(s.heap.objs.size,zq its k)],p.1 = s.heap.objs.size:=fun p hp => by
   have : p = (s.heap.objs.size,zq its k):=by simpa using hp
   rw [this]
  rcases turn i n ys H5 w5 with ⟨stop,hz,qq⟩ | ⟨go,step⟩
  ·refine thn (T.done (zR X zB scope cl s H fp) rfl rfl rfl hcalm i _ s5 _ H5 _ I5 (fpk f5 pinD) st5 stop) fun r s6 ⟨hr,I6⟩ => ?_;subst hr;exact fin _ H5 s6 its k ys I6 r5 hz qq
  ·refine thn (T.item (zR X zB scope cl s H fp) rfl rfl rfl hcalm i _ s5 _ H5 _ I5 (fpk f5 pinD) st5 go) fun r s6 ⟨u,hr,h6⟩ => ?_;subst hr;refine thn h6 fun _ s7 ⟨x,H7,I7,r7,y7,st7,f7⟩ => ?_;have I7':=I7.pinned (fpk f7 pinD) (T.obj _ _ st7);refine thn (hg _ s7 _ H7 x u _ I7' r7 (step x H7 y7)) fun _ s8 ⟨σ8,H8,I8,x8,q8⟩ => ?_;refine thn (hi _ s8 σ8 H8 _ I8 q8) fun ok s9 ⟨H9,I9,q9⟩ => ?_;have back : ∀ {s' : Shared} {Hx : Hp},Inv (zR X zB scope cl s H fp) ([(s.heap.objs.size,zq its k)] ++ zDR fp s7.heap) σ8 Hx s' -> tn (i + 1) s'.heap /\ ∀ b ∈ fp,Hx b = none:=fun {s' Hx} Ix =>
    ⟨T.keep _ _ _ st7 fun b hb o e => (Ix.pin (b,o) (zVh _ (zVh _ (zAa hb e)))).1,fun b hb => by
     obtain ⟨o,e,d⟩:=T.obj _ _ st7 b hb;exact (Ix.pin (b,o) (zVh _ (zVh _ (zAa hb e)))).2.1⟩
   cases ok with
   | false =>
    obtain ⟨m',hm,w'⟩:=q9;obtain ⟨b1,b2⟩:=back I9;exact ⟨m',hm,i + 1,H9,ys,its,k,(I9.weak (by rw [x8.1]) x8.2).unpinned,r5,b1,b2,w'⟩
   | true =>
    refine thn (he _ s9 σ8 H9 _ I9 q9) fun v s10 ⟨y,H10,I10,r10,hlt,m',hm,w'⟩ => ?_;obtain ⟨b1,b2⟩:=back I10;have J10:=(I10.weak (by rw [x8.1]) x8.2).unpinned;obtain ⟨e10,n10,ne10,nf10,d10⟩:=J10.pin (s.heap.objs.size,zq its k) (by simp);have hlen : its.toArray.size <= sizeLine:=by
     have:=r5.length;rw [zVV,<- this];exact Nat.le_of_lt hlt
    refine wpAny_list_append_plain (hsz:=hlen) (show s10.heap.PlainList s.heap.objs.size its.toArray from ⟨k,e10⟩) fun h' hl' hs' => ?_;obtain ⟨k',e'⟩:=hl';have e'' : h'.get? s.heap.objs.size = some (zq (its ++ [v]) k'):=by rw [e']; simp [zq]
    refine ⟨m',hm,i + 1,H10,ys ++ [y],its ++ [v],k',?_,r5.append (.cons r10 .nil),T.keep _ _ _ b1 fun b hb o e => hs'.extBut b o (fun z => hDfp (z ▸ hb)) e,b2,w'⟩;refine Inv.repin (pl:=[]) J10 (fun p hp => ?_) hs' (zVT _) hcD e'' (by intro v z; cases z);rw [zV7] at hp;have hp' : p ∈ X.pn ++ zB:=hp;exact zVi (zVY (I.pin p hp').1)
 exact codeAny_compStart_list loop (T.self _ 0 _ _ _ st4 loop)
end
section
variable {X : Cx} {zB : List (Addr × Obj)} {σ : St} {H : Hp} {s : Shared} {scope : Scope} {cl : List (Str × Addr)} {fp : List Addr}
theorem zH9 (I : Inv X zB σ H s) (hf : ∀ b ∈ fp,zCT X zB H b)
  (Ic : Inv (zR X zB scope cl s H fp) [(s.heap.objs.size,zq its n)] σc H' s') (rv : zo ys its) (hz : ys.length <= sizeLine) (hs : Heap.SameBut (s.heap.objs.size + 1) s'.heap h') :
  Inv X zB σ (upd H' s.heap.objs.size (.lst ys)) { s' with heap:=h' } /\ H' s.heap.objs.size = none:=by
 obtain ⟨eD,nD,_⟩:=Ic.pin (s.heap.objs.size,zq its n) (by simp);have nC : H' (s.heap.objs.size + 1) = none:=Ic.free;have eD' : h'.get? s.heap.objs.size = some (zq its n):=hs.extBut _ _ (zVi (zWK _)) eD;have lt1 : ∀ {b : Addr} {o : Obj},s.heap.get? b = some o -> b ≠ s.heap.objs.size + 1 /\ b ≠ s.heap.objs.size:=fun e => ⟨zVi (zWC (zVY e)),zVi (zVY e)⟩;have tr : ∀ b u,H' b = some u -> b ≠ s.heap.objs.size + 1 /\ b ≠ s.heap.objs.size:=fun b u e => ⟨fun z => (by rw [z,nC] at e; cases e),fun z => (by rw [z,nD] at e; cases e)⟩;refine ⟨?_,nD⟩;have B:=Ic.base;have un : Un (frs X.stack) fp H (upd H' s.heap.objs.size (.lst ys)) s.heap h':=by
  refine ⟨fun b o e q hb hx => hs.extBut b o (lt1 e).1 (B.keep b o e q hb hx),fun b o e q hb hx => ?_,fun b o e q hx => ?_,fun b o e hx => ?_,fun b xs e => ?_,fun b o xs e => ?_,fun b ps e => ?_⟩
  ·obtain ⟨sl,e1⟩:=B.slot b o e q hb hx;exact ⟨sl,hs.extBut b _ (lt1 e).1 e1⟩
  ·rw [zh (lt1 e).2]; exact B.free b o e q hx
  ·obtain ⟨o',e1⟩:=B.there b o e hx;exact ⟨o',hs.extBut b _ (lt1 e).1 e1⟩
  ·have q:=B.tups b xs e;rw [zh (tr b _ q).2]; exact q
  ·have q:=B.frzs b o xs e;rw [zh (tr b _ q).2]; exact q
  ·obtain ⟨more,q⟩:=B.tbls b ps e;exact ⟨more,by rw [zh (tr b _ q).2]; exact q⟩
 have hok : HOk X.prog X.w (upd H' s.heap.objs.size (.lst ys)) h':=fun b u e => by
  by_cases hb : b = s.heap.objs.size
  ·subst hb;rw [zAi] at e; cases e;exact ⟨hz,its,n,rv,eD'⟩
  ·rw [zh hb] at e;refine (Ic.hok b u e).stay (fun c v hc q => hs.extBut c v ?_ q) (fun c q => by rw [zh (tr c _ q).2]; exact q) fun c xs q => by rw [zh (tr c _ q).2]; exact q
   rcases hc with z | z
   ·rw [z]; exact (tr b u e).1
   ·exact (tr c _ z).1
 exact I.call' (s':={ s' with heap:=h' }) (ch:=fp) Ic.os un hok Ic.bare fun b hb => ⟨(hf b hb).2.2.2.1,(hf b hb).2.1,(hf b hb).2.2.2.2.1,(hf b hb).2.2.2.2.2⟩
end
section
variable {X : Cx} {scope : Scope} {tg elt iter : Expr} {ifs : List Expr} {pos : Pos} {own : List Nat} {wi : TI} {g : TG} {tc : TT} {te : TE}
structure CompParts (X : Cx) (scope : Scope) (tg : Expr) (ifs : List Expr) (elt : Expr) (g : TG) (tc : TT) (te : TE) : Prop where
 g : ∀ zB cl s H fp,PG (zR X zB scope cl s H fp) tg g
 c : ∀ zB cl s H fp,zGr (zR X zB scope cl s H fp) ifs tc
 e : ∀ zB cl s H fp,PE (zR X zB scope cl s H fp) elt te
theorem CompScope.closure (S : CompScope X scope) (I : Inv X zB σ H s) :
  ∃ cl,closureFor scope X.env = pure cl /\ (∀ x c,cl.lookup x = some c -> X.env.cells.lookup x = some c) /\ ∀ y ∈ scope.names,y.2 = .free -> (cl.lookup y.1).isSome = true :=
 zIe fun y hy hk => I.ok.has y.1 (S.free y hy hk)
theorem zRB (C : CompIn X scope own) (hcalm : X.calm = true) (hi : PI X tg iter wi) (p : CompParts X scope tg ifs elt g tc te) (hs : ∀ x,foldedSetIterable iter X.env x = pure x:=by intro _; rfl) :
  PE X (.ListComp elt [⟨tg,iter,ifs,0⟩] scope pos) (zQk own wi g tc te):=by
 intro zB s σ H Q I h;obtain ⟨cl,hcl,c1,c2⟩:=C.sc.closure I;rw [eval_ListComp];refine zXH (use:=none) rfl hs hcl C.sc.kind C.sc.names (thn (hi zB s σ H _ I h) fun v s1 h1 => thn h1 fun itv s2 h2 => ?_);obtain ⟨it,fp,tn,J,H2,e,I2,T,st2,f2,W,⟨m0,w0⟩,turn⟩:=h2;subst e;refine zHh C hcalm I2 T st2 f2 c1 c2 (p.g _ _ _ _ _) (p.c _ _ _ _ _) (p.e _ _ _ _ _) (RR:=fun acc C r s' => compPost (model X.prog X.w) X.A X.xe none (EP X zB σ Q) acc C r s') (QQ:=fun ys H => ∀ D,H D = none -> Q (.ref D) (upd H D (.lst ys))) w0 turn ?_;intro σc H' s' its n ys Ic rv hz qq;obtain ⟨m,hn,_⟩:=Ic.loc;refine ⟨m,hn,fun h' hs' => ?_⟩;obtain ⟨J',nD⟩:=zH9 I2 f2 Ic rv hz hs';exact ⟨.ref s2.heap.objs.size,_,J',rfl,qq _ nD⟩
theorem zMf (hN : X.N.Nodup) (hi' : X.N[i]? = some x) (hx : Loc X.env.scope x) (hfn : X.fn x = true \/ X.env.scope.names.lookup x = some .local)
  (C : CompIn X scope own) (hcalm : X.calm = true) (hi : PI X tg iter wi) (p : CompParts X scope tg ifs elt g tc te)
  (hsw : swapsWith (.ListComp elt [⟨tg,iter,ifs,0⟩] scope pos) (some (.Name x pos')) pos''.line X.env = pure true) (hs : ∀ x,foldedSetIterable iter X.env x = pure x:=by intro _; rfl) :
  PS X (.Assign [.Name x pos'] (.ListComp elt [⟨tg,iter,ifs,0⟩] scope pos) pos'') (zOs (zQk own wi g tc te) (zCq i)):=by
 intro zB s σ H D I h;obtain ⟨cl,hcl,c1,c2⟩:=C.sc.closure I;rw [exec_Assign_Name_used _ _ _ _ hsw];refine zVN (zWL (zVN ?_));show wpAny _ X.A (do let _ <- comprehension (.ListComp elt [⟨tg,iter,ifs,0⟩] scope pos) scope X.env _ (newList []) false (eval iter X.env) (some (assign (.Name x pos') X.env))) _ _ s
 refine zVN (zVt (zXH (use:=some (assign (.Name x pos') X.env)) (Q:=fun _ s' => SP X zB D .next s') rfl hs hcl C.sc.kind C.sc.names
  (thn (hi zB s σ H _ I h) fun v s1 h1 => thn h1 fun itv s2 h2 => ?_)) (fun _ s' hq => zVP (zVP hq)) fun _ _ e => e)
 obtain ⟨it,fp,tn,J,H2,e,I2,T,st2,f2,W,⟨m0,w0⟩,turn⟩:=h2;subst e
 refine zHh C hcalm I2 T st2 f2 c1 c2 (p.g _ _ _ _ _) (p.c _ _ _ _ _) (p.e _ _ _ _ _) (RR:=fun acc C r s' => compPost (model X.prog X.w) X.A X.xe (some (assign (.Name x pos') X.env)) (fun _ s' => SP X zB D .next s') acc C r s')
  (QQ:=fun ys H => ∀ E,H E = none -> zCq i (.ref E) σ (upd H E (.lst ys)) D.nx) w0 turn ?_
 intro σc H' s' its n ys Ic rv hz qq;obtain ⟨m,hn,_⟩:=Ic.loc;obtain ⟨J',nD⟩:=zH9 (h':=s'.heap) I2 f2 Ic rv hz (.refl ..);obtain ⟨oC,es,ep,hoC,hdC,r1,r2⟩:=id hn;have nC : upd H' s2.heap.objs.size (.lst ys) (s2.heap.objs.size + 1) = none:=by rw [zh (zWs (zWK _))]; exact Ic.free
 have K' : Inv X (zB ++ [(s2.heap.objs.size + 1,oC)]) σ (upd H' s2.heap.objs.size (.lst ys)) s':=J'.pins_of fun q hq => by
  rcases zVn.mp hq with z | z
  ·exact J'.pin q (zVh _ z)
  ·have e : q = (s2.heap.objs.size + 1,oC):=by simpa using z
   subst e;refine ⟨hoC,nC,zWs (zWC I2.lt),I2.nofs (zW5 _),fun v z => ?_⟩;have z' : oC.data = .cell v:=z;rw [hdC] at z'; cases z'
 show wpAny _ X.A (assign (.Name x pos') X.env (.ref s2.heap.objs.size)) _ _ _;refine thn (zJc hN hi' hx hfn _ s' σ _ (.ref s2.heap.objs.size) (.ref s2.heap.objs.size) _ K' rfl (qq _ nD)) fun _ s'' ⟨σ'',H'',I'',q''⟩ => ?_;obtain ⟨eC,_⟩:=I''.pin (s2.heap.objs.size + 1,oC) (by simp);refine ⟨m,⟨oC,es,ep,eC,hdC,r1,r2⟩,fun h' hs' => ⟨σ'',H'',?_,q''⟩⟩;have I3 : Inv X zB σ'' H'' s'':=I''.unpinned;obtain ⟨_,nC'',neC,_,_⟩:=I''.pin (s2.heap.objs.size + 1,oC) (by simp);refine I3.turned (t':=s''.toks) (it:=s2.heap.objs.size + 1) (fun b o hb e => hs'.extBut b o hb e) nC'' neC (.inr (zVo I2.sz (zW5 _))) (fun x c e z => ?_) (fun q hq z => ?_)
 ·obtain ⟨v,o,ho,hd⟩:=I3.cell x c e;rw [z,eC] at ho; cases ho;rw [hdC] at hd; cases hd
 ·obtain ⟨e,_⟩:=I2.pin q hq;exact zVi (zWC (zVY e)) z
end
abbrev zBh (elt t1 i1 : Expr) (f1 : List Expr) (t2 i2 : Expr) (f2 : List Expr) (scope : Scope) (pos : Pos) : Expr:=.ListComp elt [⟨t1,i1,f1,0⟩,⟨t2,i2,f2,0⟩] scope pos
theorem zIg (elt t1 i1 : Expr) (f1 : List Expr) (t2 i2 : Expr) (f2 : List Expr) (scope : Scope) (pos : Pos) (it acc : Value) (env : Env) :
  compTurn (zBh elt t1 i1 f1 t2 i2 f2 scope pos) 0 it acc env = (do
   standAt i1.pos;match <- pyNext it with
   | none => pure (.done .next)
   | some v =>
    letOwnedTupleGo t1 it v;assign t1 env v;let mut ok:=true
    for c in f1 do
     if ok then ok <- isTrue c env (eval c env)
    if ok then
     let x <- eval i2 env;standAt i2.pos;let x <- foldedSetIterable i2 env x;let _ <- runOwn (.compStart (zBh elt t1 i1 f1 t2 i2 f2 scope pos) 1 (<- holding [x] (pyIter x)) acc env) env
    again (.compLoop (zBh elt t1 i1 f1 t2 i2 f2 scope pos) 0 it acc env)):=by rfl
theorem zJp (elt t1 i1 : Expr) (f1 : List Expr) (t2 i2 : Expr) (f2 : List Expr) (scope : Scope) (pos : Pos) (it acc : Value) (env : Env) :
  compTurn (zBh elt t1 i1 f1 t2 i2 f2 scope pos) 1 it acc env = (do
   standAt i2.pos;match <- pyNext it with
   | none => pure (.done .next)
   | some v =>
    letOwnedTupleGo t2 it v;assign t2 env v;let mut ok:=true
    for c in f2 do
     if ok then ok <- isTrue c env (eval c env)
    if ok then
     (do let _ <- call (.builtin "list.append") [acc,<- eval elt env])
    again (.compLoop (zBh elt t1 i1 f1 t2 i2 f2 scope pos) 1 it acc env)):=by rfl
section
variable {prog : Program} {w : World} {A : Around} {E : Value -> Shared -> Prop} {R : Result -> Shared -> Prop} {s : Shared}
variable {elt t1 i1 t2 i2 : Expr} {f1 f2 : List Expr} {scope : Scope} {pos : Pos} {it acc : Value} {env : Env}
theorem zJ4 (I : Nat -> Shared -> Prop)
  (turn : ∀ n s,I n s -> wpAny (model prog w) A (pyNext it) (fun r s₁ => match r with
   | none => R (.ok .next) s₁
   | some v => wpAny (model prog w) A (letOwnedTupleGo t2 it v) (fun _ s₁' => wpAny (model prog w) A (assign t2 env v) (fun _ s₂ =>
     wpAny (model prog w) A (forIn f2 true fun c r => if r = true then do let ok <- isTrue c env (eval c env); pure (ForInStep.yield ok) else pure (ForInStep.yield r)) (fun ok s₃ =>
      if ok = true then wpAny (model prog w) A (eval elt env) (fun x s₄ =>
       wpAny (model prog w) A (call (.builtin "list.append") [acc,x]) (fun _ s₅ => ∃ m,m < n /\ I m s₅) (fun _ _ => False) s₄) (fun _ _ => False) s₃
      else ∃ m,m < n /\ I m s₃) (fun _ _ => False) s₂) (fun _ _ => False) s₁') (fun _ _ => False) s₁) (fun _ _ => False) s)
  (n : Nat) (h : I n s) :
  codeAny (model prog w) A (.compLoop (zBh elt t1 i1 f1 t2 i2 f2 scope pos) 1 it acc env) R s:=by
 refine codeAny_loop rfl I (fun n s hI => ?_) n h;show wpAny _ A ((compTurn (zBh elt t1 i1 f1 t2 i2 f2 scope pos) 1 it acc env).onRaise (fun x => do noteFrame x env; theTreesLotGoes x)) _ _ s;refine wpAny_noted ?_;rw [zJp];refine zVN (zWL (zVN (zVt (turn n s hI) (fun r s₁ h₁ => ?_) fun _ _ h' => h'.elim)));cases r with
 | none => exact zVP h₁
 | some v =>
  refine zVN (zVt h₁ (fun _ s₁' h₁' => ?_) fun _ _ h' => h'.elim);refine zVN (zVt h₁' (fun _ s₂ h₂ => zVN (zVt h₂ (fun ok s₃ h₃ => ?_) fun _ _ h' => h'.elim)) fun _ _ h' => h'.elim);cases ok with
  | false => exact zVP ⟨rfl,h₃⟩
  | true =>
   exact zVN (zVN (zVt h₃ (fun x s₄ h₄ => zVN (zVt h₄ (fun _ s₅ h₅ => zVP (zVP ⟨rfl,h₅⟩)) fun _ _ h' => h'.elim)) fun _ _ h' => h'.elim))
theorem zIc
  (h0 : codeAny (model prog w) A (.compLoop (zBh elt t1 i1 f1 t2 i2 f2 scope pos) 1 it acc env) R s)
  (h : wpAny (model prog w) A (pyIter it) (fun it' s' => codeAny (model prog w) A (.compLoop (zBh elt t1 i1 f1 t2 i2 f2 scope pos) 1 it' acc env) R s')
   (notedBy (model prog w) A env fun x s' => R (.error x) s') s) :
  codeAny (model prog w) A (.compStart (zBh elt t1 i1 f1 t2 i2 f2 scope pos) 1 it acc env) R s:=by
 refine codeAny_of_tree ?_;show wpAny _ _ ((compStart (zBh elt t1 i1 f1 t2 i2 f2 scope pos) 1 it acc env).onRaise (fun x => do noteFrame x env; standAt theWindowsPlace)) _ _ s;refine wpAny_notedAt ?_;unfold compStart;show wpAny _ _ (ask >>= _) _ _ s;refine zVN (wpAny_askSetting (wpAny_ite ?_));split
 ·first
   | exact zVN (zVP (zVP (And.intro rfl h0)))
   | exact zVP (And.intro rfl h0)
 ·first
   | exact zVN (zWk (zVN (zWL (zVN (zVt h (fun it' s' h' => zVP (And.intro rfl h')) fun _ _ x => x)))))
   | (refine zVN (zWk ?_); show wpAny _ _ (standAt i2.pos >>= _) _ _ s; exact zVN (zWL (zVN (zVt h (fun it' s' h' => zVP (And.intro rfl h')) fun _ _ x => x))))
theorem zIZ (hs2 : ∀ x,foldedSetIterable i2 env x = pure x) (I : Nat -> Shared -> Prop)
  (turn : ∀ n s,I n s -> wpAny (model prog w) A (pyNext it) (fun r s₁ => match r with
   | none => R (.ok .next) s₁
   | some v => wpAny (model prog w) A (letOwnedTupleGo t1 it v) (fun _ s₁' => wpAny (model prog w) A (assign t1 env v) (fun _ s₂ =>
     wpAny (model prog w) A (forIn f1 true fun c r => if r = true then do let ok <- isTrue c env (eval c env); pure (ForInStep.yield ok) else pure (ForInStep.yield r)) (fun ok s₃ =>
      if ok = true then wpAny (model prog w) A (eval i2 env) (fun x s₄ => wpAny (model prog w) A (pyIter x) (fun it2 s₅ =>
       codeAny (model prog w) A (.compStart (zBh elt t1 i1 f1 t2 i2 f2 scope pos) 1 it2 acc env) (fun r s₆ => r = .ok .next /\ ∃ m,m < n /\ I m s₆) s₅) (fun _ _ => False) s₄) (fun _ _ => False) s₃
      else ∃ m,m < n /\ I m s₃) (fun _ _ => False) s₂) (fun _ _ => False) s₁') (fun _ _ => False) s₁) (fun _ _ => False) s)
  (n : Nat) (h : I n s) :
  codeAny (model prog w) A (.compLoop (zBh elt t1 i1 f1 t2 i2 f2 scope pos) 0 it acc env) R s:=by
 refine codeAny_loop rfl I (fun n s hI => ?_) n h;show wpAny _ A ((compTurn (zBh elt t1 i1 f1 t2 i2 f2 scope pos) 0 it acc env).onRaise (fun x => do noteFrame x env; theTreesLotGoes x)) _ _ s;refine wpAny_noted ?_;rw [zIg];refine zVN (zWL (zVN (zVt (turn n s hI) (fun r s₁ h₁ => ?_) fun _ _ h' => h'.elim)));cases r with
 | none => exact zVP h₁
 | some v =>
  refine zVN (zVt h₁ (fun _ s₁' h₁' => ?_) fun _ _ h' => h'.elim);refine zVN (zVt h₁' (fun _ s₂ h₂ => zVN (zVt h₂ (fun ok s₃ h₃ => ?_) fun _ _ h' => h'.elim)) fun _ _ h' => h'.elim);cases ok with
  | false => exact zVP ⟨rfl,h₃⟩
  | true =>
   refine zVN (zVt h₃ (fun x s₄ h₄ => zVN (zWL (zVN (wpAny_of_eq (hs2 x) (zVN (zWG (zVt h₄ (fun it2 s₅ h₅ => ?_) fun _ _ h' => h'.elim))))))) fun _ _ h' => h'.elim);refine zVN (wpAny_runOwn (codeAny_mono h₅ fun r s₆ hr => ?_));obtain ⟨rfl,hr⟩:=hr;exact zVP ⟨rfl,hr⟩
end
def tIn (own2 : List Nat) (wi2 : TI) (g2 : TG) (tc2 : TT) (te : TE) (σ2 : St) (H3 : Hp) (ys : List V) (QQ : List V -> Hp -> Prop) : Prop :=
 wi2 σ2 H3 fun J2 H4 => ∃ W2 : Nat -> Nat -> List V -> Hp -> Prop,(∃ m,W2 0 m ys H4) /\ ∀ j m zs H,W2 j m zs H ->
  (J2.stop j H /\ QQ zs H) \/
  (J2.go j H /\ ∀ x H',J2.yld j H x H' -> g2 x (clr own2 σ2) H' fun σ3 H5 => Ext (clr own2 σ2) σ3 /\ tc2 σ3 H5 fun b H6 =>
   if b = true then te σ3 H6 fun v H7 => zs.length < sizeLine /\ ∃ m',m' < m /\ W2 (j + 1) m' (zs ++ [v]) H7 else ∃ m',m' < m /\ W2 (j + 1) m' zs H6)
section
variable {C : Cx} {elt t1 i1 t2 i2 : Expr} {f1 f2 : List Expr} {scope : Scope} {pos : Pos} {pl : List (Addr × Obj)} {σ : St} {H : Hp} {s : Shared} {D : Addr}
 {own2 : List Nat} {wi2 : TI} {g2 : TG} {tc2 : TT} {te : TE} {R : Result -> Shared -> Prop}
theorem zO2 (hxe : C.xe = fun _ _ => False) (hcalm : C.calm = true) (hi : PI C t2 i2 wi2) (hg : PG C t2 g2) (hc : zGr C f2 tc2) (he : PE C elt te) (hD : C.s₀.heap.objs.size <= D)
  (hcD : ∀ x c,C.env.cells.lookup x = some c -> c ≠ D) (hpl : ∀ p ∈ C.pn ++ pl,p.1 ≠ D) (I : Inv C (pl ++ [(D,zq its k)]) σ H s) (rv : zo ys its) (h : tIn own2 wi2 g2 tc2 te σ H ys QQ)
  (fin : ∀ s' H' its' k' zs,Inv C (pl ++ [(D,zq its' k')]) (clr own2 σ) H' s' -> zo zs its' -> QQ zs H' -> R (.ok .next) s') :
  wpAny (model C.prog C.w) C.A (eval i2 C.env) (fun x s₄ => wpAny (model C.prog C.w) C.A (pyIter x) (fun it2 s₅ =>
   codeAny (model C.prog C.w) C.A (.compStart (zBh elt t1 i1 f1 t2 i2 f2 scope pos) 1 it2 (.ref D) C.env) R s₅) (fun _ _ => False) s₄) (fun _ _ => False) s:=by
 have hpi:=hi _ s σ H _ I h;rw [hxe] at hpi;refine thn hpi fun v s1 h1 => thn h1 fun itv s2 h2 => ?_;obtain ⟨it,fp,tn,J,H2,e,I2,T,st2,f2',W,⟨m0,w0⟩,turn⟩:=h2;subst e;have hDfp : D ∉ fp:=fun z => (f2' D z).2.2.2.2.2 (D,zq its k) (by simp) rfl;have loop : ∀ s',(∃ H',Inv C (pl ++ [(D,zq its k)]) (clr own2 σ) H' s' /\ tn 0 s'.heap /\ (∀ b ∈ fp,H' b = none) /\ W 0 m0 ys H') -> codeAny (model C.prog C.w) C.A (.compLoop (zBh elt t1 i1 f1 t2 i2 f2 scope pos) 1 (.ref it) (.ref D) C.env) R s':=by
  rintro s' ⟨H',I',st',hn',w'⟩;have fpk : ∀ {H' : Hp} {its : List Value} {k : Nat},(∀ b ∈ fp,H' b = none) -> ∀ b ∈ fp,zCT C (pl ++ [(D,zq its k)]) H' b:=fun {H' its k} hn b hb => by
   obtain ⟨_,a2,a3,a4,a5,a6⟩:=f2' b hb;refine ⟨hn b hb,a2,a3,a4,a5,fun p hp => ?_⟩;rcases zVn.mp hp with z | z
   ·exact a6 p (zWc _ z)
   ·rcases zVn.mp z with z | z
    ·exact a6 p (zVh _ (zWc _ z))
    ·have : p = (D,zq its k):=by simpa using z
     rw [this];intro q;have q' : D = b:=q;exact hDfp (q' ▸ hb)
  refine zJ4 (fun n s' => ∃ i H' ys its k,Inv C (pl ++ [(D,zq its k)]) (clr own2 σ) H' s' /\ zo ys its /\ tn i s'.heap /\ (∀ b ∈ fp,H' b = none) /\ W i n ys H') ?_ m0 ⟨0,H',ys,its,k,I',rv,st',hn',w'⟩;rintro n s5 ⟨i,H5,ys,its,k,I5,r5,st5,f5,w5⟩;rcases turn i n ys H5 w5 with ⟨stop,qq⟩ | ⟨go,step⟩
  ·refine thn (T.done C rfl rfl rfl hcalm i _ s5 _ H5 _ I5 (fpk f5) st5 stop) fun r s6 ⟨hr,I6⟩ => ?_;subst hr;exact fin s6 H5 its k ys I6 r5 qq
  ·refine thn (T.item C rfl rfl rfl hcalm i _ s5 _ H5 _ I5 (fpk f5) st5 go) fun r s6 ⟨u,hr,h6⟩ => ?_;subst hr;refine thn h6 fun _ s7 ⟨x,H7,I7,r7,y7,st7,f7⟩ => ?_;have I7':=I7.pinned (fpk f7) (T.obj _ _ st7);have hgg:=hg _ s7 _ H7 x u _ I7' r7 (step x H7 y7);rw [hxe] at hgg;refine thn hgg fun _ s8 ⟨σ8,H8,I8,x8,q8⟩ => ?_;have hcc:=hc _ s8 σ8 H8 _ I8 q8;rw [hxe] at hcc;refine thn hcc fun ok s9 ⟨H9,I9,q9⟩ => ?_;have back : ∀ {s' : Shared} {Hx : Hp},Inv C ((pl ++ [(D,zq its k)]) ++ zDR fp s7.heap) σ8 Hx s' -> tn (i + 1) s'.heap /\ ∀ b ∈ fp,Hx b = none:=fun {s' Hx} Ix =>
    ⟨T.keep _ _ _ st7 fun b hb o e => (Ix.pin (b,o) (zVh _ (zVh _ (zAa hb e)))).1,fun b hb => by
     obtain ⟨o,e,d⟩:=T.obj _ _ st7 b hb;exact (Ix.pin (b,o) (zVh _ (zVh _ (zAa hb e)))).2.1⟩
   cases ok with
   | false =>
    obtain ⟨m',hm,w'⟩:=q9;obtain ⟨b1,b2⟩:=back I9;exact ⟨m',hm,i + 1,H9,ys,its,k,(I9.weak (by rw [x8.1]) x8.2).unpinned,r5,b1,b2,w'⟩
   | true =>
    have hee:=he _ s9 σ8 H9 _ I9 q9;rw [hxe] at hee;refine thn hee fun v s10 ⟨y,H10,I10,r10,hlt,m',hm,w'⟩ => ?_;obtain ⟨b1,b2⟩:=back I10;have J10:=(I10.weak (by rw [x8.1]) x8.2).unpinned;obtain ⟨e10,n10,ne10,nf10,d10⟩:=J10.pin (D,zq its k) (by simp);have hlen : its.toArray.size <= sizeLine:=by
     have:=r5.length;rw [zVV,<- this];exact Nat.le_of_lt hlt
    refine wpAny_list_append_plain (hsz:=hlen) (show s10.heap.PlainList D its.toArray from ⟨k,e10⟩) fun h' hl' hs' => ?_;obtain ⟨k',e'⟩:=hl';have e'' : h'.get? D = some (zq (its ++ [v]) k'):=by rw [e']; simp [zq]
    refine ⟨m',hm,i + 1,H10,ys ++ [y],its ++ [v],k',?_,r5.append (.cons r10 .nil),T.keep _ _ _ b1 fun b hb o e => hs'.extBut b o (fun z => hDfp (z ▸ hb)) e,b2,w'⟩;exact Inv.repin (pl:=pl) J10 hpl hs' hD hcD e'' (by intro v z; cases z)
 have l0:=loop s2 ⟨H2,I2.weak (zBa own2 σ) (fun i v h => (zDC own2 σ i v h).1),st2,fun b hb => (f2' b hb).1,w0⟩;exact zIc l0 (T.self _ 0 _ _ _ st2 l0)
end
section
variable {X : Cx} {zB : List (Addr × Obj)} {σ : St} {H : Hp} {s : Shared} {scope : Scope} {cl : List (Str × Addr)} {fp : List Addr} {it : Addr} {tn : Nat -> Heap -> Prop} {J : It} {elt t1 i1 t2 i2 : Expr} {f1 f2 : List Expr} {pos : Pos}
 {own own2 : List Nat} {g g2 : TG} {tc tc2 : TT} {te : TE} {wi wi2 : TI} {E : Value -> Shared -> Prop}
theorem zLR : ∀ (own : List Nat) (σ : St) (j : Nat),j ∉ own -> (clr own σ)[j]? = σ[j]?
 | [],_,_,_ => rfl
 | i :: r,σ,j,h => by
  show (clr r (σ.set i none))[j]? = _;rw [zLR r _ j (fun z => h (zVa _ z)),zVr (fun z => h (by rw [z]; exact zVb))]
theorem zLH (hsub : ∀ i ∈ own2,i ∈ own) (C : CompIn X scope own) (hcalm : X.calm = true) (I : Inv X zB σ H s) (T : Turn X.prog X.w X.K t1 J fp it tn) (st : tn 0 s.heap) (hf : ∀ b ∈ fp,zCT X zB H b)
  (c1 : ∀ x c,cl.lookup x = some c -> X.env.cells.lookup x = some c) (c2 : ∀ y ∈ scope.names,y.2 = .free -> (cl.lookup y.1).isSome = true)
  (hg : PG (zR X zB scope cl s H fp) t1 g) (hi : zGr (zR X zB scope cl s H fp) f1 tc)
  (hi2 : PI (zR X zB scope cl s H fp) t2 i2 wi2) (hg2 : PG (zR X zB scope cl s H fp) t2 g2) (hc2 : zGr (zR X zB scope cl s H fp) f2 tc2) (he : PE (zR X zB scope cl s H fp) elt te)
  (hs2 : ∀ x,foldedSetIterable i2 (zR X zB scope cl s H fp).env x = pure x)
  {RR : Value -> Addr -> Result -> Shared -> Prop} {QQ : List V -> Hp -> Prop} {W : Nat -> Nat -> List V -> Hp -> Prop} {m0 : Nat} (w0 : W 0 m0 [] H)
  (turn : ∀ i m ys H,W i m ys H -> (J.stop i H /\ ys.length <= sizeLine /\ QQ ys H) \/
   (J.go i H /\ ∀ x H',J.yld i H x H' -> g x (clr own σ) H' fun σ2 H2 => Ext (clr own σ) σ2 /\ tc σ2 H2 fun b H3 =>
    if b = true then tIn own2 wi2 g2 tc2 te σ2 H3 ys fun zs H4 => ∃ m',m' < m /\ W (i + 1) m' zs H4 else ∃ m',m' < m /\ W (i + 1) m' ys H3))
  (fin : ∀ σc H' s' its n ys,Inv (zR X zB scope cl s H fp) [(s.heap.objs.size,zq its n)] σc H' s' -> zo ys its -> ys.length <= sizeLine -> QQ ys H' -> RR (.ref s.heap.objs.size) (s.heap.objs.size + 1) (.ok .next) s') :
  wpAny (model X.prog X.w) X.A (newList []) (fun acc s₃ => wpAny (model X.prog X.w) X.A (newFunctionEnv scope X.env.globals cl [] X.env.qual none .none (some X.env)) (fun cenv s₄ =>
   codeAny (model X.prog X.w) X.A (.compStart (zBh elt t1 i1 f1 t2 i2 f2 scope pos) 0 (.ref it) acc { cenv with scope:=relabel scope X.env }) (RR acc cenv.locals) s₄) E s₃) E s:=by
 have ob : ∀ b : Nat,b ∈ fp -> b < s.heap.objs.size:=fun b hb => let ⟨_,e,_⟩:=T.obj 0 _ st b hb; zVY e;refine zVq (zC4 ?_);have sz1 : (s.heap.push (zq [] 0)).objs.size = s.heap.objs.size + 1:=zV3 ..;have I4:=zFc (X:=X) (zB:=zB) (σ:=σ) (σc:=clr own σ) (H:=H) (s:=s) (scope:=scope) (cl:=cl) (fp:=fp) C.sc I hf ob c1 c2 (zBa own σ) (fun i x v h1 h2 h3 => by
  obtain ⟨a,b⟩:=zDC own σ i v h2;rcases C.nm i x h1 with z | z | z
  ·exact absurd z b
  ·exact absurd (zCV x z) h3
  ·exact ⟨z,a⟩) (zq [] 0) (by intro v z; cases z) rfl rfl
 have st4 : tn 0 (pushCells ((s.heap.push (zq [] 0)).push { cls:=.type "dict", data:=.dict #[] }) scope.names):=T.keep 0 _ _ st fun b _ o e => pushCells_keeps _ _ b o (zVO _ (zVO _ e));dsimp only;unfold newEnv;dsimp only;rw [sz1];have hDfp : s.heap.objs.size ∉ fp:=fun z => zV5 _ (ob _ z);have hcD : ∀ x c,(zR X zB scope cl s H fp).env.cells.lookup x = some c -> c ≠ s.heap.objs.size:=fun x c e z => by
  obtain ⟨v,o,ho,hd⟩:=I4.cell x c e;obtain ⟨q,_⟩:=I4.pin (s.heap.objs.size,zq [] 0) (by simp);rw [z,q] at ho;cases ho; cases hd
 have fpk : ∀ {H' : Hp} {pl : List (Addr × Obj)},(∀ b ∈ fp,H' b = none) -> (∀ p ∈ pl,p.1 = s.heap.objs.size) -> ∀ b ∈ fp,zCT (zR X zB scope cl s H fp) pl H' b:=fun {H' pl} hn hp b hb =>
  ⟨hn b hb,(I4.ok.exf b hb).1,I4.ok.exfs b hb,.inl hb,(I4.ok.exf b hb).2,fun p hq => by
   rcases zVn.mp hq with z | z
   ·exact (hf b hb).2.2.2.2.2 p z
   ·intro e;have e2:=hp p z;rw [e] at e2;exact hDfp (e2 ▸ hb)⟩
 have loop : codeAny (model X.prog X.w) X.A (.compLoop (zBh elt t1 i1 f1 t2 i2 f2 scope pos) 0 (.ref it) (.ref s.heap.objs.size) (zR X zB scope cl s H fp).env) (RR (.ref s.heap.objs.size) (s.heap.objs.size + 1))
   { s with heap:=pushCells ((s.heap.push (zq [] 0)).push { cls:=.type "dict", data:=.dict #[] }) scope.names }:=by
  refine zIZ hs2 (fun n s' => ∃ i H' ys its k,Inv (zR X zB scope cl s H fp) [(s.heap.objs.size,zq its k)] (clr own σ) H' s' /\ zo ys its /\ tn i s'.heap /\ (∀ b ∈ fp,H' b = none) /\ W i n ys H') ?_ m0
   ⟨0,H,[],[],0,I4,.nil,st4,fun b hb => (hf b hb).1,w0⟩
  rintro n s5 ⟨i,H5,ys,its,k,I5,r5,st5,f5,w5⟩;have pinD : ∀ p ∈ [(s.heap.objs.size,zq its k)],p.1 = s.heap.objs.size:=fun p hp => by
   have : p = (s.heap.objs.size,zq its k):=by simpa using hp
   rw [this]
  rcases turn i n ys H5 w5 with ⟨stop,hz,qq⟩ | ⟨go,step⟩
  ·refine thn (T.done (zR X zB scope cl s H fp) rfl rfl rfl hcalm i _ s5 _ H5 _ I5 (fpk f5 pinD) st5 stop) fun r s6 ⟨hr,I6⟩ => ?_;subst hr;exact fin _ H5 s6 its k ys I6 r5 hz qq
  ·refine thn (T.item (zR X zB scope cl s H fp) rfl rfl rfl hcalm i _ s5 _ H5 _ I5 (fpk f5 pinD) st5 go) fun r s6 ⟨u,hr,h6⟩ => ?_;subst hr;refine thn h6 fun _ s7 ⟨x,H7,I7,r7,y7,st7,f7⟩ => ?_;have I7':=I7.pinned (fpk f7 pinD) (T.obj _ _ st7);refine thn (hg _ s7 _ H7 x u _ I7' r7 (step x H7 y7)) fun _ s8 ⟨σ8,H8,I8,x8,q8⟩ => ?_;refine thn (hi _ s8 σ8 H8 _ I8 q8) fun ok s9 ⟨H9,I9,q9⟩ => ?_;have back : ∀ {σx : St} {s' : Shared} {Hx : Hp} {its : List Value} {k : Nat},(clr own σ).length = σx.length -> (∀ (i : Nat) v,(clr own σ)[i]? = some (some v) -> σx[i]? = some (some v)) -> Inv (zR X zB scope cl s H fp) (zDR fp s7.heap ++ [(s.heap.objs.size,zq its k)]) σx Hx s' -> Inv (zR X zB scope cl s H fp) [(s.heap.objs.size,zq its k)] (clr own σ) Hx s' /\ tn (i + 1) s'.heap /\ ∀ b ∈ fp,Hx b = none:=fun {σx s' Hx its k} hl hk Ix =>
    ⟨(Ix.weak hl hk).pins_of fun p hp => Ix.pin p (zVh _ (zVh _ hp)),
     T.keep _ _ _ st7 fun b hb o e => (Ix.pin (b,o) (zVh _ (zWc _ (zAa hb e)))).1,fun b hb => by
     obtain ⟨o,e,d⟩:=T.obj _ _ st7 b hb;exact (Ix.pin (b,o) (zVh _ (zWc _ (zAa hb e)))).2.1⟩
   have I9' : Inv (zR X zB scope cl s H fp) (zDR fp s7.heap ++ [(s.heap.objs.size,zq its k)]) σ8 H9 s9:=I9.pins_of fun p hp => I9.pin p (zVh _ (by
    rcases zVn.mp hp with z | z
    ·exact zVh _ z
    ·exact zWc _ z))
   cases ok with
   | false =>
    obtain ⟨m',hm,w'⟩:=q9;obtain ⟨b0,b1,b2⟩:=back (by rw [x8.1]) x8.2 I9';exact ⟨m',hm,i + 1,H9,ys,its,k,b0,r5,b1,b2,w'⟩
   | true =>
    refine zO2 (C:=zR X zB scope cl s H fp) rfl hcalm hi2 hg2 hc2 he (zVT _) hcD (fun p hp => ?_) I9' r5 q9 fun s' H' its' k' zs I' rv' q' => ?_
    ·rcases zVn.mp hp with z | z
     ·exact zVi (zVY (I.pin p z).1)
     ·obtain ⟨hb,_⟩:=zJS z;exact zVi (ob _ hb)
    ·obtain ⟨m',hm,w'⟩:=q';obtain ⟨b0,b1,b2⟩:=back (by rw [zBa own2,x8.1]) (fun i v hv => by rw [zLR own2 _ i (fun z => (zDC own σ i v hv).2 (hsub i z))]; exact x8.2 i v hv) I';exact ⟨rfl,m',hm,i + 1,H',zs,its',k',b0,rv',b1,b2,w'⟩
 exact codeAny_compStart_list loop (T.self _ 0 _ _ _ st4 loop)
def zPA (own own2 : List Nat) (wi : TI) (g : TG) (tc : TT) (wi2 : TI) (g2 : TG) (tc2 : TT) (te : TE) : TE:=fun σ H Q => wi σ H fun J H1 => ∃ W : Nat -> Nat -> List V -> Hp -> Prop,(∃ m,W 0 m [] H1) /\ ∀ i m ys H,W i m ys H ->
 (J.stop i H /\ ys.length <= sizeLine /\ ∀ D,H D = none -> Q (.ref D) (upd H D (.lst ys))) \/
 (J.go i H /\ ∀ x H',J.yld i H x H' -> g x (clr own σ) H' fun σ2 H2 => Ext (clr own σ) σ2 /\ tc σ2 H2 fun b H3 =>
  if b = true then tIn own2 wi2 g2 tc2 te σ2 H3 ys fun zs H4 => ∃ m',m' < m /\ W (i + 1) m' zs H4 else ∃ m',m' < m /\ W (i + 1) m' ys H3)
structure CompParts2 (X : Cx) (scope : Scope) (t1 : Expr) (f1 : List Expr) (t2 i2 : Expr) (f2 : List Expr) (elt : Expr) (g : TG) (tc : TT) (wi2 : TI) (g2 : TG) (tc2 : TT) (te : TE) : Prop where
 g : ∀ zB cl s H fp,PG (zR X zB scope cl s H fp) t1 g
 c : ∀ zB cl s H fp,zGr (zR X zB scope cl s H fp) f1 tc
 w2 : ∀ zB cl s H fp,PI (zR X zB scope cl s H fp) t2 i2 wi2
 g2 : ∀ zB cl s H fp,PG (zR X zB scope cl s H fp) t2 g2
 c2 : ∀ zB cl s H fp,zGr (zR X zB scope cl s H fp) f2 tc2
 e : ∀ zB cl s H fp,PE (zR X zB scope cl s H fp) elt te
 s2 : ∀ zB cl s H fp x,foldedSetIterable i2 (zR X zB scope cl s H fp).env x = pure x
theorem zQS (hsub : ∀ i ∈ own2,i ∈ own) (C : CompIn X scope own) (hcalm : X.calm = true) (hi : PI X t1 i1 wi) (p : CompParts2 X scope t1 f1 t2 i2 f2 elt g tc wi2 g2 tc2 te) (hs : ∀ x,foldedSetIterable i1 X.env x = pure x:=by intro _; rfl) :
  PE X (zBh elt t1 i1 f1 t2 i2 f2 scope pos) (zPA own own2 wi g tc wi2 g2 tc2 te):=by
 intro zB s σ H Q I h;obtain ⟨cl,hcl,c1,c2⟩:=C.sc.closure I;rw [eval_ListComp];refine zXH (use:=none) rfl hs hcl C.sc.kind C.sc.names (thn (hi zB s σ H _ I h) fun v s1 h1 => thn h1 fun itv s2 h2 => ?_);obtain ⟨it,fp,tn,J,H2,e,I2,T,st2,f2,W,⟨m0,w0⟩,turn⟩:=h2;subst e;refine zLH hsub C hcalm I2 T st2 f2 c1 c2 (p.g _ _ _ _ _) (p.c _ _ _ _ _) (p.w2 _ _ _ _ _) (p.g2 _ _ _ _ _) (p.c2 _ _ _ _ _) (p.e _ _ _ _ _) (p.s2 _ _ _ _ _) (RR:=fun acc C r s' => compPost (model X.prog X.w) X.A X.xe none (EP X zB σ Q) acc C r s') (QQ:=fun ys H => ∀ D,H D = none -> Q (.ref D) (upd H D (.lst ys))) w0 turn ?_;intro σc H' s' its n ys Ic rv hz qq;obtain ⟨m,hn,_⟩:=Ic.loc;refine ⟨m,hn,fun h' hs' => ?_⟩;obtain ⟨J',nD⟩:=zH9 I2 f2 Ic rv hz hs';exact ⟨.ref s2.heap.objs.size,_,J',rfl,qq _ nD⟩
end
end L2
namespace L3
open PySem PySem.Spec PyProof.Rows L2
abbrev Sv:=List (Option V)
set_option genInjectivity true in
inductive D where
 | non | bl (b : Bool) | int (i : Int) | str (x : Str) | tup (xs : List D) | ref (n : Nat)
set_option genInjectivity true in
inductive MO where
 | lst (xs : List D) | fro (xs : List D) | dict (kvs : List (D × D)) | dicT (kvs : List (D × D)) | set (xs : List D)
mutual
def Rep (L : List Addr) (H : Hp) : D -> V -> Prop
 | .non,v => v = .non
 | .bl b,v => v = .bl b
 | .int i,v => v = .int i
 | .str x,v => v = .str x
 | .tup ds,v => ∃ a vs,v = .ref a /\ H a = some (.tup vs) /\ zT L H ds vs
 | .ref n,v => ∃ a,v = .ref a /\ L[n]? = some a
def zT (L : List Addr) (H : Hp) : List D -> List V -> Prop
 | [],vs => vs = []
 | d :: ds,vs => ∃ v r,vs = v :: r /\ Rep L H d v /\ zT L H ds r
end
theorem zT.length : ∀ {ds : List D} {vs : List V},zT L H ds vs -> vs.length = ds.length
 | [],_,h => by unfold zT at h; subst h; rfl
 | d :: ds,_,h => by
  unfold zT at h;obtain ⟨v,r,rfl,_,h2⟩:=h;simp [zT.length h2]
theorem zT.nil : zT L H [] []:=by unfold zT; rfl
theorem zT.cons (h : Rep L H d v) (t : zT L H ds vs) : zT L H (d :: ds) (v :: vs):=by
 unfold zT; exact ⟨v,vs,rfl,h,t⟩
theorem zT.get : ∀ {ds : List D} {vs : List V} {i : Nat} {d : D},zT L H ds vs -> ds[i]? = some d -> ∃ v,vs[i]? = some v /\ Rep L H d v
 | [],_,_,_,_,e => by simp at e
 | d :: ds,_,0,d',h,e => by
  unfold zT at h;obtain ⟨v,r,rfl,h1,h2⟩:=h;simp at e; subst e;exact ⟨v,rfl,h1⟩
 | d :: ds,_,i + 1,d',h,e => by
  unfold zT at h;obtain ⟨v,r,rfl,h1,h2⟩:=h;obtain ⟨u,e1,e2⟩:=zT.get (i:=i) h2 (by simpa using e);exact ⟨u,by simpa using e1,e2⟩
theorem zT.app : ∀ {ds es : List D} {vs ws : List V},zT L H ds vs -> zT L H es ws -> zT L H (ds ++ es) (vs ++ ws)
 | [],_,_,_,h,t => by unfold zT at h; subst h; exact t
 | d :: ds,_,_,_,h,t => by
  unfold zT at h;obtain ⟨v,r,rfl,h1,h2⟩:=h;exact .cons h1 (zT.app h2 t)
theorem zT.set (h : Rep L H d v) : ∀ {ds : List D} {vs : List V} (i : Nat),zT L H ds vs -> zT L H (ds.set i d) (vs.set i v)
 | [],_,_,t => by unfold zT at t; subst t; exact .nil
 | _ :: _,_,0,t => by
  unfold zT at t;obtain ⟨v',r,rfl,h1,h2⟩:=t;exact .cons h h2
 | _ :: _,_,i + 1,t => by
  unfold zT at t;obtain ⟨v',r,rfl,h1,h2⟩:=t;exact .cons h1 (zT.set h i h2)
theorem zT.drop : ∀ {ds : List D} {vs : List V} (n : Nat),zT L H ds vs -> zT L H (ds.drop n) (vs.drop n)
 | _,_,0,t => t
 | [],_,n + 1,t => by unfold zT at t; subst t; exact .nil
 | _ :: _,_,n + 1,t => by
  unfold zT at t;obtain ⟨v',r,rfl,h1,h2⟩:=t;exact zT.drop n h2
theorem zT.take : ∀ {ds : List D} {vs : List V} (n : Nat),zT L H ds vs -> zT L H (ds.take n) (vs.take n)
 | _,_,0,t => .nil
 | [],_,n + 1,t => by unfold zT at t; subst t; exact .nil
 | _ :: _,_,n + 1,t => by
  unfold zT at t;obtain ⟨v',r,rfl,h1,h2⟩:=t;exact .cons h1 (zT.take n h2)
theorem zT.eraseIdx : ∀ {ds : List D} {vs : List V} (n : Nat),zT L H ds vs -> zT L H (ds.eraseIdx n) (vs.eraseIdx n)
 | [],_,n,t => by unfold zT at t; subst t; exact .nil
 | _ :: _,_,0,t => by
  unfold zT at t;obtain ⟨v',r,rfl,h1,h2⟩:=t;exact h2
 | _ :: _,_,n + 1,t => by
  unfold zT at t;obtain ⟨v',r,rfl,h1,h2⟩:=t;exact .cons h1 (zT.eraseIdx n h2)
structure Stp (L : List Addr) (H : Hp) (L' : List Addr) (H' : Hp) : Prop where
 pre : ∃ N,L' = L ++ N
 new : ∀ a ∈ L',a ∈ L \/ H a = none
 old : ∀ a o,H a = some o -> a ∉ L -> H' a = some o
 tup : ∀ a xs,H a = some (.tup xs) -> H' a = some (.tup xs)
 frz : ∀ a o u,H a = some (.frz o u) -> H' a = some (.frz o u)
theorem Stp.refl (L : List Addr) (H : Hp) : Stp L H L H:=⟨⟨[],by simp⟩,fun _ h => .inl h,fun _ _ h _ => h,fun _ _ h => h,fun _ _ _ h => h⟩
theorem Stp.trans (a : Stp L H L1 H1) (b : Stp L1 H1 L2 H2) : Stp L H L2 H2:=by
 obtain ⟨N,rfl⟩:=a.pre;obtain ⟨N',rfl⟩:=b.pre;have back : ∀ c,c ∉ L -> H1 c = none -> H c = none:=fun c hc h1 => by
  cases q : H c with
  | none => rfl
  | some o => rw [a.old c o q hc] at h1; cases h1
 refine ⟨⟨N ++ N',by simp⟩,fun c hc => ?_,fun c o e hc => ?_,fun c xs e => b.tup c xs (a.tup c xs e),fun c o u e => b.frz c o u (a.frz c o u e)⟩
 ·by_cases hL : c ∈ L
  ·exact .inl hL
  ·rcases b.new c hc with z | z
   ·exact a.new c z
   ·exact .inr (back c hL z)
 ·refine b.old c o (a.old c o e hc) fun z => ?_;rcases a.new c z with q | q
  ·exact hc q
  ·rw [q] at e; cases e
theorem Stp.grow (h : ∀ a o,H a = some o -> H' a = some o) : Stp L H L H':=⟨⟨[],by simp⟩,fun _ h => .inl h,fun a o e _ => h a o e,fun a _ e => h a _ e,fun a _ _ e => h a _ e⟩
theorem Stp.upd (h : H p = none) : Stp L H L (upd H p o):=.grow fun a u e => by rw [zh (zAO e h)]; exact e
theorem zB9 {L N : List Addr} {n : Nat} {a : Addr} (h : L[n]? = some a) : (L ++ N)[n]? = some a:=by
 rw [zVU (zVQ.mp h).1]; exact h
mutual
theorem Rep.stp {L L' : List Addr} {H H' : Hp} (s : Stp L H L' H') : ∀ {d : D} {v : V},Rep L H d v -> Rep L' H' d v
 | .non,_,h => by unfold Rep at h ⊢; exact h
 | .bl _,_,h => by unfold Rep at h ⊢; exact h
 | .int _,_,h => by unfold Rep at h ⊢; exact h
 | .str _,_,h => by unfold Rep at h ⊢; exact h
 | .tup ds,_,h => by
  unfold Rep at h ⊢;obtain ⟨a,vs,rfl,e,r⟩:=h;exact ⟨a,vs,rfl,s.tup a vs e,zT.stp s r⟩
 | .ref n,_,h => by
  unfold Rep at h ⊢;obtain ⟨a,rfl,e⟩:=h;obtain ⟨N,rfl⟩:=s.pre;exact ⟨a,rfl,zB9 e⟩
theorem zT.stp (s : Stp L H L' H') : ∀ {ds : List D} {vs : List V},zT L H ds vs -> zT L' H' ds vs
 | [],_,h => by unfold zT at h ⊢; exact h
 | d :: ds,_,h => by
  unfold zT at h ⊢;obtain ⟨v,r,rfl,h1,h2⟩:=h;exact ⟨v,r,rfl,Rep.stp s h1,zT.stp s h2⟩
end
def zHF : D -> Option Key
 | .int i => some (.inl i)
 | .str x => some (.inr x)
 | _ => none
def zHa : List D -> Option (List Key)
 | [] => some []
 | d :: r => match zHF d,zHa r with
  | some k,some ks => some (k :: ks)
  | _,_ => none
def tkD : D -> Option (List Key)
 | .tup ds => zHa ds
 | _ => none
def zBP {κ : Type} (kf : D -> Option κ) (L : List Addr) (H : Hp) : List (D × D) -> List (κ × V) -> Prop
 | [],vs => vs = []
 | p :: r,vs => ∃ k v r',vs = (k,v) :: r' /\ kf p.1 = some k /\ Rep L H p.2 v /\ zBP kf L H r r'
theorem zBP.stp {κ : Type} {kf : D -> Option κ} {L L' : List Addr} {H H' : Hp} (s : Stp L H L' H') : ∀ {ps : List (D × D)} {vs : List (κ × V)},zBP kf L H ps vs -> zBP kf L' H' ps vs
 | [],_,h => h
 | p :: r,_,h => by
  obtain ⟨k,v,r',rfl,e,h1,h2⟩:=h;exact ⟨k,v,r',rfl,e,h1.stp s,zBP.stp s h2⟩
theorem zBP.length {κ : Type} {kf : D -> Option κ} {L : List Addr} {H : Hp} : ∀ {ps : List (D × D)} {vs : List (κ × V)},zBP kf L H ps vs -> vs.length = ps.length
 | [],_,h => by unfold zBP at h; subst h; rfl
 | p :: r,_,h => by
  obtain ⟨k,v,r',rfl,e,h1,h2⟩:=h;simp [zBP.length h2]
def zHy (K : PySem.W.Frag) (L : List Addr) (H : Hp) (a : Addr) : MO -> Prop
 | .lst xs => ∃ vs,H a = some (.lst vs) /\ zT L H xs vs
 | .fro xs => ∃ o vs,H a = some (.frz o (.lst vs)) /\ zT L H xs vs
 | .dict ps => ∃ vs,H a = some (.dK vs) /\ zBP zHF L H ps vs
 | .dicT ps => ∃ vs,H a = some (.dT vs) /\ zBP tkD L H ps vs
 | .set _ => False
theorem zHy.there {K : PySem.W.Frag} {L : List Addr} {H : Hp} {a : Addr} {m : MO} (h : zHy K L H a m) : ∃ o,H a = some o:=by
 cases m with
 | lst xs => obtain ⟨vs,e,_⟩:=h; exact ⟨_,e⟩
 | fro xs => obtain ⟨o,vs,e,_⟩:=h; exact ⟨_,e⟩
 | dict ps => obtain ⟨vs,e,_⟩:=h; exact ⟨_,e⟩
 | dicT ps => obtain ⟨vs,e,_⟩:=h; exact ⟨_,e⟩
 | set _ => exact h.elim
theorem zHy.stp {K : PySem.W.Frag} {L L' : List Addr} {H H' : Hp} {a : Addr} {m : MO} (s : Stp L H L' H') (hk : ∀ o,H a = some o -> H' a = some o) (h : zHy K L H a m) : zHy K L' H' a m:=by
 cases m with
 | lst xs => obtain ⟨vs,e,r⟩:=h; exact ⟨vs,hk _ e,r.stp s⟩
 | fro xs => obtain ⟨o,vs,e,r⟩:=h; exact ⟨o,vs,hk _ e,r.stp s⟩
 | dict ps => obtain ⟨vs,e,r⟩:=h; exact ⟨vs,hk _ e,r.stp s⟩
 | dicT ps => obtain ⟨vs,e,r⟩:=h; exact ⟨vs,hk _ e,r.stp s⟩
 | set _ => exact h.elim
structure Cor (K : PySem.W.Frag) (L : List Addr) (M : List MO) (H : Hp) : Prop where
 len : L.length = M.length
 nd : L.Nodup
 obj : ∀ (n : Nat) a m,L[n]? = some a -> M[n]? = some m -> zHy K L H a m
def zBi (L : List Addr) (H : Hp) (σ : List (Option D)) (τ : Sv) : Prop:=τ.length = σ.length /\ ∀ (i : Nat) d,σ[i]? = some (some d) -> ∃ v,τ[i]? = some (some v) /\ Rep L H d v
theorem zBi.stp (s : Stp L H L' H') (h : zBi L H σ τ) : zBi L' H' σ τ :=
 ⟨h.1,fun i d e => let ⟨v,e1,r⟩:=h.2 i d e; ⟨v,e1,r.stp s⟩⟩
theorem Cor.tracked {K : PySem.W.Frag} {L : List Addr} {M : List MO} {H : Hp} (c : Cor K L M H) {a : Addr} (h : a ∈ L) : ∃ o,H a = some o:=by
 obtain ⟨n,hn⟩:=List.getElem?_of_mem h;have hl : n < M.length:=by rw [<- c.len]; exact (zVQ.mp hn).1
 have m:=c.obj n a M[n] hn (zVR hl);exact m.there
theorem Cor.grow {K : PySem.W.Frag} {L : List Addr} {M : List MO} {H H' : Hp} (c : Cor K L M H) (h : ∀ a o,H a = some o -> H' a = some o) : Cor K L M H':=by
 exact ⟨c.len,c.nd,fun n a m e1 e2 => (c.obj n a m e1 e2).stp (.grow h) fun o e => h a o e⟩
theorem Cor.upd {K : PySem.W.Frag} {L : List Addr} {M : List MO} {H : Hp} {p : Addr} {o : HO} (c : Cor K L M H) (h : H p = none) : Cor K L M (upd H p o):=c.grow fun a u e => by rw [zh (zAO e h)]; exact e
theorem Cor.write {K : PySem.W.Frag} {L : List Addr} {M : List MO} {H : Hp} {n : Nat} {p : Addr} {xs xs' : List D} {vs' : List V} (c : Cor K L M H) (h1 : L[n]? = some p) (h2 : M[n]? = some (.lst xs)) (r : zT L H xs' vs') :
  Cor K L (M.set n (.lst xs')) (L2.upd H p (.lst vs')) /\ Stp L H L (L2.upd H p (.lst vs')):=by
 obtain ⟨vs,hp,_⟩:=c.obj n p _ h1 h2;have st : Stp L H L (L2.upd H p (.lst vs')):=by
  refine ⟨⟨[],by simp⟩,fun a ha => .inl ha,fun a o e ha => ?_,fun a o e => ?_,fun a o u e => ?_⟩
  ·rw [zh (show a ≠ p from fun z => ha (by rw [z]; exact List.mem_of_getElem? h1))]; exact e
  ·rw [zh (zJO e hp (by intro z; cases z))]; exact e
  ·rw [zh (zJO e hp (by intro z; cases z))]; exact e
 refine ⟨⟨by simp [c.len],c.nd,fun k a m e1 e2 => ?_⟩,st⟩;rw [zWw] at e2;split at e2
 ·rename_i hk;subst hk;rw [h1] at e1; cases e1;split at e2
  ·cases e2; exact ⟨vs',zAi,r.stp st⟩
  ·cases e2
 ·rename_i hk;have hne : a ≠ p:=fun z => hk (by
   subst z;exact (List.getElem?_inj (zVQ.mp h1).1 c.nd).mp (h1.trans e1.symm))
  exact (c.obj k a m e1 e2).stp st fun o e => by rw [zh hne]; exact e
set_option genInjectivity true in
inductive EV where
 | dat (d : D) | fl (xs : List D)
def zk (H0 : Hp) (L : List Addr) (H : Hp) : EV -> V -> Prop
 | .dat d,v => Rep L H d v
 | .fl xs,v => ∃ p vs,v = .ref p /\ H0 p = none /\ H p = some (.lst vs) /\ p ∉ L /\ zT L H xs vs
abbrev Sd:=List (Option D)
abbrev Mem:=List MO
abbrev FE:=Sd -> Mem -> Option (EV × Mem)
abbrev FD:=Sd -> Mem -> Option (D × Mem)
abbrev FT:=Sd -> Mem -> Option (Bool × Mem)
abbrev FA:=Sd -> Mem -> Option (List D × Mem)
theorem Stp.out (s : Stp L H L' H') (h : H p = some o) (hp : p ∉ L) : p ∉ L':=fun z => by
 rcases s.new p z with q | q
 ·exact hp q
 ·rw [h] at q; cases q
theorem zk.stp (s : Stp L H L' H') (h : zk H0 L H e v) : zk H0 L' H' e v:=by
 cases e with
 | dat d => exact Rep.stp s h
 | fl xs =>
  obtain ⟨p,vs,rfl,e0,e1,e2,r⟩:=h;exact ⟨p,vs,rfl,e0,s.old p _ e1 e2,s.out e1 e2,r.stp s⟩
theorem zk.back {H0 H1 : Hp} {L0 L1 L : List Addr} {H : Hp} (s : Stp L0 H0 L1 H1) {M : List MO} {K : PySem.W.Frag} (c : Cor K L0 M H0) {e : EV} {v : V} (h : zk H1 L H e v) (hL : ∀ a ∈ L1,a ∈ L) : zk H0 L H e v:=by
 cases e with
 | dat d => exact h
 | fl xs =>
  obtain ⟨p,vs,rfl,e0,e1,e2,r⟩:=h;refine ⟨p,vs,rfl,?_,e1,e2,r⟩;cases q : H0 p with
  | none => rfl
  | some o =>
   by_cases hp : p ∈ L0
   ·obtain ⟨N,hN⟩:=s.pre;exact absurd (hL p (by rw [hN]; exact zWc _ hp)) e2
   ·rw [s.old p o q hp] at e0; cases e0
section
variable (K : PySem.W.Frag)
def trE (f : FE) : TE:=fun τ H Q => ∃ L σ M d M',Cor K L M H /\ zBi L H σ τ /\ f σ M = some (d,M') /\ ∀ L' H' v,Stp L H L' H' -> Cor K L' M' H' -> zk H L' H' d v -> Q v H'
def trD (f : FD) : TE:=fun τ H Q => ∃ L σ M d M',Cor K L M H /\ zBi L H σ τ /\ f σ M = some (d,M') /\ ∀ L' H' v,Stp L H L' H' -> Cor K L' M' H' -> Rep L' H' d v -> Q v H'
def trT (f : FT) : TT:=fun τ H Q => ∃ L σ M d M',Cor K L M H /\ zBi L H σ τ /\ f σ M = some (d,M') /\ ∀ L' H',Stp L H L' H' -> Cor K L' M' H' -> Q d H'
def trA (f : FA) : TA:=fun τ H Q => ∃ L σ M ds M',Cor K L M H /\ zBi L H σ τ /\ f σ M = some (ds,M') /\ ∀ L' H' vs,Stp L H L' H' -> Cor K L' M' H' -> zT L' H' ds vs -> Q vs H'
end
section
variable {X : Cx} {e : Expr}
theorem PE.imp (h : PE X e t) (hi : ∀ τ H Q,t' τ H Q -> t τ H Q) : PE X e t':=fun zB s σ H Q I q => h zB s σ H Q I (hi _ _ _ q)
theorem PT.imp (h : PT X e t) (hi : ∀ τ H Q,t' τ H Q -> t τ H Q) : PT X e t':=fun zB s σ H Q I q => h zB s σ H Q I (hi _ _ _ q)
theorem PS.imp {st : Stmt} {t t' : TS} (h : PS X st t) (hi : ∀ D τ H,t' D τ H -> t D τ H) : PS X st t':=fun zB s σ H D I q => h zB s σ H D I (hi _ _ _ q)
theorem PSs.imp {st : List Stmt} {t t' : TS} (h : PSs X st t) (hi : ∀ D τ H,t' D τ H -> t D τ H) : PSs X st t':=fun zB s σ H D I q => h zB s σ H D I (hi _ _ _ q)
structure QE (X : Cx) (e : Expr) (f : FE) : Prop where
 un : PE X e (trE X.K f)
structure QD (X : Cx) (e : Expr) (f : FD) : Prop where
 un : PE X e (trD X.K f)
structure QT (X : Cx) (e : Expr) (f : FT) : Prop where
 un : PT X e (trT X.K f)
structure QA (X : Cx) (es : List Expr) (f : FA) : Prop where
 un : PA X es (trA X.K f)
def toD (f : FE) : FD:=fun σ M => match f σ M with
 | some (.dat d,M') => some (d,M')
 | some (.fl xs,M') => some (.ref M'.length,M' ++ [.lst xs])
 | none => none
mutual
theorem Rep.more (N : List Addr) : ∀ {d : D} {v : V},Rep L H d v -> Rep (L ++ N) H d v
 | .non,_,h => by unfold Rep at h ⊢; exact h
 | .bl _,_,h => by unfold Rep at h ⊢; exact h
 | .int _,_,h => by unfold Rep at h ⊢; exact h
 | .str _,_,h => by unfold Rep at h ⊢; exact h
 | .tup ds,_,h => by
  unfold Rep at h ⊢;obtain ⟨a,vs,rfl,e,r⟩:=h;exact ⟨a,vs,rfl,e,zT.more N r⟩
 | .ref n,_,h => by
  unfold Rep at h ⊢;obtain ⟨a,rfl,e⟩:=h;exact ⟨a,rfl,zB9 e⟩
theorem zT.more (N : List Addr) : ∀ {ds : List D} {vs : List V},zT L H ds vs -> zT (L ++ N) H ds vs
 | [],_,h => by unfold zT at h ⊢; exact h
 | d :: ds,_,h => by
  unfold zT at h ⊢;obtain ⟨v,r,rfl,h1,h2⟩:=h;exact ⟨v,r,rfl,Rep.more N h1,zT.more N h2⟩
end
theorem zBP.more {κ : Type} {kf : D -> Option κ} {L : List Addr} {H : Hp} (N : List Addr) : ∀ {ps : List (D × D)} {vs : List (κ × V)},zBP kf L H ps vs -> zBP kf (L ++ N) H ps vs
 | [],_,h => h
 | p :: r,_,h => by
  obtain ⟨k,v,r',rfl,e,h1,h2⟩:=h;exact ⟨k,v,r',rfl,e,h1.more N,zBP.more N h2⟩
theorem zHy.more {K : PySem.W.Frag} {L : List Addr} {H : Hp} {a : Addr} {m : MO} (N : List Addr) (h : zHy K L H a m) : zHy K (L ++ N) H a m:=by
 cases m with
 | lst xs => obtain ⟨vs,e,r⟩:=h; exact ⟨vs,e,r.more N⟩
 | fro xs => obtain ⟨o,vs,e,r⟩:=h; exact ⟨o,vs,e,r.more N⟩
 | dict ps => obtain ⟨vs,e,r⟩:=h; exact ⟨vs,e,r.more N⟩
 | dicT ps => obtain ⟨vs,e,r⟩:=h; exact ⟨vs,e,r.more N⟩
 | set _ => exact h.elim
theorem zSR {K : PySem.W.Frag} {L L' : List Addr} {M' : List MO} {H H' : Hp} {p : Addr} {xs : List D} {vs : List V} (s : Stp L H L' H') (c : Cor K L' M' H') (h0 : H p = none) (h1 : H' p = some (.lst vs)) (h2 : p ∉ L') (r : zT L' H' xs vs) :
  Cor K (L' ++ [p]) (M' ++ [.lst xs]) H' /\ Stp L H (L' ++ [p]) H':=by
 refine ⟨⟨by simp [c.len],?_,fun n a m e1 e2 => ?_⟩,?_⟩
 ·rw [zWb];exact ⟨c.nd,by simp,fun a ha b hb z => by
   have : b = p:=by simpa using hb
   subst this; subst z; exact h2 ha⟩
 ·by_cases hn : n < L'.length
  ·rw [zVU hn] at e1;rw [zVU (by rw [<- c.len]; exact hn)] at e2;exact (c.obj n a m e1 e2).more [p]
  ·have hn' : n = L'.length:=by
    have:=(zVQ.mp e1).1;rw [zVd] at this;simp at this; omega
   subst hn';simp at e1;rw [c.len] at e2;simp at e2;subst e1; subst e2;exact ⟨vs,h1,r.more [p]⟩
 ·obtain ⟨N,hN⟩:=s.pre;refine ⟨⟨N ++ [p],by rw [hN]; simp⟩,fun a ha => ?_,s.old,s.tup,s.frz⟩;rcases zVn.mp ha with z | z
  ·exact s.new a z
  ·have : a = p:=by simpa using z
   subst this; exact .inr h0
theorem Rep.last {L : List Addr} {M : List MO} {H : Hp} {K : PySem.W.Frag} {p : Addr} (c : Cor K L M H) : Rep (L ++ [p]) H (.ref M.length) (.ref p):=by
 unfold Rep;exact ⟨p,rfl,by rw [<- c.len]; simp⟩
theorem zI {f : FE} (h : QE X e f) : QD X e (toD f):=.mk <| PE.imp h.un fun τ H Q zz => by
 obtain ⟨L,σ,M,d,M',c,rs,hf,q⟩:=zz;unfold toD at hf;split at hf
 ·rename_i d' M1 e1;cases hf;exact ⟨L,σ,M,_,_,c,rs,e1,fun L' H' v s c' r => q L' H' v s c' r⟩
 ·rename_i xs M1 e1;cases hf;refine ⟨L,σ,M,_,_,c,rs,e1,fun L' H' v s c' r => ?_⟩;obtain ⟨p,vs,rfl,e0,e2,e3,r⟩:=r;obtain ⟨c2,s2⟩:=zSR s c' e0 e2 e3 r;exact q _ H' _ s2 c2 (Rep.last c')
 ·cases hf
def zD (i : Nat) : FE:=fun σ M => match σ[i]? with
 | some (some d) => some (.dat d,M)
 | _ => none
theorem zF (h : PE X (.Name x pos) (zTk i)) : QE X (.Name x pos) (zD i):=.mk <| PE.imp h fun τ H Q zz => by
 obtain ⟨L,σ,M,d,M',c,rs,hf,q⟩:=zz;unfold zD at hf;split at hf
 ·rename_i d' e1;cases hf;obtain ⟨v,e2,r⟩:=rs.2 i d' e1;exact ⟨v,e2,q L H v (.refl L H) c r⟩
 ·cases hf
def fC (d : D) : FE:=fun _ M => some (.dat d,M)
theorem zJe (hd : ∀ L H,Rep L H d v) (h : PE X e (tC v)) : QE X e (fC d):=.mk <| PE.imp h fun τ H Q zz => by
 obtain ⟨L,σ,M,d',M',c,rs,hf,q⟩:=zz;unfold fC at hf;cases hf;exact q L H v (.refl L H) c (hd L H)
theorem zZ {i j pos} : QE X (.Constant (.int i) j pos) (fC (.int i)):=zJe (fun _ _ => by unfold Rep; rfl) zTR
theorem zLD {b j pos} : QE X (.Constant (.bool b) j pos) (fC (.bl b)):=zJe (fun _ _ => by unfold Rep; rfl) zUq
theorem zSF {j pos} : QE X (.Constant .none j pos) (fC .non):=zJe (fun _ _ => by unfold Rep; rfl) zSo
def zS : FA:=fun _ M => some ([],M)
def zH (f : FD) (g : FA) : FA:=fun σ M => match f σ M with
 | some (d,M1) => match g σ M1 with
  | some (ds,M2) => some (d :: ds,M2)
  | none => none
 | none => none
theorem PA.imp (h : PA X es t) (hi : ∀ τ H Q,t' τ H Q -> t τ H Q) : PA X es t':=fun pos zB s σ H Q I q => h pos zB s σ H Q I (hi _ _ _ q)
theorem zL : QA X [] zS:=.mk <| PA.imp zHG fun τ H Q zz => by
 obtain ⟨L,σ,M,d,M',c,rs,hf,q⟩:=zz;unfold zS at hf;cases hf;exact q L H [] (.refl L H) c .nil
theorem zG (h1 : QD X e f) (h2 : QA X es g) (hs : starEach (e :: es) X.env = (false,eval e X.env) :: starEach es X.env:=by rfl) : QA X (e :: es) (zH f g) :=
 .mk <| PA.imp (zEo h1.un h2.un hs) fun τ H Q zz => by
  obtain ⟨L,σ,M,d,M',c,rs,hf,q⟩:=zz;unfold zH at hf;split at hf
  ·rename_i d1 M1 e1;split at hf
   ·rename_i ds M2 e2;cases hf;refine ⟨L,σ,M,_,_,c,rs,e1,fun L1 H1 v s1 c1 r1 => ⟨L1,σ,M1,_,_,c1,rs.stp s1,e2,fun L2 H2 vs s2 c2 r2 => ?_⟩⟩;exact q L2 H2 _ (s1.trans s2) c2 (.cons (r1.stp s2) r2)
   ·cases hf
  ·cases hf
def zDv (g : FA) : FE:=fun σ M => match g σ M with
 | some (ds,M1) => if ds.length <= sizeLine then some (.dat (.tup ds),M1) else none
 | none => none
def zBS (g : FA) : FE:=fun σ M => match g σ M with
 | some (ds,M1) => if ds.length <= sizeLine then some (.fl ds,M1) else none
 | none => none
theorem Rep.newTup (h : H p = none) (r : zT L H ds vs) : Rep L (upd H p (.tup vs)) (.tup ds) (.ref p):=by
 unfold Rep;exact ⟨p,vs,rfl,zAi,r.stp (.upd h)⟩
theorem zFb {x1 pos} (h : QA X es g) : QE X (.Tuple es x1 pos) (zDv g):=.mk <| PE.imp (zTX h.un) fun τ H Q zz => by
 obtain ⟨L,σ,M,d,M',c,rs,hf,q⟩:=zz;unfold zDv at hf;split at hf
 ·rename_i ds M1 e1;split at hf
  ·rename_i hz;cases hf;refine ⟨L,σ,M,_,_,c,rs,e1,fun L1 H1 vs s1 c1 r1 => ⟨by rw [r1.length]; exact hz,fun p hp => ?_⟩⟩;exact q L1 _ _ (s1.trans (.upd hp)) (c1.upd hp) (Rep.newTup hp r1)
  ·cases hf
 ·cases hf
theorem zNX {L L1 : List Addr} {H H1 : Hp} {K : PySem.W.Frag} {M M1 : List MO} (s : Stp L H L1 H1) (c : Cor K L M H) (c1 : Cor K L1 M1 H1) {p : Addr} (hp : H1 p = none) : H p = none /\ p ∉ L1:=by
 have hp1 : p ∉ L1:=fun z => by obtain ⟨o,e⟩:=c1.tracked z; rw [hp] at e; cases e
 refine ⟨?_,hp1⟩;cases q : H p with
 | none => rfl
 | some o =>
  have : p ∉ L:=fun z => hp1 (by obtain ⟨N,hN⟩:=s.pre; rw [hN]; exact zWc _ z);rw [s.old p o q this] at hp; cases hp
theorem zk.newLst {L L1 : List Addr} {H H1 : Hp} {K : PySem.W.Frag} {M M1 : List MO} {p : Addr} {ds : List D} {vs : List V} (s : Stp L H L1 H1) (c : Cor K L M H) (c1 : Cor K L1 M1 H1) (hp : H1 p = none) (r : zT L1 H1 ds vs) :
  zk H L1 (upd H1 p (.lst vs)) (.fl ds) (.ref p):=by
 obtain ⟨a,b⟩:=zNX s c c1 hp;exact ⟨p,vs,rfl,a,zAi,b,r.stp (.upd hp)⟩
theorem zD7 {pos} (h : QA X es g) : QE X (.List es pos) (zBS g):=.mk <| PE.imp (zSv h.un) fun τ H Q zz => by
 obtain ⟨L,σ,M,d,M',c,rs,hf,q⟩:=zz;unfold zBS at hf;split at hf
 ·rename_i ds M1 e1;split at hf
  ·rename_i hz;cases hf;refine ⟨L,σ,M,_,_,c,rs,e1,fun L1 H1 vs s1 c1 r1 => ⟨by rw [r1.length]; exact hz,fun p hp => ?_⟩⟩;exact q L1 _ _ (s1.trans (.upd hp)) (c1.upd hp) (zk.newLst s1 c c1 hp r1)
  ·cases hf
 ·cases hf
end
abbrev FAE:=Sd -> Mem -> Option (List EV × Mem)
def zE7 (H0 : Hp) (L : List Addr) (H : Hp) : List EV -> List V -> Prop
 | [],vs => vs = []
 | e :: es,vs => ∃ v r,vs = v :: r /\ zk H0 L H e v /\ zE7 H0 L H es r
theorem Stp.sub (s : Stp L H L' H') : ∀ a ∈ L,a ∈ L':=fun a h => by
 obtain ⟨N,hN⟩:=s.pre;rw [hN]; exact zWc _ h
theorem zE7.back {H0 H1 : Hp} {L0 L1 L : List Addr} {H : Hp} (s : Stp L0 H0 L1 H1) {M : List MO} {K : PySem.W.Frag} (c : Cor K L0 M H0) (hL : ∀ a ∈ L1,a ∈ L) : ∀ {es : List EV} {vs : List V},zE7 H1 L H es vs -> zE7 H0 L H es vs
 | [],_,h => h
 | e :: es,_,h => by
  obtain ⟨v,r,rfl,h1,h2⟩:=h;exact ⟨v,r,rfl,h1.back s c hL,zE7.back s c hL h2⟩
def zUl (K : PySem.W.Frag) (f : FAE) : TA:=fun τ H Q => ∃ L σ M ds M',Cor K L M H /\ zBi L H σ τ /\ f σ M = some (ds,M') /\ ∀ L' H' vs,Stp L H L' H' -> Cor K L' M' H' -> zE7 H L' H' ds vs -> Q vs H'
structure QAE (X : Cx) (es : List Expr) (f : FAE) : Prop where
 un : PA X es (zUl X.K f)
section
variable {X : Cx} {a b e : Expr} {es : List Expr} {pos : Pos}
def zx : FAE:=fun _ M => some ([],M)
def zc (f : FE) (g : FAE) : FAE:=fun σ M => match f σ M with
 | some (d,M1) => match g σ M1 with
  | some (ds,M2) => some (d :: ds,M2)
  | none => none
 | none => none
theorem zt : QAE X [] zx:=.mk <| PA.imp zHG fun τ H Q zz => by
 obtain ⟨L,σ,M,d,M',c,rs,hf,q⟩:=zz;unfold zx at hf;cases hf;exact q L H [] (.refl L H) c rfl
theorem zg (h1 : QE X e f) (h2 : QAE X es g) (hs : starEach (e :: es) X.env = (false,eval e X.env) :: starEach es X.env:=by rfl) : QAE X (e :: es) (zc f g) :=
 .mk <| PA.imp (zEo h1.un h2.un hs) fun τ H Q zz => by
  obtain ⟨L,σ,M,d,M',c,rs,hf,q⟩:=zz;unfold zc at hf;split at hf
  ·rename_i d1 M1 e1;split at hf
   ·rename_i ds M2 e2;cases hf;refine ⟨L,σ,M,_,_,c,rs,e1,fun L1 H1 v s1 c1 r1 => ⟨L1,σ,M1,_,_,c1,rs.stp s1,e2,fun L2 H2 vs s2 c2 r2 => ?_⟩⟩;exact q L2 H2 _ (s1.trans s2) c2 ⟨v,vs,rfl,r1.stp s2,r2.back s1 c s2.sub⟩
   ·cases hf
  ·cases hf
abbrev K2:=EV -> EV -> Mem -> Option (EV × Mem)
def zCt (K : PySem.W.Frag) (r : R2) (k : K2) : Prop:=∀ {L : List Addr} {M M' : Mem} {H H0 : Hp} {x y d : EV} {v w : V} {Q : VK},Cor K L M H -> zk H0 L H x v -> zk H0 L H y w -> k x y M = some (d,M') ->
 (∀ L' H' u,Stp L H L' H' -> Cor K L' M' H' -> zk H L' H' d u -> Q u H') -> r v w H Q
def fOp (k : K2) (f g : FE) : FE:=fun σ M => match f σ M with
 | some (x,M1) => match g σ M1 with
  | some (y,M2) => k x y M2
  | none => none
 | none => none
theorem zC5 {K : PySem.W.Frag} {r : R2} {k : K2} {f g : FE} (hk : zCt K r k) {τ : Sv} {H : Hp} {Q : VK} (h : trE K (fOp k f g) τ H Q) : tOp r (trE K f) (trE K g) τ H Q:=by
 obtain ⟨L,σ,M,d,M',c,rs,hf,q⟩:=h;unfold fOp at hf;split at hf
 ·rename_i x M1 e1;split at hf
  ·rename_i y M2 e2;refine ⟨L,σ,M,_,_,c,rs,e1,fun L1 H1 v s1 c1 r1 => ⟨L1,σ,M1,_,_,c1,rs.stp s1,e2,fun L2 H2 w s2 c2 r2 => ?_⟩⟩;refine hk (H0:=H) c2 (r1.stp s2) (r2.back s1 c s2.sub) hf fun L3 H3 u s3 c3 r3 => ?_;exact q L3 H3 u ((s1.trans s2).trans s3) c3 (r3.back (s1.trans s2) c s3.sub)
  ·cases hf
 ·cases hf
theorem zL3 (hk : zCt X.K r k) (ho : OpR X (binaryOp op) r) (h1 : QE X a f) (h2 : QE X b g) : QE X (.BinOp a op b pos) (fOp k f g):=.mk <| PE.imp (zUI ho h1.un h2.un) fun _ _ _ h => zC5 hk h
theorem zSZ (hk : zCt X.K r k) (ho : OpR X (compareOp op) r) (h1 : QE X a f) (h2 : QE X b g) (hm : behindInMarks op b = false) : QE X (.Compare a [op] [b] pos) (fOp k f g) :=
 .mk <| PE.imp (zQ3 ho h1.un h2.un hm) fun _ _ _ h => zC5 hk h
def tst (f : FE) : FT:=fun σ M => match f σ M with
 | some (.dat (.bl c),M') => some (c,M')
 | _ => none
theorem zEi {K : PySem.W.Frag} {f : FE} {τ : Sv} {H : Hp} {Q : Bool -> Hp -> Prop} (h : trT K (tst f) τ H Q) : zND (trE K f) τ H Q:=by
 obtain ⟨L,σ,M,d,M',c,rs,hf,q⟩:=h;unfold tst at hf;split at hf
 ·rename_i k M1 e1;cases hf;refine ⟨L,σ,M,_,_,c,rs,e1,fun L1 H1 v s1 c1 r1 => ?_⟩;have : v = .bl d:=by unfold zk Rep at r1; exact r1
  exact ⟨d,this,q L1 H1 s1 c1⟩
 ·cases hf
theorem zFE (h : ∀ τ H Q,t τ H Q -> t' τ H Q) (q : zND t τ H Q) : zND t' τ H Q:=h _ _ _ q
theorem zGQ {op : CmpOp} {r : R2} {k : K2} {f g : FE} (hk : zCt X.K r k) (ho : OpR X (compareOp op) r) (h1 : QE X a f) (h2 : QE X b g) (hm : behindInMarks op b = false) : QT X (.Compare a [op] [b] pos) (tst (fOp k f g)) :=
 .mk <| PT.imp (zRd ho h1.un h2.un hm) fun _ _ _ h => zFE (fun _ _ _ z => zC5 hk z) (zEi h)
theorem zIH (h : QE X e f) (he : ∀ whole,isTrue e X.env whole = (do let v <- whole; standAt e.pos; holding [v] (truthy v)):=by intro _; rfl) : QT X e (tst f) :=
 .mk <| PT.imp (zTt h.un he) fun _ _ _ h => zEi h
def kI (C : Int -> Int -> Bool) (g : Int -> Int -> D) : K2:=fun x y M => match x,y with
 | .dat (.int i),.dat (.int j) => if C i j then some (.dat (g i j),M) else none
 | _,_ => none
def kI0 (g : Int -> Int -> D) : K2:=kI (fun _ _ => true) g
theorem zLA {K : PySem.W.Frag} {C : Int -> Int -> Bool} {C' : Int -> Int -> Prop} {g : Int -> Int -> D} {g' : Int -> Int -> V} (hC : ∀ i j,C i j = true -> C' i j) (hg : ∀ L H i j,Rep L H (g i j) (g' i j)) : zCt K (rI C' g') (kI C g):=by
 intro L M M' H H0 x y d v w Q c rx ry hk q;unfold kI at hk;split at hk
 ·rename_i i j;split at hk
  ·rename_i hc;cases hk;refine ⟨i,j,by unfold zk Rep at rx; exact rx,by unfold zk Rep at ry; exact ry,hC i j hc,q L H _ (.refl L H) c (hg L H i j)⟩
  ·cases hk
 ·cases hk
theorem zEX {K : PySem.W.Frag} {g : Int -> Int -> D} {g' : Int -> Int -> V} (hg : ∀ L H i j,Rep L H (g i j) (g' i j)) : zCt K (rI0 g') (kI0 g):=by
 intro L M M' H H0 x y d v w Q c rx ry hk q;obtain ⟨i,j,h1,h2,_,h4⟩:=zLA (C:=fun _ _ => true) (C':=fun _ _ => True) (fun _ _ _ => trivial) hg c rx ry hk q;exact ⟨i,j,h1,h2,h4⟩
theorem zAj : Rep L H (.int i) (.int i):=by unfold Rep; rfl
theorem zBs : Rep L H (.bl i) (.bl i):=by unfold Rep; rfl
def zON (i j : Int) : Bool:=(decide (-(2 ^ 64) < i) && decide (i < 2 ^ 64)) || (decide (-(2 ^ 64) < j) && decide (j < 2 ^ 64))
abbrev zU7 : K2:=kI0 fun i j => .int (i + j)
abbrev zML : K2:=kI0 fun i j => .int (i - j)
abbrev zNz : K2:=kI zON fun i j => .int (i * j)
abbrev zF6 : K2:=kI (fun _ j => decide (0 < j)) fun i j => .int (i % j)
abbrev zNt : K2:=kI (fun _ j => decide (0 < j) && decide (j < 1073741824)) fun i j => .int (i / j)
abbrev zQb : K2:=kI (fun i j => decide (0 <= j) && decide (j <= 1000000) && decide (i.natAbs < 2 ^ 64)) fun i j => .int (i ^ j.toNat)
abbrev kLt : K2:=kI0 fun i j => .bl (decide (i < j))
abbrev kLe : K2:=kI0 fun i j => .bl (decide (i <= j))
abbrev kGt : K2:=kI0 fun i j => .bl (decide (j < i))
abbrev kGe : K2:=kI0 fun i j => .bl (decide (j <= i))
section
variable {f g : FE}
theorem zM1 (h1 : QE X a f) (h2 : QE X b g) : QE X (.BinOp a .Sub b pos) (fOp zML f g):=zL3 (zEX fun _ _ _ _ => zAj) zSi h1 h2
theorem zPS (h1 : QE X a f) (h2 : QE X b g) : QE X (.BinOp a .Mult b pos) (fOp zNz f g):=zL3 (zLA (fun i j h => by
 unfold zON at h;simp only [Bool.or_eq_true,zVx,zWa] at h;exact h) fun _ _ _ _ => zAj) zS3 h1 h2
theorem zFZ (h1 : QE X a f) (h2 : QE X b g) : QE X (.BinOp a .Mod b pos) (fOp zF6 f g):=zL3 (zLA (fun i j h => zWJ h) fun _ _ _ _ => zAj) zSe h1 h2
theorem zQl (h1 : QE X a f) (h2 : QE X b g) : QE X (.BinOp a .FloorDiv b pos) (fOp zNt f g):=zL3 (zLA (fun i j h => by
 simp only [zVx,zWa] at h;exact h) fun _ _ _ _ => zAj) zRK h1 h2
theorem zSc (h1 : QE X a f) (h2 : QE X b g) : QE X (.BinOp a .Pow b pos) (fOp zQb f g):=zL3 (zLA (fun i j h => by
 simp only [zVx,zWa] at h;exact ⟨h.1.1,h.1.2,h.2⟩) fun _ _ _ _ => zAj) zTm h1 h2
theorem zVA (h1 : QE X a f) (h2 : QE X b g) : QE X (.Compare a [.Lt] [b] pos) (fOp kLt f g):=zSZ (zEX fun _ _ _ _ => zBs) zPW h1 h2 (zEf _)
theorem zSI (h1 : QE X a f) (h2 : QE X b g) : QT X (.Compare a [.Lt] [b] pos) (tst (fOp kLt f g)):=zGQ (zEX fun _ _ _ _ => zBs) zPW h1 h2 (zEf _)
theorem zUj (h1 : QE X a f) (h2 : QE X b g) : QT X (.Compare a [.Gt] [b] pos) (tst (fOp kGt f g)):=zGQ (zEX fun _ _ _ _ => zBs) zUR h1 h2 (zEf _)
theorem zUB (h1 : QE X a f) (h2 : QE X b g) : QT X (.Compare a [.GtE] [b] pos) (tst (fOp kGe f g)):=zGQ (zEX fun _ _ _ _ => zBs) zUn h1 h2 (zEf _)
end
end
def zBg (M : Mem) : EV -> Option (List D)
 | .fl xs => some xs
 | .dat (.ref n) => match M[n]? with
  | some (.lst xs) => some xs
  | some (.fro xs) => some xs
  | _ => none
 | _ => none
def zDJ : EV -> Option (List D)
 | .dat (.tup xs) => some xs
 | _ => none
def zAc (M : Mem) (x : EV) : Option (List D):=match zDJ x with
 | some xs => some xs
 | none => zBg M x
theorem zBD {K : PySem.W.Frag} {L : List Addr} {M : Mem} {H H0 : Hp} {x : EV} {v : V} {xs : List D} (c : Cor K L M H) (r : zk H0 L H x v) (h : zBg M x = some xs) : ∃ a vs,v = .ref a /\ Rd H a (.lst vs) /\ zT L H xs vs:=by
 cases x with
 | fl ys =>
  cases h;obtain ⟨p,vs,rfl,_,e,_,r⟩:=r;exact ⟨p,vs,rfl,.inl e,r⟩
 | dat d =>
  cases d with
  | ref n =>
   unfold zk Rep at r;obtain ⟨a,rfl,e⟩:=r;unfold zBg at h;dsimp only at h;cases q : M[n]? with
   | none => rw [q] at h; cases h
   | some m =>
    rw [q] at h;have z:=c.obj n a m e q;cases m with
    | lst ys => cases h; obtain ⟨vs,e1,r1⟩:=z; exact ⟨a,vs,rfl,.inl e1,r1⟩
    | fro ys => cases h; obtain ⟨o,vs,e1,r1⟩:=z; exact ⟨a,vs,rfl,.inr ⟨o,e1⟩,r1⟩
    | dict _ => cases h
    | dicT _ => cases h
    | set _ => cases h
  | _ => cases h
theorem zCE {L : List Addr} {H H0 : Hp} {x : EV} {v : V} {xs : List D} (r : zk H0 L H x v) (h : zDJ x = some xs) : ∃ a vs,v = .ref a /\ H a = some (.tup vs) /\ zT L H xs vs:=by
 cases x with
 | fl ys => cases h
 | dat d =>
  cases d with
  | tup ys => cases h; unfold zk Rep at r; exact r
  | _ => cases h
theorem zG9 {K : PySem.W.Frag} {L : List Addr} {M : Mem} {H H0 : Hp} {x : EV} {v : V} {xs : List D} (c : Cor K L M H) (r : zk H0 L H x v) (h : zAc M x = some xs) : ∃ a vs,v = .ref a /\ (SqL K H a vs \/ SqT K H a vs) /\ zT L H xs vs:=by
 unfold zAc at h;cases q : zDJ x with
 | some ys =>
  rw [q] at h; cases h;obtain ⟨a,vs,e,h1,h2⟩:=zCE r q;exact ⟨a,vs,e,.inr (.of h1),h2⟩
 | none =>
  rw [q] at h;obtain ⟨a,vs,e,h1,h2⟩:=zBD c r h;exact ⟨a,vs,e,.inl (.inl h1),h2⟩
theorem zSk {L : List Addr} {H : Hp} {xs : List D} {vs : List V} {i : Int} {d : D} (r : zT L H xs vs) (h : atI xs i = some d) : ∃ v,atI vs i = some v /\ Rep L H d v:=by
 unfold atI at h ⊢;rw [r.length];cases q : ixN xs.length i with
 | none => rw [q] at h; cases h
 | some j => rw [q] at h; exact r.get h
theorem zR6 {L : List Addr} {H : Hp} {i : Str} : Rep L H (.str i) (.str i):=by unfold Rep; rfl
def kIx : K2:=fun x y M => match y with
 | .dat (.int i) => match zAc M x with
  | some xs => match atI xs i with
   | some d => some (.dat d,M)
   | none => none
  | none => match x with
   | .dat (.str z) => if z.length <= sizeLine then match atI z.cps.toList i with
     | some c => some (.dat (.str ⟨#[c]⟩),M)
     | none => none
    else none
   | _ => none
 | _ => none
theorem zTn {K : PySem.W.Frag} : zCt K (rIx K) kIx:=by
 intro L M M' H H0 x y d v w Q c rx ry hk q;unfold kIx at hk;split at hk
 ·rename_i i;have ew : w = .int i:=by unfold zk Rep at ry; exact ry
  split at hk
  ·rename_i xs e1;split at hk
   ·rename_i d' e2;cases hk;obtain ⟨a,vs,rfl,hs,r⟩:=zG9 c rx e1;obtain ⟨u,e3,r3⟩:=zSk r e2;rcases hs with hs | hs
    ·exact .inl ⟨a,vs,i,u,rfl,ew,hs,e3,q L H u (.refl L H) c r3⟩
    ·exact .inr (.inl ⟨a,vs,i,u,rfl,ew,hs,e3,q L H u (.refl L H) c r3⟩)
   ·cases hk
  ·split at hk
   ·rename_i z _;split at hk
    ·rename_i hz;split at hk
     ·rename_i ch e2;cases hk;have ev : v = .str z:=by unfold zk Rep at rx; exact rx
      exact .inr (.inr ⟨z,i,ch,ev,ew,hz,e2,q L H _ (.refl L H) c (zR6 (L:=L) (H:=H))⟩)
     ·cases hk
    ·cases hk
   ·cases hk
 ·cases hk
section
variable {prog : Program} {w : World} {A : Around} {E : Value -> Shared -> Prop} {s : Shared}
theorem zMQ {t sl : Addr} {items : Array Value} {vl vu : Value} {lo hi : Option Int} {Q : Value -> Shared -> Prop} (T : IsTup s.heap t items) (S : s.heap.IsSliceOf sl vl vu .none) (pl : IsPart vl lo) (pu : IsPart vu hi)
  (h1 : HT.sIx items.size 0 lo = 0) (h2 : HT.sIx items.size items.size hi = items.size) (h : Q (.ref t) s) : wpAny (model prog w) A (getItem (.ref t) (.ref sl)) Q E s:=by
 obtain ⟨o,O,C,G⟩:=id S;have TS : s.TypeIs (.ref sl) "slice" := ⟨o,O,C⟩;unfold getItem;try with_reducible refine zWG ?_
 first | refine zVN (zVP ?_) | skip
 refine zVN (wpAny_sequenceKey T.typeIs (by decide) ?_);refine zVN (zVz (name:=Str.ofString "__getitem__") T.typeIs zWv (zV0 zWv T.typeIs entry_tuple_getitem ?_ (args_tuple_getitem _ _)));refine zVN (m:=Builtin.Tuple.tupleItemsOf (.ref t)) (tupleItemsOf_ T (zVN (wpAny_typeOf TS ?_)));rw [zVc (by decide)];refine zVN (HT.zDb S pl pu ?_);rw [h1,h2];show wpAny _ _ (if ((((0 : Nat) : Int) == 0 && (1 : Int) == 1 && (items.size - 0) == items.size)) = true then _ else _) _ _ s;rw [zVc (by simp)];unfold Builtin.Tuple.tupleIsExact;refine zVN (zVN (wpAny_typeOf T.typeIs (zVP ?_)));rw [zVc (by decide)];exact zVN (zWk (zVP ⟨_,rfl,zVP h⟩))
end
def zVB (K : PySem.W.Frag) : V -> Option Int -> Option Int -> Hp -> VK -> Prop:=fun x lo hi H Q => ∃ a xs,x = .ref a /\ SqT K H a xs /\ (HT.sIx xs.length 0 lo = 0 /\ HT.sIx xs.length xs.length hi = xs.length) /\ Q (.ref a) H
theorem zRr {X : Cx} : SlR X (zVB X.K):=by
 intro zB s σ H x v vl vu lo hi sl Q I rx hs pl pu h;obtain ⟨a,xs,rfl,hx,hw,q⟩:=h;cases rx;obtain ⟨its,r,ht,hz⟩:=I.tuple hx;have hlen : its.toArray.size = xs.length:=by rw [zVV]; exact r.length.symm
 exact ⟨"tuple", _,zWv.lookup,ht.typeIs,zMQ ht hs pl pu (by rw [hlen]; exact hw.1) (by rw [hlen]; exact hw.2) ⟨.ref a,H,I,rfl,q⟩⟩
section
variable {X : Cx} {a b e : Expr} {es : List Expr} {pos : Pos} {f g : FE}
theorem zBc (h1 : QE X a f) (h2 : QE X b g) (hs : zMp b:=by intro _ _; rfl) : QE X (.Subscript a b pos) (fOp kIx f g):=.mk <| PE.imp (zUt zTW h1.un h2.un hs) fun _ _ _ h => zC5 zTn h
abbrev FO:=Sd -> Mem -> Option (Option Int × Mem)
def trO (K : PySem.W.Frag) (f : FO) : TO:=fun τ H Q => ∃ L σ M d M',Cor K L M H /\ zBi L H σ τ /\ f σ M = some (d,M') /\ ∀ L' H',Stp L H L' H' -> Cor K L' M' H' -> Q d H'
structure QO (X : Cx) (e : Option Expr) (f : FO) : Prop where
 un : PO X e (trO X.K f)
def zEh : FO:=fun _ M => some (none,M)
def zDV (f : FE) : FO:=fun σ M => match f σ M with
 | some (.dat (.int i),M') => some (some i,M')
 | _ => none
theorem PO.imp {e : Option Expr} {t t' : TO} (h : PO X e t) (hi : ∀ τ H Q,t' τ H Q -> t τ H Q) : PO X e t':=fun zB s σ H Q I q => h zB s σ H Q I (hi _ _ _ q)
theorem zG5 : QO X none zEh:=.mk <| PO.imp zRo fun τ H Q zz => by
 obtain ⟨L,σ,M,d,M',c,rs,hf,q⟩:=zz;unfold zEh at hf;cases hf;exact q L H (.refl L H) c
theorem zGz (h : QE X e f) : QO X (some e) (zDV f):=.mk <| PO.imp (zSD h.un) fun τ H Q zz => by
 obtain ⟨L,σ,M,d,M',c,rs,hf,q⟩:=zz;unfold zDV at hf;split at hf
 ·rename_i i M1 e1;cases hf;refine ⟨L,σ,M,_,_,c,rs,e1,fun L1 H1 v s1 c1 r1 => ?_⟩;exact ⟨i,by unfold zk Rep at r1; exact r1,q L1 H1 s1 c1⟩
 ·cases hf
def zFI (xs : List D) (lo hi : Option Int) : List D:=(xs.drop (HT.sIx xs.length 0 lo)).take (HT.sIx xs.length xs.length hi - HT.sIx xs.length 0 lo)
theorem zNQ {L : List Addr} {H : Hp} {xs : List D} {vs : List V} {lo hi : Option Int} (r : zT L H xs vs) : zT L H (zFI xs lo hi) (zLQ vs lo hi):=by
 unfold zFI zLQ;rw [r.length];exact (r.drop _).take _
def kSl (x : EV) (lo hi : Option Int) (M : Mem) : Option (EV × Mem):=match zDJ x with
 | some xs => some (.dat (.tup (zFI xs lo hi)),M)
 | none => match zBg M x with
  | some xs => some (.fl (zFI xs lo hi),M)
  | none => none
def fSl (f : FE) (fl fh : FO) : FE:=fun σ M => match f σ M with
 | some (x,M1) => match fl σ M1 with
  | some (lo,M2) => match fh σ M2 with
   | some (hi,M3) => kSl x lo hi M3
   | none => none
  | none => none
 | none => none
theorem zG8 {lo hi : Option Expr} {p2 : Pos} {fl fh : FO} (h : QE X e f) (hl : QO X lo fl) (hh : QO X hi fh) : QE X (.Subscript e (.Slice lo hi none p2) pos) (fSl f fl fh) :=
 .mk <| PE.imp (zQE (SlR.or zRa (SlR.or zTo zRr)) h.un hl.un hh.un) fun τ H Q zz => by
  obtain ⟨L,σ,M,d,M',c,rs,hf,q⟩:=zz;unfold fSl at hf;split at hf
  ·rename_i x M1 e1;split at hf
   ·rename_i l M2 e2;split at hf
    ·rename_i u M3 e3;refine ⟨L,σ,M,_,_,c,rs,e1,fun L1 H1 v s1 c1 r1 => ⟨L1,σ,M1,_,_,c1,rs.stp s1,e2,fun L2 H2 s2 c2 => ⟨L2,σ,M2,_,_,c2,rs.stp (s1.trans s2),e3,fun L3 H3 s3 c3 => ?_⟩⟩⟩;have s:=(s1.trans s2).trans s3;have r3 : zk H L3 H3 x v:=(r1.stp s2).stp s3;unfold kSl at hf;cases t : zDJ x with
     | some xs =>
      rw [t] at hf;dsimp only at hf;cases hf;obtain ⟨a,vs,rfl,e4,r4⟩:=zCE r3 t;by_cases hw : HT.sIx vs.length 0 l = 0 /\ HT.sIx vs.length vs.length u = vs.length
      ·refine .inr (.inr ⟨a,vs,rfl,.of e4,hw,?_⟩);have ec : zFI xs l u = xs:=by
        unfold zFI;rw [<- r4.length,hw.1,hw.2,r4.length];simp
       rw [ec] at q;refine q L3 H3 _ s c3 ?_;unfold zk Rep;exact ⟨a,vs,rfl,e4,r4⟩
      ·refine .inr (.inl ⟨a,vs,rfl,.of e4,hw,fun p hp => ?_⟩);exact q L3 _ _ (s.trans (.upd hp)) (c3.upd hp) (Rep.newTup hp (zNQ r4))
     | none =>
      rw [t] at hf;dsimp only at hf;split at hf
      ·rename_i xs e4;cases hf;obtain ⟨a,vs,rfl,e5,r5⟩:=zBD c3 r3 e4;refine .inl ⟨a,vs,rfl,.inl e5,fun p hp => ?_⟩;exact q L3 _ _ (s.trans (.upd hp)) (c3.upd hp) (zk.newLst s c c3 hp (zNQ r5))
      ·cases hf
    ·cases hf
   ·cases hf
  ·cases hf
abbrev KB:=List EV -> Mem -> Option (EV × Mem)
def zHw (K : PySem.W.Frag) (r : List V -> Hp -> VK -> Prop) (k : KB) : Prop:=∀ {L : List Addr} {M M' : Mem} {H H0 : Hp} {xs : List EV} {d : EV} {vs : List V} {Q : VK},Cor K L M H -> zE7 H0 L H xs vs -> k xs M = some (d,M') ->
 (∀ L' H' u,Stp L H L' H' -> Cor K L' M' H' -> zk H L' H' d u -> Q u H') -> r vs H Q
def fB (k : KB) (f : FAE) : FE:=fun σ M => match f σ M with
 | some (xs,M1) => k xs M1
 | none => none
theorem zOg {K : PySem.W.Frag} {r : List V -> Hp -> VK -> Prop} {k : KB} {f : FAE} (hk : zHw K r k) {τ : Sv} {H : Hp} {Q : VK} (h : trE K (fB k f) τ H Q) : tCB r (zUl K f) τ H Q:=by
 obtain ⟨L,σ,M,d,M',c,rs,hf,q⟩:=h;unfold fB at hf;split at hf
 ·rename_i xs M1 e1;refine ⟨L,σ,M,_,_,c,rs,e1,fun L1 H1 vs s1 c1 r1 => ?_⟩;refine hk c1 r1 hf fun L2 H2 u s2 c2 r2 => ?_;exact q L2 H2 u (s1.trans s2) c2 (r2.back s1 c s2.sub)
 ·cases hf
theorem zE7.one {H0 : Hp} {L : List Addr} {H : Hp} {x : EV} {vs : List V} (h : zE7 H0 L H [x] vs) : ∃ v,vs = [v] /\ zk H0 L H x v:=by
 obtain ⟨v,r,rfl,h1,h2⟩:=h;unfold zE7 at h2;subst h2;exact ⟨v,rfl,h1⟩
def zBB : KB:=fun xs M => match xs with
 | [x] => match zAc M x with
  | some ys => some (.dat (.int ys.length),M)
  | none => none
 | _ => none
theorem zR0 : zHw X.K (fun xs H Q => ∃ p ys,xs = [.ref p] /\ (SqL X.K H p ys \/ SqT X.K H p ys) /\ Q (.int ys.length) H) zBB:=by
 intro L M M' H H0 xs d vs Q c r hk q;unfold zBB at hk;split at hk
 ·rename_i x;split at hk
  ·rename_i ys e1;cases hk;obtain ⟨v,rfl,r1⟩:=r.one;obtain ⟨a,ws,rfl,hs,r2⟩:=zG9 c r1 e1;refine ⟨a,ws,rfl,hs,q L H _ (.refl L H) c ?_⟩;rw [r2.length]; exact (zAj (L:=L) (H:=H))
  ·cases hk
 ·cases hk
theorem zF0 {x : Str} {p : Pos} {id : String} {r : List V -> Hp -> VK -> Prop} {k : KB} {f : FAE} (hk : zHw X.K r k) (hc : zCr X (.builtin id) r) (hv : bootBuiltins x = some (.builtin id)) (hg : Gl X x) (hm : X.mg x = none) (ha : QAE X (e :: es) f) (hn : x ≠ "__name__" := by decide) (hdb : (x == ("__debug__" : Str)) = false:=by decide)
  (he : starEach (e :: es) X.env = (false,eval e X.env) :: starEach es X.env:=by rfl) (hpl : (backTo pos (starEach es X.env)).any (·.1) = false:=by rfl) : QE X (.Call (.Name x p) (e :: es) [] pos) (fB k f) :=
 .mk <| PE.imp (zLV hc hg hm hv ha.un hn hdb he hpl) fun _ _ _ h => zOg hk h
theorem zIC {x : Str} {p : Pos} {T : String} {r : List V -> Hp -> VK -> Prop} {k : KB} {f : FAE} (hk : zHw X.K r k) (hc : zCr X (.type T) r) (hv : bootBuiltins x = some (.type T)) (hg : Gl X x) (hm : X.mg x = none) (ha : QAE X (e :: es) f) (hn : x ≠ "__name__" := by decide) (hdb : (x == ("__debug__" : Str)) = false:=by decide)
  (he : starEach (e :: es) X.env = (false,eval e X.env) :: starEach es X.env:=by rfl) (hpl : (backTo pos (starEach es X.env)).any (·.1) = false:=by rfl) : QE X (.Call (.Name x p) (e :: es) [] pos) (fB k f) :=
 .mk <| PE.imp (zGZ hc hg hm hv ha.un hn hdb he hpl) fun _ _ _ h => zOg hk h
def zBZ : KB:=fun xs M => match xs with
 | [x] => match zAc M x with
  | some ys => some (.dat (.tup ys),M)
  | none => none
 | _ => none
theorem zN1 : zHw X.K (fun xs H Q => ∃ p ys,xs = [.ref p] /\ ((SqL X.K H p ys /\ ∀ l,H l = none -> Q (.ref l) (upd H l (.tup ys))) \/ (SqT X.K H p ys /\ Q (.ref p) H))) zBZ:=by
 intro L M M' H H0 xs d vs Q c r hk q;unfold zBZ at hk;split at hk
 ·rename_i x;split at hk
  ·rename_i ys e1;cases hk;obtain ⟨v,rfl,r1⟩:=r.one;unfold zAc at e1;cases t : zDJ x with
   | some zs =>
    rw [t] at e1; cases e1;obtain ⟨a,ws,rfl,e2,r2⟩:=zCE r1 t;refine ⟨a,ws,rfl,.inr ⟨.of e2,q L H _ (.refl L H) c ?_⟩⟩;unfold zk Rep;exact ⟨a,ws,rfl,e2,r2⟩
   | none =>
    rw [t] at e1;obtain ⟨a,ws,rfl,e2,r2⟩:=zBD c r1 e1;refine ⟨a,ws,rfl,.inl ⟨.inl e2,fun p hp => ?_⟩⟩;exact q L _ _ (.upd hp) (c.upd hp) (Rep.newTup hp r2)
  ·cases hk
 ·cases hk
end
set_option genInjectivity true in
inductive Out where
 | nx | ret (d : D) | brk | cnt
abbrev FS:=Sd -> Mem -> Option (Out × Sd × Mem)
def zUU (E : Ends) (L : List Addr) (H : Hp) (σ : Sd) : Out -> Prop
 | .nx => ∀ τ,zBi L H σ τ -> E.nx τ H
 | .ret d => ∀ v,Rep L H d v -> E.rt v H
 | .brk => ∀ τ,zBi L H σ τ -> E.bk τ H
 | .cnt => ∀ τ,zBi L H σ τ -> E.ct τ H
def trS (K : PySem.W.Frag) (f : FS) : TS:=fun E τ H => ∃ L σ M o σ' M',Cor K L M H /\ zBi L H σ τ /\ f σ M = some (o,σ',M') /\ ∀ L' H',Stp L H L' H' -> Cor K L' M' H' -> zUU E L' H' σ' o
structure QS (X : Cx) (st : Stmt) (f : FS) : Prop where
 un : PS X st (trS X.K f)
structure QSs (X : Cx) (st : List Stmt) (f : FS) : Prop where
 un : PSs X st (trS X.K f)
theorem zBi.set (h : zBi L H σ τ) (r : Rep L H d v) : zBi L H (σ.set i (some d)) (τ.set i (some v)):=by
 refine ⟨by simp [h.1],fun j e q => ?_⟩;rw [zWw] at q ⊢;split at q
 ·rename_i z;subst z;split at q
  ·rename_i hl;cases q;rw [zVc rfl,zVc (by rw [h.1]; exact hl)];exact ⟨v,rfl,r⟩
  ·cases q
 ·rename_i z;rw [zVf z];exact h.2 j e q
theorem zKm {K : PySem.W.Frag} {f : FE} {τ : Sv} {H : Hp} {Q : VK} (h : trD K (toD f) τ H Q) : trE K f τ H Q:=by
 obtain ⟨L,σ,M,d,M',c,rs,hf,q⟩:=h;unfold toD at hf;split at hf
 ·rename_i d' M1 e1;cases hf;exact ⟨L,σ,M,_,_,c,rs,e1,fun L' H' v s c' r => q L' H' v s c' r⟩
 ·rename_i xs M1 e1;cases hf;refine ⟨L,σ,M,_,_,c,rs,e1,fun L' H' v s c' r => ?_⟩;obtain ⟨p,vs,rfl,e0,e2,e3,r⟩:=r;obtain ⟨c2,s2⟩:=zSR s c' e0 e2 e3 r;exact q _ H' _ s2 c2 (Rep.last c')
 ·cases hf
def zCU : FS:=fun σ M => some (.nx,σ,M)
def zX (f g : FS) : FS:=fun σ M => match f σ M with
 | some (.nx,σ1,M1) => g σ1 M1
 | r => r
def sIf (c : FT) (f g : FS) : FS:=fun σ M => match c σ M with
 | some (true,M1) => f σ M1
 | some (false,M1) => g σ M1
 | none => none
def zAJ (f : FE) : FS:=fun σ M => match toD f σ M with
 | some (d,M1) => some (.ret d,σ,M1)
 | none => none
def zAG (i : Nat) (f : FE) : FS:=fun σ M => match toD f σ M with
 | some (d,M1) => some (.nx,σ.set i (some d),M1)
 | none => none
def zBz (f : FE) : FS:=fun σ M => match f σ M with
 | some (_,M1) => some (.nx,σ,M1)
 | none => none
section
variable {X : Cx} {st : Stmt} {rest : List Stmt} {e c : Expr} {pos : Pos}
theorem zBR : QSs X [] zCU:=.mk <| PSs.imp zQx fun E τ H zz => by
 obtain ⟨L,σ,M,o,σ',M',c,rs,hf,q⟩:=zz;unfold zCU at hf;cases hf;exact q L H (.refl L H) c τ rs
theorem zP (h1 : QS X st f) (h2 : QSs X rest g) : QSs X (st :: rest) (zX f g):=.mk <| PSs.imp (zQB h1.un h2.un) fun E τ H zz => by
 obtain ⟨L,σ,M,o,σ',M',c,rs,hf,q⟩:=zz;unfold zX at hf;split at hf
 ·rename_i σ1 M1 e1;refine ⟨L,σ,M,_,_,_,c,rs,e1,fun L1 H1 s1 c1 τ1 r1 => ⟨L1,σ1,M1,_,_,_,c1,r1,hf,fun L2 H2 s2 c2 => q L2 H2 (s1.trans s2) c2⟩⟩
 ·rename_i hne;refine ⟨L,σ,M,_,_,_,c,rs,hf,fun L1 H1 s1 c1 => ?_⟩;have z:=q L1 H1 s1 c1;cases o with
  | nx => exact absurd hf (hne σ' M')
  | ret d => exact z
  | brk => exact z
  | cnt => exact z
theorem za (h1 : QS X st f) : QSs X [st] f:=.mk <| PSs.imp (zQ1 h1.un) fun _ _ _ h => h
theorem zEz (hc : QT X c fc) (ha : QSs X a f) (hb : QSs X b g) : QS X (.If c a b pos) (sIf fc f g):=.mk <| PS.imp (zUT hc.un ha.un hb.un) fun E τ H zz => by
 obtain ⟨L,σ,M,o,σ',M',c,rs,hf,q⟩:=zz;unfold sIf at hf;split at hf
 ·rename_i M1 e1;refine ⟨L,σ,M,_,_,c,rs,e1,fun L1 H1 s1 c1 => ?_⟩;exact zGu ⟨L1,σ,M1,_,_,_,c1,rs.stp s1,hf,fun L2 H2 s2 c2 => q L2 H2 (s1.trans s2) c2⟩
 ·rename_i M1 e1;refine ⟨L,σ,M,_,_,c,rs,e1,fun L1 H1 s1 c1 => ?_⟩;exact zGq ⟨L1,σ,M1,_,_,_,c1,rs.stp s1,hf,fun L2 H2 s2 c2 => q L2 H2 (s1.trans s2) c2⟩
 ·cases hf
theorem zAF (h : QE X e f) : QS X (.Return (some e) pos) (zAJ f):=.mk <| PS.imp (zSn (zI h).un) fun E τ H zz => by
 obtain ⟨L,σ,M,o,σ',M',c,rs,hf,q⟩:=zz;unfold zAJ at hf;split at hf
 ·rename_i d M1 e1;cases hf;exact ⟨L,σ,M,_,_,c,rs,e1,fun L1 H1 v s1 c1 r1 => q L1 H1 s1 c1 v r1⟩
 ·cases hf
theorem zHU {K : PySem.W.Frag} {i : Nat} {f : FE} {t : TE} (ht : ∀ τ H Q,trE K f τ H Q -> t τ H Q) {E : Ends} {τ : Sv} {H : Hp} (h : trS K (zAG i f) E τ H) : zOs t (zCq i) E τ H:=by
 obtain ⟨L,σ,M,o,σ',M',c,rs,hf,q⟩:=h;unfold zAG at hf;split at hf
 ·rename_i d M1 e1;cases hf;exact ht _ _ _ (zKm ⟨L,σ,M,_,_,c,rs,e1,fun L1 H1 v s1 c1 r1 => q L1 H1 s1 c1 _ ((rs.stp s1).set r1)⟩)
 ·cases hf
theorem zUr {i : Nat} {x : Str} {f : FE} {pos' : Pos} (hN : X.N.Nodup) (hi : X.N[i]? = some x) (hx : Loc X.env.scope x) (h : QE X e f) (hs : swapsWith e (some (.Name x pos')) pos.line X.env = pure false:=by rfl)
  (hf : X.fn x = true \/ X.env.scope.names.lookup x = some .local:=by first | exact .inl rfl | exact .inr rfl | assumption) : QS X (.Assign [.Name x pos'] e pos) (zAG i f) :=
 .mk <| PS.imp (zTN hN hi hx h.un hs hf) fun _ _ _ z => zHU (fun _ _ _ z => z) z
theorem zFN (h : QE X e f) (hs : swapsWith e none pos.line X.env = pure false:=by rfl) : QS X (.Expr e pos) (zBz f):=.mk <| PS.imp (zRl h.un hs) fun E τ H zz => by
 obtain ⟨L,σ,M,o,σ',M',c,rs,hf,q⟩:=zz;unfold zBz at hf;split at hf
 ·rename_i d M1 e1;cases hf;exact ⟨L,σ,M,_,_,c,rs,e1,fun L1 H1 v s1 c1 r1 => q L1 H1 s1 c1 τ (rs.stp s1)⟩
 ·cases hf
abbrev FG:=D -> Sd -> Option Sd
def GOk (g : TG) (fg : FG) : Prop:=∀ {L : List Addr} {H : Hp} {σ σ' : Sd} {τ : Sv} {d : D} {v : V} {Q : Sv -> Hp -> Prop},zBi L H σ τ -> Rep L H d v -> fg d σ = some σ' -> (∀ τ',zBi L H σ' τ' -> Q τ' H) -> g v τ H Q
def gN (i : Nat) : FG:=fun d σ => some (σ.set i (some d))
theorem zBn : GOk (zCq i) (gN i):=by
 intro L H σ σ' τ d v Q rs r hf q;unfold gN at hf;cases hf;exact q _ (rs.set r)
abbrev FI:=Sd -> Mem -> Option (List D × Option (Mem -> Prop) × Mem)
def zA5 (g : Option (Mem -> Prop)) (xs : List D) (M : Mem) : Prop:=match g with
 | none => True
 | some p => p M
def zT7 (K : PySem.W.Frag) (J : It) (L : List Addr) (H : Hp) (xs : List D) (g : Option (Mem -> Prop)) : Prop:=∀ L' H' M',Stp L H L' H' -> Cor K L' M' H' -> zA5 g xs M' ->
 (∀ (i : Nat) d,xs[i]? = some d -> J.go i H' /\ ∀ v H'',J.yld i H' v H'' -> (∀ a o,H' a = some o -> H'' a = some o) /\ Rep L' H'' d v) /\ J.stop xs.length H'
def trI (K : PySem.W.Frag) (f : FI) : TI:=fun τ H R => ∃ L σ M xs g M',Cor K L M H /\ zBi L H σ τ /\ f σ M = some (xs,g,M') /\ ∀ L' H' J,Stp L H L' H' -> Cor K L' M' H' -> zT7 K J L' H' xs g -> R J H'
structure QI (X : Cx) (tg e : Expr) (f : FI) : Prop where
 un : PI X tg e (trI X.K f)
theorem PI.imp (h : PI X tg e t) (hi : ∀ τ H R,t' τ H R -> t τ H R) : PI X tg e t':=fun zB s σ H R I q => h zB s σ H R I (hi _ _ _ q)
noncomputable def zCv (g : FG) (b : FS) (all : List D) (gd : Option (Mem -> Prop)) : List D -> Sd -> Mem -> Option (Out × Sd × Mem)
 | [],σ,M => open Classical in if zA5 gd all M then some (.nx,σ,M) else none
 | x :: r,σ,M => open Classical in if zA5 gd all M then match g x σ with
   | some σ1 => match b σ1 M with
    | some (.nx,σ2,M2) => zCv g b all gd r σ2 M2
    | some (.cnt,σ2,M2) => zCv g b all gd r σ2 M2
    | some (.brk,σ2,M2) => some (.nx,σ2,M2)
    | some (.ret d,σ2,M2) => some (.ret d,σ2,M2)
    | none => none
   | none => none
  else none
noncomputable def zDu (fi : FI) (g : FG) (b : FS) : FS:=fun σ M => match fi σ M with
 | some (xs,gd,M1) => zCv g b xs gd xs σ M1
 | none => none
theorem zCc {α : Type} {xs : List α} (h : i < xs.length) : xs.drop i = xs[i] :: xs.drop (i + 1):=List.drop_eq_getElem_cons h
theorem Stp.yld (s : Stp L H L' H') (h : ∀ a o,H' a = some o -> H'' a = some o) : Stp L H L' H'':=s.trans (.grow h)
theorem zO0 {K : PySem.W.Frag} {fi : FI} {g : TG} {fg : FG} {b : FS} (hg : GOk g fg) {E : Ends} {τ : Sv} {H : Hp} (h : trS K (zDu fi fg b) E τ H) : zUK (trI K fi) g (trS K b) E τ H:=by
 obtain ⟨L,σ,M,o,σf,Mf,c,rs,hf,q⟩:=h;unfold zDu at hf;split at hf
 ·rename_i xs gd M1 e1;refine ⟨L,σ,M,_,_,_,c,rs,e1,fun L1 H1 J s1 c1 it => ?_⟩
  refine ⟨fun i m τ' H' => m = xs.length - i /\ i <= xs.length /\ ∃ L' σ' M',Stp L1 H1 L' H' /\ Cor K L' M' H' /\ zBi L' H' σ' τ' /\ zCv fg b xs gd (xs.drop i) σ' M' = some (o,σf,Mf),
   ⟨xs.length,by simp,zV9 _,L1,σ,M1,.refl _ _,c1,rs.stp s1,by simpa using hf⟩,?_⟩
  rintro i m τ' H' ⟨rfl,hi,L',σ',M',s',c',rs',e'⟩;by_cases hlt : i < xs.length
  ·rw [zCc hlt] at e';unfold zCv at e';split at e'
   ·rename_i hgd;obtain ⟨step,_⟩:=it L' H' M' s' c' hgd;obtain ⟨go,yl⟩:=step i xs[i] (zVR hlt);cases eg : fg xs[i] σ' with
    | none => rw [eg] at e'; cases e'
    | some σ1 =>
     rw [eg] at e';dsimp only at e';refine .inr ⟨go,fun τ2 H2 => ∃ L2 σ2 M2,Stp L1 H1 L2 H2 /\ Cor K L2 M2 H2 /\ zBi L2 H2 σ2 τ2 /\ zCv fg b xs gd (xs.drop (i + 1)) σ2 M2 = some (o,σf,Mf),fun τ2 H2 ⟨L2,σ2,M2,a1,a2,a3,a4⟩ => ⟨xs.length - (i + 1),by omega,rfl,hlt,L2,σ2,M2,a1,a2,a3,a4⟩,fun v H2 hy => ?_⟩;obtain ⟨gr,rv⟩:=yl v H2 hy;refine hg (zBi.stp (.grow gr) rs') rv eg fun τ2 r2 => ?_;cases eb : b σ1 M' with
     | none => rw [eb] at e'; cases e'
     | some r =>
      obtain ⟨o2,σ2,M2⟩:=r;rw [eb] at e';refine ⟨L',σ1,M',_,_,_,c'.grow gr,r2,eb,fun L3 H3 s3 c3 => ?_⟩;have s13 : Stp L1 H1 L3 H3:=(s'.yld gr).trans s3;cases o2 with
      | nx => exact fun τ3 r3 => ⟨L3,σ2,M2,s13,c3,r3,e'⟩
      | cnt => exact fun τ3 r3 => ⟨L3,σ2,M2,s13,c3,r3,e'⟩
      | brk => cases e'; exact q L3 H3 (s1.trans s13) c3
      | ret d => cases e'; exact q L3 H3 (s1.trans s13) c3
   ·cases e'
  ·have hi' : i = xs.length:=by omega
   subst hi';rw [List.drop_length] at e';unfold zCv at e';split at e'
   ·rename_i hgd;cases e';obtain ⟨_,stop⟩:=it L' H' _ s' c' hgd;exact .inl ⟨stop,q L' H' (s1.trans s') c' τ' rs'⟩
   ·cases e'
 ·cases hf
theorem zFV (hg : GOk g fg) (hp : PassesOwn (model X.prog X.w) X.A X.env X.xe) (hc : X.calm = true) (hi : QI X tg iter fi) (ht : PG X tg g) (hb : QSs X body b)
  (hs : ∀ x,foldedSetIterable iter X.env x = pure x:=by intro _; rfl) : QS X (.For tg iter body [] pos) (zDu fi fg b):=.mk <| PS.imp (zTZ hp hc hi.un ht hb.un hs) fun _ _ _ h => zO0 hg h
end
section
variable {X : Cx} {e c iter tg elt : Expr} {pos : Pos} {scope : Scope} {ifs : List Expr}
def zBF (c : FT) (b : FS) : Nat -> Sd -> Mem -> Option (Out × Sd × Mem)
 | 0,_,_ => none
 | n + 1,σ,M => match c σ M with
  | some (true,M1) => match b σ M1 with
   | some (.nx,σ2,M2) => zBF c b n σ2 M2
   | some (.cnt,σ2,M2) => zBF c b n σ2 M2
   | some (.brk,σ2,M2) => some (.nx,σ2,M2)
   | some (.ret d,σ2,M2) => some (.ret d,σ2,M2)
   | none => none
  | some (false,M1) => some (.nx,σ,M1)
  | none => none
theorem zL5 {K : PySem.W.Frag} {fc : FT} {b : FS} {n : Nat} {E : Ends} {τ : Sv} {H : Hp} (h : trS K (zBF fc b n) E τ H) : zP6 (trT K fc) (trS K b) E τ H:=by
 obtain ⟨L,σ,M,o,σf,Mf,c,rs,hf,q⟩:=h;refine ⟨fun m τ' H' => ∃ L' σ' M',Stp L H L' H' /\ Cor K L' M' H' /\ zBi L' H' σ' τ' /\ zBF fc b m σ' M' = some (o,σf,Mf),⟨n,L,σ,M,.refl _ _,c,rs,hf⟩,?_⟩;rintro m τ' H' ⟨L',σ',M',s',c',rs',e'⟩;cases m with
 | zero => unfold zBF at e'; cases e'
 | succ m =>
  unfold zBF at e';split at e'
  ·rename_i M1 e1;refine ⟨L',σ',M',_,_,c',rs',e1,fun L1 H1 s1 c1 => zGu ?_⟩;refine ⟨fun τ2 H2 => ∃ L2 σ2 M2,Stp L H L2 H2 /\ Cor K L2 M2 H2 /\ zBi L2 H2 σ2 τ2 /\ zBF fc b m σ2 M2 = some (o,σf,Mf),fun τ2 H2 h2 => ⟨m,zWK m,h2⟩,?_⟩;cases eb : b σ' M1 with
   | none => rw [eb] at e'; cases e'
   | some r =>
    obtain ⟨o2,σ2,M2⟩:=r;rw [eb] at e';refine ⟨L1,σ',M1,_,_,_,c1,rs'.stp s1,eb,fun L3 H3 s3 c3 => ?_⟩;have s13 : Stp L H L3 H3:=(s'.trans s1).trans s3;cases o2 with
    | nx => exact fun τ3 r3 => ⟨L3,σ2,M2,s13,c3,r3,e'⟩
    | cnt => exact fun τ3 r3 => ⟨L3,σ2,M2,s13,c3,r3,e'⟩
    | brk => cases e'; exact q L3 H3 s13 c3
    | ret d => cases e'; exact q L3 H3 s13 c3
  ·rename_i M1 e1;cases e';exact ⟨L',_,M',_,_,c',rs',e1,fun L1 H1 s1 c1 => zGq (q L1 H1 (s'.trans s1) c1 τ' (rs'.stp s1))⟩
  ·cases e'
theorem zG0 (n : Nat) (hp : PassesOwn (model X.prog X.w) X.A X.env X.xe) (hc : QT X c fc) (hb : QSs X body b) : QS X (.While c body [] pos) (zBF fc b n) :=
 .mk <| PS.imp (zO5 hp hc.un hb.un) fun _ _ _ h => zL5 h
def zBH (own : List Nat) (σ : Sd) : Sd:=own.foldl (fun σ i => σ.set i none) σ
theorem zEm : ∀ (own : List Nat) {σ : Sd} {τ : Sv},zBi L H σ τ -> zBi L H (zBH own σ) (clr own τ)
 | [],_,_,h => h
 | i :: r,σ,τ,h => by
  refine zEm r (σ:=σ.set i none) (τ:=τ.set i none) ⟨by simp [h.1],fun j d q => ?_⟩;rw [zWw] at q ⊢;split at q
  ·split at q <;> cases q
  ·rename_i z;rw [zVf z];exact h.2 j d q
noncomputable def zA7 (g : FG) (tc : FT) (te : FE) (σ : Sd) (all : List D) (gd : Option (Mem -> Prop)) : List D -> Mem -> Option (List D × Mem)
 | [],M => open Classical in if zA5 gd all M then some ([],M) else none
 | x :: r,M => open Classical in if zA5 gd all M then match g x σ with
   | some σ1 => match tc σ1 M with
    | some (true,M1) => match toD te σ1 M1 with
     | some (d,M2) => match zA7 g tc te σ all gd r M2 with
      | some (ds,M3) => some (d :: ds,M3)
      | none => none
     | none => none
    | some (false,M1) => zA7 g tc te σ all gd r M1
    | none => none
   | none => none
  else none
noncomputable def zAL (own : List Nat) (fi : FI) (g : FG) (tc : FT) (te : FE) : FE:=fun σ M => match fi σ M with
 | some (xs,gd,M1) => if xs.length <= sizeLine then match zA7 g tc te (zBH own σ) xs gd xs M1 with
   | some (ys,M2) => some (.fl ys,M2)
   | none => none
  else none
 | none => none
def zFp (own : List Nat) (g : TG) (fg : FG) : Prop:=∀ {L : List Addr} {H : Hp} {σ σ' : Sd} {τ τ0 : Sv} {d : D} {v : V} {Q : Sv -> Hp -> Prop},zBi L H σ τ -> Ext (clr own τ0) τ -> Rep L H d v -> fg d σ = some σ' -> (∀ τ',zBi L H σ' τ' -> Ext (clr own τ0) τ' -> Q τ' H) -> g v τ H Q
theorem zj (hi : i ∈ own) : zFp own (zCq i) (gN i):=by
 intro L H σ σ' τ τ0 d v Q rs ex r hf q;unfold gN at hf;cases hf;exact q _ (rs.set r) (ex.set hi)
theorem zJX {K : PySem.W.Frag} {own : List Nat} {fi : FI} {g : TG} {fg : FG} {tc : FT} {te : FE} (hg : zFp own g fg) {τ : Sv} {H : Hp} {Q : VK} (h : trE K (zAL own fi fg tc te) τ H Q) : zQk own (trI K fi) g (trT K tc) (trD K (toD te)) τ H Q:=by
 obtain ⟨L,σ,M,d,Mf,c,rs,hf,q⟩:=h;unfold zAL at hf;split at hf
 ·rename_i xs gd M1 e1;split at hf
  ·rename_i hz;split at hf
   ·rename_i zs M2 e2;cases hf;refine ⟨L,σ,M,_,_,_,c,rs,e1,fun L1 H1 J s1 c1 it => ?_⟩
    refine ⟨fun i m ys H' => m = xs.length - i /\ i <= xs.length /\ ∃ L' M' as bs,Stp L1 H1 L' H' /\ Cor K L' M' H' /\ zT L' H' as ys /\ as.length <= i /\ zA7 fg tc te (zBH own σ) xs gd (xs.drop i) M' = some (bs,Mf) /\ as ++ bs = zs,
     ⟨xs.length,by simp,zV9 _,L1,M1,[],zs,.refl _ _,c1,.nil,zVT _,by simpa using e2,rfl⟩,?_⟩
    rintro i m ys H' ⟨rfl,hi,L',M',as,bs,s',c',r',hl,e',hab⟩;have hys : ys.length <= i:=by rw [r'.length]; exact hl
    by_cases hlt : i < xs.length
    ·rw [zCc hlt] at e';unfold zA7 at e';split at e'
     ·rename_i hgd;obtain ⟨step,_⟩:=it L' H' M' s' c' hgd;obtain ⟨go,yl⟩:=step i xs[i] (zVR hlt);split at e'
      ·rename_i σ1 eg;refine .inr ⟨go,fun v H2 hy => ?_⟩;obtain ⟨gr,rv⟩:=yl v H2 hy;have s2 : Stp L1 H1 L' H2:=s'.yld gr;refine hg (zEm own ((rs.stp s1).stp s2)) (.refl _) rv eg fun τ2 r2 x2 => ⟨x2,?_⟩;split at e'
       ·rename_i M3 e3;split at e'
        ·rename_i d M4 e4;split at e'
         ·rename_i ds M5 e5;cases e';refine ⟨L',σ1,M',_,_,c'.grow gr,r2,e3,fun L3 H3 s3 c3 => zGu ?_⟩;refine ⟨L3,σ1,M3,_,_,c3,r2.stp s3,e4,fun L4 H4 w s4 c4 r4 => ?_⟩;have st : Stp L' H' L4 H4:=((Stp.grow gr).trans s3).trans s4;refine ⟨Nat.lt_of_le_of_lt hys (zVm hlt hz),xs.length - (i + 1),by omega,rfl,hlt,L4,M4,as ++ [d],ds,s'.trans st,c4,(r'.stp st).app (.cons r4 .nil),by simp; omega,e5,by rw [<- hab]; simp⟩
         ·cases e'
        ·cases e'
       ·rename_i M3 e3;refine ⟨L',σ1,M',_,_,c'.grow gr,r2,e3,fun L3 H3 s3 c3 => zGq ?_⟩;have st : Stp L' H' L3 H3:=(Stp.grow gr).trans s3;exact ⟨xs.length - (i + 1),by omega,rfl,hlt,L3,M3,as,bs,s'.trans st,c3,r'.stp st,by omega,e',hab⟩
       ·cases e'
      ·cases e'
     ·cases e'
    ·have hi' : i = xs.length:=by omega
     subst hi';rw [List.drop_length] at e';unfold zA7 at e';split at e'
     ·rename_i hgd;cases e';obtain ⟨_,stop⟩:=it L' H' _ s' c' hgd;refine .inl ⟨stop,zVo hys hz,fun p hp => ?_⟩;rw [zV7] at hab;subst hab;exact q L' _ _ ((s1.trans s').trans (.upd hp)) (c'.upd hp) (zk.newLst (s1.trans s') c c' hp r')
     ·cases e'
   ·cases hf
  ·cases hf
 ·cases hf
structure QIfs (X : Cx) (ifs : List Expr) (f : FT) : Prop where
 un : zGr X ifs (trT X.K f)
def zAC : FT:=fun _ M => some (true,M)
theorem zAo : QIfs X [] zAC:=.mk fun zB s σ H Q I h => by
 obtain ⟨L,σ',M,d,M',c,rs,hf,q⟩:=h;unfold zAC at hf;cases hf;exact zPF zB s σ H Q I (q L H (.refl L H) c)
theorem zH3 (h : QT X c f) : QIfs X [c] f:=.mk (zQZ h.un)
structure QParts (X : Cx) (scope : Scope) (tg : Expr) (ifs : List Expr) (elt : Expr) (g : TG) (tc : FT) (te : FE) : Prop where
 g : ∀ zB cl s H fp,PG (zR X zB scope cl s H fp) tg g
 c : ∀ zB cl s H fp,QIfs (zR X zB scope cl s H fp) ifs tc
 e : ∀ zB cl s H fp,QE (zR X zB scope cl s H fp) elt te
theorem QParts.parts {g : TG} {tc : FT} {te : FE} (p : QParts X scope tg ifs elt g tc te) : CompParts X scope tg ifs elt g (trT X.K tc) (trD X.K (toD te)) :=
 ⟨p.g,fun zB cl s H fp => (p.c zB cl s H fp).un,fun zB cl s H fp => (zI (p.e zB cl s H fp)).un⟩
theorem zBQ (hg : zFp own g fg) (C : CompIn X scope own) (hcalm : X.calm = true) (hi : QI X tg iter fi) (p : QParts X scope tg ifs elt g tc te) (hs : ∀ x,foldedSetIterable iter X.env x = pure x:=by intro _; rfl) :
  QE X (.ListComp elt [⟨tg,iter,ifs,0⟩] scope pos) (zAL own fi fg tc te):=.mk <| PE.imp (zRB C hcalm hi.un p.parts hs) fun _ _ _ h => zJX hg h
theorem zDe (hN : X.N.Nodup) (hi' : X.N[i]? = some x) (hx : Loc X.env.scope x) (hfn : X.fn x = true \/ X.env.scope.names.lookup x = some .local)
  (hsw : swapsWith (.ListComp elt [⟨tg,iter,ifs,0⟩] scope pos) (some (.Name x pos')) pos''.line X.env = pure true)
  (hg : zFp own g fg) (C : CompIn X scope own) (hcalm : X.calm = true) (hi : QI X tg iter fi) (p : QParts X scope tg ifs elt g tc te) (hs : ∀ x,foldedSetIterable iter X.env x = pure x:=by intro _; rfl) :
  QS X (.Assign [.Name x pos'] (.ListComp elt [⟨tg,iter,ifs,0⟩] scope pos) pos'') (zAG i (zAL own fi fg tc te)) :=
 .mk <| PS.imp (zMf hN hi' hx hfn C hcalm hi.un p.parts hsw hs) fun _ _ _ z => zHU (fun _ _ _ z => zJX hg z) z
end
abbrev FF:=List D -> Mem -> Option (D × Mem)
def spF (K : PySem.W.Frag) (n : Nat) (g : FF) : Sp:=fun vs H Q _ => ∃ L ds M d M',Cor K L M H /\ zT L H ds vs /\ ds.length = n /\ g ds M = some (d,M') /\ ∀ L' H' v,Stp L H L' H' -> Cor K L' M' H' -> Rep L' H' d v -> Q v H'
def zW (g : FF) (fa : FA) : FE:=fun σ M => match fa σ M with
 | some (ds,M1) => match g ds M1 with
  | some (d,M2) => some (.dat d,M2)
  | none => none
 | none => none
section
variable {X : Cx} {e : Expr} {es : List Expr} {pos p : Pos} {x : Str} {k : Nat} {f : Addr} {fd : FuncData} {ps : List Str}
theorem zTJ (F : FnOk X.prog X.w X.K X.mg X.base CX0 k f fd ps (spF X.K (e :: es).length g)) (hr : Room k X.A) (hg : Gl X x) (hm : X.mg x = some (.ref f)) (hk : PySem.W.keepIn X.K (.ref f) = true) (hb : zIQ X.K fd ps [])
  (ha : QA X (e :: es) fa) (hl : ∀ σ M ds M1,fa σ M = some (ds,M1) -> ds.length = (e :: es).length) (hdb : (x == ("__debug__" : Str)) = false:=by decide) (he : starEach (e :: es) X.env = (false,eval e X.env) :: starEach es X.env:=by rfl) (hpl : (backTo pos (starEach es X.env)).any (·.1) = false:=by rfl) :
  QE X (.Call (.Name x p) (e :: es) [] pos) (zW g fa) :=
 .mk <| PE.imp (zQ5 F hr hg hm hk hb .nil zUD ha.un hdb he hpl) fun τ H Q zz => by
  obtain ⟨L,σ,M,d,M',c,rs,hf,q⟩:=zz;unfold zW at hf;split at hf
  ·rename_i ds M1 e1;split at hf
   ·rename_i d' M2 e2;cases hf;refine ⟨L,σ,M,_,_,c,rs,e1,fun L1 H1 vs s1 c1 r1 => ?_⟩;dsimp only;rw [zV7];exact ⟨L1,ds,M1,d',_,c1,r1,hl _ _ _ _ e1,e2,fun L2 H2 v s2 c2 r2 => q L2 H2 v (s1.trans s2) c2 r2⟩
   ·cases hf
  ·cases hf
def zQu (fa : FA) (n : Nat) : Prop:=∀ σ M ds M1,fa σ M = some (ds,M1) -> ds.length = n
theorem zJ : zQu zS 0:=fun σ M ds M1 h => by unfold zS at h; cases h; rfl
theorem zE {f : FD} {g : FA} {n : Nat} (h : zQu g n) : zQu (zH f g) (n + 1):=fun σ M ds M1 q => by
 unfold zH at q;split at q
 ·split at q
  ·rename_i e2;cases q;simp [h _ _ _ _ e2]
  ·cases q
 ·cases q
def zBJ (n : Nat) (b : FS) : FF:=fun ds M => match b (ds.map some ++ List.replicate (n - ds.length) none) M with
 | some (.ret d,_,M') => some (d,M')
 | some (.nx,_,M') => some (.non,M')
 | _ => none
theorem zIx : ∀ {ds : List D} {vs : List V},zT L H ds vs -> zBi L H (ds.map some ++ List.replicate (N.length - ds.length) none) (L2.zE5 N vs):=fun {ds vs} r => by
 unfold L2.zE5;have hl:=r.length;refine ⟨by simp [hl],fun i d q => ?_⟩;by_cases hi : i < ds.length
 ·rw [zVU (by simpa using hi),zVk] at q;rw [zVU (by simpa [hl] using hi),zVk];cases e1 : ds[i]? with
  | none => rw [e1] at q; cases q
  | some d' =>
   rw [e1] at q; cases q;obtain ⟨v,e2,r2⟩:=r.get e1;exact ⟨v,by rw [e2]; rfl,r2⟩
 ·rw [zWX (by simpa using hi),List.getElem?_replicate] at q;split at q <;> cases q
theorem zAH {P : Program} {w : World} {K : PySem.W.Frag} {mg : Str -> Option Value} {base : Heap} {qual : Str} {st : Stmt} {N : List Str} {b : FS} {n : Nat} (F : Fun K x qual st f fd) (S : FnScope N ps (zN st)) (hn : ps.length = n)
  (hb : ∀ (cdv : Value) (A : Around) (outer : List Env) (s : Shared) (H : Hp) (E : XK),Room k (A.deeper (envOfC qual (zN st) s.heap.objs.size f cdv)) -> QSs (zL2 CX0 P w K mg base N qual (zN st) f cdv A outer s H E).nox (zC8 st) b) :
  FnOk P w K mg base CX0 (k + 1) f fd ps (spF K n (zBJ N.length b)):=by
 refine F.ok S (fun vs H Q E h => ?_) (fun cdv A outer s H vs Q E hr h => ⟨_,(hb cdv A outer s H E hr).un,?_⟩)
 ·obtain ⟨L,ds,M,d,M',c,r,hl,_⟩:=h;rw [r.length,hl,hn]
 ·obtain ⟨L,ds,M,d,M',c,r,hl,hf,q⟩:=h;unfold zBJ at hf;split at hf
  ·rename_i d' σ' M1 e1;cases hf;exact ⟨L,_,M,_,_,_,c,zIx r,e1,fun L1 H1 s1 c1 v r1 => q L1 H1 v s1 c1 r1⟩
  ·rename_i σ' M1 e1;cases hf;exact ⟨L,_,M,_,_,_,c,zIx r,e1,fun L1 H1 s1 c1 τ' r1 => q L1 H1 .non s1 c1 (by unfold Rep; rfl)⟩
  ·cases hf
mutual
def D.und (n : Nat) : D -> Bool
 | .tup ds => D.unds n ds
 | .ref k => decide (k < n)
 | _ => true
def D.unds (n : Nat) : List D -> Bool
 | [] => true
 | d :: ds => D.und n d && D.unds n ds
end
mutual
theorem Rep.less : ∀ {d : D} {v : V},D.und L.length d = true -> Rep (L ++ N) H d v -> Rep L H d v
 | .non,_,_,h => by unfold Rep at h ⊢; exact h
 | .bl _,_,_,h => by unfold Rep at h ⊢; exact h
 | .int _,_,_,h => by unfold Rep at h ⊢; exact h
 | .str _,_,_,h => by unfold Rep at h ⊢; exact h
 | .tup ds,_,hb,h => by
  unfold D.und at hb;unfold Rep at h ⊢;obtain ⟨a,vs,rfl,e,r⟩:=h;exact ⟨a,vs,rfl,e,zT.less hb r⟩
 | .ref n,_,hb,h => by
  unfold D.und at hb;unfold Rep at h ⊢;obtain ⟨a,rfl,e⟩:=h;exact ⟨a,rfl,by rwa [zVU (zWJ hb)] at e⟩
theorem zT.less : ∀ {ds : List D} {vs : List V},D.unds L.length ds = true -> zT (L ++ N) H ds vs -> zT L H ds vs
 | [],_,_,h => by unfold zT at h ⊢; exact h
 | d :: ds,_,hb,h => by
  unfold D.unds at hb;rw [zVx] at hb;unfold zT at h ⊢;obtain ⟨v,r,rfl,h1,h2⟩:=h;exact ⟨v,r,rfl,Rep.less hb.1 h1,zT.less hb.2 h2⟩
end
theorem zBP.less {κ : Type} {kf : D -> Option κ} {L N : List Addr} {H : Hp} : ∀ {ps : List (D × D)} {vs : List (κ × V)},(ps.all fun p => D.und L.length p.1 && D.und L.length p.2) = true -> zBP kf (L ++ N) H ps vs -> zBP kf L H ps vs
 | [],_,_,h => h
 | p :: r,_,hb,h => by
  rw [List.all_cons,zVx,zVx] at hb;obtain ⟨k,v,r',rfl,e,h1,h2⟩:=h;exact ⟨k,v,r',rfl,e,Rep.less hb.1.2 h1,zBP.less hb.2 h2⟩
def MO.und (n : Nat) : MO -> Bool
 | .lst xs => D.unds n xs
 | .fro xs => D.unds n xs
 | .dict kvs => kvs.all fun p => D.und n p.1 && D.und n p.2
 | .dicT kvs => kvs.all fun p => D.und n p.1 && D.und n p.2
 | .set xs => D.unds n xs
def zKu (g : FF) : FF:=fun ds M => match g ds M with
 | some (d,M') => if D.und M.length d && (M'.take M.length).all (MO.und M.length) && decide (M.length <= M'.length) then some (d,M'.take M.length) else none
 | none => none
theorem zRk {P : Program} {w : World} {K : PySem.W.Frag} {mg : Str -> Option Value} {base : Heap} {n : Nat} {g : FF} (h : FnOk P w K mg base CX0 k f fd ps (spF K n g)) : FnOk P w K mg base CX0 k f fd ps (spF K n (zKu g)) :=
 h.imp fun vs H Q E ⟨L,ds,M,d,M',c,r,hl,hf,q⟩ => by
  unfold zKu at hf;split at hf
  ·rename_i d' M1 e1;split at hf
   ·rename_i hb;cases hf;simp only [zVx,zWa,zVy] at hb;obtain ⟨⟨hb1,hb2⟩,hb3⟩:=hb;refine ⟨L,ds,M,_,_,c,r,hl,e1,fun L1 H1 v s1 c1 r1 => ?_⟩;obtain ⟨N,rfl⟩:=s1.pre;rw [<- c.len] at hb1 hb2 hb3;refine q L H1 v ⟨⟨[],by simp⟩,fun a ha => .inl ha,s1.old,s1.tup,s1.frz⟩ ⟨?_,?_,fun i a m e2 e3 => ?_⟩ (Rep.less hb1 r1)
    ·rw [zWl,<- c.len]; omega
    ·exact (zWb.mp c1.nd).1
    ·rw [<- c.len] at e3;have hi : i < L.length:=(zVQ.mp e2).1;have hm : m ∈ M1.take L.length:=List.mem_of_getElem? e3;rw [List.getElem?_take_of_lt hi] at e3;have z:=c1.obj i a m (zB9 e2) e3;have bl:=hb2 m hm;cases m with
     | lst xs => obtain ⟨ws,e4,r4⟩:=z; exact ⟨ws,e4,zT.less bl r4⟩
     | fro xs => obtain ⟨o,ws,e4,r4⟩:=z; exact ⟨o,ws,e4,zT.less bl r4⟩
     | dict ps => obtain ⟨vs,e,r⟩:=z; exact ⟨vs,e,zBP.less bl r⟩
     | dicT ps => obtain ⟨vs,e,r⟩:=z; exact ⟨vs,e,zBP.less bl r⟩
     | set _ => exact z.elim
   ·cases hf
  ·cases hf
def zD6 (g : FF) : FF:=fun ds M => if D.unds 0 ds then match g ds [] with
  | some (d,_) => if D.und 0 d then some (d,M) else none
  | none => none
 else none
theorem zDL {P : Program} {w : World} {K : PySem.W.Frag} {mg : Str -> Option Value} {base : Heap} {n : Nat} {g : FF} (h : FnOk P w K mg base CX0 k f fd ps (spF K n g)) : FnOk P w K mg base CX0 k f fd ps (spF K n (zD6 g)) :=
 h.imp fun vs H Q E ⟨L,ds,M,d,M',c,r,hl,hf,q⟩ => by
  unfold zD6 at hf;split at hf
  ·rename_i hb0;split at hf
   ·rename_i d' M1 e1;split at hf
    ·rename_i hb;cases hf;refine ⟨[],ds,[],_,_,⟨rfl,.nil,fun i a m e => by simp at e⟩,zT.less (L:=[]) (N:=L) hb0 (by simpa using r),hl,e1,fun L1 H1 v s1 c1 r1 => ?_⟩;have gr : ∀ a o,H a = some o -> H1 a = some o:=fun a o e => s1.old a o e (by simp);exact q L H1 v (.grow gr) (c.grow gr) ((Rep.less (L:=[]) (N:=L1) hb (by simpa using r1)).more L |> fun z => by simpa using z)
    ·cases hf
   ·cases hf
  ·cases hf
theorem zTQ (hl : PE X l tl) : PI X tg l (fun σ H R => tl σ H fun x H1 => ∃ a,x = .ref a /\ ((∃ xs,SqL X.K H1 a xs) /\ R (Itl X.K a) H1 \/ (∃ xs,SqT X.K H1 a xs) /\ R (Itt X.K a) H1)):=by
 intro zB s σ H R I h;refine thn (hl zB s σ H _ I h) fun v s1 ⟨y,H1,I1,r1,a,hy,h1⟩ => ?_;subst hy;cases r1;have fpk : ∀ b ∈ [s1.heap.objs.size],zCT X zB H1 b:=fun b hb => by
  have e : b = s1.heap.objs.size:=by simpa using hb
  subst e;exact I1.fpOk (zVT _) (I1.hok.fresh (zVT _))
 rcases h1 with ⟨⟨xs,hq⟩,q⟩ | ⟨⟨xs,hq⟩,q⟩
 ·obtain ⟨its,rv,pl,hz⟩:=I1.list hq;exact wpAny_pyIter_list pl.isList ⟨s1.heap.objs.size,[s1.heap.objs.size],_,_,H1,rfl,I1.kept (t':=s1.toks) fun b o e => zVO _ e,zN5 a _,⟨_,zVX _ rfl,rfl,rfl⟩,fpk,q⟩
 ·obtain ⟨its,rv,pl,hz⟩:=I1.tuple hq;exact zW3 (show s1.heap.IsTuple a its.toArray from pl) ⟨s1.heap.objs.size,[s1.heap.objs.size],_,_,H1,rfl,I1.kept (t':=s1.toks) fun b o e => zVO _ e,zMA a _,⟨_,zVX _ rfl,rfl,rfl⟩,fpk,q⟩
def zEx (x : EV) (xs : List D) : Option (Mem -> Prop):=match x with
 | .dat (.ref n) => some fun M => M[n]? = some (.lst xs) \/ M[n]? = some (.fro xs)
 | _ => none
def zAr (f : FE) : FI:=fun σ M => match f σ M with
 | some (x,M1) => match zAc M1 x with
  | some xs => some (xs,zEx x xs,M1)
  | none => none
 | none => none
def zAW (f : FA) : FI:=fun σ M => match f σ M with
 | some ([.int j],M1) => if -(2 ^ 62) <= j /\ j < 2 ^ 62 then some ((List.range j.toNat).map fun (k : Nat) => D.int k,none,M1) else none
 | some ([.int i,.int j],M1) => if -(2 ^ 62) <= i /\ i < 2 ^ 62 /\ -(2 ^ 62) <= j /\ j < 2 ^ 62 then some ((List.range (j - i).toNat).map fun (k : Nat) => D.int (i + k),none,M1) else none
 | _ => none
theorem zBC (h : QE X e g) : QI X tg e (zAr g):=.mk <| PI.imp (zTQ h.un) fun τ H R zz => by
 obtain ⟨L,σ,M,xs,gd,M',c,rs,hf,q⟩:=zz;unfold zAr at hf;split at hf
 ·rename_i y M1 e1;split at hf
  ·rename_i zs e2;cases hf;refine ⟨L,σ,M,_,_,c,rs,e1,fun L1 H1 v s1 c1 r1 => ?_⟩;unfold zAc at e2;cases t : zDJ y with
   | some ws =>
    rw [t] at e2; cases e2;obtain ⟨a,vs,rfl,e3,r3⟩:=zCE r1 t;refine ⟨a,rfl,.inr ⟨⟨vs,.of e3⟩,q L1 H1 _ s1 c1 fun L2 H2 M2 s2 c2 _ => ?_⟩⟩;have e4:=s2.tup a vs e3;have r4:=r3.stp s2;refine ⟨fun i d hd => ?_,⟨vs,.of e4,by rw [r4.length]; exact zVT _⟩⟩;obtain ⟨u,hu,ru⟩:=r4.get hd;refine ⟨⟨vs,u,.of e4,hu⟩,fun v H3 ⟨hH,hv⟩ => ?_⟩;subst hH;have:=hv vs (.of e4);rw [hu] at this; cases this;exact ⟨fun _ _ z => z,ru⟩
   | none =>
    rw [t] at e2;dsimp only at e2;obtain ⟨a,vs,rfl,e3,r3⟩:=zBD c1 r1 e2;refine ⟨a,rfl,.inl ⟨⟨vs,.inl e3⟩,q L1 H1 _ s1 c1 fun L2 H2 M2 s2 c2 hgd => ?_⟩⟩;have key : ∃ vs',SqL X.K H2 a vs' /\ zT L2 H2 xs vs':=by
     cases y with
     | fl ys =>
      cases e2;obtain ⟨p',vs',hp',_,e5,e6,r6⟩:=r1;cases hp';exact ⟨vs',.of (s2.old _ _ e5 e6),r6.stp s2⟩
     | dat d =>
      cases d with
      | ref n =>
       unfold zk Rep at r1;obtain ⟨a',ha',e5⟩:=r1;cases ha';have e6 : L2[n]? = some a:=by obtain ⟨N,hN⟩:=s2.pre; rw [hN]; exact zB9 e5
       rcases hgd with z | z
       ·obtain ⟨vs',e7,r7⟩:=c2.obj n a _ e6 z; exact ⟨vs',.of e7,r7⟩
       ·obtain ⟨o,vs',e7,r7⟩:=c2.obj n a _ e6 z; exact ⟨vs',.inl (.inr ⟨o,e7⟩),r7⟩
      | _ => cases e2
    obtain ⟨vs',hq,r7⟩:=key;refine ⟨fun i d hd => ?_,⟨vs',hq,by rw [r7.length]; exact zVT _⟩⟩;obtain ⟨u,hu,ru⟩:=r7.get hd;refine ⟨⟨vs',u,hq,hu⟩,fun v H3 ⟨hH,hv⟩ => ?_⟩;subst hH;have:=hv vs' hq;rw [hu] at this; cases this;exact ⟨fun _ _ z => z,ru⟩
  ·cases hf
 ·cases hf
theorem zJF (h : zT L H [.int j] vs) : vs = [.int j]:=by
 unfold zT at h;obtain ⟨v,r,rfl,h1,h2⟩:=h;unfold zT at h2;unfold Rep at h1;subst h1 h2; rfl
theorem zO9 {K : PySem.W.Frag} {L : List Addr} {H : Hp} {lo : Int} {n : Nat} : zT7 K (Itr lo n) L H ((List.range n).map fun (k : Nat) => D.int (lo + k)) none:=by
 intro L' H' M' s c _;refine ⟨fun i d hd => ?_,by simp [Itr]⟩;rw [zVk] at hd;cases q : (List.range n)[i]? with
 | none => rw [q] at hd; cases hd
 | some k =>
  rw [q] at hd; cases hd;have hi : i < n:=by have:=(zVQ.mp q).1; simpa using this
  rw [List.getElem?_range hi] at q; cases q;refine ⟨hi,fun v H'' ⟨hH,hv⟩ => ?_⟩;subst hH hv;exact ⟨fun _ _ z => z,zAj⟩
theorem zAN {tg a : Expr} {g : FA} (hg : Gl X "range") (hm : X.mg "range" = none) (ha : QA X [a] g) (hl : zQu g 1) (hs : starEach [a] X.env = [(false,eval a X.env)]:=by rfl) : QI X tg (.Call (.Name "range" p) [a] [] pos) (zAW g) :=
 .mk <| PI.imp (zNo hg hm ha.un hs) fun τ H R zz => by
  obtain ⟨L,σ,M,xs,gd,M',c,rs,hf,q⟩:=zz;unfold zAW at hf;split at hf
  ·rename_i j M1 e1;split at hf
   ·rename_i hb;cases hf;refine ⟨L,σ,M,_,_,c,rs,e1,fun L1 H1 vs s1 c1 r1 => ⟨j,zJF r1,hb.1,hb.2,q L1 H1 _ s1 c1 ?_⟩⟩;have z:=zO9 (K:=X.K) (L:=L1) (H:=H1) (lo:=0) (n:=j.toNat);simpa using z
   ·cases hf
  ·rename_i e1;have:=hl _ _ _ _ e1;simp at this
  ·cases hf
end
section
variable {X : Cx} {a b c e : Expr} {es rest : List Expr} {pos p apos cpos : Pos}
def zCK (f g : FT) : FT:=fun σ M => match f σ M with
 | some (true,M1) => g σ M1
 | r => r
def zGM (f g : FT) : FT:=fun σ M => match f σ M with
 | some (false,M1) => g σ M1
 | r => r
def zFw (f : FT) : FT:=fun σ M => match f σ M with
 | some (k,M1) => some (!k,M1)
 | none => none
structure QW (X : Cx) (e : Expr) (f : FT) : Prop where
 un : PW X e (trT X.K f)
theorem PW.imp (h : PW X e t) (hi : ∀ τ H Q,t' τ H Q -> t τ H Q) : PW X e t':=fun wh zB s σ H Q I q => h wh zB s σ H Q I (hi _ _ _ q)
theorem zFU (h : QT X a f) : QW X (.BoolOp .And [a] pos) f:=.mk (zRJ h.un)
theorem zGX (h : QT X a f) : QW X (.BoolOp .Or [a] pos) f:=.mk (zTV h.un)
theorem zIB (h1 : QT X a f) (h2 : QW X (.BoolOp .And (b :: rest) pos) g) : QW X (.BoolOp .And (a :: b :: rest) pos) (zCK f g):=.mk <| PW.imp (zTP h1.un h2.un) fun τ H Q zz => by
 obtain ⟨L,σ,M,d,M',c,rs,hf,q⟩:=zz;unfold zCK at hf;split at hf
 ·rename_i M1 e1;exact ⟨L,σ,M,_,_,c,rs,e1,fun L1 H1 s1 c1 => zGu ⟨L1,σ,M1,_,_,c1,rs.stp s1,hf,fun L2 H2 s2 c2 => q L2 H2 (s1.trans s2) c2⟩⟩
 ·rename_i hne;cases d with
  | true => exact absurd hf (hne M')
  | false => exact ⟨L,σ,M,_,_,c,rs,hf,fun L1 H1 s1 c1 => zGq (q L1 H1 s1 c1)⟩
theorem zHi (h1 : QT X a f) (h2 : QW X (.BoolOp .Or (b :: rest) pos) g) : QW X (.BoolOp .Or (a :: b :: rest) pos) (zGM f g):=.mk <| PW.imp (zUY h1.un h2.un) fun τ H Q zz => by
 obtain ⟨L,σ,M,d,M',c,rs,hf,q⟩:=zz;unfold zGM at hf;split at hf
 ·rename_i M1 e1;exact ⟨L,σ,M,_,_,c,rs,e1,fun L1 H1 s1 c1 => zGq ⟨L1,σ,M1,_,_,c1,rs.stp s1,hf,fun L2 H2 s2 c2 => q L2 H2 (s1.trans s2) c2⟩⟩
 ·rename_i hne;cases d with
  | false => exact absurd hf (hne M')
  | true => exact ⟨L,σ,M,_,_,c,rs,hf,fun L1 H1 s1 c1 => zGu (q L1 H1 s1 c1)⟩
theorem zHg (h : QW X e f) : QT X e f:=.mk (PW.pt h.un)
theorem zHj (h : QT X a f) : QT X (.UnaryOp .Not a pos) (zFw f):=.mk <| PT.imp (zSm h.un) fun τ H Q zz => by
 obtain ⟨L,σ,M,d,M',c,rs,hf,q⟩:=zz;unfold zFw at hf;split at hf
 ·rename_i k M1 e1;cases hf;exact ⟨L,σ,M,_,_,c,rs,e1,fun L1 H1 s1 c1 => q L1 H1 s1 c1⟩
 ·cases hf
def zHb (f g : FE) : FE:=fun σ M => match f σ M with
 | some (.dat (.bl true),M1) => g σ M1
 | some (.dat (.bl false),M1) => some (.dat (.bl false),M1)
 | _ => none
def zPJ (f : FE) : FE:=fun σ M => match f σ M with
 | some (.dat (.bl k),M1) => some (.dat (.bl (!k)),M1)
 | _ => none
theorem zBf (h : zk H0 L H (.dat (.bl k)) v) : v = .bl k:=by unfold zk Rep at h; exact h
theorem zJr {op} (h : QE X a f) : QE X (.BoolOp op [a] pos) f:=.mk (zS0 h.un)
theorem zHV (h1 : QE X a f) (h2 : QE X (.BoolOp .And (b :: rest) pos) g) : QE X (.BoolOp .And (a :: b :: rest) pos) (zHb f g):=.mk <| PE.imp (zSy h1.un h2.un) fun τ H Q zz => by
 obtain ⟨L,σ,M,d,M',c,rs,hf,q⟩:=zz;unfold zHb at hf;split at hf
 ·rename_i M1 e1;exact ⟨L,σ,M,_,_,c,rs,e1,fun L1 H1 v s1 c1 r1 => ⟨true,zBf r1,zGu ⟨L1,σ,M1,_,_,c1,rs.stp s1,hf,fun L2 H2 w s2 c2 r2 => q L2 H2 w (s1.trans s2) c2 (r2.back s1 c s2.sub)⟩⟩⟩
 ·rename_i M1 e1;cases hf;exact ⟨L,σ,M,_,_,c,rs,e1,fun L1 H1 v s1 c1 r1 => ⟨false,zBf r1,zGq (q L1 H1 _ s1 c1 (by have:=zBf r1; subst this; exact r1))⟩⟩
 ·cases hf
theorem zSq (h : QE X a f) : QE X (.UnaryOp .Not a pos) (zPJ f):=.mk <| PE.imp (zS7 h.un) fun τ H Q zz => by
 obtain ⟨L,σ,M,d,M',c,rs,hf,q⟩:=zz;unfold zPJ at hf;split at hf
 ·rename_i k M1 e1;cases hf;exact ⟨L,σ,M,_,_,c,rs,e1,fun L1 H1 v s1 c1 r1 => ⟨k,zBf r1,q L1 H1 _ s1 c1 (by unfold zk Rep; rfl)⟩⟩
 ·cases hf
def vIf (t : FT) (f g : FE) : FE:=fun σ M => match t σ M with
 | some (true,M1) => f σ M1
 | some (false,M1) => g σ M1
 | none => none
theorem zRO (hc : QT X c t) (h1 : QE X a f) (h2 : QE X b g) : QE X (.IfExp c a b pos) (vIf t f g):=.mk <| PE.imp (zPs hc.un h1.un h2.un) fun τ H Q zz => by
 obtain ⟨L,σ,M,d,M',c,rs,hf,q⟩:=zz;unfold vIf at hf;split at hf
 ·rename_i M1 e1;exact ⟨L,σ,M,_,_,c,rs,e1,fun L1 H1 s1 c1 => zGu ⟨L1,σ,M1,_,_,c1,rs.stp s1,hf,fun L2 H2 w s2 c2 r2 => q L2 H2 w (s1.trans s2) c2 (r2.back s1 c s2.sub)⟩⟩
 ·rename_i M1 e1;exact ⟨L,σ,M,_,_,c,rs,e1,fun L1 H1 s1 c1 => zGq ⟨L1,σ,M1,_,_,c1,rs.stp s1,hf,fun L2 H2 w s2 c2 r2 => q L2 H2 w (s1.trans s2) c2 (r2.back s1 c s2.sub)⟩⟩
 ·cases hf
abbrev KM:=EV -> List D -> Mem -> Option (D × Mem)
def fM (k : KM) (f : FE) (g : FA) : FE:=fun σ M => match f σ M with
 | some (x,M1) => match zBg M1 x with
  | some _ => match g σ M1 with
   | some (ds,M2) => match k x ds M2 with
    | some (d,M3) => some (.dat d,M3)
    | none => none
   | none => none
  | none => none
 | none => none
def zR5 (K : PySem.W.Frag) (r : V -> List V -> Hp -> VK -> Prop) (k : KM) : Prop:=∀ {L : List Addr} {M M' : Mem} {H H0 : Hp} {x : EV} {ds : List D} {d : D} {v : V} {vs : List V} {Q : VK},Cor K L M H -> zk H0 L H x v -> zT L H ds vs -> k x ds M = some (d,M') ->
 (∀ L' H' u,Stp L H L' H' -> Cor K L' M' H' -> Rep L' H' d u -> Q u H') -> r v vs H Q
theorem zLj {K : PySem.W.Frag} {r : V -> List V -> Hp -> VK -> Prop} {k : KM} {f : FE} {g : FA} (hk : zR5 K r k) {τ : Sv} {H : Hp} {Q : VK} (h : trE K (fM k f g) τ H Q) : tBM K "list" r (trE K f) (trA K g) τ H Q:=by
 obtain ⟨L,σ,M,d,M',c,rs,hf,q⟩:=h;unfold fM at hf;split at hf
 ·rename_i x M1 e1;split at hf
  ·rename_i xs e2;split at hf
   ·rename_i ds M2 e3;split at hf
    ·rename_i d' M3 e4;cases hf;refine ⟨L,σ,M,_,_,c,rs,e1,fun L1 H1 v s1 c1 r1 => ?_⟩;obtain ⟨a,vs,rfl,e5,r5⟩:=zBD c1 r1 e2;refine ⟨.inl ⟨rfl,vs,.inl e5⟩,L1,σ,M1,_,_,c1,rs.stp s1,e3,fun L2 H2 ws s2 c2 r2 => ?_⟩;exact hk c2 (r1.stp s2) r2 e4 fun L3 H3 u s3 c3 r3 => q L3 H3 u ((s1.trans s2).trans s3) c3 r3
    ·cases hf
   ·cases hf
  ·cases hf
 ·cases hf
def zAt : KM:=fun x ds M => match x,ds with
 | .dat (.ref n),[d] => match M[n]? with
  | some (.lst xs) => if xs.length < sizeLine then some (.non,M.set n (.lst (xs ++ [d]))) else none
  | _ => none
 | _,_ => none
theorem zT.one (h : zT L H [d] vs) : ∃ v,vs = [v] /\ Rep L H d v:=by
 unfold zT at h;obtain ⟨v,r,rfl,h1,h2⟩:=h;unfold zT at h2;subst h2;exact ⟨v,rfl,h1⟩
theorem zMW {K : PySem.W.Frag} : zR5 K zM9 zAt:=by
 intro L M M' H H0 x ds d v vs Q c rx rd hk q;unfold zAt at hk;split at hk
 ·rename_i n d';split at hk
  ·rename_i xs e1;split at hk
   ·rename_i hz;cases hk;unfold zk Rep at rx;obtain ⟨a,rfl,e2⟩:=rx;obtain ⟨ws,e3,r3⟩:=c.obj n a _ e2 e1;obtain ⟨w,rfl,r4⟩:=rd.one;obtain ⟨c5,s5⟩:=c.write e2 e1 (r3.app (.cons r4 .nil));exact ⟨a,ws,w,rfl,rfl,e3,by rw [r3.length]; exact hz,q L _ _ s5 c5 (by unfold Rep; rfl)⟩
   ·cases hk
  ·cases hk
 ·cases hk
theorem zEU (h : QE X a f) (hg : QA X [e] g) (hbase : attributeBase a "append" X.env (eval a X.env) = eval a X.env:=by rfl)
  (hfew : ((backTo cpos (starEach [e] X.env)).all (fun x => !x.1) && (backToKw cpos (keywordEach [] X.env)).all (fun x => x.1.isSome) && decide ([e].length + ([] : List Keyword).length + (if ([] : List Keyword).isEmpty then 0 else 1) < 30)) = true:=by rfl)
  (hline : (apos.endLine == cpos.line) = true:=by rfl) (hs : starEach [e] X.env = (false,eval e X.env) :: starEach [] X.env:=by rfl) (hplain : (backTo cpos (starEach [] X.env)).any (·.1) = false:=by rfl) :
  QE X (.Call (.Attribute a "append" apos) [e] [] cpos) (fM zAt f g) :=
 .mk <| PE.imp (zPZ PySem.F.plainAttrs_list PySem.F.slot_list_append PySem.F.type_list_append zNv h.un hg.un hbase hfew hline hs hplain) fun _ _ _ z => zLj zMW z
def zLB : KM:=fun x ds M => match x,ds with
 | .dat (.ref n),[.int i] => match M[n]? with
  | some (.lst xs) => match ixN xs.length i with
   | some k => match xs[k]? with
    | some d => if -(2 ^ 63) <= i /\ i < 2 ^ 63 then some (d,M.set n (.lst (xs.eraseIdx k))) else none
    | none => none
   | none => none
  | _ => none
 | _,_ => none
theorem zRw {K : PySem.W.Frag} : zR5 K zOf zLB:=by
 intro L M M' H H0 x ds d v vs Q c rx rd hk q;unfold zLB at hk;split at hk
 ·rename_i n i;split at hk
  ·rename_i xs e1;split at hk
   ·rename_i k e2;split at hk
    ·rename_i d' e3;split at hk
     ·rename_i hb;cases hk;unfold zk Rep at rx;obtain ⟨a,rfl,e4⟩:=rx;obtain ⟨ws,e5,r5⟩:=c.obj n a _ e4 e1;obtain ⟨u,e6,r6⟩:=r5.get e3;obtain ⟨c5,s5⟩:=c.write e4 e1 (r5.eraseIdx k);exact ⟨a,ws,i,k,u,rfl,zJF rd,e5,hb.1,hb.2,by rw [r5.length]; exact (zJ0 e2).1,e6,q L _ _ s5 c5 (r6.stp s5)⟩
     ·cases hk
    ·cases hk
   ·cases hk
  ·cases hk
 ·cases hk
theorem zUF (h : QE X a f) (hg : QA X [e] g) (hbase : attributeBase a "pop" X.env (eval a X.env) = eval a X.env:=by rfl)
  (hfew : ((backTo cpos (starEach [e] X.env)).all (fun x => !x.1) && (backToKw cpos (keywordEach [] X.env)).all (fun x => x.1.isSome) && decide ([e].length + ([] : List Keyword).length + (if ([] : List Keyword).isEmpty then 0 else 1) < 30)) = true:=by rfl)
  (hline : (apos.endLine == cpos.line) = true:=by rfl) (hs : starEach [e] X.env = (false,eval e X.env) :: starEach [] X.env:=by rfl) (hplain : (backTo cpos (starEach [] X.env)).any (·.1) = false:=by rfl) :
  QE X (.Call (.Attribute a "pop" apos) [e] [] cpos) (fM zLB f g) :=
 .mk <| PE.imp (zPZ PySem.F.plainAttrs_list PySem.F.slot_list_pop PySem.F.type_list_pop zQC h.un hg.un hbase hfew hline hs hplain) fun _ _ _ z => zLj zRw z
def zLE (x : EV) (i : D) (d : D) (M : Mem) : Option Mem:=match x,i with
 | .dat (.ref n),.int i => match M[n]? with
  | some (.lst xs) => match ixN xs.length i with
   | some j => some (M.set n (.lst (xs.set j d)))
   | none => none
  | _ => none
 | _,_ => none
def zL7 (fv fo fi : FE) : FS:=fun σ M => match toD fv σ M with
 | some (d,M1) => match fo σ M1 with
  | some (x,M2) => match toD fi σ M2 with
   | some (i,M3) => match zLE x i d M3 with
    | some M4 => some (.nx,σ,M4)
    | none => none
   | none => none
  | none => none
 | none => none
theorem zHQ (hv : QE X v fv) (ho : QE X o fo) (hi : QE X i fi)
  (ha : ∀ v,assign (.Subscript o i p) X.env v = (do
   let ov <- holding [v] (eval o X.env);let iv <- holding [v,ov] (eval i X.env);standAt p;holding [v,ov,iv] (setItem ov iv v);release [v,ov,iv] []):=by intro _; rfl)
  (hs : swapsWithSole [.Subscript o i p] v pos.line X.env = pure false:=by rfl) (hw : swappedStores [.Subscript o i p] v X.env = pure none:=by rfl) (h1 : (assignEach [.Subscript o i p] X.env).map (·.2) = [assign (.Subscript o i p) X.env]:=by rfl) :
  QS X (.Assign [.Subscript o i p] v pos) (zL7 fv fo fi):=.mk <| PS.imp (zP8 (zI hv).un (zTC ho.un (zI hi).un zPk ha) hs hw h1) fun E τ H zz => by
 obtain ⟨L,σ,M,out,σ',M',c,rs,hf,q⟩:=zz;unfold zL7 at hf;split at hf
 ·rename_i d M1 e1;split at hf
  ·rename_i x M2 e2;split at hf
   ·rename_i j M3 e3;split at hf
    ·rename_i M4 e4;cases hf;refine ⟨L,σ,M,_,_,c,rs,e1,fun L1 H1 u s1 c1 r1 => ⟨L1,σ,M1,_,_,c1,rs.stp s1,e2,fun L2 H2 w s2 c2 r2 => ⟨L2,σ,M2,_,_,c2,rs.stp (s1.trans s2),e3,fun L3 H3 z s3 c3 r3 => ?_⟩⟩⟩;have st:=(s1.trans s2).trans s3;unfold zLE at e4;split at e4
     ·rename_i n k;split at e4
      ·rename_i xs e5;split at e4
       ·rename_i m e6;cases e4;have r2':=r2.stp s3;unfold zk Rep at r2';obtain ⟨a,rfl,e7⟩:=r2';obtain ⟨ws,e8,r8⟩:=c3.obj n a _ e7 e5;obtain ⟨c9,s9⟩:=c3.write e7 e5 (zT.set ((r1.stp s2).stp s3) m r8);exact ⟨a,ws,k,m,rfl,by unfold Rep at r3; exact r3,e8,by rw [r8.length]; exact e6,q L3 _ (st.trans s9) c9 τ ((rs.stp st).stp s9)⟩
       ·cases e4
      ·cases e4
     ·cases e4
    ·cases hf
   ·cases hf
  ·cases hf
 ·cases hf
def zIr : D -> Option V
 | .non => some .non
 | .bl k => some (.bl k)
 | .int i => some (.int i)
 | .str x => some (.str x)
 | _ => none
theorem zFq (h : Rep L H d v) (e : zIr d = some u) : v = u:=by
 cases d with
 | non => cases e; unfold Rep at h; exact h
 | bl _ => cases e; unfold Rep at h; exact h
 | int _ => cases e; unfold Rep at h; exact h
 | str _ => cases e; unfold Rep at h; exact h
 | tup _ => cases e
 | ref _ => cases e
def zMX (neg : Bool) : K2:=fun x y M => match x,y with
 | .dat d,.dat d' => match zIr d,zIr d' with
  | some u,some w => if zRQ u w then some (.dat (.bl (if neg then !decide (u = w) else decide (u = w))),M) else none
  | _,_ => none
 | _,_ => none
theorem zIu (h : zMX neg x y M = some (r,M')) : ∃ d d' u w,x = .dat d /\ y = .dat d' /\ zIr d = some u /\ zIr d' = some w /\ zRQ u w = true /\ r = .dat (.bl (if neg then !decide (u = w) else decide (u = w))) /\ M' = M:=by
 unfold zMX at h;split at h
 ·rename_i d d';split at h
  ·rename_i u w e1 e2;split at h
   ·rename_i hs;cases h;exact ⟨d,d',u,w,rfl,rfl,e1,e2,hs,rfl,rfl⟩
   ·cases h
  ·cases h
 ·cases h
theorem zNP {K : PySem.W.Frag} : zCt K rEq (zMX false):=by
 intro L M M' H H0 x y d v w Q c rx ry hk q;obtain ⟨d1,d2,u,z,rfl,rfl,e1,e2,hs,rfl,rfl⟩:=zIu hk;have a1:=zFq rx e1;have a2:=zFq ry e2;subst a1 a2;exact ⟨hs,q L H _ (.refl L H) c (zBs (L:=L) (H:=H))⟩
theorem zRA {K : PySem.W.Frag} : zCt K rNe (zMX true):=by
 intro L M M' H H0 x y d v w Q c rx ry hk q;obtain ⟨d1,d2,u,z,rfl,rfl,e1,e2,hs,rfl,rfl⟩:=zIu hk;have a1:=zFq rx e1;have a2:=zFq ry e2;subst a1 a2;exact ⟨hs,q L H _ (.refl L H) c (zBs (L:=L) (H:=H))⟩
def zTA (neg : Bool) (K : PySem.W.Frag) : R2:=fun x y H Q => ∃ p q xs,x = .ref p /\ y = .ref q /\ SqL K H p xs /\ SqL K H q [] /\ Q (.bl (if neg then !xs.isEmpty else xs.isEmpty)) H
theorem zKO (r : zo [] its) : its = []:=by cases r; rfl
theorem zLc (hu : X.A.units < cLine) : OpR X (compareOp .Eq) (zTA false X.K):=by
 intro zB s σ H x y v u Q I rx ry h;obtain ⟨p,q,xs,rfl,rfl,h1,h2,hq⟩:=h;cases rx;cases ry;obtain ⟨its,rv,pl,_⟩:=I.list h1;obtain ⟨its2,rv2,pl2,_⟩:=I.list h2;cases zKO rv2;cases rv with
 | nil => exact SeqAt.eq_listAt (e:=fun _ => true) pl.isList pl2.isList rfl hu (fun j h1 => by simp at h1) ⟨.bl true,H,I,rfl,hq⟩
 | cons _ _ => exact SeqAt.eq_list_lengthsAt pl.isList pl2.isList (by simp) hu ⟨.bl false,H,I,rfl,hq⟩
theorem zPu (hu : X.A.units < cLine) : OpR X (compareOp .NotEq) (zTA true X.K):=by
 intro zB s σ H x y v u Q I rx ry h;obtain ⟨p,q,xs,rfl,rfl,h1,h2,hq⟩:=h;cases rx;cases ry;obtain ⟨its,rv,pl,_⟩:=I.list h1;obtain ⟨its2,rv2,pl2,_⟩:=I.list h2;cases zKO rv2;cases rv with
 | nil => exact SeqAt.RcNeAt.lists (e:=fun _ => true) pl.isList pl2.isList rfl hu (fun j h1 => by simp at h1) _ _ _ _ ⟨.bl false,H,I,rfl,hq⟩
 | cons _ _ => exact SeqAt.RcNeAt.lists_lengths pl.isList pl2.isList (by simp) hu _ _ _ _ ⟨.bl true,H,I,rfl,hq⟩
def zPh (neg : Bool) : K2:=fun x y M => match zBg M x,zBg M y with
 | some xs,some [] => some (.dat (.bl (if neg then !xs.isEmpty else xs.isEmpty)),M)
 | _,_ => none
theorem zJi {K : PySem.W.Frag} {neg : Bool} : zCt K (zTA neg K) (zPh neg):=by
 intro L M M' H H0 x y d v w Q c rx ry hk q;unfold zPh at hk;split at hk
 ·rename_i xs e1 e2;cases hk;obtain ⟨p1,vs,rfl,h1,r1⟩:=zBD c rx e1;obtain ⟨p2,ws,rfl,h2,r2⟩:=zBD c ry e2;unfold zT at r2;subst r2;refine ⟨p1,p2,vs,rfl,rfl,.inl h1,.inl h2,q L H _ (.refl L H) c ?_⟩;have : vs.isEmpty = xs.isEmpty:=by
   have:=r1.length;cases vs <;> cases xs <;> simp_all
  rw [this];exact (zBs (L:=L) (H:=H))
 ·cases hk
def kOr (k1 k2 : K2) : K2:=fun x y M => match k1 x y M with
 | some r => some r
 | none => k2 x y M
theorem zJv {K : PySem.W.Frag} {r1 r2 : R2} {k1 k2 : K2} (h1 : zCt K r1 k1) (h2 : zCt K r2 k2) : zCt K (fun x y H Q => r1 x y H Q \/ r2 x y H Q) (kOr k1 k2):=by
 intro L M M' H H0 x y d v w Q c rx ry hk q;unfold kOr at hk;split at hk
 ·rename_i r e1;cases hk;exact .inl (h1 c rx ry e1 q)
 ·exact .inr (h2 c rx ry hk q)
abbrev kEq : K2:=kOr (zMX false) (zPh false)
abbrev kNe : K2:=kOr (zMX true) (zPh true)
variable {f g : FE}
theorem zRg (hu : X.A.units < cLine) (h1 : QE X a f) (h2 : QE X b g) : QE X (.Compare a [.Eq] [b] pos) (fOp kEq f g):=zSZ (zJv zNP zJi) (zSb.or (zLc hu)) h1 h2 (zEf _)
theorem zDG (hu : X.A.units < cLine) (h1 : QE X a f) (h2 : QE X b g) : QT X (.Compare a [.Eq] [b] pos) (tst (fOp kEq f g)):=zGQ (zJv zNP zJi) (zSb.or (zLc hu)) h1 h2 (zEf _)
theorem zJK (hu : X.A.units < cLine) (h1 : QE X a f) (h2 : QE X b g) : QT X (.Compare a [.NotEq] [b] pos) (tst (fOp kNe f g)):=zGQ (zJv zRA zJi) (zUp.or (zPu hu)) h1 h2 (zEf _)
def zNg : KB:=fun xs M => match xs with
 | [.dat (.int i)] => some (.dat (.int (if i < 0 then -i else i)),M)
 | _ => none
theorem zQ6 {K : PySem.W.Frag} : zHw K (fun xs H Q => ∃ i,xs = [.int i] /\ Q (.int (if i < 0 then -i else i)) H) zNg:=by
 intro L M M' H H0 xs d vs Q c r hk q;unfold zNg at hk;split at hk
 ·rename_i i;cases hk;obtain ⟨v,rfl,r1⟩:=r.one;have : v = .int i:=by unfold zk Rep at r1; exact r1
  subst this;exact ⟨i,rfl,q L H _ (.refl L H) c (zAj (L:=L) (H:=H))⟩
 ·cases hk
def zLx : KB:=fun xs M => match xs with
 | [.dat (.int i)] => some (.dat (.int i),M)
 | [.dat (.bl k)] => some (.dat (.int (if k then 1 else 0)),M)
 | _ => none
theorem zQ9 {K : PySem.W.Frag} : zHw K (fun xs H Q => (∃ i,xs = [.int i] /\ Q (.int i) H) \/ ∃ k,xs = [.bl k] /\ Q (.int (if k then 1 else 0)) H) zLx:=by
 intro L M M' H H0 xs d vs Q c r hk q;unfold zLx at hk;split at hk
 ·rename_i i;cases hk;obtain ⟨v,rfl,r1⟩:=r.one;have : v = .int i:=by unfold zk Rep at r1; exact r1
  subst this;exact .inl ⟨i,rfl,q L H _ (.refl L H) c (zAj (L:=L) (H:=H))⟩
 ·rename_i k;cases hk;obtain ⟨v,rfl,r1⟩:=r.one;have:=zBf r1;subst this;exact .inr ⟨k,rfl,q L H _ (.refl L H) c (zAj (L:=L) (H:=H))⟩
 ·cases hk
end
section
variable {X : Cx} {a b c e : Expr} {es rest : List Expr} {pos p apos cpos : Pos}
theorem zPC {prog : Program} {w : World} {A : Around} {E : Value -> Shared -> Prop} {s : Shared} {t b : Addr} {ws : List Value} {Q : Value -> Shared -> Prop} (ht : IsTup s.heap t #[]) (hb : IsTup s.heap b ws.toArray) (h1 : Q (.ref b) s) :
  wpAny (model prog w) A (binaryOp .Add (.ref t) (.ref b)) Q E s:=by
 obtain ⟨⟨cls,dd,data,sl⟩,ho,hc,n,hd⟩:=id ht;obtain ⟨⟨cls2,dd2,data2,sl2⟩,ho2,hc2,n2,hd2⟩:=id hb;simp only at hc hd hc2 hd2;subst hc hd hc2 hd2
 exact concat_meets ⟨_,ho,rfl⟩ ⟨_,ho2,rfl⟩ noFill_tuple_add seq_tuple_add PySem.F.slot_tuple_add PySem.F.entry_tuple_add (PySem.F.args_tuple_add_2 _ _)
   (tuple_addW0 t b #[] ws.toArray n n2 dd dd2 sl sl2 (by simp)) ⟨ho,ho2,h1⟩
def zOy (K : PySem.W.Frag) : R2:=fun x y H Q => ∃ a b ys,x = .ref a /\ y = .ref b /\ SqT K H a [] /\ SqT K H b ys /\ Q (.ref b) H
theorem zPo : OpR X (binaryOp .Add) (zOy X.K):=by
 intro zB s σ H x y v u Q I rx ry h;obtain ⟨a,b,ys,rfl,rfl,ha,hb,q⟩:=h;cases rx;cases ry;obtain ⟨its,r1,p1,_⟩:=I.tuple ha;obtain ⟨its2,r2,p2,_⟩:=I.tuple hb;cases zKO r1;exact zPC p1 p2 ⟨.ref b,H,I,rfl,q⟩
def zKw : K2:=fun x y M => match zDJ x,zDJ y with
 | some xs,some ys => if xs.length + ys.length <= sizeLine then some (.dat (.tup (xs ++ ys)),M) else none
 | _,_ => none
theorem zOo {K : PySem.W.Frag} : zCt K (fun x y H Q => zSS K x y H Q \/ zOy K x y H Q) zKw:=by
 intro L M M' H H0 x y d v w Q c rx ry hk q;unfold zKw at hk;split at hk
 ·rename_i xs ys e1 e2;split at hk
  ·rename_i hz;cases hk;obtain ⟨p1,vs,rfl,h1,r1⟩:=zCE rx e1;obtain ⟨p2,ws,rfl,h2,r2⟩:=zCE ry e2;cases xs with
   | nil =>
    refine .inr ⟨p1,p2,ws,rfl,rfl,.of (by unfold zT at r1; subst r1; exact h1),.of h2,q L H _ (.refl L H) c ?_⟩;unfold zk Rep;exact ⟨p2,ws,rfl,h2,r2⟩
   | cons x0 xr =>
    have hv : vs ≠ []:=fun z => by have:=r1.length; rw [z] at this; simp at this
    refine .inl ⟨p1,p2,vs,ws,rfl,rfl,.of h1,.of h2,hv,by rw [r1.length,r2.length]; exact hz,fun z => ?_,fun z pp hp => ?_⟩
    ·have : ys = []:=by
      have:=r2.length; rw [z] at this;cases ys with
      | nil => rfl
      | cons _ _ => simp at this
     subst this;refine q L H _ (.refl L H) c ?_;unfold zk Rep;rw [zV7];exact ⟨p1,vs,rfl,h1,r1⟩
    ·exact q L _ _ (.upd hp) (c.upd hp) (Rep.newTup hp (r1.app r2))
  ·cases hk
 ·cases hk
abbrev zAe : K2:=kOr zU7 zKw
variable {f g : FE}
theorem zBO (h1 : QE X a f) (h2 : QE X b g) : QE X (.BinOp a .Add b pos) (fOp zAe f g):=zL3 (zJv (zEX fun _ _ _ _ => zAj) zOo) (zSd.or (zR3.or zPo)) h1 h2
structure Kinds (K : PySem.W.Frag) : Prop where
 k : ∀ t T,t ∈ ["NoneType", "bool", "int", "str", "list", "tuple", "dict"] -> T ∈ ["int", "bool", "str", "tuple"] -> PySem.W.kitOne K (.type t) (.type T) = some (decide (t = T) || (decide (t = "bool") && decide (T = "int")))
def zMU (M : Mem) : EV -> Option String
 | .dat .non => some "NoneType"
 | .dat (.bl _) => some "bool"
 | .dat (.int _) => some "int"
 | .dat (.str _) => some "str"
 | .dat (.tup _) => some "tuple"
 | .fl _ => some "list"
 | .dat (.ref n) => match M[n]? with
  | some (.lst _) => some "list"
  | some (.fro _) => some "list"
  | some (.dict _) => some "dict"
  | some (.dicT _) => some "dict"
  | _ => none
theorem zTL {K : PySem.W.Frag} {L : List Addr} {M : Mem} {H H0 : Hp} {x : EV} {v : V} {t : String} (c : Cor K L M H) (r : zk H0 L H x v) (h : zMU M x = some t) : TyOf K H v (.type t) /\ t ∈ ["NoneType", "bool", "int", "str", "list", "tuple", "dict"]:=by
 unfold zMU at h;split at h
 ·cases h; unfold zk Rep at r; subst r; exact ⟨.non,by simp⟩
 ·cases h; unfold zk Rep at r; subst r; exact ⟨.bl _,by simp⟩
 ·cases h; unfold zk Rep at r; subst r; exact ⟨.int _,by simp⟩
 ·cases h; unfold zk Rep at r; subst r; exact ⟨.str _,by simp⟩
 ·cases h; unfold zk Rep at r; obtain ⟨a,vs,rfl,e,_⟩:=r; exact ⟨.tup e,by simp⟩
 ·cases h;obtain ⟨p,vs,rfl,_,e,_⟩:=r;exact ⟨.lst e,by simp⟩
 ·unfold zk Rep at r;obtain ⟨a,rfl,e⟩:=r;split at h
  ·rename_i e1; cases h; obtain ⟨vs,q,_⟩:=c.obj _ a _ e e1; exact ⟨.lst q,by simp⟩
  ·rename_i e1; cases h; obtain ⟨o,vs,q,_⟩:=c.obj _ a _ e e1; exact ⟨.frz q,by simp⟩
  ·rename_i e1; cases h; obtain ⟨vs,q,_⟩:=c.obj _ a _ e e1; exact ⟨.dK q,by simp⟩
  ·rename_i e1; cases h; obtain ⟨vs,q,_⟩:=c.obj _ a _ e e1; exact ⟨.dT q,by simp⟩
  ·cases h
def isT (t T : String) : Bool:=decide (t = T) || (decide (t = "bool") && decide (T = "int"))
def zJq (T : String) (f : FE) : FE:=fun σ M => match f σ M with
 | some (x,M1) => match zMU M1 x with
  | some t => some (.dat (.bl (isT t T)),M1)
  | none => none
 | none => none
def zT6 (K : PySem.W.Frag) (T : String) : List V -> Hp -> VK -> Prop:=fun xs H Q => ∃ x t b,xs = [x,.ty T] /\ TyOf K H x t /\ PySem.W.kitOne K t (.type T) = some b /\ Q (.bl b) H
theorem zOz : zCr X (.builtin "isinstance") (zT6 X.K T):=by
 intro zB s σ H xs us Q I r h;obtain ⟨x,t,b,rfl,ty,e,q⟩:=h;cases r with
 | cons r1 r2 =>
  cases r2 with
  | cons r3 r4 =>
   cases r4;cases r3;exact zNp I r1 ty e fun tk => ⟨.bl b,H,I.tok _,rfl,q⟩
theorem zNF (hK : Kinds X.K) (hT : T ∈ ["int", "bool", "str", "tuple"]) (hg : Gl X "isinstance") (hm : X.mg "isinstance" = none) (hg2 : Gl X y) (hm2 : X.mg y = none) (hv2 : bootBuiltins y = some (.type T)) (hn2 : y ≠ "__name__") (hd2 : (y == ("__debug__" : Str)) = false) (h : QE X e f)
  (he : starEach (e :: [.Name y p2]) X.env = (false,eval e X.env) :: starEach [.Name y p2] X.env:=by rfl) (he2 : starEach [.Name y p2] X.env = (false,eval (.Name y p2) X.env) :: starEach [] X.env:=by rfl) (hpl : (backTo pos (starEach [.Name y p2] X.env)).any (·.1) = false:=by rfl) :
  QE X (.Call (.Name "isinstance" p1) [e,.Name y p2] [] pos) (zJq T f) :=
 .mk <| PE.imp (zLV (r:=zT6 X.K T) zOz hg hm (by rfl) (zEo h.un (zEo (zRI (v:=.ty T) hg2 hm2 hv2 rfl hn2 hd2) zHG he2) he) (by decide) (by decide) he hpl) fun τ H Q zz => by
  obtain ⟨L,σ,M,d,M',c,rs,hf,q⟩:=zz;unfold zJq at hf;split at hf
  ·rename_i x M1 e1;split at hf
   ·rename_i t e2;cases hf;refine ⟨L,σ,M,_,_,c,rs,e1,fun L1 H1 v s1 c1 r1 => ?_⟩;obtain ⟨ty,ht⟩:=zTL c1 r1 e2;exact ⟨v,_,_,rfl,ty,hK.k t T ht hT,q L1 H1 _ s1 c1 (zBs (L:=L1) (H:=H1))⟩
   ·cases hf
  ·cases hf
theorem zT.two (h : zT L H [d,d'] vs) : ∃ v v',vs = [v,v'] /\ Rep L H d v /\ Rep L H d' v':=by
 unfold zT at h;obtain ⟨v,r,rfl,h1,h2⟩:=h;obtain ⟨v',rfl,h3⟩:=h2.one;exact ⟨v,v',rfl,h1,h3⟩
section
variable {fa : FAE}
theorem zBd (hg : Gl X "len") (hm : X.mg "len" = none) (ha : QAE X [e] fa) (he : starEach [e] X.env = (false,eval e X.env) :: starEach [] X.env:=by rfl) (hpl : (backTo pos (starEach [] X.env)).any (·.1) = false:=by rfl) : QE X (.Call (.Name "len" p) [e] [] pos) (fB zBB fa) :=
 zF0 zR0 zKI PySem.boot_len hg hm ha (by decide) (by decide) he hpl
theorem zDF (hg : Gl X "tuple") (hm : X.mg "tuple" = none) (ha : QAE X [e] fa) (he : starEach [e] X.env = (false,eval e X.env) :: starEach [] X.env:=by rfl) (hpl : (backTo pos (starEach [] X.env)).any (·.1) = false:=by rfl) : QE X (.Call (.Name "tuple" p) [e] [] pos) (fB zBZ fa) :=
 zIC zN1 zIf (by rfl) hg hm ha (by decide) (by decide) he hpl
theorem zSJ (hg : Gl X "abs") (hm : X.mg "abs" = none) (ha : QAE X [e] fa) (he : starEach [e] X.env = (false,eval e X.env) :: starEach [] X.env:=by rfl) (hpl : (backTo pos (starEach [] X.env)).any (·.1) = false:=by rfl) : QE X (.Call (.Name "abs" p) [e] [] pos) (fB zNg fa) :=
 zF0 zQ6 zQR (by rfl) hg hm ha (by decide) (by decide) he hpl
theorem zQT (hg : Gl X "int") (hm : X.mg "int" = none) (ha : QAE X [e] fa) (he : starEach [e] X.env = (false,eval e X.env) :: starEach [] X.env:=by rfl) (hpl : (backTo pos (starEach [] X.env)).any (·.1) = false:=by rfl) : QE X (.Call (.Name "int" p) [e] [] pos) (fB zLx fa) :=
 zIC zQ9 zOC (by rfl) hg hm ha (by decide) (by decide) he hpl
end
end
def zKe (sc scope : Scope) : Bool:=scope.names.all fun y =>
 (y.2 != .local || scope.names.lookup y.1 == some .local) && (y.2 != .cell || scope.names.lookup y.1 == some .cell) && (y.2 != .free || (sc.names.lookup y.1 == some .cell || sc.names.lookup y.1 == some .free))
def zMo (N : List Str) (scope : Scope) (own : List Nat) : Bool:=(List.range N.length).all fun i => match N[i]? with
 | some x => decide (i ∈ own) || (scope.names.lookup x == none) || (scope.names.lookup x == some .free)
 | none => true
theorem zi (hk : scope.kind = .function) (hs : X.env.scope = sc) (hN : X.N = N) (h1 : zKe sc scope = true) (h2 : zMo N scope own = true) : CompIn X scope own:=by
 unfold zKe at h1;rw [zVy] at h1;refine ⟨⟨hk,fun y hy e => ?_,fun y hy e => ?_,fun y hy e => ?_⟩,fun i x e => ?_⟩
 ·have:=h1 y hy;simp [e] at this;exact this
 ·have:=h1 y hy;simp [e] at this;exact this
 ·have:=h1 y hy;simp [e] at this;show X.env.scope.names.lookup y.1 = _ \/ X.env.scope.names.lookup y.1 = _;rw [hs];exact this
 ·unfold zMo at h2;rw [zVy] at h2;rw [hN] at e;have hi : i < N.length:=(zVQ.mp e).1;have:=h2 i (by simpa using hi);rw [e] at this;simp only [Bool.or_eq_true,zWa,beq_iff_eq,or_assoc] at this;exact this
def zJj (K : PySem.W.Frag) : Bool:=K.all fun p => match p.2.cls with
 | .type n => n != "list"
 | _ => true
theorem zK1 : ∀ {K : PySem.W.Frag},K.lookup a = some o -> (a,o) ∈ K
 | [],h => by cases h
 | (b,u) :: r,h => by
  have h' : List.lookup a ((b,u) :: r) = some o:=h;rw [zXS] at h';cases q : a == b with
  | true => rw [q] at h'; cases h'; rw [beq_iff_eq.mp q]; exact zVb
  | false => rw [q] at h'; exact zVa _ (zK1 h')
theorem zNb {K : PySem.W.Frag} (h : zJj K = true) {o : Obj} (e : K.lookup a = some o) (hc : o.cls = .type "list") : False:=by
 unfold zJj at h;rw [zVy] at h;have:=h (a,o) (zK1 e);simp [hc] at this
theorem zJU : ∀ (ns : List Int),zT L H (ns.map D.int) (ns.map V.int)
 | [] => .nil
 | n :: r => .cons (by unfold Rep; rfl) (zJU r)
theorem zN3 {K : PySem.W.Frag} {m : FF} {H : Hp} {a : Addr} {ns : List Int} {E : XK} (hL : zJj K = true) (hO : zRc H) (hS : SqL K H a (ns.map V.int)) (h : ∃ M',m [.ref 0] [.fro (ns.map D.int)] = some (.bl true,M')) :
  spF K 1 m [.ref a] H (fun v _ => v = .bl true) E:=by
 obtain ⟨M',e⟩:=h;have hf : ∃ o,H a = some (.frz o (.lst (ns.map V.int))):=by
  rcases hS with (h1 | h1) | ⟨o,its,n,h1,h2,_⟩
  ·rcases hO a with z | ⟨o,xs,z⟩
   ·rw [h1] at z; cases z
   ·rw [h1] at z; cases z
  ·exact h1
  ·exact (zNb hL h1 h2).elim
 obtain ⟨o,hf⟩:=hf;refine ⟨[a],[.ref 0],[.fro (ns.map D.int)],_,_,⟨rfl,by simp,fun n b m e1 e2 => ?_⟩,.cons ?_ .nil,rfl,e,fun L' H' v s c r => ?_⟩
 ·cases n with
  | zero => simp at e1 e2; subst e1; subst e2; exact ⟨o,_,hf,zJU ns⟩
  | succ n => simp at e1
 ·unfold Rep; exact ⟨a,rfl,rfl⟩
 ·unfold Rep at r; exact r
def Ok {α : Type} (x : Option (α × Mem)) (P : α -> Mem -> Prop) : Prop:=∃ a M,x = some (a,M) /\ P a M
def OkS (x : Option (Out × Sd × Mem)) (P : Out -> Sd -> Mem -> Prop) : Prop:=∃ o σ M,x = some (o,σ,M) /\ P o σ M
theorem Ok.mono {α : Type} {x : Option (α × Mem)} {P Q : α -> Mem -> Prop} (h : Ok x P) (hq : ∀ a M,P a M -> Q a M) : Ok x Q:=let ⟨a,M,e,p⟩:=h; ⟨a,M,e,hq a M p⟩
theorem OkS.mono {x : Option (Out × Sd × Mem)} {P Q : Out -> Sd -> Mem -> Prop} (h : OkS x P) (hq : ∀ o σ M,P o σ M -> Q o σ M) : OkS x Q:=let ⟨a,σ,M,e,p⟩:=h; ⟨a,σ,M,e,hq a σ M p⟩
theorem zAE {α : Type} {a : α} {M : Mem} {P : α -> Mem -> Prop} : Ok (some (a,M)) P ↔ P a M:=⟨fun ⟨_,_,e,p⟩ => by cases e; exact p,fun p => ⟨a,M,rfl,p⟩⟩
theorem zF1 {α : Type} {P : α -> Mem -> Prop} : Ok (none : Option (α × Mem)) P ↔ False:=⟨(fun ⟨_,_,e,_⟩ => (nomatch e)),fun h => h.elim⟩
theorem zPQ {o : Out} {σ : Sd} {M : Mem} {P : Out -> Sd -> Mem -> Prop} : OkS (some (o,σ,M)) P ↔ P o σ M:=⟨fun ⟨_,_,_,e,p⟩ => by cases e; exact p,fun p => ⟨o,σ,M,rfl,p⟩⟩
section
variable {σ : Sd} {M : Mem} {f g : FE} {P : EV -> Mem -> Prop}
theorem zAM {i : Nat} : Ok (zD i σ M) P ↔ ∃ d,σ[i]? = some (some d) /\ P (.dat d) M:=by
 unfold zD;constructor
 ·rintro ⟨a,M1,e,p⟩;split at e
  ·rename_i d e1; cases e; exact ⟨d,e1,p⟩
  ·cases e
 ·rintro ⟨d,e1,p⟩;rw [e1]; exact ⟨_,_,rfl,p⟩
theorem zCz {d : D} : Ok (fC d σ M) P ↔ P (.dat d) M:=zAE
theorem zAg {k : K2} : Ok (fOp k f g σ M) P ↔ Ok (f σ M) fun x M1 => Ok (g σ M1) fun y M2 => Ok (k x y M2) P:=by
 unfold fOp;constructor
 ·rintro ⟨a,M1,e,p⟩;split at e
  ·rename_i x M2 e1;split at e
   ·rename_i y M3 e2;exact ⟨x,M2,e1,y,M3,e2,a,M1,e,p⟩
   ·cases e
  ·cases e
 ·rintro ⟨x,M2,e1,y,M3,e2,a,M1,e,p⟩;rw [e1]; dsimp only; rw [e2]; exact ⟨a,M1,e,p⟩
def zIK (P : D -> Mem -> Prop) : EV -> Mem -> Prop
 | .dat d,M => P d M
 | .fl xs,M => P (.ref M.length) (M ++ [.lst xs])
theorem zAy {P : D -> Mem -> Prop} : Ok (toD f σ M) P ↔ Ok (f σ M) (zIK P):=by
 unfold toD;constructor
 ·rintro ⟨a,M1,e,p⟩;split at e
  ·rename_i d M2 e1; cases e; exact ⟨_,_,e1,p⟩
  ·rename_i xs M2 e1; cases e; exact ⟨_,_,e1,p⟩
  ·cases e
 ·rintro ⟨x,M2,e1,p⟩;rw [e1];cases x with
  | dat d => exact ⟨d,M2,rfl,p⟩
  | fl xs => exact ⟨_,_,rfl,p⟩
theorem zV {P : D -> Mem -> Prop} {d : D} {M : Mem} : zIK P (.dat d) M ↔ P d M:=Iff.rfl
theorem zFr {P : D -> Mem -> Prop} {xs : List D} {M : Mem} : zIK P (.fl xs) M ↔ P (.ref M.length) (M ++ [.lst xs]):=Iff.rfl
section
variable {P : List D -> Mem -> Prop}
theorem zCP : Ok (zS σ M) P ↔ P [] M:=zAE
theorem zAw {f : FD} {g : FA} : Ok (zH f g σ M) P ↔ Ok (f σ M) fun d M1 => Ok (g σ M1) fun ds M2 => P (d :: ds) M2:=by
 unfold zH;constructor
 ·rintro ⟨a,M1,e,p⟩;split at e
  ·rename_i x M2 e1;split at e
   ·rename_i y M3 e2;cases e;exact ⟨x,M2,e1,y,_,e2,p⟩
   ·cases e
  ·cases e
 ·rintro ⟨x,M2,e1,y,M3,e2,p⟩;rw [e1]; dsimp only; rw [e2]; exact ⟨_,_,rfl,p⟩
end
section
variable {P : List EV -> Mem -> Prop}
theorem zG4 : Ok (zx σ M) P ↔ P [] M:=zAE
theorem zFz {f : FE} {g : FAE} : Ok (zc f g σ M) P ↔ Ok (f σ M) fun d M1 => Ok (g σ M1) fun ds M2 => P (d :: ds) M2:=by
 unfold zc;constructor
 ·rintro ⟨a,M1,e,p⟩;split at e
  ·rename_i x M2 e1;split at e
   ·rename_i y M3 e2;cases e;exact ⟨x,M2,e1,y,_,e2,p⟩
   ·cases e
  ·cases e
 ·rintro ⟨x,M2,e1,y,M3,e2,p⟩;rw [e1]; dsimp only; rw [e2]; exact ⟨_,_,rfl,p⟩
end
theorem zJt {a : FA} : Ok (zBS a σ M) P ↔ Ok (a σ M) fun ds M1 => ds.length <= sizeLine /\ P (.fl ds) M1:=by
 unfold zBS;constructor
 ·rintro ⟨x,M1,e,p⟩;split at e
  ·rename_i ds M2 e1;split at e
   ·rename_i hz; cases e; exact ⟨ds,_,e1,hz,p⟩
   ·cases e
  ·cases e
 ·rintro ⟨ds,M1,e1,hz,p⟩;rw [e1]; dsimp only; rw [zVc hz]; exact ⟨_,_,rfl,p⟩
theorem zRU {k : KB} {a : FAE} : Ok (fB k a σ M) P ↔ Ok (a σ M) fun xs M1 => Ok (k xs M1) P:=by
 unfold fB;constructor
 ·rintro ⟨x,M1,e,p⟩;split at e
  ·rename_i ds M2 e1; exact ⟨ds,_,e1,x,M1,e,p⟩
  ·cases e
 ·rintro ⟨ds,M1,e1,p⟩;rw [e1]; exact p
theorem zD1 {m : FF} {a : FA} : Ok (zW m a σ M) P ↔ Ok (a σ M) fun ds M1 => Ok (m ds M1) fun d M2 => P (.dat d) M2:=by
 unfold zW;constructor
 ·rintro ⟨x,M1,e,p⟩;split at e
  ·rename_i ds M2 e1;split at e
   ·rename_i d M3 e2; cases e; exact ⟨ds,_,e1,d,_,e2,p⟩
   ·cases e
  ·cases e
 ·rintro ⟨ds,M1,e1,d,M2,e2,p⟩;rw [e1]; dsimp only; rw [e2]; exact ⟨_,_,rfl,p⟩
theorem zMM {k : KM} {a : FA} : Ok (fM k f a σ M) P ↔ Ok (f σ M) fun x M1 => (∃ xs,zBg M1 x = some xs) /\ Ok (a σ M1) fun ds M2 => Ok (k x ds M2) fun d M3 => P (.dat d) M3:=by
 unfold fM;constructor
 ·rintro ⟨x,M1,e,p⟩;split at e
  ·rename_i y M2 e1;split at e
   ·rename_i xs e2;split at e
    ·rename_i ds M3 e3;split at e
     ·rename_i d M4 e4; cases e; exact ⟨y,_,e1,⟨xs,e2⟩,ds,_,e3,d,_,e4,p⟩
     ·cases e
    ·cases e
   ·cases e
  ·cases e
 ·rintro ⟨y,M1,e1,⟨xs,e2⟩,ds,M2,e3,d,M3,e4,p⟩;rw [e1]; dsimp only; rw [e2]; dsimp only; rw [e3]; dsimp only; rw [e4]; exact ⟨_,_,rfl,p⟩
section
variable {P : Option Int -> Mem -> Prop}
theorem zKh : Ok (zEh σ M) P ↔ P none M:=zAE
def zUN (P : Option Int -> Mem -> Prop) : EV -> Mem -> Prop
 | .dat (.int i),M => P (some i) M
 | _,_ => False
theorem zKo {i : Int} {M : Mem} : zUN P (.dat (.int i)) M ↔ P (some i) M:=Iff.rfl
theorem zKg : Ok (zDV f σ M) P ↔ Ok (f σ M) (zUN P):=by
 unfold zDV;constructor
 ·rintro ⟨x,M1,e,p⟩;split at e
  ·rename_i i M2 e1; cases e; exact ⟨_,_,e1,p⟩
  ·cases e
 ·rintro ⟨x,M1,e1,p⟩;rw [e1];cases x with
  | fl xs => exact p.elim
  | dat d =>
   cases d with
   | int i => exact ⟨_,_,rfl,p⟩
   | _ => exact p.elim
end
theorem zSL {l h : FO} : Ok (fSl f l h σ M) P ↔ Ok (f σ M) fun x M1 => Ok (l σ M1) fun lo M2 => Ok (h σ M2) fun hi M3 => Ok (kSl x lo hi M3) P:=by
 unfold fSl;constructor
 ·rintro ⟨x,M1,e,p⟩;split at e
  ·rename_i y M2 e1;split at e
   ·rename_i lo M3 e2;split at e
    ·rename_i hi M4 e3; exact ⟨y,_,e1,lo,_,e2,hi,_,e3,x,M1,e,p⟩
    ·cases e
   ·cases e
  ·cases e
 ·rintro ⟨y,M1,e1,lo,M2,e2,hi,M3,e3,p⟩;rw [e1]; dsimp only; rw [e2]; dsimp only; rw [e3]; exact p
def blP (P : Bool -> Mem -> Prop) : EV -> Mem -> Prop
 | .dat (.bl k),M => P k M
 | _,_ => False
theorem zEE {P : Bool -> Mem -> Prop} {k : Bool} {M : Mem} : blP P (.dat (.bl k)) M ↔ P k M:=Iff.rfl
theorem zJg {P : Bool -> Mem -> Prop} : Ok (tst f σ M) P ↔ Ok (f σ M) (blP P):=by
 unfold tst;constructor
 ·rintro ⟨x,M1,e,p⟩;split at e
  ·rename_i i M2 e1; cases e; exact ⟨_,_,e1,p⟩
  ·cases e
 ·rintro ⟨x,M1,e1,p⟩;rw [e1];cases x with
  | fl xs => exact p.elim
  | dat d =>
   cases d with
   | bl i => exact ⟨_,_,rfl,p⟩
   | _ => exact p.elim
section
variable {P : Bool -> Mem -> Prop} {s t : FT}
theorem zLW : Ok (zAC σ M) P ↔ P true M:=zAE
theorem zM8 : Ok (zCK s t σ M) P ↔ Ok (s σ M) fun k M1 => if k then Ok (t σ M1) P else P false M1:=by
 unfold zCK;constructor
 ·rintro ⟨x,M1,e,p⟩;split at e
  ·rename_i M2 e1; exact ⟨true,M2,e1,by dsimp only; rw [zVc rfl]; exact ⟨x,M1,e,p⟩⟩
  ·rename_i hn;cases x with
   | true => exact absurd e (hn M1)
   | false => exact ⟨false,M1,e,by simpa using p⟩
 ·rintro ⟨x,M1,e1,p⟩;rw [e1];cases x with
  | true => simpa using p
  | false => exact ⟨false,M1,rfl,by simpa using p⟩
end
theorem zS6 {t : FT} : Ok (vIf t f g σ M) P ↔ Ok (t σ M) fun k M1 => if k then Ok (f σ M1) P else Ok (g σ M1) P:=by
 unfold vIf;constructor
 ·rintro ⟨x,M1,e,p⟩;split at e
  ·rename_i M2 e1; exact ⟨_,_,e1,by dsimp only; rw [zVc rfl]; exact ⟨x,M1,e,p⟩⟩
  ·rename_i M2 e1; exact ⟨_,_,e1,by simpa using ⟨x,M1,e,p⟩⟩
  ·cases e
 ·rintro ⟨x,M1,e1,p⟩;rw [e1];cases x with
  | true => simpa using p
  | false => simpa using p
end
section
variable {σ : Sd} {M : Mem} {f g : FS} {P : Out -> Sd -> Mem -> Prop}
def nxP (k : Sd -> Mem -> Prop) (P : Out -> Sd -> Mem -> Prop) : Out -> Sd -> Mem -> Prop
 | .nx,σ,M => k σ M
 | o,σ,M => P o σ M
theorem zb {k : Sd -> Mem -> Prop} : nxP k P .nx σ M ↔ k σ M:=Iff.rfl
theorem zD2 {k : Sd -> Mem -> Prop} {d : D} : nxP k P (.ret d) σ M ↔ P (.ret d) σ M:=Iff.rfl
theorem zBM : OkS (zCU σ M) P ↔ P .nx σ M:=zPQ
theorem zU : OkS (zX f g σ M) P ↔ OkS (f σ M) (nxP (fun σ1 M1 => OkS (g σ1 M1) P) P):=by
 unfold zX;constructor
 ·rintro ⟨o,σ1,M1,e,p⟩;split at e
  ·rename_i σ2 M2 e1; exact ⟨_,_,_,e1,o,σ1,M1,e,p⟩
  ·rename_i hn;refine ⟨o,σ1,M1,e,?_⟩;cases o with
   | nx => exact absurd e (hn σ1 M1)
   | _ => exact p
 ·rintro ⟨o,σ1,M1,e1,p⟩;rw [e1];cases o with
  | nx => exact p
  | _ => exact ⟨_,_,_,rfl,p⟩
theorem zCM {c : FT} : OkS (sIf c f g σ M) P ↔ Ok (c σ M) fun k M1 => if k then OkS (f σ M1) P else OkS (g σ M1) P:=by
 unfold sIf;constructor
 ·rintro ⟨o,σ1,M1,e,p⟩;split at e
  ·rename_i M2 e1; exact ⟨_,_,e1,by dsimp only; rw [zVc rfl]; exact ⟨o,σ1,M1,e,p⟩⟩
  ·rename_i M2 e1; exact ⟨_,_,e1,by simpa using ⟨o,σ1,M1,e,p⟩⟩
  ·cases e
 ·rintro ⟨x,M1,e1,p⟩;rw [e1];cases x with
  | true => simpa using p
  | false => simpa using p
theorem zAs {h : FE} : OkS (zAJ h σ M) P ↔ Ok (h σ M) (zIK fun d M1 => P (.ret d) σ M1):=by
 rw [<- zAy];unfold zAJ;constructor
 ·rintro ⟨o,σ1,M1,e,p⟩;split at e
  ·rename_i d M2 e1; cases e; exact ⟨_,_,e1,p⟩
  ·cases e
 ·rintro ⟨x,M1,e1,p⟩;rw [e1]; exact ⟨_,_,_,rfl,p⟩
theorem zm {i : Nat} {h : FE} : OkS (zAG i h σ M) P ↔ Ok (h σ M) (zIK fun d M1 => P .nx (σ.set i (some d)) M1):=by
 rw [<- zAy];unfold zAG;constructor
 ·rintro ⟨o,σ1,M1,e,p⟩;split at e
  ·rename_i d M2 e1; cases e; exact ⟨_,_,e1,p⟩
  ·cases e
 ·rintro ⟨x,M1,e1,p⟩;rw [e1]; exact ⟨_,_,_,rfl,p⟩
theorem zCm {h : FE} : OkS (zBz h σ M) P ↔ Ok (h σ M) fun _ M1 => P .nx σ M1:=by
 unfold zBz;constructor
 ·rintro ⟨o,σ1,M1,e,p⟩;split at e
  ·rename_i d M2 e1; cases e; exact ⟨_,_,e1,p⟩
  ·cases e
 ·rintro ⟨x,M1,e1,p⟩;rw [e1]; exact ⟨_,_,_,rfl,p⟩
theorem zJ3 {v o i : FE} : OkS (zL7 v o i σ M) P ↔ Ok (v σ M) (zIK fun d M1 => Ok (o σ M1) fun x M2 => Ok (i σ M2) (zIK fun j M3 => ∃ M4,zLE x j d M3 = some M4 /\ P .nx σ M4)):=by
 rw [<- zAy];unfold zL7;constructor
 ·rintro ⟨o,σ1,M1,e,p⟩;split at e
  ·rename_i d M2 e1;split at e
   ·rename_i x M3 e2;split at e
    ·rename_i j M4 e3;split at e
     ·rename_i M5 e4;cases e;refine ⟨_,_,e1,_,_,e2,?_⟩;dsimp only; rw [<- zAy];exact ⟨_,_,e3,_,e4,p⟩
     ·cases e
    ·cases e
   ·cases e
  ·cases e
 ·rintro ⟨d,M1,e1,x,M2,e2,p⟩;rw [<- zAy] at p;obtain ⟨j,M3,e3,M4,e4,p⟩:=p;rw [e1]; dsimp only; rw [e2]; dsimp only; rw [e3]; dsimp only; rw [e4]; exact ⟨_,_,_,rfl,p⟩
theorem zAV {n : Nat} {ds : List D} {Q : D -> Mem -> Prop} : Ok (zBJ n f ds M) Q ↔ OkS (f (ds.map some ++ List.replicate (n - ds.length) none) M) fun o _ M1 => match o with | .ret d => Q d M1 | .nx => Q .non M1 | _ => False:=by
 unfold zBJ;constructor
 ·rintro ⟨o,M1,e,p⟩;split at e
  ·rename_i d σ1 M2 e1; cases e; exact ⟨_,_,_,e1,p⟩
  ·rename_i σ1 M2 e1; cases e; exact ⟨_,_,_,e1,p⟩
  ·cases e
 ·rintro ⟨o,σ1,M1,e1,p⟩;rw [e1];cases o with
  | ret d => exact ⟨_,_,rfl,p⟩
  | nx => exact ⟨_,_,rfl,p⟩
  | brk => exact p.elim
  | cnt => exact p.elim
theorem zCf {c : FT} {b : FS} (I : Nat -> Sd -> Mem -> Prop) (hs : ∀ m σ M,I m σ M -> Ok (c σ M) fun k M1 => if k then OkS (b σ M1) fun o σ2 M2 => match o with | .nx => ∃ m',m' < m /\ I m' σ2 M2 | .cnt => ∃ m',m' < m /\ I m' σ2 M2 | .brk => P .nx σ2 M2 | .ret d => P (.ret d) σ2 M2 else P .nx σ M1) :
  ∀ (n m : Nat) (σ : Sd) (M : Mem),m < n -> I m σ M -> OkS (zBF c b n σ M) P
 | 0,m,σ,M,h,_ => absurd h (Nat.not_lt_zero _)
 | n + 1,m,σ,M,h,hi => by
  obtain ⟨k,M1,e,q⟩:=hs m σ M hi;unfold zBF;rw [e];cases k with
  | false => exact ⟨_,_,_,rfl,by simpa using q⟩
  | true =>
   rw [zVc rfl] at q;obtain ⟨o,σ2,M2,e2,q⟩:=q;dsimp only;rw [e2];cases o with
   | nx => obtain ⟨m',hm,q⟩:=q; exact zCf I hs n m' σ2 M2 (by omega) q
   | cnt => obtain ⟨m',hm,q⟩:=q; exact zCf I hs n m' σ2 M2 (by omega) q
   | brk => exact ⟨_,_,_,rfl,q⟩
   | ret d => exact ⟨_,_,_,rfl,q⟩
theorem zBt {g : FG} {b : FS} {all : List D} {gd : Option (Mem -> Prop)} (I : List D -> Sd -> Mem -> Prop)
  (hs : ∀ x r σ M,I (x :: r) σ M -> zA5 gd all M /\ ∃ σ1,g x σ = some σ1 /\ OkS (b σ1 M) fun o σ2 M2 => match o with | .nx => I r σ2 M2 | .cnt => I r σ2 M2 | .brk => P .nx σ2 M2 | .ret d => P (.ret d) σ2 M2)
  (he : ∀ σ M,I [] σ M -> zA5 gd all M /\ P .nx σ M) : ∀ (xs : List D) (σ : Sd) (M : Mem),I xs σ M -> OkS (zCv g b all gd xs σ M) P
 | [],σ,M,hi => by
  unfold zCv;obtain ⟨h1,h2⟩:=he σ M hi;rw [zVc h1];exact ⟨_,_,_,rfl,h2⟩
 | x :: r,σ,M,hi => by
  unfold zCv;obtain ⟨h1,σ1,e1,o,σ2,M2,e2,q⟩:=hs x r σ M hi;rw [zVc h1,e1];dsimp only;rw [e2];cases o with
  | nx => exact zBt I hs he r σ2 M2 q
  | cnt => exact zBt I hs he r σ2 M2 q
  | brk => exact ⟨_,_,_,rfl,q⟩
  | ret d => exact ⟨_,_,_,rfl,q⟩
theorem zCR {i : FI} {g : FG} {b : FS} : OkS (zDu i g b σ M) P ↔ ∃ xs gd M1,i σ M = some (xs,gd,M1) /\ OkS (zCv g b xs gd xs σ M1) P:=by
 unfold zDu;constructor
 ·rintro ⟨o,σ1,M1,e,p⟩;split at e
  ·rename_i xs gd M2 e1; exact ⟨_,_,_,e1,_,_,_,e,p⟩
  ·cases e
 ·rintro ⟨xs,gd,M1,e1,p⟩;rw [e1]; exact p
theorem zEW {g : FG} {tc : FT} {te : FE} {all : List D} {gd : Option (Mem -> Prop)} (I : List D -> List D -> Mem -> Prop)
  (hs : ∀ x r acc M,I (x :: r) acc M -> zA5 gd all M /\ ∃ σ1,g x σ = some σ1 /\ Ok (tc σ1 M) fun k M1 => if k then Ok (te σ1 M1) (zIK fun d M2 => I r (acc ++ [d]) M2) else I r acc M1)
  {Q : List D -> Mem -> Prop} (he : ∀ acc M,I [] acc M -> zA5 gd all M /\ Q acc M) : ∀ (xs acc : List D) (M : Mem),I xs acc M -> Ok (zA7 g tc te σ all gd xs M) fun ys M1 => Q (acc ++ ys) M1
 | [],acc,M,hi => by
  unfold zA7;obtain ⟨h1,h2⟩:=he acc M hi;rw [zVc h1];exact ⟨_,_,rfl,by simpa using h2⟩
 | x :: r,acc,M,hi => by
  unfold zA7;obtain ⟨h1,σ1,e1,k,M1,e2,q⟩:=hs x r acc M hi;rw [zVc h1,e1];dsimp only;rw [e2];cases k with
  | false => exact zEW I hs he r acc M1 (by simpa using q)
  | true =>
   rw [zVc rfl,<- zAy] at q;obtain ⟨d,M2,e3,q⟩:=q;dsimp only;rw [e3];obtain ⟨ys,M3,e4,p⟩:=zEW I hs he r (acc ++ [d]) M2 q;dsimp only;rw [e4];exact ⟨_,_,rfl,by simpa using p⟩
theorem zEr {own : List Nat} {i : FI} {g : FG} {tc : FT} {te : FE} {Q : EV -> Mem -> Prop} : Ok (zAL own i g tc te σ M) Q ↔ ∃ xs gd M1,i σ M = some (xs,gd,M1) /\ xs.length <= sizeLine /\ Ok (zA7 g tc te (zBH own σ) xs gd xs M1) fun ys M2 => Q (.fl ys) M2:=by
 unfold zAL;constructor
 ·rintro ⟨o,M1,e,p⟩;split at e
  ·rename_i xs gd M2 e1;split at e
   ·rename_i hz;split at e
    ·rename_i ys M3 e2; cases e; exact ⟨_,_,_,e1,hz,_,_,e2,p⟩
    ·cases e
   ·cases e
  ·cases e
 ·rintro ⟨xs,gd,M1,e1,hz,ys,M2,e2,p⟩;rw [e1]; dsimp only; rw [zVc hz,e2]; exact ⟨_,_,rfl,p⟩
theorem zFl {h : FE} {x : EV} {M1 : Mem} {xs : List D} (e : h σ M = some (x,M1)) (e2 : zAc M1 x = some xs) : zAr h σ M = some (xs,zEx x xs,M1):=by
 unfold zAr; rw [e]; dsimp only; rw [e2]
theorem zHo {a : FA} {M1 : Mem} {j : Int} (e : a σ M = some ([.int j],M1)) (h1 : 0 <= j) (h2 : j < 2 ^ 62) : zAW a σ M = some ((List.range j.toNat).map fun (k : Nat) => D.int k,none,M1):=by
 unfold zAW; rw [e]; dsimp only; rw [zVc ⟨by omega,h2⟩]
end
section
variable {M : Mem} {P : EV -> Mem -> Prop} {i j : Int}
theorem zGY : Ok (zAe (.dat (.int i)) (.dat (.int j)) M) P ↔ P (.dat (.int (i + j))) M:=zAE
theorem zQa : Ok (zNz (.dat (.int i)) (.dat (.int j)) M) P ↔ zON i j = true /\ P (.dat (.int (i * j))) M:=by
 unfold zNz kI; dsimp only; split
 ·rename_i h; rw [zAE]; simp [h]
 ·rename_i h; rw [zF1]; simp [h]
theorem zGb : Ok (zF6 (.dat (.int i)) (.dat (.int j)) M) P ↔ 0 < j /\ P (.dat (.int (i % j))) M:=by
 unfold zF6 kI; dsimp only; split
 ·rename_i h; rw [zAE]; simp at h; simp [h]
 ·rename_i h; rw [zF1]; simp at h; simp; intro h'; omega
theorem zPi : Ok (zNt (.dat (.int i)) (.dat (.int j)) M) P ↔ (0 < j /\ j < 1073741824) /\ P (.dat (.int (i / j))) M:=by
 unfold zNt kI; dsimp only; split
 ·rename_i h; rw [zAE]; simp at h; simp [h]
 ·rename_i h; rw [zF1]; simp at h; simp; intro h' h2; have:=h h'; omega
theorem zSW : Ok (zQb (.dat (.int i)) (.dat (.int j)) M) P ↔ (0 <= j /\ j <= 1000000 /\ i.natAbs < 2 ^ 64) /\ P (.dat (.int (i ^ j.toNat))) M:=by
 unfold zQb kI; dsimp only; split
 ·rename_i h; rw [zAE]; simp only [zVx,zWa] at h; simp [h]
 ·rename_i h; rw [zF1]; simp only [zVx,zWa,not_and] at h; simp only [false_iff,not_and]; intro ⟨a,b,c⟩; exact absurd c (h ⟨a,b⟩)
theorem zS1 : Ok (kLt (.dat (.int i)) (.dat (.int j)) M) P ↔ P (.dat (.bl (decide (i < j)))) M:=zAE
theorem zU4 : Ok (kLe (.dat (.int i)) (.dat (.int j)) M) P ↔ P (.dat (.bl (decide (i <= j)))) M:=zAE
theorem zVG : Ok (kGe (.dat (.int i)) (.dat (.int j)) M) P ↔ P (.dat (.bl (decide (j <= i)))) M:=zAE
theorem zMk : Ok (kEq (.dat (.int i)) (.dat (.int j)) M) P ↔ P (.dat (.bl (decide (i = j)))) M:=by
 have : kEq (.dat (.int i)) (.dat (.int j)) M = some (.dat (.bl (decide (V.int i = V.int j))),M):=rfl;rw [this,zAE]; simp
theorem zQ7 : Ok (kNe (.dat (.int i)) (.dat (.int j)) M) P ↔ P (.dat (.bl (decide (i ≠ j)))) M:=by
 have : kNe (.dat (.int i)) (.dat (.int j)) M = some (.dat (.bl (!decide (V.int i = V.int j))),M):=rfl;rw [this,zAE]; simp
theorem zUd {xs ys : List D} : Ok (zAe (.dat (.tup xs)) (.dat (.tup ys)) M) P ↔ xs.length + ys.length <= sizeLine /\ P (.dat (.tup (xs ++ ys))) M:=by
 have : zAe (.dat (.tup xs)) (.dat (.tup ys)) M = zKw (.dat (.tup xs)) (.dat (.tup ys)) M:=rfl;rw [this]; unfold zKw; dsimp only [zDJ]; split
 ·rename_i h; rw [zAE]; simp [h]
 ·rename_i h; rw [zF1]; simp [h]
theorem zRV {x : EV} {xs : List D} (h : zBg M x = some xs) (hx : ∀ d,x = .dat d -> zIr d = none) : Ok (kNe x (.fl []) M) P ↔ P (.dat (.bl (!xs.isEmpty))) M:=by
 have e1 : zMX true x (.fl []) M = none:=by cases x <;> rfl
 have e2 : kNe x (.fl []) M = some (.dat (.bl (!xs.isEmpty)),M):=by
  unfold kNe kOr; rw [e1]; unfold zPh; rw [h]; rfl
 rw [e2,zAE]
theorem zQh {x : EV} {xs : List D} {d : D} (h : zAc M x = some xs) (hd : atI xs i = some d) (p : P (.dat d) M) : Ok (kIx x (.dat (.int i)) M) P:=by
 have : kIx x (.dat (.int i)) M = some (.dat d,M):=by unfold kIx; dsimp only; rw [h]; dsimp only; rw [hd]
 rw [this,zAE]; exact p
theorem zP3 {xs : List D} {k : Nat} {d : D} (h : xs[k]? = some d) : atI xs (k : Int) = some d:=zM5 h
theorem zPK {xs : List D} {i : Int} {d : D} (h0 : 0 <= i) (h : xs[i.toNat]? = some d) : atI xs i = some d:=by
 have : i = ((i.toNat : Nat) : Int):=by omega
 rw [this]; exact zM5 h
theorem zSK {x : EV} {xs : List D} (h : zAc M x = some xs) : Ok (zBB [x] M) P ↔ P (.dat (.int xs.length)) M:=by
 have : zBB [x] M = some (.dat (.int xs.length),M):=by unfold zBB; dsimp only; rw [h]
 rw [this,zAE]
theorem zMw {x : EV} {xs : List D} (h : zAc M x = some xs) : Ok (zBZ [x] M) P ↔ P (.dat (.tup xs)) M:=by
 have : zBZ [x] M = some (.dat (.tup xs),M):=by unfold zBZ; dsimp only; rw [h]
 rw [this,zAE]
theorem zSX : Ok (zNg [.dat (.int i)] M) P ↔ P (.dat (.int (if i < 0 then -i else i))) M:=zAE
theorem zQD {x : EV} {xs : List D} {lo hi : Option Int} (h : zBg M x = some xs) (ht : zDJ x = none) : Ok (kSl x lo hi M) P ↔ P (.fl (zFI xs lo hi)) M:=by
 have : kSl x lo hi M = some (.fl (zFI xs lo hi),M):=by unfold kSl; rw [ht]; dsimp only; rw [h]
 rw [this,zAE]
theorem zA2 {xs : List D} : zAc M (.dat (.tup xs)) = some xs:=rfl
theorem zEF {xs : List D} : zAc M (.fl xs) = some xs:=rfl
theorem zSl {xs : List D} : zBg M (.fl xs) = some xs:=rfl
theorem zCX {n : Nat} {xs : List D} (h : M[n]? = some (.lst xs)) : zBg M (.dat (.ref n)) = some xs:=by unfold zBg; dsimp only; rw [h]
theorem zJz {n : Nat} {xs : List D} (h : M[n]? = some (.fro xs)) : zBg M (.dat (.ref n)) = some xs:=by unfold zBg; dsimp only; rw [h]
theorem zAZ {n : Nat} {xs : List D} (h : M[n]? = some (.lst xs)) : zAc M (.dat (.ref n)) = some xs:=zCX h
theorem zRt {n : Nat} {xs : List D} (h : M[n]? = some (.fro xs)) : zAc M (.dat (.ref n)) = some xs:=zJz h
theorem zEN {n : Nat} {xs : List D} {d : D} {Q : D -> Mem -> Prop} (h : M[n]? = some (.lst xs)) (hz : xs.length < sizeLine) : Ok (zAt (.dat (.ref n)) [d] M) Q ↔ Q .non (M.set n (.lst (xs ++ [d]))):=by
 have : zAt (.dat (.ref n)) [d] M = some (.non,M.set n (.lst (xs ++ [d]))):=by unfold zAt; dsimp only; rw [h]; dsimp only; rw [zVc hz]
 rw [this,zAE]
theorem zTl {n : Nat} {x : D} {xs : List D} {Q : D -> Mem -> Prop} (h : M[n]? = some (.lst (x :: xs))) : Ok (zLB (.dat (.ref n)) [.int 0] M) Q ↔ Q x (M.set n (.lst xs)):=by
 have : zLB (.dat (.ref n)) [.int 0] M = some (x,M.set n (.lst xs)):=by
  unfold zLB; dsimp only; rw [h]; dsimp only;have e : ixN (x :: xs).length 0 = some 0:=by unfold ixN; rw [zVc (by omega),zVc (by simp)]; rfl
  rw [e]; dsimp only [List.getElem?_cons_zero]; rw [zVc (by decide)]; rfl
 rw [this,zAE]
theorem zHx {n k : Nat} {xs : List D} {d : D} (h : M[n]? = some (.lst xs)) (hk : k < xs.length) : zLE (.dat (.ref n)) (.int k) d M = some (M.set n (.lst (xs.set k d))):=by
 unfold zLE; dsimp only; rw [h]; dsimp only;have e : ixN xs.length (k : Int) = some k:=by unfold ixN; rw [zVc (by omega),zVc (by omega)]; simp
 rw [e]
end
theorem zRG {m : FF} {ds : List D} {M : Mem} {Q : D -> Mem -> Prop} (h : Ok (m ds M) fun d M1 => (D.und M.length d = true /\ M.length <= M1.length /\ ∀ (j : Nat) u,j < M.length -> M1[j]? = some u -> MO.und M.length u = true) /\ Q d (M1.take M.length)) : Ok (zKu m ds M) Q:=by
 obtain ⟨d,M1,e,⟨h1,h2,h3⟩,q⟩:=h;unfold zKu;rw [e];dsimp only;rw [zVc]
 ·exact ⟨_,_,rfl,q⟩
 ·simp only [zVx,zWa,zVy];refine ⟨⟨h1,fun u hu => ?_⟩,h2⟩;obtain ⟨j,hj⟩:=List.getElem?_of_mem hu;have hlt : j < M.length:=by
   have:=(zVQ.mp hj).1;rw [zWl] at this; omega
  rw [List.getElem?_take_of_lt hlt] at hj;exact h3 j u hlt hj
theorem zDH {m : FF} {ds : List D} {M : Mem} {Q : D -> Mem -> Prop} (h0 : D.unds 0 ds = true) (h : Ok (m ds []) fun d _ => D.und 0 d = true /\ Q d M) : Ok (zD6 m ds M) Q:=by
 obtain ⟨d,M1,e,h1,q⟩:=h;unfold zD6;rw [zVc h0,e];dsimp only;rw [zVc h1];exact ⟨_,_,rfl,q⟩
section
variable {prog : Program} {w : World} {A : Around} {E : Value -> Shared -> Prop} {s : Shared}
theorem TIt.but (x : h.IsTupleIter a t i) (hs : Heap.ExtBut b h h') (n : a ≠ b) : h'.IsTupleIter a t i:=x.extBut hs n
theorem Tup.but (x : h.IsTuple a its) (hs : Heap.ExtBut b h h') (n : a ≠ b) : h'.IsTuple a its:=x.extBut hs n
theorem zDz (I : s.heap.IsTupleIter it t i) (T : s.heap.IsTuple t its) (hx : its[i]? = some x)
  (q : ∀ h',h'.IsTupleIter it t (i + 1) -> Heap.SameBut it s.heap h' -> Q x { s with heap:=h' }) : wpAny (model prog w) A (Builtin.SmallTypes.nextOf (.ref it)) Q E s:=by
 obtain ⟨o,O,C,FD⟩:=id I;obtain ⟨u,U,_,m,G⟩:=T;unfold Builtin.SmallTypes.nextOf;refine zVN (zVz (name:=Str.ofString "__next__") I.typeIs PySem.F.slot_tuple_iterator_next (zV0 PySem.F.slot_tuple_iterator_next I.typeIs PySem.F.entry_tuple_iterator_next ?_ (PySem.F.args_tuple_iterator_next_1 _)));refine zVN (m:=field (.ref it) 0) (zV2 O FD (x:=.ref t) rfl ?_);rw [zVf (show ¬ ((Value.ref t == Value.none) = true) by exact zVj)];refine zVN (m:=field (.ref it) 1) (zV2 O FD (x:=.int i 0) rfl ?_);refine zVN (m:=seqItems? (.ref t)) (zWD U G ?_);simp only [hx,Int.toNat_natCast];refine zVN (wpAny_setField O FD (by simp) (zVP ⟨x,rfl,zVP (q _ ⟨_,zWA _ O (Obj.isFreed_of_fields (zWe FD _)),(Obj.cls_mapFields ..).trans C,?_⟩ (zWQ ..))⟩));rw [zWe FD];simp [rawInt]
theorem zEu (hh : A.handled = none) (I : s.heap.IsTupleIter it t i) (T : s.heap.IsTuple t its) (hx : its[i]? = none)
  (q : ∀ h' e,Heap.ExtBut it s.heap h' -> (∃ o,h'.get? e = some o /\ o.cls = .type "StopIteration") -> E (.ref e) { s with heap:=h' }) : wpAny (model prog w) A (Builtin.SmallTypes.nextOf (.ref it)) Q E s:=by
 obtain ⟨o,O,C,FD⟩:=id I;obtain ⟨u,U,_,m,G⟩:=T;unfold Builtin.SmallTypes.nextOf;refine zVN (zVz (name:=Str.ofString "__next__") I.typeIs PySem.F.slot_tuple_iterator_next (zV0 PySem.F.slot_tuple_iterator_next I.typeIs PySem.F.entry_tuple_iterator_next ?_ (PySem.F.args_tuple_iterator_next_1 _)));refine zVN (m:=field (.ref it) 0) (zV2 O FD (x:=.ref t) rfl ?_);rw [zVf (show ¬ ((Value.ref t == Value.none) = true) by exact zVj)];refine zVN (m:=field (.ref it) 1) (zV2 O FD (x:=.int i 0) rfl ?_);refine zVN (m:=seqItems? (.ref t)) (zWD U G ?_);simp only [hx,Int.toNat_natCast];refine zVN (zWk (zVN (wpAny_setField O FD (by simp) ?_)));refine zVN (m:=newExc (.type "StopIteration") []) ?_;simp only [newTuple,newExc];refine zVN (zVq (zVN (m:=firstArgMember _ _) (wpAny_of_eq (a:=Value.none) (by first | rfl | (simp only [firstArgMember]; rfl)) (zVq ?_ (by size_fits)))) (by size_fits));simp only [raiseNew];refine zVN (wpAny_handled ?_);first | rw [hh] | rw [show A.in1.handled = none from hh]
 exact zVN (zVP (wpAny_throw (q _ _ (((zWQ ..).extBut.push _).push _) ⟨_,zVX _ rfl,rfl⟩)))
structure ZipT (h : Heap) (z TI TO i1 i2 t1 t2 : Addr) (f : Value) (k1 k2 : Nat) : Prop where
 z : IsZip h z TI TO f
 ti : IsPair h TI (.ref i1) (.ref i2)
 to : ∃ a b,IsPair h TO a b
 a : h.IsTupleIter i1 t1 k1
 b : h.IsTupleIter i2 t2 k2
theorem zNu {z TI TO i1 i2 t1 t2 : Addr} {k : Nat} {xs ys : Array Value} {x y : Value} {Q : Option Value -> Shared -> Prop} (D : ZipApart z TI TO i1 i2 t1 t2) (Z : ZipT s.heap z TI TO i1 i2 t1 t2 .none k k)
  (T1 : s.heap.IsTuple t1 xs) (T2 : s.heap.IsTuple t2 ys) (hx : xs[k]? = some x) (hy : ys[k]? = some y)
  (q : ∀ h',ZipT h' z TI TO i1 i2 t1 t2 (rawInt s.heap.objs.size) (k + 1) (k + 1) -> IsPair h' s.heap.objs.size x y ->
   (∀ c o,c ∉ [z,TO,i1,i2] -> s.heap.get? c = some o -> h'.get? c = some o) -> Q (some (.ref s.heap.objs.size)) { s with heap:=h' }) : wpAny (model prog w) A (pyNext (.ref z)) Q E s:=by
 obtain ⟨Z0,P0,⟨a,b,O0⟩,I1,I2⟩:=Z;have ty : s.TypeIs (.ref z) "zip" := ⟨_,Z0,rfl⟩;unfold pyNext;refine zVN (wpAny_attempt (zVz (name:=Str.ofString "__next__") ty PySem.F.slot_zip_next (zV0 PySem.F.slot_zip_next ty PySem.F.entry_zip_next ?_ (PySem.F.args_zip_next_1 _))));refine zVN (m:=field (.ref z) 2) (zV2 Z0 rfl (x:=.bool false) rfl ?_);refine zVN (m:=field (.ref z) 3) (zV2 Z0 rfl (x:=.ref TI) rfl ?_);refine zVN (zWD P0 rfl ?_);refine zVN (m:=Builtin.SmallTypes.ownedTupleIsFree (.ref z)) ?_;unfold Builtin.SmallTypes.ownedTupleIsFree;refine zVN (zV2 Z0 rfl (x:=.none) rfl (zVP ?_));simp only [if_true];refine zVN (zWk (zVN (zV2 Z0 rfl (x:=.ref TO) rfl (zVN (wpAny_setField_rec Z0 (by simp) fun h1 Z1 e1 => ?_)))));replace Z1 : IsZip h1 z TI TO .ellipsis:=Z1;refine zVN ?_;simp only [List.forIn_cons,List.forIn_nil,List.zipIdx_cons,List.zipIdx_nil];refine zVN (zVN (wpAny_onRaise (zVN (m:=Builtin.SmallTypes.nextOf (.ref i1)) (zDz (TIt.but I1 e1.extBut D.i1z) (Tup.but T1 e1.extBut D.l1z) hx fun h2 J1 e2 => zVP ?_))));have O2 : IsPair h2 TO a b:=e2.extBut _ _ D.TOi1 (e1.extBut _ _ D.TOz O0);refine zVN (zWD O2 rfl (zVN (wpAny_updateSeq_pair O2 fun h3 O3 e3 => zVN (wpAny_letGo (zVP ?_)))));replace O3 : IsPair h3 TO x b:=O3
 refine zVN (zVN (wpAny_onRaise (zVN (m:=Builtin.SmallTypes.nextOf (.ref i2)) (zDz (TIt.but (TIt.but (TIt.but I2 e1.extBut D.i2z) e2.extBut D.i12.symm) e3.extBut D.TOi2.symm)
  (Tup.but (Tup.but (Tup.but T2 e1.extBut D.l2z) e2.extBut D.l2i1) e3.extBut D.l2TO) hy fun h4 J2 e4 => zVP ?_))))
 have O4 : IsPair h4 TO x b:=e4.extBut _ _ D.TOi2 O3;refine zVN (zWD O4 rfl (zVN (wpAny_updateSeq_pair O4 fun h5 O5 e5 => zVN (wpAny_letGo (zVP (zVP ?_))))));replace O5 : IsPair h5 TO x y:=O5;refine zVN (zWD O5 rfl (zVN (wpAny_newTuple ?_)));have sz : h5.objs.size = s.heap.objs.size:=by rw [e5.1,e4.1,e3.1,e2.1,e1.1]
 have Z5 : IsZip h5 z TI TO .ellipsis:=e5.extBut _ _ D.TOz.symm (e4.extBut _ _ D.i2z.symm (e3.extBut _ _ D.TOz.symm (e2.extBut _ _ D.i1z.symm Z1)));have kp : ∀ c o,c ∉ [z,TO,i1,i2] -> s.heap.get? c = some o -> h5.get? c = some o:=fun c o n e => by
  simp only [zVZ,zVs,zWi,not_or] at n;obtain ⟨n1,n2,n3,n4⟩:=n;exact e5.extBut _ _ n2 (e4.extBut _ _ n4 (e3.extBut _ _ n2 (e2.extBut _ _ n3 (e1.extBut _ _ n1 e))))
 have A5 : h5.IsTupleIter i1 t1 (k + 1):=TIt.but (TIt.but (TIt.but J1 e3.extBut D.TOi1.symm) e4.extBut D.i12) e5.extBut D.TOi1.symm;have B5 : h5.IsTupleIter i2 t2 (k + 1):=TIt.but J2 e5.extBut D.TOi2.symm;have zl : z < h5.objs.size:=zVY Z5;refine zVN (m:=Builtin.SmallTypes.ownedTupleHandOut (.ref z) (.ref h5.objs.size)) ?_;unfold Builtin.SmallTypes.ownedTupleHandOut;have Z6 : IsZip (h5.push { cls:=.type "tuple", data:=.seq #[x,y] }) z TI TO .ellipsis:=zVO _ Z5;refine zVN (wpAny_setField_rec Z6 (by simp) fun h7 Z7 e7 => ?_);replace Z7 : IsZip h7 z TI TO (rawInt h5.objs.size):=Z7;refine wpAny_setField_rec Z7 (by simp) fun h8 Z8 e8 => ?_;replace Z8 : IsZip h8 z TI TO (rawInt h5.objs.size):=Z8;have up : ∀ c o,c ≠ z -> h5.get? c = some o -> h8.get? c = some o:=fun c o n e => e8.extBut _ _ n (e7.extBut _ _ n (zVO _ e));have N8 : IsPair h8 h5.objs.size x y:=e8.extBut _ _ (zWs zl) (e7.extBut _ _ (zWs zl) (zVX _ rfl));rw [sz] at Z8 N8;refine zVP ⟨_,rfl,?_⟩;rw [sz];refine zVP (q h8 ⟨Z8,up _ _ D.TIz (kp _ _ (by simp [D.TIz,D.TITO,D.TIi1,D.TIi2]) P0),⟨_,_,up _ _ D.TOz O5⟩,?_,?_⟩ N8 fun c o n e => up c o (fun m => n (by simp [m])) (kp c o n e))
 ·obtain ⟨o,e,r⟩:=A5; exact ⟨o,up _ _ D.i1z e,r⟩
 ·obtain ⟨o,e,r⟩:=B5; exact ⟨o,up _ _ D.i2z e,r⟩
theorem zPc {z TI TO i1 i2 t1 t2 : Addr} {k : Nat} {xs ys : Array Value} {Q : Option Value -> Shared -> Prop} (hh : A.handled = none) (D : ZipApart z TI TO i1 i2 t1 t2) (Z : ZipT s.heap z TI TO i1 i2 t1 t2 .none k k)
  (T1 : s.heap.IsTuple t1 xs) (T2 : s.heap.IsTuple t2 ys) (he : xs[k]? = none \/ ys[k]? = none)
  (q : ∀ h',(∀ c o,c ∉ [z,TO,i1,i2] -> s.heap.get? c = some o -> h'.get? c = some o) -> Q none { s with heap:=h' }) : wpAny (model prog w) A (pyNext (.ref z)) Q E s:=by
 obtain ⟨Z0,P0,⟨a,b,O0⟩,I1,I2⟩:=Z;have ty : s.TypeIs (.ref z) "zip" := ⟨_,Z0,rfl⟩
 have stop : ∀ (e : Addr) (h' : Heap),(∀ c o,c ∉ [z,TO,i1,i2] -> s.heap.get? c = some o -> h'.get? c = some o) -> (∃ o,h'.get? e = some o /\ o.cls = .type "StopIteration") ->
   wpAny (model prog w) A (do if (<- isInstance (.ref e) (.type "StopIteration")) then pure none else throw (.ref e) : Sem (Option Value)) Q E { s with heap:=h' }:=fun e h' k1 ⟨o,e1,e2⟩ =>
  zVN (wpAny_isInstance (T := "StopIteration") (b:=true) ⟨o,e1,e2⟩ isSubtype_stop (zVP (q h' k1)))
 unfold pyNext;refine zVN (wpAny_attempt (zVz (name:=Str.ofString "__next__") ty PySem.F.slot_zip_next (zV0 PySem.F.slot_zip_next ty PySem.F.entry_zip_next ?_ (PySem.F.args_zip_next_1 _))));refine zVN (m:=field (.ref z) 2) (zV2 Z0 rfl (x:=.bool false) rfl ?_);refine zVN (m:=field (.ref z) 3) (zV2 Z0 rfl (x:=.ref TI) rfl ?_);refine zVN (zWD P0 rfl ?_);refine zVN (m:=Builtin.SmallTypes.ownedTupleIsFree (.ref z)) ?_;unfold Builtin.SmallTypes.ownedTupleIsFree;refine zVN (zV2 Z0 rfl (x:=.none) rfl (zVP ?_));simp only [if_true];refine zVN (zWk (zVN (zV2 Z0 rfl (x:=.ref TO) rfl (zVN (wpAny_setField_rec Z0 (by simp) fun h1 Z1 e1 => ?_)))));replace Z1 : IsZip h1 z TI TO .ellipsis:=Z1;refine zVN ?_;simp only [List.forIn_cons,List.forIn_nil,List.zipIdx_cons,List.zipIdx_nil];cases hx : xs[k]? with
 | none =>
  refine zVN (zVN (wpAny_onRaise (zVN (m:=Builtin.SmallTypes.nextOf (.ref i1)) (zEu hh (TIt.but I1 e1.extBut D.i1z) (Tup.but T1 e1.extBut D.l1z) hx fun h2 e e2 he => ?_))));obtain ⟨oe,o1,o2⟩:=he;have Z2 : IsZip h2 z TI TO .ellipsis:=e2 _ _ D.i1z.symm Z1;have ne : e ≠ z:=fun m => by subst m; rw [Z2] at o1; cases o1; simp at o2
  refine wpAny_setField_rec Z2 (by simp) fun h3 _ e3 => stop e h3 (fun c o n x => ?_) ⟨oe,e3.extBut _ _ ne o1,o2⟩;simp only [zVZ,zVs,zWi,not_or] at n;exact e3.extBut _ _ n.1 (e2 _ _ n.2.2.1 (e1.extBut _ _ n.1 x))
 | some x =>
  have hy : ys[k]? = none:=by
   rcases he with m | m
   ·rw [hx] at m; cases m
   ·exact m
  refine zVN (zVN (wpAny_onRaise (zVN (m:=Builtin.SmallTypes.nextOf (.ref i1)) (zDz (TIt.but I1 e1.extBut D.i1z) (Tup.but T1 e1.extBut D.l1z) hx fun h2 J1 e2 => zVP ?_))));have O2 : IsPair h2 TO a b:=e2.extBut _ _ D.TOi1 (e1.extBut _ _ D.TOz O0);refine zVN (zWD O2 rfl (zVN (wpAny_updateSeq_pair O2 fun h3 O3 e3 => zVN (wpAny_letGo (zVP ?_)))))
  refine zVN (zVN (wpAny_onRaise (zVN (m:=Builtin.SmallTypes.nextOf (.ref i2)) (zEu hh (TIt.but (TIt.but (TIt.but I2 e1.extBut D.i2z) e2.extBut D.i12.symm) e3.extBut D.TOi2.symm)
   (Tup.but (Tup.but (Tup.but T2 e1.extBut D.l2z) e2.extBut D.l2i1) e3.extBut D.l2TO) hy fun h4 e e4 he => ?_))))
  obtain ⟨oe,o1,o2⟩:=he;have Z4 : IsZip h4 z TI TO .ellipsis:=e4 _ _ D.i2z.symm (e3.extBut _ _ D.TOz.symm (e2.extBut _ _ D.i1z.symm Z1));have ne : e ≠ z:=fun m => by subst m; rw [Z4] at o1; cases o1; simp at o2
  refine wpAny_setField_rec Z4 (by simp) fun h5 _ e5 => stop e h5 (fun c o n x => ?_) ⟨oe,e5.extBut _ _ ne o1,o2⟩;simp only [zVZ,zVs,zWi,not_or] at n;exact e5.extBut _ _ n.1 (e4 _ _ n.2.2.2 (e3.extBut _ _ n.2.1 (e2.extBut _ _ n.2.2.1 (e1.extBut _ _ n.1 x))))
abbrev zT1 (h : Heap) (a : Addr) : Heap:=h.push { cls:=.type "tuple_iterator", data:=.fields #[.ref a,.int 0 0] }
abbrev zT2 (h : Heap) (a b : Addr) : Heap:=zT1 (zT1 h a) b
abbrev zT3 (h : Heap) (a b : Addr) : Heap:=(zT2 h a b).push { cls:=.type "tuple", data:=.seq #[.ref h.objs.size,.ref (zT1 h a).objs.size] }
abbrev zT4 (h : Heap) (a b : Addr) : Heap:=(zT3 h a b).push { cls:=.type "tuple", data:=.seq #[.none,.none] }
abbrev zT5 (h : Heap) (a b : Addr) : Heap:=(zT4 h a b).push { cls:=.type "zip", data:=.fields #[.none,.bool false,.bool false,.ref (zT2 h a b).objs.size,.ref (zT3 h a b).objs.size] }
theorem zMZ (a b : Addr) (xs ys : Array Value) : Meets (Builtin.«zip.__new__» ⟨[.type "zip", .ref a,.ref b],[]⟩) (fun _ R s => s.heap.IsTuple a xs /\ s.heap.IsTuple b ys /\ R (.ok (.ret (.ref (zT4 s.heap a b).objs.size))) { s with heap:=zT5 s.heap a b }) :=
 .of_wp fun prog w A R s h => by
  obtain ⟨hp,g,d,tk,os⟩:=s;obtain ⟨Ta,Tb,h⟩:=h;have sz:=sub_zip;have U1 : Heap.IsTuple (Shared.heap ⟨hp,g,d,tk,os⟩) a xs:=Ta;have U2 : Heap.IsTuple (Shared.heap ⟨hp.push { cls:=.type "tuple_iterator", data:=.fields #[.ref a,.int 0 0] },g,d,tk,os⟩) b ys:=Heap.IsTuple.push Tb _;wp_walk using zW3 U1,zW3 U2;exact ⟨_,rfl,h⟩
theorem zO1 (Ta : s.heap.IsTuple a xs) (Tb : s.heap.IsTuple b ys)
  (h : ∀ h',ZipT h' (s.heap.objs.size + 4) (s.heap.objs.size + 2) (s.heap.objs.size + 3) s.heap.objs.size (s.heap.objs.size + 1) a b .none 0 0 -> (∀ c o,s.heap.get? c = some o -> h'.get? c = some o) -> Q (.ref (s.heap.objs.size + 4)) { s with heap:=h' }) :
  wpAny (model prog w) A (call (.type "zip") [.ref a,.ref b]) Q E s:=by
 refine callType_new PySem.F.called_zip (by decide) (PySem.F.typeCall_zip_2 _ _) (PySem.F.newCall_zip_2 _ _) (fun obj => PySem.F.args_object_init_3 obj _ _) PySem.F.entry_zip_new (zMZ a b xs ys) ⟨Ta,Tb,?_⟩;have q1 : (zT1 s.heap a).objs.size = s.heap.objs.size + 1:=zV3 ..;have q2 : (zT2 s.heap a b).objs.size = s.heap.objs.size + 2:=by rw [zV3,q1]
 have q3 : (zT3 s.heap a b).objs.size = s.heap.objs.size + 3:=by rw [zV3,q2]
 have q4 : (zT4 s.heap a b).objs.size = s.heap.objs.size + 4:=by rw [zV3,q3]
 have u : ∀ {h : Heap} {c : Addr} {o p : Obj},h.get? c = some o -> (h.push p).get? c = some o:=fun e => zVO _ e;have p5 : (zT5 s.heap a b).get? (zT4 s.heap a b).objs.size = some _:=zVX _ rfl;have p4 : (zT5 s.heap a b).get? (zT3 s.heap a b).objs.size = some _:=u (zVX _ rfl);have p3 : (zT5 s.heap a b).get? (zT2 s.heap a b).objs.size = some _:=u (u (zVX _ rfl));have p2 : (zT5 s.heap a b).get? (zT1 s.heap a).objs.size = some _:=u (u (u (zVX _ rfl)));have p1 : (zT5 s.heap a b).get? s.heap.objs.size = some _:=u (u (u (u (zVX _ rfl))));show _ /\ _;rw [q2,q3,q4] at p5;rw [q1,q2] at p3;rw [q3] at p4;rw [q1] at p2;rw [q4];exact ⟨⟨_,p5,rfl⟩,h _ ⟨p5,p3,⟨_,_,p4⟩,⟨_,p1,rfl,rfl⟩,⟨_,p2,rfl,rfl⟩⟩ fun c o x => u (u (u (u (u x))))⟩
end
theorem zGe {X : Cx} {zB : List (Addr × Obj)} {σ : L2.St} {H : Hp} {s : Shared} {h' : Heap} {t' : Nat} {ch : List Addr} {T : Addr} {o : HO} (I : Inv X zB σ H s) (hf : ∀ b ∈ ch,zCT X zB H b)
  (k : ∀ b u,b ∉ ch -> s.heap.get? b = some u -> h'.get? b = some u) (hT : s.heap.objs.size <= T) (new : zAh X.prog X.w (upd H T o) h' T o) : Inv X zB σ (upd H T o) { s with heap:=h',toks:=t' }:=by
 have hn : H T = none:=I.hok.fresh hT;have nch : ∀ b u,H b = some u -> b ∉ ch:=fun b u e z => by rw [(hf b z).1] at e; cases e
 have un : ∀ b u,H b = some u -> upd H T o b = some u:=fun b u e => by rw [zh (zAO e hn)]; exact e
 refine I.step (g':=s.gens) (d':=s.drawn) (ch:=ch) (fun b hb => ⟨(hf b hb).2.2.2.1,(hf b hb).2.1,(hf b hb).2.2.2.2.1,(hf b hb).2.2.2.2.2⟩) (fun b u _ _ hc e _ => k b u hc e) (fun b u _ _ hc e _ => ⟨u.slots,k b u hc e⟩)
  (fun b u _ e n => by rw [zh (fun z => by rw [z] at e; exact absurd (zVY e) (Nat.not_lt.mpr hT))]; exact n) (fun b u hc e => ⟨u,k b u hc e⟩) (fun b xs e => un b _ e) (fun b p u e => un b _ e) (fun b ps e => ⟨#[],by rw [un b _ e]; simp⟩) (fun m hm => ?_) (fun b u e => ?_) I.bare
 ·obtain ⟨p,es,ep,ho,r⟩:=hm;exact ⟨p,es,ep,k _ p (fun z => (hf _ z).2.1 rfl) ho,r⟩
 ·by_cases hb : b = T
  ·subst hb; rw [zAi] at e; cases e; exact new
  ·rw [zh hb] at e;refine (I.hok b u e).stay (fun c v hc q => k c v ?_ q) (fun c q => un c _ q) fun c xs q => un c _ q;rcases hc with z | z
   ·rw [z]; exact nch b u e
   ·exact nch c _ z
theorem zI0 {X : Cx} {zB : List (Addr × Obj)} {σ : L2.St} {H : Hp} {s : Shared} {h' : Heap} {t' : Nat} {ch : List Addr} (I : Inv X zB σ H s) (hf : ∀ b ∈ ch,zCT X zB H b)
  (k : ∀ b u,b ∉ ch -> s.heap.get? b = some u -> h'.get? b = some u) : Inv X zB σ H { s with heap:=h',toks:=t' }:=by
 have nch : ∀ b u,H b = some u -> b ∉ ch:=fun b u e z => by rw [(hf b z).1] at e; cases e
 refine I.step (g':=s.gens) (d':=s.drawn) (ch:=ch) (fun b hb => ⟨(hf b hb).2.2.2.1,(hf b hb).2.1,(hf b hb).2.2.2.2.1,(hf b hb).2.2.2.2.2⟩) (fun b u _ _ hc e _ => k b u hc e) (fun b u _ _ hc e _ => ⟨u.slots,k b u hc e⟩)
  (fun b u _ e n => n) (fun b u hc e => ⟨u,k b u hc e⟩) (fun b xs e => e) (fun b p u e => e) (fun b ps e => ⟨#[],by rw [e]; simp⟩) (fun m hm => ?_) (fun b u e => ?_) I.bare
 ·obtain ⟨p,es,ep,ho,r⟩:=hm;exact ⟨p,es,ep,k _ p (fun z => (hf _ z).2.1 rfl) ho,r⟩
 ·refine (I.hok b u e).stay (fun c v hc q => k c v ?_ q) (fun c q => q) fun c xs q => q;rcases hc with z | z
  ·rw [z]; exact nch b u e
  ·exact nch c _ z
def Itz (K : PySem.W.Frag) (a b : Addr) : It :=
 ⟨fun i H => ∃ xs ys x y,SqT K H a xs /\ SqT K H b ys /\ xs[i]? = some x /\ ys[i]? = some y,
  fun i H v H' => ∃ T x y,v = .ref T /\ H T = none /\ H' = upd H T (.tup [x,y]) /\ (∀ xs,SqT K H a xs -> xs[i]? = some x) /\ ∀ ys,SqT K H b ys -> ys[i]? = some y,
  fun i H => ∃ xs ys,SqT K H a xs /\ SqT K H b ys /\ (xs.length <= i \/ ys.length <= i)⟩
theorem zOb {P : Program} {w : World} {K : PySem.W.Frag} {es : List Expr} {ek : Nat} {ep : Pos} {z TI TO i1 i2 a b : Addr} (D : ZipApart z TI TO i1 i2 a b) :
  Turn P w K (.Tuple es ek ep) (Itz K a b) [z,TI,TO,i1,i2] z (fun i h => ZipT h z TI TO i1 i2 a b .none i i) where
 mem:=by simp
 obj:=fun i h Z c hc => by
  obtain ⟨Z0,P0,⟨x,y,O0⟩,⟨o1,e1,_,d1⟩,⟨o2,e2,_,d2⟩⟩:=Z;simp only [zVZ,zVs,zWi] at hc;rcases hc with rfl | rfl | rfl | rfl | rfl
  ·exact ⟨_,Z0,fun v m => by cases m⟩
  ·exact ⟨_,P0,fun v m => by cases m⟩
  ·exact ⟨_,O0,fun v m => by cases m⟩
  ·exact ⟨_,e1,fun v m => by rw [d1] at m; cases m⟩
  ·exact ⟨_,e2,fun v m => by rw [d2] at m; cases m⟩
 keep:=fun i h h' Z k => by
  obtain ⟨Z0,P0,⟨x,y,O0⟩,⟨o1,e1,r1⟩,⟨o2,e2,r2⟩⟩:=Z;exact ⟨k z (by simp) _ Z0,k TI (by simp) _ P0,⟨x,y,k TO (by simp) _ O0⟩,⟨o1,k i1 (by simp) _ e1,r1⟩,⟨o2,k i2 (by simp) _ e2,r2⟩⟩
 item:=by
  intro X hP hw hK hc i zB s σ H E I hf Z hg;subst hP hw hK;obtain ⟨xs,ys,x,y,sa,sb,hx,hy⟩:=hg;obtain ⟨its,rv,p1,z1⟩:=I.tuple sa;obtain ⟨its2,rv2,p2,z2⟩:=I.tuple sb;obtain ⟨u,hu,ru⟩:=rv.get hx;obtain ⟨u2,hu2,ru2⟩:=rv2.get hy;refine zNu D Z (show s.heap.IsTuple a its.toArray from p1) (show s.heap.IsTuple b its2.toArray from p2) (x:=u) (y:=u2) (by simpa using hu) (by simpa using hu2) fun h' Z' N' kp => ⟨_,rfl,?_⟩;refine wpAny_letOwnedTupleGo_zip Z'.z fun h2 Z2 e2 => ?_;have hch : ∀ c ∈ [z,TO,i1,i2],zCT X zB H c:=fun c hm => hf c (by
   simp only [zVZ,zVs,zWi] at hm ⊢;rcases hm with q | q | q | q <;> simp [q])
  have kk : ∀ c o,c ∉ [z,TO,i1,i2] -> s.heap.get? c = some o -> h2.get? c = some o:=fun c o n e => e2.extBut _ _ (fun m => n (by simp [m])) (kp c o n e);have zlt : z < s.heap.objs.size:=zVY Z.z;have NT : IsPair h2 s.heap.objs.size u u2:=e2.extBut _ _ (zWs zlt) N';have hfr : H s.heap.objs.size = none:=I.hok.fresh (zVT _);refine ⟨.ref s.heap.objs.size,upd H s.heap.objs.size (.tup [x,y]),zGe (s:=s) (h':=h2) (t':=s.toks) I hch kk (zVT _) ?_,rfl,⟨_,x,y,rfl,hfr,rfl,fun ws hw => ?_,fun ws hw => ?_⟩,?_,fun c hm => ?_⟩
  ·exact ⟨by show 2 <= sizeLine; decide,[u,u2],.cons ru (.cons ru2 .nil),⟨_,NT,rfl,⟨_,rfl⟩,rfl⟩⟩
  ·rw [I.tuple_inj hw sa]; exact hx
  ·rw [I.tuple_inj hw sb]; exact hy
  ·obtain ⟨_,P1,⟨q1,q2,O1⟩,⟨o1,f1,r1⟩,⟨o2,f2,r2⟩⟩:=Z';exact ⟨Z2,e2.extBut _ _ D.TIz P1,⟨q1,q2,e2.extBut _ _ D.TOz O1⟩,⟨o1,e2.extBut _ _ D.i1z f1,r1⟩,⟨o2,e2.extBut _ _ D.i2z f2,r2⟩⟩
  ·have lt : c < s.heap.objs.size:=by
    obtain ⟨Z0,P0,⟨q1,q2,O0⟩,⟨o1,f1,_⟩,⟨o2,f2,_⟩⟩:=Z;simp only [zVZ,zVs,zWi] at hm;rcases hm with rfl | rfl | rfl | rfl | rfl
    ·exact zVY Z0
    ·exact zVY P0
    ·exact zVY O0
    ·exact zVY f1
    ·exact zVY f2
   rw [zh (zVi lt)];exact (hf c hm).1
 done:=by
  intro X hP hw hK hc i zB s σ H E I hf Z hg;subst hP hw hK;obtain ⟨xs,ys,sa,sb,hz⟩:=hg;obtain ⟨its,rv,p1,z1⟩:=I.tuple sa;obtain ⟨its2,rv2,p2,z2⟩:=I.tuple sb;have l1:=rv.length;have l2:=rv2.length;refine zPc (I.ok.hd hc) D Z (show s.heap.IsTuple a its.toArray from p1) (show s.heap.IsTuple b its2.toArray from p2) ?_ fun h' kp => ⟨rfl,zI0 (s:=s) (h':=h') (t':=s.toks) I (fun c hm => hf c (by
   simp only [zVZ,zVs,zWi] at hm ⊢;rcases hm with q | q | q | q <;> simp [q])) kp⟩
  rcases hz with q | q
  ·exact .inl (by simp; omega)
  ·exact .inr (by simp; omega)
 self:=fun _ _ _ _ _ Z h => wpAny_pyIter_zip Z.z h
section
variable {X : Cx} {a b : Expr} {es : List Expr} {ek : Nat} {ep p pos : Pos}
theorem zTv {ta : TA} (hg : Gl X "zip") (hm : X.mg "zip" = none) (ha : PA X [a,b] ta) (hs : starEach [a,b] X.env = [(false,eval a X.env),(false,eval b X.env)]:=by rfl) (hs2 : starEach [b] X.env = [(false,eval b X.env)]:=by rfl) :
  PI X (.Tuple es ek ep) (.Call (.Name "zip" p) [a,b] [] pos) (fun σ H R => ta σ H fun vs H1 => ∃ l1 l2 xs ys,vs = [.ref l1,.ref l2] /\ SqT X.K H1 l1 xs /\ SqT X.K H1 l2 ys /\ R (Itz X.K l1 l2) H1):=by
 intro zB s σ H R I h;refine Call_ (zEc I hg hm (by rfl) (PyProof.Rows.callWith_type1 (thn (ha pos zB s σ H _ I h) fun us s1 ⟨vs,H1,I1,r1,q1⟩ => ?_) (by rw [hs,hs2]) (by rw [hs2]; rfl)));obtain ⟨l1,l2,xs,ys,rfl,s1',s2',q⟩:=q1;cases r1 with
 | cons r rr =>
  cases rr with
  | cons r' rr =>
   cases rr;cases r;cases r';obtain ⟨its,rv,p1,_⟩:=I1.tuple s1';obtain ⟨its2,rv2,p2,_⟩:=I1.tuple s2';have d1 : l1 < s1.heap.objs.size:=by obtain ⟨_,e,_⟩:=p1; exact zVY e
   have d2 : l2 < s1.heap.objs.size:=by obtain ⟨_,e,_⟩:=p2; exact zVY e
   refine zO1 (show s1.heap.IsTuple l1 its.toArray from p1) (show s1.heap.IsTuple l2 its2.toArray from p2) fun h' Z kp => wpAny_pyIter_zip Z.z ?_;refine ⟨s1.heap.objs.size + 4,[s1.heap.objs.size + 4,s1.heap.objs.size + 2,s1.heap.objs.size + 3,s1.heap.objs.size,s1.heap.objs.size + 1],_,_,H1,rfl,I1.kept (t':=s1.toks) kp,zOb (zipApart_new d1 d2),Z,fun c hc => ?_,q⟩;have ge : s1.heap.objs.size <= c:=by
    simp only [zVZ,zVs,zWi] at hc;rcases hc with rfl | rfl | rfl | rfl | rfl
    ·exact Nat.le_add_right _ 4
    ·exact Nat.le_add_right _ 2
    ·exact Nat.le_add_right _ 3
    ·exact zVT _
    ·exact Nat.le_add_right _ 1
   exact I1.fpOk ge (I1.hok.fresh ge)
def zPb (g : FA) : FI:=fun σ M => match g σ M with
 | some ([.tup xs,.tup ys],M1) => some ((xs.zip ys).map fun q => D.tup [q.1,q.2],none,M1)
 | _ => none
theorem zTT (hg : Gl X "zip") (hm : X.mg "zip" = none) (ha : QA X [a,b] g) (hs : starEach [a,b] X.env = [(false,eval a X.env),(false,eval b X.env)]:=by rfl) (hs2 : starEach [b] X.env = [(false,eval b X.env)]:=by rfl) :
  QI X (.Tuple es ek ep) (.Call (.Name "zip" p) [a,b] [] pos) (zPb g):=.mk <| PI.imp (zTv hg hm ha.un hs hs2) fun τ H R zz => by
 obtain ⟨L,σ,M,xs,gd,M',c,rs,hf,q⟩:=zz;unfold zPb at hf;split at hf
 ·rename_i ds es' M1 e1;cases hf;refine ⟨L,σ,M,_,_,c,rs,e1,fun L1 H1 vs s1 c1 r1 => ?_⟩;obtain ⟨v,v',rfl,r2,r3⟩:=r1.two;unfold Rep at r2 r3;obtain ⟨l1,ws1,rfl,h1,q1⟩:=r2;obtain ⟨l2,ws2,rfl,h2,q2⟩:=r3;refine ⟨l1,l2,ws1,ws2,rfl,.of h1,.of h2,q L1 H1 _ s1 c1 fun L2 H2 M2 s2 c2 _ => ?_⟩;have k1:=s2.tup l1 ws1 h1;have k2:=s2.tup l2 ws2 h2;have p1:=q1.stp s2;have p2:=q2.stp s2;refine ⟨fun i d hd => ?_,⟨ws1,ws2,.of k1,.of k2,?_⟩⟩
  ·rw [zVk] at hd;cases e2 : (ds.zip es')[i]? with
   | none => rw [e2] at hd; cases hd
   | some pr =>
    rw [e2] at hd;cases hd;obtain ⟨f1,f2⟩:=List.getElem?_zip_eq_some.mp e2;obtain ⟨u,hu,ru⟩:=p1.get f1;obtain ⟨u2,hu2,ru2⟩:=p2.get f2;refine ⟨⟨ws1,ws2,u,u2,.of k1,.of k2,hu,hu2⟩,fun v H3 hy => ?_⟩;obtain ⟨T,x,y,rfl,hT,rfl,hxx,hyy⟩:=hy;have ex:=hxx ws1 (.of k1);have ey:=hyy ws2 (.of k2);rw [hu] at ex; cases ex;rw [hu2] at ey; cases ey;exact ⟨fun a o e => by rw [zh (zAO e hT)]; exact e,Rep.newTup hT (.cons ru (.cons ru2 .nil))⟩
  ·rw [zVW,List.length_zip,p1.length,p2.length];omega
 ·cases hf
def zKs (i j : Nat) : FG:=fun d σ => match d with
 | .tup [x,y] => some ((σ.set i (some x)).set j (some y))
 | _ => none
abbrev gP2 (K : PySem.W.Frag) (i j : Nat) : TG:=zTK K 2 (zJW (zCq i) (zJW (zCq j) zSu))
theorem zI9 {K : PySem.W.Frag} {own : List Nat} {i j : Nat} (hi : i ∈ own) (hj : j ∈ own) : zFp own (gP2 K i j) (zKs i j):=by
 intro L H σ σ' τ τ0 d v Q rs ex r hf q;unfold zKs at hf;split at hf
 ·rename_i x y;cases hf;unfold Rep at r;obtain ⟨a,vs,rfl,e,r⟩:=r;obtain ⟨v1,v2,rfl,r1,r2⟩:=r.two;exact ⟨a,_,rfl,.of e,rfl,v1,[v2],rfl,v2,[],rfl,rfl,q _ ((rs.set r1).set r2) ((ex.set hi).set hj)⟩
 ·cases hf
end
section
variable {X : Cx} {a b c e : Expr} {es : List Expr} {pos p p2 pos2 : Pos} {f g h : FE}
theorem zM4 : ∀ {bs : List Bool} {its : List Value},zo (bs.map V.bl) its -> ∀ (i : Nat) v,its[i]? = some v -> ∃ k,bs[i]? = some k /\ v = .bool k
 | [],_,.nil,_,_,h => by simp at h
 | k :: bs,_,.cons r t,0,v,h => by
  simp at h; subst h;exact ⟨k,rfl,r⟩
 | k :: bs,_,.cons r t,i + 1,v,h => by
  obtain ⟨k',e1,e2⟩:=zM4 t i v (by simpa using h);exact ⟨k',by simpa using e1,e2⟩
theorem zMB (bs : List Bool) : ((List.range bs.length).all fun i => (bs[i]?).getD true) = bs.all id:=by
 rw [Bool.eq_iff_iff,zVy,zVy];constructor
 ·intro q k hk;obtain ⟨i,hi,rfl⟩:=List.getElem_of_mem hk;have:=q i (zV1.mpr hi);rw [zVR hi] at this;exact this
 ·intro q i hi;rw [zVR (zV1.mp hi)];exact q _ (zVv _)
def zUZ (K : PySem.W.Frag) (F : List Bool -> Bool) : List V -> Hp -> VK -> Prop:=fun xs H Q => ∃ q bs,xs = [.ref q] /\ SqL K H q (bs.map V.bl) /\ Q (.bl (F bs)) H
theorem zOK (hc : X.calm = true) : zCr X (.builtin "all") (zUZ X.K fun bs => bs.all id):=by
 intro zB s σ H xs us Q I r h;obtain ⟨l,bs,rfl,hq,q⟩:=h;obtain ⟨u,rfl,rx⟩:=zEZ r;cases rx;obtain ⟨its,rv,pl,_⟩:=I.list hq;have hlt : l < s.heap.objs.size:=by obtain ⟨_,z,_⟩:=pl.isList; exact zVY z
 refine call_all_walk (wpAny_pyIter_list pl.isList ⟨s.heap.objs.size,[s.heap.objs.size,l],[s.heap.objs.size],its.toArray.size,_,_,fun i => (bs[i]?).getD true,rfl,Walks.list (A:=X.A.in1) (I.ok.hd hc) _ l (zVi hlt) its.toArray,
  ⟨⟨_,zVX _ rfl,rfl,rfl⟩,pl.isList.push _⟩,fun i v s' Q' E' hP hQ => ?_,fun h' tk hk => ?_⟩)
 ·obtain ⟨k,z,rfl⟩:=zM4 rv i v (by simpa using hP);dsimp only at hQ; rw [z] at hQ;exact zWZ hQ
 ·have hl:=rv.length;rw [zVW] at hl;rw [zVV,<- hl,zMB];exact ⟨.bl _,H,I.kept (t':=tk) fun b o z => hk b o (fun m => by rw [zVp.mp m] at z; exact zV5 _ (zVY z)) (zVO _ z),rfl,q⟩
def zGp : List D -> Option (List Bool)
 | [] => some []
 | .bl k :: r => match zGp r with
  | some bs => some (k :: bs)
  | none => none
 | _ => none
theorem zMv : ∀ {ds : List D} {bs : List Bool} {vs : List V},zGp ds = some bs -> zT L H ds vs -> vs = bs.map V.bl
 | [],bs,vs,e,r => by cases e; unfold zT at r; exact r
 | d :: ds,bs,vs,e,r => by
  unfold zT at r;obtain ⟨v,r',rfl,r1,r2⟩:=r;cases d with
  | bl k =>
   unfold zGp at e;cases q : zGp ds with
   | none => rw [q] at e; cases e
   | some bs' =>
    rw [q] at e; cases e;unfold Rep at r1;rw [r1,zMv q r2]; rfl
  | _ => cases e
def zOX (F : List Bool -> Bool) : KB:=fun xs M => match xs with
 | [x] => match zBg M x with
  | some ds => match zGp ds with
   | some bs => some (.dat (.bl (F bs)),M)
   | none => none
  | none => none
 | _ => none
theorem zRx {K : PySem.W.Frag} {F : List Bool -> Bool} : zHw K (zUZ K F) (zOX F):=by
 intro L M M' H H0 xs d vs Q c r hk q;unfold zOX at hk;split at hk
 ·rename_i x;split at hk
  ·rename_i ds e1;split at hk
   ·rename_i bs e2;cases hk;obtain ⟨v,rfl,r1⟩:=r.one;obtain ⟨l,ws,rfl,h1,r2⟩:=zBD c r1 e1;have:=zMv e2 r2;subst this;exact ⟨l,bs,rfl,.inl h1,q L H _ (.refl L H) c (zBs (L:=L) (H:=H))⟩
   ·cases hk
  ·cases hk
 ·cases hk
abbrev zNw : KB:=zOX fun bs => bs.all id
section
variable {fa : FAE}
theorem zPn (hc : X.calm = true) (hg : Gl X "all") (hm : X.mg "all" = none) (ha : QAE X [e] fa) (he : starEach [e] X.env = (false,eval e X.env) :: starEach [] X.env:=by rfl) (hpl : (backTo pos (starEach [] X.env)).any (·.1) = false:=by rfl) : QE X (.Call (.Name "all" p) [e] [] pos) (fB zNw fa) :=
 zF0 zRx (zOK hc) (by rfl) hg hm ha (by decide) (by decide) he hpl
end
theorem zUQ (h : zBg M x = some ds) (hb : zGp ds = some bs) : Ok (zOX F [x] M) P ↔ P (.dat (.bl (F bs))) M:=by
 have : zOX F [x] M = some (.dat (.bl (F bs)),M):=by unfold zOX; dsimp only; rw [h]; dsimp only; rw [hb]
 rw [this,zAE]
theorem zJC : ∀ bs : List Bool,zGp (bs.map D.bl) = some bs
 | [] => rfl
 | k :: bs => by rw [zVg]; unfold zGp; rw [zJC bs]
def zLn : V -> Bool
 | .non => true
 | .bl _ => true
 | _ => false
theorem zQL : OpR X (compareOp .IsNot) (fun x y H Q => zLn y = true /\ Q (.bl (!decide (x = y))) H):=by
 intro zB s σ H x y v u Q I rx ry h;obtain ⟨hp,q⟩:=h;cases y with
 | non =>
  cases ry;refine wpAny_isNot_plain (by cases x <;> first | (cases rx; rfl) | (obtain ⟨t,rfl⟩:=rx; rfl)) (zAA I q ?_);cases x <;> first | (cases rx; rfl) | (obtain ⟨t,rfl⟩:=rx; rfl)
 | bl k =>
  cases ry;refine wpAny_isNot_plain (by cases x <;> first | (cases rx; rfl) | (obtain ⟨t,rfl⟩:=rx; rfl)) (zAA I q ?_);cases x with
  | bl k' => cases rx; cases k <;> cases k' <;> rfl
  | _ => first | (cases rx; rfl) | (obtain ⟨t,rfl⟩:=rx; rfl)
 | _ => cases hp
def isD : EV -> D -> Option Bool
 | x,.non => match x with
  | .dat .non => some true
  | _ => some false
 | x,.bl k => match x with
  | .dat (.bl k') => some (decide (k' = k))
  | _ => some false
 | _,_ => none
def kIs (neg : Bool) : K2:=fun x y M => match y with
 | .dat d => match isD x d with
  | some k => some (.dat (.bl (if neg then !k else k)),M)
  | none => none
 | _ => none
theorem zQ8 (rx : zk H0 L H x v) (ry : Rep L H d w) (e : isD x d = some k) : zLn w = true /\ decide (v = w) = k:=by
 cases d with
 | non =>
  unfold Rep at ry; subst ry;refine ⟨rfl,?_⟩;cases x with
  | fl xs => obtain ⟨q,vs,rfl,_⟩:=rx; cases e; rfl
  | dat d' =>
   cases d' with
   | non => unfold zk Rep at rx; subst rx; cases e; rfl
   | bl _ => unfold zk Rep at rx; subst rx; cases e; rfl
   | int _ => unfold zk Rep at rx; subst rx; cases e; rfl
   | str _ => unfold zk Rep at rx; subst rx; cases e; rfl
   | tup _ => unfold zk Rep at rx; obtain ⟨q,vs,rfl,_⟩:=rx; cases e; rfl
   | ref _ => unfold zk Rep at rx; obtain ⟨q,rfl,_⟩:=rx; cases e; rfl
 | bl k' =>
  unfold Rep at ry; subst ry;refine ⟨rfl,?_⟩;cases x with
  | fl xs => obtain ⟨q,vs,rfl,_⟩:=rx; cases e; rfl
  | dat d' =>
   cases d' with
   | non => unfold zk Rep at rx; subst rx; cases e; rfl
   | bl j => unfold zk Rep at rx; subst rx; cases e; cases j <;> cases k' <;> rfl
   | int _ => unfold zk Rep at rx; subst rx; cases e; rfl
   | str _ => unfold zk Rep at rx; subst rx; cases e; rfl
   | tup _ => unfold zk Rep at rx; obtain ⟨q,vs,rfl,_⟩:=rx; cases e; rfl
   | ref _ => unfold zk Rep at rx; obtain ⟨q,rfl,_⟩:=rx; cases e; rfl
 | _ => cases e
theorem zQK (h : kIs neg x y M = some (r,M')) : ∃ d k,y = .dat d /\ isD x d = some k /\ r = .dat (.bl (if neg then !k else k)) /\ M' = M:=by
 unfold kIs at h;split at h
 ·rename_i d;split at h
  ·rename_i k e1; cases h; exact ⟨d,k,rfl,e1,rfl,rfl⟩
  ·cases h
 ·cases h
theorem zQM {K : PySem.W.Frag} : zCt K (fun x y H Q => zLn y = true /\ Q (.bl (!decide (x = y))) H) (kIs true):=by
 intro L M M' H H0 x y d v w Q cc rx ry hk q;obtain ⟨d',k,rfl,e,rfl,rfl⟩:=zQK hk;obtain ⟨h1,h2⟩:=zQ8 rx ry e;refine ⟨h1,?_⟩;rw [h2];exact q L H _ (.refl L H) cc (zBs (L:=L) (H:=H))
theorem zNN (h1 : QE X a f) (h2 : QE X b g) : QT X (.Compare a [.IsNot] [b] pos) (tst (fOp (kIs true) f g)):=zGQ zQM zQL h1 h2 (zEf _)
def zGL (k k' : K2) (f g h : FE) : FE:=fun σ M => match f σ M with
 | some (x,M1) => match g σ M1 with
  | some (y,M2) => match k x y M2 with
   | some (.dat (.bl true),M3) => match h σ M3 with
    | some (w,M4) => k' y w M4
    | none => none
   | some (.dat (.bl false),M3) => some (.dat (.bl false),M3)
   | _ => none
  | none => none
 | none => none
theorem zMV {K : PySem.W.Frag} {r r' : R2} {k k' : K2} (hk : zCt K r k) (hk' : zCt K r' k') {τ : Sv} {H : Hp} {Q : VK} (z : trE K (zGL k k' f g h) τ H Q) : zOt r r' (trE K f) (trE K g) (trE K h) τ H Q:=by
 obtain ⟨L,σ,M,d,M',cc,rs,hf,q⟩:=z;unfold zGL at hf;split at hf
 ·rename_i x M1 e1;split at hf
  ·rename_i y M2 e2;refine ⟨L,σ,M,_,_,cc,rs,e1,fun L1 H1 v s1 c1 r1 => ⟨L1,σ,M1,_,_,c1,rs.stp s1,e2,fun L2 H2 w s2 c2 r2 => ?_⟩⟩;split at hf
   ·rename_i M3 e3;split at hf
    ·rename_i u M4 e4;refine hk (H0:=H) c2 (r1.stp s2) (r2.back s1 cc s2.sub) e3 fun L3 H3 t s3 c3 r3 => ⟨true,zBf r3,zGu ?_⟩;refine ⟨L3,σ,M3,_,_,c3,rs.stp ((s1.trans s2).trans s3),e4,fun L4 H4 w4 s4 c4 r4 => ?_⟩;have s13:=(s1.trans s2).trans s3;refine hk' (H0:=H) c4 (((r2.back s1 cc s2.sub).stp s3).stp s4) (r4.back s13 cc s4.sub) hf fun L5 H5 u5 s5 c5 r5 => ?_;exact q L5 H5 u5 ((s13.trans s4).trans s5) c5 (r5.back (s13.trans s4) cc s5.sub)
    ·cases hf
   ·rename_i M3 e3;cases hf;refine hk (H0:=H) c2 (r1.stp s2) (r2.back s1 cc s2.sub) e3 fun L3 H3 t s3 c3 r3 => ⟨false,zBf r3,zGq ?_⟩;exact q L3 H3 _ ((s1.trans s2).trans s3) c3 (by have:=zBf r3; subst this; exact r3)
   ·cases hf
  ·cases hf
 ·cases hf
theorem zRX (hk : zCt X.K r k) (hk' : zCt X.K r' k') (ho : OpR X (compareOp op) r) (ho' : OpR X (compareOp op') r') (h1 : QE X a f) (h2 : QE X b g) (h3 : QE X c h)
  (hm : lastMarks [op,op'] [b,c] = false:=by with_unfolding_all rfl) : QE X (.Compare a [op,op'] [b,c] pos) (zGL k k' f g h):=.mk <| PE.imp (zPT ho ho' h1.un h2.un h3.un hm) fun _ _ _ z => zMV hk hk' z
section
variable {M : Mem} {σ : Sd} {P : EV -> Mem -> Prop}
theorem zPY : Ok (zGL k k' f g h σ M) P ↔ Ok (f σ M) fun x M1 => Ok (g σ M1) fun y M2 => Ok (k x y M2) (blP fun t M3 => if t then Ok (h σ M3) fun w M4 => Ok (k' y w M4) P else P (.dat (.bl false)) M3):=by
 unfold zGL;constructor
 ·rintro ⟨x,M1,z,q⟩;split at z
  ·rename_i y M2 e1;split at z
   ·rename_i y' M3 e2;split at z
    ·rename_i M4 e3;split at z
     ·rename_i w M5 e4;exact ⟨_,_,e1,_,_,e2,_,_,e3,by rw [zEE,zVc rfl]; exact ⟨_,_,e4,_,_,z,q⟩⟩
     ·cases z
    ·rename_i M4 e3;cases z;exact ⟨_,_,e1,_,_,e2,_,_,e3,by rw [zEE]; simpa using q⟩
    ·cases z
   ·cases z
  ·cases z
 ·rintro ⟨x,M1,e1,y,M2,e2,t,M3,e3,q⟩;rw [e1]; dsimp only; rw [e2]; dsimp only; rw [e3];cases t with
  | fl _ => exact q.elim
  | dat d =>
   cases d with
   | bl t =>
    rw [zEE] at q;cases t with
    | true =>
     rw [zVc rfl] at q;obtain ⟨w,M4,e4,q⟩:=q;dsimp only; rw [e4]; exact q
    | false => exact ⟨_,_,rfl,by simpa using q⟩
   | _ => exact q.elim
end
def zOS (f : FE) : FE:=fun σ M => match f σ M with
 | some (.dat (.int i),M1) => some (.dat (.int (-i)),M1)
 | _ => none
theorem zSP (h1 : QE X a f) : QE X (.UnaryOp .USub a pos) (zOS f):=.mk <| PE.imp (zUe zTs h1.un) fun τ H Q zz => by
 obtain ⟨L,σ,M,d,M',cc,rs,hf,q⟩:=zz;unfold zOS at hf;split at hf
 ·rename_i i M1 e1;cases hf;refine ⟨L,σ,M,_,_,cc,rs,e1,fun L1 H1 v s1 c1 r1 => ?_⟩;exact ⟨i,by unfold zk Rep at r1; exact r1,q L1 H1 _ s1 c1 (zAj (L:=L1) (H:=H1))⟩
 ·cases hf
def zIn : KB:=fun xs M => match xs with
 | [x] => match zAc M x with
  | some ys => some (.fl ys,M)
  | none => none
 | _ => none
theorem zP2 : zHw X.K (fun xs H Q => ∃ q ys,xs = [.ref q] /\ (SqL X.K H q ys \/ SqT X.K H q ys) /\ ∀ l,H l = none -> Q (.ref l) (upd H l (.lst ys))) zIn:=by
 intro L M M' H H0 xs d vs Q cc r hk q;unfold zIn at hk;split at hk
 ·rename_i x;split at hk
  ·rename_i ys e1;cases hk;obtain ⟨v,rfl,r1⟩:=r.one;obtain ⟨l,ws,rfl,hs,r2⟩:=zG9 cc r1 e1;refine ⟨l,ws,rfl,hs,fun k hk => ?_⟩;exact q L _ _ (.upd hk) (cc.upd hk) (zk.newLst (.refl L H) cc cc hk r2)
  ·cases hk
 ·cases hk
theorem zTU (hg : Gl X "list") (hm : X.mg "list" = none) (ha : QAE X [e] fa) (he : starEach [e] X.env = (false,eval e X.env) :: starEach [] X.env:=by rfl) (hpl : (backTo pos (starEach [] X.env)).any (·.1) = false:=by rfl) : QE X (.Call (.Name "list" p) [e] [] pos) (fB zIn fa) :=
 zIC zP2 zJx (by rfl) hg hm ha (by decide) (by decide) he hpl
end
open AutoSeq1 (wpAny_loadPart')
section
variable {prog : Program} {w : World} {A : Around} {E : Value -> Shared -> Prop} {s : Shared}
theorem zQg {r : Addr} {lo hi : Int} {t u v : Tok} {n : Nat} {Q : List Value -> Shared -> Prop} (hh : A.handled = none) (R : IsRange s.heap r lo hi 1 t u v) (sm : Builtin.Range.small lo hi 1 = true) (hn : Builtin.Range.rangeSize lo hi 1 = n) (hz : n <= 2 ^ 24)
  (q : ∀ h' tk (acc : Array Value),(∀ b o,s.heap.get? b = some o -> h'.get? b = some o) -> ItemsOf (fun i v => ∃ t,v = .int (lo + i * 1) t) acc n -> Q acc.toList { s with heap:=h',toks:=tk }) : wpAny (model prog w) A (collect (.ref r)) Q E s:=by
 unfold collect;refine zVN (wpAny_runValue (zWS PySem.F.entry_proto_collect ?_));rw [zWI PySem.F.plain_proto_collect _];refine zVN (m:=newList []) (zVq (zVP ⟨plainId_quiet PySem.F.plain_list_iadd _,zWS PySem.F.entry_list_iadd ?_⟩));rw [zWI PySem.F.plain_list_iadd _];have S0 : (s.heap.push { cls:=.type "list", data:=.seq ([] : List Value).toArray }).get? s.heap.objs.size = some { cls:=.type "list", data:=.seq #[] 0 }:=zVX _ rfl
 have fin : ∀ (h' : Heap) (tk : Nat) (acc : Array Value) (k : Nat),(∀ b o,b ≠ s.heap.objs.size -> (s.heap.push { cls:=.type "list", data:=.seq ([] : List Value).toArray }).get? b = some o -> h'.get? b = some o) ->
   h'.get? s.heap.objs.size = some { cls:=.type "list", dict:=none,data:=.seq acc k,slots:=#[] } -> ItemsOf (fun i v => ∃ t,v = .int (lo + i * 1) t) acc n ->
   wpAny (model prog w) A (match Value.ref s.heap.objs.size with
    | Value.ref a => do
     match (<- load a).data with
      | Data.seq xs _ => pure xs.toList
      | _ => unsupported "internal:collect"
    | _ => unsupported "internal:collect") Q E { s with heap:=h',toks:=tk }:=fun h' tk acc k kp e it => by
  refine zVN (m:=load s.heap.objs.size) (wpAny_load e (zVP (q h' tk acc (fun b o m => kp b o (zVi (zVY m)) (zVO _ m)) it)))
 refine zVt (wpAny_extend_range (A:=A) (s:={ s with heap:=s.heap.push { cls:=.type "list", data:=.seq ([] : List Value).toArray } })
  (R:=fun r s' => r = .ok (.ret (.ref s.heap.objs.size)) /\ ∃ h' tk acc k,s' = { s with heap:=h',toks:=tk } /\ (∀ b o,b ≠ s.heap.objs.size -> (s.heap.push { cls:=.type "list", data:=.seq ([] : List Value).toArray }).get? b = some o -> h'.get? b = some o) /\
   h'.get? s.heap.objs.size = some { cls:=.type "list", dict:=none,data:=.seq acc k,slots:=#[] } /\ ItemsOf (fun i v => ∃ t,v = .int (lo + i * 1) t) acc n)
  hh (zVO _ R) sm hn hz s.heap.objs.size (.ref s.heap.objs.size) 0 S0 fun h' tk acc k kp e it => ⟨rfl,h',tk,acc,k,rfl,kp,e,it⟩) (fun f s' z => ?_) (fun e s' z => ?_)
 ·cases f with
  | done f =>
   obtain ⟨e,h',tk,acc,k,rfl,z1,z2,z3⟩:=z;cases e;exact fin h' tk acc k z1 z2 z3
  | again c' => exact ⟨z.1,codeAny_mono z.2 fun r s'' z => by obtain ⟨rfl,h',tk,acc,k,rfl,z1,z2,z3⟩:=z; exact fin h' tk acc k z1 z2 z3⟩
 ·exact absurd z.1 (by simp)
end
theorem zJo (r : Addr) (lo hi : Int) (t u v : Tok) (n : Nat) (sm : Builtin.Range.small lo hi 1 = true) (hn : Builtin.Range.rangeSize lo hi 1 = n) (hz : n <= 2 ^ 24) :
  Meets (Builtin.«tuple.__new__» ⟨[.type "tuple", .ref r],[]⟩) (fun A R s => A.handled = none /\ IsRange s.heap r lo hi 1 t u v /\
   ∀ (h' : Heap) (tk : Nat) (acc : Array Value),(∀ b o,s.heap.get? b = some o -> h'.get? b = some o) -> ItemsOf (fun i v => ∃ t,v = .int (lo + i * 1) t) acc n -> R (.ok (.ret (.ref h'.objs.size))) { s with heap:=h'.push { cls:=.type "tuple", data:=.seq acc },toks:=tk }) :=
 .of_wp fun prog w A R s h => by
  obtain ⟨hp,g,d,tk,os⟩:=s;obtain ⟨hh,Ra,h⟩:=h;have h1:=sub_tuple_self;have h2:=init_tuple_lookup;have h3:=madeHere_tuple;have T : Shared.TypeIs ⟨hp,g,d,tk,os⟩ (.ref r) "range" := ⟨_,Ra,rfl⟩;wp_walk using wpAny_loadPart' Ra,wpAny_typeOf T,zQg (show A.in1.handled = none from hh) Ra sm hn hz;intro h' tk' acc kp it;refine zVN (m:=Builtin.Tuple.tupleExact acc.toList.toArray) ?_;unfold Builtin.Tuple.tupleExact;have sz : acc.toList.toArray.size <= sizeLine:=by rw [zVV,zV6,it.1,sizeLine_eq]; omega
  refine zVq (zVP ⟨_,rfl,?_⟩) sz;have e : acc.toList.toArray = acc:=by simp
  rw [e];exact h h' tk' acc kp it
section
variable {X : Cx} {a e : Expr} {es : List Expr} {pos p p2 pos2 : Pos} {f : FE}
theorem zQH : zCr X (.type "range") (fun xs H Q => ∃ j,xs = [.int j] /\ ∀ l,H l = none -> Q (.ref l) (upd H l (.rng 0 j))):=by
 intro zB s σ H xs us Q I r h;obtain ⟨j,rfl,q⟩:=h;obtain ⟨u,rfl,rx⟩:=zEZ r;obtain ⟨t,rfl⟩:=rx;refine call_range_1 ⟨.ref s.heap.objs.size,_,I.laid (fun b o z => zVO _ z) (zVT _) ?_,rfl,q _ (I.hok.fresh (zVT _))⟩;exact ⟨_,_,_,zVX _ rfl⟩
def upV (n : Nat) : List V:=(List.range n).map fun (k : Nat) => V.int k
theorem zOi (h : ItemsOf (fun i v => ∃ t,v = .int ((0 : Int) + i * 1) t) acc n) : zo (upV n) acc.toList:=by
 obtain ⟨hz,hi⟩:=h;have : ∀ (xs : List Value) (k : Nat),(∀ j v,xs[j]? = some v -> ∃ t,v = Value.int ((k + j : Nat) : Int) t) -> zo ((List.range' k xs.length).map fun (k : Nat) => V.int k) xs:=by
  intro xs;induction xs with
  | nil => intro k _; exact .nil
  | cons x xs ih =>
   intro k hk;rw [zVu,List.range'_succ,zVg];refine .cons ?_ (ih (k + 1) fun j v e => ?_)
   ·obtain ⟨t,e⟩:=hk 0 x rfl;exact ⟨t,by simpa using e⟩
   ·obtain ⟨t,e'⟩:=hk (j + 1) v (by simpa using e);exact ⟨t,by rw [e']; congr 2; omega⟩
 have q:=this acc.toList 0 (fun j v e => by
  obtain ⟨t,e'⟩:=hi j v (by simpa using e);exact ⟨t,by rw [e']; congr 1; omega⟩)
 unfold upV;rw [List.range_eq_range'];rw [zV6,hz] at q;exact q
theorem zOa (h0 : 0 <= j) (h1 : j <= 16777216) : Builtin.Range.small 0 j 1 = true /\ Builtin.Range.rangeSize 0 j 1 = (j.toNat : Int):=by
 refine ⟨small_one (by omega) (by omega) (by omega) (by omega),?_⟩;rw [rangeSize_one]; split <;> omega
def zVC (mk : List V -> HO) : List V -> Hp -> VK -> Prop:=fun xs H Q => ∃ r j,xs = [.ref r] /\ H r = some (.rng 0 j) /\ 0 <= j /\ j <= 16777216 /\ ∀ l,H l = none -> Q (.ref l) (upd H l (mk (upV j.toNat)))
theorem zLy (n : Nat) : (upV n).length = n:=by unfold upV; simp
theorem zOA (hc : X.calm = true) : zCr X (.type "tuple") (zVC HO.tup):=by
 intro zB s σ H xs us Q I r h;obtain ⟨l,j,rfl,hr,h0,h1,q⟩:=h;obtain ⟨u,rfl,rx⟩:=zEZ r;cases rx;obtain ⟨t,u,v,er⟩:=(show zAh X.prog X.w H s.heap l (.rng 0 j) from I.hok l _ hr);obtain ⟨sm,sz⟩:=zOa h0 h1
 refine callType_new PySem.F.called_tuple (by decide) (PySem.F.typeCall_tuple_1 _) (PySem.F.newCall_tuple_1 _) (fun obj => PySem.F.args_object_init_2 obj _) PySem.F.entry_tuple_new (zJo l 0 j t u v j.toNat sm sz (by omega))
  ⟨I.ok.hd hc,er,fun h' tk acc kp it => ⟨⟨_,zVX _ rfl,rfl⟩,?_⟩⟩
 have I1 : Inv X zB σ H { s with heap:=h',toks:=tk }:=I.kept kp;refine ⟨.ref h'.objs.size,_,I1.laid (t':=tk) (fun b o z => zVO _ z) (zVT _) ?_,rfl,q _ (I1.hok.fresh (zVT _))⟩;exact ⟨by rw [zLy,sizeLine_eq]; omega,acc.toList,zOi it,by simpa using zCo.new h' acc⟩
def upD (n : Nat) : List D:=(List.range n).map fun (k : Nat) => D.int k
theorem zQ0 (n : Nat) : zT L H (upD n) (upV n):=by
 have : ∀ xs : List Nat,zT L H (xs.map fun (k : Nat) => D.int k) (xs.map fun (k : Nat) => V.int k):=by
  intro xs;induction xs with
  | nil => exact .nil
  | cons x xs ih => exact .cons zAj ih
 exact this _
def zGn (f : FE) : FE:=fun σ M => match f σ M with
 | some (.dat (.int j),M1) => if 0 <= j /\ j <= 16777216 then some (.dat (.tup (upD j.toNat)),M1) else none
 | _ => none
theorem zQJ (hc : X.calm = true) (hg : Gl X "tuple") (hm : X.mg "tuple" = none) (hg2 : Gl X "range") (hm2 : X.mg "range" = none) (ha : QE X a f)
  (he : starEach [Expr.Call (.Name "range" p2) [a] [] pos2] X.env = (false,eval (Expr.Call (.Name "range" p2) [a] [] pos2) X.env) :: starEach [] X.env:=by rfl) (hpl : (backTo pos (starEach [] X.env)).any (·.1) = false:=by rfl)
  (he2 : starEach [a] X.env = (false,eval a X.env) :: starEach [] X.env:=by rfl) (hpl2 : (backTo pos2 (starEach [] X.env)).any (·.1) = false:=by rfl) :
  QE X (.Call (.Name "tuple" p) [.Call (.Name "range" p2) [a] [] pos2] [] pos) (zGn f) :=
 .mk <| PE.imp (zGZ (zOA hc) hg hm (by rfl) (zEo (zGZ zQH hg2 hm2 boot_range (zEo ha.un zHG he2) (by decide) (by decide) he2 hpl2) zHG he) (by decide) (by decide) he hpl) fun τ H Q zz => by
  obtain ⟨L,σ,M,d,M',c,rs,hf,q⟩:=zz;unfold zGn at hf;split at hf
  ·rename_i j M1 e1;split at hf
   ·rename_i hb;cases hf;refine ⟨L,σ,M,_,_,c,rs,e1,fun L1 H1 v s1 c1 r1 => ⟨j,by unfold zk Rep at r1; rw [r1],fun l hl => ⟨l,j,rfl,zAi,hb.1,hb.2,fun k hk => ?_⟩⟩⟩;exact q L1 _ _ ((s1.trans (.upd hl)).trans (.upd hk)) ((c1.upd hl).upd hk) (Rep.newTup hk (zQ0 _))
   ·cases hf
  ·cases hf
section
variable {M : Mem} {σ : Sd} {P : EV -> Mem -> Prop}
theorem zRP (e : f σ M = some (.dat (.int j),M)) (h0 : 0 <= j) (h1 : j <= 16777216) (q : P (.dat (.tup (upD j.toNat))) M) : Ok (zGn f σ M) P:=by
 refine ⟨_,_,?_,q⟩;unfold zGn; rw [e]; dsimp only; rw [zVc ⟨h0,h1⟩]
end
end
def zFy : Expr -> Bool
 | .Starred .. => false
 | _ => true
theorem zC (h : zFy e = true) : starEach (e :: es) env = (false,eval e env) :: starEach es env:=by
 cases e <;> first | rfl | cases h
theorem zAS (h : zFy e = true) : starEach [e] env = [(false,eval e env)]:=zC h
theorem zOm (h : zFy e = true) (h' : zFy e' = true) : starEach [e,e'] env = [(false,eval e env),(false,eval e' env)]:=by rw [zC h,zAS h']
theorem zO : ∀ {es : List Expr},es.all zFy = true -> (backTo pos (starEach es env)).any (·.1) = false
 | [],_ => rfl
 | e :: es,h => by
  rw [List.all_cons,zVx] at h;rw [zC h.1];have:=zO (pos:=pos) (env:=env) h.2;simpa [backTo] using this
theorem Cor.pushO {K : PySem.W.Frag} {L : List Addr} {M : List MO} {H : Hp} {p : Addr} {o : HO} {m : MO} (c : Cor K L M H) (h : H p = none) (new : zHy K (L ++ [p]) (L2.upd H p o) p m) :
  Cor K (L ++ [p]) (M ++ [m]) (L2.upd H p o) /\ Stp L H (L ++ [p]) (L2.upd H p o):=by
 have hp : p ∉ L:=fun z => by obtain ⟨o,e⟩:=c.tracked z; rw [h] at e; cases e
 have st : Stp L H (L ++ [p]) (L2.upd H p o):=by
  refine ⟨⟨[p],rfl⟩,fun a ha => ?_,fun a o e _ => ?_,fun a o e => ?_,fun a o u e => ?_⟩
  ·rcases zVn.mp ha with z | z
   ·exact .inl z
   ·have : a = p:=by simpa using z
    subst this; exact .inr h
  all_goals (rw [zh (zAO e h)]; exact e)
 refine ⟨⟨by simp [c.len],?_,fun n a m e1 e2 => ?_⟩,st⟩
 ·rw [zWb];exact ⟨c.nd,by simp,fun a ha b hb z => by
   have : b = p:=by simpa using hb
   subst this; subst z; exact hp ha⟩
 ·by_cases hn : n < L.length
  ·rw [zVU hn] at e1;rw [zVU (by rw [<- c.len]; exact hn)] at e2;exact (c.obj n a m e1 e2).stp st fun o e => by rw [zh (zAO e h)]; exact e
  ·have hn' : n = L.length:=by
    have:=(zVQ.mp e1).1;rw [zVd] at this;simp at this; omega
   subst hn';simp at e1;rw [c.len] at e2;simp at e2;subst e1; subst e2;exact new
theorem Cor.put {K : PySem.W.Frag} {L : List Addr} {M : List MO} {H : Hp} {n : Nat} {p : Addr} {o o' : HO} {m : MO} (c : Cor K L M H) (h1 : L[n]? = some p) (ho : H p = some o) (ht : ∀ xs,o ≠ .tup xs) (hf : ∀ a u,o ≠ .frz a u)
  (new : Stp L H L (L2.upd H p o') -> zHy K L (L2.upd H p o') p m) : Cor K L (M.set n m) (L2.upd H p o') /\ Stp L H L (L2.upd H p o'):=by
 have st : Stp L H L (L2.upd H p o'):=by
  refine ⟨⟨[],by simp⟩,fun a ha => .inl ha,fun a o e ha => ?_,fun a xs e => ?_,fun a b u e => ?_⟩
  ·rw [zh (show a ≠ p from fun z => ha (by rw [z]; exact List.mem_of_getElem? h1))]; exact e
  ·rw [zh (zJO e ho (fun z => ht xs z.symm))]; exact e
  ·rw [zh (zJO e ho (fun z => hf b u z.symm))]; exact e
 refine ⟨⟨by simp [c.len],c.nd,fun k a m' e1 e2 => ?_⟩,st⟩;rw [zWw] at e2;split at e2
 ·rename_i hk;subst hk;rw [h1] at e1; cases e1;split at e2
  ·cases e2; exact new st
  ·cases e2
 ·rename_i hk;have hne : a ≠ p:=fun z => hk (by
   subst z;exact (List.getElem?_inj (zVQ.mp h1).1 c.nd).mp (h1.trans e1.symm))
  exact (c.obj k a m' e1 e2).stp st fun o e => by rw [zh hne]; exact e
section
variable {X : Cx} {a b e : Expr} {pos : Pos} {f g : FE}
def zMJ : FE:=fun _ M => some (.dat (.ref M.length),M ++ [.dicT []])
theorem zRH : QE X (.Dict [] [] pos) zMJ:=.mk <| PE.imp zOv fun τ H Q ⟨L,σ,M,d,M',c,rs,hf,q⟩ p hp => by
 unfold zMJ at hf;cases hf;obtain ⟨c2,s2⟩:=c.pushO (m:=.dicT []) hp ⟨[],zAi,rfl⟩;refine q _ _ _ s2 c2 ?_;unfold zk Rep;exact ⟨p,rfl,by rw [<- c.len]; simp⟩
theorem zJ7 (h : Rep L H d v) (e : zHF d = some k) : v = kV k:=by
 cases d with
 | int i => cases e; unfold Rep at h; exact h
 | str x => cases e; unfold Rep at h; exact h
 | _ => cases e
def zMn (M : Mem) : EV -> Option (List D)
 | .fl xs => some xs
 | .dat (.ref n) => match M[n]? with
  | some (.lst xs) => some xs
  | _ => none
 | _ => none
theorem zQj {K : PySem.W.Frag} {L : List Addr} {M : Mem} {H H0 : Hp} {x : EV} {v : V} {xs : List D} (c : Cor K L M H) (r : zk H0 L H x v) (h : zMn M x = some xs) : ∃ a vs,v = .ref a /\ H a = some (.lst vs) /\ zT L H xs vs:=by
 cases x with
 | fl ys =>
  cases h;obtain ⟨p,vs,rfl,_,e,_,r⟩:=r;exact ⟨p,vs,rfl,e,r⟩
 | dat d =>
  cases d with
  | ref n =>
   unfold zk Rep at r;obtain ⟨a,rfl,e⟩:=r;unfold zMn at h;dsimp only at h;split at h
   ·rename_i ys q;cases h;obtain ⟨vs,e1,r1⟩:=c.obj n a _ e q;exact ⟨a,vs,rfl,e1,r1⟩
   ·cases h
  | _ => cases h
def zIz : K2:=fun x y M => match zMn M x,zMn M y with
 | some xs,some ys => if xs.length + ys.length <= sizeLine then some (.fl (xs ++ ys),M) else none
 | _,_ => none
theorem zQI {K : PySem.W.Frag} : zCt K zUh zIz:=by
 intro L M M' H H0 x y d v w Q c rx ry hk q;unfold zIz at hk;split at hk
 ·rename_i xs ys e1 e2;split at hk
  ·rename_i hz;cases hk;obtain ⟨l,vs,rfl,h1,r1⟩:=zQj c rx e1;obtain ⟨l2,ws,rfl,h2,r2⟩:=zQj c ry e2;refine ⟨l,l2,vs,ws,rfl,rfl,h1,h2,by rw [r1.length,r2.length]; exact hz,fun p hp => ?_⟩;exact q L _ _ (.upd hp) (c.upd hp) (zk.newLst (.refl L H) c c hp (r1.app r2))
  ·cases hk
 ·cases hk
theorem zTw (h1 : QE X a f) (h2 : QE X b g) : QE X (.BinOp a .Add b pos) (fOp zIz f g):=zL3 zQI zTi h1 h2
theorem zTe (h1 : zMn M x = some xs) (h2 : zMn M y = some ys) (hz : xs.length + ys.length <= 100000) (q : P (.fl (xs ++ ys)) M) : Ok (zIz x y M) P:=by
 refine ⟨_,_,?_,q⟩;unfold zIz; rw [h1,h2]; dsimp only; rw [zVc (zVo hz (by decide))]
end
end L3
namespace LR
open PySem PySem.Spec PyProof.Rows
open Sem (wp)
open Sem (wp)
open AutoSeq1 (wpAny_loadPart')
open Sem (wp)
open AutoSeq1 (wpAny_loadPart')
end LR
namespace L3
open PySem PySem.Spec PyProof.Rows L2
section
variable {X : Cx} {a b e o : Expr} {pos p apos cpos : Pos} {f g : FE}
def zAu : List D -> Option (List Int)
 | [] => some []
 | .int i :: r => match zAu r with
  | some bs => some (i :: bs)
  | none => none
 | _ => none
theorem zDy : ∀ {ds : List D} {bs : List Int} {vs : List V},zAu ds = some bs -> zT L H ds vs -> vs = bs.map V.int
 | [],bs,vs,e,r => by cases e; unfold zT at r; exact r
 | d :: ds,bs,vs,e,r => by
  unfold zT at r;obtain ⟨v,r',rfl,r1,r2⟩:=r;cases d with
  | int k =>
   unfold zAu at e;cases q : zAu ds with
   | none => rw [q] at e; cases e
   | some bs' =>
    rw [q] at e; cases e;unfold Rep at r1;rw [r1,zDy q r2]; rfl
  | _ => cases e
theorem zDk : ∀ xs : List Int,zAu (xs.map D.int) = some xs
 | [] => rfl
 | x :: r => by rw [zVg]; unfold zAu; rw [zDk r]
end
end L3
namespace L2
open PySem PySem.Spec PyProof.Rows
section
variable {prog : Program} {w : World} {A : Around} {E : Value -> Shared -> Prop} {R : Result -> Shared -> Prop} {s : Shared}
theorem zIV (I : Nat -> Shared -> Prop)
  (turn : ∀ n s,I n s -> wpAny (model prog w) A (pyNext it) (fun r s₁ => match r with
   | none => R (.ok .next) s₁
   | some v => wpAny (model prog w) A (letOwnedTupleGo target it v) (fun _ s₁' => wpAny (model prog w) A (assign target env v) (fun _ s₂ =>
     wpAny (model prog w) A (forIn ifs true fun c r => if r = true then do let ok <- isTrue c env (eval c env); pure (ForInStep.yield ok) else pure (ForInStep.yield r)) (fun ok s₃ =>
      if ok = true then wpAny (model prog w) A (eval kx env) (fun kv s₄ => wpAny (model prog w) A (eval vx env) (fun vv s₅ =>
       wpAny (model prog w) A (dictSet D kv vv) (fun _ s₆ => ∃ m,m < n /\ I m s₆) (fun _ _ => False) s₅) (fun _ _ => False) s₄) (fun _ _ => False) s₃
      else ∃ m,m < n /\ I m s₃) (fun _ _ => False) s₂) (fun _ _ => False) s₁') (fun _ _ => False) s₁) (fun _ _ => False) s)
  (n : Nat) (h : I n s) :
  codeAny (model prog w) A (.compLoop (.DictComp kx vx [⟨target,iter,ifs,0⟩] scope pos) 0 it (.ref D) env) R s:=by
 refine codeAny_loop rfl I (fun n s hI => ?_) n h;show wpAny _ A ((compTurn (.DictComp kx vx [⟨target,iter,ifs,0⟩] scope pos) 0 it (.ref D) env).onRaise (fun x => do noteFrame x env; theTreesLotGoes x)) _ _ s;refine wpAny_noted ?_;rw [compTurn_dict];refine zVN (zWL (zVN (zVt (turn n s hI) (fun r s₁ h₁ => ?_) fun _ _ h' => h'.elim)));cases r with
 | none => exact zVP h₁
 | some v =>
  refine zVN (zVt h₁ (fun _ s₁' h₁' => ?_) fun _ _ h' => h'.elim);refine zVN (zVt h₁' (fun _ s₂ h₂ => zVN (zVt h₂ (fun ok s₃ h₃ => ?_) fun _ _ h' => h'.elim)) fun _ _ h' => h'.elim);cases ok with
  | false => exact zVP ⟨rfl,h₃⟩
  | true =>
   exact zVN (zVN (zVt h₃ (fun kv s₄ h₄ => zVN (zWG (zVt h₄ (fun vv s₅ h₅ => zVN (zWL (zWG (zVt h₅ (fun _ s₆ h₆ => zVP ⟨rfl,h₆⟩) fun _ _ h' => h'.elim)))) fun _ _ h' => h'.elim))) fun _ _ h' => h'.elim))
theorem zJ8 (elt target iter : Expr) (ifs : List Expr) (scope : Scope) (pos : Pos) (it acc : Value) (env : Env) :
  compTurn (.SetComp elt [⟨target,iter,ifs,0⟩] scope pos) 0 it acc env = (do
   standAt iter.pos;match <- pyNext it with
   | none => pure (.done .next)
   | some v =>
    letOwnedTupleGo target it v;assign target env v;let mut ok:=true
    for c in ifs do
     if ok then ok <- isTrue c env (eval c env)
    if ok then (do let v <- eval elt env; standAt elt.pos; let _ <- call (.builtin "set.add") [acc,v])
    again (.compLoop (.SetComp elt [⟨target,iter,ifs,0⟩] scope pos) 0 it acc env)):=by rfl
theorem zJs (I : Nat -> Shared -> Prop)
  (turn : ∀ n s,I n s -> wpAny (model prog w) A (pyNext it) (fun r s₁ => match r with
   | none => R (.ok .next) s₁
   | some v => wpAny (model prog w) A (letOwnedTupleGo target it v) (fun _ s₁' => wpAny (model prog w) A (assign target env v) (fun _ s₂ =>
     wpAny (model prog w) A (forIn ifs true fun c r => if r = true then do let ok <- isTrue c env (eval c env); pure (ForInStep.yield ok) else pure (ForInStep.yield r)) (fun ok s₃ =>
      if ok = true then wpAny (model prog w) A (eval elt env) (fun x s₄ =>
       wpAny (model prog w) A (call (.builtin "set.add") [acc,x]) (fun _ s₅ => ∃ m,m < n /\ I m s₅) (fun _ _ => False) s₄) (fun _ _ => False) s₃
      else ∃ m,m < n /\ I m s₃) (fun _ _ => False) s₂) (fun _ _ => False) s₁') (fun _ _ => False) s₁) (fun _ _ => False) s)
  (n : Nat) (h : I n s) :
  codeAny (model prog w) A (.compLoop (.SetComp elt [⟨target,iter,ifs,0⟩] scope pos) 0 it acc env) R s:=by
 refine codeAny_loop rfl I (fun n s hI => ?_) n h;show wpAny _ A ((compTurn (.SetComp elt [⟨target,iter,ifs,0⟩] scope pos) 0 it acc env).onRaise (fun x => do noteFrame x env; theTreesLotGoes x)) _ _ s;refine wpAny_noted ?_;rw [zJ8];refine zVN (zWL (zVN (zVt (turn n s hI) (fun r s₁ h₁ => ?_) fun _ _ h' => h'.elim)));cases r with
 | none => exact zVP h₁
 | some v =>
  refine zVN (zVt h₁ (fun _ s₁' h₁' => ?_) fun _ _ h' => h'.elim);refine zVN (zVt h₁' (fun _ s₂ h₂ => zVN (zVt h₂ (fun ok s₃ h₃ => ?_) fun _ _ h' => h'.elim)) fun _ _ h' => h'.elim);cases ok with
  | false => exact zVP ⟨rfl,h₃⟩
  | true =>
   exact zVN (zVN (zVt h₃ (fun x s₄ h₄ => zVN (zWL (zVN (zVt h₄ (fun _ s₅ h₅ => zVP (zVP ⟨rfl,h₅⟩)) fun _ _ h' => h'.elim)))) fun _ _ h' => h'.elim))
end
end L2
namespace LR
open PySem PySem.Spec PyProof.Rows
open Sem (wp)
end LR
namespace L3
open PySem PySem.Spec PyProof.Rows L2
end L3
namespace ST
open PySem
abbrev Up (xs : Array Nat) : Prop:=xs.toList.Pairwise (· < ·)
theorem Up.get (h : Up xs) (hik : i < k) (hk : k < xs.size) : xs[i]'(by omega) < xs[k]:=by
 have:=List.pairwise_iff_getElem.mp h i k (by simpa using (show i < xs.size by omega)) (by simpa using hk) hik;simpa using this
theorem zKD (h : Up xs) (j : Nat) : ∀ (fuel lo hi : Nat),lo <= hi -> hi <= xs.size -> hi - lo <= fuel -> (∀ i (hi' : i < xs.size),i < lo -> xs[i] < j) -> (∀ i (hi' : i < xs.size),hi <= i -> j <= xs[i]) ->
  (SetTable.below.go xs j fuel lo hi <= xs.size) /\ (∀ i (hi' : i < xs.size),i < SetTable.below.go xs j fuel lo hi -> xs[i] < j) /\ (∀ i (hi' : i < xs.size),SetTable.below.go xs j fuel lo hi <= i -> j <= xs[i])
 | 0,lo,hi,h1,h2,h3,a,b => by
  have : lo = hi:=by omega
  subst this;unfold SetTable.below.go;exact ⟨h2,a,b⟩
 | fuel + 1,lo,hi,h1,h2,h3,a,b => by
  unfold SetTable.below.go;by_cases hl : lo < hi
  ·rw [zVc hl];dsimp only;have hm : (lo + hi) / 2 < xs.size:=by omega
   have eg : xs.getD ((lo + hi) / 2) j = xs[(lo + hi) / 2]:=by simp [Array.getD,hm]
   rw [eg];by_cases hc : xs[(lo + hi) / 2] < j
   ·rw [zVc hc];refine zKD h j fuel _ _ (by omega) h2 (by omega) (fun i hi' hlt => ?_) b;rcases Nat.lt_or_ge i ((lo + hi) / 2) with z | z
    ·exact Nat.lt_trans (h.get z hm) hc
    ·have : i = (lo + hi) / 2:=by omega
     subst this; exact hc
   ·rw [zVf hc];refine zKD h j fuel _ _ (by omega) (by omega) (by omega) a (fun i hi' hge => ?_);rcases Nat.lt_or_ge ((lo + hi) / 2) i with z | z
    ·have:=h.get z hi'; omega
    ·have : i = (lo + hi) / 2:=by omega
     subst this; omega
  ·rw [zVf hl];have : lo = hi:=by omega
   subst this;exact ⟨h2,a,b⟩
theorem zDq (h : Up xs) (j : Nat) : SetTable.below xs j <= xs.size /\ (∀ i (hi' : i < xs.size),i < SetTable.below xs j -> xs[i] < j) /\ (∀ i (hi' : i < xs.size),SetTable.below xs j <= i -> j <= xs[i]):=by
 unfold SetTable.below;exact zKD h j xs.size 0 xs.size (zV9 _) (zVT _) (by omega) (fun i _ z => by omega) (fun i hi' z => by omega)
theorem zL6 (h : Up xs) : SetTable.below xs 0 = 0:=by
 obtain ⟨a,b,c⟩:=zDq h 0;rcases Nat.eq_zero_or_pos (SetTable.below xs 0) with z | z
 ·exact z
 ·have:=b 0 (by omega) z; omega
theorem zMI (h : Up xs) (hk : k < xs.size) : SetTable.below xs (xs[k] + 1) = k + 1:=by
 obtain ⟨a,b,c⟩:=zDq h (xs[k] + 1);rcases Nat.lt_trichotomy (SetTable.below xs (xs[k] + 1)) (k + 1) with z | z | z
 ·have:=c k hk (by omega); omega
 ·exact z
 ·have h1 : k + 1 < xs.size:=by omega
  have:=b (k + 1) h1 z;have:=h.get (show k < k + 1 by omega) h1;omega
theorem zGw {α : Type} (xs : Array α) (p : Nat) (x : α) : (SetTable.insertAt xs p x).toList = xs.toList.take p ++ x :: xs.toList.drop p:=by
  unfold SetTable.insertAt;simp;have : xs.toList.length <= xs.size:=by simp
  rw [List.take_of_length_le (by simp)]
theorem zN8 (h : Up xs) (hj : j ∉ xs.toList) : Up (SetTable.insertAt xs (SetTable.below xs j) j) := by
  obtain ⟨a, b, c⟩ := zDq h j;unfold Up;rw [zGw];rw [List.pairwise_append];have hT : ∀ x ∈ xs.toList.take (SetTable.below xs j), x < j := fun x hx => by
    obtain ⟨i,hi,e⟩:=List.getElem_of_mem hx;rw [List.getElem_take] at e;rw [zWl] at hi
    have h1 : i < xs.size := by have : xs.toList.length = xs.size := by simp
                                omega
    have:=b i h1 (by omega);rw [<- e]; simpa using this
  have hD : ∀ x ∈ xs.toList.drop (SetTable.below xs j), j < x := fun x hx => by
    obtain ⟨i,hi,e⟩:=List.getElem_of_mem hx;rw [List.getElem_drop] at e;rw [List.length_drop] at hi
    have h1 : SetTable.below xs j + i < xs.size := by have : xs.toList.length = xs.size := by simp
                                                      omega
    have h2:=c _ h1 (by omega);have h3 : x ≠ j:=fun z => hj (z ▸ List.mem_of_mem_drop hx);have e' : xs[SetTable.below xs j + i] = x:=by simpa using e
    omega
  refine ⟨h.sublist (List.take_sublist _ _),zXX.mpr ⟨hD,h.sublist (List.drop_sublist _ _)⟩,fun x hx y hy => ?_⟩;rcases zVZ.mp hy with z | z
  · rw [z]; exact hT x hx
  · exact Nat.lt_trans (hT x hx) (hD y z)
theorem zJR (j : Nat) : SetTable.has #[] j = false:=by
 unfold SetTable.has; simp
theorem zL8 {t : SetTable} (h : Up t.place) (he : t.slot j = .empty) : j ∉ t.place.toList:=fun hm => by
 obtain ⟨a,b,c⟩:=zDq h j;obtain ⟨k,hk,e⟩:=List.getElem_of_mem hm;have hk' : k < t.place.size:=by simpa using hk
 have e' : t.place[k] = j:=by simpa using e
 have eb : SetTable.below t.place j = k:=by
  rcases Nat.lt_trichotomy (SetTable.below t.place j) k with z | z | z
  ·have h1 : SetTable.below t.place j < t.place.size:=by omega
   have:=c _ h1 (zVT _);have:=h.get z hk';omega
  ·exact z
  ·have:=b k hk' z; omega
 unfold SetTable.slot at he;dsimp only at he;rw [eb,zVc (by simp [hk',e'])] at he;cases he
theorem zLI (hd : t.dummies = #[]) : ∀ (fuel : Nat) (p : SetTable.Probe) {j : Nat} {d : Option Nat},p.dummy = none -> SetTable.probe.go t hashAt h fuel p = some (.empty j d) -> d = none /\ t.slot j = .empty
 | 0,_,_,_,_,e => by unfold SetTable.probe.go at e; cases e
 | fuel + 1,p,j,d,hp,e => by
  unfold SetTable.probe.go at e;split at e
  ·rename_i hs;cases e;exact ⟨hp,hs⟩
  ·rename_i hs;unfold SetTable.slot at hs;dsimp only at hs;rw [hd,zJR] at hs;split at hs <;> first | cases hs | simp at hs
  ·split at e
   ·cases e
   ·refine zLI hd fuel _ ?_ e;unfold SetTable.advance;split <;> simp [hp]
theorem zNq {t : SetTable} (hu : Up t.place) (hd : t.dummies = #[]) (e : t.freeSlot h = some (j,b)) : b = false /\ j ∉ t.place.toList:=by
 unfold SetTable.freeSlot at e;split at e
 ·rename_i j' d hp;unfold SetTable.probe at hp;obtain ⟨h1,h2⟩:=zLI hd _ _ (by rfl) hp;subst h1;simp at e;obtain ⟨rfl,rfl⟩:=e;exact ⟨rfl,zL8 hu h2⟩
 ·cases e
structure TabOk (w : World) (t : SetTable) : Prop where
 led : t.led = !w.params.followText "set-order"
 up : Up t.place
 nod : t.dummies = #[]
theorem zO7 (n : Nat) : Up (Array.range n):=by
 unfold Up;rw [Array.toList_range];exact List.pairwise_lt_range
theorem TabOk.standIn (h : TabOk w t) (n : Nat) : TabOk w (t.standIn n):=⟨h.led,zO7 n,rfl⟩
theorem TabOk.orStandIn (h : TabOk w t) (n : Nat) : TabOk w (t.orStandIn n):=by
 unfold SetTable.orStandIn;split
 ·exact h
 ·exact h.standIn n
theorem TabOk.put (h : TabOk w t) (hj : j ∉ t.place.toList) : TabOk w (t.put j).1:=by
 unfold SetTable.put;refine ⟨h.led,zN8 h.up hj,?_⟩;show (if SetTable.has t.dummies j = true then _ else t.dummies) = #[];rw [h.nod,zJR]; rfl
theorem TabOk.layNew (h : TabOk w t) (es : Array (Int × Value)) (hh : Int) (x : Value) : TabOk w (layNew t es hh x).2.1:=by
 unfold PySem.layNew;split
 ·rename_i j b e;exact (h.put (zNq h.up h.nod e).2).orStandIn _
 ·exact h.standIn _
theorem TabOk.relaid (h : TabOk w t) (e : t.relaid hs wanted = some (t',order)) : TabOk w t':=by
 unfold SetTable.relaid SetTable.laid at e;cases q : SetTable.layClean (SetTable.sizeAbove wanted - 1) hs with
 | none => rw [q] at e; cases e
 | some owner =>
  rw [q] at e;simp only [Option.bind_eq_bind,Option.bind_some,Option.pure_def,Option.some.injEq,Prod.mk.injEq] at e;obtain ⟨rfl,_⟩:=e;refine ⟨h.led,?_,rfl⟩;unfold Up;dsimp only;rw [List.pairwise_map,List.pairwise_filterMap];refine List.pairwise_lt_range.imp fun {a b} hab x hx y hy => ?_;cases o1 : owner.getD a none with
  | none => rw [o1] at hx; cases hx
  | some u =>
   cases o2 : owner.getD b none with
   | none => rw [o2] at hy; cases hy
   | some v =>
    rw [o1] at hx; rw [o2] at hy;cases hx; cases hy;exact hab
theorem TabOk.relayAll (h : TabOk w t) (es : Array (Int × Value)) (wanted : Nat) : TabOk w (relayAll t es wanted).2.1:=by
 unfold PySem.relayAll;split
 ·rename_i t' order e;dsimp only;split
  ·exact h.relaid e
  ·exact h.standIn _
 ·exact h.standIn _
theorem TabOk.plain (h : TabOk w t) (b : Bool) : TabOk w { t with plain:=b }:=⟨h.led,h.up,h.nod⟩
theorem TabOk.fresh : TabOk w (SetTable.fresh 0 0 (!w.params.followText "set-order")):=⟨rfl,List.Pairwise.nil,rfl⟩
open Sem (wp)
set_option genInjectivity true in
inductive F2 {α β : Type} (R : α -> β -> Prop) : List α -> List β -> Prop
 | nil : F2 R [] []
 | cons {x y xs ys} : R x y -> F2 R xs ys -> F2 R (x :: xs) (y :: ys)
section
variable {prog : Program} {w : World} {K : Type} [DecidableEq K]
def zSw (knd : KeyKind prog w K) (e : Int × Value) (k : K) : Prop:=(knd.is k e.2 = true /\ e.1 = knd.hash k) /\ e.2.scannable = true
structure SetK (knd : KeyKind prog w K) (o : Obj) (es : Array (Int × Value)) (ep : Nat) (t : SetTable) (ks : List K) : Prop where
 ex : o.ExactSet
 data : o.data = .set es ep t
 tab : TabOk w t
 fits : t.fits es.size = true
 bound : es.size < scanBound
 ent : ∃ ks',ks'.Perm ks /\ F2 (zSw knd) es.toList ks'
def ins (ks : List K) (k : K) : List K:=if k ∈ ks then ks else ks ++ [k]
variable {knd : KeyKind prog w K} {o : Obj} {es : Array (Int × Value)} {ep : Nat} {t : SetTable} {ks : List K}
theorem zC2 {α β : Type} {R : α -> β -> Prop} : ∀ {xs : List α} {ys : List β},F2 R xs ys -> xs.length = ys.length
 | _,_,.nil => rfl
 | _,_,.cons _ h => by simp [zC2 h]
theorem zEP {α β : Type} {R : α -> β -> Prop} : ∀ {xs : List α} {ys : List β},F2 R xs ys -> ∀ x ∈ xs,∃ y ∈ ys,R x y
 | _,_,.nil,x,hx => by cases hx
 | _,_,.cons h r,x,hx => by
  rcases zVZ.mp hx with z | z
  ·subst z; exact ⟨_,zVb,h⟩
  ·obtain ⟨y,hy,q⟩:=zEP r x z; exact ⟨y,zVa _ hy,q⟩
theorem zFm {α β : Type} {R : α -> β -> Prop} : ∀ {xs : List α} {ys : List β},F2 R xs ys -> ∀ y ∈ ys,∃ x ∈ xs,R x y
 | _,_,.nil,x,hx => by cases hx
 | _,_,.cons h r,x,hx => by
  rcases zVZ.mp hx with z | z
  ·subst z; exact ⟨_,zVb,h⟩
  ·obtain ⟨y,hy,q⟩:=zFm r x z; exact ⟨y,zVa _ hy,q⟩
theorem zEK {α β : Type} {R : α -> β -> Prop} : ∀ {xs : List α} {ys : List β} {us : List α} {vs : List β},F2 R xs ys -> F2 R us vs -> F2 R (xs ++ us) (ys ++ vs)
 | _,_,_,_,.nil,h => h
 | _,_,_,_,.cons h r,q => .cons h (zEK r q)
theorem zFi {α β : Type} {R : α -> β -> Prop} {xs xs' : List α} (p : xs'.Perm xs) : ∀ {ys : List β},F2 R xs ys -> ∃ ys',ys'.Perm ys /\ F2 R xs' ys':=by
 have p':=p.symm;clear p;induction p' with
 | nil => intro ys h; exact ⟨ys,.refl _,h⟩
 | cons x _ ih =>
  intro ys h;cases h with
  | cons h r =>
   obtain ⟨ys',q1,q2⟩:=ih r;exact ⟨_,q1.cons _,.cons h q2⟩
 | swap x y l =>
  intro ys h;cases h with
  | cons h r =>
   cases r with
   | cons h2 r =>
    exact ⟨_,List.Perm.swap _ _ _,.cons h2 (.cons h r)⟩
 | trans _ _ ih1 ih2 =>
  intro ys h;obtain ⟨ys',q1,q2⟩:=ih1 h;obtain ⟨ys'',r1,r2⟩:=ih2 q2;exact ⟨ys'',r1.trans q1,r2⟩
theorem SetK.size (h : SetK knd o es ep t ks) : es.size = ks.length:=by
 obtain ⟨ks',p,f⟩:=h.ent;rw [<- p.length_eq,<- zC2 f,zV6]
theorem SetK.elems (h : SetK knd o es ep t ks) : ElemsOf knd es.toList:=fun e he => by
 obtain ⟨ks',p,f⟩:=h.ent;obtain ⟨k,_,q⟩:=zEP f e he;exact ⟨⟨k,q.1⟩,q.2⟩
theorem SetK.mem (h : SetK knd o es ep t ks) (k : K) : k ∈ ks ↔ ∃ e ∈ es.toList,knd.is k e.2 = true:=by
 obtain ⟨ks',p,f⟩:=h.ent;rw [<- p.mem_iff];constructor
 ·intro hk;obtain ⟨e,he,q⟩:=zFm f k hk;exact ⟨e,he,q.1.1⟩
 ·rintro ⟨e,he,q⟩;obtain ⟨k',hk',q'⟩:=zEP f e he;rw [knd.inj e.2 k k' q q'.1.1]; exact hk'
variable {A : Around} {E : Value -> Shared -> Prop} {s : Shared} {a : Addr} {k : K} {x : Value}
theorem SetK.typeIs (h : SetK knd o es ep t ks) (ho : s.heap.get? a = some o) : s.TypeIs (.ref a) "set" := ⟨o,ho,h.ex.1⟩
theorem zJY {h : Heap} (ho : h.get? a = some o) (hd : o.data = .set es ep t) :
  (h.update a (Obj.putSet es' t')).get? a = some { o with data:=.set es' (ep + 1) t' }:=by
 have:=zWA (Obj.putSet es' t') ho (by rw [putSet_of es' t' hd]; rfl);rw [putSet_of es' t' hd] at this; exact this
theorem zD8 {Q : Bool -> Shared -> Prop} (hkey : knd.is k x = true) (hsc : x.scannable = true) (ho : s.heap.get? a = some o) (hS : SetK knd o es ep t ks) (hroom : ks.length + 1 < scanBound)
  (h : ∀ h' o' es' ep' t' b,Heap.SameBut a s.heap h' -> h'.get? a = some o' -> SetK knd o' es' ep' t' (ins ks k) -> Q b { s with heap:=h' }) :
  wpAny (model prog w) A (setAddHashed a x (knd.hash k)) Q E s:=by
 have hd:=hS.data;have hf:=hS.fits;have hel:=hS.elems;have hb:=hS.bound;have hb1 : es.size + 1 < scanBound:=by rw [hS.size]; exact hroom
 unfold setAddHashed setAddHashedIn;refine zWG (zVN (wpAny_setState_of ho hd hf ?_));dsimp only;rw [byScan_of hsc hb hel];simp only [↓reduceIte];unfold setAddByScan;refine zVN ?_;refine zVN (zWk ?_);refine zVN (wpAny_setScan_of hkey ho hd hf hel ?_);cases hr : List.findIdx? (fun e => knd.is k e.2) es.toList with
 | some j =>
  dsimp only;obtain ⟨hj,hpj,_⟩:=List.findIdx?_eq_some_iff_getElem.mp hr;have hSk : k ∈ ks:=(hS.mem k).mpr ⟨es.toList[j],zVv hj,hpj⟩;refine zVP (zVP ?_);have e : s = { s with heap:=s.heap }:=by cases s; rfl
  rw [e];refine h s.heap o es ep t _ (Heap.SameBut.refl a s.heap) ho ?_;unfold ins;rw [zVc hSk]; exact hS
 | none =>
  dsimp only;have hSk : k ∉ ks:=fun hk => by
   obtain ⟨e,he,hp⟩:=(hS.mem k).mp hk; have:=List.findIdx?_eq_none_iff.mp hr e he; rw [hp] at this; exact Bool.noConfusion this
  have hgw : ∀ (b : Bool) {s₁ : Shared} {Q' : Unit -> Shared -> Prop},Q' () s₁ -> wpAny (model prog w) A (match b with | true => rule "set.scan.the-table-gave-way" | false => pure ()) Q' E s₁ :=
   fun b s₁ Q' hq => by cases b <;> first | exact zVP hq | exact zWk hq
  have hperm:=layNew_perm t es (knd.hash k) x;have hfits:=layNew_fits t es (knd.hash k) x;have htab:=hS.tab.layNew es (knd.hash k) x;generalize hL : layNew t es (knd.hash k) x = L at hperm hfits htab ⊢;obtain ⟨es1,t1,wasDummy,gave⟩:=L;dsimp only at hperm hfits htab ⊢;rw [Array.toList_push] at hperm;have hb1' : es1.size < scanBound:=by rw [<- zV6,hperm.length_eq,zVd,zV6]; simpa using hb1
  obtain ⟨ks',p,f⟩:=hS.ent;have f1 : F2 (zSw knd) (es.toList ++ [(knd.hash k,x)]) (ks' ++ [k]):=zEK f (.cons ⟨⟨hkey,rfl⟩,hsc⟩ .nil);obtain ⟨ks1,p1,f2⟩:=zFi hperm f1;have pI : ks1.Perm (ins ks k):=by
   unfold ins;rw [zVf hSk];exact p1.trans (p.append_right _)
  refine zVN (hgw _ ?_)
  have tail : ∀ t2 : SetTable,TabOk w t2 -> t2.fits es1.size = true -> wpAny (model prog w) A (do
    storeSet a es1 t2
    if (!wasDummy && t2.tooFull) = true then do
      (match (relayAll t2 es1 (SetTable.grown es1.size)).2.2 with | true => rule "set.scan.the-table-gave-way" | false => pure ())
      storeSet a (relayAll t2 es1 (SetTable.grown es1.size)).1 (relayAll t2 es1 (SetTable.grown es1.size)).2.1;pure (some true)
     else pure (some true)) (fun r s' => wpAny (model prog w) A (match r with | some added => pure added | none => setAddHashedIn a x (knd.hash k) 99999) Q E s') E s:=by
   intro t2 T2 F2;refine zVN (wpAny_storeSet_of ho hd ?_ (fits_of_scanBound hb1'));have g1:=zJY (es':=es1) (t':=t2) ho hd;have sb1:=zWQ s.heap a (Obj.putSet es1 t2);have S1 : SetK knd { o with data:=.set es1 (ep + 1) t2 } es1 (ep + 1) t2 (ins ks k):=⟨hS.ex,rfl,T2,F2,hb1',ks1,pI,f2⟩;split
   ·have hp:=relayAll_perm t2 es1 (SetTable.grown es1.size);have hfr:=relayAll_fits t2 es1 (SetTable.grown es1.size);have htr:=T2.relayAll es1 (SetTable.grown es1.size);generalize hRl : relayAll t2 es1 (SetTable.grown es1.size) = Rl at hp hfr htr ⊢;obtain ⟨es2,t3,gave2⟩:=Rl;dsimp only at hp hfr htr ⊢;have hsz : es2.size = es1.size:=by rw [<- zV6,hp.length_eq,zV6]
    have hb2 : es2.size < scanBound:=by rw [hsz]; exact hb1'
    obtain ⟨ks2,p2,f3⟩:=zFi hp f2;refine zVN (hgw _ ?_);refine zVN (wpAny_storeSet_of g1 rfl ?_ (fits_of_scanBound hb2));have g2:=zJY (es':=es2) (t':=t3) g1 rfl;exact zVP (zVP (h _ _ _ _ _ _ (sb1.trans (zWQ _ a _)) g2 ⟨hS.ex,rfl,htr,hfr,hb2,ks2,p2.trans pI,f3⟩))
   ·exact zVP (zVP (h _ _ _ _ _ _ sb1 g1 S1))
  split
  ·refine zVN ?_;rw [hashByValue_scannable 8 hsc];refine zVP ?_;refine tail _ ?_ ?_
   ·split
    ·exact htab
    ·exact htab.plain _
   ·split
    ·exact hfits
    ·exact SetTable.fits_plain_off hfits
  ·refine zVN (zVP ?_);simp only [↓reduceIte];exact tail _ htab hfits
theorem zOk (hkey : knd.is k x = true) (hsc : x.scannable = true) (ho : s.heap.get? a = some o) (hS : SetK knd o es ep t ks) (hroom : ks.length + 1 < scanBound)
  (h : ∀ h' o' es' ep' t',Heap.SameBut a s.heap h' -> h'.get? a = some o' -> SetK knd o' es' ep' t' (ins ks k) -> Q .none { s with heap:=h',toks:=s.toks + 1 }) :
  wpAny (model prog w) A (call (.builtin "set.add") [.ref a,x]) Q E s:=by
 refine zV0 F.slot_set_add (hS.typeIs ho) F.entry_set_add ?_ (F.args_set_add_2 _ _);unfold Builtin.«set.add» Builtin.Frozenset.oneOther;simp only [List.isEmpty_nil,bind_assoc];unfold Builtin.Frozenset.addrOf setAdd;refine zVN (zVP ?_);try dsimp only
 refine zVN (zVP ?_);try dsimp only
 refine zVN ?_;refine zWG ?_;refine zVN (knd.pyHash hkey ?_);refine zD8 (s:={ s with toks:=s.toks + 1 }) hkey hsc ho hS hroom fun h' o' es' ep' t' b hsb ho' hS' => ?_;show wpAny _ _ (ret Value.none) _ _ _;exact zVP ⟨_,rfl,h h' o' es' ep' t' hsb ho' hS'⟩
def zn (w : World) : Obj:={ cls:=.type "set", dict:=none,data:=.set #[] 0 (.fresh 0 0 (!w.params.followText "set-order")) }
theorem SetK.fresh : SetK knd (zn w) #[] 0 (.fresh 0 0 (!w.params.followText "set-order")) []:=⟨⟨rfl,rfl,rfl⟩,rfl,.fresh,by rfl,by decide,[],.refl _,.nil⟩
theorem zN2 (h : Q (.ref s.heap.objs.size) { s with heap:=s.heap.push (zn w) }) :
  wpAny (model prog w) A (newSet (.type "set")) Q E s:=by
 unfold newSet setsByText;refine zVN (zVN (wpAny_askSetting (zVP ?_)));dsimp only;simp only [newObj];exact zVN (wpAny_alloc (zVP h))
end
open PySem.Spec PyProof.Rows
open Sem (wp)
theorem zKy : Manifest.owners.lookup (String.ofList ['r','o','t','a','r','e','t','i','_','t','e','s'].reverse) = some Manifest.sig_set_iterator:=by kernel_rfl
theorem zAP : Slot "set_iterator" "__next__" "set_iterator.__next__" := .of (owner := "set_iterator") (n := "__next__") (by rw [typeLookup_type,builtinLookup_eq_fast]; kernel_rfl) (by decide +kernel) (by decide +kernel) (by decide +kernel) (by first | exact .inl (by decide +kernel) | exact .inr (by decide +kernel)) (by rw [isSubtype_type]; kernel_rfl)
theorem zFk : Slot "set_iterator" "__iter__" "set_iterator.__iter__" := .of (owner := "set_iterator") (n := "__iter__") (by rw [typeLookup_type,builtinLookup_eq_fast]; kernel_rfl) (by decide +kernel) (by decide +kernel) (by decide +kernel) (by first | exact .inl (by decide +kernel) | exact .inr (by decide +kernel)) (by rw [isSubtype_type]; kernel_rfl)
theorem zCS (a : Value) : argsOk "set_iterator.__next__" ⟨[a],[]⟩:=by
 unfold argsOk; rw [signature?_of (id := "set_iterator.__next__") (n:=['_','_','t','x','e','n','_','_']) (o:=['r','o','t','a','r','e','t','i','_','t','e','s']) (by kernel_rfl) zKy]; kernel_rfl
theorem zKN (a : Value) : argsOk "set_iterator.__iter__" ⟨[a],[]⟩:=by
 unfold argsOk; rw [signature?_of (id := "set_iterator.__iter__") (n:=['_','_','r','e','t','i','_','_']) (o:=['r','o','t','a','r','e','t','i','_','t','e','s']) (by kernel_rfl) zKy]; kernel_rfl
theorem zCD : entryFor table "set_iterator.__next__" = some Builtin.«set_iterator.__next__»:=entryFor_of_tree (by kernel_rfl)
theorem zIW : entryFor table "set_iterator.__iter__" = some Builtin.«dict_keyiterator.__iter__» :=
 entryFor_alias (id' := "dict_keyiterator.__iter__") (by kernel_rfl) (by first | rfl | decide +kernel | (unfold String.splitOn; simp +decide [String.splitOnAux])) (by decide +kernel) (by kernel_rfl)
theorem zIS : entryFor table "set.__iter__" = some Builtin.«frozenset.__iter__» :=
 entryFor_alias (id' := "frozenset.__iter__") (by kernel_rfl) rfl (by decide +kernel) (by kernel_rfl)
def zBU (f : Value) (i : Nat) (a : Addr) (n ep : Nat) : Obj:={ cls:=.type "set_iterator", data:=.fields #[f,rawInt i,.ref a,rawInt n,rawInt ep] }
theorem zFH {α : Type} : ∀ {l : List α} {i : Nat} (h : i < l.length),(l[i] :: l.eraseIdx i).Perm l
 | [],i,h => by simp at h
 | x :: l,0,h => by simp
 | x :: l,i + 1,h => by
  have:=zFH (l:=l) (i:=i) (by simpa using h);rw [List.getElem_cons_succ,List.eraseIdx_cons_succ];exact (List.Perm.swap _ _ _).trans (this.cons x)
theorem zJT {α : Type} {l : List α} (h : i < l.length) (e : n + 1 = l.length) : n = (l.eraseIdx i).length:=by
 rw [List.length_eraseIdx,zVc h]; omega
theorem zJV {α : Type} (next : Nat -> Nat) : ∀ (fuel k : Nat) (left : List α) (out : Array α),fuel = left.length -> (pickOrder.go next fuel k left out).toList.Perm (out.toList ++ left)
 | 0,k,left,out,h => by
  have : left = []:=List.length_eq_zero_iff.mp h.symm;subst this;unfold pickOrder.go;simp
 | fuel + 1,k,left,out,h => by
  unfold pickOrder.go;have hl : 0 < left.length:=by omega
  have hm : next k % left.length < left.length:=Nat.mod_lt _ hl
  rw [zVR hm];dsimp only;refine (zJV next fuel (k + 1) _ _ (zJT hm h)).trans ?_;rw [Array.toList_push,zWT];exact (zFH hm).append_left _
theorem zET {α : Type} (next : Nat -> Nat) (xs : Array α) : (pickOrder next xs).toList.Perm xs.toList:=by
 unfold pickOrder;simpa using zJV next xs.size 0 xs.toList #[] (by simp)
section
variable {prog : Program} {w : World} {A : Around} {E : Value -> Shared -> Prop} {s : Shared}
theorem zJn (h0 : n ≠ 0) (h : ∀ r d,r < n -> Q r { s with drawn:=d }) : wpAny (model prog w) A (choose src n) Q E s :=
 fun Γ p hΓ => ⟨h0,h _ _ (Nat.mod_lt _ (by omega))⟩
theorem zD9 {α : Type} : ∀ (n : Nat) (xs : List α) {s : Shared} {Q : List α -> Shared -> Prop},n = xs.length -> (∀ ys d,ys.Perm xs -> Q ys { s with drawn:=d }) -> wpAny (model prog w) A (drawOrder n xs) Q E s
 | 0,xs,s,Q,h,q => by
  have : xs = []:=List.length_eq_zero_iff.mp h.symm;subst this;have e : s = { s with drawn:=s.drawn }:=by cases s; rfl
  rw [e];exact zVP (q [] s.drawn (.refl _))
 | n + 1,[],s,Q,h,q => by cases h
 | n + 1,x :: xs,s,Q,h,q => by
  unfold drawOrder;refine zVN (zJn (by simp) fun r d hr => ?_);rw [zVR hr];dsimp only;refine zVN (zD9 n _ (zJT hr h) fun ys d' hp => zVP ?_);exact q _ d' ((hp.cons _).trans (zFH hr))
variable {K : Type} [DecidableEq K] {knd : KeyKind prog w K} {o : Obj} {es : Array (Int × Value)} {ep : Nat} {t : SetTable} {ks : List K} {a I : Addr}
theorem zH5 (h : s.heap.get? I = some (zBU f i a n ep)) : s.TypeIs (.ref I) "set_iterator" := ⟨_,h,rfl⟩
theorem zNB (hI : s.heap.get? I = some (zBU f i a n ep)) (h : Q (.ref I) s) : wpAny (model prog w) A (pyIter (.ref I)) Q E s:=by
 refine wpAny_pyIter_slot (zH5 hI) zFk (zV0 zFk (zH5 hI) zIW ?_ (zKN _));show wpAny _ _ (ret (.ref I)) _ _ s;exact zVP ⟨_,rfl, "set_iterator", _,zH5 hI,zAP.lookup,h⟩
structure Nexts (prog : Program) (w : World) (o : Obj) (a : Addr) (ep : Nat) (n : Nat) (at_ : Nat -> Nat) (ord : List Value) : Prop where
 len : ord.length = n
 nx : ∀ (A : Around) (E : Value -> Shared -> Prop) (i : Nat) (s : Shared) (Q : Option (Value × Nat) -> Shared -> Prop),i <= n -> s.heap.get? a = some o -> Q ((ord[i]?).map fun x => (x,at_ (i + 1))) s -> wpAny (model prog w) A (setNext a (at_ i) i ep) Q E s
theorem zNR (N : Nexts prog w o a ep ks.length at_ ord) (hS : SetK knd o es ep t ks) (hI : s.heap.get? I = some (zBU (rawInt (at_ i)) i a ks.length ep)) (ho : s.heap.get? a = some o)
  (hx : ord[i]? = some x) (hQ : ∀ h',h'.get? I = some (zBU (rawInt (at_ (i + 1))) (i + 1) a ks.length ep) -> Heap.SameBut I s.heap h' -> Q (some x) { s with heap:=h' }) : wpAny (model prog w) A (pyNext (.ref I)) Q E s:=by
 have hT:=zH5 hI;have hi : i < ks.length:=by have:=(zVQ.mp hx).1; rw [N.len] at this; exact this
 unfold pyNext;refine zVN (wpAny_attempt (zVz (name:=Str.ofString "__next__") hT zAP (zV0 zAP hT zCD ?_ (zCS _))));unfold Builtin.«set_iterator.__next__» slotArgs;simp only [List.isEmpty_nil,Bool.not_true,zWO,↓reduceIte,List.length_nil,bne_self_eq_false,pure_bind,bind_assoc];refine zVN (wpAny_fieldsOf hI rfl ?_);dsimp only [rawInt];refine zVN (wpAny_setEntries_of ho hS.data hS.fits ?_);rw [zVf (by rw [hS.size]; simp)];refine zVN (N.nx _ _ i s _ (by omega) ho ?_);rw [hx];dsimp only [Option.map];refine zVN (wpAny_setField hI rfl (by simp) ?_);have e1:=zWA (Obj.mapFields fun vs => vs.set! 0 (rawInt (at_ (i + 1)))) hI (Obj.isFreed_of_fields (zWe rfl _));refine zVN (wpAny_setField e1 (zWe rfl _) (by simp) ?_);have e2:=zWA (Obj.mapFields fun vs => vs.set! 1 (rawInt ((i : Int) + 1))) e1 (Obj.isFreed_of_fields (zWe (zWe rfl _) _));refine zVP ⟨x,rfl,zVP (hQ _ ?_ ((zWQ ..).trans (zWQ ..)))⟩;refine e2.trans ?_;simp [Obj.mapFields,zBU,rawInt]
end
open Sem (wp)
section
variable {prog : Program} {w : World} {A : Around} {E : Value -> Shared -> Prop} {s : Shared}
variable {K : Type} [DecidableEq K] {knd : KeyKind prog w K} {o : Obj} {es : Array (Int × Value)} {ep : Nat} {t : SetTable} {ks : List K} {a I : Addr}
theorem zQW (hh : A.handled = none) (N : Nexts prog w o a ep ks.length at_ ord) (hS : SetK knd o es ep t ks) (hI : s.heap.get? I = some (zBU (rawInt (at_ ks.length)) ks.length a ks.length ep)) (ho : s.heap.get? a = some o)
  (hQ : ∀ h',Heap.ExtBut I s.heap h' -> Q none { s with heap:=h' }) : wpAny (model prog w) A (pyNext (.ref I)) Q E s:=by
 have hT:=zH5 hI;unfold pyNext;refine zVN (wpAny_attempt (zVz (name:=Str.ofString "__next__") hT zAP (zV0 zAP hT zCD ?_ (zCS _))));unfold Builtin.«set_iterator.__next__» slotArgs;simp only [List.isEmpty_nil,Bool.not_true,zWO,↓reduceIte,List.length_nil,bne_self_eq_false,pure_bind,bind_assoc];refine zVN (wpAny_fieldsOf hI rfl ?_);dsimp only [rawInt];refine zVN (wpAny_setEntries_of ho hS.data hS.fits ?_);rw [zVf (by rw [hS.size]; simp)];refine zVN (N.nx _ _ ks.length s _ (zVT _) ho ?_);rw [zWW (by rw [N.len]; exact zVT _)];dsimp only [Option.map];refine zVN (wpAny_setField hI rfl (by simp) ?_);simp only [newExc,newTuple,bind_assoc,pure_bind];refine zVN (zVq (zVN (m:=firstArgMember _ _) (wpAny_of_eq (a:=Value.none) (by first | rfl | (simp only [firstArgMember]; rfl)) (zVN (zVq ?_ (by size_fits))))) (by size_fits));simp only [raiseNew];refine zVN (wpAny_handled ?_);rw [show A.in1.handled = none from hh];refine zVN (zVP (wpAny_throw ?_));refine zVN (wpAny_isInstance (T := "StopIteration") (b:=true) ⟨_,zVX _ rfl,rfl⟩ isSubtype_stop (zVP ?_));exact hQ _ (((zWQ ..).extBut.push _).push _)
theorem zKt (hh : A.handled = none) (hne : a ≠ I) (N : Nexts prog w o a ep ks.length at_ ord) (hS : SetK knd o es ep t ks) :
  Walks prog w A I [I,a] [I] ks.length (fun i v => ord[i]? = some v) (fun i h => h.get? I = some (zBU (rawInt (at_ i)) i a ks.length ep) /\ h.get? a = some o) where
 sub:=fun b hb => by simp at hb; simp [hb]
 frame:=fun _ _ _ st hk => ⟨hk I (by simp) _ st.1,hk a (by simp) _ st.2⟩;item:=fun i s Q E hi st hQ => by
  have hx : ord[i]? = some (ord[i]'(by rw [N.len]; exact hi)):=zVR _;refine zNR N hS st.1 st.2 hx fun h' hI' hs' => ?_;exact hQ _ h' s.toks hx ⟨hI',hs'.extBut a o hne st.2⟩ fun b u hb ee => hs'.extBut b u (fun h => hb (by simp [h])) ee
 done:=fun s Q E st hQ => zQW hh N hS st.1 st.2 fun h' he' => hQ h' s.toks fun b u hb ee => he' b u (fun h => hb (by simp [h])) ee;self:=fun _ _ _ _ st hQ => zNB st.1 hQ
theorem zMd {pl : List Nat} (hS : SetK knd o es ep t ks) (hl : pl.length = ks.length) (hI : s.heap.get? I = some (zBU (.ref T) i a ks.length ep)) (ho : s.heap.get? a = some o)
  (hT : IsTup s.heap T (pl.map fun (k : Nat) => rawInt k).toArray)
  (hx : (pl[i]?).bind (fun k => (es[k]?).map (·.2)) = some x) (hQ : ∀ h',h'.get? I = some (zBU (.ref T) (i + 1) a ks.length ep) -> Heap.SameBut I s.heap h' -> Q (some x) { s with heap:=h' }) : wpAny (model prog w) A (pyNext (.ref I)) Q E s:=by
 have hTy:=zH5 hI;obtain ⟨oT,hoT,hcT,nT,hdT⟩:=id hT;cases hp : pl[i]? with
 | none => rw [hp] at hx; cases hx
 | some k =>
  rw [hp] at hx;cases he : es[k]? with
  | none => simp only [Option.bind_some] at hx; rw [he] at hx; cases hx
  | some e =>
   simp only [Option.bind_some] at hx;rw [he] at hx;cases hx;unfold pyNext;refine zVN (wpAny_attempt (zVz (name:=Str.ofString "__next__") hTy zAP (zV0 zAP hTy zCD ?_ (zCS _))));unfold Builtin.«set_iterator.__next__» slotArgs;simp only [List.isEmpty_nil,Bool.not_true,zWO,↓reduceIte,List.length_nil,bne_self_eq_false,pure_bind,bind_assoc];refine zVN (wpAny_fieldsOf hI rfl ?_);dsimp only [rawInt];refine zVN (wpAny_setEntries_of ho hS.data hS.fits ?_);rw [zVf (by rw [hS.size]; simp)];refine zVN (zWD hoT hdT ?_);dsimp only;have e5 : (List.map (fun (k : Nat) => rawInt k) pl).toArray[(i : Int).toNat]? = some (rawInt k):=by simp [hp]
   rw [e5];dsimp only [rawInt];unfold setNextDrawn;simp only [bind_assoc];refine zVN (wpAny_setState_of ho hS.data hS.fits ?_);dsimp only;rw [zVf (by simp)];have e6 : es[(k : Int).toNat]? = some e:=by simpa using he
   rw [e6];obtain ⟨e1,e2⟩:=e;dsimp only;simp only [pure_bind];refine zVN (wpAny_setField hI rfl (by simp) ?_);refine zVP ⟨e2,rfl,zVP (hQ _ ?_ (zWQ ..))⟩;refine (zWA _ hI (Obj.isFreed_of_fields (zWe rfl _))).trans ?_;simp [Obj.mapFields,zBU,rawInt]
theorem zOB {pl : List Nat} (hh : A.handled = none) (hS : SetK knd o es ep t ks) (hl : pl.length = ks.length) (hI : s.heap.get? I = some (zBU (.ref T) ks.length a ks.length ep)) (ho : s.heap.get? a = some o)
  (hT : IsTup s.heap T (pl.map fun (k : Nat) => rawInt k).toArray) (hQ : ∀ h',Heap.ExtBut I s.heap h' -> Q none { s with heap:=h' }) : wpAny (model prog w) A (pyNext (.ref I)) Q E s:=by
 have hTy:=zH5 hI;obtain ⟨oT,hoT,hcT,nT,hdT⟩:=id hT;unfold pyNext;refine zVN (wpAny_attempt (zVz (name:=Str.ofString "__next__") hTy zAP (zV0 zAP hTy zCD ?_ (zCS _))));unfold Builtin.«set_iterator.__next__» slotArgs;simp only [List.isEmpty_nil,Bool.not_true,zWO,↓reduceIte,List.length_nil,bne_self_eq_false,pure_bind,bind_assoc];refine zVN (wpAny_fieldsOf hI rfl ?_);dsimp only [rawInt];refine zVN (wpAny_setEntries_of ho hS.data hS.fits ?_);rw [zVf (by rw [hS.size]; simp)];refine zVN (zWD hoT hdT ?_);dsimp only;have e5 : (List.map (fun (k : Nat) => rawInt k) pl).toArray[(ks.length : Int).toNat]? = none:=by simp [hl]
 rw [e5];dsimp only [rawInt];refine zVN (wpAny_setField hI rfl (by simp) ?_);have e1:=zWA (Obj.mapFields fun vs => vs.set! 0 (rawInt 0)) hI (Obj.isFreed_of_fields (zWe rfl _));refine zVN (wpAny_setField e1 (zWe rfl _) (by simp) ?_);simp only [newExc,newTuple,bind_assoc,pure_bind];refine zVN (zVq (zVN (m:=firstArgMember _ _) (wpAny_of_eq (a:=Value.none) (by first | rfl | (simp only [firstArgMember]; rfl)) (zVN (zVq ?_ (by size_fits))))) (by size_fits));simp only [raiseNew];refine zVN (wpAny_handled ?_);rw [show A.in1.handled = none from hh];refine zVN (zVP (wpAny_throw ?_));refine zVN (wpAny_isInstance (T := "StopIteration") (b:=true) ⟨_,zVX _ rfl,rfl⟩ isSubtype_stop (zVP ?_));exact hQ _ ((((zWQ ..).trans (zWQ ..)).extBut.push _).push _)
theorem zKr {pl : List Nat} (hh : A.handled = none) (hne : a ≠ I) (hneT : T ≠ I) (hS : SetK knd o es ep t ks) (hl : pl.length = ks.length) (hb : ∀ k ∈ pl,k < es.size) :
  Walks prog w A I [I,a,T] [I] ks.length (fun i v => (pl[i]?).bind (fun k => (es[k]?).map (·.2)) = some v) (fun i h => h.get? I = some (zBU (.ref T) i a ks.length ep) /\ h.get? a = some o /\ IsTup h T (pl.map fun (k : Nat) => rawInt k).toArray) where
 sub:=fun b hb => by simp at hb; simp [hb]
 frame:=fun _ _ _ st hk => ⟨hk I (by simp) _ st.1,hk a (by simp) _ st.2.1,let ⟨oT,ho,r⟩:=st.2.2; ⟨oT,hk T (by simp) oT ho,r⟩⟩;item:=fun i s Q E hi st hQ => by
  have hi' : i < pl.length:=by rw [hl]; exact hi
  have hk : pl[i] < es.size:=hb _ (zVv hi');have hx : (pl[i]?).bind (fun k => (es[k]?).map (·.2)) = some (es[pl[i]].2):=by
   rw [zVR hi']; simp [hk]
  refine zMd hS hl st.1 st.2.1 st.2.2 hx fun h' hI' hs' => ?_;exact hQ _ h' s.toks hx ⟨hI',hs'.extBut a o hne st.2.1,st.2.2.extBut hs'.extBut hneT⟩ fun b u hb ee => hs'.extBut b u (fun h => hb (by simp [h])) ee
 done:=fun s Q E st hQ => zOB hh hS hl st.1 st.2.1 st.2.2 fun h' he' => hQ h' s.toks fun b u hb ee => he' b u (fun h => hb (by simp [h])) ee;self:=fun _ _ _ _ st hQ => zNB st.1 hQ
end
open Sem (wp)
theorem zNl {prog : Program} {w : World} {A : Around} {I : Addr} {fp wr : List Addr} {n : Nat} {P P' : Nat -> Value -> Prop} {St : Nat -> Heap -> Prop} (W : Walks prog w A I fp wr n P St) (h : ∀ i v,P i v -> P' i v) : Walks prog w A I fp wr n P' St where
 sub:=W.sub;frame:=W.frame;item:=fun i s Q E hi st hQ => W.item i s Q E hi st fun v h' tk hP => hQ v h' tk (h i v hP);done:=W.done;self:=W.self
section
variable {prog : Program} {w : World} {A : Around} {E : Value -> Shared -> Prop} {s : Shared}
variable {K : Type} [DecidableEq K] {knd : KeyKind prog w K} {o : Obj} {es : Array (Int × Value)} {ep : Nat} {t : SetTable} {ks : List K} {a I : Addr}
theorem zDB (h : Q (w.params.followText "set-order") s) : wpAny (model prog w) A setsByText Q E s:=by
 unfold setsByText;exact zVN (wpAny_askSetting (zVP h))
theorem zMe (hS : SetK knd o es ep t ks) (hT : w.params.followText "set-order" = true) : Nexts prog w o a ep ks.length (fun _ => 0) ((pickOrder (w.params.setOrder a ep) es).toList.map (·.2)) where
 len:=by rw [zVW,(zET _ es).length_eq,zV6,hS.size]
 nx:=fun A E i s Q hi ho hQ => by
  unfold setNext;refine zVN (wpAny_setState_of ho hS.data hS.fits ?_);dsimp only;refine zVN (zDB ?_);rw [hT,zVc rfl,zVf (by simp)];refine zVN ?_;unfold setWalk;refine zVN (wpAny_setState_of ho hS.data hS.fits ?_);dsimp only;refine zVN (zDB ?_);rw [hT,zVc rfl];refine zVN (wpAny_askSetting (zVP ?_));refine zVP ?_;have e : (Option.map (fun (e : Int × Value) => (e.2,0)) (pickOrder (w.params.setOrder a ep) es)[i]?) = Option.map (fun x => (x,0)) ((pickOrder (w.params.setOrder a ep) es).toList.map (·.2))[i]?:=by
   rw [zVk,Array.getElem?_toList];cases (pickOrder (w.params.setOrder a ep) es)[i]? <;> rfl
  show Q (Option.map (fun (e : Int × Value) => (e.2,0)) (pickOrder (w.params.setOrder a ep) es)[i]?) s;rw [e]; exact hQ
def zMg (t : SetTable) : Nat -> Nat
 | 0 => 0
 | i + 1 => t.place.getD i 0 + 1
theorem zPx (h : Up t.place) (hi : i <= t.place.size) : SetTable.below t.place (zMg t i) = i:=by
 cases i with
 | zero => exact zL6 h
 | succ i =>
  show SetTable.below t.place (t.place.getD i 0 + 1) = i + 1;have hl : i < t.place.size:=by omega
  have e : t.place.getD i 0 = t.place[i]:=by simp [Array.getD,hl]
  rw [e]; exact zMI h hl
theorem zNY (hS : SetK knd o es ep t ks) : t.place.size = es.size:=by
 have:=hS.fits;simp only [SetTable.fits,zVx,beq_iff_eq] at this;exact this.1
theorem zKc (hS : SetK knd o es ep t ks) (hT : w.params.followText "set-order" = false) (hd : (!t.plain && decide (es.size > 1)) = false) : Nexts prog w o a ep ks.length (zMg t) (es.toList.map (·.2)) where
 len:=by rw [zVW,zV6,hS.size]
 nx:=fun A E i s Q hi ho hQ => by
  have hz:=zNY hS;unfold setNext;refine zVN (wpAny_setState_of ho hS.data hS.fits ?_);dsimp only;refine zVN (zDB ?_);rw [hT,zVf (by decide)];show wpAny _ _ (if (!t.plain && decide (es.size > 1)) = true then _ else _) _ _ _;rw [zVf (by rw [hd]; decide)];have hl : t.led = true:=by rw [hS.tab.led,hT]; rfl
  refine zVN ?_;show wpAny _ _ (if (!t.led && !es.isEmpty) = true then unsupported "set:maker-not-led" else pure ()) _ _ _;rw [zVf (by rw [hl]; simp)];refine zVP ?_;rw [zPx hS.tab.up (by rw [hz,hS.size]; exact hi)];refine zVP ?_;rw [zVk,Array.getElem?_toList] at hQ;by_cases q : i < es.size
  ·have q2 : i < t.place.size:=by rw [hz]; exact q
   rw [zV8 q,zV8 q2];rw [zV8 q] at hQ;have e : zMg t (i + 1) = t.place[i] + 1:=by
    show t.place.getD i 0 + 1 = _;simp [Array.getD,q2]
   simp only [Option.map] at hQ;rw [e] at hQ;exact hQ
  ·have : i = es.size:=by rw [hS.size] at q ⊢; omega
   rw [Array.getElem?_eq_none (by omega)] at hQ ⊢;exact hQ
theorem zQc (ho : s.heap.get? a = some o) (hS : SetK knd o es ep t ks)
  (h : ∀ (h' : Heap) (d : Drawn) (I : Addr) (fp : List Addr) (ord : List Value) (St : Nat -> Heap -> Prop),(∀ b u,s.heap.get? b = some u -> h'.get? b = some u) -> s.heap.objs.size <= I -> (∀ b ∈ fp,b < h'.objs.size /\ (b = a \/ s.heap.objs.size <= b)) ->
   (∀ A : Around,A.handled = none -> Walks prog w A I fp [I] ks.length (fun i v => ord[i]? = some v) St) -> St 0 h' -> ord.Perm (es.toList.map (·.2)) -> Q (.ref I) { s with heap:=h',drawn:=d }) :
  wpAny (model prog w) A (pyIter (.ref a)) Q E s:=by
 have hT:=hS.typeIs ho;have hal : a < s.heap.objs.size:=zVY ho;refine wpAny_pyIter_slot hT F.slot_set_iter (zV0 F.slot_set_iter hT zIS ?_ (F.args_set_iter_1 _));unfold Builtin.«frozenset.__iter__» Builtin.Frozenset.slot0 slotArgs Builtin.Frozenset.addrOf Builtin.Frozenset.sizeOf;simp only [List.isEmpty_nil,Bool.not_true,zWO,↓reduceIte,List.length_nil,bne_self_eq_false,pure_bind,bind_assoc];refine zVN (wpAny_setEntries_of ho hS.data hS.fits ?_);unfold setDrawn;simp only [bind_assoc];refine zVN (wpAny_setState_of ho hS.data hS.fits ?_);dsimp only;refine zVN (zDB ?_);simp only [pure_bind];have hsz:=hS.size;have plain : ∀ (at_ : Nat -> Nat) (ord : List Value),at_ 0 = 0 -> Nexts prog w o a ep ks.length at_ ord -> ord.Perm (es.toList.map (·.2)) -> Q (.ref s.heap.objs.size) { s with heap:=s.heap.push (zBU (rawInt 0) 0 a ks.length ep) }:=by
  intro at_ ord h0 N hp;have e : s.heap.push (zBU (rawInt 0) 0 a ks.length ep) = s.heap.push (zBU (rawInt 0) 0 a ks.length ep):=rfl
  have:=h (s.heap.push (zBU (rawInt 0) 0 a ks.length ep)) s.drawn s.heap.objs.size [s.heap.objs.size,a] ord (fun i h => h.get? s.heap.objs.size = some (zBU (rawInt (at_ i)) i a ks.length ep) /\ h.get? a = some o)
   (fun b u e => zVO _ e) (zVT _) (fun b hb => by
    rw [zV3];rcases zVZ.mp hb with z | z
    ·rw [z]; exact ⟨zWK _,.inr (zVT _)⟩
    ·rw [zVp.mp z]; exact ⟨zWC hal,.inl rfl⟩)
   (fun A hh => zKt hh (zVi hal) N hS) ⟨by rw [h0]; exact zVX _ rfl,zVO _ ho⟩ hp
  exact this
 have mk : ∀ (s1 : Shared) (f : Value) (hv : s1.heap.get? a = some o) {Q' : Fin -> Shared -> Prop},Q' (.done (.ret (.ref s1.heap.objs.size))) { s1 with heap:=s1.heap.push (zBU f 0 a ks.length ep) } -> wpAny (model prog w) A.in1 (do
   let e <- setEpoch a;let r <- newFields "set_iterator" [f,rawInt 0,Value.ref a,rawInt es.size,rawInt e];ret r) Q' E s1:=by
  intro s1 f hv Q' hq;refine zVN (wpAny_setEpoch_of hv hS.data hS.fits ?_);unfold newFields;refine zVN (zVq (zVP ?_));rw [hsz]; exact hq
 have ty : ∀ (s1 : Shared) (f : Value),(∃ T' r,Shared.TypeIs { s1 with heap:=s1.heap.push (zBU f 0 a ks.length ep) } (.ref s1.heap.objs.size) T' /\ typeLookup (Value.type T') (Str.ofString "__next__") = pure (some r) /\ True):=fun s1 f => ⟨"set_iterator", _,⟨_,zVX _ rfl,rfl⟩,zAP.lookup,trivial⟩;show wpAny _ _ (if (!w.params.followText "set-order" && (!t.plain && decide (es.size > 1))) = true then _ else _) _ _ _;by_cases hc : (!w.params.followText "set-order" && (!t.plain && decide (es.size > 1))) = true
 ·rw [zVc hc];refine zVN (zD9 _ _ (by simp) fun pl d hp => ?_);refine zVN ?_;unfold newTuple;have hpl : pl.length = ks.length:=by rw [hp.length_eq,zXK,hsz]
  refine zVq ?_ (by
   show (List.map (fun (i : Nat) => rawInt i) pl).toArray.size <= sizeLine;rw [zVV,zVW,hpl,<- hsz]; exact fits_of_scanBound hS.bound)
  generalize hH : s.heap.push { cls:=.type "tuple", data:=.seq (List.map (fun (i : Nat) => rawInt i) pl).toArray } = H;have kH : ∀ b u,s.heap.get? b = some u -> H.get? b = some u:=fun b u e => by rw [<- hH]; exact zVO _ e
  have hT1 : IsTup H s.heap.objs.size (pl.map fun (k : Nat) => rawInt k).toArray:=⟨_,by rw [<- hH]; exact zVX _ rfl,rfl,0,rfl⟩;have szH : H.objs.size = s.heap.objs.size + 1:=by rw [<- hH]; exact zV3 ..
  have szlt : s.heap.objs.size < H.objs.size:=by rw [szH]; exact zWK _
  have alt : a < H.objs.size:=Nat.lt_trans hal szlt;refine mk { s with heap:=H,drawn:=d } (.ref s.heap.objs.size) (kH _ _ ho) ?_;obtain ⟨T',r,e1,e2,_⟩:=ty { s with heap:=H,drawn:=d } (.ref s.heap.objs.size);refine ⟨_,rfl,T',r,e1,e2,?_⟩;have kH2 : ∀ b u,s.heap.get? b = some u -> (H.push (zBU (.ref s.heap.objs.size) 0 a ks.length ep)).get? b = some u:=fun b u e => zVO _ (kH b u e);refine h _ d H.objs.size [H.objs.size,a,s.heap.objs.size] (pl.map fun k => ((es[k]?).map (·.2)).getD .none) (fun i h => h.get? H.objs.size = some (zBU (.ref s.heap.objs.size) i a ks.length ep) /\ h.get? a = some o /\ IsTup h s.heap.objs.size (pl.map fun (k : Nat) => rawInt k).toArray) kH2 (by rw [szH]; exact zW5 _) (fun b hb => ?_) (fun A hh => ?_) ⟨zVX _ rfl,kH2 a o ho,?_⟩ ?_
  ·rw [zV3];simp only [zVZ,zVs,zWi] at hb;rcases hb with z | z | z
   ·rw [z]; exact ⟨zWK _,.inr (Nat.le_of_lt szlt)⟩
   ·rw [z]; exact ⟨zWC alt,.inl rfl⟩
   ·rw [z]; exact ⟨zWC szlt,.inr (zVT _)⟩
  ·have hb : ∀ k ∈ pl,k < es.size:=fun k hk => by have:=hp.mem_iff.mp hk; simpa using this
   refine zNl (zKr hh (a:=a) (I:=H.objs.size) (T:=s.heap.objs.size) (zVi alt) (zVi szlt) hS hpl hb) fun i v hv => ?_;rw [zVk];cases q : pl[i]? with
   | none => rw [q] at hv; cases hv
   | some k =>
    rw [q] at hv;simp only [Option.bind_some] at hv;rw [Option.map_some,hv]; rfl
  ·exact hT1.push _
  ·have e : es.toList.map (·.2) = (List.range es.size).map fun k => ((es[k]?).map (·.2)).getD .none:=by
    apply List.ext_getElem?;intro i;rw [zVk,zVk,Array.getElem?_toList];by_cases q : i < es.size
    ·rw [List.getElem?_range q,zV8 q]; simp [q]
    ·rw [Array.getElem?_eq_none (by omega),zWW (by simp; omega)]; rfl
   rw [e];exact hp.map _
 ·rw [zVf hc];refine mk s (rawInt 0) ho ?_;obtain ⟨T',r,e1,e2,_⟩:=ty s (rawInt 0);refine ⟨_,rfl,T',r,e1,e2,?_⟩;cases hX : w.params.followText "set-order" with
  | true => exact plain _ _ rfl (zMe hS hX) ((zET _ es).map _)
  | false =>
   rw [hX] at hc;exact plain _ _ rfl (zKc hS hX (by simpa using hc)) (.refl _)
end
open Sem (wp)
section
variable {prog : Program} {w : World} {A : Around} {E : Value -> Shared -> Prop} {s : Shared}
variable {K : Type} [DecidableEq K] {knd : KeyKind prog w K} {o : Obj} {es : Array (Int × Value)} {ep : Nat} {t : SetTable} {ks : List K} {a I : Addr}
theorem zPR : isSubtype (.type "set") (.type "set") = pure true:=sub_set_self
theorem zOY (hT : s.TypeIs (.ref a) "set") (h : Q false s) : wpAny (model prog w) A (Builtin.List.listLengthHint (.ref a)) Q E s:=by
 unfold Builtin.List.listLengthHint;refine zVN (wpAny_specialOf hT F.slot_set_len.lookup ?_);have hsp : splitId "set.__len__" = some ("set", "__len__"):=by decide +kernel
 dsimp only;rw [hsp];dsimp only;refine zVN (wpAny_isInstance hT zPR ?_);rw [zVf (by decide),zVc (by decide +kernel)];refine zVN (wpAny_typeOf hT ?_);exact zVP h
theorem zKY (hh : A.handled = none) (ho : s.heap.get? a = some o) (hS : SetK knd o es ep t ks)
  (hQ : ∀ (s' : Shared) (acc : List Value),(∀ b u,s.heap.get? b = some u -> s'.heap.get? b = some u) -> s'.os = s.os -> s'.gens = s.gens -> acc.Perm (es.toList.map (·.2)) -> Q acc s') : wpAny (model prog w) A (collect (.ref a)) Q E s:=by
 have hal : a < s.heap.objs.size:=zVY ho;have hn : ks.length <= sizeLine:=by rw [<- hS.size]; exact fits_of_scanBound hS.bound
 unfold collect;refine zVN (wpAny_runValue (zWS F.entry_proto_collect ?_));rw [zWI F.plain_proto_collect _];show wpAny _ A.in1 (newList [] >>= fun l => again (.builtin "list.__iadd__" ⟨[l,.ref a],[]⟩)) _ _ s;refine zVN (zVq (zVP ⟨plainId_quiet F.plain_list_iadd _,zWS F.entry_list_iadd ?_⟩));rw [zWI F.plain_list_iadd _];generalize hH : s.heap.push { cls:=.type "list", data:=.seq ([] : List Value).toArray } = H;have kH : ∀ b u,s.heap.get? b = some u -> H.get? b = some u:=fun b u e => by rw [<- hH]; exact zVO _ e
 have szH : H.objs.size = s.heap.objs.size + 1:=by rw [<- hH]; exact zV3 ..
 have hL1 : H.get? s.heap.objs.size = some { cls:=.type "list", data:=.seq ([] : List Value).toArray }:=by rw [<- hH]; exact zVX _ rfl
 have ho1:=kH a o ho;show wpAny _ A.in1 (Builtin.List.listExtendWith (.ref s.heap.objs.size) (.ref a) (.ref s.heap.objs.size)) _ _ { s with heap:=H };unfold Builtin.List.listExtendWith;have hT1 : Shared.TypeIs { s with heap:=H } (.ref a) "set" := ⟨o,ho1,hS.ex.1⟩;refine zVN (wpAny_typeOf hT1 ?_);have hneL : s.heap.objs.size ≠ a:=zWs hal;have h1 : Builtin.List.listSameRef (.ref s.heap.objs.size) (.ref a) = false:=by simp [Builtin.List.listSameRef,hneL]
 have h2 : (Value.type "set" == Value.type "list") = false:=by decide
 have h3 : (Value.type "set" == Value.type "tuple") = false:=by decide
 simp only [h1,h2,h3,Bool.or_false,zWO,if_false];refine zVN (zQc (s:={ s with heap:=H }) ho1 hS fun h2 d I fp ord St k2 hI2 hfp W st0 hp => ?_);have ho2:=k2 a o ho1;refine zVN (zWG (zOY (s:={ s with heap:=h2,drawn:=d }) ⟨o,ho2,hS.ex.1⟩ ?_));rw [zVc (by decide +kernel)];refine zVN (zWk (zVN ?_));show wpAny _ A.in1 (updateSeq s.heap.objs.size (·.push .none) >>= fun _ => updateSeq s.heap.objs.size (·.pop)) _ _ _;have hL2:=k2 _ _ hL1;refine zVN (wpAny_updateSeq (s:={ s with heap:=h2,drawn:=d }) hL2 rfl ?_);have hS2:=zWA (Obj.mapSeq (·.push Value.none)) hL2 rfl;refine wpAny_updateSeq hS2 rfl ?_;have hS3:=zWA (Obj.mapSeq (·.pop)) hS2 rfl;generalize hH3 : (h2.update s.heap.objs.size (Obj.mapSeq (·.push Value.none))).update s.heap.objs.size (Obj.mapSeq (·.pop)) = H3 at hS3;have oth : ∀ b u,b ≠ s.heap.objs.size -> h2.get? b = some u -> H3.get? b = some u:=fun b u hb e => by
  rw [<- hH3]; exact (zV4 _ _ (Ne.symm hb)).trans ((zV4 _ _ (Ne.symm hb)).trans e)
 have hSf : s.heap.objs.size ∉ fp:=fun hm => by
  rcases (hfp _ hm).2 with z | z
  ·exact hneL z
  ·have z' : H.objs.size <= s.heap.objs.size:=z;rw [szH] at z'; exact absurd z' (Nat.not_succ_le_self _)
 have WS:=(W A.in1.in1 hh).toS;have st3 : St 0 H3:=(W A.in1.in1 hh).frame 0 _ _ st0 fun b hb u e => oth b u (fun z => hSf (z ▸ hb)) e;have hI3 : I ≠ s.heap.objs.size:=fun z => by
  have z' : H.objs.size <= I:=hI2;rw [szH,z] at z'; exact absurd z' (Nat.not_succ_le_self _)
 refine zVP ⟨plainId_quiet F.plain_extend_loop _,codeAny_extend_loopS (A:=A) (WalksS.of_in1 WS) hn _ hSf _ ks.length 0 { s with heap:=H3,drawn:=d } _ _ rfl (zV9 _) st3 hS3 (ItemsOf.nil _) fun s' acc' c' hm hS' hacc => ?_⟩;show wpAny _ A (load s.heap.objs.size >>= _) _ _ s';refine zVN (wpAny_load hS' (zVP (hQ s' _ (fun b u e => hm.heap b u (fun q => ?_) (oth b u (fun z => zV5 _ (z ▸ zVY e)) (k2 b u (kH b u e)))) hm.os hm.gens ?_)))
 ·rcases zVZ.mp q with z | z
  ·exact zV5 _ (z ▸ zVY e)
  ·have z' : H.objs.size <= I:=hI2;rw [<- zVp.mp z,szH] at z';exact zV5 _ (Nat.lt_trans (zVm (zWK _) z') (zVY e))
 ·have e : acc'.toList = ord:=by
   have hl : ord.length = ks.length:=by rw [hp.length_eq,zVW,zV6,hS.size]
   apply List.ext_getElem?;intro i;rw [Array.getElem?_toList];by_cases q : i < ks.length
   ·have q' : i < acc'.size:=by rw [hacc.1]; exact q
    rw [zV8 q'];exact (hacc.2 i _ (zV8 q')).symm
   ·rw [Array.getElem?_eq_none (by rw [hacc.1]; omega),zWW (by omega)]
  rw [e]; exact hp
end
end ST
namespace L2
open PySem PySem.Spec PyProof.Rows ST
section
variable {prog : Program} {w : World} {A : Around} {R : Result -> Shared -> Prop} {s : Shared}
theorem zEC {elt target iter ifs rest scope pos it acc env}
  (h0 : codeAny (model prog w) A (.compLoop (.SetComp elt (⟨target,iter,ifs,0⟩ :: rest) scope pos) 0 it acc env) R s)
  (h : wpAny (model prog w) A (pyIter it) (fun it' s' => codeAny (model prog w) A (.compLoop (.SetComp elt (⟨target,iter,ifs,0⟩ :: rest) scope pos) 0 it' acc env) R s')
   (notedBy (model prog w) A env fun x s' => R (.error x) s') s) :
  codeAny (model prog w) A (.compStart (.SetComp elt (⟨target,iter,ifs,0⟩ :: rest) scope pos) 0 it acc env) R s:=by
 refine codeAny_of_tree ?_;show wpAny _ _ ((compStart (.SetComp elt (⟨target,iter,ifs,0⟩ :: rest) scope pos) 0 it acc env).onRaise (fun x => do noteFrame x env; standAt theWindowsPlace)) _ _ s;refine wpAny_notedAt ?_;unfold compStart;show wpAny _ _ (ask >>= _) _ _ s;refine zVN (wpAny_askSetting (wpAny_ite ?_));split
 ·first
   | exact zVN (zVP (zVP (And.intro rfl h0)))
   | exact zVP (And.intro rfl h0)
 ·first
   | exact zVN (zWk (zVN (zWL (zVN (zVt h (fun it' s' h' => zVP (And.intro rfl h')) fun _ _ x => x)))))
   | (refine zVN (zWk ?_); show wpAny _ _ (standAt iter.pos >>= _) _ _ s; exact zVN (zWL (zVN (zVt h (fun it' s' h' => zVP (And.intro rfl h')) fun _ _ x => x))))
end
section
variable {X : Cx} {zB : List (Addr × Obj)} {σ : St} {H : Hp} {s : Shared} {scope : Scope} {cl : List (Str × Addr)} {fp : List Addr} {it : Addr} {tn : Nat -> Heap -> Prop} {J : It} {tg elt iter : Expr} {ifs : List Expr} {pos : Pos}
 {own : List Nat} {g : TG} {tc : TT} {te : TE} {E : Value -> Shared -> Prop}
theorem zMR (h : SetK (intKind prog w) o es ep t ks) : ∀ v,o.data ≠ .cell v:=fun v z => by rw [h.data] at z; cases z
theorem zH6 (C : CompIn X scope own) (hcalm : X.calm = true) (I : Inv X zB σ H s) (T : Turn X.prog X.w X.K tg J fp it tn) (st : tn 0 s.heap) (hf : ∀ b ∈ fp,zCT X zB H b)
  (c1 : ∀ x c,cl.lookup x = some c -> X.env.cells.lookup x = some c) (c2 : ∀ y ∈ scope.names,y.2 = .free -> (cl.lookup y.1).isSome = true)
  (hg : PG (zR X zB scope cl s H fp) tg g) (hi : zGr (zR X zB scope cl s H fp) ifs tc) (he : PE (zR X zB scope cl s H fp) elt te)
  {RR : Value -> Addr -> Result -> Shared -> Prop} {QQ : List Int -> Hp -> Prop} {W : Nat -> Nat -> List Int -> Hp -> Prop} {m0 : Nat} (w0 : W 0 m0 [] H)
  (turn : ∀ i m ys H,W i m ys H -> (J.stop i H /\ QQ ys H) \/
   (J.go i H /\ ∀ x H',J.yld i H x H' -> g x (clr own σ) H' fun σ2 H2 => Ext (clr own σ) σ2 /\ tc σ2 H2 fun b H3 =>
    if b = true then te σ2 H3 fun v H4 => ∃ k,v = .int k /\ ys.length + 1 < scanBound /\ ∃ m',m' < m /\ W (i + 1) m' (ins ys k) H4 else ∃ m',m' < m /\ W (i + 1) m' ys H3))
  (fin : ∀ σc H' s' o es ep t ys,Inv (zR X zB scope cl s H fp) [(s.heap.objs.size,o)] σc H' s' -> SetK (intKind X.prog X.w) o es ep t ys -> QQ ys H' -> RR (.ref s.heap.objs.size) (s.heap.objs.size + 1) (.ok .next) s') :
  wpAny (model X.prog X.w) X.A (newSet (.type "set")) (fun acc s₃ => wpAny (model X.prog X.w) X.A (newFunctionEnv scope X.env.globals cl [] X.env.qual none .none (some X.env)) (fun cenv s₄ =>
   codeAny (model X.prog X.w) X.A (.compStart (.SetComp elt [⟨tg,iter,ifs,0⟩] scope pos) 0 (.ref it) acc { cenv with scope:=relabel scope X.env }) (RR acc cenv.locals) s₄) E s₃) E s:=by
 have ob : ∀ b : Nat,b ∈ fp -> b < s.heap.objs.size:=fun b hb => let ⟨_,e,_⟩:=T.obj 0 _ st b hb; zVY e;refine zN2 (zC4 ?_);have sz1 : (s.heap.push (zn X.w)).objs.size = s.heap.objs.size + 1:=zV3 ..;have I4:=zFc (X:=X) (zB:=zB) (σ:=σ) (σc:=clr own σ) (H:=H) (s:=s) (scope:=scope) (cl:=cl) (fp:=fp) C.sc I hf ob c1 c2 (zBa own σ) (fun i x v h1 h2 h3 => by
  obtain ⟨a,b⟩:=zDC own σ i v h2;rcases C.nm i x h1 with z | z | z
  ·exact absurd z b
  ·exact absurd (zCV x z) h3
  ·exact ⟨z,a⟩) (zn X.w) (by intro v z; cases z) rfl rfl
 have st4 : tn 0 (pushCells ((s.heap.push (zn X.w)).push { cls:=.type "dict", data:=.dict #[] }) scope.names):=T.keep 0 _ _ st fun b _ o e => pushCells_keeps _ _ b o (zVO _ (zVO _ e));dsimp only;unfold newEnv;dsimp only;rw [sz1];have hDfp : s.heap.objs.size ∉ fp:=fun z => zV5 _ (ob _ z);have hcD : ∀ x c,(zR X zB scope cl s H fp).env.cells.lookup x = some c -> c ≠ s.heap.objs.size:=fun x c e z => by
  obtain ⟨v,o,ho,hd⟩:=I4.cell x c e;obtain ⟨q,_⟩:=I4.pin (s.heap.objs.size,zn X.w) (by simp);rw [z,q] at ho;cases ho; cases hd
 have fpk : ∀ {H' : Hp} {pl : List (Addr × Obj)},(∀ b ∈ fp,H' b = none) -> (∀ p ∈ pl,p.1 = s.heap.objs.size) -> ∀ b ∈ fp,zCT (zR X zB scope cl s H fp) pl H' b:=fun {H' pl} hn hp b hb =>
  ⟨hn b hb,(I4.ok.exf b hb).1,I4.ok.exfs b hb,.inl hb,(I4.ok.exf b hb).2,fun p hq => by
   rcases zVn.mp hq with z | z
   ·exact (hf b hb).2.2.2.2.2 p z
   ·intro e;have e2:=hp p z;rw [e] at e2;exact hDfp (e2 ▸ hb)⟩
 have loop : codeAny (model X.prog X.w) X.A (.compLoop (.SetComp elt [⟨tg,iter,ifs,0⟩] scope pos) 0 (.ref it) (.ref s.heap.objs.size) (zR X zB scope cl s H fp).env) (RR (.ref s.heap.objs.size) (s.heap.objs.size + 1))
   { s with heap:=pushCells ((s.heap.push (zn X.w)).push { cls:=.type "dict", data:=.dict #[] }) scope.names }:=by
  refine zJs (fun n s' => ∃ i H' ys o es ep t,Inv (zR X zB scope cl s H fp) [(s.heap.objs.size,o)] (clr own σ) H' s' /\ SetK (intKind X.prog X.w) o es ep t ys /\ tn i s'.heap /\ (∀ b ∈ fp,H' b = none) /\ W i n ys H') ?_ m0
   ⟨0,H,[],zn X.w,_,_,_,I4,.fresh,st4,fun b hb => (hf b hb).1,w0⟩
  rintro n s5 ⟨i,H5,ys,o,es,ep,t,I5,r5,st5,f5,w5⟩;have pinD : ∀ p ∈ [(s.heap.objs.size,o)],p.1 = s.heap.objs.size:=fun p hp => by
   have : p = (s.heap.objs.size,o):=by simpa using hp
   rw [this]
  rcases turn i n ys H5 w5 with ⟨stop,qq⟩ | ⟨go,step⟩
  ·refine thn (T.done (zR X zB scope cl s H fp) rfl rfl rfl hcalm i _ s5 _ H5 _ I5 (fpk f5 pinD) st5 stop) fun r s6 ⟨hr,I6⟩ => ?_;subst hr;exact fin _ H5 s6 o es ep t ys I6 r5 qq
  ·refine thn (T.item (zR X zB scope cl s H fp) rfl rfl rfl hcalm i _ s5 _ H5 _ I5 (fpk f5 pinD) st5 go) fun r s6 ⟨u,hr,h6⟩ => ?_;subst hr;refine thn h6 fun _ s7 ⟨x,H7,I7,r7,y7,st7,f7⟩ => ?_;have I7':=I7.pinned (fpk f7 pinD) (T.obj _ _ st7);refine thn (hg _ s7 _ H7 x u _ I7' r7 (step x H7 y7)) fun _ s8 ⟨σ8,H8,I8,x8,q8⟩ => ?_;refine thn (hi _ s8 σ8 H8 _ I8 q8) fun ok s9 ⟨H9,I9,q9⟩ => ?_;have back : ∀ {s' : Shared} {Hx : Hp},Inv (zR X zB scope cl s H fp) ([(s.heap.objs.size,o)] ++ zDR fp s7.heap) σ8 Hx s' -> tn (i + 1) s'.heap /\ ∀ b ∈ fp,Hx b = none:=fun {s' Hx} Ix =>
    ⟨T.keep _ _ _ st7 fun b hb o e => (Ix.pin (b,o) (zVh _ (zVh _ (zAa hb e)))).1,fun b hb => by
     obtain ⟨o,e,d⟩:=T.obj _ _ st7 b hb;exact (Ix.pin (b,o) (zVh _ (zVh _ (zAa hb e)))).2.1⟩
   cases ok with
   | false =>
    obtain ⟨m',hm,w'⟩:=q9;obtain ⟨b1,b2⟩:=back I9;exact ⟨m',hm,i + 1,H9,ys,o,es,ep,t,(I9.weak (by rw [x8.1]) x8.2).unpinned,r5,b1,b2,w'⟩
   | true =>
    refine thn (he _ s9 σ8 H9 _ I9 q9) fun v s10 ⟨y,H10,I10,r10,k,hk,hlt,m',hm,w'⟩ => ?_;subst hk;obtain ⟨b1,b2⟩:=back I10;have J10:=(I10.weak (by rw [x8.1]) x8.2).unpinned;obtain ⟨e10,n10,ne10,nf10,d10⟩:=J10.pin (s.heap.objs.size,o) (by simp);obtain ⟨tk,hv⟩ : ∃ tk,v = .int k tk:=r10;subst hv;refine zOk (knd:=intKind X.prog X.w) (intKind_is _ _ _ _) rfl e10 r5 hlt fun h' o' es' ep' t' hs' e' S' => ?_;refine ⟨m',hm,i + 1,H10,ins ys k,o',es',ep',t',?_,S',T.keep _ _ _ b1 fun b hb o e => hs'.extBut b o (fun z => hDfp (z ▸ hb)) e,b2,w'⟩;refine (Inv.repin (pl:=[]) J10 (fun p hp => ?_) hs' (zVT _) hcD e' (zMR S')).tok _;rw [zV7] at hp;have hp' : p ∈ X.pn ++ zB:=hp;exact zVi (zVY (I.pin p hp').1)
 exact zEC loop (T.self _ 0 _ _ _ st4 loop)
theorem zKQ (I : Inv X zB σ H s) (hf : ∀ b ∈ fp,zCT X zB H b)
  (Ic : Inv (zR X zB scope cl s H fp) [(s.heap.objs.size,oD)] σc H' s') (hs : Heap.SameBut (s.heap.objs.size + 1) s'.heap h') :
  Inv X zB σ H' { s' with heap:=h' } /\ h'.get? s.heap.objs.size = some oD:=by
 obtain ⟨eD,nD,_⟩:=Ic.pin (s.heap.objs.size,oD) (by simp);have nC : H' (s.heap.objs.size + 1) = none:=Ic.free;have eD' : h'.get? s.heap.objs.size = some oD:=hs.extBut _ _ (zVi (zWK _)) eD;have lt1 : ∀ {b : Addr} {o : Obj},s.heap.get? b = some o -> b ≠ s.heap.objs.size + 1:=fun e => zVi (zWC (zVY e));have tr : ∀ b u,H' b = some u -> b ≠ s.heap.objs.size + 1:=fun b u e z => by rw [z,nC] at e; cases e
 refine ⟨?_,eD'⟩;have B:=Ic.base;have un : Un (frs X.stack) fp H H' s.heap h':=by
  refine ⟨fun b o e q hb hx => hs.extBut b o (lt1 e) (B.keep b o e q hb hx),fun b o e q hb hx => ?_,fun b o e q hx => B.free b o e q hx,fun b o e hx => ?_,fun b xs e => B.tups b xs e,fun b o xs e => B.frzs b o xs e,fun b ps e => B.tbls b ps e⟩
  ·obtain ⟨sl,e1⟩:=B.slot b o e q hb hx;exact ⟨sl,hs.extBut b _ (lt1 e) e1⟩
  ·obtain ⟨o',e1⟩:=B.there b o e hx;exact ⟨o',hs.extBut b _ (lt1 e) e1⟩
 have hok : HOk X.prog X.w H' h':=fun b u e => by
  refine (Ic.hok b u e).stay (fun c v hc q => hs.extBut c v ?_ q) (fun c q => q) fun c xs q => q;rcases hc with z | z
  ·rw [z]; exact tr b u e
  ·exact tr c _ z
 exact I.call' (s':={ s' with heap:=h' }) (ch:=fp) Ic.os un hok Ic.bare fun b hb => ⟨(hf b hb).2.2.2.1,(hf b hb).2.1,(hf b hb).2.2.2.2.1,(hf b hb).2.2.2.2.2⟩
end
abbrev TZ:=St -> Hp -> (List Int -> Hp -> Prop) -> Prop
def PZ (X : Cx) (e : Expr) (t : TZ) : Prop:=∀ (zB : List (Addr × Obj)) (s : Shared) (σ : St) (H : Hp) (Q : List Int -> Hp -> Prop),Inv X zB σ H s -> t σ H Q ->
 wpAny (model X.prog X.w) X.A (eval e X.env) (fun v s' => ∃ a o es ep tb ks H',v = .ref a /\ s'.heap.get? a = some o /\ SetK (intKind X.prog X.w) o es ep tb ks /\ Inv X zB σ H' s' /\ Q ks H') X.xe s
def zLO (own : List Nat) (wi : TI) (g : TG) (tc : TT) (te : TE) : TZ:=fun σ H Q => wi σ H fun J H1 => ∃ W : Nat -> Nat -> List Int -> Hp -> Prop,(∃ m,W 0 m [] H1) /\ ∀ i m ys H,W i m ys H ->
 (J.stop i H /\ Q ys H) \/
 (J.go i H /\ ∀ x H',J.yld i H x H' -> g x (clr own σ) H' fun σ2 H2 => Ext (clr own σ) σ2 /\ tc σ2 H2 fun b H3 =>
  if b = true then te σ2 H3 fun v H4 => ∃ k,v = .int k /\ ys.length + 1 < scanBound /\ ∃ m',m' < m /\ W (i + 1) m' (ins ys k) H4 else ∃ m',m' < m /\ W (i + 1) m' ys H3)
section
variable {X : Cx} {scope : Scope} {tg elt iter : Expr} {ifs : List Expr} {pos : Pos} {own : List Nat} {wi : TI} {g : TG} {tc : TT} {te : TE}
theorem zR9 (C : CompIn X scope own) (hcalm : X.calm = true) (hi : PI X tg iter wi) (p : CompParts X scope tg ifs elt g tc te) (hs : ∀ x,foldedSetIterable iter X.env x = pure x:=by intro _; rfl) :
  PZ X (.SetComp elt [⟨tg,iter,ifs,0⟩] scope pos) (zLO own wi g tc te):=by
 intro zB s σ H Q I h;obtain ⟨cl,hcl,c1,c2⟩:=C.sc.closure I;rw [arm_eval_SetComp];refine zXH (use:=none) rfl hs hcl C.sc.kind C.sc.names (thn (hi zB s σ H _ I h) fun v s1 h1 => thn h1 fun itv s2 h2 => ?_);obtain ⟨it,fp,tn,J,H2,e,I2,T,st2,f2,W,⟨m0,w0⟩,turn⟩:=h2;subst e;refine zH6 C hcalm I2 T st2 f2 c1 c2 (p.g _ _ _ _ _) (p.c _ _ _ _ _) (p.e _ _ _ _ _) (RR:=fun acc C r s' => compPost (model X.prog X.w) X.A X.xe none (fun v s' => ∃ a o es ep tb ks H',v = .ref a /\ s'.heap.get? a = some o /\ SetK (intKind X.prog X.w) o es ep tb ks /\ Inv X zB σ H' s' /\ Q ks H') acc C r s') (QQ:=Q) w0 turn ?_;intro σc H' s' o es ep t ys Ic rv qq;obtain ⟨m,hn,_⟩:=Ic.loc;refine ⟨m,hn,fun h' hs' => ?_⟩;obtain ⟨J',eD⟩:=zKQ I2 f2 Ic hs';exact ⟨_,o,es,ep,t,ys,H',rfl,eD,rv,J',qq⟩
end
end L2
namespace ST
open PySem PySem.Spec PyProof.Rows
open Sem (wp)
section
variable {prog : Program} {w : World} {A : Around} {E : Value -> Shared -> Prop} {s : Shared}
variable {K : Type} [DecidableEq K] {knd : KeyKind prog w K}
def zAK (ks : List K) : List K:=ks.foldl ins []
theorem zGj (ks : List K) (k : K) : zAK (ks ++ [k]) = ins (zAK ks) k:=by unfold zAK; rw [List.foldl_append]; rfl
theorem zSB (ks : List K) (k : K) : (ins ks k).length <= ks.length + 1:=by unfold ins; split <;> simp
theorem zC3 (ks : List K) : (zAK ks).length <= ks.length:=by
 have : ∀ (l acc : List K),(l.foldl ins acc).length <= acc.length + l.length:=by
  intro l;induction l with
  | nil => intro acc; simp
  | cons x r ih => intro acc; have:=ih (ins acc x); have:=zSB acc x; simp only [List.foldl_cons,zVu]; omega
 simpa [zAK] using this ks []
theorem zR4 (ks : List K) (k x : K) : x ∈ ins ks k ↔ x ∈ ks \/ x = k:=by
 unfold ins;split
 ·rename_i h; constructor
  ·exact .inl
  ·rintro (z | z)
   ·exact z
   ·rw [z]; exact h
 ·simp
theorem zLk (ks : List K) (x : K) : x ∈ zAK ks ↔ x ∈ ks:=by
  have : ∀ (l acc : List K),x ∈ l.foldl ins acc ↔ x ∈ acc \/ x ∈ l:=by
    intro l;induction l with
    | nil => intro acc; simp
    | cons y r ih => intro acc; rw [List.foldl_cons,ih,zR4,zVZ]; simp [or_assoc]
  simpa [zAK] using this ks []
theorem zNi (h : ks.Nodup) (k : K) : (ins ks k).Nodup := by
  unfold ins;split
  · exact h
  · rename_i q
    rw [zWb]
    exact ⟨h, by simp, fun a ha b hb z => by have : b = k := by simpa using hb
                                             subst this; subst z; exact q ha⟩
theorem zKU (ks : List K) : (zAK ks).Nodup:=by
 have : ∀ (l acc : List K),acc.Nodup -> (l.foldl ins acc).Nodup:=by
  intro l;induction l with
  | nil => intro acc h; exact h
  | cons y r ih => intro acc h; exact ih _ (zNi h y)
 exact this ks [] (by simp)
theorem zP0 (a : Value) (h : Q₁ (.ref s.heap.objs.size) { s with heap:=s.heap.push (zn w) }) :
  codeAny (model prog w) A (.call (.builtin "set.__new__") ⟨[.type "set", a],[]⟩) (wants Q₁ E) s:=by
 refine codeAny_of_tree ?_;show wpAny _ A.in1 (do checkBuiltinCall "set.__new__" ⟨[.type "set", a],[]⟩; again (.builtin "set.__new__" ⟨[.type "set", a],[]⟩)) _ _ s;refine zVN (wpAny_of_eq (F.newCall_set_1 a) (zVP ⟨plainId_quiet F.plain_set_new _,zWS F.entry_set_new ?_⟩));rw [zWI F.plain_set_new _];unfold Builtin.«set.__new__» Builtin.Frozenset.newClass;have hsub:=sub_set_self;obtain ⟨hp,g,d,tk,os⟩:=s;dsimp only;wp_walk;refine wpAny_askSetting (zVP ?_);dsimp only;simp only [newObj];refine zVN (wpAny_alloc (zVP ?_));exact zVP h
variable {R : Result -> Shared -> Prop} {I : Addr} {fp wr : List Addr} {G : Array GenState -> Array GenState -> Prop} {n : Nat} {P : Nat -> Value -> Prop} {St : Nat -> Shared -> Prop}
theorem zKx (W : WalksS prog w A.in1 I fp wr G n P St) (S : Addr) (hSf : S ∉ fp) (val : Nat -> K) (hval : ∀ i v,P i v -> knd.is (val i) v = true /\ v.scannable = true) (hb : n + 1 < scanBound) :
  ∀ (k i : Nat) (s : Shared) (o : Obj) (es : Array (Int × Value)) (ep : Nat) (t : SetTable),n - i = k -> i <= n -> St i s -> s.heap.get? S = some o -> SetK knd o es ep t (zAK ((List.range i).map val)) ->
   (∀ s' o' es' ep' t',Moved (S :: wr) G s s' -> s'.heap.get? S = some o' -> SetK knd o' es' ep' t' (zAK ((List.range n).map val)) -> R (.ok (.ret .none)) s') ->
   codeAny (model prog w) A (.builtin "set.update.loop" ⟨[.ref S,.ref I],[]⟩) R s:=by
 have hSw : S ∉ wr:=fun h => hSf (W.sub _ h);have hsub : ∀ b ∈ wr,b ∈ S :: wr:=fun b hb => zVa _ hb;intro k;induction k with
 | zero =>
  intro i s o es ep t hk hi hst ho hS hR;have hin : i = n:=by omega
  subst hin;refine zWS F.entry_set_update_loop ?_;rw [zWI F.plain_set_update_loop _];show wpAny _ A.in1 (pyNext (.ref I) >>= _) _ _ s;refine zVN (W.done s _ _ hst fun s' hm => ?_);show wpAny _ A.in1 (ret Value.none) _ _ s';exact zVP (hR s' o es ep t (hm.mono hsub) (hm.heap S _ hSw ho) hS)
 | succ k ih =>
  intro i s o es ep t hk hi hst ho hS hR;have hlt : i < n:=by omega
  refine zWS F.entry_set_update_loop ?_;rw [zWI F.plain_set_update_loop _];show wpAny _ A.in1 (pyNext (.ref I) >>= _) _ _ s;refine zVN (W.item i s _ _ hlt hst fun v s' hP hst' hm => ?_);obtain ⟨hv1,hv2⟩:=hval i v hP;have ho':=hm.heap S _ hSw ho;show wpAny _ A.in1 (holding [v] (setAdd S v) >>= _) _ _ s';refine zVN (zWG ?_);unfold setAdd;refine zWG ?_;refine zVN (knd.pyHash (k:=val i) hv1 ?_);have hroom : (zAK ((List.range i).map val)).length + 1 < scanBound:=by have:=zC3 ((List.range i).map val); simp at this; omega
  refine zD8 (s:={ s' with toks:=s'.toks + 1 }) hv1 hv2 ho' hS hroom fun h' o2 es2 ep2 t2 b hsb ho2 hS2 => ?_;have hS3 : SetK knd o2 es2 ep2 t2 (zAK ((List.range (i + 1)).map val)):=by
   rw [List.range_succ,zWF];rw [show List.map val [i] = [val i] from rfl,zGj];exact hS2
  refine zVP ⟨plainId_quiet F.plain_set_update_loop _,ih (i + 1) _ o2 es2 ep2 t2 (by omega) hlt (W.frame _ s' _ _ hst' (zW5 _) fun b hb o e => ?_) ho2 hS3 fun s'' o' es' ep' t' hm'' ho'' hS'' => ?_⟩
  ·rw [hsb.2 b (fun h : b = S => hSf (by rw [<- h]; exact hb))]; exact e
  ·refine hR s'' o' es' ep' t' (Moved.trans W.gtrans ((hm.mono hsub).then_heap (zW5 _) fun b o hb e => ?_) hm'') ho'' hS'';rw [hsb.2 b (fun h : b = S => hb (by rw [h]; exact zVb))]; exact e
end
section
variable {prog : Program} {w : World} {A : Around} {E : Value -> Shared -> Prop} {s : Shared}
variable {K : Type} [DecidableEq K] {knd : KeyKind prog w K}
theorem zIh : isSubtype (.type "tuple") (.type "set") = pure false:=by rw [isSubtype_type]; kernel_rfl
theorem zE1 : isSubtype (.type "tuple") (.type "frozenset") = pure false:=by rw [isSubtype_type]; kernel_rfl
theorem zMa {K : Type} (ks : List K) (d : K) : (List.range ks.length).map (fun i => ks.getD i d) = ks:=by
 apply List.ext_getElem?;intro i;rw [zVk];by_cases q : i < ks.length
 ·rw [List.getElem?_range q,zVR q]; simp [q]
 ·rw [zWW (l:=List.range ks.length) (by simpa using q),zWW (l:=ks) (Nat.le_of_not_lt q)]; rfl
set_option maxHeartbeats 3200000 in
theorem zPm [Inhabited K] (hty : ty = "list" \/ ty = "tuple")
  (hh : A.handled = none) (hl : ∃ ol,s.heap.get? l = some ol /\ ol.cls = .type ty /\ ∃ nl,ol.data = .seq items nl) (hi : F2 (fun v k => knd.is k v = true /\ v.scannable = true) items.toList ks) (hb : ks.length + 1 < scanBound)
  (h : ∀ (h' : Heap) (tk : Nat) (o : Obj) (es : Array (Int × Value)) (ep : Nat) (t : SetTable),h'.get? s.heap.objs.size = some o -> SetK knd o es ep t (zAK ks) ->
   (∀ b o,b < s.heap.objs.size -> s.heap.get? b = some o -> h'.get? b = some o) -> Q (.ref s.heap.objs.size) { s with heap:=h',toks:=tk }) :
  wpAny (model prog w) A (call (.type "set") [.ref l]) Q E s:=by
 obtain ⟨c,tl,hmro⟩:=F.called_set.mro;have hmade:=F.called_set.made;have hsub:=F.called_set.sub;have hlen : items.size = ks.length:=by rw [<- zV6]; exact zC2 hi
 refine wpAny_call (codeAny_of_tree ?_);show wpAny _ _ (callAny (.type "set") _) _ _ _;refine zVP ⟨Code.quiet_builtin _ (by decide +kernel),zWS F.entry_type_call ?_⟩;rw [Around.under_plain (weight_type_call_type "set" [.ref l] []) rfl];have h1:=F.called_set.notType;have h2:=F.called_set.canCreate;have hct:=F.typeCall_set_1 (.ref l);repeat (any_goals (first | assumption | wp_step))
 refine codeAny_mono (zP0 (.ref l) (E:=E) (Q₁:=fun obj s₁ => obj = .ref s.heap.objs.size /\ s₁ = { s with heap:=s.heap.push (zn w) }) ⟨rfl,rfl⟩) fun r s₁ hr => ?_;cases r with
 | error e => exact hr
 | ok fl =>
  cases fl with
  | ret obj =>
   obtain ⟨rfl,rfl⟩:=hr;have hS : (s.heap.push (zn w)).get? s.heap.objs.size = some (zn w):=zVX _ rfl;have hT : Shared.TypeIs { s with heap:=s.heap.push (zn w) } (.ref s.heap.objs.size) "set" := ⟨_,hS,rfl⟩;have hli:=F.called_set.init.lookup;have hbi:=F.called_set.init.bind (.ref s.heap.objs.size);repeat (any_goals (first | assumption | wp_step))
   refine codeAny_mono (codeAny_call_builtin (R:=wants (fun r s₂ => r = .none /\ ∃ h' tk o es ep t,s₂ = { s with heap:=h',toks:=tk } /\ h'.get? s.heap.objs.size = some o /\ SetK knd o es ep t (zAK ks) /\
     (∀ b o,b < s.heap.objs.size -> s.heap.get? b = some o -> h'.get? b = some o)) E) F.called_set.init.plain F.entry_set_init (check_set_init_1 hT ?_)) fun r₂ s₂ hr₂ => ?_
   ·obtain ⟨ol,hol,hcl,nl,hdl⟩:=hl;obtain ⟨ocls,odict,odata,oslots⟩:=ol;simp only at hcl hdl;subst hcl; subst hdl;have hlS : l < s.heap.objs.size:=zVY hol;have hol' : (s.heap.push (zn w)).get? l = some { cls:=.type ty,dict:=odict,data:=.seq items nl,slots:=oslots }:=zVO _ hol;have hh3 : A.in1.in1.in1.handled = none:=by simp [hh]
    have hneI : l ≠ (s.heap.push (zn w)).objs.size:=by
     rw [zV3]; exact zVi (zWC hlS)
    have hSf : s.heap.objs.size ∉ [(s.heap.push (zn w)).objs.size,l]:=by
     rw [zV3]; simp only [zVZ,zVp,zVs,zWi,not_or];exact ⟨zVi (zWK _),zWs hlS⟩
    have hval : ∀ (d : K) (i : Nat) (v : Value),items[i]? = some v -> knd.is (ks.getD i d) v = true /\ v.scannable = true:=fun d i v hv => by
     have e : items.toList[i]? = some v:=by rw [Array.getElem?_toList]; exact hv
     have : ∀ {xs : List Value} {ys : List K},F2 (fun v k => knd.is k v = true /\ v.scannable = true) xs ys -> ∀ (i : Nat),xs[i]? = some v -> knd.is (ys.getD i d) v = true /\ v.scannable = true:=by
      intro xs ys f;induction f with
      | nil => intro i e; simp at e
      | cons q _ ih =>
       intro i e;cases i with
       | zero => simp at e; subst e; exact q
       | succ i => exact ih i (by simpa using e)
     exact this hi i e
    have fin : ∀ (I : Addr) (hI : I = (s.heap.push (zn w)).objs.size) (P' : Fin -> Shared -> Prop) (s' : Shared) (o' : Obj) (es' : Array (Int × Value)) (ep' : Nat) (t' : SetTable) (itO : Obj),
      Moved (s.heap.objs.size :: [I]) (fun a b => b = a) { s with heap:=(s.heap.push (zn w)).push itO } s' -> s'.heap.get? s.heap.objs.size = some o' -> SetK knd o' es' ep' t' (zAK ks) ->
      (∃ h' tk o es ep t,s' = { s with heap:=h',toks:=tk } /\ h'.get? s.heap.objs.size = some o /\ SetK knd o es ep t (zAK ks) /\ (∀ b o,b < s.heap.objs.size -> s.heap.get? b = some o -> h'.get? b = some o)):=by
     intro I hI P' s' o' es' ep' t' itO hm ho' hS';obtain ⟨h',g',d',tk',os'⟩:=s';have eg : g' = s.gens:=hm.gens;have ed : d' = s.drawn:=hm.drawn;have eo : os' = s.os:=hm.os;subst eg; subst ed; subst eo;refine ⟨h',tk',o',es',ep',t',rfl,ho',hS',fun b o hb e => ?_⟩;have hb1 : b ≠ s.heap.objs.size:=zVi hb;have hb2 : b ≠ I:=by rw [hI,zV3]; exact zVi (zWC hb)
     exact hm.heap b o (by simp only [zVZ,zVp,zVs,zWi,not_or]; exact ⟨hb1,hb2⟩) (zVO _ (zVO _ e))
    have go : ∀ (d : K) (St : Nat -> Heap -> Prop) (itO : Obj) (W : Walks prog w A.in1.in1.in1 (s.heap.push (zn w)).objs.size [(s.heap.push (zn w)).objs.size,l] [(s.heap.push (zn w)).objs.size] items.size (fun i v => items[i]? = some v) St),St 0 ((s.heap.push (zn w)).push itO) ->
      ∀ {R' : Result -> Shared -> Prop},(∀ s',(∃ h' tk o es ep t,s' = { s with heap:=h',toks:=tk } /\ h'.get? s.heap.objs.size = some o /\ SetK knd o es ep t (zAK ks) /\ (∀ b o,b < s.heap.objs.size -> s.heap.get? b = some o -> h'.get? b = some o)) -> R' (.ok (.ret .none)) s') ->
      codeAny (model prog w) A.in1.in1 (.builtin "set.update.loop" ⟨[.ref s.heap.objs.size,.ref (s.heap.push (zn w)).objs.size],[]⟩) R' { s with heap:=(s.heap.push (zn w)).push itO }:=by
     intro d St itO W st R' hR;refine zKx (knd:=knd) W.toS s.heap.objs.size hSf (fun i => ks.getD i d) (hval d) (by rw [hlen]; exact hb) (items.size - 0) 0 _ (zn w) _ _ _ (by omega) (zV9 _) st (zVO _ hS) .fresh fun s' o' es' ep' t' hm ho' hS' => ?_;refine hR s' (fin _ rfl (fun _ _ => True) s' o' es' ep' t' itO hm ho' ?_);rw [hlen,zMa] at hS';exact hS'
    rcases hty with rfl | rfl
    ·have hsls:=F.sub_list_set;have hslf:=F.sub_list_frozenset;have hne : (Value.type "list" == Value.type "dict") = false:=by decide
     have hl1 : (s.heap.push (zn w)).IsList l items:=⟨_,hol',rfl,nl,rfl⟩;unfold Builtin.«set.__init__» noKeywords Builtin.Frozenset.updateFrom;generalize hPI : pyIter = PI;wp_walk;subst hPI;refine wpAny_pyIter_list hl1 ?_;refine zVN (wpAny_runValue ?_);refine go default _ _ (Walks.list hh3 _ l hneI items) ⟨⟨_,zVX _ rfl,rfl,rfl⟩,(hl1.push _)⟩ fun s' q => ?_;refine zVP ?_;show wpAny _ _ (ret Value.none) _ _ _;exact zVP ⟨rfl,q⟩
    ·have hsls:=zIh;have hslf:=zE1;have hne : (Value.type "tuple" == Value.type "dict") = false:=by decide
     have hl1 : (s.heap.push (zn w)).IsTuple l items:=⟨_,hol',rfl,nl,rfl⟩;unfold Builtin.«set.__init__» noKeywords Builtin.Frozenset.updateFrom;generalize hPI : pyIter = PI;wp_walk;subst hPI;refine zW3 hl1 ?_;refine zVN (wpAny_runValue ?_);refine go default _ _ (Walks.tuple hh3 _ l hneI items) ⟨⟨_,zVX _ rfl,rfl,rfl⟩,(hl1.push _)⟩ fun s' q => ?_;refine zVP ?_;show wpAny _ _ (ret Value.none) _ _ _;exact zVP ⟨rfl,q⟩
   ·cases r₂ with
    | error e => exact hr₂
    | ok fl₂ =>
     cases fl₂ with
     | ret r =>
      obtain ⟨rfl,h',tk,o,es,ep,t,rfl,ho',hS',hk'⟩:=hr₂;repeat (any_goals (first | assumption | wp_step))
      exact h _ _ _ _ _ _ ho' hS' hk'
     | _ => exact hr₂.elim
  | _ => exact hr.elim
end
def zEA (ks : List Int) : List Int:=ks.mergeSort fun a b => decide (a <= b)
theorem zB6 (ks : List Int) : (zEA ks).Perm ks:=List.mergeSort_perm _ _
theorem zHL (ks : List Int) : (zEA ks).Pairwise (· <= ·):=by
 have:=List.pairwise_mergeSort (le:=fun (a b : Int) => decide (a <= b)) (fun a b c h1 h2 => by simp at h1 h2 ⊢; omega) (fun a b => by simp; omega) ks;exact this.imp fun h => by simpa using h
theorem zI4 : ∀ {xs ys : List Int},xs.Perm ys -> xs.Pairwise (· <= ·) -> ys.Pairwise (· <= ·) -> xs = ys
 | [],ys,p,_,_ => by have:=p.length_eq; simp at this; rw [List.length_eq_zero_iff.mp this.symm]
 | x :: xs,[],p,_,_ => by have:=p.length_eq; simp at this
 | x :: xs,y :: ys,p,h1,h2 => by
  have hx:=zXX.mp h1;have hy:=zXX.mp h2;have e : x = y:=by
   have a : x ∈ y :: ys:=p.mem_iff.mp zVb;have b : y ∈ x :: xs:=p.mem_iff.mpr zVb;rcases zVZ.mp a with z | z
   ·exact z
   ·rcases zVZ.mp b with q | q
    ·exact q.symm
    ·exact Int.le_antisymm (hx.1 y q) (hy.1 x z)
  subst e;rw [zI4 (p.cons_inv) hx.2 hy.2]
theorem zKf (p : xs.Perm ys) (h : xs.Pairwise (· <= ·)) : xs = zEA ys:=zI4 (p.trans (zB6 ys).symm) h (zHL ys)
section
variable {prog : Program} {w : World} {A : Around} {E : Value -> Shared -> Prop} {s : Shared}
theorem zMT
  (hc : wpAny (model prog w) A.in1 (collect v) (fun vs s1 => ∃ ns,IntsAre vs ns /\ vs.length < 64 /\ ∀ (h' : Heap) (out : List Value) (n : Nat),(∀ b u,s1.heap.get? b = some u -> h'.get? b = some u) -> h'.get? s1.heap.objs.size = some (seqObj "list" out.toArray n) -> IntsAre out (zEA ns) -> Q (.ref s1.heap.objs.size) { s1 with heap:=h' }) E s) :
  wpAny (model prog w) A (call (.builtin "sorted") [v]) Q E s:=by
 refine Calls.call_function_entry kind_sorted plain_sorted entry_sorted (args_sorted1 _) ?_;unfold Builtin.«sorted»;refine zVN (m:=checkCount "sorted" 1 1 _) (zVP ?_);refine zVN (zVt hc (fun vs s1 h1 => ?_) fun _ _ h' => h');obtain ⟨ns,hI,h64,h⟩:=h1;refine zVN (wpAny_newList ?_ (by rw [sizeLine_eq]; omega));have hoL : (s1.heap.push (seqObj "list" vs.toArray 0)).get? s1.heap.objs.size = some (seqObj "list" vs.toArray 0):=zVX _ rfl;refine zVN (zWG (zV0 slot_list_sort ⟨_,hoL,rfl⟩ entry_list_sort (list_sort_tree (s:={ s1 with heap:=s1.heap.push (seqObj "list" vs.toArray 0) }) hoL hI h64 fun out ns' a1 a2 a3 => ⟨_,rfl,?_⟩) (args_list_sort _)));refine zVP ⟨_,rfl,?_⟩;have g1:=get?_update_seq hoL (fun _ => #[]);have g2 : (((s1.heap.push (seqObj "list" vs.toArray 0)).update s1.heap.objs.size (Obj.mapSeq fun _ => #[])).push (seqObj "tuple" vs.toArray 0)).get? s1.heap.objs.size = _:=zVO _ g1;have g3:=zVO (seqObj "list" #[] 0) g2;have g4:=get?_update_seq g3 (fun _ => out);have eS:=zKf a2 a3;subst eS;refine h _ out.toList _ (fun b u e => ?_) (by rw [Array.toArray_toList]; exact g4) a1;have hb : s1.heap.objs.size ≠ b:=fun z => zV5 _ (z ▸ zVY e);exact (zV4 _ _ hb).trans (zVO _ (zVO _ ((zV4 _ _ hb).trans (zVO _ e))))
theorem zOF (h : F2 (zSw (intKind prog w)) es ks) : IntsAre (es.map (·.2)) ks:=by
 induction h with
 | nil => exact .nil
 | cons h _ ih =>
  obtain ⟨⟨h1,_⟩,_⟩:=h;obtain ⟨t,e⟩:=Value.isInt_shape h1;rw [zVg,e];exact .cons _ _ ih
theorem zOZ (p : us.Perm vs) : ∀ {ks : List Int},IntsAre vs ks -> ∃ ks',ks'.Perm ks /\ IntsAre us ks':=by
 have p':=p.symm;clear p;induction p' with
 | nil => intro ks h; exact ⟨ks,.refl _,h⟩
 | cons x _ ih =>
  intro ks h;cases h with
  | cons n t r =>
   obtain ⟨ys',q1,q2⟩:=ih r;exact ⟨_,q1.cons _,.cons _ _ q2⟩
 | swap x y l =>
  intro ks h;cases h with
  | cons n t r =>
   cases r with
   | cons n2 t2 r => exact ⟨_,List.Perm.swap _ _ _,.cons _ _ (.cons _ _ r)⟩
 | trans _ _ ih1 ih2 =>
  intro ks h;obtain ⟨ys',q1,q2⟩:=ih1 h;obtain ⟨ys'',r1,r2⟩:=ih2 q2;exact ⟨ys'',r1.trans q1,r2⟩
theorem zLF (p : xs.Perm ys) : zEA xs = zEA ys:=zKf ((zB6 xs).trans p) (zHL xs)
theorem zMi (hh : A.handled = none) (ho : s.heap.get? a = some o) (hS : SetK (intKind prog w) o es ep t ks) (h64 : ks.length < 64)
  (h : ∀ (s1 : Shared) (h' : Heap) (out : List Value) (n : Nat),(∀ b u,s.heap.get? b = some u -> s1.heap.get? b = some u) -> s1.os = s.os -> s1.gens = s.gens -> (∀ b u,s1.heap.get? b = some u -> h'.get? b = some u) -> h'.get? s1.heap.objs.size = some (seqObj "list" out.toArray n) -> IntsAre out (zEA ks) -> Q (.ref s1.heap.objs.size) { s1 with heap:=h' }) :
  wpAny (model prog w) A (call (.builtin "sorted") [.ref a]) Q E s:=by
 refine zMT (zKY (A:=A.in1) hh ho hS fun s' acc k1 k2 k3 hp => ?_);obtain ⟨ks',p,f⟩:=hS.ent;obtain ⟨ks2,p2,f2⟩:=zOZ hp (zOF f);refine ⟨ks2,f2,?_,fun h' out n e1 e2 e3 => ?_⟩
 ·rw [hp.length_eq,zVW,zV6,hS.size]; exact h64
 ·rw [zLF (p2.trans p)] at e3;exact h s' h' out n k1 k2 k3 e1 e2 e3
end
end ST
namespace L2
open PySem PySem.Spec PyProof.Rows ST
section
variable {X : Cx} {e : Expr} {p pos : Pos} {zB : List (Addr × Obj)} {σ : St} {H : Hp} {s : Shared}
theorem Inv.kept' (I : Inv X zB σ H s) (k : ∀ b u,s.heap.get? b = some u -> s1.heap.get? b = some u) (ho : s1.os = s.os) (hg : s1.gens = s.gens) : Inv X zB σ H s1 :=
 I.call' (ch:=[]) ho (Un.kept k) (I.hok.kept k) (by rw [hg]; exact I.bare) fun b hb => nomatch hb
theorem zIL : ∀ {ns : List Int} {us : List Value},IntsAre us ns -> zo (ns.map V.int) us
 | _,_,.nil => .nil
 | _,_,.cons n t h => .cons ⟨t,rfl⟩ (zIL h)
theorem zIF : ∀ {ns : List Int} {us : List Value},zo (ns.map V.int) us -> IntsAre us ns
 | [],_,.nil => .nil
 | n :: ns,_,.cons r h => by obtain ⟨t,rfl⟩:=r; exact .cons n t (zIF h)
theorem zOl (ks : List Int) : (zEA ks).length = ks.length:=(zB6 ks).length_eq
theorem zPG (hc : X.calm = true) (hg : Gl X "sorted") (hm : X.mg "sorted" = none) (ha : PZ X e t) (hs : starEach [e] X.env = (false,eval e X.env) :: starEach [] X.env:=by rfl) (hpl : (backTo pos (starEach [] X.env)).any (·.1) = false:=by rfl) :
  PE X (.Call (.Name "sorted" p) [e] [] pos) (fun σ H Q => t σ H fun ks H1 => ks.length < 64 /\ ∀ q,H1 q = none -> Q (.ref q) (upd H1 q (.lst ((zEA ks).map V.int)))):=by
 intro zB s σ H Q I h;refine wpAny_Call_Name_kw (zEc I hg hm (by rfl) ?_ (by decide) (by decide));refine callWith_builtin1 ?_ hs hpl;rw [hs];show wpAny _ _ (spliced ((false,eval e X.env) :: backTo pos (starEach [] X.env))) _ _ s;refine Calls.spliced_cons (thn (ha zB s σ H _ I h) fun u s1 ⟨a,o,es,ep,tb,ks,H1,hv,ho,hS,I1,h64,q⟩ => Calls.spliced_nil ?_);subst hv;refine zMi (I1.ok.hd hc) ho hS h64 fun s2 h' out n k1 k2 k3 k4 e4 i4 => ?_;have I2 : Inv X zB σ H1 s2:=I1.kept' k1 k2 k3;have hf : H1 s2.heap.objs.size = none:=I2.hok.fresh (zVT _);refine ⟨.ref s2.heap.objs.size,upd H1 s2.heap.objs.size (.lst ((zEA ks).map V.int)),I2.laid (t':=s2.toks) k4 (zVT _) ⟨by rw [zVW,zOl,sizeLine_eq]; omega,out,n,zIL i4,e4⟩,rfl,q _ hf⟩
theorem zTx (hc : X.calm = true) (hg : Gl X "set") (hm : X.mg "set" = none) (ha : PE X e te) (hs : starEach [e] X.env = (false,eval e X.env) :: starEach [] X.env:=by rfl) (hpl : (backTo pos (starEach [] X.env)).any (·.1) = false:=by rfl) :
  PZ X (.Call (.Name "set" p) [e] [] pos) (fun σ H Q => te σ H fun x H1 => ∃ a ns,x = .ref a /\ (SqL X.K H1 a (ns.map V.int) \/ SqT X.K H1 a (ns.map V.int)) /\ ns.length + 1 < scanBound /\ Q (zAK ns) H1):=by
 intro zB s σ H Q I h;refine wpAny_Call_Name_kw (zEc I hg hm (by rfl) ?_ (by decide) (by decide));refine callWith_type1 ?_ hs hpl;rw [hs];show wpAny _ _ (spliced ((false,eval e X.env) :: backTo pos (starEach [] X.env))) _ _ s;refine Calls.spliced_cons (thn (ha zB s σ H _ I h) fun u s1 ⟨x,H1,I1,r1,a,ns,hx,hq,hb,q⟩ => Calls.spliced_nil ?_);subst hx;cases r1;have key : ∃ (ty : String) (its : List Value),(ty = "list" \/ ty = "tuple") /\ (∃ ol,s1.heap.get? a = some ol /\ ol.cls = .type ty /\ ∃ nl,ol.data = .seq its.toArray nl) /\ zo (ns.map V.int) its:=by
  rcases hq with hq | hq
  ·obtain ⟨its,rv,⟨ol,nl,e1,e2,_,e3⟩,_⟩:=I1.list hq;exact ⟨"list", its,.inl rfl,⟨ol,e1,e2,nl,e3⟩,rv⟩
  ·obtain ⟨its,rv,⟨ol,e1,e2,nl,e3⟩,_⟩:=I1.tuple hq;exact ⟨"tuple", its,.inr rfl,⟨ol,e1,e2,nl,e3⟩,rv⟩
 obtain ⟨ty,its,hty,hl,rv⟩:=key;have hi : F2 (fun v k => (intKind X.prog X.w).is k v = true /\ v.scannable = true) its.toArray.toList ns:=by
  rw [List.toList_toArray];have:=zIF rv;clear rv hq q hb hl;induction this with
  | nil => exact .nil
  | cons n t _ ih => exact .cons ⟨intKind_is _ _ _ _,rfl⟩ ih
 refine zPm (knd:=intKind X.prog X.w) hty (I1.ok.hd hc) hl hi hb fun h' tk o es ep t ho hS k => ?_;have I2 : Inv X zB σ H1 { s1 with heap:=h',toks:=tk }:=I1.kept (t':=tk) fun b u e => k b u (zVY e) e;exact ⟨_,o,es,ep,t,_,H1,rfl,ho,hS,I2,q⟩
end
end L2
namespace L3
open PySem PySem.Spec PyProof.Rows L2 ST
abbrev FZ:=Sd -> Mem -> Option (List Int × Mem)
def trZ (K : PySem.W.Frag) (f : FZ) : TZ:=fun τ H Q => ∃ L σ M ks M',Cor K L M H /\ zBi L H σ τ /\ f σ M = some (ks,M') /\ ∀ L' H',Stp L H L' H' -> Cor K L' M' H' -> Q ks H'
structure QZ (X : Cx) (e : Expr) (f : FZ) : Prop where
 un : PZ X e (trZ X.K f)
theorem PZ.imp (h : PZ X e t) (hi : ∀ τ H Q,t' τ H Q -> t τ H Q) : PZ X e t':=fun zB s σ H Q I q => h zB s σ H Q I (hi _ _ _ q)
noncomputable def zI8 (own : List Nat) (fi : FI) (g : FG) (tc : FT) (te : FE) : FZ:=fun σ M => match zAL own fi g tc te σ M with
 | some (.fl ys,M2) => match zAu ys with
  | some ks => if ks.length + 1 < scanBound then some (zAK ks,M2) else none
  | none => none
 | _ => none
theorem zIM : ∀ {as bs : List D} {zs : List Int},zAu (as ++ bs) = some zs -> ∃ xs ys,zAu as = some xs /\ zAu bs = some ys /\ zs = xs ++ ys
 | [],bs,zs,h => ⟨[],zs,rfl,h,rfl⟩
 | a :: as,bs,zs,h => by
  cases a with
  | int i =>
   rw [List.cons_append] at h;unfold zAu at h;split at h
   ·rename_i us e;cases h;obtain ⟨xs,ys,e1,e2,e3⟩:=zIM e;refine ⟨i :: xs,ys,?_,e2,by rw [e3]; rfl⟩;unfold zAu; rw [e1]
   ·cases h
  | _ => cases h
theorem zK0 (h : zAu as = some xs) : zAu (as ++ [.int i]) = some (xs ++ [i]):=by
 induction as generalizing xs with
 | nil => cases h; rfl
 | cons a as ih =>
  cases a with
  | int j =>
   unfold zAu at h;split at h
   ·rename_i us e; cases h;rw [List.cons_append]; unfold zAu; rw [ih e]; rfl
   ·cases h
  | _ => cases h
theorem zNk {K : PySem.W.Frag} {own : List Nat} {fi : FI} {g : TG} {fg : FG} {tc : FT} {te : FE} (hg : zFp own g fg) {τ : Sv} {H : Hp} {Q : List Int -> Hp -> Prop} (h : trZ K (zI8 own fi fg tc te) τ H Q) : zLO own (trI K fi) g (trT K tc) (trD K (toD te)) τ H Q:=by
 obtain ⟨L,σ,M,d,Mf,c,rs,hf,q⟩:=h;unfold zI8 zAL at hf;cases e1 : fi σ M with
 | none => rw [e1] at hf; cases hf
 | some r =>
  obtain ⟨xs,gd,M1⟩:=r;rw [e1] at hf;dsimp only at hf;by_cases hz : xs.length <= sizeLine
  ·rw [zVc hz] at hf;cases e2 : zA7 fg tc te (zBH own σ) xs gd xs M1 with
   | none => rw [e2] at hf; cases hf
   | some r =>
    obtain ⟨zs,M2⟩:=r;rw [e2] at hf;dsimp only at hf;split at hf
    ·rename_i kz ez;split at hf
     ·rename_i hb;cases hf;refine ⟨L,σ,M,_,_,_,c,rs,e1,fun L1 H1 J s1 c1 it => ?_⟩
      refine ⟨fun i m ys H' => m = xs.length - i /\ i <= xs.length /\ ∃ L' M' as bs ka,Stp L1 H1 L' H' /\ Cor K L' M' H' /\ zAu as = some ka /\ ys = zAK ka /\ zA7 fg tc te (zBH own σ) xs gd (xs.drop i) M' = some (bs,Mf) /\ as ++ bs = zs,
       ⟨xs.length,by simp,zV9 _,L1,M1,[],zs,[],.refl _ _,c1,rfl,rfl,by simpa using e2,rfl⟩,?_⟩
      rintro i m ys H' ⟨rfl,hi,L',M',as,bs,ka,s',c',r',hl,e',hab⟩;by_cases hlt : i < xs.length
      ·rw [zCc hlt] at e';unfold zA7 at e';split at e'
       ·rename_i hgd;obtain ⟨step,_⟩:=it L' H' M' s' c' hgd;obtain ⟨go,yl⟩:=step i xs[i] (zVR hlt);split at e'
        ·rename_i σ1 eg;refine .inr ⟨go,fun v H2 hy => ?_⟩;obtain ⟨gr,rv⟩:=yl v H2 hy;have s2 : Stp L1 H1 L' H2:=s'.yld gr;refine hg (zEm own ((rs.stp s1).stp s2)) (.refl _) rv eg fun τ2 r2 x2 => ⟨x2,?_⟩;split at e'
         ·rename_i M3 e3;split at e'
          ·rename_i d M4 e4;split at e'
           ·rename_i ds M5 e5;cases e';refine ⟨L',σ1,M',_,_,c'.grow gr,r2,e3,fun L3 H3 s3 c3 => zGu ?_⟩;refine ⟨L3,σ1,M3,_,_,c3,r2.stp s3,e4,fun L4 H4 w s4 c4 r4 => ?_⟩;have st : Stp L' H' L4 H4:=((Stp.grow gr).trans s3).trans s4;have ez':=ez;rw [<- hab] at ez';obtain ⟨x1,y1,g1,g2,g3⟩:=zIM ez';obtain ⟨k,hk⟩ : ∃ k,d = .int k:=by
             cases d with
             | int k => exact ⟨k,rfl⟩
             | _ => cases g2
            subst hk;have ew : w = .int k:=by unfold Rep at r4; exact r4
            have hka : ka.length <= kz.length:=by
             rw [r'] at g1; cases g1;rw [g3,zVd]; omega
            refine ⟨k,ew,?_,xs.length - (i + 1),by omega,rfl,hlt,L4,M4,as ++ [.int k],ds,ka ++ [k],s'.trans st,c4,zK0 r',by rw [hl,zGj],e5,by rw [<- hab]; simp⟩;rw [hl];have:=zC3 ka;omega
           ·cases e'
          ·cases e'
         ·rename_i M3 e3;refine ⟨L',σ1,M',_,_,c'.grow gr,r2,e3,fun L3 H3 s3 c3 => zGq ?_⟩;have st : Stp L' H' L3 H3:=(Stp.grow gr).trans s3;exact ⟨xs.length - (i + 1),by omega,rfl,hlt,L3,M3,as,bs,ka,s'.trans st,c3,r',hl,e',hab⟩
         ·cases e'
        ·cases e'
       ·cases e'
      ·have hi' : i = xs.length:=by omega
       subst hi';rw [List.drop_length] at e';unfold zA7 at e';split at e'
       ·rename_i hgd;cases e';obtain ⟨_,stop⟩:=it L' H' _ s' c' hgd;rw [zV7] at hab;subst hab;rw [r'] at ez; cases ez;refine .inl ⟨stop,?_⟩;rw [hl];exact q L' H' (s1.trans s') c'
       ·cases e'
     ·cases hf
    ·cases hf
  ·rw [zVf hz] at hf; cases hf
section
variable {X : Cx} {scope : Scope} {tg elt iter : Expr} {ifs : List Expr} {pos p : Pos} {own : List Nat} {e : Expr} {f : FE}
theorem zTg (hg : zFp own g fg) (C : CompIn X scope own) (hcalm : X.calm = true) (hi : QI X tg iter fi) (p : QParts X scope tg ifs elt g tc te) (hs : ∀ x,foldedSetIterable iter X.env x = pure x:=by intro _; rfl) :
  QZ X (.SetComp elt [⟨tg,iter,ifs,0⟩] scope pos) (zI8 own fi fg tc te) :=
 .mk <| PZ.imp (zR9 C hcalm hi.un p.parts hs) fun _ _ _ h => zNk hg h
def zHl (f : FE) : FZ:=fun σ M => match f σ M with
 | some (x,M1) => match zAc M1 x with
  | some ds => match zAu ds with
   | some ks => if ks.length + 1 < scanBound then some (zAK ks,M1) else none
   | none => none
  | none => none
 | none => none
theorem zRR (hc : X.calm = true) (hg : Gl X "set") (hm : X.mg "set" = none) (h : QE X e f) (hs : starEach [e] X.env = (false,eval e X.env) :: starEach [] X.env:=by rfl) (hpl : (backTo pos (starEach [] X.env)).any (·.1) = false:=by rfl) :
  QZ X (.Call (.Name "set" p) [e] [] pos) (zHl f):=.mk <| PZ.imp (zTx hc hg hm h.un hs hpl) fun τ H Q zz => by
 obtain ⟨L,σ,M,d,M',c,rs,hf,q⟩:=zz;unfold zHl at hf;split at hf
 ·rename_i x M1 e1;split at hf
  ·rename_i ds e2;split at hf
   ·rename_i ks e3;split at hf
    ·rename_i hb;cases hf;refine ⟨L,σ,M,_,_,c,rs,e1,fun L1 H1 v s1 c1 r1 => ?_⟩;obtain ⟨a,vs,rfl,hsq,r⟩:=zG9 c1 r1 e2;have:=zDy e3 r;subst this;exact ⟨a,ks,rfl,hsq,hb,q L1 H1 s1 c1⟩
    ·cases hf
   ·cases hf
  ·cases hf
 ·cases hf
def zGP (f : FZ) : FE:=fun σ M => match f σ M with
 | some (ks,M1) => if ks.length < 64 then some (.fl ((zEA ks).map D.int),M1) else none
 | none => none
theorem zIl : ∀ (ns : List Int),zT L H (ns.map D.int) (ns.map V.int)
 | [] => .nil
 | n :: ns => .cons zAj (zIl ns)
theorem zM3 (hc : X.calm = true) (hg : Gl X "sorted") (hm : X.mg "sorted" = none) (h : QZ X e fz) (hs : starEach [e] X.env = (false,eval e X.env) :: starEach [] X.env:=by rfl) (hpl : (backTo pos (starEach [] X.env)).any (·.1) = false:=by rfl) :
  QE X (.Call (.Name "sorted" p) [e] [] pos) (zGP fz):=.mk <| PE.imp (zPG hc hg hm h.un hs hpl) fun τ H Q zz => by
 obtain ⟨L,σ,M,d,M',c,rs,hf,q⟩:=zz;unfold zGP at hf;split at hf
 ·rename_i ks M1 e1;split at hf
  ·rename_i hb;cases hf;refine ⟨L,σ,M,_,_,c,rs,e1,fun L1 H1 s1 c1 => ⟨hb,fun p hp => ?_⟩⟩;exact q L1 _ _ (s1.trans (.upd hp)) (c1.upd hp) (zk.newLst s1 c c1 hp (zIl _))
  ·cases hf
 ·cases hf
end
open AutoSeq1 (wpAny_loadPart')
theorem zTa (hh : A.handled = none) (it l : Addr) (hne : l ≠ it) (items : Array Value) :
  Draws prog w A it [it,l] items.size (fun i v => items[i]? = some v) (fun i h => h.IsTupleIter it l i /\ h.IsTuple l items) where
 live:=fun _ _ st => let ⟨o,ho,_⟩:=st.1; ⟨o,ho⟩;frame:=fun _ _ _ st hk => ⟨let ⟨o,ho,r⟩:=st.1; ⟨o,hk it (by simp) o ho,r⟩,let ⟨o,ho,r⟩:=st.2; ⟨o,hk l (by simp) o ho,r⟩⟩;item:=fun i s Q E hi st hQ => by
  refine zDz st.1 st.2 (x:=items[i]) (by simp [hi]) fun h' hit' hs' => ?_;exact hQ _ h' s.toks (by simp [hi]) ⟨hit',Tup.but st.2 hs'.extBut hne⟩ hs'
 done:=fun s Q E st hE => zEu hh st.1 st.2 (by simp) hE
theorem zK9 (l : Addr) (items : Array Value) (n : Nat) (dct : Option Addr) (sl : Array (Option Value)) :
  Meets (Builtin.«enumerate.__new__» ⟨[.type "enumerate", .ref l],[]⟩) (fun _ R s => s.heap.get? l = some { cls:=.type "tuple", dict:=dct,data:=.seq items n,slots:=sl } /\
   R (.ok (.ret (.ref (s.heap.push { cls:=.type "tuple_iterator", data:=.fields #[.ref l,.int 0 0] }).objs.size)))
    { s with heap:=(s.heap.push { cls:=.type "tuple_iterator", data:=.fields #[.ref l,.int 0 0] }).push { cls:=.type "enumerate", data:=.fields #[.none,.bool false,.ref s.heap.objs.size,rawInt 0,.none,.none] } }) :=
 .of_wp fun prog w A R s h => by
  obtain ⟨hp,g,d,tk,os⟩:=s; obtain ⟨hl,h⟩:=h;have hsub:=sub_enumerate;have hL : Heap.IsTuple (Shared.heap ⟨hp,g,d,tk,os⟩) l items:=⟨_,hl,rfl,n,rfl⟩;wp_walk using wpAny_loadPart' hl;refine wpAny_stack_any fun st => zVP ?_;split
  ·rename_i c _ _ _ _ _;cases (c == Value.type "enumerate")
   ·wp_walk using wpAny_loadPart' hl,zW3 hL;exact ⟨_,rfl,h⟩
   ·wp_walk using wpAny_loadPart' hl,zW3 hL;exact ⟨_,rfl,h⟩
  ·wp_walk using wpAny_loadPart' hl,zW3 hL;exact ⟨_,rfl,h⟩
section
variable {prog : Program} {w : World} {A : Around} {E : Value -> Shared -> Prop} {s : Shared}
theorem zMK (hL : s.heap.IsTuple l items)
  (h : ∀ h',IsEnum h' (s.heap.objs.size + 1) s.heap.objs.size 0 .none -> h'.IsTupleIter s.heap.objs.size l 0 -> (∀ c o,s.heap.get? c = some o -> h'.get? c = some o) -> Q (.ref (s.heap.objs.size + 1)) { s with heap:=h' }) :
  wpAny (model prog w) A (call (.type "enumerate") [.ref l]) Q E s:=by
 obtain ⟨o,ho,hc,n,hd⟩:=hL;obtain ⟨ocls,odict,odata,oslots⟩:=o;simp only at hc hd;subst hc; subst hd;refine callType_new PySem.F.called_enumerate (by decide) (PySem.F.typeCall_enumerate_1 _) (PySem.F.newCall_enumerate_1 _) (fun obj => PySem.F.args_object_init_2 obj _) PySem.F.entry_enumerate_new (zK9 l items n odict oslots) ⟨ho,?_⟩;have q1 : (s.heap.push { cls:=.type "tuple_iterator", data:=.fields #[.ref l,.int 0 0] }).objs.size = s.heap.objs.size + 1:=zV3 ..;have p2 : ((s.heap.push { cls:=.type "tuple_iterator", data:=.fields #[.ref l,.int 0 0] }).push { cls:=.type "enumerate", data:=.fields #[.none,.bool false,.ref s.heap.objs.size,rawInt 0,.none,.none] }).get? (s.heap.push { cls:=.type "tuple_iterator", data:=.fields #[.ref l,.int 0 0] }).objs.size = some _:=zVX _ rfl;show _ /\ _;rw [q1] at p2;rw [q1];exact ⟨⟨_,p2,rfl⟩,h _ p2 ⟨_,zVO _ (zVX _ rfl),rfl,rfl⟩ fun c o x => zVO _ (zVO _ x)⟩
theorem zLG (he : IsEnum s.heap e it i old)
  (hn : ∀ (Q' : Value -> Shared -> Prop) (E' : Value -> Shared -> Prop),(∀ h' x,Heap.ExtBut it s.heap h' -> (∃ o,h'.get? x = some o /\ o.cls = .type "StopIteration") -> E' (.ref x) { s with heap:=h' }) -> wpAny (model prog w) A.in1 (Builtin.SmallTypes.nextOf (.ref it)) Q' E' s)
  (hQ : ∀ h',Heap.ExtBut it s.heap h' -> Q none { s with heap:=h' }) : wpAny (model prog w) A (pyNext (.ref e)) Q E s:=by
 have hT : s.TypeIs (.ref e) "enumerate" := ⟨_,he,rfl⟩;unfold pyNext
 refine zVN (wpAny_attempt (zVz (name:=Str.ofString "__next__") hT PySem.F.slot_enumerate_next
  (zV0 PySem.F.slot_enumerate_next hT PySem.F.entry_enumerate_next ?_ (PySem.F.args_enumerate_next_1 _))))
 show wpAny _ _ (field (.ref e) 2 >>= _) _ _ _;refine zVN (zV2 he rfl (x:=.ref it) rfl ?_);refine zVN (hn _ _ fun h' x he' hx' => ?_);obtain ⟨o,ho,hc⟩:=hx';refine zVN (wpAny_isInstance (T := "StopIteration") (b:=true) ⟨o,ho,hc⟩ isSubtype_stop ?_);exact zVP (hQ _ he')
end
def zKq (K : PySem.W.Frag) (isT : Bool) (a : Addr) : It :=
 ⟨fun i H => ∃ xs x,(if isT then SqT K H a xs else SqL K H a xs) /\ xs[i]? = some x,
  fun i H v H' => ∃ T x,v = .ref T /\ H T = none /\ H' = upd H T (.tup [.int i,x]) /\ ∀ xs,(if isT then SqT K H a xs else SqL K H a xs) -> xs[i]? = some x,
  fun i H => ∃ xs,(if isT then SqT K H a xs else SqL K H a xs) /\ xs.length <= i⟩
def zQ2 (isT : Bool) (it a : Addr) (i : Nat) (h : Heap) : Prop:=if isT then h.IsTupleIter it a i else h.IsListIter it a i
theorem zOE {P : Program} {w : World} {K : PySem.W.Frag} {es : List Expr} {ek : Nat} {ep : Pos} {isT : Bool} {e it a : Addr} (hei : e ≠ it) (hae : a ≠ e) (hai : a ≠ it) :
  Turn P w K (.Tuple es ek ep) (zKq K isT a) [e,it] e (fun i h => (∃ old,IsEnum h e it i old) /\ zQ2 isT it a i h) where
 mem:=by simp
 obj:=fun i h ⟨⟨old,he⟩,st⟩ c hc => by
  simp only [zVZ,zVs,zWi] at hc;rcases hc with rfl | rfl
  ·exact ⟨_,he,fun v m => by cases m⟩
  ·cases isT with
   | true => obtain ⟨o1,e1,_,d1⟩:=(show h.IsTupleIter c a i from st); exact ⟨_,e1,fun v m => by rw [d1] at m; cases m⟩
   | false => obtain ⟨o1,e1,_,d1⟩:=(show h.IsListIter c a i from st); exact ⟨_,e1,fun v m => by rw [d1] at m; cases m⟩
 keep:=fun i h h' ⟨⟨old,he⟩,st⟩ k => by
  refine ⟨⟨old,k e (by simp) _ he⟩,?_⟩;cases isT with
  | true => obtain ⟨o1,e1,r⟩:=(show h.IsTupleIter it a i from st); exact ⟨o1,k it (by simp) _ e1,r⟩
  | false => obtain ⟨o1,e1,r⟩:=(show h.IsListIter it a i from st); exact ⟨o1,k it (by simp) _ e1,r⟩
 item:=by
  intro X hP hw hK hc i zB s σ H E I hf Z hg;subst hP hw hK;obtain ⟨⟨old,he⟩,st⟩:=Z;obtain ⟨xs,x,sa,hx⟩:=hg;have hch : ∀ c ∈ [e,it],zCT X zB H c:=hf;have elt : e < s.heap.objs.size:=zVY he
  have fin : ∀ (its : List Value) (u : Value) (h' : Heap) (tk : Nat),zo xs its -> its[i]? = some u -> IsEnumOut h' e it ((i : Int) + 1) u s.heap.objs.size -> zQ2 isT it a (i + 1) h' -> h'.get? s.heap.objs.size = some { cls:=.type "tuple", data:=.seq #[.int i tk,u] } ->
    (∀ b o,b ≠ e -> b ≠ it -> s.heap.get? b = some o -> h'.get? b = some o) -> it < s.heap.objs.size ->
    ∃ u',some (Value.ref s.heap.objs.size) = some u' /\ wpAny (model X.prog X.w) X.A (letOwnedTupleGo (.Tuple es ek ep) (.ref e) u') (fun _ s2 => ∃ x H',Inv X zB σ H' s2 /\ zv x u' /\ (zKq X.K isT a).yld i H x H' /\ ((∃ old,IsEnum s2.heap e it ((i + 1 : Nat) : Int) old) /\ zQ2 isT it a (i + 1) s2.heap) /\ ∀ b ∈ [e,it],H' b = none) E { s with heap:=h',toks:=tk + 1 }:=by
   intro its u h' tk rv hu ho st' hT hk ilt;refine ⟨_,rfl,wpAny_letOwnedTupleGo_enum ho fun h2 he2 e2 => ?_⟩;have kk : ∀ c o,c ∉ [e,it] -> s.heap.get? c = some o -> h2.get? c = some o:=fun c o n q => by
    simp only [zVZ,zVs,zWi,not_or] at n;exact e2.extBut _ _ n.1 (hk c o n.1 n.2 q)
   have NT:=e2.extBut _ _ (zWs elt) hT;have hfr : H s.heap.objs.size = none:=I.hok.fresh (zVT _);obtain ⟨u2,hu2,ru⟩:=rv.get hx;rw [hu] at hu2; cases hu2;refine ⟨.ref s.heap.objs.size,upd H s.heap.objs.size (.tup [.int i,x]),zGe (s:=s) (h':=h2) (t':=tk + 1) I hch kk (zVT _) ?_,rfl,⟨_,x,rfl,hfr,rfl,fun ws hw => ?_⟩,⟨⟨u,by simpa using he2⟩,?_⟩,fun c hm => ?_⟩
   ·exact ⟨by show 2 <= sizeLine; decide,[.int i tk,u],.cons ⟨tk,rfl⟩ (.cons ru .nil),⟨_,NT,rfl,⟨_,rfl⟩,rfl⟩⟩
   ·cases isT with
    | true => rw [I.tuple_inj hw sa]; exact hx
    | false => rw [I.list_inj hw sa]; exact hx
   ·cases isT with
    | true => obtain ⟨o1,e1,r⟩:=(show h'.IsTupleIter it a (i + 1) from st'); exact ⟨o1,e2.extBut _ _ hei.symm e1,r⟩
    | false => obtain ⟨o1,e1,r⟩:=(show h'.IsListIter it a (i + 1) from st'); exact ⟨o1,e2.extBut _ _ hei.symm e1,r⟩
   ·have lt : c < s.heap.objs.size:=by
     simp only [zVZ,zVs,zWi] at hm;rcases hm with rfl | rfl
     ·exact elt
     ·exact ilt
    rw [zh (zVi lt)];exact (hf c hm).1
  have hef : e ∉ [it,a]:=by simp only [zVZ,zVs,zWi,not_or]; exact ⟨hei,hae.symm⟩
  cases isT with
  | true =>
   obtain ⟨its,rv,p1,z1⟩:=I.tuple sa;have st' : s.heap.IsTupleIter it a i:=st;obtain ⟨o1,e1,_⟩:=id st';refine wpAny_pyNext_enum_itemD (zTa (prog:=X.prog) (w:=X.w) (A:=X.A.in1) (I.ok.hd hc) it a hai its.toArray) he ⟨st',show s.heap.IsTuple a its.toArray from p1⟩ (by have:=rv.length; have:=(zVQ.mp hx).1; rw [zVV]; omega) hei hef fun u h' tk hu ho hs hT _ hk => ?_;exact fin its u h' tk rv (by simpa using hu) ho hs.1 hT hk (zVY e1)
  | false =>
   obtain ⟨its,rv,p1,z1⟩:=I.list sa;have st' : s.heap.IsListIter it a i:=st;obtain ⟨o1,e1,_⟩:=id st';refine wpAny_pyNext_enum_itemD (Draws.list (prog:=X.prog) (w:=X.w) (A:=X.A.in1) (I.ok.hd hc) it a hai its.toArray) he ⟨st',p1.isList⟩ (by have:=rv.length; have:=(zVQ.mp hx).1; rw [zVV]; omega) hei hef fun u h' tk hu ho hs hT _ hk => ?_;exact fin its u h' tk rv (by simpa using hu) ho hs.1 hT hk (zVY e1)
 done:=by
  intro X hP hw hK hc i zB s σ H E I hf Z hg;subst hP hw hK;obtain ⟨⟨old,he⟩,st⟩:=Z;obtain ⟨xs,sa,hz⟩:=hg;have out : ∀ h',Heap.ExtBut it s.heap h' -> (none : Option Value) = none /\ Inv X zB σ H { s with heap:=h' }:=fun h' x => ⟨rfl,zI0 (s:=s) (h':=h') (t':=s.toks) I hf fun c o n q => x c o (fun m => n (by simp [m])) q⟩;cases isT with
  | true =>
   obtain ⟨its,rv,p1,z1⟩:=I.tuple sa;refine zLG he (fun Q' E' hq => zEu (I.ok.hd hc) (show s.heap.IsTupleIter it a i from st) (show s.heap.IsTuple a its.toArray from p1) (by have:=rv.length; simp; omega) hq) out
  | false =>
   obtain ⟨its,rv,p1,z1⟩:=I.list sa;refine zLG he (fun Q' E' hq => wpAny_nextOf_list_end (I.ok.hd hc) (show s.heap.IsListIter it a i from st) p1.isList (by have:=rv.length; simp; omega) hq) out
 self:=fun _ _ _ _ _ Z h => let ⟨⟨_,he⟩,_⟩:=Z; wpAny_pyIter_enum he h
section
variable {X : Cx} {a : Expr} {es : List Expr} {ek : Nat} {ep p pos : Pos}
theorem zRY {te : TE} (hg : Gl X "enumerate") (hm : X.mg "enumerate" = none) (ha : PE X a te) (hs : starEach [a] X.env = (false,eval a X.env) :: starEach [] X.env:=by rfl) (hpl : (backTo pos (starEach [] X.env)).any (·.1) = false:=by rfl) :
  PI X (.Tuple es ek ep) (.Call (.Name "enumerate" p) [a] [] pos) (fun σ H R => te σ H fun x H1 => ∃ l,x = .ref l /\ ((∃ xs,SqT X.K H1 l xs) /\ R (zKq X.K true l) H1 \/ (∃ xs,SqL X.K H1 l xs) /\ R (zKq X.K false l) H1)):=by
 intro zB s σ H R I h;refine wpAny_Call_Name_kw (zEc I hg hm (by rfl) ?_ (by decide) (by decide));refine callWith_type1 ?_ hs hpl;rw [hs];show wpAny _ _ (spliced ((false,eval a X.env) :: backTo pos (starEach [] X.env))) _ _ s;refine Calls.spliced_cons (thn (ha zB s σ H _ I h) fun u s1 ⟨x,H1,I1,r1,l,hx,q⟩ => Calls.spliced_nil ?_);subst hx;cases r1
 have out : ∀ (isT : Bool) (h' : Heap),l < s1.heap.objs.size -> IsEnum h' (s1.heap.objs.size + 1) s1.heap.objs.size 0 .none -> zQ2 isT s1.heap.objs.size l 0 h' -> (∀ c o,s1.heap.get? c = some o -> h'.get? c = some o) -> R (zKq X.K isT l) H1 ->
   wpAny (model X.prog X.w) X.A (pyIter (.ref (s1.heap.objs.size + 1))) (PIE X zB σ (.Tuple es ek ep) R) X.xe { s1 with heap:=h' }:=by
  intro isT h' hl he st kp q;refine wpAny_pyIter_enum (s:={ s1 with heap:=h' }) he ?_;refine ⟨s1.heap.objs.size + 1,[s1.heap.objs.size + 1,s1.heap.objs.size],_,_,H1,rfl,I1.kept (t':=s1.toks) kp,zOE (isT:=isT) (zWs (zWK _)) (zVi (zWC hl)) (zVi hl),⟨⟨_,he⟩,st⟩,fun c hc => ?_,q⟩;have ge : s1.heap.objs.size <= c:=by
   simp only [zVZ,zVs,zWi] at hc;rcases hc with rfl | rfl
   ·exact zW5 _
   ·exact zVT _
  exact I1.fpOk ge (I1.hok.fresh ge)
 rcases q with ⟨⟨xs,hq⟩,q⟩ | ⟨⟨xs,hq⟩,q⟩
 ·obtain ⟨its,rv,p1,_⟩:=I1.tuple hq;have hl : l < s1.heap.objs.size:=by obtain ⟨_,e,_⟩:=p1; exact zVY e
  exact zMK (show s1.heap.IsTuple l its.toArray from p1) fun h' he st kp => out true h' hl he st kp q
 ·obtain ⟨its,rv,p1,_⟩:=I1.list hq;have hl : l < s1.heap.objs.size:=by obtain ⟨_,_,e,_⟩:=p1; exact zVY e
  exact call_enumerate_list p1.isList fun h' he st _ kp => out false h' hl he st kp q
def zLd (xs : List D) : List D:=((List.range xs.length).zip xs).map fun q => D.tup [.int (q.1 : Nat),q.2]
theorem zPv {xs : List D} {i : Nat} {d : D} (h : (zLd xs)[i]? = some d) : ∃ x,xs[i]? = some x /\ d = .tup [.int (i : Nat),x]:=by
 unfold zLd at h;rw [zVk] at h;cases e : ((List.range xs.length).zip xs)[i]? with
 | none => rw [e] at h; cases h
 | some pr =>
  rw [e] at h;cases h;obtain ⟨f1,f2⟩:=List.getElem?_zip_eq_some.mp e;have hi : i < xs.length:=(zVQ.mp f2).1;rw [List.getElem?_range hi] at f1;cases f1;exact ⟨pr.2,f2,rfl⟩
theorem zQN (xs : List D) : (zLd xs).length = xs.length:=by unfold zLd; simp
def zLe (f : FE) : FI:=fun σ M => match f σ M with
 | some (x,M1) => match zAc M1 x with
  | some xs => some (zLd xs,zEx x xs,M1)
  | none => none
 | none => none
theorem zRM {g : FE} (hg : Gl X "enumerate") (hm : X.mg "enumerate" = none) (h : QE X a g) (hs : starEach [a] X.env = (false,eval a X.env) :: starEach [] X.env:=by rfl) (hpl : (backTo pos (starEach [] X.env)).any (·.1) = false:=by rfl) :
  QI X (.Tuple es ek ep) (.Call (.Name "enumerate" p) [a] [] pos) (zLe g):=.mk <| PI.imp (zRY hg hm h.un hs hpl) fun τ H R zz => by
 obtain ⟨L,σ,M,xs,gd,M',c,rs,hf,q⟩:=zz;unfold zLe at hf;split at hf
 ·rename_i y M1 e1;split at hf
  ·rename_i zs e2;cases hf;refine ⟨L,σ,M,_,_,c,rs,e1,fun L1 H1 v s1 c1 r1 => ?_⟩
   have step : ∀ (isT : Bool) (l : Addr) (L2 : List Addr) (H2 : Hp) (vs : List V),(if isT then SqT X.K H2 l vs else SqL X.K H2 l vs) -> zT L2 H2 zs vs ->
     (∀ (i : Nat) d,(zLd zs)[i]? = some d -> (zKq X.K isT l).go i H2 /\ ∀ v H'',(zKq X.K isT l).yld i H2 v H'' -> (∀ a o,H2 a = some o -> H'' a = some o) /\ Rep L2 H'' d v) /\ (zKq X.K isT l).stop (zLd zs).length H2:=by
    intro isT l L2 H2 vs hq r;refine ⟨fun i d hd => ?_,⟨vs,hq,by rw [zQN,r.length]; exact zVT _⟩⟩;obtain ⟨x,hx,rfl⟩:=zPv hd;obtain ⟨u,hu,ru⟩:=r.get hx;refine ⟨⟨vs,u,hq,hu⟩,fun v H3 hy => ?_⟩;obtain ⟨T,x',rfl,hT,rfl,hxx⟩:=hy;have ex:=hxx vs hq;rw [hu] at ex; cases ex;exact ⟨fun a o e => by rw [zh (zAO e hT)]; exact e,Rep.newTup hT (.cons zAj (.cons ru .nil))⟩
   unfold zAc at e2;cases t : zDJ y with
   | some ws =>
    rw [t] at e2; cases e2;obtain ⟨a,vs,rfl,e3,r3⟩:=zCE r1 t;refine ⟨a,rfl,.inl ⟨⟨vs,.of e3⟩,q L1 H1 _ s1 c1 fun L2 H2 M2 s2 c2 _ => ?_⟩⟩;exact step true a L2 H2 vs (.of (s2.tup a vs e3)) (r3.stp s2)
   | none =>
    rw [t] at e2;dsimp only at e2;obtain ⟨a,vs,rfl,e3,r3⟩:=zBD c1 r1 e2;refine ⟨a,rfl,.inr ⟨⟨vs,.inl e3⟩,q L1 H1 _ s1 c1 fun L2 H2 M2 s2 c2 hgd => ?_⟩⟩;have key : ∃ vs',SqL X.K H2 a vs' /\ zT L2 H2 zs vs':=by
     cases y with
     | fl ys =>
      cases e2;obtain ⟨p',vs',hp',_,e5,e6,r6⟩:=r1;cases hp';exact ⟨vs',.of (s2.old _ _ e5 e6),r6.stp s2⟩
     | dat d =>
      cases d with
      | ref n =>
       unfold zk Rep at r1;obtain ⟨a',ha',e5⟩:=r1;cases ha';have e6 : L2[n]? = some a:=by obtain ⟨N,hN⟩:=s2.pre; rw [hN]; exact zB9 e5
       rcases hgd with z | z
       ·obtain ⟨vs',e7,r7⟩:=c2.obj n a _ e6 z; exact ⟨vs',.of e7,r7⟩
       ·obtain ⟨o,vs',e7,r7⟩:=c2.obj n a _ e6 z; exact ⟨vs',.inl (.inr ⟨o,e7⟩),r7⟩
      | _ => cases e2
    obtain ⟨vs',hq,r7⟩:=key;exact step false a L2 H2 vs' hq r7
  ·cases hf
 ·cases hf
end
section
variable {κ : Type} [DecidableEq κ]
def zE2 (kf : D -> Option κ) (kvs : List (D × D)) (k : κ) : Option D:=(kvs.find? fun p => decide (kf p.1 = some k)).map (·.2)
def zLM (kf : D -> Option κ) (kvs : List (D × D)) (k : κ) (kd v : D) : List (D × D) :=
 if (kvs.any fun p => decide (kf p.1 = some k)) = true then kvs.map fun p => if kf p.1 = some k then (p.1,v) else p else kvs ++ [(kd,v)]
theorem zHM (k : κ) : ∀ {kvs : List (D × D)} {vs : List (κ × V)},zBP kf L H kvs vs -> (zE2 kf kvs k = none /\ zEy vs k = none) \/ ∃ d v,zE2 kf kvs k = some d /\ zEy vs k = some v /\ Rep L H d v
 | [],vs,h => by unfold zBP at h; subst h; exact .inl ⟨rfl,rfl⟩
 | p :: r,vs,h => by
  obtain ⟨k',v,r',rfl,e,h1,h2⟩:=h;by_cases q : k' = k
  ·subst q;exact .inr ⟨p.2,v,by unfold zE2; rw [zW9,e]; simp,by rw [zFu rfl],h1⟩
  ·have e1 : zE2 kf (p :: r) k = zE2 kf r k:=by unfold zE2; rw [zW9,e]; simp [q]
   rw [e1,zFR q];exact zHM k h2
theorem zLb (k : κ) : ∀ {kvs : List (D × D)} {vs : List (κ × V)},zBP kf L H kvs vs -> (kvs.any fun p => decide (kf p.1 = some k)) = (vs.any fun kv => decide (kv.1 = k))
 | [],vs,h => by unfold zBP at h; subst h; rfl
 | p :: r,vs,h => by
  obtain ⟨k',v,r',rfl,e,h1,h2⟩:=h;rw [List.any_cons,List.any_cons,zLb k h2,e];simp
theorem zHJ (k : κ) (hd : Rep L H d u) : ∀ {kvs : List (D × D)} {vs : List (κ × V)},zBP kf L H kvs vs -> zBP kf L H (kvs.map fun p => if kf p.1 = some k then (p.1,d) else p) (vs.map fun kv => if kv.1 = k then (kv.1,u) else kv)
 | [],vs,h => by unfold zBP at h; subst h; rfl
 | p :: r,vs,h => by
  obtain ⟨k',v,r',rfl,e,h1,h2⟩:=h;rw [zVg,zVg];by_cases q : k' = k
  ·subst q;rw [zVc e,zVc rfl];exact ⟨k',u,_,rfl,e,hd,zHJ k' hd h2⟩
  ·rw [zVf (by rw [e]; simpa using q),zVf q];exact ⟨k',v,_,rfl,e,h1,zHJ k hd h2⟩
theorem zJQ (hk : kf kd = some k) (hd : Rep L H d u) : ∀ {kvs : List (D × D)} {vs : List (κ × V)},zBP kf L H kvs vs -> zBP kf L H (kvs ++ [(kd,d)]) (vs ++ [(k,u)])
 | [],vs,h => by unfold zBP at h; subst h; exact ⟨k,u,[],rfl,hk,hd,rfl⟩
 | p :: r,vs,h => by
  obtain ⟨k',v,r',rfl,e,h1,h2⟩:=h;exact ⟨k',v,_,rfl,e,h1,zJQ hk hd h2⟩
theorem zM2 {kf : D -> Option κ} {L : List Addr} {H : Hp} {k : κ} {kd d : D} {u : V} (hk : kf kd = some k) (hd : Rep L H d u) {kvs : List (D × D)} {vs : List (κ × V)} (h : zBP kf L H kvs vs) : zBP kf L H (zLM kf kvs k kd d) (zEB vs k u):=by
 unfold zLM zEB;rw [zLb k h];split
 ·exact zHJ k hd h
 ·exact zJQ hk hd h
end
theorem zKn : ∀ {ds : List D} {vs : List V} {ks : List Key},zT L H ds vs -> zHa ds = some ks -> vs = ks.map kV
 | [],vs,ks,h,e => by cases e; unfold zT at h; exact h
 | d :: ds,vs,ks,h,e => by
  unfold zT at h;obtain ⟨v,r,rfl,h1,h2⟩:=h;unfold zHa at e;cases e1 : zHF d with
  | none => rw [e1] at e; cases e
  | some k =>
   cases e2 : zHa ds with
   | none => rw [e1,e2] at e; cases e
   | some ks' =>
    rw [e1,e2] at e; cases e;rw [zJ7 h1 e1,zKn h2 e2]; rfl
theorem zPN (h : Rep L H d v) (e : tkD d = some ks) : ∃ b,v = .ref b /\ H b = some (.tup (ks.map kV)):=by
 cases d with
 | tup ds =>
  unfold Rep at h;obtain ⟨a,vs,rfl,e1,r⟩:=h;exact ⟨a,rfl,by rw [e1,zKn r e]⟩
 | _ => cases e
def zGl (M : Mem) (x : EV) (k : D) : Option (Option D):=match x with
 | .dat (.ref n) => match M[n]? with
  | some (.dict kvs) => match zHF k with
   | some kk => some (zE2 zHF kvs kk)
   | none => none
  | some (.dicT kvs) => match tkD k with
   | some kk => some (zE2 tkD kvs kk)
   | none => none
  | _ => none
 | _ => none
def zUG (L : List Addr) (H : Hp) : Option D -> Option V -> Prop
 | none,o => o = none
 | some d,o => ∃ v,o = some v /\ Rep L H d v
theorem zFo {K : PySem.W.Frag} {L : List Addr} {M : Mem} {H H0 : Hp} {x : EV} {v w : V} {k : D} {o : Option D} (c : Cor K L M H) (rx : zk H0 L H x v) (rk : Rep L H k w) (e : zGl M x k = some o) : ∃ a ov,v = .ref a /\ zDr H a w ov /\ zUG L H o ov:=by
 cases x with
 | fl xs => cases e
 | dat d =>
  cases d with
  | ref n =>
   unfold zk Rep at rx;obtain ⟨a,rfl,ea⟩:=rx;unfold zGl at e;dsimp only at e;cases q : M[n]? with
   | none => rw [q] at e; cases e
   | some m =>
    rw [q] at e;have z:=c.obj n a m ea q;cases m with
    | dict kvs =>
     dsimp only at e;cases e2 : zHF k with
     | none => rw [e2] at e; cases e
     | some kk =>
      rw [e2] at e;cases e;obtain ⟨vs,e3,r⟩:=z;refine ⟨a,zEy vs kk,rfl,?_,?_⟩
      ·rw [zJ7 rk e2]; exact zDr.k e3
      ·rcases zHM kk r with ⟨h1,h2⟩ | ⟨d,v,h1,h2,h3⟩
       ·rw [h1,h2]; rfl
       ·rw [h1,h2]; exact ⟨v,rfl,h3⟩
    | dicT kvs =>
     dsimp only at e;cases e2 : tkD k with
     | none => rw [e2] at e; cases e
     | some kk =>
      rw [e2] at e;cases e;obtain ⟨vs,e3,r⟩:=z;obtain ⟨b,rfl,eb⟩:=zPN rk e2;refine ⟨a,zEy vs kk,rfl,zDr.t e3 eb,?_⟩;rcases zHM kk r with ⟨h1,h2⟩ | ⟨d,v,h1,h2,h3⟩
      ·rw [h1,h2]; rfl
      ·rw [h1,h2]; exact ⟨v,rfl,h3⟩
    | _ => cases e
  | _ => cases e
def zHu (M : Mem) (n : Nat) (k v : D) : Option Mem:=match M[n]? with
 | some (.dict kvs) => match zHF k with
  | some kk => if kvs.length < sizeLine then some (M.set n (.dict (zLM zHF kvs kk k v))) else none
  | none => none
 | some (.dicT kvs) => match tkD k with
  | some kk => if kvs.length < sizeLine then some (M.set n (.dicT (zLM tkD kvs kk k v))) else none
  | none => none
 | _ => none
theorem zLL {K : PySem.W.Frag} {L : List Addr} {M M' : Mem} {H : Hp} {n : Nat} {a : Addr} {k v : D} {w u : V} (c : Cor K L M H) (ea : L[n]? = some a) (rk : Rep L H k w) (rv : Rep L H v u) (e : zHu M n k v = some M') : ∃ H',zGs H a w u H' /\ Cor K L M' H' /\ Stp L H L H':=by
 unfold zHu at e;cases q : M[n]? with
 | none => rw [q] at e; cases e
 | some m =>
  rw [q] at e;have z:=c.obj n a m ea q;cases m with
  | dict kvs =>
   dsimp only at e;cases e2 : zHF k with
   | none => rw [e2] at e; cases e
   | some kk =>
    rw [e2] at e;dsimp only at e;split at e
    ·rename_i hl;cases e;obtain ⟨vs,e3,r⟩:=z;obtain ⟨c3,s3⟩:=c.put (m:=.dict (zLM zHF kvs kk k v)) (o':=.dK (zEB vs kk u)) ea e3 (fun _ z => by cases z) (fun _ _ z => by cases z) fun s3 => ⟨_,zAi,(zM2 e2 rv r).stp s3⟩;refine ⟨_,?_,c3,s3⟩;rw [zJ7 rk e2]; exact zGs.k e3 (by rw [r.length]; exact hl)
    ·cases e
  | dicT kvs =>
   dsimp only at e;cases e2 : tkD k with
   | none => rw [e2] at e; cases e
   | some kk =>
    rw [e2] at e;dsimp only at e;split at e
    ·rename_i hl;cases e;obtain ⟨vs,e3,r⟩:=z;obtain ⟨b,rfl,eb⟩:=zPN rk e2;obtain ⟨c3,s3⟩:=c.put (m:=.dicT (zLM tkD kvs kk k v)) (o':=.dT (zEB vs kk u)) ea e3 (fun _ z => by cases z) (fun _ _ z => by cases z) fun s3 => ⟨_,zAi,(zM2 e2 rv r).stp s3⟩;exact ⟨_,zGs.t e3 eb (by rw [r.length]; exact hl),c3,s3⟩
    ·cases e
  | _ => cases e
section
variable {X : Cx} {a b e o i value : Expr} {pos pos' apos cpos : Pos} {f g h : FE}
def zA0 : K2:=fun x y M => match y with
 | .dat k => match zGl M x k with
  | some (some d) => some (.dat d,M)
  | _ => none
 | _ => none
theorem zPI {K : PySem.W.Frag} : zCt K (fun x y H Q => ∃ a v,x = .ref a /\ zDr H a y (some v) /\ Q v H) zA0:=by
 intro L M M' H H0 x y d v w Q c rx ry hk q;unfold zA0 at hk;split at hk
 ·rename_i k;split at hk
  ·rename_i d' e1;cases hk;obtain ⟨a,ov,rfl,h1,h2⟩:=zFo c rx ry e1;obtain ⟨u,rfl,r⟩:=h2;exact ⟨a,u,rfl,h1,q L H u (.refl L H) c r⟩
  ·cases hk
 ·cases hk
theorem zFD (hu : X.A.units + 1 < cLine) (h1 : QE X o f) (h2 : QE X i g) (hs : zTM i:=by intro _ _; rfl) : QE X (.Subscript o i pos) (fOp zA0 f g):=.mk <| PE.imp (zRZ hu h1.un h2.un hs) fun _ _ _ h => zC5 zPI h
def zB3 (neg : Bool) : K2:=fun x y M => match x with
  | .dat k => match zGl M y k with
    | some o => some (.dat (.bl (if neg then !o.isSome else o.isSome)),M)
    | none => none
  | _ => none
theorem zLZ {o : Option D} {ov : Option V} (h : zUG L H o ov) : ov.isSome = o.isSome:=by
  cases o with
  | none => have h' : ov = none := h
            rw [h']; rfl
  | some d => obtain ⟨v,rfl,_⟩:=h; rfl
theorem zQt {K : PySem.W.Frag} : zCt K (fun y x H Q => ∃ a o,x = .ref a /\ zDr H a y o /\ Q (.bl o.isSome) H) (zB3 false):=by
 intro L M M' H H0 x y d v w Q c rx ry hk q;unfold zB3 at hk;split at hk
 ·rename_i k;split at hk
  ·rename_i o e1;cases hk;obtain ⟨a,ov,rfl,h1,h2⟩:=zFo c ry rx e1;refine ⟨a,ov,rfl,h1,?_⟩;rw [zLZ h2];exact q L H _ (.refl L H) c (zBs (L:=L) (H:=H))
  ·cases hk
 ·cases hk
theorem zIE {K : PySem.W.Frag} : zCt K (fun y x H Q => ∃ a o,x = .ref a /\ zDr H a y o /\ Q (.bl (!o.isSome)) H) (zB3 true):=by
 intro L M M' H H0 x y d v w Q c rx ry hk q;unfold zB3 at hk;split at hk
 ·rename_i k;split at hk
  ·rename_i o e1;cases hk;obtain ⟨a,ov,rfl,h1,h2⟩:=zFo c ry rx e1;refine ⟨a,ov,rfl,h1,?_⟩;rw [zLZ h2];exact q L H _ (.refl L H) c (zBs (L:=L) (H:=H))
  ·cases hk
 ·cases hk
theorem zPX (hu : X.A.units + 1 < cLine) (h1 : QE X a f) (h2 : QE X b g) (hm : behindInMarks .NotIn b = false:=by rfl) : QE X (.Compare a [.NotIn] [b] pos) (fOp (zB3 true) f g):=.mk <| PE.imp (zTY (zJM hu h1.un h2.un) hm) fun _ _ _ h => zC5 zIE h
theorem zMC (hu : X.A.units + 1 < cLine) (h1 : QE X a f) (h2 : QE X b g) (hm : behindInMarks .In b = false:=by rfl) : QT X (.Compare a [.In] [b] pos) (tst (fOp (zB3 false) f g)):=.mk <| PT.imp (zO4 (zTH hu h1.un h2.un) hm) fun _ _ _ h => zFE (fun _ _ _ z => zC5 zQt z) (zEi h)
theorem zIq (hu : X.A.units + 1 < cLine) (h1 : QE X a f) (h2 : QE X b g) (hm : behindInMarks .NotIn b = false:=by rfl) : QT X (.Compare a [.NotIn] [b] pos) (tst (fOp (zB3 true) f g)):=.mk <| PT.imp (zO4 (zJM hu h1.un h2.un) hm) fun _ _ _ h => zFE (fun _ _ _ z => zC5 zIE z) (zEi h)
def zEe (fv fo fi : FE) : FS:=fun σ M => match toD fv σ M with
 | some (v,M1) => match toD fo σ M1 with
  | some (.ref n,M2) => match toD fi σ M2 with
   | some (k,M3) => match zHu M3 n k v with
    | some M4 => some (.nx,σ,M4)
    | none => none
   | none => none
  | _ => none
 | none => none
theorem zPD (hu : X.A.units + 1 < cLine) (hv : QE X value f) (ho : QE X o g) (hi : QE X i h) (hs : swapsWith value (some (.Subscript o i pos')) pos.line X.env = pure false:=by rfl) : QS X (.Assign [.Subscript o i pos'] value pos) (zEe f g h) :=
 .mk <| PS.imp (zSA hu (zI ho).un (zI hi).un (zI hv).un hs) fun E τ H zz => by
  obtain ⟨L,σ,M,out,σ',M',c,rs,hf,q⟩:=zz;unfold zEe at hf;split at hf
  ·rename_i v M1 e1;split at hf
   ·rename_i n M2 e2;split at hf
    ·rename_i k M3 e3;split at hf
     ·rename_i M4 e4;cases hf;refine ⟨L,σ,M,_,_,c,rs,e1,fun L1 H1 u s1 c1 r1 => ⟨L1,σ,M1,_,_,c1,rs.stp s1,e2,fun L2 H2 y s2 c2 r2 => ⟨L2,σ,M2,_,_,c2,(rs.stp s1).stp s2,e3,fun L3 H3 z s3 c3 r3 => ?_⟩⟩⟩;unfold Rep at r2;obtain ⟨a,rfl,ea⟩:=r2;have ea3 : L3[n]? = some a:=by obtain ⟨N,hN⟩:=s3.pre; rw [hN]; exact zB9 ea
      obtain ⟨H4,h1,h2,h3⟩:=zLL c3 ea3 r3 ((r1.stp s2).stp s3) e4;exact ⟨a,H4,rfl,h1,q L3 H4 (((s1.trans s2).trans s3).trans h3) h2 τ ((((rs.stp s1).stp s2).stp s3).stp h3)⟩
     ·cases hf
    ·cases hf
   ·cases hf
  ·cases hf
def zB4 (fo fi fx : FE) : FE:=fun σ M => match toD fo σ M with
 | some (.ref n,M1) => match M1[n]? with
  | some (.dict _) | some (.dicT _) => match toD fi σ M1 with
   | some (k,M2) => match toD fx σ M2 with
    | some (x,M3) => match zGl M3 (.dat (.ref n)) k with
     | some o => some (.dat (o.getD x),M3)
     | none => none
    | none => none
   | none => none
  | _ => none
 | _ => none
theorem zMx (hu : X.A.units + 1 < cLine) (ho : QE X o f) (hi : QE X i g) (hx : QE X e h) (m : M2 X o "get" apos i e cpos) : QE X (.Call (.Attribute o "get" apos) [i,e] [] cpos) (zB4 f g h) :=
 .mk <| PE.imp (zOn hu (zI ho).un (zI hi).un (zI hx).un m) fun τ H Q zz => by
  obtain ⟨L,σ,M,d,M',c,rs,hf,q⟩:=zz
  have key : ∀ n M1,toD f σ M = some (.ref n,M1) -> (∃ kvs,M1[n]? = some (.dict kvs) \/ M1[n]? = some (.dicT kvs)) -> (match toD g σ M1 with
   | some (k,M2) => match toD h σ M2 with
    | some (x,M3) => match zGl M3 (.dat (.ref n)) k with
     | some o => some (EV.dat (o.getD x),M3)
     | none => none
    | none => none
   | none => none) = some (d,M') -> zPy (trD X.K (toD f)) (trD X.K (toD g)) (trD X.K (toD h)) τ H Q:=by
   intro n M1 e1 hd hf;split at hf
   ·rename_i k M2 e2;split at hf
    ·rename_i x M3 e3;split at hf
     ·rename_i ov e4;cases hf;refine ⟨L,σ,M,_,_,c,rs,e1,fun L1 H1 u s1 c1 r1 => ?_⟩;unfold Rep at r1;obtain ⟨a,rfl,ea⟩:=r1;refine ⟨a,rfl,?_,L1,σ,M1,_,_,c1,rs.stp s1,e2,fun L2 H2 y s2 c2 r2 => ⟨L2,σ,M2,_,_,c2,(rs.stp s1).stp s2,e3,fun L3 H3 z s3 c3 r3 => ?_⟩⟩
      ·obtain ⟨kvs,hk | hk⟩:=hd
       ·obtain ⟨vs,e5,_⟩:=c1.obj n a _ ea hk; exact .inl ⟨vs,.inl e5⟩
       ·obtain ⟨vs,e5,_⟩:=c1.obj n a _ ea hk; exact .inr ⟨vs,.inl e5⟩
      ·have ra : zk H L3 H3 (.dat (.ref n)) (.ref a):=by
        unfold zk Rep;exact ⟨a,rfl,by obtain ⟨N,hN⟩:=(s2.trans s3).pre; rw [hN]; exact zB9 ea⟩
       obtain ⟨a',o',e6,h1,h2⟩:=zFo c3 ra (r2.stp s3) e4;cases e6;refine ⟨o',h1,?_⟩;cases ov with
       | none =>
        have h' : o' = none:=h2;subst h';exact q L3 H3 _ ((s1.trans s2).trans s3) c3 r3
       | some dd =>
        obtain ⟨v,rfl,rv⟩:=h2;exact q L3 H3 _ ((s1.trans s2).trans s3) c3 rv
     ·cases hf
    ·cases hf
   ·cases hf
  unfold zB4 at hf;split at hf
  ·rename_i n M1 e1;split at hf
   ·rename_i kvs e5; exact key n M1 e1 ⟨kvs,.inl e5⟩ hf
   ·rename_i kvs e5; exact key n M1 e1 ⟨kvs,.inr e5⟩ hf
   ·cases hf
  ·cases hf
end
end L3
namespace L2
open PySem PySem.Spec PyProof.Rows
section
variable {prog : Program} {w : World} {A : Around} {R : Result -> Shared -> Prop} {s : Shared}
theorem zDZ {kx vx target iter ifs rest scope pos it acc env}
  (h0 : codeAny (model prog w) A (.compLoop (.DictComp kx vx (⟨target,iter,ifs,0⟩ :: rest) scope pos) 0 it acc env) R s)
  (h : wpAny (model prog w) A (pyIter it) (fun it' s' => codeAny (model prog w) A (.compLoop (.DictComp kx vx (⟨target,iter,ifs,0⟩ :: rest) scope pos) 0 it' acc env) R s')
   (notedBy (model prog w) A env fun x s' => R (.error x) s') s) :
  codeAny (model prog w) A (.compStart (.DictComp kx vx (⟨target,iter,ifs,0⟩ :: rest) scope pos) 0 it acc env) R s:=by
 refine codeAny_of_tree ?_;show wpAny _ _ ((compStart (.DictComp kx vx (⟨target,iter,ifs,0⟩ :: rest) scope pos) 0 it acc env).onRaise (fun x => do noteFrame x env; standAt theWindowsPlace)) _ _ s;refine wpAny_notedAt ?_;unfold compStart;show wpAny _ _ (ask >>= _) _ _ s;refine zVN (wpAny_askSetting (wpAny_ite ?_));split
 ·first
   | exact zVN (zVP (zVP (And.intro rfl h0)))
   | exact zVP (And.intro rfl h0)
 ·first
   | exact zVN (zWk (zVN (zWL (zVN (zVt h (fun it' s' h' => zVP (And.intro rfl h')) fun _ _ x => x)))))
   | (refine zVN (zWk ?_); show wpAny _ _ (standAt iter.pos >>= _) _ _ s; exact zVN (zWL (zVN (zVt h (fun it' s' h' => zVP (And.intro rfl h')) fun _ _ x => x))))
end
section
variable {X : Cx} {zB : List (Addr × Obj)} {σ : St} {H : Hp} {s : Shared}
theorem Inv.trackAt (I : Inv X zB σ H s) (ho : s.heap.get? D = some o) (hn : H D = none) (h0 : X.s₀.heap.objs.size <= D) (hL : D ≠ X.env.locals) (hc : ∀ x c,X.env.cells.lookup x = some c -> c ≠ D) (hp : ∀ p ∈ X.pn ++ zB,p.1 ≠ D)
  (new : zAh X.prog X.w (upd H D u) s.heap D u) : Inv X zB σ (upd H D u) s:=by
 have un : ∀ b v,H b = some v -> upd H D u b = some v:=fun b v e => by rw [zh (zAO e hn)]; exact e
 have e0 : s = { s with heap:=s.heap,gens:=s.gens,drawn:=s.drawn,toks:=s.toks }:=by cases s; rfl
 rw [e0];refine I.step (g':=s.gens) (d':=s.drawn) (ch:=[D]) (fun b hb => ?_) (fun b v _ _ _ e _ => e) (fun b v _ _ _ e _ => ⟨v.slots,e⟩) (fun b v hb e n => ?_) (fun b v _ e => ⟨v,e⟩) (fun b xs e => un b _ e) (fun b p v e => un b _ e) (fun b ps e => ⟨#[],by rw [un b _ e]; simp⟩) (fun m hm => hm) (fun b v e => ?_) I.bare
 ·have : b = D:=by simpa using hb
  subst this;exact ⟨.inr h0,hL,hc,hp⟩
 ·rw [zh (fun z => hb (by simp [z]))]; exact n
 ·by_cases hb : b = D
  ·subst hb; rw [zAi] at e; cases e; exact new
  ·rw [zh hb] at e;exact (I.hok b v e).stay (fun c v hc q => q) (fun c q => un c _ q) fun c xs q => un c _ q
theorem zN7 (hu : A.units + 1 < cLine) (I : Inv X zB σ H s) (g : zGs H a y v H') (ry : zv y u) (rv : zv v r) (h : ∀ s',Inv X zB σ H' s' -> Heap.SameBut a s.heap s'.heap -> Q () s') :
  wpAny (model X.prog X.w) A (dictSet a u r) Q E s:=by
 rcases g with ⟨kvs,k,e,ey,l,eH⟩ | ⟨kvs,k,b,e,ey,eb,l,eH⟩
 ·subst ey eH;obtain ⟨z,hd,vs,rel,dd⟩:=zST I.hok e;have hz : vs.length <= sizeLine:=by rw [<- rel.length]; exact z
  have hl : (zEB kvs k v).length <= sizeLine:=by have:=zDI kvs k v; omega
  refine wpAny_dictSet_pairs (hsz:=hz) (zIR ry) dd fun h' dd' hs => h _ ?_ hs;have he : ∃ q,h'.get? a = some q:=let ⟨q,_,_,hq,_⟩:=dd'; ⟨q,hq⟩;exact zG2 I (by rw [e]; exact True.intro) hs he (zPr hl hd (rel.put k rv) dd')
 ·subst ey eH;cases (show u = Value.ref b from ry);obtain ⟨z,hd,xs,rel,dd⟩:=zSM I.hok e;have hz : xs.length <= sizeLine:=by rw [<- Paired.length rel]; exact z
  have hl : (zEB kvs k v).length <= sizeLine:=by have:=zDI kvs k v; omega
  refine wpAny_dictSet_heap (hsz:=hz) (show (tupleKind (zAl X.prog X.w)).room A from Nat.lt_of_succ_lt hu) (zFG I.hok eb) dd fun h' dd' hs => h _ ?_ hs;obtain ⟨q,es,ep,hq,h2,h3,h4,_,h5⟩:=dd';refine zG2 I (by rw [e]; exact True.intro) hs ⟨q,hq⟩ ⟨hl,hd,_,(rel.put k eb rv).keeps fun c ys ec => ?_,q,es,ep,hq,h2,h3,h4,h5⟩;rw [zh (zJO ec e (fun z => nomatch z))];exact ec
end
def zFM (isT : Bool) : HO:=if isT then .dT [] else .dK []
abbrev zCY : Obj:={ cls:=.type "dict", data:=.dict #[] }
section
variable {X : Cx} {zB : List (Addr × Obj)} {σ : St} {H : Hp} {s : Shared} {scope : Scope} {cl : List (Str × Addr)} {fp : List Addr} {it : Addr} {tn : Nat -> Heap -> Prop} {J : It} {tg kx vx iter : Expr} {ifs : List Expr} {pos : Pos}
 {own : List Nat} {g : TG} {tc : TT} {tk tv : TE} {E : Value -> Shared -> Prop} {isT : Bool}
theorem zD5 (hu : X.A.units + 1 < cLine) (C : CompIn X scope own) (hcalm : X.calm = true) (I : Inv X zB σ H s) (T : Turn X.prog X.w X.K tg J fp it tn) (st : tn 0 s.heap) (hf : ∀ b ∈ fp,zCT X zB H b)
  (c1 : ∀ x c,cl.lookup x = some c -> X.env.cells.lookup x = some c) (c2 : ∀ y ∈ scope.names,y.2 = .free -> (cl.lookup y.1).isSome = true)
  (hg : PG (zR X zB scope cl s H fp) tg g) (hi : zGr (zR X zB scope cl s H fp) ifs tc) (hk : PE (zR X zB scope cl s H fp) kx tk) (hv : PE (zR X zB scope cl s H fp) vx tv)
  {RR : Value -> Addr -> Result -> Shared -> Prop} {QQ : Hp -> Prop} {W : Nat -> Nat -> Hp -> Prop} {m0 : Nat} (w0 : W 0 m0 (upd H s.heap.objs.size (zFM isT)))
  (turn : ∀ i m H,W i m H -> (J.stop i H /\ QQ H) \/
   (J.go i H /\ ∀ x H',J.yld i H x H' -> g x (clr own σ) H' fun σ2 H2 => Ext (clr own σ) σ2 /\ tc σ2 H2 fun b H3 =>
    if b = true then tk σ2 H3 fun k H4 => tv σ2 H4 fun v H5 => ∃ H6 m',zGs H5 s.heap.objs.size k v H6 /\ m' < m /\ W (i + 1) m' H6 else ∃ m',m' < m /\ W (i + 1) m' H3))
  (fin : ∀ σc H' s',Inv (zR X zB scope cl s H fp) [] σc H' s' -> QQ H' -> RR (.ref s.heap.objs.size) (s.heap.objs.size + 1) (.ok .next) s') :
  wpAny (model X.prog X.w) X.A newDict (fun acc s₃ => wpAny (model X.prog X.w) X.A (newFunctionEnv scope X.env.globals cl [] X.env.qual none .none (some X.env)) (fun cenv s₄ =>
   codeAny (model X.prog X.w) X.A (.compStart (.DictComp kx vx [⟨tg,iter,ifs,0⟩] scope pos) 0 (.ref it) acc { cenv with scope:=relabel scope X.env }) (RR acc cenv.locals) s₄) E s₃) E s:=by
 have ob : ∀ b : Nat,b ∈ fp -> b < s.heap.objs.size:=fun b hb => let ⟨_,e,_⟩:=T.obj 0 _ st b hb; zVY e;show wpAny _ _ (newObj (.type "dict") (.dict #[])) _ _ _;refine zVq (zC4 ?_);have sz1 : (s.heap.push zCY).objs.size = s.heap.objs.size + 1:=zV3 ..;have I4:=zFc (X:=X) (zB:=zB) (σ:=σ) (σc:=clr own σ) (H:=H) (s:=s) (scope:=scope) (cl:=cl) (fp:=fp) C.sc I hf ob c1 c2 (zBa own σ) (fun i x v h1 h2 h3 => by
  obtain ⟨a,b⟩:=zDC own σ i v h2;rcases C.nm i x h1 with z | z | z
  ·exact absurd z b
  ·exact absurd (zCV x z) h3
  ·exact ⟨z,a⟩) zCY (by intro v z; cases z) rfl rfl
 have st4 : tn 0 (pushCells ((s.heap.push zCY).push { cls:=.type "dict", data:=.dict #[] }) scope.names):=T.keep 0 _ _ st fun b _ o e => pushCells_keeps _ _ b o (zVO _ (zVO _ e));dsimp only;unfold newEnv;dsimp only;rw [sz1];have hDfp : s.heap.objs.size ∉ fp:=fun z => zV5 _ (ob _ z);obtain ⟨pD,nD,neD,nfD,dD⟩:=I4.pin (s.heap.objs.size,zCY) (by simp);have hcD : ∀ x c,(zR X zB scope cl s H fp).env.cells.lookup x = some c -> c ≠ s.heap.objs.size:=fun x c e z => by
  obtain ⟨v,o,ho,hd⟩:=I4.cell x c e;rw [z,pD] at ho;cases ho; cases hd
 have hpn : ∀ p ∈ (zR X zB scope cl s H fp).pn ++ [],p.1 ≠ s.heap.objs.size:=fun p hp => by
  rw [zV7] at hp;have hp' : p ∈ X.pn ++ zB:=hp;exact zVi (zVY (I.pin p hp').1)
 have big : sysModules < s.heap.objs.size:=I.big;have hsm : (s.heap.objs.size == sysModules) = false:=by rw [beq_eq_false_iff_ne]; exact zWs big
 have I5 : Inv (zR X zB scope cl s H fp) [] (clr own σ) (upd H s.heap.objs.size (zFM isT)) { s with heap:=pushCells ((s.heap.push zCY).push { cls:=.type "dict", data:=.dict #[] }) scope.names }:=by
  have I4' : Inv (zR X zB scope cl s H fp) [] (clr own σ) H { s with heap:=pushCells ((s.heap.push zCY).push { cls:=.type "dict", data:=.dict #[] }) scope.names }:=I4.pins_of fun p hp => nomatch hp;refine I4'.trackAt pD nD (zVT _) neD hcD hpn ?_;cases isT with
  | false => exact ⟨zV9 _,hsm,[],.nil,zCY,#[],0,pD,⟨rfl,rfl,rfl⟩,rfl,fun _ he => by simp at he,.nil,List.nodup_nil⟩
  | true => exact ⟨zV9 _,hsm,[],.nil,zCY,#[],0,pD,⟨rfl,rfl,rfl⟩,rfl,rfl,List.nodup_nil⟩
 have fpk : ∀ {H' : Hp},(∀ b ∈ fp,H' b = none) -> ∀ b ∈ fp,zCT (zR X zB scope cl s H fp) [] H' b:=fun {H'} hn b hb =>
  ⟨hn b hb,(I4.ok.exf b hb).1,I4.ok.exfs b hb,.inl hb,(I4.ok.exf b hb).2,fun p hq => by
   rw [zV7] at hq;exact (hf b hb).2.2.2.2.2 p hq⟩
 have loop : codeAny (model X.prog X.w) X.A (.compLoop (.DictComp kx vx [⟨tg,iter,ifs,0⟩] scope pos) 0 (.ref it) (.ref s.heap.objs.size) (zR X zB scope cl s H fp).env) (RR (.ref s.heap.objs.size) (s.heap.objs.size + 1))
   { s with heap:=pushCells ((s.heap.push zCY).push { cls:=.type "dict", data:=.dict #[] }) scope.names }:=by
  refine zIV (fun n s' => ∃ i H',Inv (zR X zB scope cl s H fp) [] (clr own σ) H' s' /\ tn i s'.heap /\ (∀ b ∈ fp,H' b = none) /\ W i n H') ?_ m0
   ⟨0,_,I5,st4,fun b hb => by rw [zh (show b ≠ s.heap.objs.size from fun z => hDfp (by rw [<- z]; exact hb))]; exact (hf b hb).1,w0⟩
  rintro n s5 ⟨i,H5,J5,st5,f5,w5⟩;rcases turn i n H5 w5 with ⟨stop,qq⟩ | ⟨go,step⟩
  ·refine thn (T.done (zR X zB scope cl s H fp) rfl rfl rfl hcalm i _ s5 _ H5 _ J5 (fpk f5) st5 stop) fun r s6 ⟨hr,I6⟩ => ?_;subst hr;exact fin _ H5 s6 I6 qq
  ·refine thn (T.item (zR X zB scope cl s H fp) rfl rfl rfl hcalm i _ s5 _ H5 _ J5 (fpk f5) st5 go) fun r s6 ⟨u,hr,h6⟩ => ?_;subst hr;refine thn h6 fun _ s7 ⟨x,H7,I7,r7,y7,st7,f7⟩ => ?_;have I7':=I7.pinned (fpk f7) (T.obj _ _ st7);refine thn (hg _ s7 _ H7 x u _ I7' r7 (step x H7 y7)) fun _ s8 ⟨σ8,H8,I8,x8,q8⟩ => ?_;refine thn (hi _ s8 σ8 H8 _ I8 q8) fun ok s9 ⟨H9,I9,q9⟩ => ?_;have back : ∀ {s' : Shared} {Hx : Hp},Inv (zR X zB scope cl s H fp) ([] ++ zDR fp s7.heap) σ8 Hx s' -> tn (i + 1) s'.heap /\ ∀ b ∈ fp,Hx b = none:=fun {s' Hx} Ix =>
    ⟨T.keep _ _ _ st7 fun b hb o e => (Ix.pin (b,o) (zVh _ (zVh _ (zAa hb e)))).1,fun b hb => by
     obtain ⟨o,e,d⟩:=T.obj _ _ st7 b hb;exact (Ix.pin (b,o) (zVh _ (zVh _ (zAa hb e)))).2.1⟩
   cases ok with
   | false =>
    obtain ⟨m',hm,w'⟩:=q9;obtain ⟨b1,b2⟩:=back I9;exact ⟨m',hm,i + 1,H9,(I9.weak (by rw [x8.1]) x8.2).unpinned,b1,b2,w'⟩
   | true =>
    refine thn (hk _ s9 σ8 H9 _ I9 q9) fun kv s10 ⟨y,H10,I10,r10,q10⟩ => ?_;refine thn (hv _ s10 σ8 H10 _ I10 q10) fun vv s11 ⟨z,H11,I11,r11,H12,m',hp,hm,w'⟩ => ?_;refine zN7 (X:=zR X zB scope cl s H fp) hu I11 hp r10 r11 fun s12 I12 hs => ?_;obtain ⟨b1,b2⟩:=back I12;exact ⟨m',hm,i + 1,H12,(I12.weak (by rw [x8.1]) x8.2).unpinned,b1,b2,w'⟩
 exact zDZ loop (T.self _ 0 _ _ _ st4 loop)
theorem zE6 (I : Inv X zB σ H s) (hf : ∀ b ∈ fp,zCT X zB H b)
  (Ic : Inv (zR X zB scope cl s H fp) [] σc H' s') (hs : Heap.SameBut (s.heap.objs.size + 1) s'.heap h') : Inv X zB σ H' { s' with heap:=h' }:=by
 have nC : H' (s.heap.objs.size + 1) = none:=Ic.free;have lt1 : ∀ {b : Addr} {o : Obj},s.heap.get? b = some o -> b ≠ s.heap.objs.size + 1:=fun e => zVi (zWC (zVY e));have tr : ∀ b u,H' b = some u -> b ≠ s.heap.objs.size + 1:=fun b u e z => by rw [z,nC] at e; cases e
 have B:=Ic.base;have un : Un (frs X.stack) fp H H' s.heap h':=by
  refine ⟨fun b o e q hb hx => hs.extBut b o (lt1 e) (B.keep b o e q hb hx),fun b o e q hb hx => ?_,fun b o e q hx => B.free b o e q hx,fun b o e hx => ?_,fun b xs e => B.tups b xs e,fun b o xs e => B.frzs b o xs e,fun b ps e => B.tbls b ps e⟩
  ·obtain ⟨sl,e1⟩:=B.slot b o e q hb hx;exact ⟨sl,hs.extBut b _ (lt1 e) e1⟩
  ·obtain ⟨o',e1⟩:=B.there b o e hx;exact ⟨o',hs.extBut b _ (lt1 e) e1⟩
 have hok : HOk X.prog X.w H' h':=fun b u e => by
  refine (Ic.hok b u e).stay (fun c v hc q => hs.extBut c v ?_ q) (fun c q => q) fun c xs q => q;rcases hc with z | z
  ·rw [z]; exact tr b u e
  ·exact tr c _ z
 exact I.call' (s':={ s' with heap:=h' }) (ch:=fp) Ic.os un hok Ic.bare fun b hb => ⟨(hf b hb).2.2.2.1,(hf b hb).2.1,(hf b hb).2.2.2.2.1,(hf b hb).2.2.2.2.2⟩
end
def zGJ (isT : Bool) (own : List Nat) (wi : TI) (g : TG) (tc : TT) (tk tv : TE) : TE:=fun σ H Q => wi σ H fun J H1 => ∀ D,H1 D = none -> ∃ W : Nat -> Nat -> Hp -> Prop,(∃ m,W 0 m (upd H1 D (zFM isT))) /\ ∀ i m H,W i m H ->
 (J.stop i H /\ Q (.ref D) H) \/
 (J.go i H /\ ∀ x H',J.yld i H x H' -> g x (clr own σ) H' fun σ2 H2 => Ext (clr own σ) σ2 /\ tc σ2 H2 fun b H3 =>
  if b = true then tk σ2 H3 fun k H4 => tv σ2 H4 fun v H5 => ∃ H6 m',zGs H5 D k v H6 /\ m' < m /\ W (i + 1) m' H6 else ∃ m',m' < m /\ W (i + 1) m' H3)
section
variable {X : Cx} {scope : Scope} {tg kx vx iter : Expr} {ifs : List Expr} {pos : Pos} {own : List Nat} {wi : TI} {g : TG} {tc : TT} {tk tv : TE} {isT : Bool}
theorem zLS (hu : X.A.units + 1 < cLine) (C : CompIn X scope own) (hcalm : X.calm = true) (hi : PI X tg iter wi) (p : CompParts X scope tg ifs kx g tc tk) (p2 : ∀ zB cl s H fp,PE (zR X zB scope cl s H fp) vx tv) (hs : ∀ x,foldedSetIterable iter X.env x = pure x:=by intro _; rfl) :
  PE X (.DictComp kx vx [⟨tg,iter,ifs,0⟩] scope pos) (zGJ isT own wi g tc tk tv):=by
 intro zB s σ H Q I h;obtain ⟨cl,hcl,c1,c2⟩:=C.sc.closure I;rw [arm_eval_DictComp];refine zXH (use:=none) rfl hs hcl C.sc.kind C.sc.names (thn (hi zB s σ H _ I h) fun v s1 h1 => thn h1 fun itv s2 h2 => ?_);obtain ⟨it,fp,tn,J,H2,e,I2,T,st2,f2,hD⟩:=h2;subst e;obtain ⟨W,⟨m0,w0⟩,turn⟩:=hD s2.heap.objs.size (I2.hok.fresh (zVT _));refine zD5 hu C hcalm I2 T st2 f2 c1 c2 (p.g _ _ _ _ _) (p.c _ _ _ _ _) (p.e _ _ _ _ _) (p2 _ _ _ _ _) (RR:=fun acc C r s' => compPost (model X.prog X.w) X.A X.xe none (EP X zB σ Q) acc C r s') (QQ:=fun H => Q (.ref s2.heap.objs.size) H) w0 turn ?_;intro σc H' s' Ic qq;obtain ⟨m,hn,_⟩:=Ic.loc;refine ⟨m,hn,fun h' hs' => ?_⟩;exact ⟨.ref s2.heap.objs.size,_,zE6 I2 f2 Ic hs',rfl,qq⟩
end
end L2
namespace L3
open PySem PySem.Spec PyProof.Rows L2
def zKA (isT : Bool) : MO:=if isT then .dicT [] else .dict []
noncomputable def zCl (g : FG) (tc : FT) (tk tv : FE) (σ : Sd) (n : Nat) (all : List D) (gd : Option (Mem -> Prop)) : List D -> Mem -> Option Mem
 | [],M => open Classical in if zA5 gd all M then some M else none
 | x :: r,M => open Classical in if zA5 gd all M then match g x σ with
   | some σ1 => match tc σ1 M with
    | some (true,M1) => match toD tk σ1 M1 with
     | some (k,M2) => match toD tv σ1 M2 with
      | some (v,M3) => match zHu M3 n k v with
       | some M4 => zCl g tc tk tv σ n all gd r M4
       | none => none
      | none => none
     | none => none
    | some (false,M1) => zCl g tc tk tv σ n all gd r M1
    | none => none
   | none => none
  else none
noncomputable def zDP (isT : Bool) (own : List Nat) (fi : FI) (g : FG) (tc : FT) (tk tv : FE) : FE:=fun σ M => match fi σ M with
 | some (xs,gd,M1) => match zCl g tc tk tv (zBH own σ) M1.length xs gd xs (M1 ++ [zKA isT]) with
  | some M2 => some (.dat (.ref M1.length),M2)
  | none => none
 | none => none
theorem zH2 {K : PySem.W.Frag} {isT : Bool} {own : List Nat} {fi : FI} {g : TG} {fg : FG} {tc : FT} {tk tv : FE} (hg : zFp own g fg) {τ : Sv} {H : Hp} {Q : VK} (h : trE K (zDP isT own fi fg tc tk tv) τ H Q) : zGJ isT own (trI K fi) g (trT K tc) (trD K (toD tk)) (trD K (toD tv)) τ H Q:=by
 obtain ⟨L,σ,M,d,Mf,c,rs,hf,q⟩:=h;unfold zDP at hf;split at hf
 ·rename_i xs gd M1 e1;split at hf
  ·rename_i M2 e2;cases hf;refine ⟨L,σ,M,_,_,_,c,rs,e1,fun L1 H1 J s1 c1 it p hp => ?_⟩;obtain ⟨c0,s0⟩ : Cor K (L1 ++ [p]) (M1 ++ [zKA isT]) (upd H1 p (zFM isT)) /\ Stp L1 H1 (L1 ++ [p]) (upd H1 p (zFM isT)):=by
    cases isT with
    | true => exact c1.pushO (m:=.dicT []) hp ⟨[],zAi,rfl⟩
    | false => exact c1.pushO (m:=.dict []) hp ⟨[],zAi,rfl⟩
   have lp0 : (L1 ++ [p])[M1.length]? = some p:=by rw [<- c1.len]; simp
   refine ⟨fun i m H' => m = xs.length - i /\ i <= xs.length /\ ∃ L' M',Stp (L1 ++ [p]) (upd H1 p (zFM isT)) L' H' /\ Cor K L' M' H' /\ zCl fg tc tk tv (zBH own σ) M1.length xs gd (xs.drop i) M' = some Mf,
    ⟨xs.length,by simp,zV9 _,_,_,.refl _ _,c0,by simpa using e2⟩,?_⟩
   rintro i m H' ⟨rfl,hi,L',M',s',c',e'⟩;have lp : L'[M1.length]? = some p:=by obtain ⟨N,hN⟩:=s'.pre; rw [hN]; exact zB9 lp0
   by_cases hlt : i < xs.length
   ·rw [zCc hlt] at e';unfold zCl at e';split at e'
    ·rename_i hgd;obtain ⟨step,_⟩:=it L' H' M' (s0.trans s') c' hgd;obtain ⟨go,yl⟩:=step i xs[i] (zVR hlt);split at e'
     ·rename_i σ1 eg;refine .inr ⟨go,fun v H2 hy => ?_⟩;obtain ⟨gr,rv⟩:=yl v H2 hy;have s2 : Stp (L1 ++ [p]) (upd H1 p (zFM isT)) L' H2:=s'.yld gr;refine hg (zEm own (((rs.stp s1).stp s0).stp s2)) (.refl _) rv eg fun τ2 r2 x2 => ⟨x2,?_⟩;split at e'
      ·rename_i M3 e3;split at e'
       ·rename_i kd M4 e4;split at e'
        ·rename_i vd M5 e5;split at e'
         ·rename_i M6 e6;refine ⟨L',σ1,M',_,_,c'.grow gr,r2,e3,fun L3 H3 s3 c3 => zGu ?_⟩;refine ⟨L3,σ1,M3,_,_,c3,r2.stp s3,e4,fun L4 H4 w s4 c4 r4 => ?_⟩;refine ⟨L4,σ1,M4,_,_,c4,(r2.stp s3).stp s4,e5,fun L5 H5 u s5 c5 r5 => ?_⟩;have st : Stp L' H' L5 H5:=(((Stp.grow gr).trans s3).trans s4).trans s5;have lp5 : L5[M1.length]? = some p:=by obtain ⟨N,hN⟩:=st.pre; rw [hN]; exact zB9 lp
          obtain ⟨H6,h1,h2,h3⟩:=zLL c5 lp5 (r4.stp s5) r5 e6;exact ⟨H6,xs.length - (i + 1),h1,by omega,rfl,hlt,L5,M6,(s'.trans st).trans h3,h2,e'⟩
         ·cases e'
        ·cases e'
       ·cases e'
      ·rename_i M3 e3;refine ⟨L',σ1,M',_,_,c'.grow gr,r2,e3,fun L3 H3 s3 c3 => zGq ?_⟩;have st : Stp L' H' L3 H3:=(Stp.grow gr).trans s3;exact ⟨xs.length - (i + 1),by omega,rfl,hlt,L3,M3,s'.trans st,c3,e'⟩
      ·cases e'
     ·cases e'
    ·cases e'
   ·have hi' : i = xs.length:=by omega
    subst hi';rw [List.drop_length] at e';unfold zCl at e';split at e'
    ·rename_i hgd;cases e';obtain ⟨_,stop⟩:=it L' H' _ (s0.trans s') c' hgd;refine .inl ⟨stop,?_⟩;refine q L' _ _ ((s1.trans s0).trans s') c' ?_;unfold zk Rep;exact ⟨p,rfl,lp⟩
    ·cases e'
  ·cases hf
 ·cases hf
section
variable {X : Cx} {scope : Scope} {tg kx vx iter : Expr} {ifs : List Expr} {pos : Pos} {own : List Nat} {isT : Bool}
theorem zRf {fi : FI} {g : TG} {fg : FG} {tc : FT} {tk tv : FE} (hu : X.A.units + 1 < cLine) (hg : zFp own g fg) (C : CompIn X scope own) (hcalm : X.calm = true) (hi : QI X tg iter fi) (p : QParts X scope tg ifs kx g tc tk) (p2 : ∀ zB cl s H fp,QE (zR X zB scope cl s H fp) vx tv) (hs : ∀ x,foldedSetIterable iter X.env x = pure x:=by intro _; rfl) :
  QE X (.DictComp kx vx [⟨tg,iter,ifs,0⟩] scope pos) (zDP isT own fi fg tc tk tv) :=
 .mk <| PE.imp (zLS (isT:=isT) hu C hcalm hi.un p.parts (fun _ _ _ _ _ => (zI (p2 _ _ _ _ _)).un) hs) fun _ _ _ h => zH2 hg h
end
def zDl : Nat -> D -> Bool
 | 0,.int _ => true
 | n + 1,.tup ds => ds.all (zDl n)
 | _,_ => false
def zEa : Nat -> D -> D -> Bool
 | 0,.int i,.int j => decide (i = j)
 | n + 1,.tup xs,.tup ys => xs.length == ys.length && (xs.zip ys).all fun q => zEa n q.1 q.2
 | _,_,_ => false
theorem zIt : ∀ (n : Nat) (x : D),zDl n x = true -> zEa n x x = true
 | 0,.int i,_ => by simp [zEa]
 | n + 1,.tup xs,h => by
  unfold zDl at h;unfold zEa;rw [zVy] at h;simp only [beq_self_eq_true,Bool.true_and];rw [zVy];intro q hq;have : q.1 = q.2:=by
   obtain ⟨i,hi,e⟩:=List.getElem_of_mem hq;rw [List.getElem_zip] at e;rw [<- e]
  rw [<- this];exact zIt n _ (h q.1 (List.of_mem_zip hq).1)
 | 0,.non,h => by cases h
 | 0,.bl _,h => by cases h
 | 0,.str _,h => by cases h
 | 0,.tup _,h => by cases h
 | 0,.ref _,h => by cases h
 | n + 1,.non,h => by cases h
 | n + 1,.bl _,h => by cases h
 | n + 1,.int _,h => by cases h
 | n + 1,.str _,h => by cases h
 | n + 1,.ref _,h => by cases h
theorem zQi : ∀ (n : Nat) (x y : D) (v : V),zDl n x = true -> zDl n y = true -> Rep L H x v -> Rep L H y v -> x = y:=by
 intro n;induction n with
 | zero =>
  intro x y v hx hy rx ry;cases x <;> first | cases hx | skip
  cases y <;> first | cases hy | skip
  unfold Rep at rx ry;rw [rx] at ry;cases ry; rfl
 | succ n ih =>
  intro x y v hx hy rx ry;cases x <;> first | cases hx | skip
  cases y <;> first | cases hy | skip
  rename_i xs ys;unfold zDl at hx hy;rw [zVy] at hx hy;unfold Rep at rx ry;obtain ⟨a,vs,rfl,e,r⟩:=rx;obtain ⟨a',vs',e1,e2,r'⟩:=ry;cases e1;rw [e] at e2; cases e2;congr 1;have hl : xs.length = ys.length:=by rw [<- r.length,r'.length]
  apply List.ext_getElem hl;intro i h1 h2;obtain ⟨u,hu,ru⟩:=r.get (zVR h1);obtain ⟨u',hu',ru'⟩:=r'.get (zVR h2);rw [hu] at hu'; cases hu';exact ih _ _ u (hx _ (zVv h1)) (hy _ (zVv h2)) ru ru'
section
variable {X : Cx} {zB : List (Addr × Obj)} {σ : L2.St} {H : Hp} {s : Shared} {L : List Addr}
theorem zRF {xs ys : List D} (f : D -> D -> Bool) (h : xs.length = ys.length) : ((List.range xs.length).all fun j => f (xs.getD j .non) (ys.getD j .non)) = (xs.zip ys).all fun q => f q.1 q.2:=by
  rw [Bool.eq_iff_iff,zVy,zVy];constructor
  · intro hh q hq
    obtain ⟨i,hi,e⟩:=List.getElem_of_mem hq;rw [List.getElem_zip] at e;rw [List.length_zip] at hi;have:=hh i (by simp; omega);rw [<- e];simpa [zVS,show i < xs.length by omega,show i < ys.length by omega] using this
  · intro hh i hi
    have h1 : i < xs.length:=by simpa using hi
    have h2 : i < ys.length:=by omega
    have hz : i < (xs.zip ys).length:=by rw [List.length_zip]; omega
    have:=hh (xs.zip ys)[i] (zVv hz);rw [List.getElem_zip] at this;simpa [zVS,h1,h2] using this
theorem zOV (I : Inv X zB σ H s) : ∀ (n : Nat) (A : Around) (x y : D) (v w : V) (u u' : Value), A.units + n < cLine -> zDl n x = true -> zDl n y = true -> Rep L H x v -> Rep L H y w -> zv v u -> zv w u' -> SeqAt.EqAt A s u u' (zEa n x y) := by
  intro n;induction n with
  | zero =>
    intro A x y v w u u' hu hx hy rx ry ru ru';cases x <;> first | cases hx | skip
    cases y <;> first | cases hy | skip
    unfold Rep at rx ry;subst rx; subst ry;obtain ⟨t,rfl⟩:=ru;obtain ⟨t',rfl⟩:=ru';have:=SeqAt.EqAt.int_int (A:=A) (s:=s) ‹Int› t ‹Int› t';unfold zEa;rename_i i j;have h:=SeqAt.EqAt.int_int (A:=A) (s:=s) i t j t';have e : (i == j) = decide (i = j):=by by_cases q : i = j <;> simp [q]
    rw [e] at h;exact h
  | succ n ih =>
    intro A x y v w u u' hu hx hy rx ry ru ru';cases x <;> first | cases hx | skip
    cases y <;> first | cases hy | skip
    rename_i xs ys;have hx':=hx;have hy':=hy;have rx':=rx;have ry':=ry;unfold zDl at hx hy;rw [zVy] at hx hy;unfold Rep at rx ry;obtain ⟨a,vs,rfl,e,r⟩:=rx;obtain ⟨b,ws,rfl,e2,r2⟩:=ry;cases ru;cases ru';by_cases hab : a = b
    · subst hab
      have:=zQi (n + 1) _ _ _ hx' hy' rx' ry';rw [this,zIt (n + 1) _ hy'];exact SeqAt.EqAt.same _
    · refine SeqAt.EqAt.of_refs hab ?_
      obtain ⟨its,rv,p1,_⟩:=I.tuple (.of e);obtain ⟨its2,rv2,p2,_⟩:=I.tuple (.of e2);have l1 : its.toArray.size = xs.length:=by rw [zVV,<- rv.length,r.length]
      have l2 : its2.toArray.size = ys.length:=by rw [zVV,<- rv2.length,r2.length]
      have key := SeqAt.RcAt.tuples (A := A) (s := s) (l := a) (b := b) (items := its.toArray) (items2 := its2.toArray) (e := fun j => zEa n (xs.getD j .non) (ys.getD j .non)) p1 p2 (by omega) (fun j h1 h2 => by
        have j1 : j < xs.length:=by omega
        have j2 : j < ys.length:=by omega
        obtain ⟨q1,g1,t1⟩:=r.get (zVR j1);obtain ⟨q2,g2,t2⟩:=r2.get (zVR j2);obtain ⟨o1,k1,m1⟩:=rv.get g1;obtain ⟨o2,k2,m2⟩:=rv2.get g2
        have z1 : its.toArray[j] = o1 := by have : its.toArray[j]? = some o1 := by simpa using k1
                                            rw [zV8 h1] at this; exact zWN this
        have z2 : its2.toArray[j] = o2 := by have : its2.toArray[j]? = some o2 := by simpa using k2
                                             rw [zV8 h2] at this; exact zWN this
        rw [z1,z2];have w1 : xs.getD j .non = xs[j]:=by simp [zVS,j1]
        have w2 : ys.getD j .non = ys[j]:=by simp [zVS,j2]
        show SeqAt.EqAt A.in1 s o1 o2 (zEa n (xs.getD j .non) (ys.getD j .non));rw [w1,w2];exact ih A.in1 _ _ _ _ _ _ (by show A.units + 1 + n < cLine; omega) (hx _ (zVv j1)) (hy _ (zVv j2)) t1 t2 m1 m2)
      have fin : ((List.range (min its.toArray.size its2.toArray.size)).all (fun j => zEa n (xs.getD j .non) (ys.getD j .non)) && its.toArray.size == its2.toArray.size) = zEa (n + 1) (.tup xs) (.tup ys):=by
        rw [l1,l2];show _ = (xs.length == ys.length && (xs.zip ys).all fun q => zEa n q.1 q.2);by_cases hl : xs.length = ys.length
        · rw [hl,Nat.min_self,<- hl,zRF (zEa n) hl,Bool.and_comm]
        · have : (xs.length == ys.length) = false:=by simpa using hl
          rw [this]; simp
      rw [fin] at key;exact key
end
section
variable {X : Cx} {a b e o : Expr} {pos apos cpos : Pos} {f g : FE}
theorem zUW (n : Nat) (hn : n <= 8) (hr : Room k A) : A.units + 1 + n < cLine:=by
 have:=hr.units;omega
end
open Builtin
end L3
namespace HT
open PySem PySem.Spec PyProof.Rows
end HT
namespace L3
open PySem PySem.Spec PyProof.Rows L2
section
variable {X : Cx} {e tg : Expr} {pos : Pos}
def zN4 (fg : FG) (f : FE) : FS:=fun σ M => match toD f σ M with
 | some (d,M1) => match fg d σ with
  | some σ1 => some (.nx,σ1,M1)
  | none => none
 | none => none
theorem zSG (hk : GOk g fg) (h : QE X e f) (hg : PG X tg g) (hs : swapsWithSole [tg] e pos.line X.env = pure false:=by rfl) (hw : swappedStores [tg] e X.env = pure none:=by rfl)
  (h1 : (assignEach [tg] X.env).map (·.2) = [assign tg X.env]:=by rfl) : QS X (.Assign [tg] e pos) (zN4 fg f) :=
 .mk <| PS.imp (zP8 h.un hg hs hw h1) fun E τ H zz => by
  obtain ⟨L,σ,M,o,σ',M',c,rs,hf,q⟩:=zz;unfold zN4 at hf;split at hf
  ·rename_i d M1 e1;split at hf
   ·rename_i σ1 e2;cases hf;refine zKm ⟨L,σ,M,_,_,c,rs,e1,fun L1 H1 v s1 c1 r1 => ?_⟩;exact hk (rs.stp s1) r1 e2 fun τ' rs' => q L1 H1 s1 c1 τ' rs'
   ·cases hf
  ·cases hf
variable {σ : Sd} {M : Mem} {P : Out -> Sd -> Mem -> Prop} {fg : FG} {f : FE}
theorem zM7 : OkS (zN4 fg f σ M) P ↔ Ok (f σ M) (zIK fun d M1 => ∃ σ1,fg d σ = some σ1 /\ P .nx σ1 M1):=by
 rw [<- zAy];unfold zN4;constructor
 ·rintro ⟨o,σ',M',e,p⟩;split at e
  ·rename_i d M1 e1;split at e
   ·rename_i σ1 e2;cases e;exact ⟨d,_,e1,_,e2,p⟩
   ·cases e
  ·cases e
 ·rintro ⟨d,M1,e1,σ1,e2,p⟩;refine ⟨.nx,σ1,M1,?_,p⟩;rw [e1]; dsimp only; rw [e2]
end
def SI (b : Bool) (h : Heap) (it t : Addr) (k : Nat) : Prop:=if b then h.IsTupleIter it t k else h.IsListIter it t k
def SO (b : Bool) (h : Heap) (t : Addr) (xs : Array Value) : Prop:=if b then h.IsTuple t xs else h.IsList t xs
abbrev itO (b : Bool) (t : Addr) : Obj:={ cls:=.type (if b then "tuple_iterator" else "list_iterator"),data:=.fields #[.ref t,.int 0 0] }
theorem SO.keep (x : SO b h t xs) (e : ∀ o,h.get? t = some o -> h'.get? t = some o) : SO b h' t xs:=by
 cases b with
 | true => obtain ⟨o,q,r⟩:=(show h.IsTuple t xs from x); exact (show h'.IsTuple t xs from ⟨o,e o q,r⟩)
 | false => obtain ⟨o,q,r⟩:=(show h.IsList t xs from x); exact (show h'.IsList t xs from ⟨o,e o q,r⟩)
section
variable {prog : Program} {w : World} {A : Around} {E : Value -> Shared -> Prop} {s : Shared}
theorem zQF (hl : SO b s.heap l items) (hQ : Q (.ref s.heap.objs.size) { s with heap:=s.heap.push (itO b l) }) : wpAny (model prog w) A (pyIter (.ref l)) Q E s:=by
 cases b with
 | true => exact zW3 (show s.heap.IsTuple l items from hl) hQ
 | false => exact wpAny_pyIter_list (show s.heap.IsList l items from hl) hQ
theorem zSa (e : h.get? it = some (itO b t)) : SI b h it t 0:=by
 cases b with
 | true => exact (show h.IsTupleIter it t 0 from ⟨_,e,rfl,rfl⟩)
 | false => exact (show h.IsListIter it t 0 from ⟨_,e,rfl,rfl⟩)
end
def SqG (K : PySem.W.Frag) (b : Bool) (H : Hp) (a : Addr) (xs : List V) : Prop:=if b then SqT K H a xs else SqL K H a xs
theorem zQX (I : Inv X zB σ H s) (h : SqG X.K b H a xs) : ∃ its,zo xs its /\ SO b s.heap a its.toArray:=by
 cases b with
 | true => obtain ⟨its,rv,p1,_⟩:=I.tuple h; exact ⟨its,rv,p1⟩
 | false => obtain ⟨its,rv,p1,_⟩:=I.list h; exact ⟨its,rv,p1.isList⟩
theorem zUf (x : SO b h a its) : a < h.objs.size:=by
 cases b with
 | true => obtain ⟨_,e,_⟩:=(show h.IsTuple a its from x); exact zVY e
 | false => obtain ⟨_,e,_⟩:=(show h.IsList a its from x); exact zVY e
section
variable {X : Cx} {a b : Expr} {es : List Expr} {ek : Nat} {ep p pos : Pos}
theorem zSs {K : PySem.W.Frag} {L1 : List Addr} {M1 : Mem} {H1 : Hp} {x : D} {v : V} {xs : List D} (c1 : Cor K L1 M1 H1) (r1 : Rep L1 H1 x v) (e : zAc M1 (.dat x) = some xs) :
  ∃ b l,v = .ref l /\ (∃ vs,SqG K b H1 l vs) /\ ∀ L2 H2 M2,Stp L1 H1 L2 H2 -> Cor K L2 M2 H2 -> zAc M2 (.dat x) = some xs -> ∃ vs',SqG K b H2 l vs' /\ zT L2 H2 xs vs':=by
 have r1' : zk H1 L1 H1 (.dat x) v:=r1;cases x with
 | tup ds =>
  cases e;obtain ⟨a,vs,rfl,e3,r3⟩:=zCE r1' (xs:=xs) rfl;exact ⟨true,a,rfl,⟨vs,(show SqT K H1 a vs from .of e3)⟩,fun L2 H2 M2 s2 c2 _ => ⟨vs,(show SqT K H2 a vs from .of (s2.tup a vs e3)),r3.stp s2⟩⟩
 | ref n =>
  have e2 : zBg M1 (.dat (.ref n)) = some xs:=e;obtain ⟨a,vs,rfl,e3,r3⟩:=zBD c1 r1' e2;refine ⟨false,a,rfl,⟨vs,(show SqL K H1 a vs from .inl e3)⟩,fun L2 H2 M2 s2 c2 hq => ?_⟩;unfold Rep at r1;obtain ⟨a',ha',e5⟩:=r1;cases ha';have e6 : L2[n]? = some a:=by obtain ⟨N,hN⟩:=s2.pre; rw [hN]; exact zB9 e5
  have r2 : zk H2 L2 H2 (.dat (.ref n)) (.ref a):=by unfold zk Rep; exact ⟨a,rfl,e6⟩
  obtain ⟨a2,vs',h2,e7,r7⟩:=zBD c2 r2 (show zBg M2 (.dat (.ref n)) = some xs from hq);cases h2;exact ⟨vs',(show SqL K H2 a vs' from .inl e7),r7⟩
 | _ => cases e
end
theorem zIO {ns : List Int} {its : List Value} (r : zo (ns.map V.int) its) {i : Nat} {v : Value} (h : its.toArray[i]? = some v) : ∃ t,v = .int (ns.getD i 0) t:=by
 have h' : its[i]? = some v:=by simpa using h
 have hi : i < its.length:=(zVQ.mp h').1;have hl:=r.length;rw [zVW] at hl;have hx : (ns.map V.int)[i]? = some (.int (ns.getD i 0)):=by
  rw [zVk,zVS,zVR (by omega)]; rfl
 obtain ⟨u,hu,ru⟩:=r.get hx;rw [h'] at hu;cases hu;obtain ⟨t,rfl⟩:=ru;exact ⟨t,rfl⟩
theorem zLs (hh : A.handled = none) (b : Bool) (I ax : Addr) (hne : ax ≠ I) (items : Array Value) :
  Walks prog w A I [I,ax] [I] items.size (fun i v => items[i]? = some v) (fun i h => SI b h I ax i /\ SO b h ax items):=by
 cases b with
 | true => exact Walks.tuple hh I ax hne items
 | false => exact Walks.list hh I ax hne items
section
variable {X : Cx} {e : Expr} {pos p : Pos}
theorem zN6 (gt : Bool) (hc : X.calm = true) : zCr X (.builtin (if gt then "max" else "min")) (fun xs H Q => ∃ (b : Bool) (a : Addr) (ns : List Int) (m : Int),xs = [.ref a] /\ SqG X.K b H a (ns.map V.int) /\ m ∈ ns /\ (∀ x ∈ ns,if gt then x <= m else m <= x) /\ Q (.int m) H):=by
 intro zB s σ H xs us Q I r h;obtain ⟨b,a,ns,m,rfl,hs,hm,hb,q⟩:=h;obtain ⟨u,rfl,ru⟩:=zEZ r;cases ru;obtain ⟨its,rv,p1⟩:=zQX I hs;have hl : its.toArray.size = ns.length:=by have:=rv.length; simp at this ⊢; omega
 have hpos : 0 < ns.length:=List.length_pos_of_mem hm;have hlt:=zUf p1;have hfp : ∀ c ∈ [s.heap.objs.size,a],c < (s.heap.push (itO b a)).objs.size:=fun c hc' => by
  rw [zV3];simp only [zVZ,zVs,zWi] at hc';rcases hc' with rfl | rfl
  ·exact zWK _
  ·exact zWC hlt
 have st : SI b (s.heap.push (itO b a)) s.heap.objs.size a 0 /\ SO b (s.heap.push (itO b a)) a its.toArray:=⟨zSa (zVX _ rfl),p1.keep fun o e => zVO _ e⟩;have kp : ∀ h' : Heap,(∀ c o,c ∉ [s.heap.objs.size] -> (s.heap.push (itO b a)).get? c = some o -> h'.get? c = some o) -> ∀ c o,s.heap.get? c = some o -> h'.get? c = some o:=fun h' hk c o e0 =>
  hk c o (by simp only [zVZ,zVs,zWi]; exact zVi (zVY e0)) (zVO _ e0)
 have fin : ∀ (i : Nat) (v : Value) (h' : Heap) (tk : Nat),its.toArray[i]? = some v -> ns.getD i 0 = m -> (∀ c o,s.heap.get? c = some o -> h'.get? c = some o) -> EP X zB σ Q v { s with heap:=h',toks:=tk }:=fun i v h' tk hv hi hk => by
  obtain ⟨t,rfl⟩:=zIO rv hv;rw [hi];exact ⟨.int m,H,I.kept hk,⟨t,rfl⟩,q⟩
 cases gt with
 | true =>
  refine call_max_walk (zQF p1 ⟨s.heap.objs.size,[s.heap.objs.size,a],[s.heap.objs.size],its.toArray.size,fun i v => its.toArray[i]? = some v,fun i h => SI b h s.heap.objs.size a i /\ SO b h a its.toArray,_,rfl,zLs (A:=X.A.in1) (I.ok.hd hc) b _ a (zVi hlt) its.toArray,st,hfp,by omega,CmpOf.ints_gt (fun i => ns.getD i 0) (fun _ _ hv => zIO rv hv),fun v h' tk hP hk => ?_⟩);refine fin _ v h' tk hP ?_ (kp h' hk);obtain ⟨h1,h2⟩:=argBest_gt (fun i => ns.getD i 0) (its.toArray.size - 1);rw [hl] at h1 h2 ⊢;generalize argBest _ (ns.length - 1) = q at h1 h2 ⊢;obtain ⟨j,hj,ej⟩:=List.mem_iff_getElem.mp hm;have h3:=h2 j (by omega);have e3 : ns.getD j 0 = m:=by rw [zVS,zVR hj]; exact ej
  have hq : q < ns.length:=by omega
  have h4 : ns.getD q 0 <= m:=by
   have:=hb (ns.getD q 0) (by rw [zVS,zVR hq]; exact zVv hq);simpa using this
  rw [e3] at h3;omega
 | false =>
  refine call_min_walk (zQF p1 ⟨s.heap.objs.size,[s.heap.objs.size,a],[s.heap.objs.size],its.toArray.size,fun i v => its.toArray[i]? = some v,fun i h => SI b h s.heap.objs.size a i /\ SO b h a its.toArray,_,rfl,zLs (A:=X.A.in1) (I.ok.hd hc) b _ a (zVi hlt) its.toArray,st,hfp,by omega,CmpOf.ints_lt (fun i => ns.getD i 0) (fun _ _ hv => zIO rv hv),fun v h' tk hP hk => ?_⟩);refine fin _ v h' tk hP ?_ (kp h' hk);obtain ⟨h1,h2⟩:=argBest_lt (fun i => ns.getD i 0) (its.toArray.size - 1);rw [hl] at h1 h2 ⊢;generalize argBest _ (ns.length - 1) = q at h1 h2 ⊢;obtain ⟨j,hj,ej⟩:=List.mem_iff_getElem.mp hm;have h3:=h2 j (by omega);have e3 : ns.getD j 0 = m:=by rw [zVS,zVR hj]; exact ej
  have hq : q < ns.length:=by omega
  have h4 : m <= ns.getD q 0:=by
   have:=hb (ns.getD q 0) (by rw [zVS,zVR hq]; exact zVv hq);simpa using this
  rw [e3] at h3;omega
def zDY (gt : Bool) : Int -> List Int -> Int
 | m,[] => m
 | m,x :: r => zDY gt (if (if gt then m < x else x < m) then x else m) r
theorem zD0 (gt : Bool) : ∀ (r : List Int) (m : Int),zDY gt m r ∈ m :: r /\ ∀ x ∈ m :: r,if gt then x <= zDY gt m r else zDY gt m r <= x
 | [],m => by
  refine ⟨by simp [zDY],fun x hx => ?_⟩;have : x = m:=by simpa using hx
  subst this; cases gt <;> simp [zDY]
 | y :: r,m => by
  unfold zDY;obtain ⟨h1,h2⟩:=zD0 gt r (if (if gt then m < y else y < m) then y else m);generalize hb : zDY gt (if (if gt then m < y else y < m) then y else m) r = B at h1 h2;constructor
  ·rcases zVZ.mp h1 with q | q
   ·rw [q];by_cases hc : (if gt = true then m < y else y < m)
    ·rw [zVc hc]; simp
    ·rw [zVf hc]; simp
   ·simp [q]
  ·intro x hx;have h0:=h2 _ zVb;rcases zVZ.mp hx with q | q
   ·subst q;cases gt with
    | true => simp at h0 ⊢; split at h0 <;> omega
    | false => simp at h0 ⊢; split at h0 <;> omega
   ·rcases zVZ.mp q with z | z
    ·subst z;cases gt with
     | true => simp at h0 ⊢; split at h0 <;> omega
     | false => simp at h0 ⊢; split at h0 <;> omega
    ·exact h2 x (zVa _ z)
def zHf (gt : Bool) : KB:=fun xs M => match xs with
 | [.dat d] => match zAc M (.dat d) with
  | some ds => match zAu ds with
   | some (n :: ns) => some (.dat (.int (zDY gt n ns)),M)
   | _ => none
  | none => none
 | [.fl ds] => match zAu ds with
  | some (n :: ns) => some (.dat (.int (zDY gt n ns)),M)
  | _ => none
 | _ => none
theorem zPq {K : PySem.W.Frag} {gt : Bool} : zHw K (fun xs H Q => ∃ (b : Bool) (a : Addr) (ns : List Int) (m : Int),xs = [.ref a] /\ SqG K b H a (ns.map V.int) /\ m ∈ ns /\ (∀ x ∈ ns,if gt then x <= m else m <= x) /\ Q (.int m) H) (zHf gt):=by
 intro L M M' H H0 xs d vs Q c r hk q;unfold zHf at hk;split at hk
 ·rename_i d0;split at hk
  ·rename_i ds e1;split at hk
   ·rename_i n ns e2;cases hk;obtain ⟨v,rfl,r1⟩:=r.one;have r1' : Rep L H d0 v:=r1;obtain ⟨b,l,rfl,_,key⟩:=zSs c r1' e1;obtain ⟨vs',hq,rr⟩:=key L H M (.refl L H) c e1;have ev:=zDy e2 rr;subst ev;obtain ⟨h1,h2⟩:=zD0 gt ns n;exact ⟨b,l,n :: ns,zDY gt n ns,rfl,hq,h1,h2,q L H _ (.refl L H) c (zAj (L:=L) (H:=H))⟩
   ·cases hk
  ·cases hk
 ·rename_i ds;split at hk
  ·rename_i n ns e2;cases hk;obtain ⟨v,rfl,r1⟩:=r.one;obtain ⟨l,vs',rfl,hq,rr⟩:=zBD c r1 (show zBg M (.fl ds) = some ds from rfl);have ev:=zDy e2 rr;subst ev;obtain ⟨h1,h2⟩:=zD0 gt ns n;exact ⟨false,l,n :: ns,zDY gt n ns,rfl,.inl hq,h1,h2,q L H _ (.refl L H) c (zAj (L:=L) (H:=H))⟩
  ·cases hk
 ·cases hk
theorem zTD (hcalm : X.calm = true) (hg : Gl X "min") (hm : X.mg "min" = none) (ha : QAE X [e] fa) (he : starEach [e] X.env = (false,eval e X.env) :: starEach [] X.env:=by rfl) (hpl : (backTo pos (starEach [] X.env)).any (·.1) = false:=by rfl) : QE X (.Call (.Name "min" p) [e] [] pos) (fB (zHf false) fa) :=
 zF0 zPq (zN6 false hcalm) (by rfl) hg hm ha (by decide) (by decide) he hpl
end
section
variable {X : Cx} {a e e2 o : Expr} {pos p apos cpos : Pos} {f : FE}
def zLh (f : FE) : FT:=fun σ M => match f σ M with
 | some (x,M1) => match zAc M1 x with
  | some xs => some (!xs.isEmpty,M1)
  | none => none
 | none => none
theorem zNH (h : QE X a f) (he : ∀ whole,isTrue a X.env whole = (do let v <- whole; standAt a.pos; holding [v] (truthy v)):=by intro _; rfl) : QT X a (zLh f) :=
 .mk <| PT.imp (zOh h.un he) fun τ H Q zz => by
  obtain ⟨L,σ,M,d,M',c,rs,hf,q⟩:=zz;unfold zLh at hf;split at hf
  ·rename_i x M1 e1;split at hf
   ·rename_i xs e2;cases hf;refine ⟨L,σ,M,_,_,c,rs,e1,fun L1 H1 v s1 c1 r1 => ⟨!xs.isEmpty,?_,q L1 H1 s1 c1⟩⟩;unfold zAc at e2;have emp : ∀ {vs : List V},zT L1 H1 xs vs -> (!xs.isEmpty) = !vs.isEmpty:=fun {vs} r => by
     have:=r.length;cases xs <;> cases vs <;> first | rfl | simp at this
    cases t : zDJ x with
    | some ws =>
     rw [t] at e2; cases e2;obtain ⟨l,vs,rfl,e3,r3⟩:=zCE r1 t;exact .inr (.inl ⟨vs,.of e3,emp r3⟩)
    | none =>
     rw [t] at e2;dsimp only at e2;obtain ⟨l,vs,rfl,e3,r3⟩:=zBD c1 r1 e2;exact .inl ⟨vs,.inl e3,emp r3⟩
   ·cases hf
  ·cases hf
def zR1 (i j k : Nat) : FG:=fun d σ => match d with
 | .tup [x,y,z] => some (((σ.set i (some x)).set j (some y)).set k (some z))
 | _ => none
abbrev gP3 (K : PySem.W.Frag) (i j k : Nat) : TG:=zTK K 3 (zJW (zCq i) (zJW (zCq j) (zJW (zCq k) zSu)))
theorem zUs (r : zT L H [x,y,z] vs) : ∃ v1 v2 v3,vs = [v1,v2,v3] /\ Rep L H x v1 /\ Rep L H y v2 /\ Rep L H z v3:=by
 unfold zT at r;obtain ⟨v1,r',rfl,h1,r⟩:=r;obtain ⟨v2,v3,rfl,h2,h3⟩:=r.two;exact ⟨v1,v2,v3,rfl,h1,h2,h3⟩
theorem zM6 {K : PySem.W.Frag} {i j k : Nat} : GOk (gP3 K i j k) (zR1 i j k):=by
 intro L H σ σ' τ d v Q rs r hf q;unfold zR1 at hf;split at hf
 ·rename_i x y z;cases hf;unfold Rep at r;obtain ⟨a,vs,rfl,e,r⟩:=r;obtain ⟨v1,v2,v3,rfl,r1,r2,r3⟩:=zUs r;exact ⟨a,_,rfl,.of e,rfl,v1,[v2,v3],rfl,v2,[v3],rfl,v3,[],rfl,rfl,q _ (((rs.set r1).set r2).set r3)⟩
 ·cases hf
end
section
variable {prog : Program} {w : World} {A : Around} {E : Value -> Shared -> Prop} {s : Shared}
theorem zOu {its : List Value} {i : Int} (e : s.heap.get? l = some { cls:=.type "list", data:=.seq its.toArray n }) (hfit : ¬ (!Builtin.List.listFitsIndex i) = true) (h0 : ¬ (i < 0)) (hz : its.toArray.size <= sizeLine)
  (h : ∀ g : Array Value -> Array Value,g its.toArray = (its.take (min i.toNat its.length) ++ [u2] ++ its.drop (min i.toNat its.length)).toArray -> Q .none { s with heap:=s.heap.update l (Obj.mapSeq g),toks:=s.toks }) :
  wpAny (model prog w) A (call (.builtin "list.insert") [.ref l,.int i t,u2]) Q E s:=by
 have hm:=@AutoSeq1.list_insert_list_int_val_1 l its.toArray n i t u2 hfit hz;have h1 : s.TypeIs (.ref l) "list" := ⟨_,e,rfl⟩;refine call_meets (B:=Builtin.«list.insert») (self:=.ref l) (rest:=[.int i t,u2]) F.slot_list_insert h1 F.entry_list_insert (F.args_list_insert_3 _ _ _) hm ⟨e,?_⟩;refine h _ ?_;simp only [h0,if_false,zVV];simp;exact List.take_of_length_le (by simp)
end
section
variable {X : Cx} {a o x1 x2 : Expr} {pos p apos cpos : Pos} {f : FE}
def zNI : V -> List V -> Hp -> VK -> Prop:=fun x vs H Q => ∃ (l : Addr) (i : Int) (y : V) (xs : List V),x = .ref l /\ vs = [.int i,y] /\ H l = some (.lst xs) /\ 0 <= i /\ i.toNat <= xs.length /\ xs.length < sizeLine /\ Q .non (upd H l (.lst (xs.take i.toNat ++ [y] ++ xs.drop i.toNat)))
theorem zOT : MtM X "list.insert" zNI:=by
 intro zB s σ H x vs v us Q I rx rv h;obtain ⟨l,i,y,xs,rfl,rfl,hH,h0,hi,hz,q⟩:=h;cases rx;obtain ⟨u,u2,rfl,⟨t,rfl⟩,ru2⟩:=rv.two;obtain ⟨z,its,n,r,hl,e⟩:=I.lstM hH;have hs : (sizeLine : Nat) < 2 ^ 62:=by decide
 have hi1 : -(2 ^ 63) <= i:=by omega
 have hi2 : i < 2 ^ 63:=by omega
 refine zOu (its:=its) e (by rw [fitsIndex_both hi1 hi2]; exact zVj) (by omega) (by rw [zVV,<- hl]; exact Nat.le_of_lt hz) fun g hg => ?_;rw [Nat.min_eq_left (by omega)] at hg;exact ⟨.non,_,I.lset (its':=its.take i.toNat ++ [u2] ++ its.drop i.toNat) (ys:=xs.take i.toNat ++ [y] ++ xs.drop i.toNat) hH e hg (((r.take i.toNat).append (.cons ru2 .nil)).append (r.drop i.toNat)) (by simp; omega),rfl,q⟩
def zEv : KM:=fun x ds M => match x,ds with
 | .dat (.ref n),[.int i,d] => match M[n]? with
  | some (.lst xs) => if 0 <= i /\ i.toNat <= xs.length /\ xs.length < sizeLine then some (.non,M.set n (.lst (xs.take i.toNat ++ [d] ++ xs.drop i.toNat))) else none
  | _ => none
 | _,_ => none
theorem zJB : ∀ (k : Nat) {ds : List D} {vs : List V},zT L H ds vs -> zT L H (ds.take k) (vs.take k)
 | 0,_,_,_ => .nil
 | k + 1,[],vs,h => by unfold zT at h; subst h; exact .nil
 | k + 1,d :: ds,vs,h => by
  unfold zT at h;obtain ⟨v,r,rfl,h1,h2⟩:=h;exact .cons h1 (zJB k h2)
theorem zJJ : ∀ (k : Nat) {ds : List D} {vs : List V},zT L H ds vs -> zT L H (ds.drop k) (vs.drop k)
 | 0,_,_,h => h
 | k + 1,[],vs,h => by unfold zT at h; subst h; exact .nil
 | k + 1,d :: ds,vs,h => by
  unfold zT at h;obtain ⟨v,r,rfl,h1,h2⟩:=h;exact zJJ k h2
theorem zMm {K : PySem.W.Frag} : zR5 K zNI zEv:=by
 intro L M M' H H0 x ds d v vs Q c rx rd hk q;unfold zEv at hk;split at hk
 ·rename_i n i d';split at hk
  ·rename_i xs e1;split at hk
   ·rename_i hz;cases hk;unfold zk Rep at rx;obtain ⟨a,rfl,e2⟩:=rx;obtain ⟨ws,e3,r3⟩:=c.obj n a _ e2 e1;obtain ⟨w1,w2,rfl,r4,r5⟩:=rd.two;have hw : w1 = .int i:=by unfold Rep at r4; exact r4
    subst hw;obtain ⟨c5,s5⟩:=c.write e2 e1 (((zJB i.toNat r3).app (.cons r5 .nil)).app (zJJ i.toNat r3));exact ⟨a,i,w2,ws,rfl,rfl,e3,hz.1,by rw [r3.length]; exact hz.2.1,by rw [r3.length]; exact hz.2.2,q L _ _ s5 c5 (by unfold Rep; rfl)⟩
   ·cases hk
  ·cases hk
 ·cases hk
theorem zPB (h : QE X a f) (hg : QA X [x1,x2] fg) (hbase : attributeBase a "insert" X.env (eval a X.env) = eval a X.env:=by rfl)
  (hfew : ((backTo cpos (starEach [x1,x2] X.env)).all (fun x => !x.1) && (backToKw cpos (keywordEach [] X.env)).all (fun x => x.1.isSome) && decide ([x1,x2].length + ([] : List Keyword).length + (if ([] : List Keyword).isEmpty then 0 else 1) < 30)) = true:=by rfl)
  (hline : (apos.endLine == cpos.line) = true:=by rfl) (hs : starEach [x1,x2] X.env = (false,eval x1 X.env) :: starEach [x2] X.env:=by rfl) (hplain : (backTo cpos (starEach [x2] X.env)).any (·.1) = false:=by rfl) :
  QE X (.Call (.Attribute a "insert" apos) [x1,x2] [] cpos) (fM zEv f fg) :=
 .mk <| PE.imp (zPZ PySem.F.plainAttrs_list PySem.F.slot_list_insert PySem.F.type_list_insert zOT h.un hg.un hbase hfew hline hs hplain) fun _ _ _ z => zLj zMm z
end
noncomputable def zKP (fg : FG) (tc : FT) (fi2 : FI) (own2 : List Nat) (fg2 : FG) (tc2 : FT) (te : FE) (σ : Sd) (all : List D) (gd : Option (Mem -> Prop)) : List D -> List D -> Mem -> Option (List D × Mem)
 | [],acc,M => open Classical in if zA5 gd all M then some (acc,M) else none
 | x :: r,acc,M => open Classical in if zA5 gd all M then match fg x σ with
   | some σ1 => match tc σ1 M with
    | some (true,M1) => match fi2 σ1 M1 with
     | some (ys,gd2,M2) => if acc.length + ys.length <= sizeLine then match zA7 fg2 tc2 te (zBH own2 σ1) ys gd2 ys M2 with
       | some (ds,M3) => zKP fg tc fi2 own2 fg2 tc2 te σ all gd r (acc ++ ds) M3
       | none => none
      else none
     | none => none
    | some (false,M1) => zKP fg tc fi2 own2 fg2 tc2 te σ all gd r acc M1
    | none => none
   | none => none
  else none
noncomputable def zGU (own own2 : List Nat) (fi : FI) (fg : FG) (tc : FT) (fi2 : FI) (fg2 : FG) (tc2 : FT) (te : FE) : FE:=fun σ M => match fi σ M with
 | some (xs,gd,M1) => match zKP fg tc fi2 own2 fg2 tc2 te (zBH own σ) xs gd xs [] M1 with
  | some (ys,M2) => some (.fl ys,M2)
  | none => none
 | none => none
theorem zL0 {K : PySem.W.Frag} {own own2 : List Nat} {fi fi2 : FI} {g g2 : TG} {fg fg2 : FG} {tc tc2 : FT} {te : FE} (hg : zFp own g fg) (hg2 : zFp own2 g2 fg2) {τ : Sv} {H : Hp} {Q : VK} (h : trE K (zGU own own2 fi fg tc fi2 fg2 tc2 te) τ H Q) :
  zPA own own2 (trI K fi) g (trT K tc) (trI K fi2) g2 (trT K tc2) (trD K (toD te)) τ H Q:=by
 obtain ⟨L,σ,M,d,Mf,c,rs,hf,q⟩:=h;unfold zGU at hf;split at hf
 ·rename_i xs gd M1 e1;split at hf
  ·rename_i zs M2 e2;cases hf;refine ⟨L,σ,M,_,_,_,c,rs,e1,fun L1 H1 J s1 c1 it => ?_⟩
   refine ⟨fun i m ys H' => m = xs.length - i /\ i <= xs.length /\ ∃ L' M' as,Stp L1 H1 L' H' /\ Cor K L' M' H' /\ zT L' H' as ys /\ as.length <= sizeLine /\ zKP fg tc fi2 own2 fg2 tc2 te (zBH own σ) xs gd (xs.drop i) as M' = some (zs,Mf),
    ⟨xs.length,by simp,zV9 _,L1,M1,[],.refl _ _,c1,.nil,zV9 _,by simpa using e2⟩,?_⟩
   rintro i m ys H' ⟨rfl,hi,L',M',as,s',c',r',hl,e'⟩;by_cases hlt : i < xs.length
   ·rw [zCc hlt] at e';unfold zKP at e';split at e'
    ·rename_i hgd;obtain ⟨step,_⟩:=it L' H' M' s' c' hgd;obtain ⟨go,yl⟩:=step i xs[i] (zVR hlt);split at e'
     ·rename_i σ1 eg;refine .inr ⟨go,fun v H2 hy => ?_⟩;obtain ⟨gr,rv⟩:=yl v H2 hy;have s2 : Stp L1 H1 L' H2:=s'.yld gr;refine hg (zEm own ((rs.stp s1).stp s2)) (.refl _) rv eg fun τ2 r2 x2 => ⟨x2,?_⟩;split at e'
      ·rename_i M3 e3;split at e'
       ·rename_i ys2 gd2 M4 e4;split at e'
        ·rename_i hz2;split at e'
         ·rename_i ds M5 e5;refine ⟨L',σ1,M',_,_,c'.grow gr,r2,e3,fun L3 H3 s3 c3 => zGu ?_⟩;have st3 : Stp L' H' L3 H3:=(Stp.grow gr).trans s3;refine ⟨L3,σ1,M3,_,_,_,c3,r2.stp s3,e4,fun L4 H4 J2 s4 c4 it2 => ?_⟩
          refine ⟨fun j m2 ws H5 => m2 = ys2.length - j /\ j <= ys2.length /\ ∃ L5 M6 bs cs,Stp L4 H4 L5 H5 /\ Cor K L5 M6 H5 /\ zT L5 H5 (as ++ bs) ws /\ bs.length <= j /\ zA7 fg2 tc2 te (zBH own2 σ1) ys2 gd2 (ys2.drop j) M6 = some (cs,M5) /\ bs ++ cs = ds,
           ⟨ys2.length,by simp,zV9 _,L4,M4,[],ds,.refl _ _,c4,by simpa using (r'.stp st3).stp s4,zVT _,by simpa using e5,rfl⟩,?_⟩
          rintro j m2 ws H5 ⟨rfl,hj,L5,M6,bs,cs,s5,c5,r5,hbl,e6,hbc⟩;have hws : ws.length <= as.length + j:=by rw [r5.length,zVd]; omega
          by_cases hlt2 : j < ys2.length
          ·rw [zCc hlt2] at e6;unfold zA7 at e6;split at e6
           ·rename_i hgd2;obtain ⟨step2,_⟩:=it2 L5 H5 M6 s5 c5 hgd2;obtain ⟨go2,yl2⟩:=step2 j ys2[j] (zVR hlt2);split at e6
            ·rename_i σ2 eg2;refine .inr ⟨go2,fun v2 H6 hy2 => ?_⟩;obtain ⟨gr2,rv2⟩:=yl2 v2 H6 hy2;have s6 : Stp L4 H4 L5 H6:=s5.yld gr2;refine hg2 (zEm own2 (((r2.stp s3).stp s4).stp s6)) (.refl _) rv2 eg2 fun τ3 r3 x3 => ⟨x3,?_⟩;split at e6
             ·rename_i M7 e7;split at e6
              ·rename_i d M8 e8;split at e6
               ·rename_i ds' M9 e9;cases e6;refine ⟨L5,σ2,M6,_,_,c5.grow gr2,r3,e7,fun L7 H7 s7 c7 => zGu ?_⟩;refine ⟨L7,σ2,M7,_,_,c7,r3.stp s7,e8,fun L8 H8 w s8 c8 r8 => ?_⟩;have st : Stp L5 H5 L8 H8:=((Stp.grow gr2).trans s7).trans s8;refine ⟨by omega,ys2.length - (j + 1),by omega,rfl,hlt2,L8,M8,bs ++ [d],ds',s5.trans st,c8,?_,by simp; omega,e9,by rw [<- hbc]; simp⟩;have:=(r5.stp st).app (.cons r8 .nil);simpa using this
               ·cases e6
              ·cases e6
             ·rename_i M7 e7;refine ⟨L5,σ2,M6,_,_,c5.grow gr2,r3,e7,fun L7 H7 s7 c7 => zGq ?_⟩;have st : Stp L5 H5 L7 H7:=(Stp.grow gr2).trans s7;exact ⟨ys2.length - (j + 1),by omega,rfl,hlt2,L7,M7,bs,cs,s5.trans st,c7,r5.stp st,by omega,e6,hbc⟩
             ·cases e6
            ·cases e6
           ·cases e6
          ·have hj' : j = ys2.length:=by omega
           subst hj';rw [List.drop_length] at e6;unfold zA7 at e6;split at e6
           ·rename_i hgd2;cases e6;obtain ⟨_,stop2⟩:=it2 L5 H5 _ s5 c5 hgd2;rw [zV7] at hbc;subst hbc;refine .inl ⟨stop2,xs.length - (i + 1),by omega,rfl,hlt,L5,M5,as ++ bs,s'.trans ((st3.trans s4).trans s5),c5,r5,by rw [zVd]; omega,e'⟩
           ·cases e6
         ·cases e'
        ·cases e'
       ·cases e'
      ·rename_i M3 e3;refine ⟨L',σ1,M',_,_,c'.grow gr,r2,e3,fun L3 H3 s3 c3 => zGq ?_⟩;have st : Stp L' H' L3 H3:=(Stp.grow gr).trans s3;exact ⟨xs.length - (i + 1),by omega,rfl,hlt,L3,M3,as,s'.trans st,c3,r'.stp st,hl,e'⟩
      ·cases e'
     ·cases e'
    ·cases e'
   ·have hi' : i = xs.length:=by omega
    subst hi';rw [List.drop_length] at e';unfold zKP at e';split at e'
    ·rename_i hgd;cases e';obtain ⟨_,stop⟩:=it L' H' _ s' c' hgd;refine .inl ⟨stop,by rw [r'.length]; exact hl,fun p hp => ?_⟩;exact q L' _ _ ((s1.trans s').trans (.upd hp)) (c'.upd hp) (zk.newLst (s1.trans s') c c' hp r')
    ·cases e'
  ·cases hf
 ·cases hf
section
variable {X : Cx} {scope : Scope} {elt t1 i1 t2 i2 : Expr} {f1 f2 : List Expr} {pos : Pos}
structure QParts2 (X : Cx) (scope : Scope) (t1 : Expr) (f1 : List Expr) (t2 i2 : Expr) (f2 : List Expr) (elt : Expr) (g : TG) (tc : FT) (fi2 : FI) (g2 : TG) (tc2 : FT) (te : FE) : Prop where
 g : ∀ zB cl s H fp,PG (zR X zB scope cl s H fp) t1 g
 c : ∀ zB cl s H fp,QIfs (zR X zB scope cl s H fp) f1 tc
 w2 : ∀ zB cl s H fp,QI (zR X zB scope cl s H fp) t2 i2 fi2
 g2 : ∀ zB cl s H fp,PG (zR X zB scope cl s H fp) t2 g2
 c2 : ∀ zB cl s H fp,QIfs (zR X zB scope cl s H fp) f2 tc2
 e : ∀ zB cl s H fp,QE (zR X zB scope cl s H fp) elt te
 s2 : ∀ zB cl s H fp x,foldedSetIterable i2 (zR X zB scope cl s H fp).env x = pure x
theorem zRC {own own2 : List Nat} {fi fi2 : FI} {g g2 : TG} {fg fg2 : FG} {tc tc2 : FT} {te : FE} (hsub : ∀ i ∈ own2,i ∈ own) (hg : zFp own g fg) (hg2 : zFp own2 g2 fg2) (C : CompIn X scope own) (hcalm : X.calm = true) (hi : QI X t1 i1 fi) (p : QParts2 X scope t1 f1 t2 i2 f2 elt g tc fi2 g2 tc2 te) (hs : ∀ x,foldedSetIterable i1 X.env x = pure x:=by intro _; rfl) :
  QE X (zBh elt t1 i1 f1 t2 i2 f2 scope pos) (zGU own own2 fi fg tc fi2 fg2 tc2 te) :=
 .mk <| PE.imp (zQS hsub C hcalm hi.un ⟨p.g,fun zB cl s H fp => (p.c zB cl s H fp).un,fun zB cl s H fp => (p.w2 zB cl s H fp).un,p.g2,fun zB cl s H fp => (p.c2 zB cl s H fp).un,fun zB cl s H fp => (zI (p.e zB cl s H fp)).un,p.s2⟩ hs) fun _ _ _ h => zL0 hg hg2 h
end
end L3
namespace L2
open PySem PySem.Spec PyProof.Rows
section
variable {X : Cx} {scope : Scope} {tg kx vx iter : Expr} {ifs : List Expr} {pos : Pos} {own : List Nat} {isT : Bool} {wi : TI} {g : TG} {tc : TT} {tk tv : TE}
theorem zHt (hN : X.N.Nodup) (hi' : X.N[i]? = some x) (hx : Loc X.env.scope x) (hfn : X.fn x = true \/ X.env.scope.names.lookup x = some .local)
  (hsw : swapsWith (.DictComp kx vx [⟨tg,iter,ifs,0⟩] scope pos) (some (.Name x pos')) pos''.line X.env = pure true)
  (hu : X.A.units + 1 < cLine) (C : CompIn X scope own) (hcalm : X.calm = true) (hi : PI X tg iter wi) (p : CompParts X scope tg ifs kx g tc tk) (p2 : ∀ zB cl s H fp,PE (zR X zB scope cl s H fp) vx tv) (hs : ∀ x,foldedSetIterable iter X.env x = pure x:=by intro _; rfl) :
  PS X (.Assign [.Name x pos'] (.DictComp kx vx [⟨tg,iter,ifs,0⟩] scope pos) pos'') (zOs (zGJ isT own wi g tc tk tv) (zCq i)):=by
 intro zB s σ H D I h;obtain ⟨cl,hcl,c1,c2⟩:=C.sc.closure I;rw [exec_Assign_Name_used _ _ _ _ hsw];refine zVN (zWL (zVN ?_));show wpAny _ X.A (do let _ <- comprehension (.DictComp kx vx [⟨tg,iter,ifs,0⟩] scope pos) scope X.env _ newDict false (eval iter X.env) (some (assign (.Name x pos') X.env))) _ _ s
 refine zVN (zVt (zXH (use:=some (assign (.Name x pos') X.env)) (Q:=fun _ s' => SP X zB D .next s') rfl hs hcl C.sc.kind C.sc.names
  (thn (hi zB s σ H _ I h) fun v s1 h1 => thn h1 fun itv s2 h2 => ?_)) (fun _ s' hq => zVP (zVP hq)) fun _ _ e => e)
 obtain ⟨it,fp,tn,J,H2,e,I2,T,st2,f2,hD⟩:=h2;subst e;obtain ⟨W,⟨m0,w0⟩,turn⟩:=hD s2.heap.objs.size (I2.hok.fresh (zVT _))
 refine zD5 hu C hcalm I2 T st2 f2 c1 c2 (p.g _ _ _ _ _) (p.c _ _ _ _ _) (p.e _ _ _ _ _) (p2 _ _ _ _ _) (RR:=fun acc C r s' => compPost (model X.prog X.w) X.A X.xe (some (assign (.Name x pos') X.env)) (fun _ s' => SP X zB D .next s') acc C r s')
  (QQ:=fun H => zCq i (.ref s2.heap.objs.size) σ H D.nx) w0 turn ?_
 intro σc H' s' Ic qq;obtain ⟨m,hn,_⟩:=Ic.loc;have J':=zE6 (h':=s'.heap) I2 f2 Ic (.refl ..);obtain ⟨oC,es,ep,hoC,hdC,r1,r2⟩:=id hn;have nC : H' (s2.heap.objs.size + 1) = none:=Ic.free;have K' : Inv X (zB ++ [(s2.heap.objs.size + 1,oC)]) σ H' s':=J'.pins_of fun q hq => by
  rcases zVn.mp hq with z | z
  ·exact J'.pin q (zVh _ z)
  ·have e : q = (s2.heap.objs.size + 1,oC):=by simpa using z
   subst e;refine ⟨hoC,nC,zWs (zWC I2.lt),I2.nofs (zW5 _),fun v z => ?_⟩;have z' : oC.data = .cell v:=z;rw [hdC] at z'; cases z'
 show wpAny _ X.A (assign (.Name x pos') X.env (.ref s2.heap.objs.size)) _ _ _;refine thn (zJc hN hi' hx hfn _ s' σ _ (.ref s2.heap.objs.size) (.ref s2.heap.objs.size) _ K' rfl qq) fun _ s'' ⟨σ'',H'',I'',q''⟩ => ?_;obtain ⟨eC,_⟩:=I''.pin (s2.heap.objs.size + 1,oC) (by simp);refine ⟨m,⟨oC,es,ep,eC,hdC,r1,r2⟩,fun h' hs' => ⟨σ'',H'',?_,q''⟩⟩;have I3 : Inv X zB σ'' H'' s'':=I''.unpinned;obtain ⟨_,nC'',neC,_,_⟩:=I''.pin (s2.heap.objs.size + 1,oC) (by simp);refine I3.turned (t':=s''.toks) (it:=s2.heap.objs.size + 1) (fun b o hb e => hs'.extBut b o hb e) nC'' neC (.inr (zVo I2.sz (zW5 _))) (fun x c e z => ?_) (fun q hq z => ?_)
 ·obtain ⟨v,o,ho,hd⟩:=I3.cell x c e;rw [z,eC] at ho; cases ho;rw [hdC] at hd; cases hd
 ·obtain ⟨e,_⟩:=I2.pin q hq;exact zVi (zWC (zVY e)) z
end
end L2
namespace L3
open PySem PySem.Spec PyProof.Rows L2
section
variable {X : Cx} {scope : Scope} {tg kx vx iter : Expr} {ifs : List Expr} {pos : Pos} {own : List Nat} {isT : Bool}
theorem zMG (hN : X.N.Nodup) (hi' : X.N[i]? = some x) (hx : Loc X.env.scope x) (hfn : X.fn x = true \/ X.env.scope.names.lookup x = some .local)
  (hsw : swapsWith (.DictComp kx vx [⟨tg,iter,ifs,0⟩] scope pos) (some (.Name x pos')) pos''.line X.env = pure true)
  (hu : X.A.units + 1 < cLine) (hg : zFp own g fg) (C : CompIn X scope own) (hcalm : X.calm = true) (hi : QI X tg iter fi) (p : QParts X scope tg ifs kx g tc tk) (p2 : ∀ zB cl s H fp,QE (zR X zB scope cl s H fp) vx tv) (hs : ∀ x,foldedSetIterable iter X.env x = pure x:=by intro _; rfl) :
  QS X (.Assign [.Name x pos'] (.DictComp kx vx [⟨tg,iter,ifs,0⟩] scope pos) pos'') (zAG i (zDP isT own fi fg tc tk tv)) :=
 .mk <| PS.imp (zHt (isT:=isT) hN hi' hx hfn hsw hu C hcalm hi.un p.parts (fun _ _ _ _ _ => (zI (p2 _ _ _ _ _)).un) hs) fun _ _ _ z => zHU (fun _ _ _ z => zH2 hg z) z
end
end L3
namespace L2
open PySem PySem.Spec PyProof.Rows
end L2
namespace L3
open PySem PySem.Spec PyProof.Rows L2
open SeqAt
def zF5 (A : Around) (s : Shared) (x y : Value) (b : Bool) : Prop:=∀ (prog : Program) (w : World) (E Q : Value -> Shared -> Prop),Q (.bool b) s -> wpAny (model prog w) A (richCompare .Lt x y) Q E s
theorem zF5.ints (i : Int) (t : Tok) (j : Int) (u : Tok) : zF5 A s (.int i t) (.int j u) (decide (i < j)):=fun prog w E Q q =>
 richCompare_gives (op:=.Lt) (typeIs_int s i t) (typeIs_int s j u) F.slot_int_lt F.entry_int_lt (F.args_int_lt_2 _ _) (gives_int_lt i j t u) (fun x => nomatch x) q
def zEY (e l : Nat -> Bool) (sz : Bool) : Nat -> Nat -> Bool
 | 0,_ => sz
 | m + 1,k => if e k then zEY e l sz m (k + 1) else l k
theorem zMP (a b : Addr) (xs ys : Array Value) (n1 n2 : Nat) (d1 d2 : Option Addr) (s1 s2 : Array (Option Value)) (e l : Nat -> Bool) :
  Meets (Builtin.«tuple.__lt__» ⟨[.ref a,.ref b],[]⟩)
   (fun A R s => s.heap.get? a = some { cls:=.type "tuple", dict:=d1,data:=.seq xs n1,slots:=s1 } /\ s.heap.get? b = some { cls:=.type "tuple", dict:=d2,data:=.seq ys n2,slots:=s2 } /\
    (∀ j (h1 : j < xs.size) (h2 : j < ys.size),EqAt A.in1 s xs[j] ys[j] (e j)) /\ (∀ j (h1 : j < xs.size) (h2 : j < ys.size),e j = false -> zF5 A.in1 s xs[j] ys[j] (l j)) /\
    R (.ok (.ret (.bool (zEY e l (decide (xs.size < ys.size)) (min xs.size ys.size) 0)))) s) :=
 .of_wp fun prog w A R s h => by
  obtain ⟨hp,g,d,tk,os⟩:=s; obtain ⟨ha,hb,he,hl,q⟩:=h;have f2:=AutoSeq1.sub_tuple_tuple;have hZ : (xs.toList.zip ys.toList).length = min xs.size ys.size:=by simp
  wp_walk using wpAny_loadPart' ha,wpAny_loadPart' hb,wpAny_forIn_list _ (fun rest c s' => c.1 = none /\ s' = ⟨hp,g,d,tk,os⟩ /\ ∃ i,i <= min xs.size ys.size /\ rest = (xs.toList.zip ys.toList).drop i /\
   R (.ok (.ret (.bool (zEY e l (decide (xs.size < ys.size)) (min xs.size ys.size - i) i)))) ⟨hp,g,d,tk,os⟩) _
  case turn =>
   rintro ⟨y,x⟩ rest c s' ⟨hc,rfl,i,hi,hz,q⟩;have hlt : i < (xs.toList.zip ys.toList).length:=by
    rcases Nat.lt_or_ge i (xs.toList.zip ys.toList).length with z | z
    ·exact z
    ·rw [List.drop_of_length_le z] at hz; cases hz
   have hm : i < min xs.size ys.size:=hZ ▸ hlt;have i1 : i < xs.size:=by omega
   have i2 : i < ys.size:=by omega
   rw [List.drop_eq_getElem_cons hlt] at hz;injection hz with hyx hrest
   have hy : y = xs[i]:=by have:=zXA Prod.fst hyx; simpa using this
   have hx : x = ys[i]:=by have:=zXA Prod.snd hyx; simpa using this
   subst hy hx;rw [show min xs.size ys.size - i = (min xs.size ys.size - (i + 1)) + 1 by omega,zEY] at q;refine zVN (he i i1 i2 prog w _ _ ?_);cases hq : e i with
   | true =>
    rw [hq,zVc rfl] at q;wp_walk;exact ⟨rfl,rfl,i + 1,by omega,hrest,q⟩
   | false =>
    rw [hq,zVf (by decide)] at q;refine wpAny_ite_split (fun _ => ?_) (fun z => absurd rfl z);show wpAny _ _ (rule _ >>= fun _ => richCompare .Lt xs[i] ys[i] >>= _) _ _ _;refine zVN (zWk (zVN (hl i i1 i2 hq prog w _ _ ?_)));wp_walk;exact ⟨_,rfl,q⟩
  case fin =>
   rintro ⟨c1,c2⟩ s' ⟨hc,rfl,i,hi,hz,q⟩;simp only at hc;subst hc;have hge : min xs.size ys.size <= i:=by
    rcases Nat.lt_or_ge i (xs.toList.zip ys.toList).length with z | z
    ·rw [List.drop_eq_getElem_cons z] at hz; cases hz
    ·exact hZ ▸ z
   rw [show min xs.size ys.size - i = 0 by omega,zEY] at q;wp_walk;exact ⟨_,rfl,by simpa [Builtin.Tuple.tupleCompareSizes] using q⟩
  case h =>
   exact ⟨rfl,rfl,0,by omega,rfl,q⟩
theorem zF5.tuples (ha : s.heap.IsTuple a xs) (hb : s.heap.IsTuple b ys) (hu : A.units < cLine)
  (he : ∀ j (h1 : j < xs.size) (h2 : j < ys.size),EqAt A.in1 s xs[j] ys[j] (e j)) (hl : ∀ j (h1 : j < xs.size) (h2 : j < ys.size),e j = false -> zF5 A.in1 s xs[j] ys[j] (l j)) :
  zF5 A s (.ref a) (.ref b) (zEY e l (decide (xs.size < ys.size)) (min xs.size ys.size) 0):=fun prog w E Q q => by
 obtain ⟨⟨c1,d1,t1,s1⟩,o1,rfl,n1,rfl⟩:=id ha;obtain ⟨⟨c2,d2,t2,s2⟩,o2,rfl,n2,rfl⟩:=id hb;exact richCompare_meets_room (op:=.Lt) ⟨_,o1,rfl⟩ ⟨_,o2,rfl⟩ F.slot_tuple_lt F.entry_tuple_lt (F.args_tuple_lt_2 _ _) (zMP a b xs ys n1 n2 d1 d2 s1 s2 e l) ⟨o1,o2,he,hl,(fun x => nomatch x),q⟩ hu
section
variable {prog : Program} {w : World} {A : Around} {R : Result -> Shared -> Prop} {J : Addr} {fp wr : List Addr} {n : Nat} {P : Nat -> Value -> Prop} {St : Nat -> Heap -> Prop}
abbrev zI1 (s0 : Shared) (h : Heap) : Prop:=∀ b o,s0.heap.get? b = some o -> h.get? b = some o
def zSU (prog : Program) (w : World) (A : Around) (s0 : Shared) (P : Nat -> Value -> Prop) (bt : Nat -> Nat -> Bool) : Prop :=
 ∀ i j x y h t (Q E : Value -> Shared -> Prop),zI1 s0 h -> P i x -> P j y -> Q (.bool (bt i j)) { s0 with heap:=h,toks:=t } -> wpAny (model prog w) A (richCompare .Lt x y) Q E { s0 with heap:=h,toks:=t }
theorem zFx : (toString "min" ++ toString ".loop" : String) = "min.loop" := by decide
theorem zQV (W : Walks prog w A.in1 J fp wr n P St) (bt : Nat -> Nat -> Bool) (cmp : zSU prog w A.in1 s0 P bt) (S : Addr) (sf : S ∉ fp) (new : ∀ b o,s0.heap.get? b = some o -> b ∉ wr /\ b ≠ S) :
  ∀ (k j : Nat) (h : Heap) (t : Nat) (best : Value) (c : Nat),n - (j + 1) = k -> j + 1 <= n -> St (j + 1) h -> P (argBest bt j) best -> zI1 s0 h ->
  h.get? S = some { cls:=.type "list", dict:=none,data:=.seq #[best,best] c,slots:=#[] } ->
  (∀ v h' t',P (argBest bt (n - 1)) v -> zI1 s0 h' -> R (.ok (.ret v)) { s0 with heap:=h',toks:=t' }) ->
  codeAny (model prog w) A (.builtin "min.loop" ⟨[.ref J,.none,.ref S],[]⟩) R { s0 with heap:=h,toks:=t }:=by
 have sw : S ∉ wr:=fun z => sf (W.sub _ z);intro k;induction k with
 | zero =>
  intro j h t best c hk hj st pb ko hS q;have e : j + 1 = n:=by omega
  refine zWS F.entry_min_loop ?_;rw [zWI F.plain_min_loop _];show wpAny _ A.in1 (seqItems? (.ref S) >>= _) _ _ { s0 with heap:=h,toks:=t };refine zVN (zWD (s:={ s0 with heap:=h,toks:=t }) hS rfl ?_);show wpAny _ A.in1 (tryCatch (pyNext (.ref J)) _ >>= _) _ _ _;refine zVN (wpAny_tryCatch (W.done { s0 with heap:=h,toks:=t } _ _ (e ▸ st) fun h1 t1 k1 => ?_));have hS1:=k1 S _ sw hS;show wpAny _ A.in1 (updateSeq S (fun _ => #[]) >>= _) _ _ _;refine zVN ?_;refine wpAny_updateSeq hS1 rfl (zVN (wpAny_letGo (zVP ?_)));exact q best _ t1 (by rw [<- e]; exact pb) fun b o eo => (zV4 _ _ (Ne.symm (new b o eo).2)).trans (k1 b o (new b o eo).1 (ko b o eo))
 | succ k ih =>
  intro j h t best c hk hj st pb ko hS q;have lt : j + 1 < n:=by omega
  refine zWS F.entry_min_loop ?_;rw [zWI F.plain_min_loop _];show wpAny _ A.in1 (seqItems? (.ref S) >>= _) _ _ { s0 with heap:=h,toks:=t };refine zVN (zWD (s:={ s0 with heap:=h,toks:=t }) hS rfl ?_);show wpAny _ A.in1 (tryCatch (pyNext (.ref J)) _ >>= _) _ _ _;refine zVN (wpAny_tryCatch (W.item (j + 1) { s0 with heap:=h,toks:=t } _ _ lt st fun v h1 t1 pv st1 k1 => ?_));have hS1:=k1 S _ sw hS;have ko1 : zI1 s0 h1:=fun b o eo => k1 b o (new b o eo).1 (ko b o eo);show wpAny _ A.in1 (tryCatch (holding [v,v] (richCompare .Lt v best >>= _)) _ >>= _) _ _ { s0 with heap:=h1,toks:=t1 };refine zVN (wpAny_tryCatch (zWG (zVN (cmp (j + 1) (argBest bt j) v best h1 t1 _ _ ko1 pv pb ?_))));refine zVN (zWG (zWZ ?_));refine zVN (wpAny_letGo (zVP ?_));cases hb : bt (j + 1) (argBest bt j) with
  | true =>
   simp only [if_true];refine zVN ?_;refine wpAny_updateSeq (s:={ s0 with heap:=h1,toks:=t1 }) hS1 rfl (zVN (wpAny_letGo ?_));rw [zFx];refine zVP ⟨plainId_quiet F.plain_min_loop _,ih (j + 1) _ t1 v _ (by omega) lt (W.frame _ _ _ st1 fun b hbf o e => (zV4 _ _ (fun z : S = b => sf (by rw [z]; exact hbf))).trans e) (by simp only [argBest,hb,if_true]; exact pv) (fun b o eo => (zV4 _ _ (Ne.symm (new b o eo).2)).trans (ko1 b o eo)) (zWA _ hS1 rfl) q⟩
  | false =>
   simp only [zWO,if_false];refine zVN (wpAny_letGo ?_);rw [zFx];exact zVP ⟨plainId_quiet F.plain_min_loop _,ih (j + 1) h1 t1 best c (by omega) lt st1 (by simp only [argBest,hb,zWO,if_false]; exact pb) ko1 hS1 q⟩
end
section
variable {prog : Program} {w : World} {A : Around} {E : Value -> Shared -> Prop} {s : Shared}
theorem zLK
  (h : wpAny (model prog w) A.in1 (pyIter x) (fun it s2 => ∃ J fp wr n P St bt h2,it = .ref J /\ s2 = { s with heap:=h2 } /\ Walks prog w A.in1 J fp wr n P St /\ St 0 h2 /\ zI1 s h2 /\ (∀ b o,s.heap.get? b = some o -> b ∉ wr) /\ (∀ b ∈ fp,b < h2.objs.size) /\ 0 < n /\ zSU prog w A.in1 s P bt /\
   ∀ v h' tk,P (argBest bt (n - 1)) v -> zI1 s h' -> Q v { s with heap:=h',toks:=tk }) E s) :
  wpAny (model prog w) A (call (.builtin "min") [x]) Q E s:=by
 refine call_function_tree F.kind_min F.plain_min F.entry_min (F.args_min1 _) ?_;show wpAny _ A.in1 (Builtin.Builtins.bindParams "min" ["key", "default"] 0 ⟨[],[]⟩ >>= _) _ _ s;refine zVN (wpAny_of_eq (show Builtin.Builtins.bindParams "min" ["key", "default"] 0 ⟨[],[]⟩ = pure [none,none] from rfl) ?_);refine zVN (zVP ?_);refine zVN (zVt h (fun it s2 g => ?_) fun _ _ e => e);obtain ⟨J,fp,wr,n,P,St,bt,h2,rfl,rfl,W,st,ko,nw,hfp,n0,cmp,q⟩:=g;refine zVN (zVq ?_);have sf : h2.objs.size ∉ fp:=fun hm => zV5 _ (hfp _ hm);have sw : h2.objs.size ∉ wr:=fun z => sf (W.sub _ z);rw [zFx];generalize hH : h2.push { cls:=.type "list", data:=.seq ([] : List Value).toArray } = H;have kH : ∀ b u,h2.get? b = some u -> H.get? b = some u:=fun b u e => by rw [<- hH]; exact zVO _ e
 have hS : H.get? h2.objs.size = some { cls:=.type "list", data:=.seq ([] : List Value).toArray }:=by rw [<- hH]; exact zVX _ rfl
 refine zVP ⟨plainId_quiet F.plain_min_loop _,?_⟩;refine zWS F.entry_min_loop ?_;rw [zWI F.plain_min_loop _];show wpAny _ A.in1 (seqItems? (.ref h2.objs.size) >>= _) _ _ { s with heap:=H };refine zVN (zWD (s:={ s with heap:=H }) hS rfl ?_);show wpAny _ A.in1 (tryCatch (pyNext (.ref J)) _ >>= _) _ _ _;have st' : St 0 H:=W.frame _ _ _ st fun b _ o e => kH b o e;refine zVN (wpAny_tryCatch (W.item 0 { s with heap:=H } _ _ n0 st' fun v h1 t1 pv st1 k1 => ?_));have hS1:=k1 _ _ sw hS;show wpAny _ A.in1 (updateSeq h2.objs.size (fun _ => #[v,v]) >>= _) _ _ { s with heap:=h1,toks:=t1 };refine zVN ?_;refine wpAny_updateSeq (s:={ s with heap:=h1,toks:=t1 }) hS1 rfl ?_;rw [zFx];have nS : ∀ b o,s.heap.get? b = some o -> b ≠ h2.objs.size:=fun b o e => zVi (zVY (ko b o e));refine zVP ⟨plainId_quiet F.plain_min_loop _,zQV (s0:=s) W bt cmp h2.objs.size sf (fun b o e => ⟨nw b o e,nS b o e⟩) _ 0 _ t1 v _ rfl n0 (W.frame _ _ _ st1 fun b hbf o e => (zV4 _ _ (fun z : h2.objs.size = b => sf (by rw [z]; exact hbf))).trans e) pv (fun b o e => (zV4 _ _ (Ne.symm (nS b o e))).trans (k1 b o (nw b o e) (kH b o (ko b o e)))) (zWA _ hS1 rfl) q⟩
end
abbrev NP:=Int × Int × Int
def npD (t : NP) : D:=.tup [.int t.1,.tup [.int t.2.1,.int t.2.2]]
def zTj : D -> Option NP
 | .tup [.int k,.tup [.int a,.int b]] => some (k,a,b)
 | _ => none
theorem zQw (h : zTj d = some t) : d = npD t:=by
 unfold zTj at h;split at h
 ·cases h; rfl
 ·cases h
def zJG : List D -> Option (List NP)
 | [] => some []
 | d :: r => match zTj d,zJG r with
  | some t,some ts => some (t :: ts)
  | _,_ => none
theorem zKW : ∀ {ds : List D} {ts : List NP},zJG ds = some ts -> ds = ts.map npD
 | [],ts,h => by cases h; rfl
 | d :: r,ts,h => by
  unfold zJG at h;split at h
  ·rename_i t ts' e1 e2;cases h;rw [zVg,zQw e1,zKW e2]
  ·cases h
theorem zIm : ∀ ts : List NP,zJG (ts.map npD) = some ts
 | [] => rfl
 | t :: r => by rw [zVg,zJG,zIm r]; rfl
def ltP (x y : NP) : Bool:=decide (x.1 < y.1 \/ (x.1 = y.1 /\ (x.2.1 < y.2.1 \/ (x.2.1 = y.2.1 /\ x.2.2 < y.2.2))))
section
variable {X : Cx} {zB : List (Addr × Obj)} {σ : L2.St} {H : Hp} {s : Shared} {L : List Addr}
theorem zMr (r : zT L H [x,y] vs) : ∃ v1 v2,vs = [v1,v2] /\ Rep L H x v1 /\ Rep L H y v2:=r.two
theorem zJk (r : zo [v1,v2] its) : ∃ u1 u2,its = [u1,u2] /\ zv v1 u1 /\ zv v2 u2:=by
 have hl:=r.length;obtain ⟨u1,e1,r1⟩:=r.get (i:=0) rfl;obtain ⟨u2,e2,r2⟩:=r.get (i:=1) rfl;match its,hl,e1,e2 with
 | [a,b],_,e1,e2 => cases e1; cases e2; exact ⟨_,_,rfl,r1,r2⟩
 | [],hl,_,_ => cases hl
 | [_],hl,_,_ => cases hl
 | _ :: _ :: _ :: _,hl,_,_ => simp at hl
theorem zOR (I : Inv X zB σ H s) (hu : A.units + 1 < cLine) (rx : Rep L H (.tup [.int a,.int b]) v) (ry : Rep L H (.tup [.int c,.int d]) w) (ru : zv v u) (ru' : zv w u') : zF5 A s u u' (decide (a < c \/ (a = c /\ b < d))):=by
 unfold Rep at rx ry;obtain ⟨p,vs,rfl,e,r⟩:=rx;obtain ⟨q,ws,rfl,e2,r2⟩:=ry;cases ru;cases ru';obtain ⟨v1,v2,rfl,t1,t2⟩:=zMr r;obtain ⟨w1,w2,rfl,t3,t4⟩:=zMr r2;unfold Rep at t1 t2 t3 t4;subst t1; subst t2; subst t3; subst t4;obtain ⟨its,rv,p1,_⟩:=I.tuple (.of e);obtain ⟨its2,rv2,p2,_⟩:=I.tuple (.of e2);obtain ⟨u1,u2,rfl,⟨k1,rfl⟩,⟨k2,rfl⟩⟩:=zJk rv;obtain ⟨u3,u4,rfl,⟨k3,rfl⟩,⟨k4,rfl⟩⟩:=zJk rv2;have key:=zF5.tuples (A:=A) (s:=s) (e:=fun j => if j = 0 then a == c else b == d) (l:=fun j => if j = 0 then decide (a < c) else decide (b < d)) p1 p2 (by omega) (fun j h1 h2 => by
  match j,h1,h2 with
  | 0,_,_ => exact EqAt.int_int a k1 c k3
  | 1,_,_ => exact EqAt.int_int b k2 d k4
  | j + 2,h1,_ => simp at h1; omega) (fun j h1 h2 _ => by
  match j,h1,h2 with
  | 0,_,_ => exact zF5.ints a k1 c k3
  | 1,_,_ => exact zF5.ints b k2 d k4
  | j + 2,h1,_ => simp at h1; omega)
 have ev : zEY (fun j => if j = 0 then a == c else b == d) (fun j => if j = 0 then decide (a < c) else decide (b < d)) (decide (2 < 2)) (min 2 2) 0 = decide (a < c \/ (a = c /\ b < d)):=by
  show (if (a == c) = true then (if (b == d) = true then false else decide (b < d)) else decide (a < c)) = _;by_cases h1 : a = c
  ·subst h1;rw [zVc (by simp)];by_cases h2 : b = d
   ·subst h2; rw [zVc (by simp)]; simp
   ·rw [zVf (by simpa using h2)]; simp
  ·rw [zVf (by simpa using h1)];exact decide_eq_decide.mpr ⟨.inl,fun h => h.elim id fun z => absurd z.1 h1⟩
 rw [<- ev]; exact key
theorem zR7 (I : Inv X zB σ H s) (hu : A.units + 2 < cLine) (rx : Rep L H (npD x) v) (ry : Rep L H (npD y) w) (ru : zv v u) (ru' : zv w u') : zF5 A s u u' (ltP x y):=by
 obtain ⟨k,a,b⟩:=x;obtain ⟨k',c,d⟩:=y;unfold npD Rep at rx ry;obtain ⟨p,vs,rfl,e,r⟩:=rx;obtain ⟨q,ws,rfl,e2,r2⟩:=ry;cases ru;cases ru';obtain ⟨v1,v2,rfl,t1,t2⟩:=zMr r;obtain ⟨w1,w2,rfl,t3,t4⟩:=zMr r2;unfold Rep at t1 t3;subst t1; subst t3;obtain ⟨its,rv,p1,_⟩:=I.tuple (.of e);obtain ⟨its2,rv2,p2,_⟩:=I.tuple (.of e2);obtain ⟨u1,u2,rfl,⟨k1,rfl⟩,z2⟩:=zJk rv;obtain ⟨u3,u4,rfl,⟨k3,rfl⟩,z4⟩:=zJk rv2;have hu1 : A.in1.units + 1 < cLine:=by show A.units + 1 + 1 < cLine; omega
 have he:=zOV I 1 A.in1 (.tup [.int a,.int b]) (.tup [.int c,.int d]) v2 w2 u2 u4 hu1 rfl rfl t2 t4 z2 z4;have hl:=zOR I hu1 t2 t4 z2 z4;have key:=zF5.tuples (A:=A) (s:=s) (e:=fun j => if j = 0 then k == k' else zEa 1 (.tup [.int a,.int b]) (.tup [.int c,.int d])) (l:=fun j => if j = 0 then decide (k < k') else decide (a < c \/ (a = c /\ b < d))) p1 p2 (by omega) (fun j h1 h2 => by
  match j,h1,h2 with
  | 0,_,_ => exact EqAt.int_int k k1 k' k3
  | 1,_,_ => exact he
  | j + 2,h1,_ => simp at h1; omega) (fun j h1 h2 _ => by
  match j,h1,h2 with
  | 0,_,_ => exact zF5.ints k k1 k' k3
  | 1,_,_ => exact hl
  | j + 2,h1,_ => simp at h1; omega)
 have ev : zEY (fun j => if j = 0 then k == k' else zEa 1 (.tup [.int a,.int b]) (.tup [.int c,.int d])) (fun j => if j = 0 then decide (k < k') else decide (a < c \/ (a = c /\ b < d))) (decide (2 < 2)) (min 2 2) 0 = ltP (k,a,b) (k',c,d):=by
  show (if (k == k') = true then (if zEa 1 (.tup [.int a,.int b]) (.tup [.int c,.int d]) = true then false else decide (a < c \/ (a = c /\ b < d))) else decide (k < k')) = _;unfold ltP;have he2 : zEa 1 (.tup [.int a,.int b]) (.tup [.int c,.int d]) = decide (a = c /\ b = d):=by
   simp [zEa]
  rw [he2];by_cases h1 : k = k'
  ·subst h1;rw [zVc (by simp)];by_cases h2 : a = c /\ b = d
   ·obtain ⟨rfl,rfl⟩:=h2;simp
   ·rw [zVf (by simpa using h2)];exact decide_eq_decide.mpr (by dsimp only; constructor <;> intro h <;> omega)
  ·rw [zVf (by simpa using h1)];exact decide_eq_decide.mpr (by dsimp only; constructor <;> intro h <;> omega)
 rw [<- ev]; exact key
end
def zBk : NP -> List NP -> NP
 | m,[] => m
 | m,x :: r => zBk (if ltP x m then x else m) r
theorem zPp (ts : List NP) (d : NP) : ∀ k,k < ts.length -> ts.getD (argBest (fun i j => ltP (ts.getD i d) (ts.getD j d)) k) d = zBk (ts.getD 0 d) ((ts.drop 1).take k) /\ argBest (fun i j => ltP (ts.getD i d) (ts.getD j d)) k <= k:=by
 intro k;have snoc : ∀ (r : List NP) (m x : NP),zBk m (r ++ [x]) = if ltP x (zBk m r) then x else zBk m r:=by
  intro r;induction r with
  | nil => intro m x; rfl
  | cons y r ih => intro m x; show zBk (if ltP y m then y else m) (r ++ [x]) = _; rw [ih]; rfl
 induction k with
 | zero => intro _; exact ⟨by simp [argBest,zBk],zVT _⟩
 | succ k ih =>
  intro hk;obtain ⟨h1,h2⟩:=ih (by omega);have ht : (ts.drop 1).take (k + 1) = (ts.drop 1).take k ++ [ts.getD (k + 1) d]:=by
   have hlt : k < (ts.drop 1).length:=by rw [List.length_drop]; omega
   rw [List.take_succ_eq_append_getElem hlt,List.getElem_drop,zVS,zVR (by omega)];simp [Nat.add_comm]
  have ha : argBest (fun i j => ltP (ts.getD i d) (ts.getD j d)) (k + 1) = if ltP (ts.getD (k + 1) d) (ts.getD (argBest (fun i j => ltP (ts.getD i d) (ts.getD j d)) k) d) then k + 1 else argBest (fun i j => ltP (ts.getD i d) (ts.getD j d)) k:=rfl
  rw [ht,snoc,<- h1,ha];by_cases hb : ltP (ts.getD (k + 1) d) (ts.getD (argBest (fun i j => ltP (ts.getD i d) (ts.getD j d)) k) d) = true
  ·rw [zVc hb,zVc hb]; exact ⟨rfl,zVT _⟩
  ·rw [zVf hb,zVf hb]; exact ⟨rfl,by omega⟩
section
variable {X : Cx} {e : Expr} {pos p : Pos}
theorem zNr (hc : X.calm = true) (hu : X.A.units + 1 + 3 < cLine) : zCr X (.builtin "min") (fun xs H Q => ∃ (b : Bool) (a : Addr) (L : List Addr) (vs : List V) (ts : List NP),xs = [.ref a] /\ SqG X.K b H a vs /\ zT L H (ts.map npD) vs /\ 0 < ts.length /\ ∀ (i : Nat) v,vs[i]? = some v -> ts[i]? = some (zBk (ts.getD 0 (0,0,0)) (ts.drop 1)) -> Q v H):=by
 intro zB s σ H xs us Q I r h;obtain ⟨b,a,L,vs,ts,rfl,hs,hr,n0,q⟩:=h;obtain ⟨u,rfl,ru⟩:=zEZ r;cases ru;obtain ⟨its,rv,p1⟩:=zQX I hs;have hvl : vs.length = ts.length:=by have:=hr.length; simpa using this
 have hl : its.toArray.size = ts.length:=by have:=rv.length; simp at this ⊢; omega
 have hlt:=zUf p1;have hfp : ∀ c ∈ [s.heap.objs.size,a],c < (s.heap.push (itO b a)).objs.size:=fun c hc' => by
  rw [zV3];simp only [zVZ,zVs,zWi] at hc';rcases hc' with rfl | rfl
  ·exact zWK _
  ·exact zWC hlt
 have st : SI b (s.heap.push (itO b a)) s.heap.objs.size a 0 /\ SO b (s.heap.push (itO b a)) a its.toArray:=⟨zSa (zVX _ rfl),p1.keep fun o e => zVO _ e⟩;have item : ∀ (i : Nat) (x : Value),its.toArray[i]? = some x -> ∃ t v,ts[i]? = some t /\ vs[i]? = some v /\ Rep L H (npD t) v /\ zv v x:=fun i x hx => by
  have hx' : its[i]? = some x:=by simpa using hx
  have hi : i < ts.length:=by have:=(Array.getElem?_eq_some_iff.mp hx).1; omega
  obtain ⟨v,hv,rt⟩:=hr.get (i:=i) (by rw [zVk,zVR hi]; rfl);obtain ⟨y,hy,ry⟩:=rv.get hv;rw [hx'] at hy; cases hy;exact ⟨ts[i],v,zVR hi,hv,rt,ry⟩
 have hub : X.A.in1.units + 2 < cLine:=by show X.A.units + 1 + 2 < cLine; omega
 refine zLK (zQF p1 ⟨s.heap.objs.size,[s.heap.objs.size,a],[s.heap.objs.size],its.toArray.size,fun i v => its.toArray[i]? = some v,fun i h => SI b h s.heap.objs.size a i /\ SO b h a its.toArray,fun i j => ltP (ts.getD i (0,0,0)) (ts.getD j (0,0,0)),_,rfl,rfl,zLs (A:=X.A.in1) (I.ok.hd hc) b _ a (zVi hlt) its.toArray,st,fun c o e => zVO _ e,fun c o e z => absurd (zVY e) (by rw [zVp.mp z]; exact zV5 _),hfp,by omega,?_,fun v h' tk hP hk => ?_⟩)
 ·intro i j x y h t Q' E' ko hx hy q';obtain ⟨t1,v1,ht1,_,r1,w1⟩:=item i x hx;obtain ⟨t2,v2,ht2,_,r2,w2⟩:=item j y hy;have:=zR7 (I.kept (t':=t) ko) hub r1 r2 w1 w2 X.prog X.w E' Q';refine this ?_;dsimp only at q';rw [zVS,zVS,ht1,ht2] at q';exact q'
 ·obtain ⟨t,v',ht,hv,rt,rx⟩:=item _ v hP;obtain ⟨h1,h2⟩:=zPp ts (0,0,0) (its.toArray.size - 1) (by omega);refine ⟨v',H,I.kept hk,rx,q _ v' hv ?_⟩;rw [ht];rw [zVS,ht] at h1;rw [List.take_of_length_le (by rw [List.length_drop]; omega)] at h1;rw [<- h1]; rfl
def zGc : KB:=fun xs M => match xs with
 | [x] => match zAc M x with
  | some ds => match zJG ds with
   | some (t :: ts) => some (.dat (npD (zBk t ts)),M)
   | _ => none
  | none => none
 | _ => none
theorem zIk : ∀ (r : List NP) (m : NP),zBk m r ∈ m :: r
 | [],m => by simp [zBk]
 | x :: r,m => by
  unfold zBk;have:=zIk r (if ltP x m then x else m);rcases zVZ.mp this with h | h
  ·rw [h]; split <;> simp
  ·simp [h]
theorem zPd {K : PySem.W.Frag} {L : List Addr} {M : Mem} {H H0 : Hp} {x : EV} {v : V} {xs : List D} (c : Cor K L M H) (r : zk H0 L H x v) (h : zAc M x = some xs) : ∃ b a vs,v = .ref a /\ SqG K b H a vs /\ zT L H xs vs:=by
 unfold zAc at h;cases t : zDJ x with
 | some zs =>
  rw [t] at h; cases h;obtain ⟨a,ws,rfl,e2,r2⟩:=zCE r t;exact ⟨true,a,ws,rfl,.of e2,r2⟩
 | none =>
  rw [t] at h;obtain ⟨a,ws,rfl,e2,r2⟩:=zBD c r h;exact ⟨false,a,ws,rfl,.inl e2,r2⟩
theorem zP4 {K : PySem.W.Frag} : zHw K (fun xs H Q => ∃ (b : Bool) (a : Addr) (L : List Addr) (vs : List V) (ts : List NP),xs = [.ref a] /\ SqG K b H a vs /\ zT L H (ts.map npD) vs /\ 0 < ts.length /\ ∀ (i : Nat) v,vs[i]? = some v -> ts[i]? = some (zBk (ts.getD 0 (0,0,0)) (ts.drop 1)) -> Q v H) zGc:=by
 intro L M M' H H0 xs d vs Q c r hk q;unfold zGc at hk;split at hk
 ·rename_i x;split at hk
  ·rename_i ds e1;split at hk
   ·rename_i t ts e2;cases hk;obtain ⟨v,rfl,r1⟩:=r.one;obtain ⟨b,a,ws,rfl,hq,rr⟩:=zPd c r1 e1;have ed:=zKW e2;subst ed;refine ⟨b,a,L,ws,t :: ts,rfl,hq,rr,by simp,fun i v hv ht => ?_⟩;refine q L H _ (.refl L H) c ?_;obtain ⟨v',hv',rt⟩:=rr.get (show ((t :: ts).map npD)[i]? = some (npD (zBk t ts)) by rw [zVk,ht]; rfl);rw [hv] at hv'; cases hv';exact rt
   ·cases hk
  ·cases hk
 ·cases hk
theorem zSx (hcalm : X.calm = true) (hu : X.A.units + 1 + 3 < cLine) (hg : Gl X "min") (hm : X.mg "min" = none) (ha : QAE X [e] fa) (he : starEach [e] X.env = (false,eval e X.env) :: starEach [] X.env:=by rfl) (hpl : (backTo pos (starEach [] X.env)).any (·.1) = false:=by rfl) : QE X (.Call (.Name "min" p) [e] [] pos) (fB zGc fa) :=
 zF0 zP4 (zNr hcalm hu) (by rfl) hg hm ha (by decide) (by decide) he hpl
end
structure Df (K : PySem.W.Frag) (mg : Str -> Option Value) (x : Str) (st : Stmt) (ps : List Str) where
 f : Addr
 fd : FuncData
 F : Fun K x x st f fd
 b : zIQ K fd ps []
 m : mg x = some (.ref f)
structure Dg (K : PySem.W.Frag) (x : Str) (st : Stmt) where
 f : Addr
 {od an : Option Addr}
 {sl : Array (Option Value)}
 {oc kV dc pm cd ct : Value}
 a : PySem.W.nsIn K mainGlobals x = some (some (.ref f))
 l : K.lookup f = some ⟨oc,od,.func (PySem.W.fnOf x x (zEp st) (zC8 st) (zN st) .none kV dc pm an cd ct),sl⟩
 c : PySem.W.codeIn K cd x = true
 k : PySem.W.keepIn K (.ref f) = true
abbrev Dg.df {K : PySem.W.Frag} {x : Str} {st : Stmt} {ps : List Str} {h : Heap} {mg : Str -> Option Value} (g : Dg K x st) (X : K.In h) (G : h.Ns mainGlobals mg)
  (hb : ∀ (kV doc pm : Value) (an : Option Addr) (cdv ct : Value) (us : List Value),us.length = ps.length -> bindArgs (PySem.W.fnOf x x (zEp st) (zC8 st) (zN st) .none kV doc pm an cdv ct) ⟨us,[]⟩ = pure (ps.zip us)) : Df K mg x st ps :=
 ⟨g.f,_,zP7 g.l g.c g.k,(zP7 g.l g.c g.k).binds hb,PySem.W.mg_of X G g.a⟩
abbrev Od (P : Program) (w : World) (base : Heap) (k : Nat) {K : PySem.W.Frag} {mg : Str -> Option Value} {x : Str} {st : Stmt} {ps : List Str} (d : Df K mg x st ps) (m : FF) : Prop:=FnOk P w K mg base CX0 k d.f d.fd ps (spF K ps.length m)
abbrev Zn (K : PySem.W.Frag) (x : Str) : Prop:=PySem.W.nsIn K mainGlobals x = some none
abbrev Ki (K : PySem.W.Frag) (t T : String) (b : Bool) : Prop:=PySem.W.kitOne K (.type t) (.type T) = some b
theorem zJm {P : List Value -> Prop} (h : ∀ a,P [a]) : ∀ us : List Value,us.length = 1 -> P us
 | [a],_ => h a
theorem zGt {P : List Value -> Prop} (h : ∀ a b,P [a,b]) : ∀ us : List Value,us.length = 2 -> P us
 | [a,b],_ => h a b
theorem zME {P : List Value -> Prop} (h : ∀ a b c,P [a,b,c]) : ∀ us : List Value,us.length = 3 -> P us
 | [a,b,c],_ => h a b c
theorem zU5 {P : List Value -> Prop} (h : ∀ a b c d,P [a,b,c,d]) : ∀ us : List Value,us.length = 4 -> P us
 | [a,b,c,d],_ => h a b c d
section
variable {X : Cx} {e : Expr} {es : List Expr} {pos p : Pos} {x : Str} {k : Nat} {st : Stmt} {ps : List Str}
theorem zAI {d : Df X.K X.mg x st ps} (F : FnOk X.prog X.w X.K X.mg X.base CX0 k d.f d.fd ps (spF X.K (e :: es).length g)) (hr : Room k X.A) (hg : Gl X x)
  (ha : QA X (e :: es) fa) (hl : ∀ σ M ds M1,fa σ M = some (ds,M1) -> ds.length = (e :: es).length) (hdb : (x == ("__debug__" : Str)) = false) (he : starEach (e :: es) X.env = (false,eval e X.env) :: starEach es X.env) (hpl : (backTo pos (starEach es X.env)).any (·.1) = false) :
  QE X (.Call (.Name x p) (e :: es) [] pos) (zW g fa):=zTJ F hr hg d.m d.F.kp d.b ha hl hdb he hpl
theorem zAz (hN : X.N.Nodup) (hi : X.N[i]? = some x) (h : QE X e f) (hx : Loc X.env.scope x:=by first | exact Or.inl rfl | exact Or.inr rfl) (hs : swapsWith e (some (.Name x pos')) pos.line X.env = pure false:=by rfl)
  (hf : X.fn x = true \/ X.env.scope.names.lookup x = some .local:=by first | exact .inl rfl | exact .inr rfl | assumption) : QS X (.Assign [.Name x pos'] e pos) (zAG i f):=zUr hN hi hx h hs hf
theorem zAD (hN : X.N.Nodup) (hi : X.N[i]? = some x) (hx : Loc X.env.scope x:=by first | exact Or.inl rfl | exact Or.inr rfl) (hf : X.fn x = true \/ X.env.scope.names.lookup x = some .local:=by first | exact .inl rfl | exact .inr rfl | assumption) : PG X (.Name x pos) (zCq i):=zJc hN hi hx hf
end
end L3
namespace Law
open PySem PySem.Spec PyProof.Rows L2 L3
noncomputable def zEO : FS:=(zX (zAG 1 (fOp zAe (fB zBB (zc (zD 0) zx)) (fC (.int 3))))
  (zX (zDu (zAr (fSl (zD 0) zEh (zDV (fC (.int 63))))) (gN 2) (zAG 1 (fOp zF6 (fOp zAe (fOp zAe (fOp zNz (zD 1) (fC (.int 6364136223846793))) (fOp zF6 (zD 2) (fOp zQb (fC (.int 10)) (fC (.int 30))))) (fC (.int 1442695040888963))) (fC (.int 2305843009213693951)))))
  (zAJ (zBS (zH (toD (zAL [2] (zAr (fSl (zD 0) zEh (zDV (fC (.int 63))))) (gN 2) (tst (fOp kGe (fB zNg (zc (zD 2) zx)) (fOp zQb (fC (.int 10)) (fC (.int 18))))) (fB zNg (zc (zD 2) zx)))) (zH (toD (zD 1)) zS))))))
noncomputable def zBe : FF:=zBJ 3 zEO
noncomputable def zFF : FS:=(zX (zBF (zCK (tst (fOp kNe (fOp kIx (zD 0) (fC (.int 0))) (zBS zS))) (tst (fOp kEq (fOp kIx (fOp kIx (zD 0) (fC (.int 0))) (fC (.int 0))) (fC (.int 0))))) (zBz (fM zLB (fOp kIx (zD 0) (fC (.int 0))) (zH (toD (fC (.int 0))) zS))) 100)
  (zX (sIf (tst (fOp kNe (fOp kIx (zD 0) (fC (.int 0))) (zBS zS))) (zX (zAG 2 (fOp zF6 (fOp kIx (fOp kIx (zD 0) (fC (.int 0))) (fC (.int 0))) (zD 1)))
  (zX (zL7 (fOp zNt (fOp kIx (fOp kIx (zD 0) (fC (.int 0))) (fC (.int 0))) (zD 1)) (fOp kIx (zD 0) (fC (.int 0))) (fC (.int 0)))
  (zAJ (zD 2)))) zCU)
  (zX (zL7 (fOp zF6 (fOp zAe (fOp zNz (fOp kIx (zD 0) (fC (.int 1))) (fC (.int 6364136223846793))) (fC (.int 1442695040888963))) (fC (.int 2305843009213693951))) (zD 0) (fC (.int 1)))
  (zAJ (fOp zF6 (fOp zNt (fOp zF6 (fOp zNz (fOp kIx (zD 0) (fC (.int 1))) (fOp kIx (zD 0) (fC (.int 1)))) (fC (.int 2305843009213693921))) (fC (.int 65537))) (zD 1))))))
noncomputable def zf : FF:=zBJ 3 zFF
structure Gen (M : Mem) (n k : Nat) : Prop where
 ex : ∃ (c : List Int) (s : Int),M[n]? = some (.lst [.ref k,.int s]) /\ M[k]? = some (.lst (c.map D.int)) /\ (∀ x ∈ c,0 <= x) /\ c.length <= 63 /\ 0 <= s /\ s < 2305843009213693951
 ne : n ≠ k
 wf : ∀ (j : Nat) u,M[j]? = some u -> MO.und M.length u = true
structure Nx (M M' : Mem) (n k : Nat) : Prop where
 gen : Gen M' n k
 len : M'.length = M.length
 fr : ∀ j,j ≠ n -> j ≠ k -> M'[j]? = M[j]?
theorem Nx.refl (h : Gen M n k) : Nx M M n k:=⟨h,rfl,fun _ _ _ => rfl⟩
theorem Nx.trans {M M1 M2 : Mem} {n k : Nat} (a : Nx M M1 n k) (b : Nx M1 M2 n k) : Nx M M2 n k:=⟨b.gen,b.len.trans a.len,fun j h1 h2 => (b.fr j h1 h2).trans (a.fr j h1 h2)⟩
theorem zAY (n : Nat) : ∀ c : List Int,D.unds n (c.map D.int) = true
 | [] => rfl
 | x :: r => by
  show (D.und n (D.int x) && D.unds n (r.map D.int)) = true;rw [zAY n r]; rfl
theorem Gen.lt (h : Gen M n k) : n < M.length /\ k < M.length:=by
 obtain ⟨c,s,e1,e2,_⟩:=h.ex;exact ⟨(zVQ.mp e1).1,(zVQ.mp e2).1⟩
theorem Gen.put {M : Mem} (h : Gen M n k) {c : List Int} (hc : ∀ x ∈ c,0 <= x) (hl : c.length <= 63) (h0 : 0 <= s) (h1 : s < 2305843009213693951) :
  Nx M ((M.set k (.lst (c.map D.int))).set n (.lst [.ref k,.int s])) n k:=by
 obtain ⟨hn,hk⟩:=h.lt;refine ⟨⟨⟨c,s,?_,?_,hc,hl,h0,h1⟩,h.ne,fun j u e => ?_⟩,by simp,fun j h1 h2 => ?_⟩
 ·rw [zWH (by simpa using hn)]
 ·rw [zVr h.ne,zWH hk]
 ·rw [List.length_set,List.length_set];rw [zWw] at e;split at e
  ·split at e
   ·cases e;show D.unds _ _ = true;unfold D.unds D.unds D.unds D.und;simp [hk]
   ·cases e
  ·rw [zWw] at e;split at e
   ·rename_i z;subst z;cases e; exact zAY _ _
   ·exact h.wf j u e
 ·rw [zVr (Ne.symm h1),zVr (Ne.symm h2)]
theorem zHX {M : Mem} (h : M[k]? = some u) : M.set k u = M:=by
 apply List.ext_getElem?;intro i;rw [zWw];split
 ·rename_i e; subst e;rw [zVc (zVQ.mp h).1]; exact h.symm
 ·rfl
theorem zLP : ∀ {a b : List Int},a.map D.int = b.map D.int -> a = b
 | [],[],_ => rfl
 | [],_ :: _,h => by cases h
 | _ :: _,[],h => by cases h
 | x :: a,y :: b,h => by
  rw [zVg,zVg] at h;have h1:=(zWR h).1;have h2:=zLP (zWR h).2;cases h1; rw [h2]
theorem at0 {x : D} {xs : List D} : atI (x :: xs) 0 = some x:=zP3 (k:=0) rfl
theorem at1 {x y : D} {xs : List D} : atI (x :: y :: xs) 1 = some y:=zP3 (k:=1) rfl
theorem zQr (h : Gen M n k) (h0 : 0 < m) (h1 : m < 1073741824) :
  Ok (zf [.ref n,.int m] M) fun d M' => (∃ i,d = .int i /\ 0 <= i /\ i < m) /\ Nx M M' n k:=by
 unfold zf;rw [zAV];unfold zFF;show OkS (zX _ _ [some (.ref n),some (.int m),none] M) _;rw [zU];have st : ∀ {M : Mem} {c : List Int} {s : Int} {σ : Sd} {P : EV -> Mem -> Prop},σ[0]? = some (some (.ref n)) -> M[n]? = some (.lst [.ref k,.int s]) -> P (.dat (.ref k)) M -> Ok (fOp kIx (zD 0) (fC (.int 0)) σ M) P:=fun hσ hM p =>
  zAg.mpr (zAM.mpr ⟨_,hσ,zCz.mpr (zQh (zAZ hM) at0 p)⟩)
 have sd : ∀ {M : Mem} {s : Int} {σ : Sd} {P : EV -> Mem -> Prop},σ[0]? = some (some (.ref n)) -> M[n]? = some (.lst [.ref k,.int s]) -> P (.dat (.int s)) M -> Ok (fOp kIx (zD 0) (fC (.int 1)) σ M) P:=fun hσ hM p =>
  zAg.mpr (zAM.mpr ⟨_,hσ,zCz.mpr (zQh (zAZ hM) at1 p)⟩)
 have hd : ∀ {M : Mem} {c : List Int} {x s : Int} {σ : Sd} {P : EV -> Mem -> Prop},σ[0]? = some (some (.ref n)) -> M[n]? = some (.lst [.ref k,.int s]) -> M[k]? = some (.lst ((x :: c).map D.int)) -> P (.dat (.int x)) M -> Ok (fOp kIx (fOp kIx (zD 0) (fC (.int 0))) (fC (.int 0)) σ M) P:=fun {M c x s σ P} hσ hM hK p =>
  zAg.mpr (st (c:=c) hσ hM (zCz.mpr (zQh (zAZ hK) at0 p)))
 have ne : ∀ {M : Mem} {c : List Int} {s : Int} {σ : Sd} {P : Bool -> Mem -> Prop},σ[0]? = some (some (.ref n)) -> M[n]? = some (.lst [.ref k,.int s]) -> M[k]? = some (.lst (c.map D.int)) -> P (!c.isEmpty) M -> Ok (tst (fOp kNe (fOp kIx (zD 0) (fC (.int 0))) (zBS zS)) σ M) P:=fun {M c s σ P} hσ hM hK p => by
  refine zJg.mpr (zAg.mpr (st (c:=c) hσ hM (zJt.mpr (zCP.mpr ⟨zV9 _,?_⟩))));rw [zRV (zCX hK) (by intro d e; cases e; rfl)];rw [zEE];simpa using p
 have W : ∀ (fuel m' : Nat) (σ : Sd) (M' : Mem),m' < fuel -> ((σ = [some (.ref n),some (.int m),none] /\ Nx M M' n k) /\ ∃ (c : List Int) (s : Int),M'[n]? = some (.lst [.ref k,.int s]) /\ M'[k]? = some (.lst (c.map D.int)) /\ c.length = m') ->
   OkS (zBF (zCK (tst (fOp kNe (fOp kIx (zD 0) (fC (.int 0))) (zBS zS))) (tst (fOp kEq (fOp kIx (fOp kIx (zD 0) (fC (.int 0))) (fC (.int 0))) (fC (.int 0))))) (zBz (fM zLB (fOp kIx (zD 0) (fC (.int 0))) (zH (toD (fC (.int 0))) zS))) fuel σ M')
    (fun o σ1 M1 => o = .nx /\ σ1 = [some (.ref n),some (.int m),none] /\ Nx M M1 n k):=by
  intro fuel m' σ M' hlt hI;refine zCf (I:=fun m' σ M' => (σ = [some (.ref n),some (.int m),none] /\ Nx M M' n k) /\ ∃ (c : List Int) (s : Int),M'[n]? = some (.lst [.ref k,.int s]) /\ M'[k]? = some (.lst (c.map D.int)) /\ c.length = m') ?_ fuel m' σ M' hlt hI;rintro m' σ M' ⟨⟨rfl,nx⟩,c,s,e1,e2,hl⟩;refine zM8.mpr (ne rfl e1 e2 ?_);cases c with
  | nil => simp; exact nx
  | cons x c =>
   simp only [List.isEmpty_cons,Bool.not_false,if_true];refine zJg.mpr (zAg.mpr (hd rfl e1 e2 (zCz.mpr (zMk.mpr (zEE.mpr ?_)))));by_cases hx : x = 0
   ·rw [zVc (by simpa using hx)];refine zCm.mpr (zMM.mpr (st (c:=c) rfl e1 ⟨⟨_,zCX e2⟩,zAw.mpr (zAy.mpr (zCz.mpr (zV.mpr (zCP.mpr ?_))))⟩));rw [zVg] at e2;rw [zTl e2];refine ⟨c.length,by rw [<- hl]; simp,?_⟩;obtain ⟨c',s',z1,z2,z3,z4,z5,z6⟩:=nx.gen.ex;rw [e1] at z1; cases z1;rw [e2] at z2;have hcc : c' = x :: c:=by
     have : (x :: c).map D.int = c'.map D.int:=by have:=z2; simp only [Option.some.injEq,MO.lst.injEq] at this; simpa using this
     exact (zLP this).symm
    subst hcc;have P:=nx.gen.put (c:=c) (s:=s) (fun y hy => z3 y (zVa _ hy)) (by simp at z4; omega) z5 z6;have q : ((M'.set k (.lst (c.map D.int))).set n (.lst [.ref k,.int s])) = M'.set k (.lst (c.map D.int)):=zHX (by rw [zVr (Ne.symm nx.gen.ne)]; exact e1);rw [q] at P;have hk:=nx.gen.lt.2;refine ⟨⟨rfl,nx.trans P⟩,c,s,?_,?_,rfl⟩
    ·rw [zVr (Ne.symm nx.gen.ne)]; exact e1
    ·rw [zWH hk]
   ·rw [zVf (by simpa using hx)];first | exact ⟨rfl,rfl,nx⟩ | exact ⟨trivial,trivial,nx⟩ | simpa using nx
 obtain ⟨c,s,e1,e2,e3,e4,_⟩:=h.ex;refine OkS.mono (W 100 c.length _ M (by omega) ⟨⟨rfl,.refl h⟩,c,s,e1,e2,rfl⟩) ?_;rintro o σ M1 ⟨rfl,rfl,nx⟩;rw [zb,zU,zCM];obtain ⟨c,s,e1,e2,e3,e4,e5,e6⟩:=nx.gen.ex;refine ne rfl e1 e2 ?_;cases c with
 | nil =>
  simp only [List.isEmpty_nil,Bool.not_true,zWO,if_false];rw [zBM,zb,zU,zJ3];refine zAg.mpr (zAg.mpr (zAg.mpr (sd rfl e1 (zCz.mpr (zQa.mpr ⟨by simp [zON] <;> omega,zCz.mpr (zGY.mpr (zCz.mpr (zGb.mpr ⟨by decide,?_⟩)))⟩)))));rw [zV];refine zAM.mpr ⟨_,rfl,zCz.mpr ?_⟩;rw [zV];have hs0 : 0 <= (s * 6364136223846793 + 1442695040888963) % 2305843009213693951:=Int.emod_nonneg _ (by decide);have hs1 : (s * 6364136223846793 + 1442695040888963) % 2305843009213693951 < 2305843009213693951:=Int.emod_lt_of_pos _ (by decide);generalize (s * 6364136223846793 + 1442695040888963) % 2305843009213693951 = s' at hs0 hs1;have P:=nx.gen.put (c:=[]) (s:=s') (fun _ h => by cases h) (by simp) hs0 hs1;rw [zHX (show M1[k]? = some (.lst (([] : List Int).map D.int)) from e2)] at P;refine ⟨_,zHx (k:=1) e1 (by simp),?_⟩;rw [zb,zAs];have e1' : (M1.set n (.lst [.ref k,.int s']))[n]? = some (.lst [.ref k,.int s']):=zWH nx.gen.lt.1;refine zAg.mpr (zAg.mpr (zAg.mpr (zAg.mpr (sd rfl e1' (sd rfl e1' (zQa.mpr ⟨by simp [zON] <;> omega,zCz.mpr (zGb.mpr ⟨by decide,zCz.mpr (zPi.mpr ⟨by decide,zAM.mpr ⟨_,rfl,zGb.mpr ⟨h0,?_⟩⟩⟩)⟩)⟩))))));rw [zV];exact ⟨⟨_,rfl,Int.emod_nonneg _ (by omega),Int.emod_lt_of_pos _ h0⟩,nx.trans P⟩
 | cons x c =>
  simp only [List.isEmpty_cons,Bool.not_false,if_true];rw [zU,zm];refine zAg.mpr (hd rfl e1 e2 (zAM.mpr ⟨_,rfl,zGb.mpr ⟨h0,?_⟩⟩));rw [zV,zb,zU,zJ3];refine zAg.mpr (hd rfl e1 e2 (zAM.mpr ⟨_,rfl,zPi.mpr ⟨⟨h0,h1⟩,?_⟩⟩));rw [zV];refine st (c:=c) rfl e1 (zCz.mpr ?_);rw [zV];refine ⟨_,zHx (k:=0) e2 (by simp),?_⟩;rw [zb,zAs];refine zAM.mpr ⟨_,rfl,?_⟩;rw [zV,zD2];have hx:=e3 x zVb;have P:=nx.gen.put (c:=(x / m) :: c) (s:=s) (fun y hy => by
   rcases zVZ.mp hy with z | z
   ·subst z; exact Int.ediv_nonneg hx (by omega)
   ·exact e3 y (zVa _ z)) (by simpa using e4) e5 e6
  rw [zHX (k:=n) (by rw [zVr (Ne.symm nx.gen.ne)]; exact e1)] at P;exact ⟨⟨_,rfl,Int.emod_nonneg _ (by omega),Int.emod_lt_of_pos _ h0⟩,nx.trans P⟩
theorem zLN (ns : List Int) (lo hi : Option Int) : ∃ c : List Int,L3.zFI (ns.map D.int) lo hi = c.map D.int /\ c.length <= ns.length:=by
 refine ⟨(ns.drop (HT.sIx ns.length 0 lo)).take (HT.sIx ns.length ns.length hi - HT.sIx ns.length 0 lo),?_,?_⟩
 ·unfold L3.zFI;rw [zVW,List.map_take,List.map_drop]
 ·rw [zWl,List.length_drop]; omega
theorem zDO (h : x :: r = c.map D.int) : ∃ y c',c = y :: c' /\ x = .int y /\ r = c'.map D.int:=by
 cases c with
 | nil => cases h
 | cons y c' => rw [zVg] at h; exact ⟨y,c',rfl,(zWR h).1,(zWR h).2⟩
theorem zA6 : zA5 none xs M:=trivial
theorem z0 (h : n <= 100000) : n <= sizeLine:=zVo h (by decide)
theorem zPl {ns : List Int} (h : ns.length <= 63) : Ok (zBe [.ref 0] [.fro (ns.map D.int)]) fun d M' => d = .ref 2 /\ Gen M' 2 1 /\ M'[0]? = some (.fro (ns.map D.int)) /\ M'.length = 3:=by
 unfold zBe;rw [zAV];unfold zEO;show OkS (zX _ _ [some (.ref 0),none,none] _) _;have e0 : ([.fro (ns.map D.int)] : Mem)[0]? = some (.fro (ns.map D.int)):=rfl;obtain ⟨cut,ec,lc⟩:=zLN ns none (some 63);have sl : ∀ {σ : Sd} {P : EV -> Mem -> Prop},σ[0]? = some (some (.ref 0)) -> P (.fl (cut.map D.int)) [.fro (ns.map D.int)] -> Ok (fSl (zD 0) zEh (zDV (fC (.int 63))) σ [.fro (ns.map D.int)]) P:=fun hσ p => by
  refine zSL.mpr (zAM.mpr ⟨_,hσ,zKh.mpr (zKg.mpr (zCz.mpr (zKo.mpr ?_)))⟩);rw [zQD (zJz e0) rfl,ec]; exact p
 rw [zU,zm];refine zAg.mpr (zRU.mpr (zFz.mpr (zAM.mpr ⟨_,rfl,zG4.mpr ((zSK (zRt e0)).mpr (zCz.mpr (zGY.mpr ?_)))⟩)));rw [zV,zb,zU,zCR];obtain ⟨x,M1,ex,px⟩:=sl (σ:=[some (.ref 0),some (.int (((ns.map D.int).length : Int) + 3)),none]) (P:=fun x M => x = .fl (cut.map D.int) /\ M = [.fro (ns.map D.int)]) rfl ⟨rfl,rfl⟩;obtain ⟨rfl,rfl⟩:=px;refine ⟨_,_,_,zFl ex zEF,?_⟩;refine zBt (I:=fun r σ M => M = [.fro (ns.map D.int)] /\ (∃ c : List Int,r = c.map D.int) /\ ∃ s y,σ = [some (.ref 0),some (.int s),y] /\ 0 <= s /\ s < 2305843009213693951) ?_ ?_ _ _ _ ⟨rfl,⟨cut,rfl⟩,_,none,rfl,by simp; omega,by simp; omega⟩
 ·rintro x r σ M ⟨rfl,⟨c,hc⟩,s,y,rfl,h0,h1⟩;obtain ⟨z,c',rfl,rfl,rfl⟩:=zDO hc;refine ⟨zA6,_,rfl,?_⟩;rw [zm];refine zAg.mpr (zAg.mpr (zAg.mpr (zAg.mpr (zAM.mpr ⟨_,rfl,zCz.mpr (zQa.mpr ⟨by simp [zON],?_⟩)⟩))));refine zAg.mpr (zAM.mpr ⟨_,rfl,zAg.mpr (zCz.mpr (zCz.mpr (zSW.mpr ⟨by decide,zGb.mpr ⟨by decide,zGY.mpr (zCz.mpr (zGY.mpr (zCz.mpr (zGb.mpr ⟨by decide,?_⟩))))⟩⟩)))⟩);rw [zV];exact ⟨rfl,⟨c',rfl⟩,_,_,rfl,Int.emod_nonneg _ (by decide),Int.emod_lt_of_pos _ (by decide)⟩
 ·rintro σ M ⟨rfl,_,s,y,rfl,h0,h1⟩;refine ⟨zA6,?_⟩;rw [zb,zAs,zJt,zAw,zAy,zEr];obtain ⟨x,M1,ex,px⟩:=sl (σ:=[some (.ref 0),some (.int s),y]) (P:=fun x M => x = .fl (cut.map D.int) /\ M = [.fro (ns.map D.int)]) rfl ⟨rfl,rfl⟩;obtain ⟨rfl,rfl⟩:=px;refine ⟨_,_,_,zFl ex zEF,by rw [zVW]; exact z0 (by omega),?_⟩;refine Ok.mono (zEW (I:=fun r acc M => M = [.fro (ns.map D.int)] /\ (∃ c : List Int,r = c.map D.int) /\ r.length + acc.length <= 63 /\ ∃ b : List Int,acc = b.map D.int /\ ∀ x ∈ b,0 <= x) (Q:=fun acc M => M = [.fro (ns.map D.int)] /\ acc.length <= 63 /\ ∃ b : List Int,acc = b.map D.int /\ ∀ x ∈ b,0 <= x) ?_ ?_ _ [] _ ⟨rfl,⟨cut,rfl⟩,by simp; omega,[],rfl,fun _ h => by cases h⟩) ?_
  ·rintro x r acc M ⟨rfl,⟨c,hc⟩,hl,b,rfl,hb⟩;obtain ⟨z,c',rfl,rfl,rfl⟩:=zDO hc;refine ⟨zA6,_,rfl,?_⟩;refine zJg.mpr (zAg.mpr (zRU.mpr (zFz.mpr (zAM.mpr ⟨_,rfl,zG4.mpr (zSX.mpr (zAg.mpr (zCz.mpr (zCz.mpr (zSW.mpr ⟨by decide,zVG.mpr (zEE.mpr ?_)⟩)))))⟩))));by_cases hz : (10 : Int) ^ (18 : Int).toNat <= (if z < 0 then -z else z)
   ·rw [zVc (by simpa using hz)];refine zRU.mpr (zFz.mpr (zAM.mpr ⟨_,rfl,zG4.mpr (zSX.mpr (zV.mpr ⟨rfl,⟨c',rfl⟩,?_,b ++ [if z < 0 then -z else z],by simp,?_⟩))⟩))
    ·simp at hl ⊢; omega
    ·intro y hy;rcases zVn.mp hy with q | q
     ·exact hb y q
     ·have : y = if z < 0 then -z else z:=by simpa using q
      rw [this]; split <;> omega
   ·rw [zVf (by simpa using hz)];exact ⟨rfl,⟨c',rfl⟩,by simp at hl ⊢; omega,b,rfl,hb⟩
  ·rintro acc M ⟨rfl,_,hl,hb⟩;exact ⟨zA6,rfl,by simpa using hl,hb⟩
  ·rintro ys M ⟨rfl,hl,b,hb,hp⟩;rw [List.nil_append] at hb hl;subst hb;rw [zFr,zAw,zAy,zAM];refine ⟨_,rfl,?_⟩;rw [zV,zCP];refine ⟨z0 (by simp),?_⟩;rw [zFr];refine ⟨rfl,⟨⟨b,s,rfl,rfl,hp,by simpa using hl,h0,h1⟩,by decide,?_⟩,rfl,rfl⟩;intro j u e;match j,e with
   | 0,e => cases e; exact zAY _ _
   | 1,e => cases e; exact zAY _ _
   | 2,e => cases e; rfl
   | j + 3,e => simp at e
mutual
theorem zEI (h : a <= b) : ∀ {d : D},D.und a d = true -> D.und b d = true
 | .non,_ => by unfold D.und; rfl
 | .bl _,_ => by unfold D.und; rfl
 | .int _,_ => by unfold D.und; rfl
 | .str _,_ => by unfold D.und; rfl
 | .tup ds,e => by unfold D.und at e ⊢; exact zCd h e
 | .ref k,e => by unfold D.und at e ⊢; simp at e ⊢; omega
theorem zCd (h : a <= b) : ∀ {ds : List D},D.unds a ds = true -> D.unds b ds = true
 | [],_ => by unfold D.unds; rfl
 | d :: ds,e => by
  unfold D.unds at e ⊢;rw [zVx] at e ⊢;exact ⟨zEI h e.1,zCd h e.2⟩
end
theorem zOc (h : a <= b) (e : MO.und a u = true) : MO.und b u = true:=by
 cases u with
 | lst xs => exact zCd h e
 | fro xs => exact zCd h e
 | set xs => exact zCd h e
 | dict kvs =>
  unfold MO.und at e ⊢;rw [zVy] at e ⊢;intro p hp;have:=e p hp;rw [zVx] at this ⊢;exact ⟨zEI h this.1,zEI h this.2⟩
 | dicT kvs =>
  unfold MO.und at e ⊢;rw [zVy] at e ⊢;intro p hp;have:=e p hp;rw [zVx] at this ⊢;exact ⟨zEI h this.1,zEI h this.2⟩
theorem zHv : ∀ {xs ys : List D},D.unds n (xs ++ ys) = (D.unds n xs && D.unds n ys)
 | [],ys => by simp [D.unds]
 | x :: xs,ys => by
  show (D.und n x && D.unds n (xs ++ ys)) = ((D.und n x && D.unds n xs) && D.unds n ys);rw [zHv,Bool.and_assoc]
theorem zFf : ∀ {xs : List D},(∀ x ∈ xs,D.und n x = true) -> D.unds n xs = true
 | [],_ => rfl
 | x :: xs,h => by
  show (D.und n x && D.unds n xs) = true;rw [h x zVb,zFf fun y hy => h y (zVa _ hy)]; rfl
theorem zAd (c : List Int) : D.und n (.tup (c.map D.int)) = true:=by unfold D.und; exact zAY n c
theorem Gen.app (h : Gen A n k) (hu : ∀ u ∈ us,MO.und (A.length + us.length) u = true) : Gen (A ++ us) n k:=by
 obtain ⟨c,s,e1,e2,r⟩:=h.ex;obtain ⟨hn,hk⟩:=h.lt;refine ⟨⟨c,s,by rw [zVU hn]; exact e1,by rw [zVU hk]; exact e2,r⟩,h.ne,fun j u e => ?_⟩;rw [zVd];by_cases hj : j < A.length
 ·rw [zVU hj] at e;exact zOc (by omega) (h.wf j u e)
 ·rw [zWX (by omega)] at e;exact hu u (List.mem_of_getElem? e)
theorem zAX (h : Gen M n k) (ha : fa σ M = some (.dat (.ref n),M)) (hb : fb σ M = some (.dat (.int m),M)) (h0 : 0 < m) (h1 : m < 1073741824)
  (q : ∀ i M',0 <= i -> i < m -> Nx M M' n k -> P (.dat (.int i)) M') : Ok (zW zf (zH (toD fa) (zH (toD fb) zS)) σ M) P:=by
 rw [zD1,zAw,zAy];refine ⟨_,_,ha,?_⟩;rw [zV,zAw,zAy];refine ⟨_,_,hb,?_⟩;rw [zV,zCP];refine Ok.mono (zQr h h0 h1) ?_;rintro d M' ⟨⟨i,rfl,i0,i1⟩,nx⟩;exact q i M' i0 i1 nx
def zC0 (i : Nat) : Nat -> List D
 | 0 => []
 | n + 1 => .int i :: zC0 (i + 1) n
theorem zJl (n : Nat) : ∀ i,((List.range' i n).map fun (k : Nat) => D.int k) = zC0 i n:=by
 induction n with
 | zero => intro i; rfl
 | succ n ih => intro i; rw [List.range'_succ,zVg,ih]; rfl
theorem zFj (n : Nat) : ((List.range n).map fun (k : Nat) => D.int k) = zC0 0 n:=by rw [List.range_eq_range',zJl]
theorem zCA : ∀ (n i : Nat),(zC0 i n).length = n
 | 0,_ => rfl
 | n + 1,i => by show (zC0 (i + 1) n).length + 1 = _; rw [zCA n]
theorem zLu (n : Nat) (I : Nat -> Sd -> Mem -> Prop)
  (hs : ∀ i σ M,i < n -> I i σ M -> ∃ σ1,g (.int i) σ = some σ1 /\ OkS (b σ1 M) fun o σ2 M2 => match o with | .nx => I (i + 1) σ2 M2 | .cnt => I (i + 1) σ2 M2 | .brk => P .nx σ2 M2 | .ret d => P (.ret d) σ2 M2)
  (he : ∀ σ M,I n σ M -> P .nx σ M) (σ : Sd) (M : Mem) (h0 : I 0 σ M) : OkS (zCv g b all none (zC0 0 n) σ M) P:=by
 refine zBt (I:=fun r σ M => ∃ i,i <= n /\ r = zC0 i (n - i) /\ I i σ M) ?_ ?_ _ _ _ ⟨0,zV9 _,by simp,h0⟩
 ·rintro x r σ M ⟨i,hi,e,hI⟩;have hlt : i < n:=by
   rcases Nat.lt_or_ge i n with z | z
   ·exact z
   ·rw [show n - i = 0 by omega] at e; cases e
  rw [show n - i = (n - (i + 1)) + 1 by omega] at e;obtain ⟨rfl,rfl⟩:=zWR e;obtain ⟨σ1,e1,q⟩:=hs i σ M hlt hI;refine ⟨zA6,σ1,e1,OkS.mono q ?_⟩;intro o σ2 M2 z;cases o with
  | nx => exact ⟨i + 1,hlt,rfl,z⟩
  | cnt => exact ⟨i + 1,hlt,rfl,z⟩
  | brk => exact z
  | ret d => exact z
 ·rintro σ M ⟨i,hi,e,hI⟩;have : i = n:=by
   rcases Nat.lt_or_ge i n with z | z
   ·rw [show n - i = (n - (i + 1)) + 1 by omega] at e; cases e
   ·omega
  subst this;exact ⟨zA6,he σ M hI⟩
theorem zLp (n : Nat) (I : Nat -> List D -> Mem -> Prop)
  (hs : ∀ i acc M,i < n -> I i acc M -> ∃ σ1,g (.int i) σ = some σ1 /\ Ok (te σ1 M) (zIK fun d M2 => I (i + 1) (acc ++ [d]) M2)) (h0 : I 0 [] M) :
  Ok (zA7 g zAC te σ all none (zC0 0 n) M) fun ys M1 => I n ys M1:=by
 refine Ok.mono (zEW (I:=fun r acc M => ∃ i,i <= n /\ r = zC0 i (n - i) /\ I i acc M) (Q:=fun acc M => I n acc M) ?_ ?_ _ [] _ ⟨0,zV9 _,by simp,h0⟩) fun ys M1 q => by simpa using q
 ·rintro x r acc M ⟨i,hi,e,hI⟩;have hlt : i < n:=by
   rcases Nat.lt_or_ge i n with z | z
   ·exact z
   ·rw [show n - i = 0 by omega] at e; cases e
  rw [show n - i = (n - (i + 1)) + 1 by omega] at e;obtain ⟨rfl,rfl⟩:=zWR e;obtain ⟨σ1,e1,q⟩:=hs i acc M hlt hI;refine ⟨zA6,σ1,e1,zLW.mpr ?_⟩;rw [zVc rfl];refine Ok.mono q ?_;intro x M2 z;cases x with
  | dat d => exact ⟨i + 1,hlt,rfl,z⟩
  | fl xs => exact ⟨i + 1,hlt,rfl,z⟩
 ·rintro acc M ⟨i,hi,e,hI⟩;have : i = n:=by
   rcases Nat.lt_or_ge i n with z | z
   ·rw [show n - i = (n - (i + 1)) + 1 by omega] at e; cases e
   ·omega
  subst this;exact ⟨zA6,hI⟩
theorem zCw (e : f σ M = some (.dat (.int j),M)) (h1 : 0 <= j) (h2 : j < 2 ^ 62) : zAW (zH (toD f) zS) σ M = some (zC0 0 j.toNat,none,M):=by
 have e' : (zH (toD f) zS) σ M = some ([.int j],M):=by unfold zH toD zS; rw [e]
 rw [zHo e' h1 h2,zFj]
def mD (zA : List (List Int)) : D:=.tup (zA.map fun r => .tup (r.map D.int))
structure IsM (zA : List (List Int)) (l : Nat) : Prop where
 r0 : 0 < zA.length
 l0 : 0 < l
 row : ∀ r ∈ zA,r.length = l /\ ∀ g ∈ r,0 <= g /\ g < zA.length
theorem zD4 (zA : List (List Int)) : D.und n (mD zA) = true:=by
 unfold mD D.und;refine zFf fun x hx => ?_;obtain ⟨r,_,rfl⟩:=zVe.mp hx;exact zAd r
theorem zd {α : Type} {x : Option (α × Mem)} {a : α} {M : Mem} (h : Ok x fun b M' => b = a /\ M' = M) : x = some (a,M):=by
 obtain ⟨b,M',e,rfl,rfl⟩:=h; exact e
theorem zK {α : Type} {x : Option (α × Mem)} {a : α} {M : Mem} {P : α -> Mem -> Prop} (h : x = some (a,M)) (p : P a M) : Ok x P:=⟨a,M,h,p⟩
theorem zFh {c : FT} {a g : FS} {σ : Sd} {M : Mem} {P : Out -> Sd -> Mem -> Prop} (hc : c σ M = some (false,M)) (h : OkS (g σ M) P) : OkS (zX (sIf c a zCU) g σ M) P:=by
 rw [zU,zCM];refine zK hc ?_;rw [zVf (by decide),zBM];exact h
theorem zIP {f : FE} {σ : Sd} {M M' : Mem} {k : Bool} (h : f σ M = some (.dat (.bl k),M')) : zFw (tst f) σ M = some (!k,M'):=by
 unfold zFw tst; rw [h]
theorem zr {f : FE} {σ : Sd} {M : Mem} {d : D} (h : f σ M = some (.dat d,M)) : zH (toD f) zS σ M = some ([d],M):=by
 unfold zH toD zS; rw [h]
theorem zw {f : FE} {g : FA} {σ : Sd} {M : Mem} {d : D} {ds : List D} (h : f σ M = some (.dat d,M)) (hg : g σ M = some (ds,M)) : zH (toD f) g σ M = some (d :: ds,M):=by
 unfold zH toD; rw [h]; dsimp only; rw [hg]
theorem zp {m : FF} {a : FA} {σ : Sd} {M M' : Mem} {ds : List D} {d : D} (h : a σ M = some (ds,M)) (hm : m ds M = some (d,M')) : zW m a σ M = some (.dat d,M'):=by
 unfold zW; rw [h]; dsimp only; rw [hm]
theorem zY {k : K2} {f g : FE} {σ : Sd} {M : Mem} {x y : EV} {r : Option (EV × Mem)} (hf : f σ M = some (x,M)) (hg : g σ M = some (y,M)) (hk : k x y M = r) : fOp k f g σ M = r:=by
 unfold fOp; rw [hf]; dsimp only; rw [hg]; exact hk
theorem zP9 {xs ys : List D} {M : Mem} (h : xs.length + ys.length <= sizeLine) : zAe (.dat (.tup xs)) (.dat (.tup ys)) M = some (.dat (.tup (xs ++ ys)),M):=zd (zUd.mpr ⟨h,rfl,rfl⟩)
theorem zE3 {x : EV} {xs : List D} {i : Int} {d : D} {M : Mem} (h : zAc M x = some xs) (hd : atI xs i = some d) : kIx x (.dat (.int i)) M = some (.dat d,M):=zd (zQh h hd ⟨rfl,rfl⟩)
theorem zHp {f : FE} {x : EV} {xs : List D} {σ : Sd} {M : Mem} (hf : f σ M = some (x,M)) (h : zAc M x = some xs) : fB zBB (zc f zx) σ M = some (.dat (.int xs.length),M):=by
 unfold fB zc zx; rw [hf]; exact zd ((zSK h).mpr ⟨rfl,rfl⟩)
def zCx (zA : List (List Int)) (h g : Int) : Int:=(zA.getD h.toNat []).getD g.toNat 0
def zCJ (zA : List (List Int)) (room : Int) (word : List Int) : Int:=word.foldl (zCx zA) room
theorem zO6 {zA : List (List Int)} {h : Int} (h0 : 0 <= h) (h1 : h < zA.length) : atI (zA.map fun r => D.tup (r.map D.int)) h = some (.tup ((zA.getD h.toNat []).map D.int)):=by
 refine zPK h0 ?_;rw [zVk,zVS,zVR (by omega)];rfl
theorem zMO {r : List Int} {g : Int} (h0 : 0 <= g) (h1 : g < r.length) : atI (r.map D.int) g = some (.int (r.getD g.toNat 0)):=by
 refine zPK h0 ?_;rw [zVk,zVS,zVR (by omega)];rfl
theorem IsM.get {zA : List (List Int)} {l : Nat} (m : IsM zA l) {h : Int} (h0 : 0 <= h) (h1 : h < zA.length) : (zA.getD h.toNat []).length = l /\ ∀ g ∈ zA.getD h.toNat [],0 <= g /\ g < zA.length:=by
 refine m.row _ ?_;rw [zVS,zVR (by omega)];exact zVv _
theorem IsM.step {zA : List (List Int)} {l : Nat} (m : IsM zA l) {h g : Int} (h0 : 0 <= h) (h1 : h < zA.length) (g0 : 0 <= g) (g1 : g < l) : 0 <= zCx zA h g /\ zCx zA h g < zA.length:=by
 obtain ⟨q1,q2⟩:=m.get h0 h1;refine q2 _ ?_;unfold zCx;rw [zVS (l:=zA.getD h.toNat []),zVR (by omega)];exact zVv _
theorem IsM.led {zA : List (List Int)} {l : Nat} (m : IsM zA l) : ∀ (word : List Int) {h : Int},0 <= h -> h < zA.length -> (∀ g ∈ word,0 <= g /\ g < l) -> 0 <= zCJ zA h word /\ zCJ zA h word < zA.length
 | [],h,h0,h1,_ => ⟨h0,h1⟩
 | g :: r,h,h0,h1,hw => by
  obtain ⟨g0,g1⟩:=hw g zVb;obtain ⟨s0,s1⟩:=m.step h0 h1 g0 g1;exact IsM.led m r s0 s1 fun x hx => hw x (zVa _ hx)
theorem IsM.ix {zA : List (List Int)} {l : Nat} (m : IsM zA l) {h g : Int} (h0 : 0 <= h) (h1 : h < zA.length) (g0 : 0 <= g) (g1 : g < l) {f1 f2 f3 : FE} {σ : Sd} {M : Mem} (e1 : f1 σ M = some (.dat (mD zA),M)) (e2 : f2 σ M = some (.dat (.int h),M)) (e3 : f3 σ M = some (.dat (.int g),M)) :
  fOp kIx (fOp kIx f1 f2) f3 σ M = some (.dat (.int (zCx zA h g)),M):=by
 obtain ⟨q1,_⟩:=m.get h0 h1;exact zY (zY e1 e2 (zE3 zA2 (zO6 h0 h1))) e3 (zE3 zA2 (zMO g0 (by omega)))
theorem zS4 {σ : Sd} {M : Mem} {ns : List Int} {j : Nat} {i : Int} (hσ : σ[i.toNat]? = σ[i.toNat]?) (hi : zD j σ M = some (.dat (.ref 0),M)) (h0 : M[0]? = some (.fro (ns.map D.int))) : ∃ c : List Int,fSl (zD j) zEh (zDV (fC (.int i))) σ M = some (.fl (c.map D.int),M) /\ c.length <= ns.length:=by
 obtain ⟨c,ec,lc⟩:=zLN ns none (some i);refine ⟨c,zd (zSL.mpr (zK hi (zKh.mpr (zKg.mpr (zCz.mpr (zKo.mpr ?_)))))),lc⟩;rw [zQD (zJz h0) rfl,ec]; exact ⟨rfl,rfl⟩
theorem zHI (hf : f σ M = some (x,M)) (ht : zMU M x = some t) : zJq T f σ M = some (.dat (.bl (isT t T)),M):=by
 unfold zJq; rw [hf]; dsimp only; rw [ht]
theorem zAx (h : f σ M = some (.dat (.bl k),M')) : tst f σ M = some (k,M'):=by unfold tst; rw [h]
theorem isV (hf : f σ M = some (x,M)) (ht : zMU M x = some t) (h : isT t T = k) : zJq T f σ M = some (.dat (.bl k),M):=by
 rw [zHI hf ht,h]
theorem zA1 (hf : f σ M = some (.dat d,M)) (h : P (.ret d) σ M) : OkS (zAJ f σ M) P:=by
 rw [zAs]; exact zK hf h
theorem zJZ (hf : f σ M = some (.dat (.bl true),M)) (hg : g σ M = some (.dat (.bl true),M)) : zHb f g σ M = some (.dat (.bl true),M):=by
 unfold zHb; rw [hf]; exact hg
theorem zCL {α : Type} (as : List α) (enc out : α -> D) (hi : fi σ M = some (as.map enc,gd,M)) (hgd : zA5 gd (as.map enc) M) (hz : as.length <= 100000)
  (he : ∀ a ∈ as,∃ σ1,g (enc a) (zBH own σ) = some σ1 /\ te σ1 M = some (.dat (out a),M)) : zAL own fi g zAC te σ M = some (.fl (as.map out),M):=by
 refine zd (zEr.mpr ⟨_,_,_,hi,by rw [zVW]; exact z0 hz,?_⟩);refine Ok.mono (zEW (I:=fun r acc M' => M' = M /\ ∃ ra rb : List α,as = rb ++ ra /\ r = ra.map enc /\ acc = rb.map out) (Q:=fun acc M' => M' = M /\ acc = as.map out) ?_ ?_ _ [] _ ⟨rfl,as,[],rfl,rfl,rfl⟩) ?_
 ·rintro x r acc M' ⟨rfl,ra,rb,hab,hr,rfl⟩;cases ra with
  | nil => cases hr
  | cons a ra =>
   rw [zVg] at hr;obtain ⟨rfl,rfl⟩:=zWR hr;obtain ⟨σ1,e1,e2⟩:=he a (by rw [hab]; simp);refine ⟨hgd,σ1,e1,zLW.mpr ?_⟩;rw [zVc rfl];refine zK e2 ?_;rw [zV];exact ⟨rfl,ra,rb ++ [a],by rw [hab]; simp,rfl,by simp⟩
 ·rintro acc M' ⟨rfl,ra,rb,hab,hr,rfl⟩;cases ra with
  | nil => rw [zV7] at hab; subst hab; exact ⟨hgd,rfl,rfl⟩
  | cons a ra => cases hr
 ·rintro ys M' ⟨rfl,h⟩;rw [List.nil_append] at h;subst h;exact ⟨rfl,rfl⟩
theorem zCs (hf : f σ M = some (x,M)) (h : zAc M x = some xs) : fB zBZ (zc f zx) σ M = some (.dat (.tup xs),M):=by
 unfold fB zc zx; rw [hf]; exact zd ((zMw h).mpr ⟨rfl,rfl⟩)
theorem zFe (hf : f σ M = some (.dat (.tup xs),M)) : zAr f σ M = some (xs,none,M):=zFl hf zA2
theorem zLg (n : Nat) : zC0 0 n = (List.range n).map fun (k : Nat) => D.int k:=(zFj n).symm
theorem zJa (e : f σ M = some (.dat (.int j),M)) (h1 : 0 <= j) (h2 : j < 2 ^ 62) : zAW (zH (toD f) zS) σ M = some ((List.range j.toNat).map (fun (k : Nat) => D.int k),none,M):=by
 rw [zCw e h1 h2,zLg]
theorem zBx (hf : f σ M = some (.dat d,M)) (h : OkS (g (σ.set i (some d)) M) P) : OkS (zX (zAG i f) g σ M) P:=by
 rw [zU,zm]; exact zK hf h
theorem zPH (h : f σ M = some (.dat d,M')) : zH (toD f) zS σ M = some ([d],M'):=by
 unfold zH toD zS; rw [h]
open ST
def ris (xs : List Int) : List Int:=zEA (zAK xs)
theorem zBv (xs : List Int) (x : Int) : x ∈ ris xs ↔ x ∈ xs:=by
 unfold ris; rw [(zB6 _).mem_iff,zLk]
theorem zF2 (xs : List Int) : (ris xs).Pairwise (· < ·):=by
 have h1:=zHL (zAK xs);have h2 : (ris xs).Nodup:=(zB6 _).nodup_iff.mpr (zKU xs);unfold ris at h2 ⊢;exact (h1.and h2).imp fun {a b} h => by have:=h.1; have:=h.2; omega
theorem zGA : ∀ {xs ys : List Int},xs.Pairwise (· < ·) -> ys.Pairwise (· < ·) -> (∀ x,x ∈ xs ↔ x ∈ ys) -> xs = ys
 | [],[],_,_,_ => rfl
 | [],y :: ys,_,_,h => by have:=(h y).mpr zVb; cases this
 | x :: xs,[],_,_,h => by have:=(h x).mp zVb; cases this
 | x :: xs,y :: ys,h1,h2,h => by
  have hx:=zXX.mp h1;have hy:=zXX.mp h2;have e : x = y:=by
   have a:=(h x).mp zVb;have b:=(h y).mpr zVb;rcases zVZ.mp a with z | z
   ·exact z
   ·rcases zVZ.mp b with q | q
    ·exact q.symm
    ·have:=hx.1 y q; have:=hy.1 x z; omega
  subst e;rw [zGA hx.2 hy.2 fun z => ?_];constructor
  ·intro hz;rcases zVZ.mp ((h z).mp (zVa _ hz)) with q | q
   ·subst q; have:=hx.1 _ hz; omega
   ·exact q
  ·intro hz;rcases zVZ.mp ((h z).mpr (zVa _ hz)) with q | q
   ·subst q; have:=hy.1 _ hz; omega
   ·exact q
theorem zKR (h : ∀ x,x ∈ xs ↔ x ∈ ys) : ris xs = ris ys:=zGA (zF2 xs) (zF2 ys) fun x => by rw [zBv,zBv]; exact h x
theorem zQm (h : xs.Pairwise (· < ·)) : ris xs = xs:=zGA (zF2 xs) h fun x => zBv xs x
theorem zJh (xs : List Int) : (ris xs).length <= xs.length:=by
 unfold ris; rw [(zB6 _).length_eq]; exact zC3 xs
theorem zTB (h : 0 < xs.length) : 0 < (ris xs).length:=by
 cases xs with
 | nil => cases h
 | cons x r => exact List.length_pos_of_mem ((zBv (x :: r) x).mpr zVb)
theorem zSE (f : Int -> Int) (xs : List Int) : ris ((ris xs).map f) = ris (xs.map f):=zKR fun x => by simp [zBv]
theorem zRi (h : zAL own fi g tc te σ M = some (.fl (ks.map D.int),M)) (hz : ks.length <= 4000) : zI8 own fi g tc te σ M = some (zAK ks,M):=by
 unfold zI8; rw [h]; dsimp only; rw [zDk]; dsimp only; rw [zVc (by unfold scanBound; omega)]
theorem zPM (h : f σ M = some (x,M)) (hx : zAc M x = some (ks.map D.int)) (hz : ks.length <= 4000) : zHl f σ M = some (zAK ks,M):=by
 unfold zHl; rw [h]; dsimp only; rw [hx]; dsimp only; rw [zDk]; dsimp only; rw [zVc (by unfold scanBound; omega)]
theorem zLU (h : fz σ M = some (zAK ks,M)) (hz : (zAK ks).length < 64) : zGP fz σ M = some (.fl ((ris ks).map D.int),M):=by
 unfold zGP; rw [h]; dsimp only; rw [zVc hz]; rfl
noncomputable def zF3 : FS:=(zAJ (fB zBZ (zc (zGP (zI8 [3] (zAr (zD 1)) (gN 3) zAC (fOp kIx (fOp kIx (zD 0) (zD 3)) (zD 2)))) zx)))
noncomputable def zA9 : FF:=zD6 (zBJ 4 zF3)
noncomputable def zIN : FS:=(zX (zAG 3 (zBS (zH (toD (zD 1)) zS)))
  (zX (zDu (zAr (zD 2)) (gN 4) (zBz (fM zAt (zD 3) (zH (toD (zW zA9 (zH (toD (zD 0)) (zH (toD (fOp kIx (zD 3) (zOS (fC (.int 1))))) (zH (toD (zD 4)) zS))))) zS))))
  (zAJ (fB zBZ (zc (zD 3) zx)))))
noncomputable def zEV : FF:=zD6 (zBJ 5 zIN)
noncomputable def zF8 : FS:=(zAJ (fOp kIx (zW zEV (zH (toD (zD 0)) (zH (toD (zD 1)) (zH (toD (zD 2)) zS)))) (zOS (fC (.int 1)))))
noncomputable def zB5 : FF:=zD6 (zBJ 3 zF8)
def setR (zA : List (List Int)) (S : List Int) (g : Int) : List Int:=ris (S.map fun h => zCx zA h g)
def broR (zA : List (List Int)) (S word : List Int) : List Int:=word.foldl (setR zA) S
structure IsS (zA : List (List Int)) (S : List Int) : Prop where
 pw : S.Pairwise (· < ·)
 n0 : 0 < S.length
 mem : ∀ x ∈ S,0 <= x /\ x < (zA.length : Int)
theorem zLl : ∀ {S : List Int} {a : Int} {n : Nat},S.Pairwise (· < ·) -> (∀ x ∈ S,a <= x /\ x < a + (n : Int)) -> S.length <= n
 | [],_,_,_,_ => zV9 _
 | x :: S,a,n,h,hm => by
  have hx:=zXX.mp h;obtain ⟨m0,m1⟩:=hm x zVb;have hn : 0 < n:=by omega
  have:=zLl (S:=S) (a:=x + 1) (n:=(a + n - (x + 1)).toNat) hx.2 fun y hy => by
   have:=hx.1 y hy;have:=(hm y (zVa _ hy)).2;omega
  simp only [zVu]; omega
theorem IsS.len (h : IsS zA S) : S.length <= zA.length:=zLl h.pw (a:=0) fun x hx => by have:=h.mem x hx; omega
theorem IsM.setR {zA : List (List Int)} {l : Nat} (m : IsM zA l) {S : List Int} (s : IsS zA S) {g : Int} (g0 : 0 <= g) (g1 : g < l) : IsS zA (setR zA S g):=by
 refine ⟨zF2 _,zTB (by rw [zVW]; exact s.n0),fun x hx => ?_⟩;obtain ⟨y,hy,rfl⟩:=zVe.mp ((zBv _ _).mp hx);obtain ⟨y0,y1⟩:=s.mem y hy;exact m.step y0 y1 g0 g1
theorem IsM.broR {zA : List (List Int)} {l : Nat} (m : IsM zA l) : ∀ (word : List Int) {S : List Int},IsS zA S -> (∀ g ∈ word,0 <= g /\ g < (l : Int)) -> IsS zA (broR zA S word)
 | [],S,s,_ => s
 | g :: r,S,s,hw => by
  obtain ⟨g0,g1⟩:=hw g zVb;exact IsM.broR m r (m.setR s g0 g1) fun x hx => hw x (zVa _ hx)
theorem zNE (zA : List (List Int)) : ∀ (word : List Int) (S : List Int),broR zA (ris S) word = ris (S.map fun r => zCJ zA r word)
 | [],S => by show ris S = ris (S.map fun r => r); rw [List.map_id']
 | g :: w,S => by
  show broR zA (setR zA (ris S) g) w = _;unfold setR;rw [zSE];rw [zNE zA w];rw [zVl]; rfl
theorem zDf (h : S.Pairwise (· < ·)) (word : List Int) : broR zA S word = ris (S.map fun r => zCJ zA r word):=by
 have:=zNE zA word S;rw [zQm h] at this; exact this
theorem zMz (zA : List (List Int)) (S a b : List Int) : broR zA S (a ++ b) = broR zA (broR zA S a) b:=by unfold broR; rw [List.foldl_append]
def tI (xs : List Int) : D:=.tup (xs.map D.int)
theorem zHA {zA : List (List Int)} {l : Nat} (m : IsM zA l) (hR : zA.length < 64) {S : List Int} (s : IsS zA S) {g : Int} (g0 : 0 <= g) (g1 : g < l) {M : Mem} : zA9 [mD zA,tI S,.int g] M = some (tI (setR zA S g),M):=by
 refine zd ?_;unfold zA9;refine zDH (by unfold D.unds D.unds D.unds D.unds; rw [zD4]; simp [tI,zAd,D.und,zAY]) ?_;rw [zAV];unfold zF3;have hl:=s.len;have hz : (zAK (S.map fun h => zCx zA h g)).length < 64:=by have:=zC3 (S.map fun h => zCx zA h g); rw [zVW] at this; omega
 refine zA1 (d:=tI (setR zA S g)) ?_ ⟨by unfold tI; exact zAd _,rfl,rfl⟩;refine zCs (zLU (ks:=S.map fun h => zCx zA h g) (zRi ?_ (by rw [zVW]; omega)) hz) zEF;refine (zCL S D.int (fun h => .int (zCx zA h g)) (zFe rfl) trivial (by omega) fun h hh => ⟨_,rfl,?_⟩).trans ?_
 ·obtain ⟨h0,h1⟩:=s.mem h hh;exact m.ix h0 h1 g0 g1 rfl rfl rfl
 ·rw [zVl]; rfl
def zGa (zA : List (List Int)) (S : List Int) : List Int -> List (List Int)
 | [] => [S]
 | g :: w => S :: zGa zA (setR zA S g) w
theorem zK5 {α : Type} (xs : List α) (x : α) : atI (xs ++ [x]) (-1) = some x:=by
 unfold atI ixN;rw [zVf (by decide),zVc (by simp; omega)];have : ((-1 : Int) + ((xs ++ [x]).length : Int)).toNat = xs.length:=by simp; omega
 simp only [Option.bind_some];rw [this]; simp
theorem zRj {zA : List (List Int)} {l : Nat} (m : IsM zA l) (hR : zA.length < 64) {S word : List Int} (s : IsS zA S) (hw : ∀ g ∈ word,0 <= g /\ g < (l : Int)) (hz : word.length <= 90000) {M : Mem} : zEV [mD zA,tI S,tI word] M = some (.tup ((zGa zA S word).map tI),M):=by
 refine zd ?_;unfold zEV;refine zDH (by unfold D.unds D.unds D.unds D.unds; rw [zD4]; simp [tI,zAd,D.und,zAY]) ?_;rw [zAV];unfold zIN;show OkS (zX _ _ [some (mD zA),some (tI S),some (tI word),none,none] []) _;rw [zU,zm];refine zJt.mpr (zAw.mpr (zAy.mpr (zAM.mpr ⟨_,rfl,zV.mpr (zCP.mpr ⟨z0 (by simp),?_⟩)⟩)));rw [zFr,zb,zU,zCR];refine ⟨_,_,_,zFl rfl zA2,?_⟩;show OkS (zCv _ _ _ _ _ [some (mD zA),some (tI S),some (tI word),some (.ref 0),none] [.lst [tI S]]) _;refine zBt (I:=fun r σ M' => ∃ (y : Option D) (c : List Int) (acc : List (List Int)) (T : List Int),σ = [some (mD zA),some (tI S),some (tI word),some (.ref 0),y] /\ r = c.map D.int /\ (∀ g ∈ c,0 <= g /\ g < (l : Int)) /\ IsS zA T /\ M' = [.lst ((acc ++ [T]).map tI)] /\ acc ++ zGa zA T c = zGa zA S word /\ acc.length + c.length = word.length) ?_ ?_ _ _ _ ⟨none,word,[],S,rfl,rfl,hw,s,rfl,rfl,by simp⟩
 ·rintro x r σ M' ⟨y,c,acc,T,rfl,hc,hg,sT,rfl,e,hl⟩;obtain ⟨z,c',rfl,rfl,rfl⟩:=zDO hc;refine ⟨zA6,_,rfl,?_⟩;rw [zCm];obtain ⟨g0,g1⟩:=hg z zVb;have eA : ([MO.lst ((acc ++ [T]).map tI)] : Mem)[0]? = some (.lst ((acc ++ [T]).map tI)):=rfl;refine zMM.mpr (zAM.mpr ⟨_,rfl,⟨_,zCX eA⟩,zAw.mpr (zAy.mpr ?_)⟩);refine zK (zp (zw rfl (zw (zY (f:=zD 3) (g:=zOS (fC (.int 1))) (y:=.dat (.int (-1))) rfl rfl (zE3 (zAZ eA) ?_)) (zr rfl))) (zHA m hR sT g0 g1)) ?_
  ·rw [zWF]; exact zK5 _ _
  ·rw [zV,zCP,zEN eA (by rw [zVW,zVd]; simp at hl ⊢; exact zVm (m:=95000) (by omega) (z0 (by omega)))];refine ⟨_,c',acc ++ [T],setR zA T z,rfl,rfl,fun g hg' => hg g (zVa _ hg'),m.setR sT g0 g1,?_,?_,by simp at hl ⊢; omega⟩
   ·simp
   ·rw [<- e]; simp [zGa]
 ·rintro σ M' ⟨y,c,acc,T,rfl,hc,hg,sT,rfl,e,hl⟩;have : c = []:=by cases c with | nil => rfl | cons _ _ => cases hc
  subst this;refine ⟨zA6,?_⟩;rw [zb];refine zA1 (zCs rfl (zAZ (show ([MO.lst ((acc ++ [T]).map tI)] : Mem)[0]? = some (.lst ((acc ++ [T]).map tI)) from rfl))) ?_;have e' : acc ++ [T] = zGa zA S word:=by rw [<- e]; rfl
  rw [e'];refine ⟨?_,rfl,rfl⟩;unfold D.und;refine zFf fun x hx => ?_;obtain ⟨r,_,rfl⟩:=zVe.mp hx;exact zAd r
theorem zIi (zA : List (List Int)) : ∀ (word S : List Int),∃ us,zGa zA S word = us ++ [broR zA S word]
 | [],S => ⟨[],rfl⟩
 | g :: w,S => by
  obtain ⟨us,e⟩:=zIi zA w (setR zA S g);exact ⟨S :: us,by show S :: zGa zA _ w = _; rw [e]; rfl⟩
theorem zMb (m : IsM zA l) (hR : zA.length < 64) (s : IsS zA S) (hw : ∀ g ∈ word,0 <= g /\ g < (l : Int)) (hz : word.length <= 90000) : zB5 [mD zA,tI S,tI word] M = some (tI (broR zA S word),M):=by
 refine zd ?_;unfold zB5;refine zDH (by unfold D.unds D.unds D.unds D.unds; rw [zD4]; simp [tI,zAd,D.und,zAY]) ?_;rw [zAV];unfold zF8;obtain ⟨us,e⟩:=zIi zA word S;refine zA1 (d:=tI (broR zA S word)) (zY (zp (zw rfl (zw rfl (zr rfl))) (zRj m hR s hw hz)) (g:=zOS (fC (.int 1))) (y:=.dat (.int (-1))) rfl (zE3 zA2 ?_)) ⟨by unfold tI; exact zAd _,rfl,rfl⟩;rw [e,zWF]; exact zK5 _ _
end Law
namespace Law
open PySem PySem.Spec PyProof.Rows L2 L3 ST
theorem zMj (hgd : zA5 gd all M) (hg : g x σ = some σ1) (hk : tk σ1 M = some (.dat k,M)) (hv : tv σ1 M = some (.dat v,M)) (hp : zHu M n k v = some M') : zCl g zAC tk tv σ n all gd (x :: r) M = zCl g zAC tk tv σ n all gd r M':=by
 rw [zCl];rw [zVc hgd,hg];have et : zAC σ1 M = some (true,M):=rfl;have e1 : toD tk σ1 M = some (k,M):=by unfold toD; rw [hk]
 have e2 : toD tv σ1 M = some (v,M):=by unfold toD; rw [hv]
 dsimp only;rw [et]; dsimp only;rw [e1]; dsimp only;rw [e2]; dsimp only;rw [hp]
theorem zJA (hgd : zA5 gd all M) : zCl g tc tk tv σ n all gd [] M = some M:=by
 rw [zCl,zVc hgd]
theorem zFv (e : f σ M = some (.dat (mD zA),M)) : fB zBB (zc f zx) σ M = some (.dat (.int zA.length),M):=by
 have:=zHp e zA2;rw [zVW] at this; exact this
theorem zG1 (m : IsM zA l) (e : f σ M = some (.dat (mD zA),M)) : fB zBB (zc (fOp kIx f (fC (.int 0))) zx) σ M = some (.dat (.int l),M):=by
 have r0:=m.r0;have:=zHp (zY (g:=fC (.int 0)) e rfl (zE3 zA2 (zO6 (h:=0) (by omega) (by omega)))) zA2;rw [zVW,(m.get (h:=0) (by omega) (by omega)).1] at this; exact this
theorem zDU (e : f σ M = some (.dat (tI xs),M)) : fB zBB (zc f zx) σ M = some (.dat (.int xs.length),M):=by
 have:=zHp e zA2;rw [zVW] at this; exact this
noncomputable def zE9 : FS:=(zAJ (zHb (zJq "int" (zD 0)) (zPJ (zJq "bool" (zD 0)))))
noncomputable def zB2 : FF:=zBJ 1 zE9
noncomputable def zFK : FS:=(zAJ (zHb (zW zB2 (zH (toD (zD 0)) zS)) (zGL kLe kLt (fC (.int 0)) (zD 0) (zD 1))))
noncomputable def zCy : FF:=zBJ 2 zFK
noncomputable def zB0 : FS:=(zAJ (zHb (zJq "tuple" (zD 0)) (fB zNw (zc (zAL [2] (zAr (zD 0)) (gN 2) zAC (zW zCy (zH (toD (zD 2)) (zH (toD (zD 1)) zS)))) zx))))
noncomputable def zAf : FF:=zBJ 3 zB0
mutual
def Vd (M : Mem) : D -> Prop
 | .ref n => ∃ t,zMU M (.dat (.ref n)) = some t /\ (t = "list" \/ t = "dict")
 | .tup ds => ds.length <= 100000 /\ Vds M ds
 | _ => True
def Vds (M : Mem) : List D -> Prop
 | [] => True
 | d :: ds => Vd M d /\ Vds M ds
end
theorem Vds.mem : ∀ {ds : List D},Vds M ds -> ∀ d ∈ ds,Vd M d
 | [],_,d,h => by cases h
 | x :: ds,hv,d,h => by
  unfold Vds at hv;rcases zVZ.mp h with q | q
  ·subst q; exact hv.1
  ·exact Vds.mem hv.2 d q
theorem Vds.of : ∀ {ds : List D},(∀ d ∈ ds,Vd M d) -> Vds M ds
 | [],_ => trivial
 | x :: ds,h => ⟨h x zVb,Vds.of fun d hd => h d (zVa _ hd)⟩
def zMl : D -> Bool
 | .int _ => true
 | _ => false
def zDn (n : Int) : D -> Bool
 | .int i => decide (0 <= i) && decide (i < n)
 | _ => false
def tbD (n : Int) : D -> Bool
 | .tup ds => ds.all (zDn n)
 | _ => false
def zTf : D -> Bool
 | .tup _ => true
 | _ => false
theorem zPP (out : D -> D) (hf : f σ M = some (.dat (.tup ds),M)) (hz : ds.length <= 100000)
  (he : ∀ a ∈ ds,∃ σ1,g a (zBH own σ) = some σ1 /\ te σ1 M = some (.dat (out a),M)) : zAL own (zAr f) g zAC te σ M = some (.fl (ds.map out),M) :=
 zCL (gd:=none) ds id out (by rw [List.map_id]; exact zFe hf) trivial hz he
theorem Vd.ty (h : Vd M d) : ∃ t,zMU M (.dat d) = some t /\ isT t "tuple" = zTf d /\ (isT t "int" && !isT t "bool") = zMl d:=by
 cases d with
 | non => exact ⟨_,rfl,(show isT "NoneType" "tuple" = false by decide),(show (isT "NoneType" "int" && !isT "NoneType" "bool") = false by decide)⟩
 | bl k => exact ⟨_,rfl,(show isT "bool" "tuple" = false by decide),(show (isT "bool" "int" && !isT "bool" "bool") = false by decide)⟩
 | int i => exact ⟨_,rfl,(show isT "int" "tuple" = false by decide),(show (isT "int" "int" && !isT "int" "bool") = true by decide)⟩
 | str x => exact ⟨_,rfl,(show isT "str" "tuple" = false by decide),(show (isT "str" "int" && !isT "str" "bool") = false by decide)⟩
 | tup ds => exact ⟨_,rfl,(show isT "tuple" "tuple" = true by decide),(show (isT "tuple" "int" && !isT "tuple" "bool") = false by decide)⟩
 | ref n =>
  unfold Vd at h;obtain ⟨t,e,h⟩:=h;rcases h with rfl | rfl
  ·exact ⟨_,e,(show isT "list" "tuple" = false by decide),(show (isT "list" "int" && !isT "list" "bool") = false by decide)⟩
  ·exact ⟨_,e,(show isT "dict" "tuple" = false by decide),(show (isT "dict" "int" && !isT "dict" "bool") = false by decide)⟩
theorem zG6 (hf : f σ M = some (.dat (.bl a),M)) (hg : a = true -> g σ M = some (.dat (.bl b),M)) : zHb f g σ M = some (.dat (.bl (a && b)),M):=by
 unfold zHb; rw [hf];cases a with
 | true => exact hg rfl
 | false => rfl
theorem zRD (hf : f σ M = some (.dat (.bl a),M)) : zPJ f σ M = some (.dat (.bl (!a)),M):=by unfold zPJ; rw [hf]
theorem zHB (h : f (ds.map some ++ List.replicate (n - ds.length) none) M = some (.dat d,M)) : zBJ n (zAJ f) ds M = some (d,M):=by
 refine zd ?_;rw [zAV];exact zA1 h ⟨rfl,rfl⟩
theorem zLY (h : Vd M d) : zB2 [d] M = some (.bl (zMl d),M):=by
 obtain ⟨t,e,_,q⟩:=h.ty;unfold zB2 zE9;refine zHB ?_;rw [<- q];exact zG6 (zHI rfl e) fun _ => zRD (zHI rfl e)
theorem zO3 (h : Vd M d) : zCy [d,.int n] M = some (.bl (zDn n d),M):=by
 unfold zCy zFK;refine zHB ?_;have hw:=zp (σ:=[some d,some (.int n)]) (a:=zH (toD (zD 0)) zS) (zr rfl) (zLY h);have e : zDn n d = (zMl d && zDn n d):=by cases d <;> rfl
 rw [e];refine zG6 hw fun hi => ?_;cases d with
 | int i =>
  refine zd (zPY.mpr (zCz.mpr (zAM.mpr ⟨_,rfl,zU4.mpr (zEE.mpr ?_)⟩)));by_cases h0 : 0 <= i
  ·rw [zVc (by simpa using h0)];refine zAM.mpr ⟨_,rfl,zS1.mpr ⟨?_,rfl⟩⟩;simp [zDn,h0]
  ·rw [zVf (by simpa using h0)];exact ⟨by simp [zDn,h0],rfl⟩
 | _ => cases hi
theorem zMc {bs : List Bool} (h : f σ M = some (.fl (bs.map D.bl),M)) : fB zNw (zc f zx) σ M = some (.dat (.bl (bs.all id)),M):=by
 unfold fB zc zx; rw [h]; exact zd ((zUQ zSl (zJC bs)).mpr ⟨rfl,rfl⟩)
theorem zHZ {α : Type} (xs : List α) (p : α -> Bool) : (xs.map p).all id = xs.all p:=by rw [List.all_map]; rfl
theorem zSO (h : Vd M d) : zAf [d,.int n] M = some (.bl (tbD n d),M):=by
 unfold zAf zB0;refine zHB ?_;obtain ⟨t,e,q,_⟩:=h.ty;cases d with
 | tup ds =>
  have hh : Vd M (.tup ds):=h;unfold Vd at hh;have : tbD n (.tup ds) = (true && (ds.map (zDn n)).all id):=by rw [Bool.true_and,zHZ]; rfl
  rw [this];refine zG6 (by rw [zHI rfl e,q]; rfl) fun _ => zMc ?_;rw [zVl];exact zPP (fun x => .bl (zDn n x)) rfl hh.1 fun x hx => ⟨_,rfl,zp (zw rfl (zr rfl)) (zO3 (hh.2.mem x hx))⟩
 | _ =>
  have : ∀ b,(false && b) = false:=fun b => rfl;refine (zG6 (a:=false) (b:=true) (by rw [zHI rfl e,q]; rfl) fun z => by cases z).trans ?_;rfl
theorem zRq {xs : List D} {lo hi : Option Int} {M : Mem} : kSl (.dat (.tup xs)) lo hi M = some (.dat (.tup (L3.zFI xs lo hi)),M):=rfl
theorem slE {f : FE} {fl fh : FO} {σ : Sd} {M : Mem} {xs : List D} {lo hi : Option Int} (hf : f σ M = some (.dat (.tup xs),M)) (hl : fl σ M = some (lo,M)) (hh : fh σ M = some (hi,M)) : fSl f fl fh σ M = some (.dat (.tup (L3.zFI xs lo hi)),M):=by
 unfold fSl; rw [hf]; dsimp only; rw [hl]; dsimp only; rw [hh]; exact zRq
theorem oS (h : f σ M = some (.dat (.int i),M)) : zDV f σ M = some (some i,M):=by unfold zDV; rw [h]
theorem zNG {c : List Int} (h : c.length <= 100000) : Vd M (.tup (c.map D.int)):=by
 unfold Vd;exact ⟨by simpa using h,Vds.of fun d hd => by obtain ⟨i,_,rfl⟩:=zVe.mp hd; unfold Vd; trivial⟩
abbrev gL (k : Nat) (s : Int) : MO:=.lst [.ref k,.int s]
theorem zTr (hk : k < N) : MO.und N (gL k s) = true:=by
 show D.unds _ _ = true;unfold D.unds D.unds D.unds D.und;simp [hk]
structure Nw (M M' : Mem) (n k : Nat) : Prop where
 gen : Gen M' n k
 len : M.length <= M'.length
 fr : ∀ j,j < M.length -> j ≠ n -> j ≠ k -> M'[j]? = M[j]?
theorem Nw.trans {M M1 M2 : Mem} {n k : Nat} (a : Nw M M1 n k) (b : Nw M1 M2 n k) : Nw M M2 n k :=
 ⟨b.gen,zVo a.len b.len,fun j h h1 h2 => (b.fr j (zVm h a.len) h1 h2).trans (a.fr j h h1 h2)⟩
theorem Nx.nw (x : Nx M M' n k) : Nw M M' n k:=⟨x.gen,by rw [x.len]; exact zVT _,fun j _ h1 h2 => x.fr j h1 h2⟩
theorem Gen.lst (h : Gen A n k) (xs : List D) (hx : D.unds A.length xs = true) : Nw A (A ++ [.lst xs]) n k:=⟨h.app fun u hu => by
 have : u = .lst xs:=by simpa using hu
 subst this; exact zCd (by simp) hx,by simp,fun j hj _ _ => zVU hj⟩
theorem Nw.setB (h : Nw M A n k) (g : Gen M n k) (hj : M.length <= j) (hu : MO.und A.length u = true) : Nw M (A.set j u) n k:=by
 obtain ⟨hn,hk⟩:=g.lt;obtain ⟨c,s,e1,e2,r⟩:=h.gen.ex;refine ⟨⟨⟨c,s,by rw [zVr (by omega)]; exact e1,by rw [zVr (by omega)]; exact e2,r⟩,g.ne,fun i v e => ?_⟩,by rw [List.length_set]; exact h.len,fun i hi h1 h2 => by rw [zVr (by omega)]; exact h.fr i hi h1 h2⟩;rw [List.length_set];rw [zWw] at e;split at e
 ·split at e
  ·cases e; exact hu
  ·cases e
 ·exact h.gen.wf i v e
theorem Nw.wf0 (h : Nw M M' n k) (g : Gen M n k) : ∀ (j : Nat) u,j < M.length -> M'[j]? = some u -> MO.und M.length u = true:=fun j u hj e => by
 obtain ⟨hn,hk⟩:=g.lt;obtain ⟨c,s,e1,e2,r⟩:=h.gen.ex;by_cases q1 : j = n
 ·subst q1; rw [e1] at e; cases e; exact zTr hk
 ·by_cases q2 : j = k
  ·subst q2; rw [e2] at e; cases e; exact zAY _ _
  ·rw [h.fr j hj q1 q2] at e; exact g.wf j u e
theorem Nw.trim (h : Nw M M' n k) (g : Gen M n k) : Nw M (M'.take M.length) n k:=by
 obtain ⟨hn,hk⟩:=g.lt;have tk : ∀ j,j < M.length -> (M'.take M.length)[j]? = M'[j]?:=fun j hj => List.getElem?_take_of_lt hj;have tl : (M'.take M.length).length = M.length:=by have:=h.len; rw [zWl]; omega
 obtain ⟨c,s,e1,e2,r⟩:=h.gen.ex;refine ⟨⟨⟨c,s,(tk n hn).trans e1,(tk k hk).trans e2,r⟩,g.ne,fun j u e => ?_⟩,by omega,fun j hj h1 h2 => (tk j hj).trans (h.fr j hj h1 h2)⟩;have hj : j < M.length:=by have:=(zVQ.mp e).1; omega
 rw [tk j hj] at e;rw [tl];exact h.wf0 g j u hj e
theorem Nw.get (h : Nw M M' n k) (e : M[j]? = some u) (h1 : j ≠ n) (h2 : j ≠ k) : M'[j]? = some u :=
 (h.fr j (zVQ.mp e).1 h1 h2).trans e
end Law
namespace Lac
open PySem PySem.Spec PyProof.Rows L2 L3 ST Law
noncomputable def zEJ : FS:=(zX (zAG 2 (zBS zS))
  (zX (zDu (zAW (zH (toD (zD 1)) zS)) (gN 3) (zBz (fM zEv (zD 2) (zH (toD (zW zf (zH (toD (zD 0)) (zH (toD (fOp zAe (zD 3) (fC (.int 1)))) zS)))) (zH (toD (zD 3)) zS)))))
  (zAJ (zD 2))))
noncomputable def zCH : FF:=zBJ 4 zEJ
noncomputable def zDj : FS:=(zX (sIf (tst (fOp kEq (zD 1) (fC (.int 0)))) (zAJ (zAL [4] (zAW (zH (toD (zD 2)) zS)) (gN 4) zAC (zW zf (zH (toD (zD 0)) (zH (toD (zD 2)) zS))))) zCU)
  (zX (sIf (tst (fOp kEq (zD 1) (fC (.int 1)))) (zAJ (zAL [4] (zAW (zH (toD (zD 2)) zS)) (gN 4) zAC (fOp zF6 (fOp zAe (zD 4) (zW zf (zH (toD (zD 0)) (zH (toD (fC (.int 3))) zS)))) (zD 2)))) zCU)
  (zX (sIf (tst (fOp kEq (zD 1) (fC (.int 2)))) (zX (zAG 5 (fOp zNt (fOp zAe (zD 2) (fC (.int 1))) (fC (.int 2))))
  (zX (zAG 6 (zAL [4] (zAW (zH (toD (zD 5)) zS)) (gN 4) zAC (zW zf (zH (toD (zD 0)) (zH (toD (zD 5)) zS)))))
  (zAJ (fOp zIz (zD 6) (zAL [4] (zAW (zH (toD (fOp zML (zD 2) (zD 5))) zS)) (gN 4) zAC (fOp zAe (zD 5) (zW zf (zH (toD (zD 0)) (zH (toD (fOp zML (zD 2) (zD 5))) zS))))))))) zCU)
  (zX (sIf (zCK (tst (fOp kEq (zD 1) (fC (.int 3)))) (tst (fOp kEq (zD 3) (fC (.int 0))))) (zAJ (zAL [4] (zAW (zH (toD (zD 2)) zS)) (gN 4) zAC (fOp zF6 (fOp zAe (zD 4) (fC (.int 1))) (zD 2)))) zCU)
  (zX (sIf (tst (fOp kEq (zD 1) (fC (.int 3)))) (zAJ (zAL [4] (zAW (zH (toD (zD 2)) zS)) (gN 4) zAC (fOp kIx (zBS (zH (toD (zD 4)) (zH (toD (fC (.int 0))) zS))) (fB zLx (zc (fOp kEq (zD 4) (fOp zML (zD 2) (fC (.int 1)))) zx))))) zCU)
  (zX (sIf (zGM (tst (fOp kEq (zD 1) (fC (.int 4)))) (tst (fOp kEq (zD 1) (fC (.int 7))))) (zX (zAG 7 (zW zf (zH (toD (zD 0)) (zH (toD (zD 2)) zS))))
  (zAJ (zAL [4] (zAW (zH (toD (zD 2)) zS)) (gN 4) zAC (fOp kIx (zBS (zH (toD (fOp zF6 (fOp zAe (zD 4) (zD 7)) (zD 2))) (zH (toD (zD 7)) zS))) (fB zLx (zc (fOp kEq (zD 1) (fC (.int 7))) zx)))))) zCU)
  (zX (zAG 8 (zW zCH (zH (toD (zD 0)) (zH (toD (zD 2)) zS))))
  (zX (sIf (zCK (tst (fOp kEq (zD 1) (fC (.int 6)))) (tst (fOp kEq (zD 3) (fC (.int 0))))) (zX (zAG 9 (fOp kIx (zD 8) (zW zf (zH (toD (zD 0)) (zH (toD (zD 2)) zS)))))
  (zL7 (zD 9) (zD 8) (zW zf (zH (toD (zD 0)) (zH (toD (zD 2)) zS))))) zCU)
  (zAJ (zD 8))))))))))
noncomputable def zBo : FF:=zBJ 10 zDj
noncomputable def zDT : FS:=(zX (zAG 3 (zW zf (zH (toD (zD 0)) (zH (toD (fC (.int 8))) zS))))
  (zX (zAG 4 (zAL [5] (zAW (zH (toD (zD 2)) zS)) (gN 5) zAC (zW zBo (zH (toD (zD 0)) (zH (toD (zD 3)) (zH (toD (zD 1)) (zH (toD (zD 5)) zS)))))))
  (zAJ (fB zBZ (zc (zAL [7] (zAW (zH (toD (zD 1)) zS)) (gN 7) zAC (fB zBZ (zc (zAL [6] (zAr (zD 4)) (gN 6) zAC (fOp kIx (zD 6) (zD 7))) zx))) zx)))))
noncomputable def zA8 : FF:=zKu (zBJ 8 zDT)
def Col (many : Int) (c : List Int) : Prop:=(c.length : Int) = many /\ ∀ x ∈ c,0 <= x /\ x < many
theorem zAU (h : P (.ref M.length) (M ++ [.lst xs])) : zIK P (.fl xs) M:=h
theorem zBT (A : Mem) (u : MO) : (A ++ [u])[A.length]? = some u:=by simp
theorem zUA (h : 0 < b) : zF6 (.dat (.int a)) (.dat (.int b)) M = some (.dat (.int (a % b)),M):=zd (zGb.mpr ⟨h,rfl,rfl⟩)
theorem zH7 {M : Mem} {n k : Nat} (h : Gen M n k) {own : List Nat} {i : Nat} {f te : FE} {σ : Sd} {cnt lo hi : Int} (c0 : 0 <= cnt) (c1 : cnt <= 90000) (hf : f σ M = some (.dat (.int cnt),M))
  (ht : ∀ (r : Nat) (M' : Mem),(r : Int) < cnt -> Gen M' n k -> Ok (te ((zBH own σ).set i (some (.int r))) M') fun x M'' => ∃ v : Int,x = .dat (.int v) /\ lo <= v /\ v < hi /\ Nx M' M'' n k) :
  Ok (zAL own (zAW (zH (toD f) zS)) (gN i) zAC te σ M) fun x M' => (∃ c : List Int,x = .fl (c.map D.int) /\ (c.length : Int) = cnt /\ ∀ y ∈ c,lo <= y /\ y < hi) /\ Nx M M' n k:=by
 refine zEr.mpr ⟨_,_,_,zCw hf c0 (by omega),by rw [zCA]; exact z0 (by omega),?_⟩;refine Ok.mono (zLp (n:=cnt.toNat) (I:=fun j acc M2 => (∃ c : List Int,acc = c.map D.int /\ c.length = j /\ ∀ y ∈ c,lo <= y /\ y < hi) /\ Nx M M2 n k) ?_ ⟨⟨[],rfl,rfl,fun _ h => by cases h⟩,Nx.refl h⟩) ?_
 ·rintro j acc M2 hj ⟨⟨c,rfl,hcl,hc⟩,nx⟩;refine ⟨_,rfl,?_⟩;refine Ok.mono (ht j M2 (by omega) nx.gen) ?_;rintro x M3 ⟨v,rfl,v0,v1,nx3⟩;rw [zV];refine ⟨⟨c ++ [v],by simp,by simp [hcl],fun z hz => ?_⟩,nx.trans nx3⟩;rcases zVn.mp hz with q | q
  ·exact hc z q
  ·have : z = v:=by simpa using q
   subst this; exact ⟨v0,v1⟩
 ·rintro ys M2 ⟨⟨c,rfl,hcl,hc⟩,nx⟩;exact ⟨⟨c,rfl,by omega,hc⟩,nx⟩
theorem zUX (ha : a σ M = some (.dat x,M)) (hb : b σ M = some (.dat y,M)) : zBS (zH (toD a) (zH (toD b) zS)) σ M = some (.fl [x,y],M):=by
 unfold zBS; rw [zw ha (zr hb)]; dsimp only; rw [zVc (z0 (by simp))]
theorem zSV (hl : l σ M = some (.fl [x,y],M)) (ht : t σ M = some (.dat (.bl b),M)) : fOp kIx l (fB zLx (zc t zx)) σ M = some (.dat (if b then y else x),M):=by
 have e : fB zLx (zc t zx) σ M = some (.dat (.int (if b then 1 else 0)),M):=by unfold fB zc zx; rw [ht]; rfl
 cases b with
 | true => exact zY hl e rfl
 | false => exact zY hl e rfl
theorem zNS (h : M[n]? = some (.lst xs)) (h0 : 0 <= i) (h1 : i.toNat <= xs.length) (hz : xs.length < 90000) : zEv (.dat (.ref n)) [.int i,d] M = some (.non,M.set n (.lst (xs.take i.toNat ++ [d] ++ xs.drop i.toNat))):=by
 unfold zEv; dsimp only; rw [h]; dsimp only; rw [zVc ⟨h0,h1,zVm hz (z0 (by omega))⟩]
theorem zO8 (h : Gen M n k) (m0 : 0 < many) (m1 : many <= 1000) : Ok (zCH [.ref n,.int many] M) fun d M' => ∃ j c,d = .ref j /\ M'[j]? = some (.lst (c.map D.int)) /\ Col many c /\ M.length <= j /\ Nw M M' n k /\ c.Perm ((List.range many.toNat).map fun (x : Nat) => (x : Int)):=by
 obtain ⟨hn,hk⟩:=h.lt;unfold zCH;rw [zAV];unfold zEJ;show OkS (zX _ _ [some (.ref n),some (.int many),none,none] M) _;rw [zU,zm];refine zJt.mpr (zCP.mpr ⟨z0 (by simp),zAU ?_⟩);rw [zb,zU,zCR];have nw1:=h.lst [] rfl;have e1 : (M ++ [MO.lst ([] : List D)])[M.length]? = some (.lst []):=zBT _ _;generalize M ++ [MO.lst ([] : List D)] = M1 at nw1 e1;show ∃ xs gd M2,zAW _ [some (.ref n),some (.int many),some (.ref M.length),none] M1 = some (xs,gd,M2) /\ _;refine ⟨_,_,_,zCw rfl (by omega) (by omega),?_⟩;refine zLu (n:=many.toNat) (I:=fun i σ M' => (∃ y,σ = [some (.ref n),some (.int many),some (.ref M.length),y]) /\ ∃ c : List Int,M'[M.length]? = some (.lst (c.map D.int)) /\ c.length = i /\ (∀ x ∈ c,0 <= x /\ x < many) /\ Nw M M' n k /\ c.Perm ((List.range i).map fun (x : Nat) => (x : Int))) ?_ ?_ _ _ ⟨⟨_,rfl⟩,[],e1,rfl,(fun _ h => by cases h),nw1,.refl _⟩
 ·rintro i σ M' hi ⟨⟨y,rfl⟩,c,ec,hcl,hc,nw,pm⟩;refine ⟨_,rfl,?_⟩;show OkS (zBz _ [some (.ref n),some (.int many),some (.ref M.length),some (.int (i : Nat))] M') _;rw [zCm];refine zMM.mpr (zAM.mpr ⟨_,rfl,⟨_,zCX ec⟩,zAw.mpr (zAy.mpr ?_)⟩);refine zAX nw.gen rfl (zY (x:=.dat (.int (i : Nat))) rfl rfl rfl) (by omega) (by omega) fun q M2 q0 q1 nx => ?_;have ec2:=nx.nw.get ec (by omega) (by omega);rw [zV];refine zK (zr (d:=.int (i : Nat)) rfl) ?_;refine zK (zNS ec2 q0 (by rw [zVW]; omega) (by rw [zVW]; omega)) ?_;have hl : M.length < M2.length:=(zVQ.mp ec2).1;refine ⟨⟨_,rfl⟩,c.take q.toNat ++ [(i : Int)] ++ c.drop q.toNat,?_,by simp; omega,fun x hx => ?_,?_,?_⟩
  ·rw [zWH hl];simp
  ·simp only [zVn,zVp] at hx;rcases hx with (w | w) | w
   ·exact hc x (List.mem_of_mem_take w)
   ·omega
   ·exact hc x (List.mem_of_mem_drop w)
  ·refine (nw.trans nx.nw).setB h (zVT _) ?_;show D.unds _ _ = true;rw [<- List.map_take,<- List.map_drop,zHv,zHv,zAY,zAY]; rfl
  ·rw [List.range_succ,zWF];refine List.Perm.trans ?_ (List.Perm.append_right _ pm);rw [zWT];refine List.Perm.trans (List.Perm.append_left _ List.perm_append_comm) ?_;rw [<- zWT,List.take_append_drop];exact .refl _
 ·rintro σ M' ⟨⟨y,rfl⟩,c,ec,hcl,hc,nw,pm⟩;rw [zb];exact zA1 rfl ⟨M.length,c,rfl,ec,⟨by omega,hc⟩,zVT _,nw,pm⟩
theorem zQq (h : Col many c) (hj : j < c.length) : 0 <= c.getD j 0 /\ c.getD j 0 < many:=by
 rw [zVS,zVR hj]; exact h.2 _ (zVv hj)
theorem zPU (h : Col many c) (hj : j < c.length) : Col many (c.set i (c.getD j 0)):=by
 refine ⟨by rw [List.length_set]; exact h.1,fun x hx => ?_⟩;rcases List.mem_or_eq_of_mem_set hx with q | q
 ·exact h.2 x q
 ·rw [q,zVS,zVR hj]; exact h.2 _ (zVv hj)
theorem zNd {M : Mem} {n k : Nat} (h : Gen M n k) {fam many let_ : Int} (m0 : 0 < many) (m1 : many <= 1000) :
  Ok (zBo [.ref n,.int fam,.int many,.int let_] M) fun d M' => ∃ j c,d = .ref j /\ M'[j]? = some (.lst (c.map D.int)) /\ Col many c /\ M.length <= j /\ Nw M M' n k:=by
 obtain ⟨hn,hk⟩:=h.lt;unfold zBo;rw [zAV];unfold zDj;show OkS (zX _ _ [some (.ref n),some (.int fam),some (.int many),some (.int let_),none,none,none,none,none,none] M) _;have isf : ∀ (j : Int) (σ : Sd) (M : Mem),σ[1]? = some (some (.int fam)) -> tst (fOp kEq (zD 1) (fC (.int j))) σ M = some (decide (fam = j),M):=fun j σ M e => by
  have v4 : zD 1 σ M = some (.dat (.int fam),M):=by unfold zD; rw [e]
  exact zAx (zY v4 rfl (zd (zMk.mpr ⟨rfl,rfl⟩)))
 have isl : ∀ (σ : Sd) (M : Mem),σ[3]? = some (some (.int let_)) -> tst (fOp kEq (zD 3) (fC (.int 0))) σ M = some (decide (let_ = 0),M):=fun σ M e => by
  have v4 : zD 3 σ M = some (.dat (.int let_),M):=by unfold zD; rw [e]
  exact zAx (zY v4 rfl (zd (zMk.mpr ⟨rfl,rfl⟩)))
 have andE : ∀ {a b : FT} {σ : Sd} {M : Mem} {x y : Bool},a σ M = some (x,M) -> b σ M = some (y,M) -> zCK a b σ M = some (x && y,M):=fun {a b σ M x y} ha hb => by
  unfold zCK; rw [ha]; cases x <;> first | exact hb | rfl
 have orE : ∀ {a b : FT} {σ : Sd} {M : Mem} {x y : Bool},a σ M = some (x,M) -> b σ M = some (y,M) -> zGM a b σ M = some (x || y,M):=fun {a b σ M x y} ha hb => by
  unfold zGM; rw [ha]; cases x <;> first | exact hb | rfl
 have new : ∀ (A : Mem) (c' : List Int),Nw M A n k -> Col many c' -> ∃ j c,D.ref A.length = D.ref j /\ (A ++ [MO.lst (c'.map D.int)])[j]? = some (.lst (c.map D.int)) /\ Col many c /\ M.length <= j /\ Nw M (A ++ [MO.lst (c'.map D.int)]) n k:=fun A c' nw hc' =>
  ⟨A.length,c',rfl,zBT _ _,hc',nw.len,nw.trans (nw.gen.lst _ (zAY _ _))⟩
 rw [zU,zCM];refine zK (isf 0 _ _ rfl) ?_;by_cases w0 : fam = 0
 ·rw [zVc (by simpa using w0),zAs];refine Ok.mono (zH7 h (cnt:=many) (lo:=0) (hi:=many) (by omega) (by omega) rfl fun r M' hr g => zAX g rfl rfl m0 (by omega) fun i M2 i0 i1 nx => ⟨i,rfl,i0,i1,nx⟩) ?_;rintro x M1 ⟨⟨c,rfl,hcl,hc⟩,nx⟩;refine zAU ?_;rw [zD2];exact new _ _ nx.nw ⟨hcl,hc⟩
 rw [zVf (by simpa using w0),zBM,zb,zU,zCM];refine zK (isf 1 _ _ rfl) ?_;by_cases w1 : fam = 1
 ·rw [zVc (by simpa using w1),zAs];refine Ok.mono (zH7 h (cnt:=many) (lo:=0) (hi:=many) (by omega) (by omega) rfl fun r M' hr g => ?_) ?_
  ·refine zAg.mpr (zAg.mpr (zAM.mpr ⟨_,rfl,zAX g rfl rfl (by decide) (by decide) fun i M2 i0 i1 nx => zGY.mpr (zAM.mpr ⟨_,rfl,zGb.mpr ⟨m0,_,rfl,Int.emod_nonneg _ (by omega),Int.emod_lt_of_pos _ m0,nx⟩⟩)⟩))
  rintro x M1 ⟨⟨c,rfl,hcl,hc⟩,nx⟩;refine zAU ?_;rw [zD2];exact new _ _ nx.nw ⟨hcl,hc⟩
 rw [zVf (by simpa using w1),zBM,zb,zU,zCM];refine zK (isf 2 _ _ rfl) ?_;by_cases w2 : fam = 2
 ·rw [zVc (by simpa using w2)];refine zBx (d:=.int ((many + 1) / 2)) (zY (x:=.dat (.int (many + 1))) (zY rfl rfl rfl) rfl (zd (zPi.mpr ⟨⟨by decide,by decide⟩,rfl,rfl⟩))) ?_;obtain ⟨h0,h1⟩ : 0 < (many + 1) / 2 /\ (many + 1) / 2 <= many:=by omega
  generalize (many + 1) / 2 = half at h0 h1;rw [zU,zm];refine Ok.mono (zH7 h (cnt:=half) (lo:=0) (hi:=half) (by omega) (by omega) rfl fun r M' hr g => zAX g rfl rfl h0 (by omega) fun i M2 i0 i1 nx => ⟨i,rfl,i0,i1,nx⟩) ?_;rintro x M1 ⟨⟨c,rfl,hcl,hc⟩,nx⟩;refine zAU ?_;rw [zb,zAs];have nw2:=nx.nw.trans (nx.gen.lst (c.map D.int) (zAY _ _));have e6 : (M1 ++ [MO.lst (c.map D.int)])[M1.length]? = some (.lst (c.map D.int)):=zBT _ _;have hj : M.length <= M1.length:=nx.nw.len;generalize M1 ++ [MO.lst (c.map D.int)] = M2 at nw2 e6;generalize M1.length = j6 at e6 hj;show Ok (fOp _ _ _ [some (.ref n),some (.int fam),some (.int many),some (.int let_),none,some (.int half),some (.ref j6),none,none,none] M2) _;refine zAg.mpr (zAM.mpr ⟨_,rfl,?_⟩);refine Ok.mono (zH7 nw2.gen (cnt:=many - half) (lo:=half) (hi:=many) (by omega) (by omega) (zY rfl rfl rfl) fun r M' hr g => ?_) ?_
  ·refine zAg.mpr (zAM.mpr ⟨_,rfl,zAX g rfl (zY (x:=.dat (.int many)) (y:=.dat (.int half)) rfl rfl rfl) (by omega) (by omega) fun i M3 i0 i1 nx3 => zGY.mpr ⟨_,rfl,by omega,by omega,nx3⟩⟩)
  rintro x M3 ⟨⟨c3,rfl,hcl3,hc3⟩,nx3⟩;have e6':=nx3.nw.get e6 (by omega) (by omega);refine zTe (xs:=c.map D.int) (ys:=c3.map D.int) ?_ rfl (by simp; omega) (zAU ?_)
  ·unfold zMn; dsimp only; rw [e6']
  rw [zD2,<- zWF];refine new _ _ (nw2.trans nx3.nw) ⟨by simp; omega,fun x hx => ?_⟩;rcases zVn.mp hx with q | q
  ·have:=hc x q; omega
  ·have:=hc3 x q; omega
 rw [zVf (by simpa using w2),zBM,zb,zU,zCM];refine zK (andE (isf 3 _ _ rfl) (isl _ _ rfl)) ?_;by_cases w3 : (decide (fam = 3) && decide (let_ = 0)) = true
 ·rw [zVc w3,zAs];refine Ok.mono (zH7 h (cnt:=many) (lo:=0) (hi:=many) (by omega) (by omega) rfl fun r M' hr g => ?_) ?_
  ·exact zK (zY (x:=.dat (.int ((r : Int) + 1))) (y:=.dat (.int many)) (zY rfl rfl rfl) rfl (zUA m0)) ⟨_,rfl,Int.emod_nonneg _ (by omega),Int.emod_lt_of_pos _ m0,Nx.refl g⟩
  rintro x M1 ⟨⟨c,rfl,hcl,hc⟩,nx⟩;refine zAU ?_;rw [zD2];exact new _ _ nx.nw ⟨hcl,hc⟩
 rw [zVf w3,zBM,zb,zU,zCM];refine zK (isf 3 _ _ rfl) ?_;by_cases w3' : fam = 3
 ·rw [zVc (by simpa using w3'),zAs];refine Ok.mono (zH7 h (cnt:=many) (lo:=0) (hi:=many) (by omega) (by omega) rfl fun r M' hr g => ?_) ?_
  ·refine zK (zSV (b:=decide ((r : Int) = many - 1)) (zUX (x:=.int r) (y:=.int 0) rfl rfl) (zY (x:=.dat (.int r)) (y:=.dat (.int (many - 1))) rfl (zY rfl rfl rfl) (zd (zMk.mpr ⟨rfl,rfl⟩)))) ?_;by_cases q : (r : Int) = many - 1
   ·rw [zWV q,zVc rfl]; exact ⟨0,rfl,by omega,by omega,Nx.refl g⟩
   ·rw [zVw q,zVf (by decide)]; exact ⟨r,rfl,by omega,by omega,Nx.refl g⟩
  rintro x M1 ⟨⟨c,rfl,hcl,hc⟩,nx⟩;refine zAU ?_;rw [zD2];exact new _ _ nx.nw ⟨hcl,hc⟩
 rw [zVf (by simpa using w3'),zBM,zb,zU,zCM];refine zK (orE (isf 4 _ _ rfl) (isf 7 _ _ rfl)) ?_;by_cases w4 : (decide (fam = 4) || decide (fam = 7)) = true
 ·rw [zVc w4,zU,zm];refine zAX h rfl rfl m0 (by omega) fun far M1 a0 a1 nx1 => ?_;rw [zV,zb,zAs];show Ok (zAL _ _ _ _ _ [some (.ref n),some (.int fam),some (.int many),some (.int let_),none,none,none,some (.int far),none,none] M1) _;refine Ok.mono (zH7 nx1.gen (cnt:=many) (lo:=0) (hi:=many) (by omega) (by omega) rfl fun r M' hr g => ?_) ?_
  ·refine zK (zSV (b:=decide (fam = 7)) (zUX (x:=.int (((r : Int) + far) % many)) (y:=.int far) (zY (x:=.dat (.int ((r : Int) + far))) (y:=.dat (.int many)) (zY rfl rfl rfl) rfl (zUA m0)) rfl) (zY (x:=.dat (.int fam)) (y:=.dat (.int 7)) rfl rfl (zd (zMk.mpr ⟨rfl,rfl⟩)))) ?_;by_cases q : fam = 7
   ·rw [zWV q,zVc rfl]; exact ⟨far,rfl,a0,a1,Nx.refl g⟩
   ·rw [zVw q,zVf (by decide)]; exact ⟨_,rfl,Int.emod_nonneg _ (by omega),Int.emod_lt_of_pos _ m0,Nx.refl g⟩
  rintro x M2 ⟨⟨c,rfl,hcl,hc⟩,nx⟩;refine zAU ?_;rw [zD2];exact new _ _ (nx1.trans nx).nw ⟨hcl,hc⟩
 rw [zVf w4,zBM,zb,zU,zm];refine zD1.mpr (zK (zw rfl (zr rfl)) ?_);refine Ok.mono (zO8 h m0 m1) ?_;rintro d M1 ⟨j,c,rfl,ej,cc,hj,nw1,_⟩;have cl:=cc.1;rw [zV,zb,zU,zCM];refine zK (andE (isf 6 _ _ rfl) (isl _ _ rfl)) ?_;by_cases w6 : (decide (fam = 6) && decide (let_ = 0)) = true
 ·rw [zVc w6,zU,zm];refine zAg.mpr (zAM.mpr ⟨_,rfl,zAX nw1.gen rfl rfl m0 (by omega) fun p M2 p0 p1 nx2 => ?_⟩);have ej2:=nx2.nw.get ej (by omega) (by omega);refine zQh (zAZ ej2) (zMO p0 (by omega)) ?_;rw [zV,zb,zJ3];refine zAM.mpr ⟨_,rfl,?_⟩;rw [zV];refine zAM.mpr ⟨_,rfl,zAX nx2.gen rfl rfl m0 (by omega) fun q M3 q0 q1 nx3 => ?_⟩;have ej3:=nx3.nw.get ej2 (by omega) (by omega);rw [zV];have eq' : q = ((q.toNat : Nat) : Int):=by omega
  refine ⟨M3.set j (.lst ((c.map D.int).set q.toNat (.int (c.getD p.toNat 0)))),?_,?_⟩
  ·have:=zHx (k:=q.toNat) (d:=.int (c.getD p.toNat 0)) ej3 (by rw [zVW]; omega);rw [<- eq'] at this; exact this
  rw [zb];refine zA1 rfl ⟨j,c.set q.toNat (c.getD p.toNat 0),rfl,?_,zPU cc (by omega),hj,?_⟩
  ·rw [zWH (zVQ.mp ej3).1,List.map_set]
  ·refine ((nw1.trans nx2.nw).trans nx3.nw).setB h hj ?_;show D.unds _ _ = true;rw [<- List.map_set]; exact zAY _ _
 ·rw [zVf w6,zBM,zb];exact zA1 rfl ⟨j,c,rfl,ej,cc,hj,nw1⟩
def zDp (many : Int) (cs : List (List Int)) : List (List Int):=(List.range many.toNat).map fun r => cs.map fun c => c.getD r 0
theorem zNZ (h0 : 0 < many) (hc : ∀ c ∈ cs,Col many c) (hl : 0 < cs.length) : IsM (zDp many cs) cs.length:=by
 have hlen : (zDp many cs).length = many.toNat:=by unfold zDp; simp
 refine ⟨by omega,hl,fun r hr => ?_⟩;rw [hlen];unfold zDp at hr;obtain ⟨k,hk,rfl⟩:=zVe.mp hr;refine ⟨by simp,fun g hg => ?_⟩;obtain ⟨c,hcm,rfl⟩:=zVe.mp hg;have:=hc c hcm;have h1:=this.1;have:=zQq this (j:=k) (by have:=zV1.mp hk; omega);omega
def zQP (M : Mem) (lo : Nat) (many : Int) (js : List Nat) (cs : List (List Int)) : Prop:=js.length = cs.length /\ ∀ (i : Nat) j c,js[i]? = some j -> cs[i]? = some c -> lo <= j /\ M[j]? = some (.lst (c.map D.int)) /\ Col many c
theorem zMY (h : Gen M n k) (hm : 0 < many) (hm1 : many <= 900) (hl : 0 < lm) (hl1 : lm <= 900) :
  Ok (zA8 [.ref n,.int many,.int lm] M) fun d M' => (∃ zA l,d = mD zA /\ IsM zA l /\ (zA.length : Int) = many /\ (l : Int) = lm) /\ Nw M M' n k:=by
 obtain ⟨hn,hk⟩:=h.lt;unfold zA8;refine zRG ?_;rw [zAV];unfold zDT;show OkS (zX _ _ [some (.ref n),some (.int many),some (.int lm),none,none,none,none,none] M) _;rw [zU,zm];refine zAX h rfl rfl (by decide) (by decide) fun fam M1 f0 f1 nx1 => ?_;rw [zV,zb,zU,zm];show Ok (zAL _ _ _ _ _ [some (.ref n),some (.int many),some (.int lm),some (.int fam),none,none,none,none] M1) _;refine zEr.mpr ⟨_,_,_,zCw (j:=lm) rfl (by omega) (by omega),by rw [zCA]; exact z0 (by omega),?_⟩;refine Ok.mono (zLp (n:=lm.toNat) (I:=fun i acc M' => ∃ (js : List Nat) (cs : List (List Int)),acc = js.map D.ref /\ zQP M' M.length many js cs /\ cs.length = i /\ Nw M M' n k) ?_ ⟨[],[],rfl,⟨rfl,fun i j c h => by simp at h⟩,rfl,nx1.nw⟩) ?_
 ·rintro i acc M' hi ⟨js,cs,rfl,hcs,hcl,nw⟩;refine ⟨_,rfl,?_⟩;refine zD1.mpr (zK (zw (d:=.ref n) rfl (zw (d:=.int fam) rfl (zw (d:=.int many) rfl (zr (d:=.int (i : Nat)) rfl)))) ?_);refine Ok.mono (zNd nw.gen hm (by omega)) ?_;rintro d M2 ⟨j,c,rfl,ec,cc,hj,nw2⟩;have hle:=nw.len;rw [zV];refine ⟨js ++ [j],cs ++ [c],by simp,⟨by simp [hcs.1],fun a b c' h1 h2 => ?_⟩,by simp [hcl],nw.trans nw2⟩;by_cases ha : a < js.length
  ·rw [zVU ha] at h1;rw [zVU (by rw [<- hcs.1]; exact ha)] at h2;obtain ⟨q1,q2,q3⟩:=hcs.2 a b c' h1 h2;exact ⟨q1,nw2.get q2 (by omega) (by omega),q3⟩
  ·have ha' : a = js.length:=by
    have:=(zVQ.mp h1).1;simp at this; omega
   subst ha';rw [zWX (zVT _)] at h1;rw [zWX (by rw [hcs.1]; exact zVT _)] at h2;simp at h1;rw [hcs.1] at h2;simp at h2;subst h1 h2;exact ⟨by omega,ec,cc⟩
 ·rintro ys M2 ⟨js,cs,rfl,hcs,hcl,nw⟩;refine zAU ?_;rw [zb];have hju : D.unds M2.length (js.map D.ref) = true:=zFf fun z hz => by
   obtain ⟨b,hb,rfl⟩:=zVe.mp hz;obtain ⟨i,hi,rfl⟩:=List.mem_iff_getElem.mp hb;have hi' : i < cs.length:=by rw [<- hcs.1]; exact hi
   obtain ⟨_,q2,_⟩:=hcs.2 i js[i] cs[i] (zVR hi) (zVR hi');simp [D.und,(zVQ.mp q2).1]
  have nwA:=nw.trans (nw.gen.lst (js.map D.ref) hju);have eA : (M2 ++ [MO.lst (js.map D.ref)])[M2.length]? = some (.lst (js.map D.ref)):=zBT _ _;have hA : zQP (M2 ++ [MO.lst (js.map D.ref)]) M.length many js cs:=⟨hcs.1,fun i j c h1 h2 => by
   obtain ⟨q1,q2,q3⟩:=hcs.2 i j c h1 h2;exact ⟨q1,by rw [zVU (zVQ.mp q2).1]; exact q2,q3⟩⟩
  generalize M2 ++ [MO.lst (js.map D.ref)] = A at nwA eA hA;generalize M2.length = j at eA;show OkS (zAJ _ [some (.ref n),some (.int many),some (.int lm),some (.int fam),some (.ref j),none,none,none] A) _;have hcol : ∀ c ∈ cs,Col many c:=fun c hc => by
   obtain ⟨i,hi,rfl⟩:=List.mem_iff_getElem.mp hc;exact (hA.2 i (js[i]'(by rw [hA.1]; exact hi)) cs[i] (zVR _) (zVR _)).2.2
  have hlen : (zDp many cs).length = many.toNat:=by unfold zDp; simp
  refine zA1 (d:=mD (zDp many cs)) ?_ ⟨⟨zD4 _,nwA.len,nwA.wf0 h⟩,⟨zDp many cs,cs.length,rfl,zNZ hm hcol (by omega),by omega,by omega⟩,nwA.trim h⟩;refine (zCs (zCL (List.range many.toNat) (fun k => D.int k) (fun k => .tup ((cs.map fun c => c.getD k 0).map D.int)) (zJa (f:=zD 1) rfl (by omega) (by omega)) trivial (by simp; omega) fun r hr => ⟨_,rfl,?_⟩) zEF).trans ?_
  ·have hr':=zV1.mp hr;refine (zCs (zCL (gd:=zEx (.dat (.ref j)) (js.map D.ref)) (List.range js.length) (fun i => D.ref (js.getD i 0)) (fun i => .int ((cs.getD i []).getD r 0)) ?_ ?_ (by rw [zXK,hA.1,hcl]; omega) fun i hi => ⟨_,rfl,?_⟩) zEF).trans ?_
   ·rw [show ((List.range js.length).map fun i => D.ref (js.getD i 0)) = js.map D.ref by
     apply List.ext_getElem
     ·simp
     ·intro i h1 h2;simp at h1;simp [h1]]
    exact zFl (x:=.dat (.ref j)) rfl (zAZ eA)
   ·exact .inl eA
   ·have hi':=zV1.mp hi;have hc' : i < cs.length:=by rw [<- hA.1]; exact hi'
    have ej' : js[i]? = some (js.getD i 0):=by rw [zVS,zVR hi']; rfl
    have ec' : cs[i]? = some (cs.getD i []):=by rw [zVS,zVR hc']; rfl
    obtain ⟨_,q2,q3⟩:=hA.2 i _ _ ej' ec';have hz:=q3.1;exact zY (x:=.dat (.ref (js.getD i 0))) (y:=.dat (.int (r : Nat))) rfl rfl (zE3 (zAZ q2) (zMO (by omega) (by omega)))
   ·congr 3;rw [zVl];refine zXA D.tup ?_;apply List.ext_getElem
    ·simp [hA.1]
    ·intro i h1 h2;simp at h1 h2;have h2' : i < cs.length:=h2;simp [h2']
  ·unfold mD zDp; rw [zVl]; rfl
noncomputable def zEd : FS:=(zAJ (zGn (fB zBB (zc (zD 0) zx))))
noncomputable def zAk : FF:=zBJ 1 zEd
noncomputable def zFQ : FS:=(zAJ (zGU [1,2] [2] (zAr (zD 0)) (gN 1) zAC (zAr (zD 0)) (gN 2) (tst (fOp kLt (zD 1) (zD 2))) (zDv (zH (toD (zD 1)) (zH (toD (zD 2)) zS)))))
noncomputable def zAb : FF:=zBJ 3 zFQ
theorem zLf {α : Type} (enc out : α -> D) (keep : α -> Bool) : ∀ (as : List α),(∀ a ∈ as,∃ σ1,g (enc a) σ = some σ1 /\ tc σ1 M = some (keep a,M) /\ (keep a = true -> te σ1 M = some (.dat (out a),M))) -> zA7 g tc te σ all none (as.map enc) M = some ((as.filter keep).map out,M)
 | [],_ => by
  rw [List.map_nil];unfold zA7;rw [zVc (show zA5 none all M from trivial)]; rfl
 | a :: r,h => by
  obtain ⟨σ1,e1,e2,e3⟩:=h a zVb;have ih:=zLf (all:=all) (σ:=σ) enc out keep r fun b hb => h b (zVa _ hb);rw [zVg];unfold zA7;rw [zVc (show zA5 none all M from trivial),e1];dsimp only;rw [e2];cases hk : keep a with
  | false =>
   dsimp only;rw [ih,List.filter_cons_of_neg (by simp [hk])]
  | true =>
   dsimp only;rw [show toD te σ1 M = some (out a,M) by unfold toD; rw [e3 hk]];dsimp only;rw [ih,List.filter_cons_of_pos hk];rfl
theorem zPO {α β : Type} (as : List α) (enc : α -> D) (bs : α -> List β) (enc2 : β -> D) (keep : α -> β -> Bool) (out : α -> β -> D) (B : Nat)
  (hi : fi σ M = some (as.map enc,none,M)) (hB : ∀ a ∈ as,(bs a).length <= B) (hz : as.length * B <= 90000)
  (he : ∀ a ∈ as,∃ σ1,fg (enc a) (zBH own σ) = some σ1 /\ fi2 σ1 M = some ((bs a).map enc2,none,M) /\ ∀ b ∈ bs a,∃ σ2,fg2 (enc2 b) (zBH own2 σ1) = some σ2 /\ tc2 σ2 M = some (keep a b,M) /\ (keep a b = true -> te σ2 M = some (.dat (out a b),M))) :
  zGU own own2 fi fg zAC fi2 fg2 tc2 te σ M = some (.fl (as.flatMap fun a => ((bs a).filter (keep a)).map (out a)),M):=by
 have key : ∀ (r : List α) (acc : List D),(∀ a ∈ r,a ∈ as) -> acc.length + r.length * B <= 90000 -> zKP fg zAC fi2 own2 fg2 tc2 te (zBH own σ) (as.map enc) none (r.map enc) acc M = some (acc ++ r.flatMap fun a => ((bs a).filter (keep a)).map (out a),M):=by
  intro r;induction r with
  | nil =>
   intro acc _ _;rw [List.map_nil];unfold zKP;rw [zVc (show zA5 none (as.map enc) M from trivial)]; simp
  | cons a r ih =>
   intro acc hs hl;have ha:=hs a zVb;obtain ⟨σ1,e1,e2,e3⟩:=he a ha;have hb:=hB a ha;have hlen : (((bs a).filter (keep a)).map (out a)).length <= (bs a).length:=by rw [zVW]; exact List.length_filter_le _ _
   rw [zVu,Nat.add_mul] at hl;rw [zVg];unfold zKP;rw [zVc (show zA5 none (as.map enc) M from trivial),e1];dsimp only;rw [show zAC σ1 M = some (true,M) from rfl];dsimp only;rw [e2];dsimp only;rw [zVc (z0 (by rw [zVW]; omega)),zLf enc2 (out a) (keep a) (bs a) e3];dsimp only;rw [ih _ (fun b hb => hs b (zVa _ hb)) (by rw [zVd]; omega)];rw [List.flatMap_cons,zWT]
 unfold zGU;rw [hi];dsimp only;rw [key as [] (fun _ h => h) (by simpa using hz)];simp
def ze (xs : List Int) : List (List Int):=xs.flatMap fun a => (xs.filter fun b => decide (a < b)).map fun b => [a,b]
theorem zFn (hz : xs.length <= 200) : zAb [tI xs] M = some (.ref M.length,M ++ [.lst ((ze xs).map tI)]):=by
 suffices h : Ok (zAb [tI xs] M) fun d M' => d = .ref M.length /\ M' = M ++ [.lst ((ze xs).map tI)] by
  obtain ⟨d,M',e,rfl,rfl⟩:=h; exact e
 unfold zAb;rw [zAV];unfold zFQ;rw [zAs];have hq : xs.length * xs.length <= 90000:=zVo (zWz hz hz) (by decide);refine zK (zPO xs D.int (fun _ => xs) D.int (fun a b => decide (a < b)) (fun a b => tI [a,b]) xs.length (zFe rfl) (fun _ _ => zVT _) hq fun a ha => ⟨_,rfl,zFe rfl,fun b hb => ⟨_,rfl,?_,fun _ => ?_⟩⟩) (zAU ⟨rfl,?_⟩)
 ·exact zAx (zY (x:=.dat (.int a)) (y:=.dat (.int b)) rfl rfl (zd (zS1.mpr ⟨rfl,rfl⟩)))
 ·unfold zDv;rw [zw (d:=.int a) rfl (zr (d:=.int b) rfl)];dsimp only;rw [zVc (z0 (by simp))]; rfl
 ·congr 3;unfold ze;rw [List.map_flatMap];congr 1;funext a;rw [zVl]; rfl
theorem zAp : p ∈ ze xs ↔ ∃ a b,p = [a,b] /\ a ∈ xs /\ b ∈ xs /\ a < b:=by
 unfold ze;rw [List.mem_flatMap];constructor
 ·rintro ⟨a,ha,h⟩;obtain ⟨b,hb,rfl⟩:=zVe.mp h;obtain ⟨h1,h2⟩:=zWY.mp hb;exact ⟨a,b,rfl,ha,h1,zWJ h2⟩
 ·rintro ⟨a,b,rfl,ha,hb,hlt⟩;exact ⟨a,ha,zVe.mpr ⟨b,zWY.mpr ⟨hb,zWV hlt⟩,rfl⟩⟩
theorem zFt (hz : zA.length <= 1000) : zAk [mD zA] M = some (tI ((List.range zA.length).map fun (k : Nat) => (k : Int)),M):=by
 refine zd ?_;unfold zAk;rw [zAV];unfold zEd;refine zA1 (d:=tI ((List.range zA.length).map fun (k : Nat) => (k : Int))) ?_ ⟨rfl,rfl⟩;unfold zGn;rw [show fB zBB (zc (zD 0) zx) ([mD zA].map some ++ List.replicate (1 - [mD zA].length) none) M = some (.dat (.int zA.length),M) from zFv rfl];dsimp only;rw [zVc ⟨by omega,by omega⟩];unfold upD tI;rw [zVl,show (zA.length : Int).toNat = zA.length by omega]; rfl
def zKC (g : List Int) : List Key:=g.map Sum.inl
theorem zK4 : ∀ {a b : List Int},zKC a = zKC b -> a = b
 | [],[],_ => rfl
 | [],_ :: _,h => by cases h
 | _ :: _,[],h => by cases h
 | x :: a,y :: b,h => by
  have h1:=(zWR h).1;have h2:=zK4 (zWR h).2;cases h1; rw [h2]
theorem zHP : ∀ g : List Int,zHa (g.map D.int) = some (zKC g)
 | [] => rfl
 | x :: r => by
  rw [zVg];unfold zHa;rw [zHP r];rfl
theorem zHk (g : List Int) : tkD (tI g) = some (zKC g):=zHP g
abbrev zKF (T : List (List Int × D)) : List (D × D):=T.map fun q => (tI q.1,q.2)
abbrev dT (T : List (List Int × D)) : MO:=.dicT (zKF T)
def zM : List (List Int × D) -> List Int -> Option D
 | [],_ => none
 | q :: r,g => if q.1 = g then some q.2 else zM r g
def zCu (T : List (List Int × D)) (g : List Int) (v : D) : List (List Int × D):=match zM T g with
 | some _ => T.map fun q => if q.1 = g then (q.1,v) else q
 | none => T ++ [(g,v)]
theorem zKV (a g : List Int) : decide (tkD (tI a) = some (zKC g)) = decide (a = g):=by
 rw [zHk];by_cases h : a = g
 ·subst h; simp
 ·rw [zVw h,zVw];intro e;exact h (zK4 (zWN e))
theorem zOp (g : List Int) : ∀ T : List (List Int × D),zE2 tkD (zKF T) (zKC g) = zM T g
 | [] => rfl
 | q :: r => by
  have ih:=zOp g r;unfold zE2 at ih ⊢;unfold zKF at ih ⊢;rw [zVg,zW9];dsimp only;rw [zKV];unfold zM;by_cases h : q.1 = g
  ·rw [zWV h,zVc h]; rfl
  ·rw [zVw h,zVf h]; exact ih
theorem zSH (g : List Int) : ∀ T : List (List Int × D),((zKF T).any fun p => decide (tkD p.1 = some (zKC g))) = (zM T g).isSome
 | [] => rfl
 | q :: r => by
  have ih:=zSH g r;unfold zKF at ih ⊢;rw [zVg,List.any_cons,zKV];unfold zM;by_cases h : q.1 = g
  ·rw [zWV h,zVc h]; rfl
  ·rw [zVw h,zVf h,Bool.false_or]; exact ih
theorem zUa (T : List (List Int × D)) (g : List Int) (v : D) : zLM tkD (zKF T) (zKC g) (tI g) v = zKF (zCu T g v):=by
 unfold zLM zCu;rw [zSH];cases h : zM T g with
 | none =>
  rw [zVf (by simp)];unfold zKF; rw [zWF]; rfl
 | some d =>
  rw [zVc (by simp)];unfold zKF;dsimp only;rw [zVl,zVl];apply List.map_congr_left;intro q _;show (if tkD (tI q.1) = some (zKC g) then (tI q.1,v) else (tI q.1,q.2)) = (tI (if q.1 = g then (q.1,v) else q).1,(if q.1 = g then (q.1,v) else q).2);have hd:=zKV q.1 g;by_cases hq : q.1 = g
  ·rw [zWV hq] at hd;rw [zVc (zWJ hd),zVc hq]
  ·rw [zVw hq] at hd;rw [zVf (of_decide_eq_false hd),zVf hq]
theorem zEs (T : List (List Int × D)) (g h : List Int) (v : D) : zM (zCu T g v) h = if g = h then some v else zM T h:=by
 have app : ∀ (T : List (List Int × D)),zM T g = none -> zM (T ++ [(g,v)]) h = if g = h then some v else zM T h:=by
  intro T;induction T with
  | nil => intro _; rfl
  | cons q r ih =>
   intro e;unfold zM at e;by_cases hq : q.1 = g
   ·rw [zVc hq] at e; cases e
   ·rw [zVf hq] at e;show (if q.1 = h then some q.2 else zM (r ++ [(g,v)]) h) = if g = h then some v else if q.1 = h then some q.2 else zM r h
    rw [ih e];by_cases h1 : q.1 = h
    ·rw [zVc h1,zVc h1,zVf (fun z => hq (h1.trans z.symm))]
    ·rw [zVf h1,zVf h1]
 have mp : ∀ (T : List (List Int × D)),(zM T g).isSome = true -> zM (T.map fun q => if q.1 = g then (q.1,v) else q) h = if g = h then some v else zM T h:=by
  intro T;by_cases hgh : g = h
  ·subst hgh;induction T with
   | nil => intro e; cases e
   | cons q r ih =>
    intro e;rw [zVg];unfold zM;by_cases hq : q.1 = g
    ·rw [zVc hq]; simp [hq]
    ·rw [zVf hq,zVf hq];unfold zM at e;rw [zVf hq] at e;rw [ih e,zVc rfl,zVc rfl]
  ·intro hx;clear hx;rw [zVf hgh];clear app;induction T with
   | nil => rfl
   | cons q r ih =>
    rw [zVg];unfold zM;by_cases hq : q.1 = g
    ·have : ¬ q.1 = h:=fun z => hgh (hq.symm.trans z);rw [zVc hq];show (if q.1 = h then some v else _) = _;rw [zVf this,zVf this]; exact ih
    ·rw [zVf hq];by_cases h1 : q.1 = h
     ·rw [zVc h1,zVc h1]
     ·rw [zVf h1,zVf h1]; exact ih
 unfold zCu;cases e : zM T g with
 | none => exact app T e
 | some d => exact mp T (by rw [e]; rfl)
theorem zKX (T : List (List Int × D)) (g : List Int) (v : D) : (zCu T g v).length <= T.length + 1:=by
 unfold zCu;cases zM T g with
 | none => simp
 | some d => simp
section
variable {M : Mem} {n : Nat} {T : List (List Int × D)} {g : List Int}
theorem dgT (h : M[n]? = some (dT T)) : zGl M (.dat (.ref n)) (tI g) = some (zM T g):=by
 unfold zGl; dsimp only; rw [h]; dsimp only; rw [zHk]; dsimp only; rw [zOp]
theorem zOI (h : M[n]? = some (dT T)) : zB3 neg (.dat (tI g)) (.dat (.ref n)) M = some (.dat (.bl (if neg then !(zM T g).isSome else (zM T g).isSome)),M):=by
 unfold zB3; dsimp only; rw [dgT h]
theorem zHs (h : M[n]? = some (dT T)) (hd : zM T g = some d) : zA0 (.dat (.ref n)) (.dat (tI g)) M = some (.dat d,M):=by
 unfold zA0; dsimp only; rw [dgT h,hd]
theorem zNO (h : M[n]? = some (dT T)) (hz : T.length < 90000) : zHu M n (tI g) v = some (M.set n (dT (zCu T g v))):=by
 unfold zHu; rw [h]; dsimp only; rw [zHk]; dsimp only; rw [zVc (by rw [zVW]; exact zVm hz (z0 (by omega))),zUa]
end
noncomputable def zEL : FS:=(zX (zAG 1 zMJ)
  (zX (zDu (zAr (zW zAb (zH (toD (zW zAk (zH (toD (zD 0)) zS))) zS))) (gN 2) (zDu (zAW (zH (toD (fB zBB (zc (fOp kIx (zD 0) (fC (.int 0))) zx))) zS)) (gN 3) (zX (zAG 4 (zW zA9 (zH (toD (zD 0)) (zH (toD (zD 2)) (zH (toD (zD 3)) zS)))))
  (zX (sIf (tst (fOp (zB3 true) (zD 4) (zD 1))) (zEe (zBS zS) (zD 1) (zD 4)) zCU)
  (zBz (fM zAt (fOp zA0 (zD 1) (zD 4)) (zH (toD (zD 2)) zS)))))))
  (zAJ (zD 1))))
noncomputable def zCG : FF:=zBJ 5 zEL
def zDX (zA : List (List Int)) (ps : List (List Int × Int)) (g : List Int) : List (List Int):=(ps.filter fun q => decide (setR zA q.1 q.2 = g)).map (·.1)
theorem zHc (zA : List (List Int)) (ps : List (List Int × Int)) (p : List Int) (x : Int) (g : List Int) : zDX zA (ps ++ [(p,x)]) g = zDX zA ps g ++ (if setR zA p x = g then [p] else []):=by
 unfold zDX;rw [List.filter_append,zWF];congr 1;by_cases h : setR zA p x = g
 ·rw [zVc h,List.filter_cons_of_pos (by simpa using h)]; rfl
 ·rw [zVf h,List.filter_cons_of_neg (by simpa using h)]; rfl
structure Sr (zA : List (List Int)) (M : Mem) (jd lo : Nat) (ps : List (List Int × Int)) : Prop where
 ex : ∃ T : List (List Int × D),M[jd]? = some (dT T) /\ T.length <= ps.length /\ (∀ g d,zM T g = some d -> ∃ j,d = .ref j /\ lo < j /\ M[j]? = some (.lst ((zDX zA ps g).map tI))) /\ (∀ g,zM T g = none -> zDX zA ps g = []) /\ ∀ g g' j,zM T g = some (.ref j) -> zM T g' = some (.ref j) -> g = g'
theorem zOO {zA : List (List Int)} {l : Nat} (m : IsM zA l) (hR : zA.length < 64) {M : Mem} {jd lo : Nat} {ps : List (List Int × Int)} (hps : ps.length < 50000) (hlo : jd < lo) (hlo2 : lo < M.length) (sr : Sr zA M jd lo ps) {p : List Int} (hp : IsS zA p) {x : Int} (x0 : 0 <= x) (x1 : x < l) {y4 : Option D} :
  OkS (zX (zAG 4 (zW zA9 (zH (toD (zD 0)) (zH (toD (zD 2)) (zH (toD (zD 3)) zS))))) (zX (sIf (tst (fOp (zB3 true) (zD 4) (zD 1))) (zEe (zBS zS) (zD 1) (zD 4)) zCU) (zBz (fM zAt (fOp zA0 (zD 1) (zD 4)) (zH (toD (zD 2)) zS)))) [some (mD zA),some (.ref jd),some (tI p),some (.int x),y4] M)
   fun o σ' M' => o = .nx /\ (∃ y,σ' = [some (mD zA),some (.ref jd),some (tI p),some (.int x),y]) /\ Sr zA M' jd lo (ps ++ [(p,x)]) /\ M.length <= M'.length /\ ∀ j,j <= lo -> j ≠ jd -> M'[j]? = M[j]?:=by
 obtain ⟨T,ed,hT,h1,h2,h3⟩:=sr.ex;refine zBx (zp (zw rfl (zw rfl (zr rfl))) (zHA m hR hp x0 x1)) ?_;generalize hg : setR zA p x = goal;show OkS (zX _ _ [some (mD zA),some (.ref jd),some (tI p),some (.int x),some (tI goal)] M) _;rw [zU,zCM];refine zK (M:=M) (a:=!(zM T goal).isSome) (zAx (zY (x:=.dat (tI goal)) (y:=.dat (.ref jd)) rfl rfl (zOI ed))) ?_
 have last : ∀ (A : Mem) (T' : List (List Int × D)) (j : Nat),A[jd]? = some (dT T') -> zM T' goal = some (.ref j) -> lo < j -> A[j]? = some (.lst ((zDX zA ps goal).map tI)) -> T'.length <= ps.length + 1 -> M.length <= A.length -> (∀ j,j <= lo -> j ≠ jd -> A[j]? = M[j]?) ->
   (∀ g d,zM T' g = some d -> ∃ j,d = .ref j /\ lo < j /\ A[j]? = some (.lst ((zDX zA ps g).map tI))) -> (∀ g,zM T' g = none -> zDX zA ps g = []) -> (∀ g g' j,zM T' g = some (.ref j) -> zM T' g' = some (.ref j) -> g = g') ->
   OkS (zBz (fM zAt (fOp zA0 (zD 1) (zD 4)) (zH (toD (zD 2)) zS)) [some (mD zA),some (.ref jd),some (tI p),some (.int x),some (tI goal)] A)
    fun o σ' M' => o = .nx /\ (∃ y,σ' = [some (mD zA),some (.ref jd),some (tI p),some (.int x),y]) /\ Sr zA M' jd lo (ps ++ [(p,x)]) /\ M.length <= M'.length /\ ∀ j,j <= lo -> j ≠ jd -> M'[j]? = M[j]?:=by
  intro A T' j ea el hj ej hz hle hfr k1 k2 k3;rw [zCm];have hfl : (zDX zA ps goal).length <= ps.length:=by unfold zDX; rw [zVW]; exact List.length_filter_le _ _
  have jl : j < A.length:=(zVQ.mp ej).1;refine zMM.mpr (zK (zY (x:=.dat (.ref jd)) (y:=.dat (tI goal)) rfl rfl (zHs ea el)) ⟨⟨_,zCX ej⟩,zK (zr (d:=tI p) rfl) ?_⟩);rw [zEN ej (by rw [zVW]; exact zVm (m:=95000) (by omega) (z0 (by omega)))];refine ⟨rfl,⟨_,rfl⟩,⟨T',by rw [zVr (by omega)]; exact ea,by simpa using hz,fun g d hd => ?_,fun g hd => ?_,k3⟩,by simpa using hle,fun i hi hn => by rw [zVr (by omega)]; exact hfr i hi hn⟩
  ·obtain ⟨j',rfl,hj',ej'⟩:=k1 g d hd;refine ⟨j',rfl,hj',?_⟩;rw [zHc,hg];by_cases hgg : goal = g
   ·subst hgg;rw [el] at hd;cases hd;rw [zWH jl,zVc rfl,zWF]; rfl
   ·rw [zVf hgg,zV7];have : j ≠ j':=fun z => hgg (k3 goal g j el (by rw [z]; exact hd));rw [zVr this]; exact ej'
  ·rw [zHc,hg,zVf (fun z => by rw [<- z,el] at hd; cases hd),zV7];exact k2 g hd
 cases hl : zM T goal with
 | some d =>
  obtain ⟨j,rfl,hj,ej⟩:=h1 goal d hl;rw [zVf (by simp),zBM,zb];exact last M T j ed hl hj ej (by omega) (zVT _) (fun _ _ _ => rfl) h1 h2 h3
 | none =>
  rw [zVc (by simp)];have e0:=h2 goal hl;have jdl : jd < M.length:=(zVQ.mp ed).1;have ed' : (M ++ [MO.lst ([] : List D)])[jd]? = some (dT T):=by rw [zVU jdl]; exact ed
  refine ⟨.nx,[some (mD zA),some (.ref jd),some (tI p),some (.int x),some (tI goal)],(M ++ [MO.lst ([] : List D)]).set jd (dT (zCu T goal (.ref M.length))),?_,?_⟩
  ·unfold zEe;rw [show toD (zBS zS) [some (mD zA),some (.ref jd),some (tI p),some (.int x),some (tI goal)] M = some (.ref M.length,M ++ [.lst []]) by
    unfold toD zBS zS; dsimp only; rw [zVc (z0 (by simp))]]
   dsimp only;rw [show toD (zD 1) [some (mD zA),some (.ref jd),some (tI p),some (.int x),some (tI goal)] (M ++ [.lst []]) = some (.ref jd,M ++ [.lst []]) from rfl];dsimp only;rw [show toD (zD 4) [some (mD zA),some (.ref jd),some (tI p),some (.int x),some (tI goal)] (M ++ [.lst []]) = some (tI goal,M ++ [.lst []]) from rfl];dsimp only;rw [zNO ed' (by omega)]
  rw [zb];have hput:=fun g => zEs T goal g (.ref M.length);refine last _ (zCu T goal (.ref M.length)) M.length (zWH (by simp; omega)) (by rw [hput,zVc rfl]) hlo2 ?_ (by have:=zKX T goal (.ref M.length); omega) (by simp) (fun i hi hn => ?_) (fun g d hd => ?_) (fun g hd => ?_) (fun g g' j hd hd' => ?_)
  ·rw [zVr (by omega),e0]; simp
  ·rw [zVr (Ne.symm hn),zVU (by omega)]
  ·rw [hput] at hd;by_cases hgg : goal = g
   ·subst hgg;rw [zVc rfl] at hd;cases hd;exact ⟨M.length,rfl,hlo2,by rw [zVr (by omega),e0]; simp⟩
   ·rw [zVf hgg] at hd;obtain ⟨j,rfl,hj,ej⟩:=h1 g d hd;exact ⟨j,rfl,hj,by rw [zVr (by omega),zVU (zVQ.mp ej).1]; exact ej⟩
  ·rw [hput] at hd;by_cases hgg : goal = g
   ·rw [zVc hgg] at hd; cases hd
   ·rw [zVf hgg] at hd; exact h2 g hd
  ·rw [hput] at hd hd';by_cases a : goal = g
   ·by_cases b : goal = g'
    ·rw [<- a,<- b]
    ·rw [zVc a] at hd;rw [zVf b] at hd';cases hd;obtain ⟨j,e,_,ej⟩:=h1 g' _ hd';cases e;exact absurd (zVQ.mp ej).1 (zV5 _)
   ·rw [zVf a] at hd;by_cases b : goal = g'
    ·rw [zVc b] at hd';cases hd';obtain ⟨j,e,_,ej⟩:=h1 g _ hd;cases e;exact absurd (zVQ.mp ej).1 (zV5 _)
    ·rw [zVf b] at hd';exact h3 g g' j hd hd'
def zQ (zA : List (List Int)) : List Int:=(List.range zA.length).map fun (k : Nat) => (k : Int)
def zCh (l : Nat) (ps : List (List Int)) : List (List Int × Int):=ps.flatMap fun p => (List.range l).map fun (x : Nat) => (p,(x : Int))
theorem zHr (l : Nat) (ps : List (List Int)) : (zCh l ps).length = ps.length * l:=by
 unfold zCh;induction ps with
 | nil => simp
 | cons p r ih => rw [List.flatMap_cons,zVd,ih,zVW,zXK,zVu,Nat.add_mul]; omega
theorem zBb (xs : List Int) : (ze xs).length <= xs.length * xs.length:=by
 unfold ze;have : ∀ (r : List Int),(r.flatMap fun a => (xs.filter fun b => decide (a < b)).map fun b => [a,b]).length <= r.length * xs.length:=by
  intro r;induction r with
  | nil => simp
  | cons a r ih =>
   rw [List.flatMap_cons,zVd,zVW,zVu,Nat.add_mul];have:=List.length_filter_le (fun b => decide (a < b)) xs;omega
 exact this xs
theorem zMs (h : p ∈ ze (zQ zA)) : IsS zA p:=by
 obtain ⟨a,b,rfl,ha,hb,hlt⟩:=zAp.mp h;obtain ⟨i,hi,rfl⟩:=zVe.mp ha;obtain ⟨j,hj,rfl⟩:=zVe.mp hb;have:=zV1.mp hi;have:=zV1.mp hj;refine ⟨by simp; omega,by simp,fun x hx => ?_⟩;simp only [zVZ,zVs,zWi] at hx;omega
theorem zG7 {M M1 : Mem} (ha : a σ M = some (ds,M)) (hg : g ds M = some (.ref j,M1)) (hj : M1[j]? = some (.lst xs)) : zAr (zW g a) σ M = some (xs,zEx (.dat (.ref j)) xs,M1):=by
 have : zW g a σ M = some (.dat (.ref j),M1):=by unfold zW; rw [ha]; dsimp only; rw [hg]
 unfold zAr; rw [this]; dsimp only; rw [zAZ hj]
theorem zRL {zA : List (List Int)} {l : Nat} (m : IsM zA l) (hR : zA.length < 64) (hl : l <= 12) {M : Mem} : Ok (zCG [mD zA] M) fun d M' => d = .ref M.length /\ Sr zA M' M.length (M.length + 1) (zCh l (ze (zQ zA))) /\ M.length + 1 < M'.length /\ ∀ j,j < M.length -> M'[j]? = M[j]?:=by
 unfold zCG;rw [zAV];unfold zEL;show OkS (zX _ _ [some (mD zA),none,none,none,none] M) _;rw [zU,zm];refine zK (M:=M ++ [.dicT []]) (a:=.dat (.ref M.length)) rfl ?_;rw [zV,zb,zU,zCR];show ∃ xs gd M1,zAr _ [some (mD zA),some (.ref M.length),none,none,none] (M ++ [.dicT []]) = some (xs,gd,M1) /\ _;have hrl : (zQ zA).length = zA.length:=by unfold zQ; simp
 have epr:=zFn (xs:=zQ zA) (by omega) (M:=M ++ [.dicT []]);refine ⟨_,_,_,zG7 (zr (d:=tI (zQ zA)) (zp (zr (d:=mD zA) rfl) (zFt (by omega)))) epr (zBT _ _),?_⟩;rw [show (M ++ [MO.dicT []]).length = M.length + 1 by simp];generalize hP : ze (zQ zA) = P;have hPl : P.length <= 3969:=by
  rw [<- hP];have h1:=zBb (zQ zA);rw [hrl] at h1;exact zVo h1 (zWz (show zA.length <= 63 by omega) (show zA.length <= 63 by omega))
 have e1 : (M ++ [MO.dicT []] ++ [MO.lst (P.map tI)])[M.length + 1]? = some (.lst (P.map tI)):=by
  rw [zWT,zWX (by omega)]; simp
 have e0 : (M ++ [MO.dicT []] ++ [MO.lst (P.map tI)])[M.length]? = some (dT []):=by
  rw [zWT,zWX (by omega)]; simp
 have ef : ∀ j,j < M.length -> (M ++ [MO.dicT []] ++ [MO.lst (P.map tI)])[j]? = M[j]?:=fun j hj => by rw [zWT,zVU hj]
 have el : (M ++ [MO.dicT []] ++ [MO.lst (P.map tI)]).length = M.length + 2:=by simp
 generalize M ++ [MO.dicT []] ++ [MO.lst (P.map tI)] = M1 at e1 e0 ef el;refine zBt (I:=fun r σ M' => (∃ y2 y3 y4,σ = [some (mD zA),some (.ref M.length),y2,y3,y4]) /\ ∃ us vs : List (List Int),P = us ++ vs /\ r = vs.map tI /\ Sr zA M' M.length (M.length + 1) (zCh l us) /\ M'[M.length + 1]? = some (.lst (P.map tI)) /\ M.length + 1 < M'.length /\ ∀ j,j < M.length -> M'[j]? = M[j]?) ?_ ?_ _ _ _ ⟨⟨_,_,_,rfl⟩,[],P,rfl,rfl,⟨[],e0,by simp,(fun g d h => by cases h),(fun _ _ => rfl),(fun g g' j h => by cases h)⟩,e1,by omega,ef⟩
 ·rintro x r σ M' ⟨⟨y2,y3,y4,rfl⟩,us,vs,hab,hr,sr,ep,hlen,hfr⟩;cases vs with
  | nil => cases hr
  | cons p vs =>
   rw [zVg] at hr;obtain ⟨rfl,rfl⟩:=zWR hr;have hpm : p ∈ ze (zQ zA):=by rw [hP,hab]; simp
   have hul : us.length < 3969:=by have:=zXA List.length hab; simp at this; omega
   refine ⟨.inl ep,_,rfl,?_⟩;show OkS (zDu _ _ _ [some (mD zA),some (.ref M.length),some (tI p),y3,y4] M') _;rw [zCR];refine ⟨_,_,_,zCw (zG1 m rfl) (by omega) (by omega),?_⟩;rw [show (l : Int).toNat = l by omega];refine zLu (n:=l) (I:=fun i σ M'' => (∃ y3 y4,σ = [some (mD zA),some (.ref M.length),some (tI p),y3,y4]) /\ Sr zA M'' M.length (M.length + 1) (zCh l us ++ (List.range i).map fun (x : Nat) => (p,(x : Int))) /\ M''[M.length + 1]? = some (.lst (P.map tI)) /\ M.length + 1 < M''.length /\ ∀ j,j < M.length -> M''[j]? = M[j]?) ?_ ?_ _ _ ⟨⟨_,_,rfl⟩,by simpa using sr,ep,hlen,hfr⟩
   ·rintro i σ M2 hi ⟨⟨y3,y4,rfl⟩,sr2,ep2,hlen2,hfr2⟩;refine ⟨_,rfl,?_⟩;have hcount : (zCh l us ++ (List.range i).map fun (x : Nat) => (p,(x : Int))).length < 50000:=by
     rw [zVd,zHr,zVW,zXK];have:=zWz (show us.length <= 3968 by omega) hl;omega
    refine OkS.mono (zOO m hR hcount (zWK _) hlen2 sr2 (zMs hpm) (x:=(i : Int)) (by omega) (by omega)) ?_;rintro o σ' M3 ⟨rfl,⟨y,rfl⟩,sr3,hl3,hf3⟩;refine ⟨⟨_,_,rfl⟩,?_,by rw [hf3 _ (zVT _) (by omega)]; exact ep2,by omega,fun j hj => by rw [hf3 j (by omega) (by omega)]; exact hfr2 j hj⟩;rw [List.range_succ,zWF,<- zWT];exact sr3
   ·rintro σ M2 ⟨⟨y3,y4,rfl⟩,sr2,ep2,hlen2,hfr2⟩;refine ⟨⟨_,_,_,rfl⟩,us ++ [p],vs,by rw [hab]; simp,rfl,?_,ep2,hlen2,hfr2⟩;have : zCh l (us ++ [p]) = zCh l us ++ (List.range l).map fun (x : Nat) => (p,(x : Int)):=by
     unfold zCh; rw [List.flatMap_append]; simp
    rw [this]; exact sr2
 ·rintro σ M' ⟨⟨y2,y3,y4,rfl⟩,us,vs,hab,hr,sr,ep,hlen,hfr⟩;have : vs = []:=by cases vs with | nil => rfl | cons _ _ => cases hr
  subst this;rw [zV7] at hab;subst hab;refine ⟨.inl ep,?_⟩;rw [zb];exact zA1 rfl ⟨rfl,sr,hlen,hfr⟩
noncomputable def zDi : FS:=(zX (zAG 2 (zW zCG (zH (toD (zD 0)) zS)))
  (zX (zAG 3 (zD 1))
  (zX (zAG 4 (zDP true [5] (zAr (zD 1)) (gN 5) zAC (zD 5) (fC (.int 0))))
  (zX (zBF (zLh (zD 3)) (zX (zAG 6 (zBS zS))
  (zX (zDu (zAr (zD 3)) (gN 5) (zDu (zAr (zB4 (zD 2) (zD 5) (zBS zS))) (gN 7) (sIf (tst (fOp (zB3 true) (zD 7) (zD 4))) (zX (zEe (fOp zAe (fOp zA0 (zD 4) (zD 5)) (fC (.int 1))) (zD 4) (zD 7))
  (zBz (fM zAt (zD 6) (zH (toD (zD 7)) zS)))) zCU)))
  (zAG 3 (zD 6)))) 1000)
  (zAJ (zD 4))))))
noncomputable def zBl : FF:=zBJ 8 zDi
abbrev Fd:=List (List Int × D) × List (List Int)
def zBE (k : Int) (st : Fd) (p : List Int) : Fd:=if (zM st.1 p).isSome then st else (zCu st.1 p (.int k),st.2 ++ [p])
structure Lv (M0 M : Mem) (jf jb : Nat) (st : Fd) : Prop where
 f : M[jf]? = some (dT st.1)
 b : M[jb]? = some (.lst (st.2.map tI))
 len : M0.length <= M.length
 fr : ∀ j,j < M0.length -> j ≠ jf -> j ≠ jb -> M[j]? = M0[j]?
theorem zQG (k : Int) (st : Fd) (p : List Int) : (zBE k st p).1.length <= st.1.length + 1 /\ (zBE k st p).2.length <= st.2.length + 1:=by
 unfold zBE;split
 ·exact ⟨by omega,by omega⟩
 ·exact ⟨zKX _ _ _,by simp⟩
theorem zRe {M0 : Mem} {jf jb js jd jl : Nat} {zA : List (List Int)} {x1 x3 y7 : Option D} {goal : List Int} {k : Int} {ps : List (List Int)} (hne : jf ≠ jb) (h1 : jf < M0.length) (h2 : jb < M0.length) :
  ∀ (M : Mem) (st : Fd),Lv M0 M jf jb st -> M[js]? = some (.lst (ps.map tI)) -> js ≠ jf -> js ≠ jb -> zM st.1 goal = some (.int k) -> st.1.length + ps.length <= 80000 -> st.2.length + ps.length <= 80000 ->
  OkS (zCv (gN 7) (sIf (tst (fOp (zB3 true) (zD 7) (zD 4))) (zX (zEe (fOp zAe (fOp zA0 (zD 4) (zD 5)) (fC (.int 1))) (zD 4) (zD 7)) (zBz (fM zAt (zD 6) (zH (toD (zD 7)) zS)))) zCU) (ps.map tI) (zEx (.dat (.ref js)) (ps.map tI)) (ps.map tI) [some (mD zA),x1,some (.ref jd),x3,some (.ref jf),some (tI goal),some (.ref jb),y7] M)
   fun o σ' M' => o = .nx /\ (∃ y,σ' = [some (mD zA),x1,some (.ref jd),x3,some (.ref jf),some (tI goal),some (.ref jb),y]) /\ Lv M0 M' jf jb (ps.foldl (zBE (k + 1)) st) /\ M'.length = M.length /\ ∀ j,j ≠ jf -> j ≠ jb -> M'[j]? = M[j]?:=by
 intro M st lv ejs n1 n2 hgl z1 z2;refine zBt (I:=fun r σ M' => (∃ y,σ = [some (mD zA),x1,some (.ref jd),x3,some (.ref jf),some (tI goal),some (.ref jb),y]) /\ ∃ us vs : List (List Int),ps = us ++ vs /\ r = vs.map tI /\ Lv M0 M' jf jb (us.foldl (zBE (k + 1)) st) /\ zM (us.foldl (zBE (k + 1)) st).1 goal = some (.int k) /\ (us.foldl (zBE (k + 1)) st).1.length <= st.1.length + us.length /\ (us.foldl (zBE (k + 1)) st).2.length <= st.2.length + us.length /\ M'.length = M.length /\ ∀ j,j ≠ jf -> j ≠ jb -> M'[j]? = M[j]?) ?_ ?_ _ _ _ ⟨⟨_,rfl⟩,[],ps,rfl,rfl,lv,hgl,by simp,by simp,rfl,fun _ _ _ => rfl⟩
 ·rintro x r σ M' ⟨⟨y,rfl⟩,us,vs,hab,hr,lv',hg',l1,l2,hl,hfr⟩;cases vs with
  | nil => cases hr
  | cons p vs =>
   rw [zVg] at hr;obtain ⟨rfl,rfl⟩:=zWR hr;have hul : us.length < ps.length:=by rw [hab]; simp
   refine ⟨.inl (by rw [hfr js n1 n2]; exact ejs),_,rfl,?_⟩;show OkS (sIf _ _ _ [some (mD zA),x1,some (.ref jd),x3,some (.ref jf),some (tI goal),some (.ref jb),some (tI p)] M') _;have hfold : (us ++ [p]).foldl (zBE (k + 1)) st = zBE (k + 1) (us.foldl (zBE (k + 1)) st) p:=by rw [List.foldl_append]; rfl
   generalize us.foldl (zBE (k + 1)) st = st' at lv' hg' l1 l2 hfold;have al:=zQG (k + 1) st' p;rw [zCM];refine zK (M:=M') (a:=!(zM st'.1 p).isSome) (zAx (zY (x:=.dat (tI p)) (y:=.dat (.ref jf)) rfl rfl (zOI lv'.f))) ?_;cases hlk : zM st'.1 p with
   | some d =>
    have ea : zBE (k + 1) st' p = st':=by unfold zBE; rw [hlk]; rfl
    rw [zVf (by simp),zBM];refine ⟨⟨_,rfl⟩,us ++ [p],vs,by rw [hab]; simp,rfl,?_⟩;rw [hfold,ea];exact ⟨lv',hg',by simp; omega,by simp; omega,hl,hfr⟩
   | none =>
    have ea : zBE (k + 1) st' p = (zCu st'.1 p (.int (k + 1)),st'.2 ++ [p]):=by unfold zBE; rw [hlk]; rfl
    have hgp : p ≠ goal:=fun z => by rw [z,hg'] at hlk; cases hlk
    rw [zVc (by simp),zU];have ev : fOp zAe (fOp zA0 (zD 4) (zD 5)) (fC (.int 1)) [some (mD zA),x1,some (.ref jd),x3,some (.ref jf),some (tI goal),some (.ref jb),some (tI p)] M' = some (.dat (.int (k + 1)),M'):=zY (x:=.dat (.int k)) (zY (x:=.dat (.ref jf)) (y:=.dat (tI goal)) rfl rfl (zHs lv'.f hg')) rfl rfl;have hd : OkS (zEe (fOp zAe (fOp zA0 (zD 4) (zD 5)) (fC (.int 1))) (zD 4) (zD 7) [some (mD zA),x1,some (.ref jd),x3,some (.ref jf),some (tI goal),some (.ref jb),some (tI p)] M') fun o σ' M2 => o = .nx /\ σ' = [some (mD zA),x1,some (.ref jd),x3,some (.ref jf),some (tI goal),some (.ref jb),some (tI p)] /\ M2 = M'.set jf (dT (zCu st'.1 p (.int (k + 1)))):=by
     refine ⟨.nx,_,_,?_,rfl,rfl,rfl⟩;unfold zEe;rw [show toD (fOp zAe (fOp zA0 (zD 4) (zD 5)) (fC (.int 1))) [some (mD zA),x1,some (.ref jd),x3,some (.ref jf),some (tI goal),some (.ref jb),some (tI p)] M' = some (.int (k + 1),M') by unfold toD; rw [ev]];dsimp only;rw [show toD (zD 4) [some (mD zA),x1,some (.ref jd),x3,some (.ref jf),some (tI goal),some (.ref jb),some (tI p)] M' = some (.ref jf,M') from rfl];dsimp only;rw [show toD (zD 7) [some (mD zA),x1,some (.ref jd),x3,some (.ref jf),some (tI goal),some (.ref jb),some (tI p)] M' = some (tI p,M') from rfl];dsimp only;rw [zNO lv'.f (by omega)]
    refine OkS.mono hd ?_;rintro o σ' M2 ⟨rfl,rfl,rfl⟩;rw [zb,zCm];have eb : (M'.set jf (dT (zCu st'.1 p (.int (k + 1)))))[jb]? = some (.lst (st'.2.map tI)):=by rw [zVr hne]; exact lv'.b
    refine zMM.mpr (zAM.mpr ⟨_,rfl,⟨_,zCX eb⟩,zK (zr (d:=tI p) rfl) ?_⟩);rw [zEN eb (by rw [zVW]; exact zVm (m:=95000) (by omega) (z0 (by omega)))];have jfl : jf < M'.length:=zVm h1 lv'.len;have jbl : jb < M'.length:=zVm h2 lv'.len;refine ⟨⟨_,rfl⟩,us ++ [p],vs,by rw [hab]; simp,rfl,?_⟩;rw [hfold];refine ⟨?_,?_,by simp; omega,by simp; omega,by simp [hl],fun j q1 q2 => by rw [zVr (Ne.symm q2),zVr (Ne.symm q1)]; exact hfr j q1 q2⟩
    ·rw [ea];refine ⟨by rw [zVr (Ne.symm hne),zWH jfl],by rw [zWH (by simpa using jbl),zWF]; rfl,by simpa using lv'.len,fun j q0 q1 q2 => by rw [zVr (Ne.symm q2),zVr (Ne.symm q1)]; exact lv'.fr j q0 q1 q2⟩
    ·rw [ea];show zM (zCu st'.1 p (.int (k + 1))) goal = _;rw [zEs,zVf hgp]; exact hg'
 ·rintro σ M' ⟨⟨y,rfl⟩,us,vs,hab,hr,lv',hg',l1,l2,hl,hfr⟩;have : vs = []:=by cases vs with | nil => rfl | cons _ _ => cases hr
  subst this;rw [zV7] at hab;subst hab;exact ⟨.inl (by rw [hfr js n1 n2]; exact ejs),rfl,⟨_,rfl⟩,lv',hl,hfr⟩
theorem zUV {f g : FE} {σ : Sd} {M : Mem} {n : Nat} {T : List (List Int × D)} {k : List Int} (hf : f σ M = some (.dat (.ref n),M)) (hn : M[n]? = some (dT T)) (hg : g σ M = some (.dat (tI k),M)) : zB4 f g (zBS zS) σ M = some (.dat ((zM T k).getD (.ref M.length)),M ++ [.lst []]):=by
 have nl : n < M.length:=(zVQ.mp hn).1;unfold zB4;rw [show toD f σ M = some (.ref n,M) by unfold toD; rw [hf]];dsimp only;rw [hn];dsimp only;rw [show toD g σ M = some (tI k,M) by unfold toD; rw [hg]];dsimp only;rw [show toD (zBS zS) σ M = some (.ref M.length,M ++ [.lst []]) by
  unfold toD zBS zS; dsimp only; rw [zVc (z0 (by simp))]]
 dsimp only;rw [dgT (g:=k) (show (M ++ [MO.lst ([] : List D)])[n]? = some (dT T) by rw [zVU nl]; exact hn)]
def zBy (src : List Int -> List (List Int)) (k : Int) (gs : List (List Int)) (st : Fd) : Fd:=gs.foldl (fun st g => (src g).foldl (zBE (k + 1)) st) st
theorem zNc {k : Int} {st : Fd} {p g : List Int} {d : D} (h : zM st.1 g = some d) : zM (zBE k st p).1 g = some d:=by
 unfold zBE;split
 ·exact h
 ·rename_i q;show zM (zCu st.1 p (.int k)) g = some d;rw [zEs,zVf (fun z => q (by rw [z,h]; rfl))]; exact h
theorem zII {k : Int} {g : List Int} {d : D} : ∀ (ps : List (List Int)) {st : Fd},zM st.1 g = some d -> zM (ps.foldl (zBE k) st).1 g = some d
 | [],_,h => h
 | p :: r,_,h => zII r (zNc h)
def zTz (M : Mem) (Ts : List (List Int × D)) (jf jb : Nat) (src : List Int -> List (List Int)) : Prop:=∀ g,(∃ j,zM Ts g = some (.ref j) /\ j ≠ jf /\ j ≠ jb /\ M[j]? = some (.lst ((src g).map tI))) \/ (zM Ts g = none /\ src g = [])
theorem zRz {M0 : Mem} {jf jb jd jl : Nat} {zA : List (List Int)} {x1 y5 y7 : Option D} {k : Int} {gs : List (List Int)} {src : List Int -> List (List Int)} {Ts : List (List Int × D)} (hne : jf ≠ jb) (h1 : jf < M0.length) (h2 : jb < M0.length) (hd : M0[jd]? = some (dT Ts)) (d1 : jd ≠ jf) (d2 : jd ≠ jb) (hl : M0[jl]? = some (.lst (gs.map tI))) (l1 : jl ≠ jf) (l2 : jl ≠ jb) (hs : zTz M0 Ts jf jb src) (B : Nat) (hB : ∀ g ∈ gs,(src g).length <= B)
  {st : Fd} (hg : ∀ g ∈ gs,zM st.1 g = some (.int k)) (Z : Nat) (hZB : Z + B <= 80000) (hZ : ∀ us vs,gs = us ++ vs -> (zBy src k us st).1.length <= Z /\ (zBy src k us st).2.length <= Z) (lv : Lv M0 M0 jf jb st) :
  OkS (zCv (gN 5) (zDu (zAr (zB4 (zD 2) (zD 5) (zBS zS))) (gN 7) (sIf (tst (fOp (zB3 true) (zD 7) (zD 4))) (zX (zEe (fOp zAe (fOp zA0 (zD 4) (zD 5)) (fC (.int 1))) (zD 4) (zD 7)) (zBz (fM zAt (zD 6) (zH (toD (zD 7)) zS)))) zCU)) (gs.map tI) (zEx (.dat (.ref jl)) (gs.map tI)) (gs.map tI) [some (mD zA),x1,some (.ref jd),some (.ref jl),some (.ref jf),y5,some (.ref jb),y7] M0)
   fun o σ' M' => o = .nx /\ (∃ y5 y7,σ' = [some (mD zA),x1,some (.ref jd),some (.ref jl),some (.ref jf),y5,some (.ref jb),y7]) /\ Lv M0 M' jf jb (zBy src k gs st):=by
 refine zBt (I:=fun r σ M' => (∃ y5 y7,σ = [some (mD zA),x1,some (.ref jd),some (.ref jl),some (.ref jf),y5,some (.ref jb),y7]) /\ ∃ us vs : List (List Int),gs = us ++ vs /\ r = vs.map tI /\ Lv M0 M' jf jb (zBy src k us st) /\ (∀ g ∈ gs,zM (zBy src k us st).1 g = some (.int k))) ?_ ?_ _ _ _ ⟨⟨_,_,rfl⟩,[],gs,rfl,rfl,lv,hg⟩
 ·rintro x r σ M' ⟨⟨y5,y7,rfl⟩,us,vs,hab,hr,lv',hg'⟩;cases vs with
  | nil => cases hr
  | cons g vs =>
   rw [zVg] at hr;obtain ⟨rfl,rfl⟩:=zWR hr;have hgm : g ∈ gs:=by rw [hab]; simp
   have hsb:=hB g hgm;obtain ⟨b1,b2⟩:=hZ us (g :: vs) hab;have keep : ∀ {j : Nat} {u : MO},M0[j]? = some u -> j ≠ jf -> j ≠ jb -> M'[j]? = some u:=fun {j u} e q1 q2 => (lv'.fr j (zVQ.mp e).1 q1 q2).trans e;refine ⟨.inl (keep hl l1 l2),_,rfl,?_⟩;show OkS (zDu _ _ _ [some (mD zA),x1,some (.ref jd),some (.ref jl),some (.ref jf),some (tI g),some (.ref jb),y7] M') _;have hfold : zBy src k (us ++ [g]) st = (src g).foldl (zBE (k + 1)) (zBy src k us st):=by unfold zBy; rw [List.foldl_append]; rfl
   generalize zBy src k us st = st' at lv' hg' b1 b2 hfold;have e2:=zUV (f:=zD 2) (g:=zD 5) (σ:=[some (mD zA),x1,some (.ref jd),some (.ref jl),some (.ref jf),some (tI g),some (.ref jb),y7]) (M:=M') (k:=g) rfl (keep hd d1 d2) rfl;have lvA : Lv M0 (M' ++ [.lst []]) jf jb st':=by
    have f1:=(zVQ.mp lv'.f).1;have f2:=(zVQ.mp lv'.b).1;have f3:=lv'.len;exact ⟨by rw [zVU f1]; exact lv'.f,by rw [zVU f2]; exact lv'.b,by simp; omega,fun j q0 q1 q2 => by rw [zVU (by omega)]; exact lv'.fr j q0 q1 q2⟩
   obtain ⟨js,ejs,n1,n2,el⟩ : ∃ js,(zM Ts g).getD (.ref M'.length) = .ref js /\ js ≠ jf /\ js ≠ jb /\ (M' ++ [MO.lst ([] : List D)])[js]? = some (.lst ((src g).map tI)):=by
    rcases hs g with ⟨j,e,q1,q2,q3⟩ | ⟨e,q⟩
    ·have:=keep q3 q1 q2;exact ⟨j,by rw [e]; rfl,q1,q2,by rw [zVU (zVQ.mp this).1]; exact this⟩
    ·have:=lv'.len;exact ⟨M'.length,by rw [e]; rfl,by omega,by omega,by rw [q]; simp⟩
   rw [ejs] at e2;rw [zCR];refine ⟨_,_,_,(show zAr (zB4 (zD 2) (zD 5) (zBS zS)) [some (mD zA),x1,some (.ref jd),some (.ref jl),some (.ref jf),some (tI g),some (.ref jb),y7] M' = some ((src g).map tI,zEx (.dat (.ref js)) ((src g).map tI),M' ++ [.lst []]) by unfold zAr; rw [e2]; dsimp only; rw [zAZ el]),?_⟩;refine OkS.mono (zRe (jl:=jl) (k:=k) hne h1 h2 _ st' lvA el n1 n2 (hg' g hgm) (by omega) (by omega)) ?_;rintro o σ' M2 ⟨rfl,⟨y,rfl⟩,lv2,_,_⟩;refine ⟨⟨_,_,rfl⟩,us ++ [g],vs,by rw [hab]; simp,rfl,?_⟩;rw [hfold];exact ⟨lv2,fun g' hg'' => zII _ (hg' g' hg'')⟩
 ·rintro σ M' ⟨⟨y5,y7,rfl⟩,us,vs,hab,hr,lv',hg'⟩;have : vs = []:=by cases vs with | nil => rfl | cons _ _ => cases hr
  subst this;rw [zV7] at hab;subst hab;have keep : ∀ {j : Nat} {u : MO},M0[j]? = some u -> j ≠ jf -> j ≠ jb -> M'[j]? = some u:=fun {j u} e q1 q2 => (lv'.fr j (zVQ.mp e).1 q1 q2).trans e;exact ⟨.inl (keep hl l1 l2),rfl,⟨_,_,rfl⟩,lv'⟩
theorem zN0 (k : Int) (st : Fd) (p t : List Int) : zM (zBE k st p).1 t = (if (zM st.1 t).isSome then zM st.1 t else if t = p then some (.int k) else none) /\ (t ∈ (zBE k st p).2 ↔ t ∈ st.2 \/ (zM st.1 t = none /\ t = p)):=by
 unfold zBE;by_cases h : (zM st.1 p).isSome = true
 ·rw [zVc h];constructor
  ·by_cases ht : (zM st.1 t).isSome = true
   ·rw [zVc ht]
   ·rw [zVf ht,zVf (fun z => ht (by rw [z]; exact h))];cases e : zM st.1 t with
    | none => rfl
    | some d => rw [e] at ht; simp at ht
  ·constructor
   ·exact .inl
   ·rintro (q | ⟨q,rfl⟩)
    ·exact q
    ·rw [q] at h; cases h
 ·rw [zVf h];have hn : zM st.1 p = none:=by
   cases e : zM st.1 p with
   | none => rfl
   | some d => rw [e] at h; simp at h
  constructor
  ·show zM (zCu st.1 p (.int k)) t = _;rw [zEs];by_cases ht : p = t
   ·subst ht;rw [zVc rfl,zVf h,zVc rfl]
   ·rw [zVf ht];by_cases hs : (zM st.1 t).isSome = true
    ·rw [zVc hs]
    ·rw [zVf hs,zVf (fun z => ht z.symm)];cases e : zM st.1 t with
     | none => rfl
     | some d => rw [e] at hs; simp at hs
  ·show t ∈ st.2 ++ [p] ↔ _;rw [zVn,zVp];constructor
   ·rintro (q | rfl)
    ·exact .inl q
    ·exact .inr ⟨hn,rfl⟩
   ·rintro (q | ⟨_,q⟩)
    ·exact .inl q
    ·exact .inr q
theorem zHz (k : Int) : ∀ (ps : List (List Int)) (st : Fd) (t : List Int),zM (ps.foldl (zBE k) st).1 t = (if (zM st.1 t).isSome then zM st.1 t else if t ∈ ps then some (.int k) else none) /\ (t ∈ (ps.foldl (zBE k) st).2 ↔ t ∈ st.2 \/ (zM st.1 t = none /\ t ∈ ps))
 | [],st,t => by
  constructor
  ·by_cases h : (zM st.1 t).isSome = true
   ·rw [zVc h]; rfl
   ·rw [zVf h,zVf (by simp)];cases e : zM st.1 t with
    | none => exact e
    | some d => rw [e] at h; simp at h
  ·simp
 | p :: r,st,t => by
  obtain ⟨a1,a2⟩:=zN0 k st p t;obtain ⟨b1,b2⟩:=zHz k r (zBE k st p) t;rw [List.foldl_cons,b1,b2,a2,a1];by_cases h : (zM st.1 t).isSome = true
  ·rw [zVc h,zVc h,zVc h];refine ⟨rfl,?_⟩;have hn : ¬ zM st.1 t = none:=fun z => by rw [z] at h; cases h
   simp [hn]
  ·have hn : zM st.1 t = none:=by
    cases e : zM st.1 t with
    | none => rfl
    | some d => rw [e] at h; simp at h
   rw [zVf h,zVf h];by_cases hp : t = p
   ·rw [zVc hp];refine ⟨?_,?_⟩
    ·rw [zVc (show (some (D.int k)).isSome = true from rfl),zVc (by rw [hp]; exact zVb)]
    ·simp [hn,hp]
   ·rw [zVf hp];refine ⟨?_,?_⟩
    ·rw [zVf (by simp)];by_cases hr : t ∈ r
     ·rw [zVc hr,zVc (zVa _ hr)]
     ·rw [zVf hr,zVf (by simp [hp,hr])]
    ·simp [hn,hp]
theorem zIo (src : List Int -> List (List Int)) (k : Int) (gs : List (List Int)) (st : Fd) (t : List Int) : zM (zBy src k gs st).1 t = (if (zM st.1 t).isSome then zM st.1 t else if t ∈ gs.flatMap src then some (.int (k + 1)) else none) /\ (t ∈ (zBy src k gs st).2 ↔ t ∈ st.2 \/ (zM st.1 t = none /\ t ∈ gs.flatMap src)):=by
 have : ∀ (gs : List (List Int)) (st : Fd),zBy src k gs st = (gs.flatMap src).foldl (zBE (k + 1)) st:=by
  intro gs;induction gs with
  | nil => intro st; rfl
  | cons g r ih =>
   intro st;show zBy src k r ((src g).foldl (zBE (k + 1)) st) = _;rw [ih,List.flatMap_cons,List.foldl_append]
 rw [this gs st];exact zHz (k + 1) (gs.flatMap src) st t
def Rch (zA : List (List Int)) (l : Nat) (G : List Int -> Prop) (t : List Int) (n : Nat) : Prop:=∃ w : List Int,w.length = n /\ (∀ x ∈ w,0 <= x /\ x < (l : Int)) /\ G (broR zA t w)
def Dst (zA : List (List Int)) (l : Nat) (G : List Int -> Prop) (t : List Int) (n : Nat) : Prop:=Rch zA l G t n /\ ∀ m,m < n -> ¬ Rch zA l G t m
theorem zHd : Rch zA l G t (n + 1) ↔ ∃ x : Int,(0 <= x /\ x < (l : Int)) /\ Rch zA l G (setR zA t x) n:=by
 constructor
 ·rintro ⟨w,hw,hb,hl⟩;cases w with
  | nil => cases hw
  | cons x w => exact ⟨x,hb x zVb,w,by simpa using hw,fun y hy => hb y (zVa _ hy),hl⟩
 ·rintro ⟨x,hx,w,hw,hb,hl⟩;exact ⟨x :: w,by simp [hw],fun y hy => by rcases zVZ.mp hy with rfl | q; exact hx; exact hb y q,hl⟩
theorem zLX : Rch zA l G t 0 ↔ G t:=by
 constructor
 ·rintro ⟨w,hw,_,hl⟩;have : w = []:=List.length_eq_zero_iff.mp hw;subst this; exact hl
 ·intro h; exact ⟨[],rfl,(fun _ h => by cases h),h⟩
theorem zBj : Dst zA l G t 0 ↔ G t:=by
 unfold Dst;rw [zLX];exact ⟨fun h => h.1,fun h => ⟨h,fun m hm => by omega⟩⟩
theorem zDd : Dst zA l G t (n + 1) ↔ (∀ m,m <= n -> ¬ Rch zA l G t m) /\ ∃ x : Int,(0 <= x /\ x < (l : Int)) /\ Dst zA l G (setR zA t x) n:=by
 constructor
 ·rintro ⟨h1,h2⟩;obtain ⟨x,hx,hr⟩:=zHd.mp h1;exact ⟨fun m hm => h2 m (by omega),x,hx,hr,fun m hm hq => h2 (m + 1) (by omega) (zHd.mpr ⟨x,hx,hq⟩)⟩
 ·rintro ⟨h1,x,hx,hr,_⟩;exact ⟨zHd.mpr ⟨x,hx,hr⟩,fun m hm => h1 m (by omega)⟩
theorem zHO : ∀ n,Rch zA l G t n -> ∃ m,m <= n /\ Dst zA l G t m:=by
 intro n;induction n using Nat.strongRecOn with
 | ind n ih =>
  intro h;by_cases q : ∃ m,m < n /\ Rch zA l G t m
  ·obtain ⟨m,hm,hr⟩:=q;obtain ⟨m',h1,h2⟩:=ih m hm hr;exact ⟨m',by omega,h2⟩
  ·exact ⟨n,zVT _,h,fun m hm hr => q ⟨m,hm,hr⟩⟩
theorem zA3 (h1 : Dst zA l G t a) (h2 : Dst zA l G t b) : a = b:=by
 rcases Nat.lt_trichotomy a b with q | q | q
 ·exact absurd h1.1 (h2.2 a q)
 ·exact q
 ·exact absurd h2.1 (h1.2 b q)
def zHK (zA : List (List Int)) (l : Nat) (G : List Int -> Prop) (U : List Int -> Prop) (k : Nat) (fd : List (List Int × D)) (lev : List (List Int)) : Prop:=(∀ t d,zM fd t = some d ↔ U t /\ ∃ n : Nat,n <= k /\ Dst zA l G t n /\ d = .int (n : Int)) /\ ∀ t,t ∈ lev ↔ U t /\ Dst zA l G t k
theorem zGT (h : zHK zA l G U k fd lev) (u : U t) : zM fd t = none ↔ ∀ m,m <= k -> ¬ Rch zA l G t m:=by
 constructor
 ·intro e m hm hr;obtain ⟨n,hn,hd⟩:=zHO m hr;rw [(h.1 t (.int (n : Int))).mpr ⟨u,n,by omega,hd,rfl⟩] at e;cases e
 ·intro q;cases e : zM fd t with
  | none => rfl
  | some d =>
   obtain ⟨_,n,hn,hd,_⟩:=(h.1 t d).mp e;exact absurd hd.1 (q n hn)
theorem zOG {zA : List (List Int)} {l : Nat} {U P : List Int -> Prop} {src : List Int -> List (List Int)} (hs : ∀ g t,t ∈ src g ↔ P t /\ ∃ x : Int,(0 <= x /\ x < (l : Int)) /\ setR zA t x = g) (hP : ∀ t,P t -> U t) (hU : ∀ t n,U t -> ¬ G t -> Rch zA l G t n -> P t) (hc : ∀ t (x : Int),U t -> 0 <= x /\ x < (l : Int) -> U (setR zA t x))
  {k : Nat} {fd : List (List Int × D)} {lev : List (List Int)} (h : zHK zA l G U k fd lev) : zHK zA l G U (k + 1) (zBy src (k : Int) lev (fd,[])).1 (zBy src (k : Int) lev (fd,[])).2:=by
 have key : ∀ t,(zM fd t = none /\ t ∈ lev.flatMap src) ↔ U t /\ Dst zA l G t (k + 1):=by
  intro t;constructor
  ·rintro ⟨e,hm⟩;obtain ⟨g,hg,ht⟩:=List.mem_flatMap.mp hm;obtain ⟨p,x,hx,hq⟩:=(hs g t).mp ht;have u:=hP t p;refine ⟨u,zDd.mpr ⟨(zGT h u).mp e,x,hx,?_⟩⟩;rw [hq]; exact ((h.2 g).mp hg).2
  ·rintro ⟨u,hd⟩;obtain ⟨q,x,hx,hr⟩:=zDd.mp hd;refine ⟨(zGT h u).mpr q,List.mem_flatMap.mpr ⟨setR zA t x,(h.2 _).mpr ⟨hc t x u hx,hr⟩,(hs _ t).mpr ⟨hU t _ u ?_ hd.1,x,hx,rfl⟩⟩⟩;intro h1;exact q 0 (zV9 _) (zLX.mpr h1)
 constructor
 ·intro t d;rw [(zIo src (k : Int) lev (fd,[]) t).1];show (if (zM fd t).isSome then zM fd t else if t ∈ lev.flatMap src then some (.int ((k : Int) + 1)) else none) = some d ↔ _;cases e : zM fd t with
  | some d' =>
   rw [zVc (show (some d').isSome = true from rfl)];obtain ⟨u,n,hn,hd,rfl⟩:=(h.1 t d').mp e;constructor
   ·intro z; cases z;exact ⟨u,n,by omega,hd,rfl⟩
   ·rintro ⟨_,m,_,hm,rfl⟩;rw [zA3 hm hd]
  | none =>
   rw [zVf (by simp)];by_cases hm : t ∈ lev.flatMap src
   ·rw [zVc hm];obtain ⟨u,hd⟩:=(key t).mp ⟨e,hm⟩;constructor
    ·intro z; cases z;exact ⟨u,k + 1,zVT _,hd,by simp⟩
    ·rintro ⟨_,m,_,hm',rfl⟩;rw [zA3 hm' hd]; simp
   ·rw [zVf hm];constructor
    ·intro z; cases z
    ·rintro ⟨u,m,hk,hd,rfl⟩;exfalso;by_cases hmk : m <= k
     ·exact (zGT h u).mp e m hmk hd.1
     ·have : m = k + 1:=by omega
      subst this;exact hm ((key t).mpr ⟨u,hd⟩).2
 ·intro t;rw [(zIo src (k : Int) lev (fd,[]) t).2];show t ∈ ([] : List (List Int)) \/ (zM fd t = none /\ t ∈ lev.flatMap src) ↔ _;rw [key t];simp
theorem zOe {zA : List (List Int)} {l : Nat} {G : List Int -> Prop} {U : List Int -> Prop} (hc : ∀ t (x : Int),U t -> 0 <= x /\ x < (l : Int) -> U (setR zA t x)) {k : Nat} {fd : List (List Int × D)} (h : zHK zA l G U k fd []) (t : List Int) (d : D) : zM fd t = some d ↔ U t /\ ∃ n : Nat,Dst zA l G t n /\ d = .int (n : Int):=by
 have far : ∀ n t,U t -> ¬ Dst zA l G t (k + n):=by
  intro n;induction n with
  | zero => intro t u hd; exact absurd ((h.2 t).mpr ⟨u,hd⟩) (by simp)
  | succ n ih =>
   intro t u hd;obtain ⟨_,x,hx,hr⟩:=zDd.mp (show Dst zA l G t ((k + n) + 1) from hd);exact ih _ (hc t x u hx) hr
 rw [h.1 t d];constructor
 ·rintro ⟨u,n,_,a,b⟩; exact ⟨u,n,a,b⟩
 ·rintro ⟨u,n,a,b⟩;refine ⟨u,n,?_,a,b⟩;by_cases q : n <= k
  ·exact q
  ·exfalso;have e : n = k + (n - k):=by omega
   rw [e] at a;exact far _ t u a
def Th (zA : List (List Int)) (t : List Int) : Prop:=IsS zA t /\ t.length <= 2
def zED (zA : List (List Int)) (l : Nat) (g : List Int) : List (List Int):=zDX zA (zCh l (ze (zQ zA))) g
theorem zRS (g t : List Int) : t ∈ zED zA l g ↔ t ∈ ze (zQ zA) /\ ∃ x : Int,(0 <= x /\ x < (l : Int)) /\ setR zA t x = g:=by
 unfold zED zDX zCh;simp only [zVe,zWY,List.mem_flatMap,zV1,zWa];constructor
 ·rintro ⟨q,⟨⟨p,hp,k,hk,rfl⟩,hq⟩,rfl⟩;exact ⟨hp,(k : Int),⟨by omega,by omega⟩,hq⟩
 ·rintro ⟨hp,x,⟨x0,x1⟩,hq⟩;refine ⟨(t,x),⟨⟨t,hp,x.toNat,by omega,?_⟩,hq⟩,rfl⟩;rw [show ((x.toNat : Nat) : Int) = x by omega]
theorem zBA : x ∈ zQ zA ↔ 0 <= x /\ x < (zA.length : Int):=by
 unfold zQ;simp only [zVe,zV1];constructor
 ·rintro ⟨k,hk,rfl⟩; omega
 ·rintro ⟨h0,h1⟩; exact ⟨x.toNat,by omega,by omega⟩
theorem zDM (t : List Int) (h : t ∈ ze (zQ zA)) : Th zA t:=by
 refine ⟨zMs h,?_⟩;obtain ⟨a,b,rfl,_⟩:=zAp.mp h;exact zVT _
theorem zNL (t : List Int) (h : Th zA t) (h1 : t.length ≠ 1) : t ∈ ze (zQ zA):=by
 obtain ⟨⟨pw,n0,hm⟩,h2⟩:=h;match t,pw,n0,hm,h1,h2 with
 | [a,b],pw,_,hm,_,_ =>
  exact zAp.mpr ⟨a,b,rfl,zBA.mpr (hm a (by simp)),zBA.mpr (hm b (by simp)),by simpa using pw⟩
 | [a],_,_,_,h1,_ => exact absurd rfl h1
 | [],_,n0,_,_,_ => cases n0
 | _ :: _ :: _ :: _,_,_,_,_,h2 => simp at h2
theorem zDm (m : IsM zA l) (t : List Int) (x : Int) (h : Th zA t) (hx : 0 <= x /\ x < (l : Int)) : Th zA (setR zA t x):=by
 refine ⟨m.setR h.1 hx.1 hx.2,?_⟩;have:=zJh (t.map fun h => zCx zA h x);rw [zVW] at this;exact zVo this h.2
def zEM (zA : List (List Int)) (G : List Int -> Prop) : Prop:=(∀ t,Th zA t -> t.length = 1 -> G t) \/ ∀ t,t.length = 1 -> ¬ G t
theorem zJD (m : IsM zA l) : ∀ (w t : List Int),Th zA t -> t.length = 1 -> (∀ x ∈ w,0 <= x /\ x < (l : Int)) -> (broR zA t w).length = 1
 | [],_,_,h,_ => h
 | x :: w,t,u,h,hw => by
  have hx:=hw x zVb;have u':=zDm m t x u hx;refine zJD m w (setR zA t x) u' ?_ fun y hy => hw y (zVa _ hy);have h1:=zJh (t.map fun h => zCx zA h x);rw [zVW,h] at h1;have h2:=u'.1.n0;have h3 : (setR zA t x).length <= 1:=h1;omega
theorem zGO (m : IsM zA l) (o : zEM zA G) (t : List Int) (n : Nat) (u : Th zA t) (g : ¬ G t) (r : Rch zA l G t n) : t ∈ ze (zQ zA):=by
 refine zNL t u fun h1 => ?_;rcases o with o | o
 ·exact g (o t u h1)
 ·obtain ⟨w,_,hw,hg⟩:=r;exact o _ (zJD m w t u h1 hw) hg
theorem zLC (m : IsM zA l) (o : zEM zA G) (h : zHK zA l G (Th zA) k fd lev) : zHK zA l G (Th zA) (k + 1) (zBy (zED zA l) (k : Int) lev (fd,[])).1 (zBy (zED zA l) (k : Int) lev (fd,[])).2 :=
 zOG (P:=fun t => t ∈ ze (zQ zA)) zRS zDM (zGO m o) (zDm m) h
theorem zNs (hts : ∀ t,t ∈ ts ↔ Th zA t /\ G t) (h : ∀ t d,zM fd t = some d ↔ t ∈ ts /\ d = .int 0) : zHK zA l G (Th zA) 0 fd ts:=by
 have key : ∀ t,t ∈ ts ↔ Th zA t /\ Dst zA l G t 0:=fun t => by rw [zBj,hts]
 refine ⟨fun t d => ?_,key⟩;rw [h t d,key t];constructor
 ·rintro ⟨⟨a,b⟩,rfl⟩; exact ⟨a,0,zVT _,b,by simp⟩
 ·rintro ⟨a,n,hn,b,rfl⟩;have : n = 0:=by omega
  subst this;exact ⟨⟨a,b⟩,by simp⟩
abbrev One (t : List Int) : Prop:=t.length = 1
theorem zPz (t : List Int) : t ∈ (zQ zA).map (fun r => [r]) ↔ Th zA t /\ One t:=by
 rw [zVe];constructor
 ·rintro ⟨r,hr,rfl⟩;have:=zBA.mp hr;refine ⟨⟨⟨by simp,by simp,fun x hx => ?_⟩,by simp⟩,rfl⟩;rw [zVp] at hx;subst hx; exact this
 ·rintro ⟨⟨s,_⟩,h1⟩;obtain ⟨r,rfl⟩:=List.length_eq_one_iff.mp h1;exact ⟨r,zBA.mpr (s.mem r (by simp)),rfl⟩
theorem zHD : zEM zA One:=.inl fun _ _ h => h
theorem whole (m : IsM zA l) (h : zHK zA l G (Th zA) k fd []) (t : List Int) (d : D) : zM fd t = some d ↔ Th zA t /\ ∃ n : Nat,Dst zA l G t n /\ d = .int (n : Int):=zOe (zDm m) h t d
theorem zCb {α : Type} [DecidableEq α] : ∀ (xs ys : List α),xs.Nodup -> (∀ x ∈ xs,x ∈ ys) -> xs.length <= ys.length
 | [],_,_,_ => zV9 _
 | x :: r,ys,h,hm => by
  obtain ⟨h1,h2⟩:=List.nodup_cons.mp h;have hx : x ∈ ys:=hm x zVb;have:=zCb r (ys.erase x) h2 fun y hy => (List.mem_erase_of_ne (fun z => h1 (by rw [<- z]; exact hy))).mpr (hm y (zVa _ hy));rw [List.length_erase_of_mem hx] at this;have:=List.length_pos_of_mem hx;simp only [zVu]; omega
theorem zES : ∀ {T : List (List Int × D)} {g : List Int},(zM T g).isSome = true ↔ g ∈ T.map (·.1)
 | [],g => by simp [zM]
 | q :: r,g => by
  unfold zM;by_cases h : q.1 = g
  ·simp [h]
  ·rw [zVf h,zES (T:=r)];simp only [zVg,zVZ];constructor
   ·exact .inr
   ·rintro (z | z)
    ·exact absurd z.symm h
    ·exact z
structure Sz (n : Nat) (st : Fd) : Prop where
 ks : (st.1.map (·.1)).Nodup
 nd : st.2.Nodup
 sub : ∀ t ∈ st.2,t ∈ st.1.map (·.1)
 len : st.1.length = n + st.2.length
theorem zRW {n : Nat} {st : Fd} (k : Int) (p : List Int) (h : Sz n st) : Sz n (zBE k st p):=by
 unfold zBE;by_cases q : (zM st.1 p).isSome = true
 ·rw [zVc q]; exact h
 ·rw [zVf q];have hn : zM st.1 p = none:=by
   cases e : zM st.1 p with
   | none => rfl
   | some d => rw [e] at q; simp at q
  have hk : p ∉ st.1.map (·.1):=fun z => q (zES.mpr z);have e : zCu st.1 p (.int k) = st.1 ++ [(p,.int k)]:=by unfold zCu; rw [hn]
  rw [e];refine ⟨?_,?_,?_,?_⟩
  ·show ((st.1 ++ [(p,D.int k)]).map (·.1)).Nodup;rw [zWF,zWb];refine ⟨h.ks,by simp,fun a ha b hb => ?_⟩;simp at hb;subst hb;intro z; subst z; exact hk ha
  ·show (st.2 ++ [p]).Nodup;rw [zWb];refine ⟨h.nd,by simp,fun a ha b hb => ?_⟩;simp at hb;subst hb;intro z; subst z; exact hk (h.sub _ ha)
  ·intro t ht;show t ∈ (st.1 ++ [(p,D.int k)]).map (·.1);rw [zWF,zVn];rcases zVn.mp (show t ∈ st.2 ++ [p] from ht) with z | z
   ·exact .inl (h.sub t z)
   ·right; simpa using z
  ·show (st.1 ++ [(p,D.int k)]).length = n + (st.2 ++ [p]).length;rw [zVd,zVd,h.len];simp; omega
theorem zHC (src : List Int -> List (List Int)) (k : Int) : ∀ (gs : List (List Int)) {st : Fd},Sz n st -> Sz n (zBy src k gs st)
 | [],st,h => h
 | g :: r,st,h => by
  show Sz n (zBy src k r ((src g).foldl (zBE (k + 1)) st));refine zHC src k r ?_;have : ∀ (ps : List (List Int)) {st : Fd},Sz n st -> Sz n (ps.foldl (zBE (k + 1)) st):=by
   intro ps;induction ps with
   | nil => intro st h; exact h
   | cons p ps ih => intro st h; exact ih (zRW (k + 1) p h)
  exact this _ h
theorem zNj (k : Int) (st : Fd) (p : List Int) : st.1.length <= (zBE k st p).1.length:=by
 unfold zBE;split
 ·exact zVT _
 ·show st.1.length <= (zCu st.1 p _).length;unfold zCu;cases zM st.1 p <;> simp
theorem zI3 (src : List Int -> List (List Int)) (k : Int) : ∀ (gs : List (List Int)) (st : Fd),st.1.length <= (zBy src k gs st).1.length
 | [],st => zVT _
 | g :: r,st => by
  have h1 : ∀ (ps : List (List Int)) (st : Fd),st.1.length <= (ps.foldl (zBE (k + 1)) st).1.length:=by
   intro ps;induction ps with
   | nil => intro st; exact zVT _
   | cons p ps ih => intro st; exact zVo (zNj (k + 1) st p) (ih _)
  exact zVo (h1 (src g) st) (zI3 src k r _)
theorem zGH (h : zHK zA l G (Th zA) k fd lev) (hk : (fd.map (·.1)).Nodup) : fd.length <= zA.length + zA.length * zA.length:=by
 have hr : (zQ zA).length = zA.length:=by unfold zQ; simp
 have h1:=zCb (fd.map (·.1)) ((zQ zA).map (fun r => [r]) ++ ze (zQ zA)) hk fun t ht => by
  have hs:=zES.mpr ht;cases e : zM fd t with
  | none => rw [e] at hs; cases hs
  | some d =>
   obtain ⟨u,_⟩:=(h.1 t d).mp e;rw [zVn];by_cases h1 : t.length = 1
   ·obtain ⟨r,rfl⟩:=List.length_eq_one_iff.mp h1;exact .inl (zVe.mpr ⟨r,zBA.mpr (u.1.mem r (by simp)),rfl⟩)
   ·exact .inr (zNL t u h1)
 have h2:=zBb (zQ zA);rw [zVW,zVd,zVW,hr] at h1;rw [hr] at h2;omega
theorem zQY (h : f σ M = some (.dat (.ref j),M)) (hj : M[j]? = some (.lst xs)) : zLh f σ M = some (!xs.isEmpty,M):=by
 unfold zLh; rw [h]; dsimp only; rw [zAZ hj]
theorem zRT (zA : List (List Int)) (l : Nat) (g : List Int) : (zED zA l g).length <= zA.length * zA.length * l:=by
 unfold zED zDX;rw [zVW];refine zVo (List.length_filter_le _ _) ?_;rw [zHr];have:=zBb (zQ zA);have hr : (zQ zA).length = zA.length:=by unfold zQ; simp
 rw [hr] at this;exact Nat.mul_le_mul_right l this
theorem zQf (m : IsM zA l) (oa : zEM zA G) (hR : zA.length <= 26) (hl : l <= 12) (h1 : jf < M0.length) (hd : M0[jd]? = some (dT Ts)) (d1 : jd ≠ jf) (hs : ∀ g,(∃ j,zM Ts g = some (.ref j) /\ j ≠ jf /\ M0[j]? = some (.lst ((zED zA l g).map tI))) \/ (zM Ts g = none /\ zED zA l g = [])) (hf : M0[jf]? = some (dT fd)) (hv : M0[jl]? = some (.lst (lev.map tI))) (l1 : jl ≠ jf) (inv : zHK zA l G (Th zA) 0 fd lev) (nk : (fd.map (·.1)).Nodup) (nl : lev.length <= fd.length) :
  OkS (zBF (zLh (zD 3)) (zX (zAG 6 (zBS zS)) (zX (zDu (zAr (zD 3)) (gN 5) (zDu (zAr (zB4 (zD 2) (zD 5) (zBS zS))) (gN 7) (sIf (tst (fOp (zB3 true) (zD 7) (zD 4))) (zX (zEe (fOp zAe (fOp zA0 (zD 4) (zD 5)) (fC (.int 1))) (zD 4) (zD 7)) (zBz (fM zAt (zD 6) (zH (toD (zD 7)) zS)))) zCU))) (zAG 3 (zD 6)))) 1000 [some (mD zA),x1,some (.ref jd),some (.ref jl),some (.ref jf),y5,y6,y7] M0)
   fun o σ' M' => o = .nx /\ (∃ y3 y5 y6 y7,σ' = [some (mD zA),x1,some (.ref jd),y3,some (.ref jf),y5,y6,y7]) /\ (∃ fd',M'[jf]? = some (dT fd') /\ fd'.length <= 702 /\ ∀ t d,zM fd' t = some d ↔ Th zA t /\ ∃ n : Nat,Dst zA l G t n /\ d = .int (n : Int)) /\ M0.length <= M'.length /\ ∀ j,j < M0.length -> j ≠ jf -> M'[j]? = M0[j]?:=by
 have hN : zA.length + zA.length * zA.length <= 702:=by
  have:=zWz hR hR;omega
 have hB : zA.length * zA.length * l <= 8112:=zWz (zWz hR hR) hl;refine zCf (I:=fun z σ M => ∃ (jl : Nat) (y5 y6 y7 : Option D) (k : Nat) (fd : List (List Int × D)) (lev : List (List Int)),σ = [some (mD zA),x1,some (.ref jd),some (.ref jl),some (.ref jf),y5,y6,y7] /\ M[jf]? = some (dT fd) /\ M[jl]? = some (.lst (lev.map tI)) /\ jl ≠ jf /\ zHK zA l G (Th zA) k fd lev /\ (fd.map (·.1)).Nodup /\ lev.length <= fd.length /\ M0.length <= M.length /\ (∀ j,j < M0.length -> j ≠ jf -> M[j]? = M0[j]?) /\ z = (702 - fd.length) + (if lev.isEmpty then 0 else 1)) ?_ 1000 ((702 - fd.length) + (if lev.isEmpty then 0 else 1)) _ _ (by split <;> omega) ⟨jl,y5,y6,y7,0,fd,lev,rfl,hf,hv,l1,inv,nk,nl,zVT _,fun _ _ _ => rfl,rfl⟩;rintro z σ M ⟨jl,y5,y6,y7,k,fd,lev,rfl,hf,hv,l1,inv,nk,nl,hlen,fr,rfl⟩;have hfl:=zVo (zGH inv nk) hN;refine zK (M:=M) (a:=!(lev.map tI).isEmpty) (zQY rfl hv) ?_;cases lev with
 | nil =>
  exact ⟨rfl,⟨_,_,_,_,rfl⟩,⟨fd,hf,hfl,whole m inv⟩,hlen,fr⟩
 | cons g0 lev0 =>
  show OkS (zX _ _ [some (mD zA),x1,some (.ref jd),some (.ref jl),some (.ref jf),y5,y6,y7] M) _;generalize hlv : g0 :: lev0 = lev at *;have hne0 : lev.isEmpty = false:=by rw [<- hlv]; rfl
  rw [zU,zm];refine zK (M:=M) (a:=.fl []) (by unfold zBS zS; dsimp only; rw [zVc (z0 (by simp))]) ?_;rw [zFr,zb,zU,zCR];have fl:=(zVQ.mp hf).1;have vl:=(zVQ.mp hv).1;have up : ∀ {j : Nat},j < M.length -> (M ++ [MO.lst ([] : List D)])[j]? = M[j]?:=fun h => zVU h;have dl:=(zVQ.mp hd).1;refine ⟨_,_,_,(show zAr (zD 3) [some (mD zA),x1,some (.ref jd),some (.ref jl),some (.ref jf),y5,some (.ref M.length),y7] (M ++ [.lst []]) = some (lev.map tI,zEx (.dat (.ref jl)) (lev.map tI),M ++ [.lst []]) by
   unfold zAr;rw [show zD 3 [some (mD zA),x1,some (.ref jd),some (.ref jl),some (.ref jf),y5,some (.ref M.length),y7] (M ++ [.lst []]) = some (.dat (.ref jl),M ++ [.lst []]) from rfl];dsimp only; rw [zAZ ((up vl).trans hv)]),?_⟩
  have sz0 : Sz fd.length (fd,([] : List (List Int))):=⟨nk,by simp,(fun t h => by cases h),by simp⟩;have szw : Sz fd.length (zBy (zED zA l) (k : Int) lev (fd,[])):=zHC _ _ lev sz0;have hflw:=zVo (zGH (zLC m oa inv) szw.ks) hN;refine OkS.mono (zRz (k:=(k : Int)) (src:=zED zA l) (st:=(fd,[])) (Ts:=Ts) (by omega) (by simp; omega) (by simp) ((up (by omega)).trans ((fr _ dl d1).trans hd)) d1 (by omega) ((up vl).trans hv) l1 (by omega) ?_ 8112 (fun g _ => zVo (zRT zA l g) hB) ?_ 702 (by omega) (fun us vs e => ?_) ⟨(up fl).trans hf,by simp,zVT _,fun _ _ _ _ => rfl⟩) ?_
  ·intro g;rcases hs g with ⟨j,e,q1,q2⟩ | q
   ·have jl':=(zVQ.mp q2).1;exact .inl ⟨j,e,q1,by omega,(up (by omega)).trans ((fr _ jl' q1).trans q2)⟩
   ·exact .inr q
  ·intro g hg;obtain ⟨u,hd'⟩:=(inv.2 g).mp hg;exact (inv.1 g _).mpr ⟨u,k,zVT _,hd',rfl⟩
  ·have h3:=zI3 (zED zA l) (k : Int) vs (zBy (zED zA l) (k : Int) us (fd,[]));have h4 : zBy (zED zA l) (k : Int) vs (zBy (zED zA l) (k : Int) us (fd,[])) = zBy (zED zA l) (k : Int) lev (fd,[]):=by rw [e]; unfold zBy; rw [List.foldl_append]
   rw [h4] at h3;have h5:=(zHC (zED zA l) (k : Int) us sz0).len;omega
  ·rintro o σ' M' ⟨rfl,⟨y5,y7,rfl⟩,lv⟩;rw [zb,zm];refine zK (M:=M') (a:=.dat (.ref M.length)) rfl ?_;rw [zV];have sz : Sz fd.length (zBy (zED zA l) (k : Int) lev (fd,[])):=zHC _ _ lev ⟨nk,by simp,(fun t h => by cases h),by simp⟩;have inv':=zLC m oa inv;generalize zBy (zED zA l) (k : Int) lev (fd,[]) = st at lv sz inv';have hfl':=zVo (zGH inv' sz.ks) hN;have hsl:=sz.len;refine ⟨(702 - st.1.length) + (if st.2.isEmpty then 0 else 1),?_,M.length,y5,_,y7,k + 1,st.1,st.2,rfl,lv.f,lv.b,by omega,inv',sz.ks,by omega,?_,?_,rfl⟩
   ·rw [hne0];cases e : st.2 with
    | nil => simp; omega
    | cons a r => rw [e] at hsl; simp at hsl ⊢; omega
   ·have:=lv.len; simp at this; omega
   ·intro j hj hjf;rw [lv.fr j (by simp; omega) hjf (by omega),up (by omega)];exact fr j hj hjf
theorem zOL {M : Mem} {ts : List (List Int)} (hf : f σ M = some (.dat (.ref jl),M)) (hj : M[jl]? = some (.lst (ts.map tI))) (nd : ts.Nodup) (hz : ts.length <= 80000) (hg : ∀ a,gN i a (zBH own σ) = some ((zBH own σ).set i (some a))) (hs : ∀ (a : D) M',zD i ((zBH own σ).set i (some a)) M' = some (.dat a,M')) :
  zDP true own (zAr f) (gN i) zAC (zD i) (fC (.int 0)) σ M = some (.dat (.ref M.length),M ++ [dT (ts.map fun t => (t,.int 0))]):=by
 have hjl:=(zVQ.mp hj).1;unfold zDP zAr;rw [hf]; dsimp only;rw [zAZ hj]; dsimp only;have loop : ∀ (r q : List (List Int)),q ++ r = ts -> zCl (gN i) zAC (zD i) (fC (.int 0)) (zBH own σ) M.length (ts.map tI) (zEx (.dat (.ref jl)) (ts.map tI)) (r.map tI) (M ++ [dT (q.map fun t => (t,.int 0))]) = some (M ++ [dT (ts.map fun t => (t,.int 0))]):=by
  intro r;induction r with
  | nil => intro q e; rw [zV7] at e; subst e; exact zJA (.inl (by rw [zVU hjl]; exact hj))
  | cons x r ih =>
   intro q e;have hx : x ∉ q:=fun z => by
    rw [<- e,zWb] at nd;exact nd.2.2 x z x zVb rfl
   have hl : q.length < 90000:=by have:=zXA List.length e; simp at this; omega
   have hk : zM (q.map fun t => (t,D.int 0)) x = none:=by
    cases e2 : zM (q.map fun t => (t,D.int 0)) x with
    | none => rfl
    | some d =>
     have:=zES.mp (show (zM (q.map fun t => (t,D.int 0)) x).isSome = true by rw [e2]; rfl);rw [zVl] at this;obtain ⟨y,hy,rfl⟩:=zVe.mp this;exact absurd hy hx
   have hgd : zA5 (zEx (.dat (.ref jl)) (ts.map tI)) (ts.map tI) (M ++ [dT (q.map fun t => (t,.int 0))]):=.inl (by rw [zVU hjl]; exact hj);rw [zVg,zMj (σ1:=(zBH own σ).set i (some (tI x))) (k:=tI x) (v:=.int 0) (M':=M ++ [dT ((q ++ [x]).map fun t => (t,.int 0))]) hgd (hg _) (hs _ _) rfl]
   ·exact ih (q ++ [x]) (by rw [<- e]; simp)
   ·rw [zNO (T:=q.map fun t => (t,.int 0)) (by simp) (by rw [zVW]; exact hl)];unfold zCu;rw [hk];simp
 have:=loop ts [] rfl;rw [show zKA true = dT [] from rfl];rw [show (([] : List (List Int)).map fun t => (t,D.int 0)) = [] from rfl] at this;rw [this]
theorem zIU {zA : List (List Int)} (m : IsM zA l) (oa : zEM zA G) (hR : zA.length <= 26) (hl : l <= 12) {M : Mem} {ts : List (List Int)} (hj : M[jg]? = some (.lst (ts.map tI))) (nd : ts.Nodup) (hts : ∀ t,t ∈ ts ↔ Th zA t /\ G t) (hz : ts.length <= 80000) : Ok (zBl [mD zA,.ref jg] M) fun d M' => ∃ jf,d = .ref jf /\ M.length <= jf /\ (∃ fd,M'[jf]? = some (dT fd) /\ fd.length <= 702 /\ ∀ t d,zM fd t = some d ↔ Th zA t /\ ∃ n : Nat,Dst zA l G t n /\ d = .int (n : Int)) /\ M.length <= M'.length /\ ∀ j,j < M.length -> M'[j]? = M[j]?:=by
 have hjl:=(zVQ.mp hj).1;unfold zBl;rw [zAV];unfold zDi;show OkS (zX _ _ [some (mD zA),some (.ref jg),none,none,none,none,none,none] M) _;rw [zU,zm];refine zD1.mpr (zK (zr rfl) (Ok.mono (zRL m (by omega) hl) ?_));rintro d M1 ⟨rfl,sr,h1,fr⟩;rw [zV,zb];refine zBx (d:=.ref jg) rfl ?_;show OkS (zX _ _ [some (mD zA),some (.ref jg),some (.ref M.length),some (.ref jg),none,none,none,none] M1) _;have hj1:=(fr _ hjl).trans hj;rw [zU,zm];refine zK (zOL (jl:=jg) (ts:=ts) rfl hj1 nd hz (fun _ => rfl) (fun _ _ => rfl)) ?_;rw [zV,zb];show OkS (zX _ _ [some (mD zA),some (.ref jg),some (.ref M.length),some (.ref jg),some (.ref M1.length),none,none,none] _) _;obtain ⟨T,ed,hT,a1,a2,a3⟩:=sr.ex;have up : ∀ {j : Nat} {u : MO},M1[j]? = some u -> (M1 ++ [dT (ts.map fun t => (t,D.int 0))])[j]? = some u:=fun {j u} h => by rw [zVU (zVQ.mp h).1]; exact h
 have ed':=(zVQ.mp ed).1;rw [zU];refine OkS.mono (zQf (jf:=M1.length) (jd:=M.length) (jl:=jg) (Ts:=T) (lev:=ts) (fd:=ts.map fun t => (t,D.int 0)) m oa hR hl (by simp) (up ed) (by omega) ?_ (by simp) (up hj1) (by omega) (zNs hts ?_) ?_ (by simp)) ?_
 ·intro g;cases e : zM T g with
  | none => exact .inr ⟨rfl,a2 g e⟩
  | some d =>
   obtain ⟨j,rfl,q1,q2⟩:=a1 g d e;have:=(zVQ.mp q2).1;exact .inl ⟨j,rfl,by omega,up q2⟩
 ·intro t d;have gen : ∀ (ts : List (List Int)),zM (ts.map fun t => (t,D.int 0)) t = some d ↔ t ∈ ts /\ d = .int 0:=by
   intro ts;induction ts with
   | nil => simp [zM]
   | cons x r ih =>
    rw [zVg,zM];by_cases q : x = t
    ·subst q; simp [eq_comm]
    ·rw [zVf q,ih,zVZ];constructor
     ·rintro ⟨z1,z2⟩; exact ⟨.inr z1,z2⟩
     ·rintro ⟨z1 | z1,z2⟩
      ·exact absurd z1.symm q
      ·exact ⟨z1,z2⟩
  exact gen _
 ·rw [zVl];rw [show ((fun (x : List Int × D) => x.1) ∘ fun (t : List Int) => (t,D.int 0)) = id from rfl,List.map_id];exact nd
 ·rintro o σ' M' ⟨rfl,⟨y3,y5,y6,y7,rfl⟩,⟨fd,e1,e2,e3⟩,hlen,fr'⟩;rw [zb];rw [zVd] at hlen fr';refine zA1 (d:=.ref M1.length) rfl ⟨M1.length,rfl,by omega,⟨fd,e1,e2,e3⟩,by omega,fun j hj => ?_⟩;rw [fr' j (by omega) (by omega),zVU (by omega)];exact fr j hj
noncomputable def zGW : FS:=(zAJ (zW zBl (zH (toD (zD 0)) (zH (toD (zAL [1] (zAW (zH (toD (fB zBB (zc (zD 0) zx))) zS)) (gN 1) zAC (zDv (zH (toD (zD 1)) zS)))) zS))))
noncomputable def zB1 : FF:=zBJ 2 zGW
theorem zHY (m : IsM zA l) (hR : zA.length <= 26) (hl : l <= 12) : Ok (zB1 [mD zA] M) fun d M' => ∃ jf,d = .ref jf /\ M.length <= jf /\ (∃ fd,M'[jf]? = some (dT fd) /\ fd.length <= 702 /\ ∀ t d,zM fd t = some d ↔ Th zA t /\ ∃ n : Nat,Dst zA l One t n /\ d = .int (n : Int)) /\ M.length <= M'.length /\ ∀ j,j < M.length -> M'[j]? = M[j]?:=by
 unfold zB1;rw [zAV];unfold zGW;show OkS (zAJ _ [some (mD zA),none] M) _;have er : zAW (zH (toD (fB zBB (zc (zD 0) zx))) zS) [some (mD zA),none] M = some ((List.range zA.length).map (fun (k : Nat) => D.int k),none,M):=by
  rw [zCw (j:=(zA.length : Int)) (zFv rfl) (by omega) (by omega),zFj];rw [show (zA.length : Int).toNat = zA.length by omega]
 have ec : zAL [1] (zAW (zH (toD (fB zBB (zc (zD 0) zx))) zS)) (gN 1) zAC (zDv (zH (toD (zD 1)) zS)) [some (mD zA),none] M = some (.fl ((List.range zA.length).map fun (k : Nat) => tI [(k : Int)]),M) :=
  zCL (List.range zA.length) (fun (k : Nat) => D.int k) (fun (k : Nat) => tI [(k : Int)]) er trivial (by rw [zXK]; omega) fun k _ => ⟨_,rfl,rfl⟩
 have el : ((List.range zA.length).map fun (k : Nat) => tI [(k : Int)]) = ((zQ zA).map fun r => [r]).map tI:=by
  unfold zQ; rw [zVl,zVl]; rfl
 rw [el] at ec;rw [zAs];refine zD1.mpr (zAw.mpr (zAy.mpr (zAM.mpr ⟨_,rfl,?_⟩)));rw [zV];refine zAw.mpr (zAy.mpr (zK ec ?_));rw [zFr,zCP];refine Ok.mono (zIU m zHD hR hl (jg:=M.length) (ts:=(zQ zA).map fun r => [r]) (by simp) ?_ zPz ?_) ?_
 ·unfold zQ;rw [zVl];exact List.pairwise_map.mpr (List.Pairwise.imp (fun {a b} h z => h (by simp at z; omega)) List.nodup_range)
 ·unfold zQ; simp; omega
 rintro d M' ⟨jf,rfl,h1,h2,h3,h4⟩;rw [zV];rw [zVd] at h1 h3 h4;refine ⟨jf,rfl,by omega,h2,by omega,fun j hj => ?_⟩;rw [h4 j (by omega),zVU hj]
set_option genInjectivity true in
inductive Climb (zA : List (List Int)) (l : Nat) (G : List Int -> Prop) : List Int -> List Int -> Prop
 | nil {t : List Int} : G t -> Climb zA l G t []
 | cons {t : List Int} {x : Int} {w : List Int} {n : Nat} : Dst zA l G t (n + 1) -> 0 <= x -> x < (l : Int) -> Dst zA l G (setR zA t x) n -> (∀ y,0 <= y -> y < x -> ¬ Dst zA l G (setR zA t y) n) -> Climb zA l G (setR zA t x) w -> Climb zA l G t (x :: w)
theorem zI2 : ∀ {w t : List Int} {n : Nat},Climb zA l G t w -> Dst zA l G t n -> w.length = n
 | [],_,_,.nil h,d => by have:=zA3 (zBj.mpr h) d; simpa using this
 | x :: w,_,n,.cons (n:=a) d1 _ _ e1 _ c1,d => by
  have h1:=zI2 c1 e1;have h2:=zA3 d1 d;rw [zVu]; omega
theorem zBL : ∀ {w t : List Int},Climb zA l G t w -> (∀ x ∈ w,0 <= x /\ x < (l : Int)) /\ G (broR zA t w)
 | [],_,.nil h => ⟨fun _ h => (by cases h),h⟩
 | x :: w,_,.cons _ x0 x1 _ _ c1 => by
  obtain ⟨h1,h2⟩:=zBL c1;refine ⟨fun y hy => ?_,h2⟩;rcases zVZ.mp hy with rfl | q
  ·exact ⟨x0,x1⟩
  ·exact h1 y q
theorem zJy {P : Int -> Prop} : ∀ (k : Nat),P (k : Int) -> ∃ x : Nat,x <= k /\ P (x : Int) /\ ∀ y : Int,0 <= y -> y < (x : Int) -> ¬ P y:=by
 intro k;induction k using Nat.strongRecOn with
 | ind k ih =>
  intro h;by_cases q : ∃ j : Nat,j < k /\ P (j : Int)
  ·obtain ⟨j,hj,hp⟩:=q;obtain ⟨x,h1,h2,h3⟩:=ih j hj hp;exact ⟨x,by omega,h2,h3⟩
  ·refine ⟨k,zVT _,h,fun y y0 y1 hp => q ⟨y.toNat,by omega,?_⟩⟩;rw [show ((y.toNat : Nat) : Int) = y by omega]; exact hp
theorem zFS : ∀ (n : Nat) {t : List Int},Dst zA l G t n -> ∃ w,Climb zA l G t w
 | 0,t,d => ⟨[],.nil (zBj.mp d)⟩
 | n + 1,t,d => by
  obtain ⟨_,x,hx,hd⟩:=zDd.mp d;obtain ⟨y,h1,h2,h3⟩:=zJy (P:=fun x => Dst zA l G (setR zA t x) n) x.toNat (by rw [show ((x.toNat : Nat) : Int) = x by omega]; exact hd);obtain ⟨w,hw⟩:=zFS n h2;exact ⟨(y : Int) :: w,.cons d (by omega) (by omega) h2 h3 hw⟩
end Lac
namespace Lac
open PySem PySem.Spec PyProof.Rows L2 L3 ST Law
theorem zGE (ha : a σ M = some (false,M)) (hb : b σ M = some (k,M)) : zGM a b σ M = some (k,M):=by unfold zGM; rw [ha]; exact hb
theorem aC' {f : FE} {g : FA} {σ : Sd} {M M1 M2 : Mem} {d : D} {ds : List D} (h : toD f σ M = some (d,M1)) (hg : g σ M1 = some (ds,M2)) : zH (toD f) g σ M = some (d :: ds,M2):=by
 unfold zH; rw [h]; dsimp only; rw [hg]
theorem zSN (h : f σ M = some (.dat d,M)) : toD f σ M = some (d,M):=by unfold toD; rw [h]
theorem zUk {g : FA} {σ : Sd} {M M1 : Mem} {ds : List D} (h : g σ M = some (ds,M1)) (hz : ds.length <= 100000) : zBS g σ M = some (.fl ds,M1):=by
 unfold zBS; rw [h]; dsimp only; rw [zVc (z0 hz)]
theorem zLr {g : FA} {σ : Sd} {M M1 : Mem} {ds : List D} (h : g σ M = some (ds,M1)) (hz : ds.length <= 100000) : zDv g σ M = some (.dat (.tup ds),M1):=by
 unfold zDv; rw [h]; dsimp only; rw [zVc (z0 hz)]
theorem zSC {m : FF} {a : FA} {σ : Sd} {M M1 M' : Mem} {ds : List D} {d : D} (h : a σ M = some (ds,M1)) (hm : m ds M1 = some (d,M')) : zW m a σ M = some (.dat d,M'):=by
 unfold zW; rw [h]; dsimp only; rw [hm]
noncomputable def zCn : FS:=(zX (zAG 3 (zAL [4] (zAW (zH (toD (fB zBB (zc (fOp kIx (zD 0) (fC (.int 0))) zx))) zS)) (gN 4) zAC (zW zA9 (zH (toD (zD 0)) (zH (toD (zD 1)) (zH (toD (zD 4)) zS))))))
  (zAJ (fB (zHf false) (zc (zAL [4,5] (zLe (zD 3)) (zKs 4 5) (zCK (tst (fOp (zB3 false) (zD 5) (zD 2))) (tst (fOp kEq (fOp zA0 (zD 2) (zD 5)) (fOp zML (fOp zA0 (zD 2) (zD 1)) (fC (.int 1)))))) (zD 4)) zx))))
noncomputable def zAT : FF:=zBJ 6 zCn
noncomputable def zFL : FS:=(zX (zAG 2 (zAL [3] (zAr (zW zAb (zH (toD (zW zAk (zH (toD (zD 0)) zS))) zS))) (gN 3) (tst (fOp kGt (zB4 (zD 1) (zD 3) (fC (.int 0))) (fC (.int 0)))) (zD 3)))
  (zAJ (zDP true [3] (zAr (zD 2)) (gN 3) zAC (zD 3) (zDv (zH (toD (fOp zA0 (zD 1) (zD 3))) (zH (toD (zW zAT (zH (toD (zD 0)) (zH (toD (zD 3)) (zH (toD (zD 1)) zS))))) zS))))))
noncomputable def zB7 : FF:=zBJ 4 zFL
noncomputable def zKJ : FS:=(zAJ (zW zB7 (zH (toD (zD 0)) (zH (toD (zW zB1 (zH (toD (zD 0)) zS))) zS))))
noncomputable def zFW : FF:=zBJ 1 zKJ
noncomputable def zGD : FS:=(zX (zAG 3 (zBS zS))
  (zX (zAG 4 (zD 2))
  (zX (zBF (tst (fOp (zB3 false) (zD 4) (zD 1))) (zX (zAG 5 (fOp kIx (fOp zA0 (zD 1) (zD 4)) (fC (.int 1))))
  (zX (zBz (fM zAt (zD 3) (zH (toD (zD 5)) zS)))
  (zAG 4 (zW zA9 (zH (toD (zD 0)) (zH (toD (zD 4)) (zH (toD (zD 5)) zS))))))) 1000)
  (zAJ (fB zBZ (zc (zD 3) zx))))))
noncomputable def zDa : FF:=zBJ 6 zGD
theorem zIs {α : Type} (hgd : zA5 gd all M) (enc out : α -> D) (keep : α -> Bool) : ∀ (as : List α),(∀ a ∈ as,∃ σ1,g (enc a) σ = some σ1 /\ tc σ1 M = some (keep a,M) /\ (keep a = true -> te σ1 M = some (.dat (out a),M))) -> zA7 g tc te σ all gd (as.map enc) M = some ((as.filter keep).map out,M)
 | [],_ => by
  rw [List.map_nil];unfold zA7;rw [zVc hgd]; rfl
 | a :: r,h => by
  obtain ⟨σ1,e1,e2,e3⟩:=h a zVb;have ih:=zIs (σ:=σ) hgd enc out keep r fun b hb => h b (zVa _ hb);rw [zVg];unfold zA7;rw [zVc hgd,e1];dsimp only;rw [e2];cases hk : keep a with
  | false =>
   dsimp only;rw [ih,List.filter_cons_of_neg (by simp [hk])]
  | true =>
   dsimp only;rw [show toD te σ1 M = some (out a,M) by unfold toD; rw [e3 hk]];dsimp only;rw [ih,List.filter_cons_of_pos hk];rfl
theorem zC9 {α : Type} {own : List Nat} {fi : FI} {g : FG} {tc : FT} {te : FE} {σ : Sd} {M M1 : Mem} {gd : Option (Mem -> Prop)} (as : List α) (enc out : α -> D) (keep : α -> Bool) (hi : fi σ M = some (as.map enc,gd,M1)) (hgd : zA5 gd (as.map enc) M1) (hz : as.length <= 100000)
  (he : ∀ a ∈ as,∃ σ1,g (enc a) (zBH own σ) = some σ1 /\ tc σ1 M1 = some (keep a,M1) /\ (keep a = true -> te σ1 M1 = some (.dat (out a),M1))) : zAL own fi g tc te σ M = some (.fl ((as.filter keep).map out),M1) :=
 zd (zEr.mpr ⟨_,_,_,hi,by rw [zVW]; exact z0 hz,zK (zIs hgd enc out keep as he) ⟨rfl,rfl⟩⟩)
theorem zQs {f : FE} {σ : Sd} {M M1 : Mem} {xs : List Int} (hf : f σ M = some (.fl (xs.map D.int),M1)) (hx : xs ≠ []) : ∃ b,fB (zHf false) (zc f zx) σ M = some (.dat (.int b),M1) /\ b ∈ xs /\ ∀ y ∈ xs,b <= y:=by
 cases xs with
 | nil => exact absurd rfl hx
 | cons x r =>
  obtain ⟨h1,h2⟩:=zD0 false r x;refine ⟨zDY false x r,?_,h1,fun y hy => by simpa using h2 y hy⟩;unfold fB zc zx;rw [hf];show zHf false [.fl ((x :: r).map D.int)] M1 = _;unfold zHf;dsimp only;rw [zDk]
def zQU (zA : List (List Int)) (l : Nat) (G : List Int -> Prop) (fd : List (List Int × D)) : Prop:=∀ t d,zM fd t = some d ↔ Th zA t /\ ∃ n : Nat,Dst zA l G t n /\ d = .int (n : Int)
structure Fst (zA : List (List Int)) (l : Nat) (G : List Int -> Prop) (p : List Int) (n : Nat) (x : Int) : Prop where
 x0 : 0 <= x
 x1 : x < (l : Int)
 d : Dst zA l G (setR zA p x) n
 f : ∀ y,0 <= y -> y < x -> ¬ Dst zA l G (setR zA p y) n
def isN (n : Nat) : Option D -> Bool
 | some (.int v) => decide (v = (n : Int))
 | _ => false
theorem zKE (sp : zQU zA l G fd) (u : Th zA t) : isN n (zM fd t) = true ↔ Dst zA l G t n:=by
 constructor
 ·intro h;cases e : zM fd t with
  | none => rw [e] at h; cases h
  | some d =>
   obtain ⟨_,k,hk,rfl⟩:=(sp t d).mp e;rw [e] at h;have : (k : Int) = (n : Int):=zWJ h;rw [show n = k by omega]; exact hk
 ·intro h;rw [(sp t _).mpr ⟨u,n,h,rfl⟩];exact zWV rfl
theorem eqE : kEq (.dat (.int a)) (.dat (.int b)) M = some (.dat (.bl (decide (a = b))),M):=zd (zMk.mpr ⟨rfl,rfl⟩)
theorem zVJ : zML (.dat (.int a)) (.dat (.int b)) M = some (.dat (.int (a - b)),M):=rfl
theorem gtE : kGt (.dat (.int a)) (.dat (.int b)) M = some (.dat (.bl (decide (b < a))),M):=rfl
theorem zRv (ha : a σ M = some (true,M)) (hb : b σ M = some (k,M)) : zCK a b σ M = some (k,M):=by unfold zCK; rw [ha]; exact hb
theorem zRh (ha : a σ M = some (false,M)) : zCK a b σ M = some (false,M):=by unfold zCK; rw [ha]
theorem zQO {zA : List (List Int)} {l : Nat} {G : List Int -> Prop} (m : IsM zA l) (hR : zA.length <= 26) (hl : l <= 12) {M : Mem} {jf : Nat} {fd : List (List Int × D)} (hf : M[jf]? = some (dT fd)) (sp : zQU zA l G fd) {p : List Int} (u : Th zA p) {n : Nat} (hd : Dst zA l G p (n + 1)) :
  Ok (zAT [mD zA,tI p,.ref jf] M) fun d M' => ∃ x : Int,d = .int x /\ Fst zA l G p n x /\ ∃ us,M' = M ++ us:=by
 unfold zAT;rw [zAV];unfold zCn;show OkS (zX _ _ [some (mD zA),some (tI p),some (.ref jf),none,none,none] M) _;have hfl:=(zVQ.mp hf).1;have er:=zJa (σ:=[some (mD zA),some (tI p),some (.ref jf),none,none,none]) (M:=M) (zG1 m (f:=zD 0) rfl) (by omega) (by omega);rw [show (l : Int).toNat = l by omega] at er;have ec:=zCL (own:=[4]) (g:=gN 4) (te:=zW zA9 (zH (toD (zD 0)) (zH (toD (zD 1)) (zH (toD (zD 4)) zS)))) (List.range l) (fun (k : Nat) => D.int k) (fun (k : Nat) => tI (setR zA p (k : Int))) er trivial (by rw [zXK]; omega) fun k hk => ⟨_,rfl,zp (zw (d:=mD zA) rfl (zw (d:=tI p) rfl (zr (d:=.int (k : Int)) rfl))) (zHA m (by omega) u.1 (by omega) (by have:=zV1.mp hk; omega))⟩;rw [zU,zm];refine zK ec (zAU ?_);rw [zb];show OkS (zAJ _ [some (mD zA),some (tI p),some (.ref jf),some (.ref M.length),none,none] (M ++ [.lst ((List.range l).map fun (k : Nat) => tI (setR zA p (k : Int)))])) _;generalize hA : M ++ [MO.lst ((List.range l).map fun (k : Nat) => tI (setR zA p (k : Int)))] = A;have a1 : A[M.length]? = some (.lst ((List.range l).map fun (k : Nat) => tI (setR zA p (k : Int)))):=by rw [<- hA]; simp
 have a2 : A[jf]? = some (dT fd):=by rw [<- hA,zVU hfl]; exact hf
 have hen : zLe (zD 3) [some (mD zA),some (tI p),some (.ref jf),some (.ref M.length),none,none] A = some ((List.range l).map (fun (k : Nat) => D.tup [.int (k : Nat),tI (setR zA p (k : Int))]),zEx (.dat (.ref M.length)) ((List.range l).map fun (k : Nat) => tI (setR zA p (k : Int))),A):=by
  unfold zLe;rw [show zD 3 [some (mD zA),some (tI p),some (.ref jf),some (.ref M.length),none,none] A = some (.dat (.ref M.length),A) from rfl];dsimp only;rw [zAZ a1];dsimp only;congr 2;unfold zLd;rw [zVW,zXK];apply List.ext_getElem?;intro i;by_cases hi : i < l
  ·rw [zVk,zVk,List.zip_eq_zipWith,List.getElem?_zipWith,zVk,List.getElem?_range hi];rfl
  ·rw [zWW (by simp; omega),zWW (by simp; omega)]
 have lp : zM fd p = some (.int ((n + 1 : Nat) : Int)):=(sp p _).mpr ⟨u,n + 1,hd,rfl⟩;have ef:=zC9 (own:=[4,5]) (g:=zKs 4 5) (tc:=zCK (tst (fOp (zB3 false) (zD 5) (zD 2))) (tst (fOp kEq (fOp zA0 (zD 2) (zD 5)) (fOp zML (fOp zA0 (zD 2) (zD 1)) (fC (.int 1)))))) (te:=zD 4) (List.range l) _ (fun (k : Nat) => D.int (k : Int)) (fun (k : Nat) => isN n (zM fd (setR zA p (k : Int)))) hen (.inl a1) (by rw [zXK]; omega) (fun k hk => by
  have u':=zDm m p (k : Int) u ⟨by omega,by have:=zV1.mp hk; omega⟩;refine ⟨[some (mD zA),some (tI p),some (.ref jf),some (.ref M.length),some (.int (k : Int)),some (tI (setR zA p (k : Int)))],rfl,?_,fun _ => rfl⟩;have e1 : fOp (zB3 false) (zD 5) (zD 2) [some (mD zA),some (tI p),some (.ref jf),some (.ref M.length),some (.int (k : Int)),some (tI (setR zA p (k : Int)))] A = _:=zY (x:=.dat (tI (setR zA p (k : Int)))) (y:=.dat (.ref jf)) rfl rfl (zOI a2);rw [zVf (by decide)] at e1;cases e : zM fd (setR zA p (k : Int)) with
  | none =>
   rw [e] at e1;exact zRh (zAx e1)
  | some d =>
   obtain ⟨_,v,_,rfl⟩:=(sp _ d).mp e;rw [e] at e1;refine zRv (zAx e1) (zAx ?_);refine zY (x:=.dat (.int (v : Int))) (y:=.dat (.int (((n + 1 : Nat) : Int) - 1))) (zY (x:=.dat (.ref jf)) (y:=.dat (tI (setR zA p (k : Int)))) rfl rfl (zHs a2 e)) (zY (x:=.dat (.int ((n + 1 : Nat) : Int))) (y:=.dat (.int 1)) (zY (x:=.dat (.ref jf)) (y:=.dat (tI p)) rfl rfl (zHs a2 lp)) rfl zVJ) ?_;rw [eqE];unfold isN;congr 5;exact propext ⟨fun h => by omega,fun h => by omega⟩)
 rw [show ((List.range l).filter fun (k : Nat) => isN n (zM fd (setR zA p (k : Int)))).map (fun (k : Nat) => D.int (k : Int)) = (((List.range l).filter fun (k : Nat) => isN n (zM fd (setR zA p (k : Int)))).map fun (k : Nat) => (k : Int)).map D.int by rw [zVl]; rfl] at ef;obtain ⟨b,eb,hb1,hb2⟩:=zQs ef (by
  obtain ⟨_,x,hx,hr⟩:=zDd.mp hd;have : ((x.toNat : Nat) : Int) ∈ ((List.range l).filter fun (k : Nat) => isN n (zM fd (setR zA p (k : Int)))).map fun (k : Nat) => (k : Int):=zVe.mpr ⟨x.toNat,zWY.mpr ⟨zV1.mpr (by omega),by rw [show ((x.toNat : Nat) : Int) = x by omega]; exact (zKE sp (zDm m p x u hx)).mpr hr⟩,rfl⟩;exact List.ne_nil_of_mem this)
 obtain ⟨k,hk,rfl⟩:=zVe.mp hb1;obtain ⟨k1,k2⟩:=zWY.mp hk;have k3:=zV1.mp k1;refine zA1 eb ⟨(k : Int),rfl,⟨by omega,by omega,(zKE sp (zDm m p _ u ⟨by omega,by omega⟩)).mp k2,fun y y0 y1 hy => ?_⟩,_,hA.symm⟩;have:=hb2 y (zVe.mpr ⟨y.toNat,zWY.mpr ⟨zV1.mpr (by omega),by rw [show ((y.toNat : Nat) : Int) = y by omega]; exact (zKE sp (zDm m p y u ⟨y0,by omega⟩)).mpr hy⟩,by omega⟩);omega
theorem zL9 (a : Fst zA l G p n x) (b : Fst zA l G p n y) : x = y:=by
 rcases Int.lt_trichotomy x y with q | q | q
 ·exact absurd a.d (b.f x a.x0 q)
 ·exact q
 ·exact absurd b.d (a.f y b.x0 q)
open Classical in
noncomputable def zE0 (zA : List (List Int)) (l : Nat) (G : List Int -> Prop) (t : List Int) : Nat:=if h : ∃ n,Dst zA l G t n then Classical.choose h else 0
open Classical in
noncomputable def zTF (zA : List (List Int)) (l : Nat) (G : List Int -> Prop) (t : List Int) : Int:=if h : ∃ x,Fst zA l G t (zE0 zA l G t - 1) x then Classical.choose h else 0
theorem zEt (h : Dst zA l G t n) : zE0 zA l G t = n:=by
 unfold zE0;have hx : ∃ n,Dst zA l G t n:=⟨n,h⟩;rw [dif_pos hx];exact zA3 (Classical.choose_spec hx) h
theorem zK8 (h : 0 < zE0 zA l G t) : Dst zA l G t (zE0 zA l G t):=by
 by_cases hx : ∃ n,Dst zA l G t n
 ·obtain ⟨n,hn⟩:=hx;rw [zEt hn]; exact hn
 ·unfold zE0 at h;rw [dif_neg hx] at h;omega
theorem zMq (hd : Dst zA l G t (n + 1)) (h : Fst zA l G t n x) : zTF zA l G t = x:=by
 unfold zTF;rw [zEt hd];have hx : ∃ x,Fst zA l G t (n + 1 - 1) x:=⟨x,h⟩;rw [dif_pos hx];exact zL9 (Classical.choose_spec hx) h
noncomputable def zMy (zA : List (List Int)) (l : Nat) (G : List Int -> Prop) (t : List Int) : Bool:=decide (0 < zE0 zA l G t)
noncomputable def zGh (zA : List (List Int)) (l : Nat) (G : List Int -> Prop) (t : List Int) : D:=.tup [.int (zE0 zA l G t : Nat),.int (zTF zA l G t)]
noncomputable def zCi (zA : List (List Int)) (l : Nat) (G : List Int -> Prop) : List (List Int):=(ze (zQ zA)).filter (zMy zA l G)
noncomputable def zDE (zA : List (List Int)) (l : Nat) (G : List Int -> Prop) : List (List Int × D):=(zCi zA l G).map fun p => (p,zGh zA l G p)
theorem zLJ {f : List Int -> D} {t : List Int} : ∀ {ps : List (List Int)},zM (ps.map fun p => (p,f p)) t = if t ∈ ps then some (f t) else none
 | [] => rfl
 | p :: r => by
  rw [zVg,zM];by_cases h : p = t
  ·subst h; rw [zVc rfl,zVc zVb]
  ·rw [zVf h,zLJ (ps:=r)];by_cases hr : t ∈ r
   ·rw [zVc hr,zVc (zVa _ hr)]
   ·rw [zVf hr,zVf (by simp [hr,Ne.symm h])]
theorem zRm (h : g ∉ T.map (·.1)) : zCu T g v = T ++ [(g,v)]:=by
 unfold zCu;cases e : zM T g with
 | none => rfl
 | some d => exact absurd (zES.mp (show (zM T g).isSome = true by rw [e]; rfl)) h
theorem zJ2 (h : xs.Nodup) : (ze xs).Nodup:=by
 have gen : ∀ r : List Int,r.Nodup -> (r.flatMap fun a => (xs.filter fun b => decide (a < b)).map fun b => [a,b]).Nodup:=by
  intro r;induction r with
  | nil => intro _; simp
  | cons a r ih =>
   intro hr;obtain ⟨h1,h2⟩:=List.nodup_cons.mp hr;rw [List.flatMap_cons,zWb];refine ⟨?_,ih h2,fun u hu v hv => ?_⟩
   ·refine List.pairwise_map.mpr (List.Pairwise.imp (fun {x y} q z => q (by simpa using z)) (List.Pairwise.filter _ h))
   ·obtain ⟨b,_,rfl⟩:=zVe.mp hu;obtain ⟨c,hc,hv⟩:=List.mem_flatMap.mp hv;obtain ⟨d,_,rfl⟩:=zVe.mp hv;intro z;have : a = c:=by simpa using (zWR z).1
    exact h1 (by rw [this]; exact hc)
 exact gen xs h
theorem zKi (zA : List (List Int)) : (zQ zA).Nodup:=by
 unfold zQ;exact List.pairwise_map.mpr (List.Pairwise.imp (fun {a b} h z => h (by omega)) List.nodup_range)
theorem zCe : t ∈ zCi zA l G ↔ t ∈ ze (zQ zA) /\ ∃ n,Dst zA l G t (n + 1):=by
 unfold zCi zMy;rw [zWY];constructor
 ·rintro ⟨a,b⟩;have:=zK8 (zWJ b);exact ⟨a,zE0 zA l G t - 1,by rw [show zE0 zA l G t - 1 + 1 = zE0 zA l G t by have:=zWJ b; omega]; exact this⟩
 ·rintro ⟨a,n,h⟩;exact ⟨a,zWV (by rw [zEt h]; omega)⟩
theorem zTc (hf : f σ M = some (.dat (.ref n),M)) (hn : M[n]? = some (dT T)) (hg : g σ M = some (.dat (tI k),M)) : zB4 f g (fC c) σ M = some (.dat ((zM T k).getD c),M):=by
 unfold zB4;rw [show toD f σ M = some (.ref n,M) by unfold toD; rw [hf]];dsimp only;rw [hn];dsimp only;rw [show toD g σ M = some (tI k,M) by unfold toD; rw [hg]];dsimp only;rw [show toD (fC c) σ M = some (c,M) from rfl];dsimp only;rw [dgT hn]
theorem zNV {own : List Nat} {i : Nat} {tv : FE} {σ : Sd} {M : Mem} {jl jk : Nat} {K : MO} {ts : List (List Int)} {val : List Int -> D} (hj : M[jl]? = some (.lst (ts.map tI))) (hk : M[jk]? = some K) (nd : ts.Nodup) (hz : ts.length <= 80000)
  (hg : ∀ a,gN i a (zBH own σ) = some ((zBH own σ).set i (some a))) (hs : ∀ (a : D) M',zD i ((zBH own σ).set i (some a)) M' = some (.dat a,M'))
  (hv : ∀ t ∈ ts,∀ M' : Mem,M'[jk]? = some K -> ∃ us,tv ((zBH own σ).set i (some (tI t))) M' = some (.dat (val t),M' ++ us)) {n : Nat} (hn : n = M.length) :
  ∃ us,zCl (gN i) zAC (zD i) tv (zBH own σ) n (ts.map tI) (zEx (.dat (.ref jl)) (ts.map tI)) (ts.map tI) (M ++ [dT []]) = some (M ++ dT (ts.map fun t => (t,val t)) :: us):=by
 subst hn;have hjl:=(zVQ.mp hj).1;have hkl:=(zVQ.mp hk).1;have loop : ∀ (r q : List (List Int)) (ws : Mem),q ++ r = ts -> ∃ us,zCl (gN i) zAC (zD i) tv (zBH own σ) M.length (ts.map tI) (zEx (.dat (.ref jl)) (ts.map tI)) (r.map tI) (M ++ dT (q.map fun t => (t,val t)) :: ws) = some (M ++ dT (ts.map fun t => (t,val t)) :: us):=by
  intro r;induction r with
  | nil =>
   intro q ws e;rw [zV7] at e; subst e;exact ⟨ws,zJA (.inl (by rw [zVU hjl]; exact hj))⟩
  | cons x r ih =>
   intro q ws e;have hx : x ∉ q:=fun z => by
    rw [<- e,zWb] at nd;exact nd.2.2 x z x zVb rfl
   have hl : q.length < 90000:=by have:=zXA List.length e; simp at this; omega
   obtain ⟨us,hu⟩:=hv x (by rw [<- e]; simp) (M ++ dT (q.map fun t => (t,val t)) :: ws) (by rw [zVU hkl]; exact hk);obtain ⟨vs,hvs⟩:=ih (q ++ [x]) (ws ++ us) (by rw [<- e]; simp);refine ⟨vs,?_⟩;rw [<- hvs,zVg];have hgd : zA5 (zEx (.dat (.ref jl)) (ts.map tI)) (ts.map tI) (M ++ dT (q.map fun t => (t,val t)) :: ws):=.inl (by rw [zVU hjl]; exact hj);rw [zCl,zVc hgd,hg];dsimp only;rw [show zAC ((zBH own σ).set i (some (tI x))) (M ++ dT (q.map fun t => (t,val t)) :: ws) = some (true,M ++ dT (q.map fun t => (t,val t)) :: ws) from rfl];dsimp only;rw [show toD (zD i) ((zBH own σ).set i (some (tI x))) (M ++ dT (q.map fun t => (t,val t)) :: ws) = some (tI x,M ++ dT (q.map fun t => (t,val t)) :: ws) by unfold toD; rw [hs]];dsimp only;rw [show toD tv ((zBH own σ).set i (some (tI x))) (M ++ dT (q.map fun t => (t,val t)) :: ws) = some (val x,M ++ dT (q.map fun t => (t,val t)) :: ws ++ us) by unfold toD; rw [hu]];dsimp only;rw [zNO (T:=q.map fun t => (t,val t)) (by simp) (by rw [zVW]; exact hl),zRm (by rw [zVl]; simpa using hx)];dsimp only;congr 1;rw [zWT,List.set_append_right _ _ (zVT _)];simp
 exact loop ts [] [] rfl
theorem zLa {zA : List (List Int)} {l : Nat} {G : List Int -> Prop} (m : IsM zA l) (hR : zA.length <= 26) (hl : l <= 12) {M : Mem} {jf : Nat} {fd : List (List Int × D)} (hf : M[jf]? = some (dT fd)) (sp : zQU zA l G fd) :
  Ok (zB7 [mD zA,.ref jf] M) fun d M' => ∃ jr us,d = .ref jr /\ M' = M ++ us /\ M.length <= jr /\ M'[jr]? = some (dT (zDE zA l G)):=by
 unfold zB7;rw [zAV];unfold zFL;show OkS (zX _ _ [some (mD zA),some (.ref jf),none,none] M) _;have hfl:=(zVQ.mp hf).1;have hrl : (zQ zA).length = zA.length:=by unfold zQ; simp
 have epr:=zFn (xs:=zQ zA) (by omega) (M:=M);have ei : zAr (zW zAb (zH (toD (zW zAk (zH (toD (zD 0)) zS))) zS)) [some (mD zA),some (.ref jf),none,none] M = _:=zG7 (zr (d:=tI (zQ zA)) (zp (zr (d:=mD zA) rfl) (zFt (by omega)))) epr (zBT _ _);have hPl : (ze (zQ zA)).length <= 676:=by
  have h1:=zBb (zQ zA);rw [hrl] at h1;exact zVo h1 (zWz hR hR)
 generalize hA : M ++ [MO.lst ((ze (zQ zA)).map tI)] = A at ei;have a1 : A[M.length]? = some (.lst ((ze (zQ zA)).map tI)):=by rw [<- hA]; simp
 have a2 : A[jf]? = some (dT fd):=by rw [<- hA,zVU hfl]; exact hf
 have ef:=zC9 (own:=[3]) (g:=gN 3) (tc:=tst (fOp kGt (zB4 (zD 1) (zD 3) (fC (.int 0))) (fC (.int 0)))) (te:=zD 3) (ze (zQ zA)) tI tI (zMy zA l G) ei (.inl a1) (by omega) (fun p hp => by
  refine ⟨[some (mD zA),some (.ref jf),none,some (tI p)],rfl,zAx ?_,fun _ => rfl⟩;have e1 : zB4 (zD 1) (zD 3) (fC (.int 0)) [some (mD zA),some (.ref jf),none,some (tI p)] A = _:=zTc (k:=p) rfl a2 rfl;unfold zMy;cases e : zM fd p with
  | none =>
   rw [e] at e1;rw [zY (x:=.dat (.int 0)) (y:=.dat (.int 0)) e1 rfl gtE];have : ¬ 0 < zE0 zA l G p:=fun h => by
    rw [(sp p _).mpr ⟨zDM p hp,_,zK8 h,rfl⟩] at e;cases e
   rw [zVw this]; rfl
  | some d =>
   obtain ⟨_,v,hv,rfl⟩:=(sp _ d).mp e;rw [e] at e1;rw [zY (x:=.dat (.int (v : Int))) (y:=.dat (.int 0)) e1 rfl gtE,zEt hv];congr 5;exact propext ⟨fun h => by omega,fun h => by omega⟩)
 rw [zU,zm];refine zK ef (zAU ?_);rw [zb];show OkS (zAJ _ [some (mD zA),some (.ref jf),some (.ref A.length),none] (A ++ [.lst ((zCi zA l G).map tI)])) _;have nd : (zCi zA l G).Nodup:=List.Pairwise.filter _ (zJ2 (zKi zA));have hrl2 : (zCi zA l G).length <= 676:=zVo (List.length_filter_le _ _) hPl;generalize hB : A ++ [MO.lst ((zCi zA l G).map tI)] = B;have b1 : B[A.length]? = some (.lst ((zCi zA l G).map tI)):=by rw [<- hB]; simp
 have b2 : B[jf]? = some (dT fd):=by rw [<- hB,zVU (zVQ.mp a2).1]; exact a2
 obtain ⟨us,hu⟩:=zNV (own:=[3]) (i:=3) (σ:=[some (mD zA),some (.ref jf),some (.ref A.length),none]) (tv:=zDv (zH (toD (fOp zA0 (zD 1) (zD 3))) (zH (toD (zW zAT (zH (toD (zD 0)) (zH (toD (zD 3)) (zH (toD (zD 1)) zS))))) zS))) (val:=zGh zA l G) b1 b2 nd (by omega) (fun _ => rfl) (fun _ _ => rfl) (fun t ht M' hM => by
  obtain ⟨ht1,n,hn⟩:=zCe.mp ht;obtain ⟨d,M2,e,x,rfl,fx,us,rfl⟩:=zQO m hR hl hM sp (zDM t ht1) hn;refine ⟨us,?_⟩;show zDv _ [some (mD zA),some (.ref jf),some (.ref A.length),some (tI t)] M' = _;have e1 : fOp zA0 (zD 1) (zD 3) [some (mD zA),some (.ref jf),some (.ref A.length),some (tI t)] M' = some (.dat (.int ((n + 1 : Nat) : Int)),M'):=zY (x:=.dat (.ref jf)) (y:=.dat (tI t)) rfl rfl (zHs hM ((sp t _).mpr ⟨zDM t ht1,n + 1,hn,rfl⟩));have e2 : zW zAT (zH (toD (zD 0)) (zH (toD (zD 3)) (zH (toD (zD 1)) zS))) [some (mD zA),some (.ref jf),some (.ref A.length),some (tI t)] M' = some (.dat (.int x),M' ++ us):=zp (zw (d:=mD zA) rfl (zw (d:=tI t) rfl (zr (d:=.ref jf) rfl))) e;rw [zLr (aC' (zSN e1) (zPH e2)) (by simp)];unfold zGh;rw [zEt hn,zMq hn fx]) rfl
 have ed : zDP true [3] (zAr (zD 2)) (gN 3) zAC (zD 3) (zDv (zH (toD (fOp zA0 (zD 1) (zD 3))) (zH (toD (zW zAT (zH (toD (zD 0)) (zH (toD (zD 3)) (zH (toD (zD 1)) zS))))) zS))) [some (mD zA),some (.ref jf),some (.ref A.length),none] B = some (.dat (.ref B.length),B ++ dT (zDE zA l G) :: us):=by
  unfold zDP zAr;rw [show zD 2 [some (mD zA),some (.ref jf),some (.ref A.length),none] B = some (.dat (.ref A.length),B) from rfl];dsimp only;rw [zAZ b1];dsimp only;rw [show zKA true = dT [] from rfl,hu];rfl
 rw [zAs];refine zK ed ⟨B.length,[MO.lst ((ze (zQ zA)).map tI)] ++ ([MO.lst ((zCi zA l G).map tI)] ++ dT (zDE zA l G) :: us),rfl,by rw [<- hB,<- hA]; simp only [zWT],?_,by simp⟩;rw [<- hB,<- hA]; simp only [zVd]; omega
theorem zPw (m : IsM zA l) (hR : zA.length <= 26) (hl : l <= 12) :
  Ok (zFW [mD zA] M) fun d M' => ∃ jr,d = .ref jr /\ M.length <= jr /\ M'[jr]? = some (dT (zDE zA l One)) /\ M.length <= M'.length /\ ∀ j,j < M.length -> M'[j]? = M[j]?:=by
 unfold zFW;rw [zAV];unfold zKJ;show OkS (zAJ _ [some (mD zA)] M) _;obtain ⟨d,M1,e,jf,rfl,h1,⟨fd,h2,_,sp⟩,h3,h4⟩:=zHY m hR hl (M:=M);obtain ⟨d2,M2,e2,jr,us,rfl,rfl,q1,q2⟩:=zLa m hR hl h2 sp;rw [zAs];have ec : zW zB7 (zH (toD (zD 0)) (zH (toD (zW zB1 (zH (toD (zD 0)) zS))) zS)) [some (mD zA)] M = some (.dat (.ref jr),M1 ++ us):=by
  exact zSC (aC' (zSN (d:=mD zA) rfl) (zPH (zp (zr (d:=mD zA) rfl) e))) e2
 refine zK ec ⟨jr,rfl,by omega,q2,by rw [zVd]; omega,fun j hj => ?_⟩;rw [zVU (by omega)]; exact h4 j hj
theorem zI7 (m : IsM zA l) (o : zEM zA G) : ∀ (n : Nat) (t : List Int),Th zA t -> Dst zA l G t n -> ∃ ts : List (List Int),ts.length = n /\ ts.Nodup /\ ∀ s ∈ ts,s ∈ ze (zQ zA) /\ ∃ k,k <= n /\ Dst zA l G s k
 | 0,_,_,_ => ⟨[],rfl,List.nodup_nil,fun _ h => by cases h⟩
 | n + 1,t,u,d => by
  obtain ⟨q,x,hx,hd⟩:=zDd.mp d;obtain ⟨ts,h1,h2,h3⟩:=zI7 m o n (setR zA t x) (zDm m t x u hx) hd;refine ⟨t :: ts,by simp [h1],List.nodup_cons.mpr ⟨fun z => ?_,h2⟩,fun s hs => ?_⟩
  ·obtain ⟨_,k,hk,hk2⟩:=h3 t z;have:=zA3 hk2 d;omega
  ·rcases zVZ.mp hs with rfl | z
   ·exact ⟨zGO m o s (n + 1) u (fun g => by have:=zA3 (zBj.mpr g) d; omega) d.1,n + 1,zVT _,d⟩
   ·obtain ⟨a,k,hk,b⟩:=h3 s z;exact ⟨a,k,by omega,b⟩
theorem zMh (m : IsM zA l) (o : zEM zA G) (u : Th zA t) (d : Dst zA l G t n) : n <= (ze (zQ zA)).length:=by
 obtain ⟨ts,h1,h2,h3⟩:=zI7 m o n t u d;rw [<- h1];exact zCb ts _ h2 fun s hs => (h3 s hs).1
theorem zGC (hR : zA.length <= 26) : (ze (zQ zA)).length <= 676:=by
 have h1:=zBb (zQ zA);have hrl : (zQ zA).length = zA.length:=by unfold zQ; simp
 rw [hrl] at h1;exact zVo h1 (zWz hR hR)
theorem zF7 (c : Climb zA l G t w) : Dst zA l G t w.length:=by
 cases c with
 | nil g => exact zBj.mpr g
 | cons d x0 x1 e f c => rw [zVu,zI2 c e]; exact d
theorem zEn : zM (zDE zA l G) t = if t ∈ zCi zA l G then some (zGh zA l G t) else none:=zLJ
theorem zLq (m : IsM zA l) (o : zEM zA G) (hR : zA.length <= 26) (hr : M[jr]? = some (dT (zDE zA l G))) (u : Th zA p) (c : Climb zA l G p w) :
  Ok (zDa [mD zA,.ref jr,tI p] M) fun d M' => d = tI w /\ ∃ us,M' = M ++ us:=by
 have hrl:=(zVQ.mp hr).1;have hw : w.length <= 676:=zVo (zMh m o u (zF7 c)) (zGC hR);unfold zDa;rw [zAV];unfold zGD;show OkS (zX _ _ [some (mD zA),some (.ref jr),some (tI p),none,none,none] M) _;rw [zU,zm];refine zK (M:=M) (a:=.fl []) (zUk rfl (by simp)) (zAU ?_);rw [zb];show OkS (zX _ _ [some (mD zA),some (.ref jr),some (tI p),some (.ref M.length),none,none] (M ++ [.lst []])) _;refine zBx (d:=tI p) rfl ?_;show OkS (zX _ _ [some (mD zA),some (.ref jr),some (tI p),some (.ref M.length),some (tI p),none] (M ++ [.lst []])) _;rw [zU];refine zCf (I:=fun z σ M' => ∃ (w1 w2 here : List Int) (y : Option D),w = w1 ++ w2 /\ Climb zA l G here w2 /\ Th zA here /\ z = w2.length /\ σ = [some (mD zA),some (.ref jr),some (tI p),some (.ref M.length),some (tI here),y] /\ M' = M ++ [.lst (w1.map D.int)]) ?_ 1000 w.length _ _ (by omega) ⟨[],w,p,none,rfl,c,u,rfl,rfl,rfl⟩;rintro z σ M' ⟨w1,w2,here,y,hw12,c2,u2,rfl,rfl,rfl⟩;have hM : (M ++ [MO.lst (w1.map D.int)])[jr]? = some (dT (zDE zA l G)):=by rw [zVU hrl]; exact hr
 have hL : (M ++ [MO.lst (w1.map D.int)])[M.length]? = some (.lst (w1.map D.int)):=by simp
 have et : tst (fOp (zB3 false) (zD 4) (zD 1)) [some (mD zA),some (.ref jr),some (tI p),some (.ref M.length),some (tI here),y] (M ++ [MO.lst (w1.map D.int)]) = some ((zM (zDE zA l G) here).isSome,M ++ [MO.lst (w1.map D.int)]):=by
  have:=zY (k:=zB3 false) (f:=zD 4) (g:=zD 1) (σ:=[some (mD zA),some (.ref jr),some (tI p),some (.ref M.length),some (tI here),y]) (x:=.dat (tI here)) (y:=.dat (.ref jr)) rfl rfl (zOI hM);rw [zVf (by decide)] at this;exact zAx this
 refine zK et ?_;cases c2 with
 | nil g =>
  have hlk : zM (zDE zA l G) here = none:=by rw [zEn,zVf (fun h => by obtain ⟨_,n,hn⟩:=zCe.mp h; have:=zA3 (zBj.mpr g) hn; omega)]
  rw [hlk];show OkS (zAJ _ _ _) _;rw [zV7] at hw12;subst hw12;exact zA1 (d:=tI w) (zCs (f:=zD 3) rfl (zAZ hL)) ⟨rfl,_,rfl⟩
 | @cons _ x w3 n d x0 x1 e f c3 =>
  have hp:=zGO m o here (n + 1) u2 (fun g => by have:=zA3 (zBj.mpr g) d; omega) d.1;have hin : here ∈ zCi zA l G:=zCe.mpr ⟨hp,n,d⟩;have fx : Fst zA l G here n x:=⟨x0,x1,e,f⟩;have hv : zGh zA l G here = .tup [.int ((n + 1 : Nat) : Int),.int x]:=by unfold zGh; rw [zEt d,zMq d fx]
  have hlk : zM (zDE zA l G) here = some (.tup [.int ((n + 1 : Nat) : Int),.int x]):=by rw [zEn,zVc hin,hv]
  rw [hlk];have hlen:=zXA List.length hw12;rw [zVd,zVu] at hlen;show OkS (zX _ _ [some (mD zA),some (.ref jr),some (tI p),some (.ref M.length),some (tI here),y] (M ++ [MO.lst (w1.map D.int)])) _;refine zBx (d:=.int x) (zY (x:=.dat (.tup [.int ((n + 1 : Nat) : Int),.int x])) (y:=.dat (.int 1)) (zY (x:=.dat (.ref jr)) (y:=.dat (tI here)) rfl rfl (zHs hM hlk)) rfl (zE3 zA2 rfl)) ?_;show OkS (zX _ _ [some (mD zA),some (.ref jr),some (tI p),some (.ref M.length),some (tI here),some (.int x)] (M ++ [MO.lst (w1.map D.int)])) _;rw [zU,zCm];refine zMM.mpr (zK (a:=.dat (.ref M.length)) (M:=M ++ [MO.lst (w1.map D.int)]) rfl ⟨⟨_,zCX hL⟩,zK (zr (d:=.int x) rfl) ((zEN hL (by rw [zVW]; exact zVm (show w1.length < 1000 by omega) (z0 (by omega)))).mpr ?_)⟩);rw [zb];have hset : (M ++ [MO.lst (w1.map D.int)]).set M.length (.lst (w1.map D.int ++ [.int x])) = M ++ [MO.lst ((w1 ++ [x]).map D.int)]:=by
   rw [List.set_append_right _ _ (zVT _)]; simp
  rw [hset,zm];refine zK (zp (zw (d:=mD zA) rfl (zw (d:=tI here) rfl (zr (d:=.int x) rfl))) (zHA m (by omega) u2.1 x0 x1)) ?_;exact ⟨w3.length,by simp,w1 ++ [x],w3,setR zA here x,some (.int x),by rw [hw12]; simp,c3,zDm m here x u2 ⟨x0,x1⟩,rfl,rfl,rfl⟩
def zFg (a b : Int) : List Int:=[if b < a then b else a,if b > a then b else a]
theorem zPf (zA : List (List Int)) (r : Int) (w : List Int) (x : Int) : zCJ zA r (w ++ [x]) = zCx zA (zCJ zA r w) x:=by
 unfold zCJ; rw [List.foldl_append]; rfl
abbrev Wd (l : Nat) (w : List Int) : Prop:=∀ x ∈ w,0 <= x /\ x < (l : Int)
theorem zLz (h : Wd l u) (g : Wd l v) : Wd l (u ++ v):=fun x hx => (zVn.mp hx).elim (h x) (g x)
theorem zQo : (ris [a,b]).length = 1 ↔ a = b:=by
 constructor
 ·intro h;obtain ⟨r,e⟩:=List.length_eq_one_iff.mp h;have ha : a ∈ ris [a,b]:=(zBv _ _).mpr (by simp);have hb : b ∈ ris [a,b]:=(zBv _ _).mpr (by simp);rw [e,zVp] at ha hb;rw [ha,hb]
 ·rintro rfl;rw [show ris [a,a] = ris [a] from zKR (by simp),zQm (by simp)];rfl
theorem zQA (h : a ≠ b) : (zFg a b).Pairwise (· < ·):=by
 unfold zFg;simp only [zXX,zVp,forall_eq,zVs,false_implies,implies_true,List.Pairwise.nil,and_true];split <;> split <;> omega
theorem zPa (h : a ≠ b) (w : List Int) : broR zA (zFg a b) w = ris [zCJ zA a w,zCJ zA b w]:=by
 rw [zDf (zQA h)];apply zKR;intro x;unfold zFg;by_cases q : b < a
 ·rw [zVc q,zVf (by omega)]; simp [or_comm]
 ·rw [zVf q,zVc (by omega)]; simp
theorem zNK (h : a ≠ b) (w : List Int) : One (broR zA (zFg a b) w) ↔ zCJ zA a w = zCJ zA b w:=by
 unfold One; rw [zPa h]; exact zQo
noncomputable def zGK : FS:=(zX (zAG 2 (zAL [3] (zAr (zW zAb (zH (toD (zD 1)) zS))) (gN 3) (tst (fOp (zB3 false) (zD 3) (zD 0))) (zDv (zH (toD (fOp kIx (fOp zA0 (zD 0) (zD 3)) (fC (.int 0)))) (zH (toD (zD 3)) zS)))))
  (zAJ (vIf (zLh (zD 2)) (fOp kIx (fB zGc (zc (zD 2) zx)) (fC (.int 1))) (fC .non))))
noncomputable def zCa : FF:=zBJ 4 zGK
noncomputable def zJu : FS:=(zX (zAG 2 (zW zFW (zH (toD (zD 0)) zS)))
  (zX (zAG 3 (zD 1))
  (zX (zAG 4 (zDv zS))
  (zX (zAG 5 (zBS zS))
  (zX (zAG 6 (zW zCa (zH (toD (zD 2)) (zH (toD (zD 3)) zS))))
  (zX (zBF (tst (fOp (kIs true) (zD 6) (fC .non))) (zX (zAG 7 (zW zDa (zH (toD (zD 0)) (zH (toD (zD 2)) (zH (toD (zD 6)) zS)))))
  (zX (zAG 3 (zW zB5 (zH (toD (zD 0)) (zH (toD (zD 3)) (zH (toD (zD 7)) zS)))))
  (zX (zAG 4 (fOp zAe (zD 4) (zD 7)))
  (zX (zBz (fM zAt (zD 5) (zH (toD (zDv (zH (toD (zD 6)) (zH (toD (fB zBB (zc (zD 4) zx))) zS)))) zS)))
  (zAG 6 (zW zCa (zH (toD (zD 2)) (zH (toD (zD 3)) zS)))))))) 100)
  (zAJ (zDv (zH (toD (zD 4)) (zH (toD (fB zBZ (zc (zD 5) zx))) zS))))))))))
noncomputable def zFY : FF:=zD6 (zBJ 8 zJu)
noncomputable def zDs : FS:=(zX (zAG 1 (zW zAk (zH (toD (zD 0)) zS)))
  (zX (zAG 2 (fOp kIx (zW zFY (zH (toD (zD 0)) (zH (toD (zD 1)) zS))) (fC (.int 0))))
  (zX (zAG 3 (zW zB5 (zH (toD (zD 0)) (zH (toD (zD 1)) (zH (toD (zD 2)) zS)))))
  (zAJ (zDv (zH (toD (fB zBB (zc (zD 3) zx))) (zH (toD (zD 2)) (zH (toD (zD 3)) zS))))))))
noncomputable def zBp : FF:=zD6 (zBJ 4 zDs)
open Classical in
noncomputable def zC1 (zA : List (List Int)) (l : Nat) (p : List Int) : Bool:=decide (p ∈ zCi zA l One)
noncomputable def npR (zA : List (List Int)) (l : Nat) (p : List Int) : NP:=((zE0 zA l One p : Nat),p.getD 0 0,p.getD 1 0)
noncomputable def zCO (zA : List (List Int)) (l : Nat) (S : List Int) : List (List Int):=(ze S).filter (zC1 zA l)
noncomputable def zCN (zA : List (List Int)) (l : Nat) (S : List Int) : Option (List Int):=match (zCO zA l S).map (npR zA l) with
 | [] => none
 | t :: ts => some [(zBk t ts).2.1,(zBk t ts).2.2]
noncomputable def zGi (zA : List (List Int)) (l : Nat) (S : List Int) : D:=match zCN zA l S with
 | none => .non
 | some p => tI p
theorem zHN : zCN zA l S = none ↔ zCO zA l S = []:=by
 unfold zCN;cases h : zCO zA l S with
 | nil => simp
 | cons a r => simp
theorem zGB : p ∈ zCO zA l S ↔ p ∈ ze S /\ p ∈ zCi zA l One:=by
 unfold zCO zC1;rw [zWY,zWa]
theorem zOW (h : zCN zA l S = some p) : p ∈ zCO zA l S:=by
 unfold zCN at h;cases e : (zCO zA l S).map (npR zA l) with
 | nil => rw [e] at h; cases h
 | cons t ts =>
  rw [e] at h;cases h;have hm:=zIk ts t;rw [<- e] at hm;obtain ⟨q,hq,eq⟩:=zVe.mp hm;rw [<- eq];obtain ⟨a,b,rfl,_⟩:=zAp.mp (zGB.mp hq).1;exact hq
theorem zTu (h : p ∈ ze S) : npD (npR zA l p) = .tup [.int (zE0 zA l One p : Nat),tI p]:=by
 obtain ⟨a,b,rfl,_⟩:=zAp.mp h;rfl
theorem zCW (s : IsS zA S) : S.length <= zA.length:=zLl (a:=0) s.pw fun x hx => by have:=s.mem x hx; omega
theorem zHE (hR : zA.length <= 26) (hr : M[jr]? = some (dT (zDE zA l One))) (s : IsS zA S) :
  Ok (zCa [.ref jr,tI S] M) fun d M' => d = zGi zA l S /\ ∃ us,M' = M ++ us:=by
 have hrl:=(zVQ.mp hr).1;have hS:=zCW s;unfold zCa;rw [zAV];unfold zGK;show OkS (zX _ _ [some (.ref jr),some (tI S),none,none] M) _;have epr:=zFn (xs:=S) (by omega) (M:=M);have ei : zAr (zW zAb (zH (toD (zD 1)) zS)) [some (.ref jr),some (tI S),none,none] M = _:=zG7 (zr (d:=tI S) rfl) epr (zBT _ _);have hPl : (ze S).length <= 676:=zVo (zBb S) (zVo (zWz hS hS) (zWz hR hR));generalize hA : M ++ [MO.lst ((ze S).map tI)] = A at ei;have a1 : A[M.length]? = some (.lst ((ze S).map tI)):=by rw [<- hA]; simp
 have a2 : A[jr]? = some (dT (zDE zA l One)):=by rw [<- hA,zVU hrl]; exact hr
 have ef:=zC9 (own:=[3]) (g:=gN 3) (tc:=tst (fOp (zB3 false) (zD 3) (zD 0))) (te:=zDv (zH (toD (fOp kIx (fOp zA0 (zD 0) (zD 3)) (fC (.int 0)))) (zH (toD (zD 3)) zS))) (ze S) tI (fun p => .tup [.int (zE0 zA l One p : Nat),tI p]) (zC1 zA l) ei (.inl a1) (by omega) (fun p hp => by
  refine ⟨[some (.ref jr),some (tI S),none,some (tI p)],rfl,?_,fun hk => ?_⟩
  ·have e1 : fOp (zB3 false) (zD 3) (zD 0) [some (.ref jr),some (tI S),none,some (tI p)] A = _:=zY (x:=.dat (tI p)) (y:=.dat (.ref jr)) rfl rfl (zOI a2);rw [zVf (by decide),zEn] at e1;rw [zAx e1];unfold zC1;by_cases h : p ∈ zCi zA l One
   ·rw [zVc h,zWV h]; rfl
   ·rw [zVf h,zVw h]; rfl
  ·have h : p ∈ zCi zA l One:=zWJ hk;have hlk : zM (zDE zA l One) p = some (zGh zA l One p):=by rw [zEn,zVc h]
   exact zLr (zw (zY (x:=.dat (zGh zA l One p)) (y:=.dat (.int 0)) (zY (x:=.dat (.ref jr)) (y:=.dat (tI p)) rfl rfl (zHs a2 hlk)) rfl (zE3 zA2 rfl)) (zr (d:=tI p) rfl)) (by simp))
 rw [zU,zm];refine zK ef (zAU ?_);rw [zb];have hmap : ((ze S).filter (zC1 zA l)).map (fun p => D.tup [.int (zE0 zA l One p : Nat),tI p]) = ((zCO zA l S).map (npR zA l)).map npD:=by
  rw [zVl];exact List.map_congr_left fun p hp => (zTu (zWY.mp hp).1).symm
 rw [hmap];show OkS (zAJ _ [some (.ref jr),some (tI S),some (.ref A.length),none] (A ++ [.lst (((zCO zA l S).map (npR zA l)).map npD)])) _;generalize hB : A ++ [MO.lst (((zCO zA l S).map (npR zA l)).map npD)] = B;have b1 : B[A.length]? = some (.lst (((zCO zA l S).map (npR zA l)).map npD)):=by rw [<- hB]; simp
 have hus : ∃ us,B = M ++ us:=⟨[MO.lst ((ze S).map tI)] ++ [MO.lst (((zCO zA l S).map (npR zA l)).map npD)],by rw [<- hB,<- hA,zWT]⟩;rw [zAs,zS6];refine zK (zQY (f:=zD 2) (σ:=[some (.ref jr),some (tI S),some (.ref A.length),none]) rfl b1) ?_;unfold zGi zCN;cases e : (zCO zA l S).map (npR zA l) with
 | nil =>
  show Ok (fC .non _ _) _;refine zK (a:=.dat .non) (M:=B) rfl ?_;exact ⟨rfl,hus⟩
 | cons t ts =>
  rw [e] at b1;show Ok (fOp kIx (fB zGc (zc (zD 2) zx)) (fC (.int 1)) [some (.ref jr),some (tI S),some (.ref A.length),none] B) _;have em : fB zGc (zc (zD 2) zx) [some (.ref jr),some (tI S),some (.ref A.length),none] B = some (.dat (npD (zBk t ts)),B):=by
   unfold fB zc zx;rw [show zD 2 [some (.ref jr),some (tI S),some (.ref A.length),none] B = some (.dat (.ref A.length),B) from rfl];show zGc [.dat (.ref A.length)] B = _;unfold zGc;dsimp only;rw [zAZ b1];dsimp only;rw [zIm]
  exact zK (zY (y:=.dat (.int 1)) em rfl (zE3 (d:=tI [(zBk t ts).2.1,(zBk t ts).2.2]) zA2 rfl)) ⟨rfl,hus⟩
def stD (q : List Int × Int) : D:=.tup [tI q.1,.int q.2]
set_option genInjectivity true in
inductive Quick (zA : List (List Int)) (l : Nat) : Nat -> List Int -> List Int -> List (List Int × Int) -> Prop
 | nil {k : Nat} {S : List Int} : zCN zA l S = none -> Quick zA l k S [] []
 | cons {k : Nat} {S p v w : List Int} {st : List (List Int × Int)} : zCN zA l S = some p -> Climb zA l One p v -> Quick zA l (k + v.length) (broR zA S v) w st -> Quick zA l k S (v ++ w) ((p,((k + v.length : Nat) : Int)) :: st)
theorem zIy (s : IsS zA S) (h : p ∈ ze S) : p ∈ ze (zQ zA):=by
 obtain ⟨a,b,rfl,ha,hb,hlt⟩:=zAp.mp h;exact zAp.mpr ⟨a,b,rfl,zBA.mpr (s.mem a ha),zBA.mpr (s.mem b hb),hlt⟩
theorem zOU (s : IsS zA S) (ha : a ∈ S) (hb : b ∈ S) (hne : a ≠ b) (he : zCJ zA a v = zCJ zA b v) : (broR zA S v).length < S.length:=by
 rw [zDf s.pw];have nd : (ris (S.map fun r => zCJ zA r v)).Nodup:=List.Pairwise.imp (fun {x y} h => Int.ne_of_lt h) (zF2 _);have h1:=zCb _ ((S.erase b).map fun r => zCJ zA r v) nd fun x hx => by
  obtain ⟨r,hr,rfl⟩:=zVe.mp ((zBv _ _).mp hx);by_cases q : r = b
  ·subst q;exact zVe.mpr ⟨a,(List.mem_erase_of_ne hne).mpr ha,he⟩
  ·exact zVe.mpr ⟨r,(List.mem_erase_of_ne q).mpr hr,rfl⟩
 rw [zVW,List.length_erase_of_mem hb] at h1;have:=List.length_pos_of_mem hb;omega
theorem zEl (s : IsS zA S) (h : zCN zA l S = some p) : p ∈ ze S /\ p ∈ ze (zQ zA) /\ ∃ n,Dst zA l One p (n + 1):=by
 obtain ⟨h1,h2⟩:=zGB.mp (zOW h);obtain ⟨h3,h4⟩:=zCe.mp h2;exact ⟨h1,h3,h4⟩
theorem zQd (h : p ∈ ze S) : ∃ a b,p = [a,b] /\ p = zFg a b /\ a ∈ S /\ b ∈ S /\ a < b:=by
 obtain ⟨a,b,rfl,ha,hb,hlt⟩:=zAp.mp h;exact ⟨a,b,rfl,by unfold zFg; rw [zVf (by omega),zVc (by omega)],ha,hb,hlt⟩
theorem zHq (s : IsS zA S) (h : zCN zA l S = some p) (c : Climb zA l One p v) : (broR zA S v).length < S.length:=by
 obtain ⟨h1,_,_⟩:=zEl s h;obtain ⟨a,b,rfl,hp,ha,hb,hlt⟩:=zQd h1;have hm:=(zBL c).2;rw [hp,zNK (by omega)] at hm;exact zOU s ha hb (by omega) hm
theorem zFd (m : IsM zA l) : ∀ (n k : Nat) {S : List Int},S.length <= n -> IsS zA S -> ∃ w st,Quick zA l k S w st
 | 0,k,S,h,s => by have:=s.n0; omega
 | n + 1,k,S,h,s => by
  cases e : zCN zA l S with
  | none => exact ⟨_,_,.nil e⟩
  | some p =>
   obtain ⟨_,_,j,hj⟩:=zEl s e;obtain ⟨v,c⟩:=zFS _ hj;have hlt:=zHq s e c;obtain ⟨w,st,q⟩:=zFd m n (k + v.length) (S:=broR zA S v) (by omega) (m.broR v s (zBL c).1);exact ⟨_,_,.cons e c q⟩
theorem zCC : ∀ {k : Nat} {S w : List Int} {st : List (List Int × Int)},Quick zA l k S w st -> Wd l w
 | _,_,_,_,.nil _ => fun _ h => by cases h
 | _,_,_,_,.cons _ c q => zLz (zBL c).1 (zCC q)
theorem zGG : ∀ {k : Nat} {S w : List Int} {st : List (List Int × Int)},Quick zA l k S w st -> zCN zA l (broR zA S w) = none
 | _,_,_,_,.nil e => e
 | _,_,_,_,.cons _ c q => by rw [zMz]; exact zGG q
theorem zEj (m : IsM zA l) (hR : zA.length <= 26) : ∀ {k : Nat} {S w : List Int} {st : List (List Int × Int)},IsS zA S -> Quick zA l k S w st -> w.length <= 676 * S.length /\ st.length < S.length
 | _,_,_,_,s,.nil _ => ⟨by simp,s.n0⟩
 | _,S,_,_,s,.cons (v:=v) e c q => by
  have hlt:=zHq s e c;obtain ⟨h1,h2⟩:=zEj m hR (m.broR v s (zBL c).1) q;obtain ⟨_,hp,_⟩:=zEl s e;have h3:=zVo (zMh m zHD (zDM _ hp) (zF7 c)) (zGC hR);have h4:=Nat.mul_le_mul_left 676 hlt;rw [Nat.mul_succ] at h4;rw [zVd,zVu];omega
theorem zOr {zA : List (List Int)} (m : IsM zA l) (hR : zA.length <= 26) (hl : l <= 12) {st : List (List Int × Int)} (s : IsS zA S) (q : Quick zA l 0 S w st) :
  zFY [mD zA,tI S] M = some (.tup [tI w,.tup (st.map stD)],M):=by
 refine zd ?_;unfold zFY;refine zDH ?_ ?_
 ·unfold D.unds D.unds D.unds;rw [zD4]; simp [tI,zAd]
 rw [zAV];unfold zJu;show OkS (zX _ _ [some (mD zA),some (tI S),none,none,none,none,none,none] []) _;obtain ⟨d,M1,e,jr,rfl,_,h2,_,_⟩:=zPw m hR hl (M:=[]);rw [zU,zm];refine zK (zp (zr (d:=mD zA) rfl) e) ?_;rw [zV,zb];show OkS (zX _ _ [some (mD zA),some (tI S),some (.ref jr),none,none,none,none,none] M1) _;refine zBx (d:=tI S) rfl ?_;show OkS (zX _ _ [some (mD zA),some (tI S),some (.ref jr),some (tI S),none,none,none,none] M1) _;refine zBx (d:=tI []) (zLr rfl (by simp)) ?_;show OkS (zX _ _ [some (mD zA),some (tI S),some (.ref jr),some (tI S),some (tI []),none,none,none] M1) _;rw [zU,zm];refine zK (M:=M1) (a:=.fl []) (zUk rfl (by simp)) (zAU ?_);rw [zb];show OkS (zX _ _ [some (mD zA),some (tI S),some (.ref jr),some (tI S),some (tI []),some (.ref M1.length),none,none] (M1 ++ [.lst []])) _;have hjl:=(zVQ.mp h2).1;have up : ∀ xs : Mem,(M1 ++ xs)[jr]? = some (dT (zDE zA l One)):=fun xs => by rw [zVU hjl]; exact h2
 obtain ⟨d,M2,e2,rfl,us,rfl⟩:=zHE hR (up [.lst []]) s;rw [zU,zm];refine zK (zp (zw (d:=.ref jr) rfl (zr (d:=tI S) rfl)) e2) ?_;rw [zV,zb,zU];show OkS (zBF _ _ _ [some (mD zA),some (tI S),some (.ref jr),some (tI S),some (tI []),some (.ref M1.length),some (zGi zA l S),none] (M1 ++ [.lst []] ++ us)) _;have hS:=zCW s;have ql:=zEj m hR s q;refine zCf (I:=fun z σ M' => ∃ (T W w2 : List Int) (st1 st2 : List (List Int × Int)) (us : Mem) (y : Option D),IsS zA T /\ Quick zA l W.length T w2 st2 /\ w = W ++ w2 /\ st = st1 ++ st2 /\ z = st2.length /\ σ = [some (mD zA),some (tI S),some (.ref jr),some (tI T),some (tI W),some (.ref M1.length),some (zGi zA l T),y] /\ M' = M1 ++ .lst (st1.map stD) :: us) ?_ 100 st.length _ _ (by omega) ⟨S,[],w,[],st,us,none,s,q,rfl,rfl,rfl,rfl,by simp⟩;rintro z σ M' ⟨T,W,w2,st1,st2,us,y,sT,q2,hw,hst,rfl,rfl,rfl⟩;have hL : (M1 ++ MO.lst (st1.map stD) :: us)[M1.length]? = some (.lst (st1.map stD)):=by simp
 have et : tst (fOp (kIs true) (zD 6) (fC .non)) [some (mD zA),some (tI S),some (.ref jr),some (tI T),some (tI W),some (.ref M1.length),some (zGi zA l T),y] (M1 ++ MO.lst (st1.map stD) :: us) = some ((zCN zA l T).isSome,M1 ++ MO.lst (st1.map stD) :: us):=by
  unfold zGi;cases h : zCN zA l T with
  | none => exact zAx (zY (x:=.dat .non) (y:=.dat .non) rfl rfl rfl)
  | some p => exact zAx (zY (x:=.dat (tI p)) (y:=.dat .non) rfl rfl rfl)
 refine zK et ?_;cases q2 with
 | nil h =>
  rw [h];show OkS (zAJ _ _ _) _;rw [zV7] at hw hst;subst hw; subst hst;refine zA1 (d:=.tup [tI w,.tup (st.map stD)]) (zLr (zw (d:=tI w) rfl (zr (zCs (f:=zD 5) rfl (zAZ hL)))) (by simp)) ⟨?_,rfl,rfl⟩;unfold D.und D.unds D.unds D.unds;rw [show D.und 0 (tI w) = true from zAd w];have : ∀ xs : List (List Int × Int),D.und 0 (.tup (xs.map stD)) = true:=by
   intro xs;unfold D.und;induction xs with
   | nil => rfl
   | cons x r ih =>
    rw [zVg];unfold D.unds;rw [ih];unfold stD;unfold D.und D.unds D.unds D.unds;rw [show D.und 0 (tI x.1) = true from zAd _];rfl
  rw [this]; rfl
 | @cons _ _ p v w3 st3 h c q3 =>
  have hnd : zGi zA l T = tI p:=by unfold zGi; rw [h]
  rw [h,hnd];obtain ⟨hp1,hp2,_⟩:=zEl sT h;have cb:=(zBL c).1;have hvl:=zVo (zMh m zHD (zDM _ hp2) (zF7 c)) (zGC hR);have hwl:=zXA List.length hw;have hstl:=zXA List.length hst;simp only [zVd,zVu] at hwl hstl;show OkS (zX _ _ [some (mD zA),some (tI S),some (.ref jr),some (tI T),some (tI W),some (.ref M1.length),some (tI p),y] (M1 ++ MO.lst (st1.map stD) :: us)) _;obtain ⟨d,M3,e3,rfl,us3,rfl⟩:=zLq m zHD hR (up (.lst (st1.map stD) :: us)) (zDM _ hp2) c;rw [zU,zm];refine zK (zp (zw (d:=mD zA) rfl (zw (d:=.ref jr) rfl (zr (d:=tI p) rfl))) e3) ?_;rw [zV,zb];show OkS (zX _ _ [some (mD zA),some (tI S),some (.ref jr),some (tI T),some (tI W),some (.ref M1.length),some (tI p),some (tI v)] (M1 ++ MO.lst (st1.map stD) :: us ++ us3)) _;rw [show M1 ++ MO.lst (st1.map stD) :: us ++ us3 = M1 ++ MO.lst (st1.map stD) :: (us ++ us3) by simp];generalize us ++ us3 = us4;have sB:=m.broR v sT cb;refine zBx (zp (zw (d:=mD zA) rfl (zw (d:=tI T) rfl (zr (d:=tI v) rfl))) (zMb m (by omega) sT cb (by omega))) ?_;show OkS (zX _ _ [some (mD zA),some (tI S),some (.ref jr),some (tI (broR zA T v)),some (tI W),some (.ref M1.length),some (tI p),some (tI v)] _) _;refine zBx (d:=tI (W ++ v)) ?_ ?_
  ·rw [zY (x:=.dat (tI W)) (y:=.dat (tI v)) rfl rfl (zP9 (z0 (by rw [zVW,zVW]; omega)))];unfold tI; rw [zWF]
  show OkS (zX _ _ [some (mD zA),some (tI S),some (.ref jr),some (tI (broR zA T v)),some (tI (W ++ v)),some (.ref M1.length),some (tI p),some (tI v)] _) _;have hL4 : (M1 ++ MO.lst (st1.map stD) :: us4)[M1.length]? = some (.lst (st1.map stD)):=by simp
  have elen : fB zBB (zc (zD 4) zx) [some (mD zA),some (tI S),some (.ref jr),some (tI (broR zA T v)),some (tI (W ++ v)),some (.ref M1.length),some (tI p),some (tI v)] (M1 ++ MO.lst (st1.map stD) :: us4) = some (.dat (.int ((W.length + v.length : Nat) : Int)),M1 ++ MO.lst (st1.map stD) :: us4):=by
   rw [zDU (xs:=W ++ v) rfl,zVd]
  rw [zU,zCm];refine zMM.mpr (zK (a:=.dat (.ref M1.length)) (M:=M1 ++ MO.lst (st1.map stD) :: us4) rfl ⟨⟨_,zCX hL4⟩,zK (zr (d:=stD (p,((W.length + v.length : Nat) : Int))) (zLr (zw (d:=tI p) rfl (zr elen)) (by simp))) ((zEN hL4 (by rw [zVW]; exact zVm (show st1.length < 1000 by omega) (z0 (by omega)))).mpr ?_)⟩);rw [zb];have hset : (M1 ++ MO.lst (st1.map stD) :: us4).set M1.length (.lst (st1.map stD ++ [stD (p,((W.length + v.length : Nat) : Int))])) = M1 ++ MO.lst ((st1 ++ [(p,((W.length + v.length : Nat) : Int))]).map stD) :: us4:=by
   rw [List.set_append_right _ _ (zVT _)]; simp
  rw [hset];obtain ⟨d,M5,e5,rfl,us5,rfl⟩:=zHE hR (up (.lst ((st1 ++ [(p,((W.length + v.length : Nat) : Int))]).map stD) :: us4)) sB;rw [zm];refine zK (zp (zw (d:=.ref jr) rfl (zr (d:=tI (broR zA T v)) rfl)) e5) ?_;rw [zV];exact ⟨st3.length,by simp,broR zA T v,W ++ v,w3,st1 ++ [(p,((W.length + v.length : Nat) : Int))],st3,us4 ++ us5,some (tI v),sB,by rw [zVd]; exact q3,by rw [hw]; simp,by rw [hst]; simp,rfl,rfl,by simp⟩
noncomputable def zDS : FS:=(zX (zAG 3 (fB zIn (zc (zD 1) zx)))
  (zX (zDu (zAr (zD 2)) (gN 4) (zAG 3 (zAL [5] (zAr (zD 3)) (gN 5) zAC (fOp kIx (fOp kIx (zD 0) (zD 5)) (zD 4)))))
  (zAJ (fB zBZ (zc (zGP (zHl (zD 3))) zx)))))
noncomputable def zAB : FF:=zD6 (zBJ 6 zDS)
theorem zRy (hf : f σ M = some (x,M)) (h : zAc M x = some xs) : fB zIn (zc f zx) σ M = some (.fl xs,M):=by
 unfold fB zc zx; rw [hf]; dsimp only; unfold zIn; dsimp only; rw [h]
theorem zHn (m : IsM zA l) (hR : zA.length <= 26) (hS : ∀ x ∈ S,0 <= x /\ x < (zA.length : Int)) (hl : S.length <= 60) (hw : Wd l w) :
  zAB [mD zA,tI S,tI w] M = some (tI (ris (S.map fun r => zCJ zA r w)),M):=by
 refine zd ?_;unfold zAB;refine zDH ?_ ?_
 ·unfold D.unds D.unds D.unds D.unds;rw [zD4]; simp [tI,zAd]
 rw [zAV];unfold zDS;show OkS (zX _ _ [some (mD zA),some (tI S),some (tI w),none,none,none] []) _;rw [zU,zm];refine zK (zRy (f:=zD 1) (x:=.dat (tI S)) rfl zA2) (zAU ?_);rw [zb];show OkS (zX _ _ [some (mD zA),some (tI S),some (tI w),some (.ref 0),none,none] [.lst (S.map D.int)]) _;rw [zU,zCR];refine ⟨_,_,_,zFe (xs:=w.map D.int) rfl,?_⟩;refine zBt (I:=fun r σ M' => ∃ (w1 w2 : List Int) (j : Nat) (y4 y5 : Option D),w = w1 ++ w2 /\ r = w2.map D.int /\ σ = [some (mD zA),some (tI S),some (tI w),some (.ref j),y4,y5] /\ M'[j]? = some (.lst ((S.map fun r => zCJ zA r w1).map D.int))) ?_ ?_ _ _ _ ⟨[],w,0,none,none,rfl,rfl,rfl,by simp [zCJ]⟩
 ·rintro x r σ M' ⟨w1,w2,j,y4,y5,hw12,hr,rfl,hj⟩;cases w2 with
  | nil => cases hr
  | cons g w2 =>
   rw [zVg] at hr;obtain ⟨rfl,rfl⟩:=zWR hr;have hg:=hw g (by rw [hw12]; simp);have hw1 : Wd l w1:=fun x hx => hw x (by rw [hw12]; simp [hx]);refine ⟨zA6,_,rfl,?_⟩;show OkS (zAG _ _ [some (mD zA),some (tI S),some (tI w),some (.ref j),some (.int g),y5] M') _;rw [zm];have ei : zAr (zD 3) [some (mD zA),some (tI S),some (tI w),some (.ref j),some (.int g),y5] M' = some ((S.map fun r => zCJ zA r w1).map D.int,zEx (.dat (.ref j)) ((S.map fun r => zCJ zA r w1).map D.int),M'):=by
    unfold zAr;rw [show zD 3 [some (mD zA),some (tI S),some (tI w),some (.ref j),some (.int g),y5] M' = some (.dat (.ref j),M') from rfl];dsimp only; rw [zAZ hj]
   have ec:=zCL (own:=[5]) (g:=gN 5) (te:=fOp kIx (fOp kIx (zD 0) (zD 5)) (zD 4)) (S.map fun r => zCJ zA r w1) D.int (fun r => .int (zCx zA r g)) ei (.inl hj) (by rw [zVW]; omega) fun r hr => by
    obtain ⟨q,hq,rfl⟩:=zVe.mp hr;have hq':=hS q hq;have hl':=m.led w1 hq'.1 hq'.2 hw1;exact ⟨_,rfl,m.ix hl'.1 hl'.2 hg.1 hg.2 rfl rfl rfl⟩
   refine zK ec (zAU ?_);refine ⟨w1 ++ [g],w2,M'.length,_,_,by rw [hw12]; simp,rfl,rfl,?_⟩;rw [zBT];congr 2;rw [zVl,zVl];exact List.map_congr_left fun r _ => by show D.int (zCx zA (zCJ zA r w1) g) = D.int (zCJ zA r (w1 ++ [g])); rw [zPf]
 ·rintro σ M' ⟨w1,w2,j,y4,y5,hw12,hr,rfl,hj⟩;have : w2 = []:=by cases w2 with | nil => rfl | cons _ _ => cases hr
  subst this;rw [zV7] at hw12;subst hw12;refine ⟨zA6,?_⟩;rw [zb];have hz : (zAK (S.map fun r => zCJ zA r w)).length < 64:=by
   have:=zC3 (S.map fun r => zCJ zA r w);rw [zVW] at this; omega
  refine zA1 (d:=tI (ris (S.map fun r => zCJ zA r w))) (zCs (zLU (zPM (f:=zD 3) (x:=.dat (.ref j)) rfl (zAZ hj) (by rw [zVW]; omega)) hz) zEF) ⟨zAd _,rfl,rfl⟩
theorem zGv (m : IsM zA l) (hR : zA.length <= 26) (s : IsS zA S) (hw : Wd l w) :
  zAB [mD zA,tI S,tI w] M = some (tI (broR zA S w),M):=by
 have:=zCW s;rw [zHn m hR s.mem (by omega) hw,zDf s.pw]
theorem zFT (m : IsM zA l) : IsS zA (zQ zA):=by
 have r0:=m.r0;refine ⟨?_,by unfold zQ; simp; omega,fun x hx => zBA.mp hx⟩;unfold zQ;exact List.pairwise_map.mpr (List.Pairwise.imp (fun {a b} h => by omega) List.pairwise_lt_range)
theorem zIY {zA : List (List Int)} {l : Nat} (m : IsM zA l) (hR : zA.length <= 26) (hl : l <= 12) {w : List Int} {st : List (List Int × Int)} (q : Quick zA l 0 (zQ zA) w st) {M : Mem} :
  zBp [mD zA] M = some (.tup [.int (broR zA (zQ zA) w).length,tI w,tI (broR zA (zQ zA) w)],M):=by
 have s:=zFT m;have hS:=zCW s;have ql:=zEj m hR s q;have hw:=zCC q;refine zd ?_;unfold zBp;refine zDH ?_ ?_
 ·unfold D.unds D.unds;rw [zD4]; rfl
 rw [zAV];unfold zDs;show OkS (zX _ _ [some (mD zA),none,none,none] []) _;refine zBx (zp (zr (d:=mD zA) rfl) (zFt (by omega))) ?_;show OkS (zX _ _ [some (mD zA),some (tI (zQ zA)),none,none] []) _;refine zBx (d:=tI w) (zY (y:=.dat (.int 0)) (zp (zw (d:=mD zA) rfl (zr (d:=tI (zQ zA)) rfl)) (zOr m hR hl s q)) rfl (zE3 zA2 rfl)) ?_;show OkS (zX _ _ [some (mD zA),some (tI (zQ zA)),some (tI w),none] []) _;refine zBx (zp (zw (d:=mD zA) rfl (zw (d:=tI (zQ zA)) rfl (zr (d:=tI w) rfl))) (zMb m (by omega) s hw (by omega))) ?_;show OkS (zAJ _ [some (mD zA),some (tI (zQ zA)),some (tI w),some (tI (broR zA (zQ zA) w))] []) _;refine zA1 (zLr (zw (zDU (xs:=broR zA (zQ zA) w) rfl) (zw (d:=tI w) rfl (zr (d:=tI (broR zA (zQ zA) w)) rfl))) (by simp)) ⟨?_,rfl,rfl⟩;unfold D.und D.unds D.unds D.unds D.unds;rw [show ∀ x,D.und 0 (tI x) = true from fun x => zAd x,show ∀ x,D.und 0 (tI x) = true from fun x => zAd x];rfl
theorem zNf (xs : List Int) : (ris xs).Nodup:=List.Pairwise.imp (fun {x y} h => Int.ne_of_lt h) (zF2 _)
theorem zPj (h : xs.Nodup) : (ris xs).length = xs.length:=Nat.le_antisymm (zJh xs) (zCb _ _ h fun x hx => (zBv xs x).mpr hx)
theorem zIv {K v : List Int} (s : IsS zA K) (hn : zCN zA l K = none) (hv : Wd l v) : (broR zA K v).length = K.length:=by
 have nd : K.Nodup:=List.Pairwise.imp (fun {x y} h => Int.ne_of_lt h) s.pw;rw [zDf s.pw,zPj,zVW];refine List.pairwise_map.mpr (List.Pairwise.imp_of_mem (fun {a b} ha hb hlt he => ?_) s.pw);have hlt : a < b:=hlt;have hp : [a,b] ∈ ze K:=zAp.mpr ⟨a,b,rfl,ha,hb,hlt⟩;have hpr : [a,b] = zFg a b:=by unfold zFg; rw [zVf (by omega),zVc (by omega)]
 have hm : One (broR zA [a,b] v):=by rw [hpr,zNK (by omega)]; exact he
 obtain ⟨n,_,hd⟩:=zHO _ ⟨v,rfl,hv,hm⟩;cases n with
 | zero => exact absurd (zBj.mp hd) (by simp [One])
 | succ n =>
  have : [a,b] ∈ zCO zA l K:=zGB.mpr ⟨hp,zCe.mpr ⟨zIy s hp,n,hd⟩⟩;rw [zHN.mp hn] at this;cases this
theorem zNA (hs : S.Pairwise (· < ·)) (ht : T.Pairwise (· < ·)) (h : ∀ x ∈ S,x ∈ T) : (broR zA S v).length <= (broR zA T v).length:=by
 rw [zDf hs,zDf ht];refine zCb _ _ (zNf _) fun x hx => ?_;rw [zBv] at hx ⊢;obtain ⟨r,hr,rfl⟩:=zVe.mp hx;exact zVe.mpr ⟨r,h r hr,rfl⟩
theorem zI6 {zA : List (List Int)} {l : Nat} (m : IsM zA l) {w : List Int} {st : List (List Int × Int)} (q : Quick zA l 0 (zQ zA) w st) {v : List Int} (hv : Wd l v) : (broR zA (zQ zA) w).length <= (broR zA (zQ zA) v).length:=by
 have s:=zFT m;have sK:=m.broR w s (zCC q);rw [<- zIv sK (zGG q) hv];exact zNA sK.pw s.pw fun x hx => zBA.mpr (sK.mem x hx)
end Lac
namespace Lac
open PySem PySem.Spec PyProof.Rows L2 L3 ST Law
noncomputable def zGI : FS:=(zAJ (zW zAf (zH (toD (zD 1)) (zH (toD (fB zBB (zc (fOp kIx (zD 0) (fC (.int 0))) zx))) zS))))
noncomputable def zDW : FF:=zBJ 2 zGI
noncomputable def zID : FS:=(zX (sIf (zGM (zFw (tst (zW zAf (zH (toD (zD 1)) (zH (toD (fB zBB (zc (zD 0) zx))) zS))))) (tst (fOp kEq (fB zBB (zc (zD 1) zx)) (fC (.int 0))))) (zAJ (fC (.bl false))) zCU)
  (zAJ (fB zNw (zc (zAL [2,3] (zPb (zH (toD (zD 1)) (zH (toD (fSl (zD 1) (zDV (fC (.int 1))) zEh)) zS))) (zKs 2 3) zAC (fOp kLt (zD 2) (zD 3))) zx))))
noncomputable def zEb : FF:=zBJ 4 zID
noncomputable def zER : FS:=(zX (zAG 2 (zW zB1 (zH (toD (zD 0)) zS)))
  (zAJ (fB zNw (zc (zAL [3] (zAr (zW zAb (zH (toD (zD 1)) zS))) (gN 3) zAC (fOp (zB3 true) (zD 3) (zD 2))) zx))))
noncomputable def zCI : FF:=zD6 (zBJ 4 zER)
noncomputable def zDt : FS:=(zX (sIf (zGM (zFw (tst (zJq "tuple" (zD 1)))) (tst (fOp kNe (fB zBB (zc (zD 1) zx)) (fC (.int 3))))) (zAJ (fC (.bl false))) zCU)
  (zX (zN4 (zR1 2 3 4) (zD 1))
  (zX (sIf (zGM (zFw (tst (zW zB2 (zH (toD (zD 2)) zS)))) (zGM (zFw (tst (zW zDW (zH (toD (zD 0)) (zH (toD (zD 3)) zS))))) (zFw (tst (zW zEb (zH (toD (zD 0)) (zH (toD (zD 4)) zS))))))) (zAJ (fC (.bl false))) zCU)
  (zX (zAG 5 (zW zB5 (zH (toD (zD 0)) (zH (toD (zW zAk (zH (toD (zD 0)) zS))) (zH (toD (zD 3)) zS)))))
  (zAJ (zHb (fOp kEq (fB zBB (zc (zD 5) zx)) (zD 2)) (zHb (fOp kEq (fB zBB (zc (zD 4) zx)) (zD 2)) (zW zCI (zH (toD (zD 0)) (zH (toD (zD 4)) zS))))))))))
noncomputable def zBw : FF:=zD6 (zBJ 6 zDt)
theorem zTI {xs : List D} {lo hi : Option Int} {a b : Nat} (ha : HT.sIx xs.length 0 lo = a) (hb : HT.sIx xs.length xs.length hi = b) : L3.zFI xs lo hi = (xs.drop a).take (b - a):=by
 unfold L3.zFI; rw [ha,hb]
theorem zS9 (n : Nat) (d : Nat) : HT.sIx n d none = d:=rfl
theorem zM0 (h : ∀ x ∈ c,0 <= x /\ x < R) : tbD R (tI c) = true:=by
 show List.all _ _ = true;rw [zVy];intro d hd;obtain ⟨i,hi,rfl⟩:=zVe.mp hd;have:=h i hi;simp [zDn,this.1,this.2]
theorem zQe (m : IsM zA l) (hw : Wd l w) (hz : w.length <= 90000) : zDW [mD zA,tI w] M = some (.bl true,M):=by
 unfold zDW zGI;rw [<- zM0 hw];exact zHB (zp (zw (d:=tI w) rfl (zr (zG1 m rfl))) (zSO (zNG (by omega))))
theorem zQz {zA : List (List Int)} {S : List Int} (s : IsS zA S) (hz : S.length <= 1000) {M : Mem} : zEb [mD zA,tI S] M = some (.bl true,M):=by
 refine zd ?_;unfold zEb;rw [zAV];unfold zID;show OkS (zX _ _ [some (mD zA),some (tI S),none,none] M) _;have e:=zSO (n:=zA.length) (zNG (M:=M) (c:=S) (by omega));rw [show D.tup (S.map D.int) = tI S from rfl,zM0 s.mem] at e;have s0:=s.n0;refine zFh (zGE (zIP (zp (zw (d:=tI S) rfl (zr (zFv rfl))) e)) (zAx (zY (zDU (f:=zD 1) (xs:=S) rfl) (y:=.dat (.int 0)) rfl (eqE.trans ?_)))) ?_
 ·rw [zVw (by omega)]
 ·have c1 : L3.zFI (S.map D.int) (some 1) none = (S.drop 1).map D.int:=by
   rw [zTI (a:=1) (b:=S.length) (by show HT.sIx _ _ (some ((1 : Nat) : Int)) = 1; rw [HT.zRs,zVW]; omega) (by rw [zS9,zVW]),List.map_drop];exact List.take_of_length_le (by simp)
  have hi : zPb (zH (toD (zD 1)) (zH (toD (fSl (zD 1) (zDV (fC (.int 1))) zEh)) zS)) [some (mD zA),some (tI S),none,none] M = some ((S.zip (S.drop 1)).map (fun q => D.tup [.int q.1,.int q.2]),none,M):=by
   have s1:=slE (f:=zD 1) (σ:=[some (mD zA),some (tI S),none,none]) (M:=M) (xs:=S.map D.int) rfl (oS (f:=fC (.int 1)) rfl) (rfl : zEh _ M = some (none,M));rw [c1] at s1;have:=zw (f:=zD 1) (σ:=[some (mD zA),some (tI S),none,none]) (M:=M) (d:=tI S) rfl (zr s1);unfold zPb;rw [this];show some ((((S.map D.int).zip ((S.drop 1).map D.int)).map fun q => D.tup [q.1,q.2]),none,M) = _;congr 2;rw [List.zip_map,zVl]; rfl
  refine zA1 (zMc (bs:=(S.zip (S.drop 1)).map fun q => decide (q.1 < q.2)) ?_) ⟨?_,rfl⟩
  ·rw [zVl];exact zCL (gd:=none) (S.zip (S.drop 1)) (fun q => D.tup [.int q.1,.int q.2]) (fun q => .bl (decide (q.1 < q.2))) hi trivial (by rw [List.length_zip]; omega) fun q _ => ⟨_,rfl,zY (f:=zD 2) (g:=zD 3) (x:=.dat (.int q.1)) (y:=.dat (.int q.2)) rfl rfl rfl⟩
  ·congr 1;rw [List.all_map,zVy];have rise : ∀ {xs : List Int},xs.Pairwise (· < ·) -> ∀ q ∈ xs.zip (xs.drop 1),q.1 < q.2:=by
    intro xs;induction xs with
    | nil => intro _ q hq; cases hq
    | cons a r ih =>
     intro hp q hq;cases r with
     | nil => cases hq
     | cons b r =>
      obtain ⟨h1,h2⟩:=zXX.mp hp;rcases zVZ.mp (show q ∈ (a,b) :: (b :: r).zip r from hq) with z | z
      ·rw [z]; exact h1 b zVb
      ·exact ih h2 q z
   intro q hq;exact zWV (rise s.pw q hq)
theorem zTd {f : FE} {σ : Sd} {M M1 : Mem} {bs : List Bool} (h : f σ M = some (.fl (bs.map D.bl),M1)) : fB zNw (zc f zx) σ M = some (.dat (.bl (bs.all id)),M1):=by
 have:=zMc (f:=fun _ _ => some (.fl (bs.map D.bl),M1)) (σ:=σ) (M:=M1) rfl;unfold fB zc zx at this ⊢;rw [h];exact this
theorem zJw {zA : List (List Int)} {l : Nat} (m : IsM zA l) (hR : zA.length <= 26) (hl : l <= 12) {K : List Int} (s : IsS zA K) {M : Mem} : zCI [mD zA,tI K] M = some (.bl (zCO zA l K).isEmpty,M):=by
 have hS:=zCW s;refine zd ?_;unfold zCI;refine zDH ?_ ?_
 ·unfold D.unds D.unds D.unds;rw [zD4]; simp [tI,zAd]
 rw [zAV];unfold zER;show OkS (zX _ _ [some (mD zA),some (tI K),none,none] []) _;obtain ⟨d,M1,e,jf,rfl,_,⟨fd,h2,_,sp⟩,_,_⟩:=zHY m hR hl (M:=[]);rw [zU,zm];refine zK (zp (zr (d:=mD zA) rfl) e) ?_;rw [zV,zb];show OkS (zAJ _ [some (mD zA),some (tI K),some (.ref jf),none] M1) _;have epr:=zFn (xs:=K) (by omega) (M:=M1);have ei : zAr (zW zAb (zH (toD (zD 1)) zS)) [some (mD zA),some (tI K),some (.ref jf),none] M1 = _:=zG7 (zr (d:=tI K) rfl) epr (zBT _ _);have hPl : (ze K).length <= 676:=zVo (zBb K) (zVo (zWz hS hS) (zWz hR hR));have hjl:=(zVQ.mp h2).1;have ef:=zC9 (own:=[3]) (g:=gN 3) (tc:=zAC) (te:=fOp (zB3 true) (zD 3) (zD 2)) (ze K) tI (fun p => .bl (!zC1 zA l p)) (fun _ => true) ei (.inl (zBT _ _)) (by omega) (fun p hp => by
  refine ⟨[some (mD zA),some (tI K),some (.ref jf),some (tI p)],rfl,rfl,fun _ => ?_⟩;have e1 : fOp (zB3 true) (zD 3) (zD 2) [some (mD zA),some (tI K),some (.ref jf),some (tI p)] (M1 ++ [MO.lst ((ze K).map tI)]) = _:=zY (x:=.dat (tI p)) (y:=.dat (.ref jf)) rfl rfl (zOI (T:=fd) (by rw [zVU hjl]; exact h2));rw [zVc rfl] at e1;have hpr:=zIy s hp;have hb : (zM fd p).isSome = zC1 zA l p:=by
   rw [Bool.eq_iff_iff];unfold zC1;rw [zWa,zCe];constructor
   ·intro h;cases eL : zM fd p with
    | none => rw [eL] at h; cases h
    | some d =>
     obtain ⟨_,n,hn,_⟩:=(sp p d).mp eL;cases n with
     | zero =>
      obtain ⟨a,b,rfl,_⟩:=zAp.mp hp;exact absurd (zBj.mp hn) (by simp [One])
     | succ n => exact ⟨hpr,n,hn⟩
   ·rintro ⟨_,n,hn⟩;rw [(sp p _).mpr ⟨zDM p hpr,n + 1,hn,rfl⟩]; rfl
  rw [e1,hb])
 rw [List.filter_eq_self.mpr (fun _ _ => rfl),show (ze K).map (fun p => D.bl (!zC1 zA l p)) = ((ze K).map fun p => !zC1 zA l p).map D.bl by rw [zVl]; rfl] at ef;rw [zAs];refine zK (zTd ef) ⟨rfl,?_,rfl⟩;refine zXA D.bl ?_;rw [Bool.eq_iff_iff,zHZ,zVy,List.isEmpty_iff];unfold zCO;rw [List.filter_eq_nil_iff];constructor
 ·intro h p hp q;have:=h p hp;rw [q] at this; cases this
 ·intro h p hp;cases e : zC1 zA l p with
  | false => rfl
  | true => exact absurd e (h p hp)
theorem zIJ {zA : List (List Int)} {l : Nat} (m : IsM zA l) (hR : zA.length <= 26) (hl : l <= 12) {w K : List Int} (hw : Wd l w) (hz : w.length <= 90000) (s : IsS zA K) (hk : (broR zA (zQ zA) w).length = K.length) (hn : zCN zA l K = none) {M : Mem} :
  zBw [mD zA,.tup [.int K.length,tI w,tI K]] M = some (.bl true,M):=by
 have hS:=zCW s;have sr:=zFT m;refine zd ?_;unfold zBw;refine zDH ?_ ?_
 ·unfold D.unds D.unds D.unds;rw [zD4];unfold D.und D.unds D.unds D.unds D.unds;simp [tI,zAd];rfl
 rw [zAV];unfold zDt;show OkS (zX _ _ [some (mD zA),some (.tup [.int K.length,tI w,tI K]),none,none,none,none] []) _;refine zFh (zGE ?_ ?_) ?_
 ·exact (zIP (k:=true) (isV rfl rfl (by decide))).trans rfl
 ·exact zAx (zY (zHp (f:=zD 1) (x:=.dat (.tup [.int K.length,tI w,tI K])) rfl zA2) (y:=.dat (.int 3)) rfl (zd (zQ7.mpr ⟨rfl,rfl⟩)))
 rw [zU,zM7];refine zK (a:=.dat (.tup [.int K.length,tI w,tI K])) (M:=[]) rfl ?_;rw [zV];refine ⟨_,rfl,?_⟩;rw [zb];show OkS (zX _ _ [some (mD zA),some (.tup [.int K.length,tI w,tI K]),some (.int K.length),some (tI w),some (tI K),none] []) _;refine zFh (zGE ?_ (zGE ?_ ?_)) ?_
 ·exact (zIP (k:=true) (zp (zr (d:=.int K.length) rfl) (zLY (d:=.int K.length) trivial))).trans rfl
 ·exact (zIP (k:=true) (zp (zw (d:=mD zA) rfl (zr (d:=tI w) rfl)) (zQe m hw hz))).trans rfl
 ·exact (zIP (k:=true) (zp (zw (d:=mD zA) rfl (zr (d:=tI K) rfl)) (zQz s (by omega)))).trans rfl
 refine zBx (zp (zw (d:=mD zA) rfl (zw (zp (zr (d:=mD zA) rfl) (zFt (by omega))) (zr (d:=tI w) rfl))) (zMb m (by omega) sr hw hz)) ?_;show OkS (zAJ _ [some (mD zA),some (.tup [.int K.length,tI w,tI K]),some (.int K.length),some (tI w),some (tI K),some (tI (broR zA (zQ zA) w))] []) _;refine zA1 (zJZ (zY (zDU (xs:=broR zA (zQ zA) w) rfl) (y:=.dat (.int K.length)) rfl (eqE.trans ?_)) (zJZ (zY (zDU (xs:=K) rfl) (y:=.dat (.int K.length)) rfl (eqE.trans ?_)) (zp (zw (d:=mD zA) rfl (zr (d:=tI K) rfl)) ((zJw m hR hl s).trans ?_)))) ⟨rfl,rfl,rfl⟩
 ·rw [zWV (by omega)]
 ·rw [zWV rfl]
 ·rw [zHN.mp hn]; rfl
theorem zOJ (h : Gen M n k) (m0 : 0 < most) (m1 : most <= 90000) (l0 : 0 < lets) (l1 : lets <= 90000) (ha : ∀ M,fa σ M = some (.dat (.ref n),M)) (hb : ∀ M,fb σ M = some (.dat (.int most),M))
  (hc : ∀ (r : Int) M,fc ((zBH own σ).set i (some (.int r))) M = some (.dat (.ref n),M)) (hd : ∀ (r : Int) M,fd ((zBH own σ).set i (some (.int r))) M = some (.dat (.int lets),M)) :
  Ok (zAL own (zAW (zH (toD (zW zf (zH (toD fa) (zH (toD fb) zS)))) zS)) (gN i) zAC (zW zf (zH (toD fc) (zH (toD fd) zS))) σ M) fun x M' => (∃ c : List Int,x = .fl (c.map D.int) /\ (c.length : Int) < most /\ ∀ y ∈ c,0 <= y /\ y < lets) /\ Nx M M' n k:=by
 obtain ⟨x,M1,e,cnt,rfl,c0,c1,nx1⟩ : Ok (zW zf (zH (toD fa) (zH (toD fb) zS)) σ M) fun x M' => ∃ cnt : Int,x = .dat (.int cnt) /\ 0 <= cnt /\ cnt < most /\ Nx M M' n k:=zAX h (ha M) (hb M) m0 (by omega) fun i M' i0 i1 nx => ⟨i,rfl,i0,i1,nx⟩;have er:=zHo (zPH e) c0 (show cnt < 2 ^ 62 by omega);rw [zFj] at er;refine zEr.mpr ⟨_,_,_,er,by rw [zCA]; exact z0 (by omega),?_⟩;refine Ok.mono (zLp (n:=cnt.toNat) (I:=fun j acc M2 => (∃ c : List Int,acc = c.map D.int /\ c.length = j /\ ∀ y ∈ c,0 <= y /\ y < lets) /\ Nx M M2 n k) ?_ ⟨⟨[],rfl,rfl,fun _ h => by cases h⟩,nx1⟩) ?_
 ·rintro j acc M2 hj ⟨⟨c,rfl,hcl,hc'⟩,nx⟩;refine ⟨_,rfl,?_⟩;refine zAX nx.gen (hc _ _) (hd _ _) l0 (by omega) fun v M3 v0 v1 nx3 => ?_;rw [zV];refine ⟨⟨c ++ [v],by simp,by simp [hcl],fun z hz => ?_⟩,nx.trans nx3⟩;rcases zVn.mp hz with q | q
  ·exact hc' z q
  ·have : z = v:=by simpa using q
   subst this; exact ⟨v0,v1⟩
 ·rintro ys M2 ⟨⟨c,rfl,hcl,hc'⟩,nx⟩;exact ⟨⟨c,rfl,by omega,hc'⟩,nx⟩
theorem zOQ {c r : Int} (c0 : 1 <= c) (r0 : 0 < r) (cr : c + r <= 28) {rest : FS} {τ : Sd} {P : Out -> Sd -> Mem -> Prop} {ns : List Int} (h : ns.length <= 63)
  (q : ∀ zA l M,IsM zA l -> c <= (zA.length : Int) -> (zA.length : Int) < c + r -> zA.length <= 27 -> l <= 6 -> Gen M 2 1 -> M[0]? = some (.fro (ns.map D.int)) -> OkS (rest (some (.ref 0) :: some (.ref 2) :: some (mD zA) :: τ) M) P) :
  OkS (zX (zAG 1 (zW zBe (zH (toD (zD 0)) zS))) (zX (zAG 2 (zW zA8 (zH (toD (zD 1)) (zH (toD (fOp zAe (fC (.int c)) (zW zf (zH (toD (zD 1)) (zH (toD (fC (.int r))) zS))))) (zH (toD (fOp zAe (fC (.int 1)) (zW zf (zH (toD (zD 1)) (zH (toD (fC (.int 6))) zS))))) zS))))) rest) (some (.ref 0) :: none :: none :: τ) [.fro (ns.map D.int)]) P:=by
 rw [zU,zm];refine zD1.mpr (zK (zr rfl) ?_);refine Ok.mono (zPl h) ?_;rintro d M1 ⟨rfl,g1,e0,_⟩;rw [zV,zb,zU,zm];show Ok (zW _ _ (some (.ref 0) :: some (.ref 2) :: none :: τ) M1) _;refine zD1.mpr (zAw.mpr (zAy.mpr (zK (a:=.dat (.ref 2)) rfl ?_)));rw [zV];refine zAw.mpr (zAy.mpr (zAg.mpr (zK rfl (zAX g1 rfl rfl r0 (by omega) fun i M2 i0 i1 nx2 => zK (a:=.dat (.int (c + i))) rfl ?_))));rw [zV];refine zAw.mpr (zAy.mpr (zAg.mpr (zK rfl (zAX nx2.gen rfl rfl (by decide) (by decide) fun j M3 j0 j1 nx3 => zK (a:=.dat (.int (1 + j))) rfl ?_))));rw [zV,zCP];refine Ok.mono (zMY nx3.gen (by omega) (by omega) (by omega) (by omega)) ?_;rintro d M4 ⟨⟨zA,l,rfl,m,hR,hL⟩,nx4⟩;rw [zV,zb];have l3 : 0 < M3.length:=by rw [nx3.len,nx2.len]; exact (zVQ.mp e0).1
 have e4 : M4[0]? = some (.fro (ns.map D.int)):=(nx4.fr 0 l3 (by decide) (by decide)).trans ((nx3.fr 0 (by decide) (by decide)).trans ((nx2.fr 0 (by decide) (by decide)).trans e0));exact q zA l M4 m (by omega) (by omega) (by omega) (by omega) nx4.gen e4
noncomputable def zOj : FS:=(zX (zAG 1 (zW zBe (zH (toD (zD 0)) zS)))
  (zX (zAG 2 (zW zA8 (zH (toD (zD 1)) (zH (toD (fOp zAe (fC (.int 1)) (zW zf (zH (toD (zD 1)) (zH (toD (fC (.int 26))) zS))))) (zH (toD (fOp zAe (fC (.int 1)) (zW zf (zH (toD (zD 1)) (zH (toD (fC (.int 6))) zS))))) zS)))))
  (zX (zAG 3 (zGn (fB zBB (zc (zD 2) zx))))
  (zX (zN4 (zR1 4 5 6) (zW zBp (zH (toD (zD 2)) zS)))
  (zX (sIf (zGM (tst (fOp (kIs true) (zW zBw (zH (toD (zD 2)) (zH (toD (zDv (zH (toD (zD 4)) (zH (toD (zD 5)) (zH (toD (zD 6)) zS))))) zS))) (fC (.bl true)))) (tst (fOp kNe (fB zBB (zc (zW zAB (zH (toD (zD 2)) (zH (toD (zD 3)) (zH (toD (zD 5)) zS)))) zx)) (zD 4)))) (zAJ (fC (.bl false))) zCU)
  (zX (zDu (zAW (zH (toD (fOp zAe (fC (.int 2)) (fB zBB (zc (fSl (zD 0) zEh (zDV (fC (.int 63)))) zx)))) zS)) (gN 7) (zX (zAG 8 (fB zBZ (zc (zAL [9] (zAW (zH (toD (zW zf (zH (toD (zD 1)) (zH (toD (fC (.int 81))) zS)))) zS)) (gN 9) zAC (zW zf (zH (toD (zD 1)) (zH (toD (fB zBB (zc (fOp kIx (zD 2) (fC (.int 0))) zx))) zS)))) zx)))
  (zX (sIf (zGM (tst (fOp kLt (fB zBB (zc (zW zAB (zH (toD (zD 2)) (zH (toD (zD 3)) (zH (toD (zD 8)) zS)))) zx)) (zD 4))) (tst (fOp kNe (fB zBB (zc (zW zAB (zH (toD (zD 2)) (zH (toD (zD 6)) (zH (toD (zD 8)) zS)))) zx)) (zD 4)))) (zAJ (fC (.bl false))) zCU)
  (sIf (zCK (tst (fOp kEq (zW zf (zH (toD (zD 1)) (zH (toD (fC (.int 3))) zS))) (fC (.int 0)))) (tst (fOp kNe (fB zBB (zc (zW zAB (zH (toD (zD 2)) (zH (toD (zD 3)) (zH (toD (fOp zAe (zD 8) (zD 5))) zS)))) zx)) (zD 4)))) (zAJ (fC (.bl false))) zCU))))
  (zAJ (fC (.bl true)))))))))
noncomputable def zGd : FF:=zBJ 10 zOj
theorem zOq (hz : zA.length <= 1000) (hf : f σ M = some (.dat (mD zA),M)) : zGn (fB zBB (zc f zx)) σ M = some (.dat (tI (zQ zA)),M):=by
 refine zd (zRP (j:=(zA.length : Int)) (zFv hf) (by omega) (by omega) ⟨?_,rfl⟩);unfold upD tI zQ;rw [zVl,show (zA.length : Int).toNat = zA.length by omega]; rfl
theorem zOw (ns : List Int) (h : ns.length <= 63) : ∃ M',zGd [.ref 0] [.fro (ns.map D.int)] = some (.bl true,M'):=by
 suffices hh : Ok (zGd [.ref 0] [.fro (ns.map D.int)]) fun d _ => d = .bl true by
  obtain ⟨d,M',e,rfl⟩:=hh;exact ⟨M',e⟩
 unfold zGd;rw [zAV];unfold zOj;refine zOQ (τ:=[none,none,none,none,none,none,none]) (by decide) (by decide) (by decide) h fun zA l M2 m hr1 hr2 hr3 hl g2 e02 => ?_;have hR : zA.length <= 26:=by omega
 have l0:=m.l0;have s:=zFT m;obtain ⟨w,st,q⟩:=zFd m 100 0 (zVo (zCW s) (by omega)) s;have hw:=zCC q;have ql:=zEj m hR s q;have hS:=zCW s;have sK:=m.broR w s hw;have hK:=zCW sK;have hn:=zGG q;refine zBx (zOq (by omega) rfl) ?_;show OkS (zX _ _ [some (.ref 0),some (.ref 2),some (mD zA),some (tI (zQ zA)),none,none,none,none,none,none] M2) _;rw [zU,zM7];refine zK (zp (zr (d:=mD zA) rfl) (zIY m hR (by omega) q)) ?_;rw [zV];refine ⟨_,rfl,?_⟩;rw [zb];generalize hKK : broR zA (zQ zA) w = K at *;show OkS (zX _ _ [some (.ref 0),some (.ref 2),some (mD zA),some (tI (zQ zA)),some (.int K.length),some (tI w),some (tI K),none,none,none] M2) _;have elen : ∀ {f : FE} {σ : Sd} {M : Mem} {S v : List Int},IsS zA S -> Wd l v -> f σ M = some (.dat (tI S),M) -> ∀ {f0 g : FE},f0 σ M = some (.dat (mD zA),M) -> g σ M = some (.dat (tI v),M) -> fB zBB (zc (zW zAB (zH (toD f0) (zH (toD f) (zH (toD g) zS)))) zx) σ M = some (.dat (.int (broR zA S v).length),M):=fun sS hv e1 f0 g e0 e2 => zDU (zp (zw e0 (zw e1 (zr e2))) (zGv m hR sS hv));refine zFh (zGE ?_ ?_) ?_
 ·refine zAx (zY (x:=.dat (.bl true)) (y:=.dat (.bl true)) (zp (zw (d:=mD zA) rfl (zr (d:=.tup [.int K.length,tI w,tI K]) (zLr (zw (d:=.int K.length) rfl (zw (d:=tI w) rfl (zr (d:=tI K) rfl))) (by simp)))) (zIJ m hR (by omega) hw (by omega) sK (by rw [hKK]) hn)) rfl rfl)
 ·refine zAx (zY (elen s hw rfl rfl rfl) (y:=.dat (.int K.length)) rfl ?_);rw [hKK];exact zd (zQ7.mpr ⟨by simp,rfl⟩)
 rw [zU,zCR];obtain ⟨c,ec,lc⟩:=zS4 (σ:=[some (.ref 0),some (.ref 2),some (mD zA),some (tI (zQ zA)),some (.int K.length),some (tI w),some (tI K),none,none,none]) (i:=63) (j:=0) rfl rfl e02;have er:=zY (k:=zAe) (f:=fC (.int 2)) (r:=some (.dat (.int (2 + ((c.map D.int).length : Int))),M2)) rfl (zHp ec zEF) rfl;refine ⟨_,_,_,zCw er (by omega) (by rw [zVW]; omega),?_⟩;refine zLu (n:=(2 + ((c.map D.int).length : Int)).toNat) (I:=fun i σ M' => (∃ y7 y8 y9,σ = [some (.ref 0),some (.ref 2),some (mD zA),some (tI (zQ zA)),some (.int K.length),some (tI w),some (tI K),y7,y8,y9]) /\ Gen M' 2 1) ?_ ?_ _ _ ⟨⟨_,_,_,rfl⟩,g2⟩
 ·rintro i σ M' hi ⟨⟨y7,y8,y9,rfl⟩,g⟩;refine ⟨_,rfl,?_⟩;show OkS (zX _ _ [some (.ref 0),some (.ref 2),some (mD zA),some (tI (zQ zA)),some (.int K.length),some (tI w),some (tI K),some (.int (i : Int)),y8,y9] M') _;rw [zU,zm];refine zRU.mpr (zFz.mpr (Ok.mono (zOJ (most:=81) (lets:=l) g (by omega) (by omega) (by omega) (by omega) (fun _ => rfl) (fun _ => rfl) (fun _ _ => rfl) (fun _ _ => zG1 m rfl)) ?_));rintro x M3 ⟨⟨v,rfl,hvl,hv⟩,nx3⟩;refine zG4.mpr ((zMw zEF).mpr ?_);rw [zV,zb];have hv' : Wd l v:=hv;show OkS (zX _ _ [some (.ref 0),some (.ref 2),some (mD zA),some (tI (zQ zA)),some (.int K.length),some (tI w),some (tI K),some (.int (i : Int)),some (tI v),y9] M3) _;have hmin:=zI6 m q hv';rw [hKK] at hmin;refine zFh (zGE ?_ ?_) ?_
  ·refine zAx (zY (elen s hv' rfl rfl rfl) (y:=.dat (.int K.length)) rfl ?_);exact zd (zS1.mpr ⟨by rw [zVw (by omega)],rfl⟩)
  ·refine zAx (zY (elen sK hv' rfl rfl rfl) (y:=.dat (.int K.length)) rfl ?_);rw [zIv sK hn hv'];exact zd (zQ7.mpr ⟨by simp,rfl⟩)
  rw [zCM];refine zM8.mpr (zJg.mpr (zAg.mpr (zAX nx3.gen rfl rfl (by decide) (by decide) fun t M4 t0 t1 nx4 => ?_)));refine zK (a:=.dat (.int 0)) (M:=M4) rfl (zMk.mpr ?_);rw [zEE];have ee : tst (fOp kNe (fB zBB (zc (zW zAB (zH (toD (zD 2)) (zH (toD (zD 3)) (zH (toD (fOp zAe (zD 8) (zD 5))) zS)))) zx)) (zD 4)) [some (.ref 0),some (.ref 2),some (mD zA),some (tI (zQ zA)),some (.int K.length),some (tI w),some (tI K),some (.int (i : Int)),some (tI v),y9] M4 = some (false,M4):=by
   have hcat : fOp zAe (zD 8) (zD 5) [some (.ref 0),some (.ref 2),some (mD zA),some (tI (zQ zA)),some (.int K.length),some (tI w),some (tI K),some (.int (i : Int)),some (tI v),y9] M4 = some (.dat (tI (v ++ w)),M4):=by
    rw [zY (x:=.dat (tI v)) (y:=.dat (tI w)) rfl rfl (zP9 (z0 (by rw [zVW,zVW]; omega)))];unfold tI; rw [zWF]
   refine zAx (zY (elen s (zLz hv' hw) rfl rfl hcat) (y:=.dat (.int K.length)) rfl ?_);have h1:=zI6 m q (zLz hv' hw);rw [hKK] at h1;have sv:=m.broR v s hv';have h2 : (broR zA (zQ zA) (v ++ w)).length <= K.length:=by
    rw [zMz,<- hKK];exact zNA sv.pw s.pw fun x hx => zBA.mpr (sv.mem x hx)
   rw [show (broR zA (zQ zA) (v ++ w)).length = K.length by omega];exact zd (zQ7.mpr ⟨by simp,rfl⟩)
  by_cases ht : t = 0
  ·rw [zWV ht,zVc rfl];refine zK ee ?_;rw [zVf (by decide),zBM];exact ⟨⟨_,_,_,rfl⟩,nx4.gen⟩
  ·rw [zVw ht,zVf (by decide),zVf (by decide),zBM];exact ⟨⟨_,_,_,rfl⟩,nx4.gen⟩
 ·rintro σ M' ⟨⟨y7,y8,y9,rfl⟩,g⟩;exact zA1 (d:=.bl true) rfl rfl
end Lac
set_option maxHeartbeats 4000000
namespace Lac
open PySem PySem.Spec PyProof.Rows L2 L3 Law
-- the text by places
def top (i : Nat) : Stmt:=PySem.Challenge.pw_bringhome_k32_whole_no_word_leaves_fewer.main.body.getD i (.Pass ⟨0,0,0,0⟩)
abbrev zFA : Stmt:=top 1
abbrev zFO : Stmt:=top 2
abbrev zBK : Stmt:=top 3
abbrev zF4 : Stmt:=top 4
abbrev zFX : Stmt:=top 5
abbrev zEQ : Stmt:=top 6
abbrev zEk : Stmt:=top 8
abbrev zHR : Stmt:=top 9
abbrev zGS : Stmt:=top 10
abbrev zDw : Stmt:=top 12
abbrev zEg : Stmt:=top 13
abbrev zCZ : Stmt:=top 14
abbrev zEw : Stmt:=top 15
abbrev zBI : Stmt:=top 16
abbrev zCp : Stmt:=top 17
abbrev zKT : Stmt:=top 18
abbrev zGF : Stmt:=top 19
abbrev zEq : Stmt:=top 21
abbrev zKB : Stmt:=top 22
abbrev zDg : Stmt:=top 23
abbrev zC6 : Stmt:=top 25
abbrev zDx : Stmt:=top 26
abbrev zDK : Stmt:=top 28
abbrev zFJ : Stmt:=top 29
abbrev zEG : Stmt:=top 30
abbrev zAQ : Stmt:=top 31
abbrev zBV : Stmt:=top 32
abbrev zCF : Stmt:=top 33
abbrev zMt : Stmt:=top 34
structure Txt (K : PySem.W.Frag) (mg : Str -> Option Value) where
  d_is_whole : Df K mg "is_whole" zFA ["thing"]
  d_is_below : Df K mg "is_below" zFO ["thing", "many"]
  d_is_tuple_below : Df K mg "is_tuple_below" zBK ["thing", "many"]
  d_is_word : Df K mg "is_word" zF4 ["machine", "thing"]
  d_is_set : Df K mg "is_set" zFX ["machine", "thing"]
  d_all_rooms : Df K mg "all_rooms" zEQ ["machine"]
  d_stepped : Df K mg "stepped" zEk ["machine", "rooms", "letter"]
  d_walked : Df K mg "walked" zHR ["machine", "rooms", "word"]
  d_brought : Df K mg "brought" zGS ["machine", "rooms", "word"]
  d_pairs_of : Df K mg "pairs_of" zDw ["rooms"]
  d_ways_back : Df K mg "ways_back" zEg ["machine"]
  d_lengths_to : Df K mg "lengths_to" zCZ ["machine", "goals"]
  d_lengths : Df K mg "lengths" zEw ["machine"]
  d_first_letter : Df K mg "first_letter" zBI ["machine", "pair", "found"]
  d_rungs_to : Df K mg "rungs_to" zCp ["machine", "found"]
  d_rungs : Df K mg "rungs" zKT ["machine"]
  d_climbed : Df K mg "climbed" zGF ["machine", "steps", "pair"]
  d_nearest : Df K mg "nearest" zEq ["ways", "rooms"]
  d_quick : Df K mg "quick" zKB ["machine", "rooms"]
  d_least_many : Df K mg "least_many" zDg ["machine"]
  d_are_apart : Df K mg "are_apart" zC6 ["machine", "rooms"]
  d_shows_many : Df K mg "shows_many" zDx ["machine", "told"]
  d_law_begin : Df K mg "_law_begin" zDK ["_law_script"]
  d_law_next : Df K mg "_law_next" zFJ ["_law_state", "_law_many"]
  d_law_order : Df K mg "_law_order" zEG ["_law_state", "_law_many"]
  d_law_column : Df K mg "_law_column" zAQ ["_law_state", "_law_family", "_law_rooms", "_law_letter"]
  d_law_machine : Df K mg "_law_machine" zBV ["_law_state", "_law_rooms", "_law_letters"]
  d_law_brought : Df K mg "_law_brought" zCF ["_law_machine_here", "_law_rooms", "_law_word"]
  d_law : Df K mg "law" zMt ["_law_script"]
  z_isinstance : mg "isinstance" = none
  z_int : mg "int" = none
  z_bool : mg "bool" = none
  z_tuple : mg "tuple" = none
  z_all : mg "all" = none
  z_len : mg "len" = none
  z_zip : mg "zip" = none
  z_range : mg "range" = none
  z_sorted : mg "sorted" = none
  z_min : mg "min" = none
  z_enumerate : mg "enumerate" = none
  z_abs : mg "abs" = none
  z_list : mg "list" = none
  z_set : mg "set" = none
  kinds : Kinds K
section
variable {P : Program} {w : World} {K : PySem.W.Frag} {mg : Str -> Option Value} {base : Heap}
abbrev zL4 : List Str:=["thing"]
theorem zKj : FnScope zL4 ["thing"] (zN zFA):=⟨rfl,rfl,rfl,by decide +kernel,rfl,by decide +kernel,by decide +kernel⟩
theorem zGg (T : Txt K mg) : Od P w base 1 T.d_is_whole zB2:=by
  unfold zB2;exact zAH (n:=1) T.d_is_whole.F zKj rfl (fun cdv A outer s H E hr => by
    unfold zE9;exact (za (zAF (zHV (zNF T.kinds (by decide) rfl T.z_isinstance rfl T.z_int (by rfl) (by decide) (by decide) (zF (pv 0)) (zC rfl) (zC rfl) (zO rfl)) (zJr (zSq (zNF T.kinds (by decide) rfl T.z_isinstance rfl T.z_bool (by rfl) (by decide) (by decide) (zF (pv 0)) (zC rfl) (zC rfl) (zO rfl))))))))
abbrev zKz : List Str:=["machine"]
theorem zKM : FnScope zKz ["machine"] (zN zEQ):=⟨rfl,rfl,rfl,by decide +kernel,rfl,by decide +kernel,by decide +kernel⟩
theorem zCQ (T : Txt K mg) : Od P w base 1 T.d_all_rooms zAk:=by
  unfold zAk;exact zAH (n:=1) T.d_all_rooms.F zKM rfl (fun cdv A outer s H E hr => by
    unfold zEd;exact (za (zAF (zQJ rfl rfl T.z_tuple rfl T.z_range (zBd rfl T.z_len (zg (zF (pv 0)) zt (zC rfl)) (zC rfl) rfl) (zC rfl) rfl (zC rfl) rfl))))
abbrev zIp : List Str:=["machine", "rooms", "letter", "room"]
theorem zH8 : FnScope zIp ["machine", "rooms", "letter"] (zN zEk):=⟨rfl,rfl,rfl,by decide +kernel,rfl,by decide +kernel,by decide +kernel⟩
theorem zD3 (T : Txt K mg) : Od P w base 1 T.d_stepped zA9:=by
  unfold zA9;exact zDL (zAH (n:=3) T.d_stepped.F zH8 rfl (fun cdv A outer s H E hr => by
    unfold zF3;exact (za (zAF (zDF rfl T.z_tuple (zg (zM3 rfl rfl T.z_sorted (zTg (zj (i:=3) (by decide)) (zi (sc:=zN zEk) (N:=zIp) rfl rfl rfl (by decide +kernel) (by decide +kernel)) rfl (zBC (zF (pv 1))) ⟨fun _ _ _ _ _ => (zAD (i:=3) zH8.nd rfl),fun _ _ _ _ _ => zAo,fun _ _ _ _ _ => (zBc (zBc (zF (pv 0)) (zF (pv 3))) (zF (pv 2)))⟩) (zC rfl) rfl) zt (zC rfl)) (zC rfl) rfl)))))
abbrev zHH : List Str:=["rooms", "one", "other"]
theorem zEH : FnScope zHH ["rooms"] (zN zDw):=⟨rfl,rfl,rfl,by decide +kernel,rfl,by decide +kernel,by decide +kernel⟩
theorem zDD (T : Txt K mg) : Od P w base 1 T.d_pairs_of zAb:=by
  unfold zAb;exact zAH (n:=1) T.d_pairs_of.F zEH rfl (fun cdv A outer s H E hr => by
    unfold zFQ;exact (za (zAF (zRC (by decide) (zj (i:=1) (by decide)) (zj (i:=2) (by decide)) (zi (sc:=zN zDw) (N:=zHH) rfl rfl rfl (by decide +kernel) (by decide +kernel)) rfl (zBC (zF (pv 0))) ⟨fun _ _ _ _ _ => (zAD (i:=1) zEH.nd rfl),fun _ _ _ _ _ => zAo,fun _ _ _ _ _ => (zBC (zF (pv 0))),fun _ _ _ _ _ => (zAD (i:=2) zEH.nd rfl),fun _ _ _ _ _ => (zH3 (zSI (zF (pv 1)) (zF (pv 2)))),fun _ _ _ _ _ => (zFb (zG (zI (zF (pv 1))) (zG (zI (zF (pv 2))) zL (zC rfl)) (zC rfl))),fun _ _ _ _ _ _ => rfl⟩))))
abbrev zGf : List Str:=["_law_script", "_law_seed", "_law_cell"]
theorem zBq : FnScope zGf ["_law_script"] (zN zDK):=⟨rfl,rfl,rfl,by decide +kernel,rfl,by decide +kernel,by decide +kernel⟩
theorem zJ6 (T : Txt K mg) : Od P w base 1 T.d_law_begin zBe:=by
  unfold zBe;exact zAH (n:=1) T.d_law_begin.F zBq rfl (fun cdv A outer s H E hr => by
    unfold zEO;exact (zP (zAz (i:=1) zBq.nd rfl (zBO (zBd rfl T.z_len (zg (zF (pv 0)) zt (zC rfl)) (zC rfl) rfl) zZ))
    (zP (zFV zBn zWq rfl (zBC (zG8 (zF (pv 0)) zG5 (zGz zZ))) (zAD (i:=2) zBq.nd rfl) (za (zAz (i:=1) zBq.nd rfl (zFZ (zBO (zBO (zPS (zF (pv 1)) zZ) (zFZ (zF (pv 2)) (zSc zZ zZ))) zZ) zZ))))
    (za (zAF (zD7 (zG (zI (zBQ (zj (i:=2) (by decide)) (zi (sc:=zN zDK) (N:=zGf) rfl rfl rfl (by decide +kernel) (by decide +kernel)) rfl (zBC (zG8 (zF (pv 0)) zG5 (zGz zZ))) ⟨fun _ _ _ _ _ => (zAD (i:=2) zBq.nd rfl),fun _ _ _ _ _ => (zH3 (zUB (zSJ rfl T.z_abs (zg (zF (pv 2)) zt (zC rfl)) (zC rfl) rfl) (zSc zZ zZ))),fun _ _ _ _ _ => (zSJ rfl T.z_abs (zg (zF (pv 2)) zt (zC rfl)) (zC rfl) rfl)⟩)) (zG (zI (zF (pv 1))) zL (zC rfl)) (zC rfl))))))))
abbrev zLm : List Str:=["_law_state", "_law_many", "_law_digit"]
theorem zGm : FnScope zLm ["_law_state", "_law_many"] (zN zFJ):=⟨rfl,rfl,rfl,by decide +kernel,rfl,by decide +kernel,by decide +kernel⟩
theorem zy (T : Txt K mg) : Od P w base 1 T.d_law_next zf:=by
  unfold zf;exact zAH (n:=2) T.d_law_next.F zGm rfl (fun cdv A outer s H E hr => by
    unfold zFF;exact (zP (zG0 100 zWq (zHg (zIB (zJK hr.units0 (zBc (zF (pv 0)) zZ) (zD7 zL)) (zFU (zDG hr.units0 (zBc (zBc (zF (pv 0)) zZ) zZ) zZ)))) (za (zFN (zUF (zBc (zF (pv 0)) zZ) (zG (zI zZ) zL (zC rfl))))))
    (zP (zEz (zJK hr.units0 (zBc (zF (pv 0)) zZ) (zD7 zL)) (zP (zAz (i:=2) zGm.nd rfl (zFZ (zBc (zBc (zF (pv 0)) zZ) zZ) (zF (pv 1))))
    (zP (zHQ (zQl (zBc (zBc (zF (pv 0)) zZ) zZ) (zF (pv 1))) (zBc (zF (pv 0)) zZ) zZ)
    (za (zAF (zF (pv 2)))))) zBR)
    (zP (zHQ (zFZ (zBO (zPS (zBc (zF (pv 0)) zZ) zZ) zZ) zZ) (zF (pv 0)) zZ)
    (za (zAF (zFZ (zQl (zFZ (zPS (zBc (zF (pv 0)) zZ) (zBc (zF (pv 0)) zZ)) zZ) zZ) (zF (pv 1)))))))))
abbrev zE4 : List Str:=["_law_machine_here", "_law_rooms", "_law_word", "_law_now", "_law_letter", "_law_room"]
theorem zBG : FnScope zE4 ["_law_machine_here", "_law_rooms", "_law_word"] (zN zCF):=⟨rfl,rfl,rfl,by decide +kernel,rfl,by decide +kernel,by decide +kernel⟩
theorem zBu (T : Txt K mg) : Od P w base 1 T.d_law_brought zAB:=by
  unfold zAB;exact zDL (zAH (n:=3) T.d_law_brought.F zBG rfl (fun cdv A outer s H E hr => by
    unfold zDS;exact (zP (zAz (i:=3) zBG.nd rfl (zTU rfl T.z_list (zg (zF (pv 1)) zt (zC rfl)) (zC rfl) rfl))
    (zP (zFV zBn zWq rfl (zBC (zF (pv 2))) (zAD (i:=4) zBG.nd rfl) (za (zDe (i:=3) zBG.nd rfl (by first | exact Or.inl rfl | exact Or.inr rfl) (by first | exact .inl rfl | exact .inr rfl) rfl (zj (i:=5) (by decide)) (zi (sc:=zN zCF) (N:=zE4) rfl rfl rfl (by decide +kernel) (by decide +kernel)) rfl (zBC (zF (pv 3))) ⟨fun _ _ _ _ _ => (zAD (i:=5) zBG.nd rfl),fun _ _ _ _ _ => zAo,fun _ _ _ _ _ => (zBc (zBc (zF (pv 0)) (zF (pv 5))) (zF (pv 4)))⟩)))
    (za (zAF (zDF rfl T.z_tuple (zg (zM3 rfl rfl T.z_sorted (zRR rfl rfl T.z_set (zF (pv 3)) (zC rfl) rfl) (zC rfl) rfl) zt (zC rfl)) (zC rfl) rfl)))))))
abbrev zLi : List Str:=["thing", "many"]
theorem zLT : FnScope zLi ["thing", "many"] (zN zFO):=⟨rfl,rfl,rfl,by decide +kernel,rfl,by decide +kernel,by decide +kernel⟩
theorem zKk (T : Txt K mg) : Od P w base 2 T.d_is_below zCy:=by
  unfold zCy;exact zAH (n:=2) T.d_is_below.F zLT rfl (fun cdv A outer s H E hr => by
    unfold zFK;exact (za (zAF (zHV (zAI (zGg T) (hr.mono (by omega)) rfl (zG (zI (zF (pv 0))) zL (zC rfl)) (zE zJ) (by decide) (zC rfl) (zO rfl)) (zJr (zRX (zEX fun _ _ _ _ => zBs) (zEX fun _ _ _ _ => zBs) zT8 zPW zZ (zF (pv 0)) (zF (pv 1))))))))
abbrev zPt : List Str:=["machine", "rooms", "word", "sets", "letter"]
theorem zGN : FnScope zPt ["machine", "rooms", "word"] (zN zHR):=⟨rfl,rfl,rfl,by decide +kernel,rfl,by decide +kernel,by decide +kernel⟩
theorem zOH (T : Txt K mg) : Od P w base 2 T.d_walked zEV:=by
  unfold zEV;exact zDL (zAH (n:=3) T.d_walked.F zGN rfl (fun cdv A outer s H E hr => by
    unfold zIN;exact (zP (zAz (i:=3) zGN.nd rfl (zD7 (zG (zI (zF (pv 1))) zL (zC rfl))))
    (zP (zFV zBn zWq rfl (zBC (zF (pv 2))) (zAD (i:=4) zGN.nd rfl) (za (zFN (zEU (zF (pv 3)) (zG (zI (zAI (zD3 T) (hr.mono (by omega)) rfl (zG (zI (zF (pv 0))) (zG (zI (zBc (zF (pv 3)) (zSP zZ))) (zG (zI (zF (pv 4))) zL (zC rfl)) (zC rfl)) (zC rfl)) (zE (zE (zE zJ))) (by decide) (zC rfl) (zO rfl))) zL (zC rfl))))))
    (za (zAF (zDF rfl T.z_tuple (zg (zF (pv 3)) zt (zC rfl)) (zC rfl) rfl)))))))
abbrev zKZ : List Str:=["machine", "sources", "pair", "letter", "goal"]
theorem zBm : FnScope zKZ ["machine"] (zN zEg):=⟨rfl,rfl,rfl,by decide +kernel,rfl,by decide +kernel,by decide +kernel⟩
theorem zJd (T : Txt K mg) : Od P w base 2 T.d_ways_back zCG:=by
  unfold zCG;exact zAH (n:=1) T.d_ways_back.F zBm rfl (fun cdv A outer s H E hr => by
    unfold zEL;exact (zP (zAz (i:=1) zBm.nd rfl zRH)
    (zP (zFV zBn zWq rfl (zBC (zAI (zDD T) (hr.mono (by omega)) rfl (zG (zI (zAI (zCQ T) (hr.mono (by omega)) rfl (zG (zI (zF (pv 0))) zL (zC rfl)) (zE zJ) (by decide) (zC rfl) (zO rfl))) zL (zC rfl)) (zE zJ) (by decide) (zC rfl) (zO rfl))) (zAD (i:=2) zBm.nd rfl) (za (zFV zBn zWq rfl (zAN rfl T.z_range (zG (zI (zBd rfl T.z_len (zg (zBc (zF (pv 0)) zZ) zt (zC rfl)) (zC rfl) rfl)) zL (zC rfl)) (zE zJ) (zAS rfl)) (zAD (i:=3) zBm.nd rfl) (zP (zAz (i:=4) zBm.nd rfl (zAI (zD3 T) (hr.mono (by omega)) rfl (zG (zI (zF (pv 0))) (zG (zI (zF (pv 2))) (zG (zI (zF (pv 3))) zL (zC rfl)) (zC rfl)) (zC rfl)) (zE (zE (zE zJ))) (by decide) (zC rfl) (zO rfl)))
    (zP (zEz (zIq (zBr hr) (zF (pv 4)) (zF (pv 1))) (za (zPD (zBr hr) (zD7 zL) (zF (pv 1)) (zF (pv 4)))) zBR)
    (za (zFN (zEU (zFD (zBr hr) (zF (pv 1)) (zF (pv 4))) (zG (zI (zF (pv 2))) zL (zC rfl))))))))))
    (za (zAF (zF (pv 1)))))))
abbrev zCg : List Str:=["machine", "pair", "found", "goals", "letter", "goal"]
theorem zA4 : FnScope zCg ["machine", "pair", "found"] (zN zBI):=⟨rfl,rfl,rfl,by decide +kernel,rfl,by decide +kernel,by decide +kernel⟩
theorem zGx (T : Txt K mg) : Od P w base 2 T.d_first_letter zAT:=by
  unfold zAT;exact zAH (n:=3) T.d_first_letter.F zA4 rfl (fun cdv A outer s H E hr => by
    unfold zCn;exact (zP (zDe (i:=3) zA4.nd rfl (by first | exact Or.inl rfl | exact Or.inr rfl) (by first | exact .inl rfl | exact .inr rfl) rfl (zj (i:=4) (by decide)) (zi (sc:=zN zBI) (N:=zCg) rfl rfl rfl (by decide +kernel) (by decide +kernel)) rfl (zAN rfl T.z_range (zG (zI (zBd rfl T.z_len (zg (zBc (zF (pv 0)) zZ) zt (zC rfl)) (zC rfl) rfl)) zL (zC rfl)) (zE zJ) (zAS rfl)) ⟨fun _ _ _ _ _ => (zAD (i:=4) zA4.nd rfl),fun _ _ _ _ _ => zAo,fun _ _ _ _ _ => (zAI (zD3 T) (hr.mono (by omega)) rfl (zG (zI (zF (pv 0))) (zG (zI (zF (pv 1))) (zG (zI (zF (pv 4))) zL (zC rfl)) (zC rfl)) (zC rfl)) (zE (zE (zE zJ))) (by decide) (zC rfl) (zO rfl))⟩)
    (za (zAF (zTD rfl rfl T.z_min (zg (zBQ (zI9 (i:=4) (j:=5) (by decide) (by decide)) (zi (sc:=zN zBI) (N:=zCg) rfl rfl rfl (by decide +kernel) (by decide +kernel)) rfl (zRM rfl T.z_enumerate (zF (pv 3)) (zC rfl) rfl) ⟨fun _ _ _ _ _ => (zKH rfl (zBY (zAD (i:=4) zA4.nd rfl) (zBY (zAD (i:=5) zA4.nd rfl) zG3))),fun _ _ _ _ _ => (zH3 (zHg (zIB (zMC (zBr hr) (zF (pv 5)) (zF (pv 2))) (zFU (zDG hr.units0 (zFD (zBr hr) (zF (pv 2)) (zF (pv 5))) (zM1 (zFD (zBr hr) (zF (pv 2)) (zF (pv 1))) zZ)))))),fun _ _ _ _ _ => (zF (pv 4))⟩) zt (zC rfl)) (zC rfl) rfl)))))
abbrev zOD : List Str:=["machine", "steps", "pair", "word", "here", "letter"]
theorem zCj : FnScope zOD ["machine", "steps", "pair"] (zN zGF):=⟨rfl,rfl,rfl,by decide +kernel,rfl,by decide +kernel,by decide +kernel⟩
theorem zMH (T : Txt K mg) : Od P w base 2 T.d_climbed zDa:=by
  unfold zDa;exact zAH (n:=3) T.d_climbed.F zCj rfl (fun cdv A outer s H E hr => by
    unfold zGD;exact (zP (zAz (i:=3) zCj.nd rfl (zD7 zL))
    (zP (zAz (i:=4) zCj.nd rfl (zF (pv 2)))
    (zP (zG0 1000 zWq (zMC (zBr hr) (zF (pv 4)) (zF (pv 1))) (zP (zAz (i:=5) zCj.nd rfl (zBc (zFD (zBr hr) (zF (pv 1)) (zF (pv 4))) zZ))
    (zP (zFN (zEU (zF (pv 3)) (zG (zI (zF (pv 5))) zL (zC rfl))))
    (za (zAz (i:=4) zCj.nd rfl (zAI (zD3 T) (hr.mono (by omega)) rfl (zG (zI (zF (pv 0))) (zG (zI (zF (pv 4))) (zG (zI (zF (pv 5))) zL (zC rfl)) (zC rfl)) (zC rfl)) (zE (zE (zE zJ))) (by decide) (zC rfl) (zO rfl)))))))
    (za (zAF (zDF rfl T.z_tuple (zg (zF (pv 3)) zt (zC rfl)) (zC rfl) rfl)))))))
abbrev zJH : List Str:=["ways", "rooms", "found", "pair"]
theorem zFP : FnScope zJH ["ways", "rooms"] (zN zEq):=⟨rfl,rfl,rfl,by decide +kernel,rfl,by decide +kernel,by decide +kernel⟩
theorem zHW (T : Txt K mg) : Od P w base 2 T.d_nearest zCa:=by
  unfold zCa;exact zAH (n:=2) T.d_nearest.F zFP rfl (fun cdv A outer s H E hr => by
    unfold zGK;exact (zP (zDe (i:=2) zFP.nd rfl (by first | exact Or.inl rfl | exact Or.inr rfl) (by first | exact .inl rfl | exact .inr rfl) rfl (zj (i:=3) (by decide)) (zi (sc:=zN zEq) (N:=zJH) rfl rfl rfl (by decide +kernel) (by decide +kernel)) rfl (zBC (zAI (zDD T) (hr.mono (by omega)) rfl (zG (zI (zF (pv 1))) zL (zC rfl)) (zE zJ) (by decide) (zC rfl) (zO rfl))) ⟨fun _ _ _ _ _ => (zAD (i:=3) zFP.nd rfl),fun _ _ _ _ _ => (zH3 (zMC (zBr hr) (zF (pv 3)) (zF (pv 0)))),fun _ _ _ _ _ => (zFb (zG (zI (zBc (zFD (zBr hr) (zF (pv 0)) (zF (pv 3))) zZ)) (zG (zI (zF (pv 3))) zL (zC rfl)) (zC rfl)))⟩)
    (za (zAF (zRO (zNH (zF (pv 2))) (zBc (zSx rfl (zUW 3 (by decide) hr) rfl T.z_min (zg (zF (pv 2)) zt (zC rfl)) (zC rfl) rfl) zZ) zSF)))))
abbrev zKd : List Str:=["_law_state", "_law_many", "_law_order_here", "_law_k"]
theorem zDh : FnScope zKd ["_law_state", "_law_many"] (zN zEG):=⟨rfl,rfl,rfl,by decide +kernel,rfl,by decide +kernel,by decide +kernel⟩
theorem zKS (T : Txt K mg) : Od P w base 2 T.d_law_order zCH:=by
  unfold zCH;exact zAH (n:=2) T.d_law_order.F zDh rfl (fun cdv A outer s H E hr => by
    unfold zEJ;exact (zP (zAz (i:=2) zDh.nd rfl (zD7 zL))
    (zP (zFV zBn zWq rfl (zAN rfl T.z_range (zG (zI (zF (pv 1))) zL (zC rfl)) (zE zJ) (zAS rfl)) (zAD (i:=3) zDh.nd rfl) (za (zFN (zPB (zF (pv 2)) (zG (zI (zAI (zy T) (hr.mono (by omega)) rfl (zG (zI (zF (pv 0))) (zG (zI (zBO (zF (pv 3)) zZ)) zL (zC rfl)) (zC rfl)) (zE (zE zJ)) (by decide) (zC rfl) (zO rfl))) (zG (zI (zF (pv 3))) zL (zC rfl)) (zC rfl))))))
    (za (zAF (zF (pv 2)))))))
abbrev zDc : List Str:=["thing", "many", "part"]
theorem zDN : FnScope zDc ["thing", "many"] (zN zBK):=⟨rfl,rfl,rfl,by decide +kernel,rfl,by decide +kernel,by decide +kernel⟩
theorem zC7 (T : Txt K mg) : Od P w base 3 T.d_is_tuple_below zAf:=by
  unfold zAf;exact zAH (n:=2) T.d_is_tuple_below.F zDN rfl (fun cdv A outer s H E hr => by
    unfold zB0;exact (za (zAF (zHV (zNF T.kinds (by decide) rfl T.z_isinstance rfl T.z_tuple (by rfl) (by decide) (by decide) (zF (pv 0)) (zC rfl) (zC rfl) (zO rfl)) (zJr (zPn rfl rfl T.z_all (zg (zBQ (zj (i:=2) (by decide)) (zi (sc:=zN zBK) (N:=zDc) rfl rfl rfl (by decide +kernel) (by decide +kernel)) rfl (zBC (zF (pv 0))) ⟨fun _ _ _ _ _ => (zAD (i:=2) zDN.nd rfl),fun _ _ _ _ _ => zAo,fun _ _ _ _ _ => (zAI (zKk T) (hr.mono (by omega)) rfl (zG (zI (zF (pv 2))) (zG (zI (zF (pv 1))) zL (zC rfl)) (zC rfl)) (zE (zE zJ)) (by decide) (zC rfl) (zO rfl))⟩) zt (zC rfl)) (zC rfl) rfl))))))
abbrev zNW : List Str:=["machine", "rooms", "word"]
theorem zLo : FnScope zNW ["machine", "rooms", "word"] (zN zGS):=⟨rfl,rfl,rfl,by decide +kernel,rfl,by decide +kernel,by decide +kernel⟩
theorem zFB (T : Txt K mg) : Od P w base 3 T.d_brought zB5:=by
  unfold zB5;exact zDL (zAH (n:=3) T.d_brought.F zLo rfl (fun cdv A outer s H E hr => by
    unfold zF8;exact (za (zAF (zBc (zAI (zOH T) (hr.mono (by omega)) rfl (zG (zI (zF (pv 0))) (zG (zI (zF (pv 1))) (zG (zI (zF (pv 2))) zL (zC rfl)) (zC rfl)) (zC rfl)) (zE (zE (zE zJ))) (by decide) (zC rfl) (zO rfl)) (zSP zZ))))))
abbrev zFs : List Str:=["machine", "goals", "sources", "level", "found", "goal", "behind", "pair"]
theorem zAR : FnScope zFs ["machine", "goals"] (zN zCZ):=⟨rfl,rfl,rfl,by decide +kernel,rfl,by decide +kernel,by decide +kernel⟩
theorem zIT (T : Txt K mg) : Od P w base 3 T.d_lengths_to zBl:=by
  unfold zBl;exact zAH (n:=2) T.d_lengths_to.F zAR rfl (fun cdv A outer s H E hr => by
    unfold zDi;exact (zP (zAz (i:=2) zAR.nd rfl (zAI (zJd T) (hr.mono (by omega)) rfl (zG (zI (zF (pv 0))) zL (zC rfl)) (zE zJ) (by decide) (zC rfl) (zO rfl)))
    (zP (zAz (i:=3) zAR.nd rfl (zF (pv 1)))
    (zP (zMG (i:=4) (isT:=true) zAR.nd rfl (by first | exact Or.inl rfl | exact Or.inr rfl) (by first | exact .inl rfl | exact .inr rfl) rfl (zBr hr) (zj (i:=5) (by decide)) (zi (sc:=zN zCZ) (N:=zFs) rfl rfl rfl (by decide +kernel) (by decide +kernel)) rfl (zBC (zF (pv 1))) ⟨fun _ _ _ _ _ => (zAD (i:=5) zAR.nd rfl),fun _ _ _ _ _ => zAo,fun _ _ _ _ _ => (zF (pv 5))⟩ (fun _ _ _ _ _ => zZ))
    (zP (zG0 1000 zWq (zNH (zF (pv 3))) (zP (zAz (i:=6) zAR.nd rfl (zD7 zL))
    (zP (zFV zBn zWq rfl (zBC (zF (pv 3))) (zAD (i:=5) zAR.nd rfl) (za (zFV zBn zWq rfl (zBC (zMx (zBr hr) (zF (pv 2)) (zF (pv 5)) (zD7 zL) ⟨rfl,rfl,rfl,rfl⟩)) (zAD (i:=7) zAR.nd rfl) (za (zEz (zIq (zBr hr) (zF (pv 7)) (zF (pv 4))) (zP (zPD (zBr hr) (zBO (zFD (zBr hr) (zF (pv 4)) (zF (pv 5))) zZ) (zF (pv 4)) (zF (pv 7)))
    (za (zFN (zEU (zF (pv 6)) (zG (zI (zF (pv 7))) zL (zC rfl)))))) zBR)))))
    (za (zAz (i:=3) zAR.nd rfl (zF (pv 6)))))))
    (za (zAF (zF (pv 4)))))))))
abbrev zFC : List Str:=["machine", "found", "pairs", "pair"]
theorem zDA : FnScope zFC ["machine", "found"] (zN zCp):=⟨rfl,rfl,rfl,by decide +kernel,rfl,by decide +kernel,by decide +kernel⟩
theorem zKl (T : Txt K mg) : Od P w base 3 T.d_rungs_to zB7:=by
  unfold zB7;exact zAH (n:=2) T.d_rungs_to.F zDA rfl (fun cdv A outer s H E hr => by
    unfold zFL;exact (zP (zDe (i:=2) zDA.nd rfl (by first | exact Or.inl rfl | exact Or.inr rfl) (by first | exact .inl rfl | exact .inr rfl) rfl (zj (i:=3) (by decide)) (zi (sc:=zN zCp) (N:=zFC) rfl rfl rfl (by decide +kernel) (by decide +kernel)) rfl (zBC (zAI (zDD T) (hr.mono (by omega)) rfl (zG (zI (zAI (zCQ T) (hr.mono (by omega)) rfl (zG (zI (zF (pv 0))) zL (zC rfl)) (zE zJ) (by decide) (zC rfl) (zO rfl))) zL (zC rfl)) (zE zJ) (by decide) (zC rfl) (zO rfl))) ⟨fun _ _ _ _ _ => (zAD (i:=3) zDA.nd rfl),fun _ _ _ _ _ => (zH3 (zUj (zMx (zBr hr) (zF (pv 1)) (zF (pv 3)) zZ ⟨rfl,rfl,rfl,rfl⟩) zZ)),fun _ _ _ _ _ => (zF (pv 3))⟩)
    (za (zAF (zRf (isT:=true) (zBr hr) (zj (i:=3) (by decide)) (zi (sc:=zN zCp) (N:=zFC) rfl rfl rfl (by decide +kernel) (by decide +kernel)) rfl (zBC (zF (pv 2))) ⟨fun _ _ _ _ _ => (zAD (i:=3) zDA.nd rfl),fun _ _ _ _ _ => zAo,fun _ _ _ _ _ => (zF (pv 3))⟩ (fun _ _ _ _ _ => (zFb (zG (zI (zFD (zBr hr) (zF (pv 1)) (zF (pv 3)))) (zG (zI (zAI (zGx T) (hr.mono (by omega)) rfl (zG (zI (zF (pv 0))) (zG (zI (zF (pv 3))) (zG (zI (zF (pv 1))) zL (zC rfl)) (zC rfl)) (zC rfl)) (zE (zE (zE zJ))) (by decide) (zC rfl) (zO rfl))) zL (zC rfl)) (zC rfl)))))))))
abbrev zAm : List Str:=["_law_state", "_law_family", "_law_rooms", "_law_letter", "_law_room", "_law_half", "_law_ahead", "_law_far", "_law_order_here", "_law_goal"]
theorem zu : FnScope zAm ["_law_state", "_law_family", "_law_rooms", "_law_letter"] (zN zAQ):=⟨rfl,rfl,rfl,by decide +kernel,rfl,by decide +kernel,by decide +kernel⟩
theorem zId (T : Txt K mg) : Od P w base 3 T.d_law_column zBo:=by
  unfold zBo;exact zAH (n:=4) T.d_law_column.F zu rfl (fun cdv A outer s H E hr => by
    unfold zDj;exact (zP (zEz (zDG hr.units0 (zF (pv 1)) zZ) (za (zAF (zBQ (zj (i:=4) (by decide)) (zi (sc:=zN zAQ) (N:=zAm) rfl rfl rfl (by decide +kernel) (by decide +kernel)) rfl (zAN rfl T.z_range (zG (zI (zF (pv 2))) zL (zC rfl)) (zE zJ) (zAS rfl)) ⟨fun _ _ _ _ _ => (zAD (i:=4) zu.nd rfl),fun _ _ _ _ _ => zAo,fun _ _ _ _ _ => (zAI (zy T) (hr.mono (by omega)) rfl (zG (zI (zF (pv 0))) (zG (zI (zF (pv 2))) zL (zC rfl)) (zC rfl)) (zE (zE zJ)) (by decide) (zC rfl) (zO rfl))⟩))) zBR)
    (zP (zEz (zDG hr.units0 (zF (pv 1)) zZ) (za (zAF (zBQ (zj (i:=4) (by decide)) (zi (sc:=zN zAQ) (N:=zAm) rfl rfl rfl (by decide +kernel) (by decide +kernel)) rfl (zAN rfl T.z_range (zG (zI (zF (pv 2))) zL (zC rfl)) (zE zJ) (zAS rfl)) ⟨fun _ _ _ _ _ => (zAD (i:=4) zu.nd rfl),fun _ _ _ _ _ => zAo,fun _ _ _ _ _ => (zFZ (zBO (zF (pv 4)) (zAI (zy T) (hr.mono (by omega)) rfl (zG (zI (zF (pv 0))) (zG (zI zZ) zL (zC rfl)) (zC rfl)) (zE (zE zJ)) (by decide) (zC rfl) (zO rfl))) (zF (pv 2)))⟩))) zBR)
    (zP (zEz (zDG hr.units0 (zF (pv 1)) zZ) (zP (zAz (i:=5) zu.nd rfl (zQl (zBO (zF (pv 2)) zZ) zZ))
    (zP (zDe (i:=6) zu.nd rfl (by first | exact Or.inl rfl | exact Or.inr rfl) (by first | exact .inl rfl | exact .inr rfl) rfl (zj (i:=4) (by decide)) (zi (sc:=zN zAQ) (N:=zAm) rfl rfl rfl (by decide +kernel) (by decide +kernel)) rfl (zAN rfl T.z_range (zG (zI (zF (pv 5))) zL (zC rfl)) (zE zJ) (zAS rfl)) ⟨fun _ _ _ _ _ => (zAD (i:=4) zu.nd rfl),fun _ _ _ _ _ => zAo,fun _ _ _ _ _ => (zAI (zy T) (hr.mono (by omega)) rfl (zG (zI (zF (pv 0))) (zG (zI (zF (pv 5))) zL (zC rfl)) (zC rfl)) (zE (zE zJ)) (by decide) (zC rfl) (zO rfl))⟩)
    (za (zAF (zTw (zF (pv 6)) (zBQ (zj (i:=4) (by decide)) (zi (sc:=zN zAQ) (N:=zAm) rfl rfl rfl (by decide +kernel) (by decide +kernel)) rfl (zAN rfl T.z_range (zG (zI (zM1 (zF (pv 2)) (zF (pv 5)))) zL (zC rfl)) (zE zJ) (zAS rfl)) ⟨fun _ _ _ _ _ => (zAD (i:=4) zu.nd rfl),fun _ _ _ _ _ => zAo,fun _ _ _ _ _ => (zBO (zF (pv 5)) (zAI (zy T) (hr.mono (by omega)) rfl (zG (zI (zF (pv 0))) (zG (zI (zM1 (zF (pv 2)) (zF (pv 5)))) zL (zC rfl)) (zC rfl)) (zE (zE zJ)) (by decide) (zC rfl) (zO rfl)))⟩)))))) zBR)
    (zP (zEz (zHg (zIB (zDG hr.units0 (zF (pv 1)) zZ) (zFU (zDG hr.units0 (zF (pv 3)) zZ)))) (za (zAF (zBQ (zj (i:=4) (by decide)) (zi (sc:=zN zAQ) (N:=zAm) rfl rfl rfl (by decide +kernel) (by decide +kernel)) rfl (zAN rfl T.z_range (zG (zI (zF (pv 2))) zL (zC rfl)) (zE zJ) (zAS rfl)) ⟨fun _ _ _ _ _ => (zAD (i:=4) zu.nd rfl),fun _ _ _ _ _ => zAo,fun _ _ _ _ _ => (zFZ (zBO (zF (pv 4)) zZ) (zF (pv 2)))⟩))) zBR)
    (zP (zEz (zDG hr.units0 (zF (pv 1)) zZ) (za (zAF (zBQ (zj (i:=4) (by decide)) (zi (sc:=zN zAQ) (N:=zAm) rfl rfl rfl (by decide +kernel) (by decide +kernel)) rfl (zAN rfl T.z_range (zG (zI (zF (pv 2))) zL (zC rfl)) (zE zJ) (zAS rfl)) ⟨fun _ _ _ _ _ => (zAD (i:=4) zu.nd rfl),fun _ _ _ _ _ => zAo,fun _ _ _ _ _ => (zBc (zD7 (zG (zI (zF (pv 4))) (zG (zI zZ) zL (zC rfl)) (zC rfl))) (zQT rfl T.z_int (zg (zRg hr.units0 (zF (pv 4)) (zM1 (zF (pv 2)) zZ)) zt (zC rfl)) (zC rfl) rfl))⟩))) zBR)
    (zP (zEz (zHg (zHi (zDG hr.units0 (zF (pv 1)) zZ) (zGX (zDG hr.units0 (zF (pv 1)) zZ)))) (zP (zAz (i:=7) zu.nd rfl (zAI (zy T) (hr.mono (by omega)) rfl (zG (zI (zF (pv 0))) (zG (zI (zF (pv 2))) zL (zC rfl)) (zC rfl)) (zE (zE zJ)) (by decide) (zC rfl) (zO rfl)))
    (za (zAF (zBQ (zj (i:=4) (by decide)) (zi (sc:=zN zAQ) (N:=zAm) rfl rfl rfl (by decide +kernel) (by decide +kernel)) rfl (zAN rfl T.z_range (zG (zI (zF (pv 2))) zL (zC rfl)) (zE zJ) (zAS rfl)) ⟨fun _ _ _ _ _ => (zAD (i:=4) zu.nd rfl),fun _ _ _ _ _ => zAo,fun _ _ _ _ _ => (zBc (zD7 (zG (zI (zFZ (zBO (zF (pv 4)) (zF (pv 7))) (zF (pv 2)))) (zG (zI (zF (pv 7))) zL (zC rfl)) (zC rfl))) (zQT rfl T.z_int (zg (zRg hr.units0 (zF (pv 1)) zZ) zt (zC rfl)) (zC rfl) rfl))⟩)))) zBR)
    (zP (zAz (i:=8) zu.nd rfl (zAI (zKS T) (hr.mono (by omega)) rfl (zG (zI (zF (pv 0))) (zG (zI (zF (pv 2))) zL (zC rfl)) (zC rfl)) (zE (zE zJ)) (by decide) (zC rfl) (zO rfl)))
    (zP (zEz (zHg (zIB (zDG hr.units0 (zF (pv 1)) zZ) (zFU (zDG hr.units0 (zF (pv 3)) zZ)))) (zP (zAz (i:=9) zu.nd rfl (zBc (zF (pv 8)) (zAI (zy T) (hr.mono (by omega)) rfl (zG (zI (zF (pv 0))) (zG (zI (zF (pv 2))) zL (zC rfl)) (zC rfl)) (zE (zE zJ)) (by decide) (zC rfl) (zO rfl))))
    (za (zHQ (zF (pv 9)) (zF (pv 8)) (zAI (zy T) (hr.mono (by omega)) rfl (zG (zI (zF (pv 0))) (zG (zI (zF (pv 2))) zL (zC rfl)) (zC rfl)) (zE (zE zJ)) (by decide) (zC rfl) (zO rfl))))) zBR)
    (za (zAF (zF (pv 8)))))))))))))
abbrev zNe : List Str:=["machine", "thing"]
theorem zMD : FnScope zNe ["machine", "thing"] (zN zF4):=⟨rfl,rfl,rfl,by decide +kernel,rfl,by decide +kernel,by decide +kernel⟩
theorem zMN (T : Txt K mg) : Od P w base 4 T.d_is_word zDW:=by
  unfold zDW;exact zAH (n:=2) T.d_is_word.F zMD rfl (fun cdv A outer s H E hr => by
    unfold zGI;exact (za (zAF (zAI (zC7 T) (hr.mono (by omega)) rfl (zG (zI (zF (pv 1))) (zG (zI (zBd rfl T.z_len (zg (zBc (zF (pv 0)) zZ) zt (zC rfl)) (zC rfl) rfl)) zL (zC rfl)) (zC rfl)) (zE (zE zJ)) (by decide) (zC rfl) (zO rfl)))))
abbrev zK2 : List Str:=["machine", "thing", "one", "other"]
theorem zGV : FnScope zK2 ["machine", "thing"] (zN zFX):=⟨rfl,rfl,rfl,by decide +kernel,rfl,by decide +kernel,by decide +kernel⟩
theorem zNm (T : Txt K mg) : Od P w base 4 T.d_is_set zEb:=by
  unfold zEb;exact zAH (n:=2) T.d_is_set.F zGV rfl (fun cdv A outer s H E hr => by
    unfold zID;exact (zP (zEz (zHg (zHi (zHj (zIH (zAI (zC7 T) (hr.mono (by omega)) rfl (zG (zI (zF (pv 1))) (zG (zI (zBd rfl T.z_len (zg (zF (pv 0)) zt (zC rfl)) (zC rfl) rfl)) zL (zC rfl)) (zC rfl)) (zE (zE zJ)) (by decide) (zC rfl) (zO rfl)))) (zGX (zDG hr.units0 (zBd rfl T.z_len (zg (zF (pv 1)) zt (zC rfl)) (zC rfl) rfl) zZ)))) (za (zAF zLD)) zBR)
    (za (zAF (zPn rfl rfl T.z_all (zg (zBQ (zI9 (i:=2) (j:=3) (by decide) (by decide)) (zi (sc:=zN zFX) (N:=zK2) rfl rfl rfl (by decide +kernel) (by decide +kernel)) rfl (zTT rfl T.z_zip (zG (zI (zF (pv 1))) (zG (zI (zG8 (zF (pv 1)) (zGz zZ) zG5)) zL (zC rfl)) (zC rfl)) (zOm rfl rfl) (zAS rfl)) ⟨fun _ _ _ _ _ => (zKH rfl (zBY (zAD (i:=2) zGV.nd rfl) (zBY (zAD (i:=3) zGV.nd rfl) zG3))),fun _ _ _ _ _ => zAo,fun _ _ _ _ _ => (zVA (zF (pv 2)) (zF (pv 3)))⟩) zt (zC rfl)) (zC rfl) rfl)))))
abbrev zJN : List Str:=["machine", "room"]
theorem zHS : FnScope zJN ["machine"] (zN zEw):=⟨rfl,rfl,rfl,by decide +kernel,rfl,by decide +kernel,by decide +kernel⟩
theorem zHT (T : Txt K mg) : Od P w base 4 T.d_lengths zB1:=by
  unfold zB1;exact zAH (n:=1) T.d_lengths.F zHS rfl (fun cdv A outer s H E hr => by
    unfold zGW;exact (za (zAF (zAI (zIT T) (hr.mono (by omega)) rfl (zG (zI (zF (pv 0))) (zG (zI (zBQ (zj (i:=1) (by decide)) (zi (sc:=zN zEw) (N:=zJN) rfl rfl rfl (by decide +kernel) (by decide +kernel)) rfl (zAN rfl T.z_range (zG (zI (zBd rfl T.z_len (zg (zF (pv 0)) zt (zC rfl)) (zC rfl) rfl)) zL (zC rfl)) (zE zJ) (zAS rfl)) ⟨fun _ _ _ _ _ => (zAD (i:=1) zHS.nd rfl),fun _ _ _ _ _ => zAo,fun _ _ _ _ _ => (zFb (zG (zI (zF (pv 1))) zL (zC rfl)))⟩)) zL (zC rfl)) (zC rfl)) (zE (zE zJ)) (by decide) (zC rfl) (zO rfl)))))
abbrev zB8 : List Str:=["_law_state", "_law_rooms", "_law_letters", "_law_family", "_law_columns", "_law_letter", "_law_column_here", "_law_room"]
theorem zAv : FnScope zB8 ["_law_state", "_law_rooms", "_law_letters"] (zN zBV):=⟨rfl,rfl,rfl,by decide +kernel,rfl,by decide +kernel,by decide +kernel⟩
theorem zHe (T : Txt K mg) : Od P w base 4 T.d_law_machine zA8:=by
  unfold zA8;exact zRk (zAH (n:=3) T.d_law_machine.F zAv rfl (fun cdv A outer s H E hr => by
    unfold zDT;exact (zP (zAz (i:=3) zAv.nd rfl (zAI (zy T) (hr.mono (by omega)) rfl (zG (zI (zF (pv 0))) (zG (zI zZ) zL (zC rfl)) (zC rfl)) (zE (zE zJ)) (by decide) (zC rfl) (zO rfl)))
    (zP (zAz (i:=4) zAv.nd rfl (zBQ (zj (i:=5) (by decide)) (zi (sc:=zN zBV) (N:=zB8) rfl rfl rfl (by decide +kernel) (by decide +kernel)) rfl (zAN rfl T.z_range (zG (zI (zF (pv 2))) zL (zC rfl)) (zE zJ) (zAS rfl)) ⟨fun _ _ _ _ _ => (zAD (i:=5) zAv.nd rfl),fun _ _ _ _ _ => zAo,fun _ _ _ _ _ => (zAI (zId T) (hr.mono (by omega)) rfl (zG (zI (zF (pv 0))) (zG (zI (zF (pv 3))) (zG (zI (zF (pv 1))) (zG (zI (zF (pv 5))) zL (zC rfl)) (zC rfl)) (zC rfl)) (zC rfl)) (zE (zE (zE (zE zJ)))) (by decide) (zC rfl) (zO rfl))⟩))
    (za (zAF (zDF rfl T.z_tuple (zg (zBQ (zj (i:=7) (by decide)) (zi (sc:=zN zBV) (N:=zB8) rfl rfl rfl (by decide +kernel) (by decide +kernel)) rfl (zAN rfl T.z_range (zG (zI (zF (pv 1))) zL (zC rfl)) (zE zJ) (zAS rfl)) ⟨fun _ _ _ _ _ => (zAD (i:=7) zAv.nd rfl),fun _ _ _ _ _ => zAo,fun _ _ _ _ _ => (zDF rfl T.z_tuple (zg (zBQ (zj (i:=6) (by decide)) (zi (N:=zB8) rfl rfl rfl (by rfl) (by decide +kernel)) rfl (zBC (zF (pv 4))) ⟨fun _ _ _ _ _ => (zAD (i:=6) zAv.nd rfl),fun _ _ _ _ _ => zAo,fun _ _ _ _ _ => (zBc (zF (pv 6)) (zF (pv 7)))⟩) zt (zC rfl)) (zC rfl) rfl)⟩) zt (zC rfl)) (zC rfl) rfl)))))))
abbrev zRp : List Str:=["machine"]
theorem zPV : FnScope zRp ["machine"] (zN zKT):=⟨rfl,rfl,rfl,by decide +kernel,rfl,by decide +kernel,by decide +kernel⟩
theorem zPE (T : Txt K mg) : Od P w base 5 T.d_rungs zFW:=by
  unfold zFW;exact zAH (n:=1) T.d_rungs.F zPV rfl (fun cdv A outer s H E hr => by
    unfold zKJ;exact (za (zAF (zAI (zKl T) (hr.mono (by omega)) rfl (zG (zI (zF (pv 0))) (zG (zI (zAI (zHT T) (hr.mono (by omega)) rfl (zG (zI (zF (pv 0))) zL (zC rfl)) (zE zJ) (by decide) (zC rfl) (zO rfl))) zL (zC rfl)) (zC rfl)) (zE (zE zJ)) (by decide) (zC rfl) (zO rfl)))))
abbrev zGk : List Str:=["machine", "rooms", "found", "pair"]
theorem zDo : FnScope zGk ["machine", "rooms"] (zN zC6):=⟨rfl,rfl,rfl,by decide +kernel,rfl,by decide +kernel,by decide +kernel⟩
theorem zJ1 (T : Txt K mg) : Od P w base 5 T.d_are_apart zCI:=by
  unfold zCI;exact zDL (zAH (n:=2) T.d_are_apart.F zDo rfl (fun cdv A outer s H E hr => by
    unfold zER;exact (zP (zAz (i:=2) zDo.nd rfl (zAI (zHT T) (hr.mono (by omega)) rfl (zG (zI (zF (pv 0))) zL (zC rfl)) (zE zJ) (by decide) (zC rfl) (zO rfl)))
    (za (zAF (zPn rfl rfl T.z_all (zg (zBQ (zj (i:=3) (by decide)) (zi (sc:=zN zC6) (N:=zGk) rfl rfl rfl (by decide +kernel) (by decide +kernel)) rfl (zBC (zAI (zDD T) (hr.mono (by omega)) rfl (zG (zI (zF (pv 1))) zL (zC rfl)) (zE zJ) (by decide) (zC rfl) (zO rfl))) ⟨fun _ _ _ _ _ => (zAD (i:=3) zDo.nd rfl),fun _ _ _ _ _ => zAo,fun _ _ _ _ _ => (zPX (zBr hr) (zF (pv 3)) (zF (pv 2)))⟩) zt (zC rfl)) (zC rfl) rfl))))))
abbrev zQp : List Str:=["machine", "rooms", "ways", "here", "word", "steps", "pair", "part"]
theorem zBW : FnScope zQp ["machine", "rooms"] (zN zKB):=⟨rfl,rfl,rfl,by decide +kernel,rfl,by decide +kernel,by decide +kernel⟩
theorem zQQ (T : Txt K mg) : Od P w base 6 T.d_quick zFY:=by
  unfold zFY;exact zDL (zAH (n:=2) T.d_quick.F zBW rfl (fun cdv A outer s H E hr => by
    unfold zJu;exact (zP (zAz (i:=2) zBW.nd rfl (zAI (zPE T) (hr.mono (by omega)) rfl (zG (zI (zF (pv 0))) zL (zC rfl)) (zE zJ) (by decide) (zC rfl) (zO rfl)))
    (zP (zAz (i:=3) zBW.nd rfl (zF (pv 1)))
    (zP (zAz (i:=4) zBW.nd rfl (zFb zL))
    (zP (zAz (i:=5) zBW.nd rfl (zD7 zL))
    (zP (zAz (i:=6) zBW.nd rfl (zAI (zHW T) (hr.mono (by omega)) rfl (zG (zI (zF (pv 2))) (zG (zI (zF (pv 3))) zL (zC rfl)) (zC rfl)) (zE (zE zJ)) (by decide) (zC rfl) (zO rfl)))
    (zP (zG0 100 zWq (zNN (zF (pv 6)) zSF) (zP (zAz (i:=7) zBW.nd rfl (zAI (zMH T) (hr.mono (by omega)) rfl (zG (zI (zF (pv 0))) (zG (zI (zF (pv 2))) (zG (zI (zF (pv 6))) zL (zC rfl)) (zC rfl)) (zC rfl)) (zE (zE (zE zJ))) (by decide) (zC rfl) (zO rfl)))
    (zP (zAz (i:=3) zBW.nd rfl (zAI (zFB T) (hr.mono (by omega)) rfl (zG (zI (zF (pv 0))) (zG (zI (zF (pv 3))) (zG (zI (zF (pv 7))) zL (zC rfl)) (zC rfl)) (zC rfl)) (zE (zE (zE zJ))) (by decide) (zC rfl) (zO rfl)))
    (zP (zAz (i:=4) zBW.nd rfl (zBO (zF (pv 4)) (zF (pv 7))))
    (zP (zFN (zEU (zF (pv 5)) (zG (zI (zFb (zG (zI (zF (pv 6))) (zG (zI (zBd rfl T.z_len (zg (zF (pv 4)) zt (zC rfl)) (zC rfl) rfl)) zL (zC rfl)) (zC rfl)))) zL (zC rfl))))
    (za (zAz (i:=6) zBW.nd rfl (zAI (zHW T) (hr.mono (by omega)) rfl (zG (zI (zF (pv 2))) (zG (zI (zF (pv 3))) zL (zC rfl)) (zC rfl)) (zE (zE zJ)) (by decide) (zC rfl) (zO rfl)))))))))
    (za (zAF (zFb (zG (zI (zF (pv 4))) (zG (zI (zDF rfl T.z_tuple (zg (zF (pv 5)) zt (zC rfl)) (zC rfl) rfl)) zL (zC rfl)) (zC rfl)))))))))))))
abbrev zKK : List Str:=["machine", "told", "many", "word", "kept", "left"]
theorem zBX : FnScope zKK ["machine", "told"] (zN zDx):=⟨rfl,rfl,rfl,by decide +kernel,rfl,by decide +kernel,by decide +kernel⟩
theorem zIX (T : Txt K mg) : Od P w base 6 T.d_shows_many zBw:=by
  unfold zBw;exact zDL (zAH (n:=2) T.d_shows_many.F zBX rfl (fun cdv A outer s H E hr => by
    unfold zDt;exact (zP (zEz (zHg (zHi (zHj (zIH (zNF T.kinds (by decide) rfl T.z_isinstance rfl T.z_tuple (by rfl) (by decide) (by decide) (zF (pv 1)) (zC rfl) (zC rfl) (zO rfl)))) (zGX (zJK hr.units0 (zBd rfl T.z_len (zg (zF (pv 1)) zt (zC rfl)) (zC rfl) rfl) zZ)))) (za (zAF zLD)) zBR)
    (zP (zSG zM6 (zF (pv 1)) (zKH rfl (zBY (zAD (i:=2) zBX.nd rfl) (zBY (zAD (i:=3) zBX.nd rfl) (zBY (zAD (i:=4) zBX.nd rfl) zG3)))))
    (zP (zEz (zHg (zHi (zHj (zIH (zAI (zGg T) (hr.mono (by omega)) rfl (zG (zI (zF (pv 2))) zL (zC rfl)) (zE zJ) (by decide) (zC rfl) (zO rfl)))) (zHi (zHj (zIH (zAI (zMN T) (hr.mono (by omega)) rfl (zG (zI (zF (pv 0))) (zG (zI (zF (pv 3))) zL (zC rfl)) (zC rfl)) (zE (zE zJ)) (by decide) (zC rfl) (zO rfl)))) (zGX (zHj (zIH (zAI (zNm T) (hr.mono (by omega)) rfl (zG (zI (zF (pv 0))) (zG (zI (zF (pv 4))) zL (zC rfl)) (zC rfl)) (zE (zE zJ)) (by decide) (zC rfl) (zO rfl)))))))) (za (zAF zLD)) zBR)
    (zP (zAz (i:=5) zBX.nd rfl (zAI (zFB T) (hr.mono (by omega)) rfl (zG (zI (zF (pv 0))) (zG (zI (zAI (zCQ T) (hr.mono (by omega)) rfl (zG (zI (zF (pv 0))) zL (zC rfl)) (zE zJ) (by decide) (zC rfl) (zO rfl))) (zG (zI (zF (pv 3))) zL (zC rfl)) (zC rfl)) (zC rfl)) (zE (zE (zE zJ))) (by decide) (zC rfl) (zO rfl)))
    (za (zAF (zHV (zRg hr.units0 (zBd rfl T.z_len (zg (zF (pv 5)) zt (zC rfl)) (zC rfl) rfl) (zF (pv 2))) (zHV (zRg hr.units0 (zBd rfl T.z_len (zg (zF (pv 4)) zt (zC rfl)) (zC rfl) rfl) (zF (pv 2))) (zJr (zAI (zJ1 T) (hr.mono (by omega)) rfl (zG (zI (zF (pv 0))) (zG (zI (zF (pv 4))) zL (zC rfl)) (zC rfl)) (zE (zE zJ)) (by decide) (zC rfl) (zO rfl)))))))))))))
abbrev zKL : List Str:=["machine", "rooms", "word", "kept"]
theorem zCB : FnScope zKL ["machine"] (zN zDg):=⟨rfl,rfl,rfl,by decide +kernel,rfl,by decide +kernel,by decide +kernel⟩
theorem zIb (T : Txt K mg) : Od P w base 7 T.d_least_many zBp:=by
  unfold zBp;exact zDL (zAH (n:=1) T.d_least_many.F zCB rfl (fun cdv A outer s H E hr => by
    unfold zDs;exact (zP (zAz (i:=1) zCB.nd rfl (zAI (zCQ T) (hr.mono (by omega)) rfl (zG (zI (zF (pv 0))) zL (zC rfl)) (zE zJ) (by decide) (zC rfl) (zO rfl)))
    (zP (zAz (i:=2) zCB.nd rfl (zBc (zAI (zQQ T) (hr.mono (by omega)) rfl (zG (zI (zF (pv 0))) (zG (zI (zF (pv 1))) zL (zC rfl)) (zC rfl)) (zE (zE zJ)) (by decide) (zC rfl) (zO rfl)) zZ))
    (zP (zAz (i:=3) zCB.nd rfl (zAI (zFB T) (hr.mono (by omega)) rfl (zG (zI (zF (pv 0))) (zG (zI (zF (pv 1))) (zG (zI (zF (pv 2))) zL (zC rfl)) (zC rfl)) (zC rfl)) (zE (zE (zE zJ))) (by decide) (zC rfl) (zO rfl)))
    (za (zAF (zFb (zG (zI (zBd rfl T.z_len (zg (zF (pv 3)) zt (zC rfl)) (zC rfl) rfl)) (zG (zI (zF (pv 2))) (zG (zI (zF (pv 3))) zL (zC rfl)) (zC rfl)) (zC rfl))))))))))
abbrev zSY : List Str:=["_law_script", "_law_state", "_law_machine_here", "_law_every", "_law_many", "_law_told", "_law_kept", "_law_turn", "_law_word", "_law_k"]
theorem zDQ : FnScope zSY ["_law_script"] (zN zMt):=⟨rfl,rfl,rfl,by decide +kernel,rfl,by decide +kernel,by decide +kernel⟩
theorem zSj (T : Txt K mg) : Od P w base 8 T.d_law zGd:=by
  unfold zGd;exact zAH (n:=1) T.d_law.F zDQ rfl (fun cdv A outer s H E hr => by
    unfold zOj;exact (zP (zAz (i:=1) zDQ.nd rfl (zAI (zJ6 T) (hr.mono (by omega)) rfl (zG (zI (zF (pv 0))) zL (zC rfl)) (zE zJ) (by decide) (zC rfl) (zO rfl)))
    (zP (zAz (i:=2) zDQ.nd rfl (zAI (zHe T) (hr.mono (by omega)) rfl (zG (zI (zF (pv 1))) (zG (zI (zBO zZ (zAI (zy T) (hr.mono (by omega)) rfl (zG (zI (zF (pv 1))) (zG (zI zZ) zL (zC rfl)) (zC rfl)) (zE (zE zJ)) (by decide) (zC rfl) (zO rfl)))) (zG (zI (zBO zZ (zAI (zy T) (hr.mono (by omega)) rfl (zG (zI (zF (pv 1))) (zG (zI zZ) zL (zC rfl)) (zC rfl)) (zE (zE zJ)) (by decide) (zC rfl) (zO rfl)))) zL (zC rfl)) (zC rfl)) (zC rfl)) (zE (zE (zE zJ))) (by decide) (zC rfl) (zO rfl)))
    (zP (zAz (i:=3) zDQ.nd rfl (zQJ rfl rfl T.z_tuple rfl T.z_range (zBd rfl T.z_len (zg (zF (pv 2)) zt (zC rfl)) (zC rfl) rfl) (zC rfl) rfl (zC rfl) rfl))
    (zP (zSG zM6 (zAI (zIb T) (hr.mono (by omega)) rfl (zG (zI (zF (pv 2))) zL (zC rfl)) (zE zJ) (by decide) (zC rfl) (zO rfl)) (zKH rfl (zBY (zAD (i:=4) zDQ.nd rfl) (zBY (zAD (i:=5) zDQ.nd rfl) (zBY (zAD (i:=6) zDQ.nd rfl) zG3)))))
    (zP (zEz (zHg (zHi (zNN (zAI (zIX T) (hr.mono (by omega)) rfl (zG (zI (zF (pv 2))) (zG (zI (zFb (zG (zI (zF (pv 4))) (zG (zI (zF (pv 5))) (zG (zI (zF (pv 6))) zL (zC rfl)) (zC rfl)) (zC rfl)))) zL (zC rfl)) (zC rfl)) (zE (zE zJ)) (by decide) (zC rfl) (zO rfl)) zLD) (zGX (zJK hr.units0 (zBd rfl T.z_len (zg (zAI (zBu T) (hr.mono (by omega)) rfl (zG (zI (zF (pv 2))) (zG (zI (zF (pv 3))) (zG (zI (zF (pv 5))) zL (zC rfl)) (zC rfl)) (zC rfl)) (zE (zE (zE zJ))) (by decide) (zC rfl) (zO rfl)) zt (zC rfl)) (zC rfl) rfl) (zF (pv 4)))))) (za (zAF zLD)) zBR)
    (zP (zFV zBn zWq rfl (zAN rfl T.z_range (zG (zI (zBO zZ (zBd rfl T.z_len (zg (zG8 (zF (pv 0)) zG5 (zGz zZ)) zt (zC rfl)) (zC rfl) rfl))) zL (zC rfl)) (zE zJ) (zAS rfl)) (zAD (i:=7) zDQ.nd rfl) (zP (zAz (i:=8) zDQ.nd rfl (zDF rfl T.z_tuple (zg (zBQ (zj (i:=9) (by decide)) (zi (sc:=zN zMt) (N:=zSY) rfl rfl rfl (by decide +kernel) (by decide +kernel)) rfl (zAN rfl T.z_range (zG (zI (zAI (zy T) (hr.mono (by omega)) rfl (zG (zI (zF (pv 1))) (zG (zI zZ) zL (zC rfl)) (zC rfl)) (zE (zE zJ)) (by decide) (zC rfl) (zO rfl))) zL (zC rfl)) (zE zJ) (zAS rfl)) ⟨fun _ _ _ _ _ => (zAD (i:=9) zDQ.nd rfl),fun _ _ _ _ _ => zAo,fun _ _ _ _ _ => (zAI (zy T) (hr.mono (by omega)) rfl (zG (zI (zF (pv 1))) (zG (zI (zBd rfl T.z_len (zg (zBc (zF (pv 2)) zZ) zt (zC rfl)) (zC rfl) rfl)) zL (zC rfl)) (zC rfl)) (zE (zE zJ)) (by decide) (zC rfl) (zO rfl))⟩) zt (zC rfl)) (zC rfl) rfl))
    (zP (zEz (zHg (zHi (zSI (zBd rfl T.z_len (zg (zAI (zBu T) (hr.mono (by omega)) rfl (zG (zI (zF (pv 2))) (zG (zI (zF (pv 3))) (zG (zI (zF (pv 8))) zL (zC rfl)) (zC rfl)) (zC rfl)) (zE (zE (zE zJ))) (by decide) (zC rfl) (zO rfl)) zt (zC rfl)) (zC rfl) rfl) (zF (pv 4))) (zGX (zJK hr.units0 (zBd rfl T.z_len (zg (zAI (zBu T) (hr.mono (by omega)) rfl (zG (zI (zF (pv 2))) (zG (zI (zF (pv 6))) (zG (zI (zF (pv 8))) zL (zC rfl)) (zC rfl)) (zC rfl)) (zE (zE (zE zJ))) (by decide) (zC rfl) (zO rfl)) zt (zC rfl)) (zC rfl) rfl) (zF (pv 4)))))) (za (zAF zLD)) zBR)
    (za (zEz (zHg (zIB (zDG hr.units0 (zAI (zy T) (hr.mono (by omega)) rfl (zG (zI (zF (pv 1))) (zG (zI zZ) zL (zC rfl)) (zC rfl)) (zE (zE zJ)) (by decide) (zC rfl) (zO rfl)) zZ) (zFU (zJK hr.units0 (zBd rfl T.z_len (zg (zAI (zBu T) (hr.mono (by omega)) rfl (zG (zI (zF (pv 2))) (zG (zI (zF (pv 3))) (zG (zI (zBO (zF (pv 8)) (zF (pv 5)))) zL (zC rfl)) (zC rfl)) (zC rfl)) (zE (zE (zE zJ))) (by decide) (zC rfl) (zO rfl)) zt (zC rfl)) (zC rfl) rfl) (zF (pv 4)))))) (za (zAF zLD)) zBR)))))
    (za (zAF zLD)))))))))
end
theorem zSg {l : PySem.W.OpenLaw} {w : World} {K : PySem.W.Frag} {h : Heap} {mg : Str -> Option Value} {fa : Addr} (X : K.In h) (G : h.Ns mainGlobals mg) (hfa : mg "law" = some (.ref fa))
    (g1 : Dg K "is_whole" zFA) (g2 : Dg K "is_below" zFO) (g3 : Dg K "is_tuple_below" zBK) (g4 : Dg K "is_word" zF4) (g5 : Dg K "is_set" zFX) (g6 : Dg K "all_rooms" zEQ) (g7 : Dg K "stepped" zEk) (g8 : Dg K "walked" zHR) (g9 : Dg K "brought" zGS) (g10 : Dg K "pairs_of" zDw) (g11 : Dg K "ways_back" zEg) (g12 : Dg K "lengths_to" zCZ) (g13 : Dg K "lengths" zEw) (g14 : Dg K "first_letter" zBI) (g15 : Dg K "rungs_to" zCp) (g16 : Dg K "rungs" zKT) (g17 : Dg K "climbed" zGF) (g18 : Dg K "nearest" zEq) (g19 : Dg K "quick" zKB) (g20 : Dg K "least_many" zDg) (g21 : Dg K "are_apart" zC6) (g22 : Dg K "shows_many" zDx) (g23 : Dg K "_law_begin" zDK) (g24 : Dg K "_law_next" zFJ) (g25 : Dg K "_law_order" zEG) (g26 : Dg K "_law_column" zAQ) (g27 : Dg K "_law_machine" zBV) (g28 : Dg K "_law_brought" zCF) (g29 : Dg K "law" zMt) (z1 : Zn K "isinstance") (z2 : Zn K "int") (z3 : Zn K "bool") (z4 : Zn K "tuple") (z5 : Zn K "all") (z6 : Zn K "len") (z7 : Zn K "zip") (z8 : Zn K "range") (z9 : Zn K "sorted") (z10 : Zn K "min") (z11 : Zn K "enumerate") (z12 : Zn K "abs") (z13 : Zn K "list") (z14 : Zn K "set") (y1 : Ki K "NoneType" "int" false) (y2 : Ki K "NoneType" "bool" false) (y3 : Ki K "NoneType" "str" false) (y4 : Ki K "NoneType" "tuple" false) (y5 : Ki K "bool" "int" true) (y6 : Ki K "bool" "bool" true) (y7 : Ki K "bool" "str" false) (y8 : Ki K "bool" "tuple" false) (y9 : Ki K "int" "int" true) (y10 : Ki K "int" "bool" false) (y11 : Ki K "int" "str" false) (y12 : Ki K "int" "tuple" false) (y13 : Ki K "str" "int" false) (y14 : Ki K "str" "bool" false) (y15 : Ki K "str" "str" true) (y16 : Ki K "str" "tuple" false) (y17 : Ki K "list" "int" false) (y18 : Ki K "list" "bool" false) (y19 : Ki K "list" "str" false) (y20 : Ki K "list" "tuple" false) (y21 : Ki K "tuple" "int" false) (y22 : Ki K "tuple" "bool" false) (y23 : Ki K "tuple" "str" false) (y24 : Ki K "tuple" "tuple" true) (y25 : Ki K "dict" "int" false) (y26 : Ki K "dict" "bool" false) (y27 : Ki K "dict" "str" false) (y28 : Ki K "dict" "tuple" false) :
    ∃ fd : FuncData,(∀ (s : Shared) (v : Value),BindsTo s fd ⟨[v],[]⟩ [("_law_script", v)]) /\ ∀ base : Heap,K.In base -> base.Ns mainGlobals mg -> FnOk l.prog w K mg base CX0 8 fa fd ["_law_script"] (spF K 1 zGd):=by
  have e:=hfa.symm.trans (PySem.W.mg_of X G g29.a);cases e;have kinds : Kinds K:=⟨by
    intro t T ht hT;simp only [zVZ,zVs,zWi] at ht hT;rcases ht with rfl | rfl | rfl | rfl | rfl | rfl | rfl <;> rcases hT with rfl | rfl | rfl | rfl <;> assumption⟩
  let T : Txt K mg:=⟨g1.df X G fun _ _ _ _ _ _ => zJm fun _ => rfl,g2.df X G fun _ _ _ _ _ _ => zGt fun _ _ => rfl,g3.df X G fun _ _ _ _ _ _ => zGt fun _ _ => rfl,g4.df X G fun _ _ _ _ _ _ => zGt fun _ _ => rfl,g5.df X G fun _ _ _ _ _ _ => zGt fun _ _ => rfl,g6.df X G fun _ _ _ _ _ _ => zJm fun _ => rfl,g7.df X G fun _ _ _ _ _ _ => zME fun _ _ _ => rfl,g8.df X G fun _ _ _ _ _ _ => zME fun _ _ _ => rfl,g9.df X G fun _ _ _ _ _ _ => zME fun _ _ _ => rfl,g10.df X G fun _ _ _ _ _ _ => zJm fun _ => rfl,g11.df X G fun _ _ _ _ _ _ => zJm fun _ => rfl,g12.df X G fun _ _ _ _ _ _ => zGt fun _ _ => rfl,g13.df X G fun _ _ _ _ _ _ => zJm fun _ => rfl,g14.df X G fun _ _ _ _ _ _ => zME fun _ _ _ => rfl,g15.df X G fun _ _ _ _ _ _ => zGt fun _ _ => rfl,g16.df X G fun _ _ _ _ _ _ => zJm fun _ => rfl,g17.df X G fun _ _ _ _ _ _ => zME fun _ _ _ => rfl,g18.df X G fun _ _ _ _ _ _ => zGt fun _ _ => rfl,g19.df X G fun _ _ _ _ _ _ => zGt fun _ _ => rfl,g20.df X G fun _ _ _ _ _ _ => zJm fun _ => rfl,g21.df X G fun _ _ _ _ _ _ => zGt fun _ _ => rfl,g22.df X G fun _ _ _ _ _ _ => zGt fun _ _ => rfl,g23.df X G fun _ _ _ _ _ _ => zJm fun _ => rfl,g24.df X G fun _ _ _ _ _ _ => zGt fun _ _ => rfl,g25.df X G fun _ _ _ _ _ _ => zGt fun _ _ => rfl,g26.df X G fun _ _ _ _ _ _ => zU5 fun _ _ _ _ => rfl,g27.df X G fun _ _ _ _ _ _ => zME fun _ _ _ => rfl,g28.df X G fun _ _ _ _ _ _ => zME fun _ _ _ => rfl,g29.df X G fun _ _ _ _ _ _ => zJm fun _ => rfl,zWM X G z1,zWM X G z2,zWM X G z3,zWM X G z4,zWM X G z5,zWM X G z6,zWM X G z7,zWM X G z8,zWM X G z9,zWM X G z10,zWM X G z11,zWM X G z12,zWM X G z13,zWM X G z14,kinds⟩;refine ⟨T.d_law.fd,fun s v => .of_eq rfl,fun base _ _ => ?_⟩;exact zSj (P:=l.prog) (w:=w) (base:=base) T
theorem zUv {l : PySem.W.OpenLaw} {q : Program} {loose : List Str} {XP : (Str -> Option Value) -> Heap -> Prop} {YP : World -> Heap -> Prop} {d : DefRec} {K : Params -> PySem.W.Frag} (hn : l.most = some 63) (hdf : d.params.defaults = [])
    (hY : ∀ (w : World) (h : Heap),YP w h -> (K w.params).In h) (hL : ∀ w : World,zJj (K w.params) = true)
    (F : ∀ (w : World) (mg : Str -> Option Value) (fa : Addr) (h : Heap),(K w.params).In h -> h.Ns mainGlobals mg -> mg d.name = some (.ref fa) ->
      ∃ fd : FuncData,(∀ (s : Shared) (u : Value),BindsTo s fd ⟨[u],[]⟩ [("_law_script", u)]) /\ ∀ base : Heap,(K w.params).In base -> base.Ns mainGlobals mg -> FnOk l.prog w (K w.params) mg base CX0 8 fa fd ["_law_script"] (spF (K w.params) 1 zGd)) :
    PySem.W.WalkO q loose XP YP l.row.toRowW d [] (fun f vs => PySem.call f vs) :=
  L2.zR2 (n:=63) (k:=8) (x := "_law_script") (CX:=fun _ => CX0) (sp:=fun w => spF (K w.params) 1 zGd) hn (by decide) hdf ⟨rfl,by decide,by decide⟩ hY F
    (fun w H a ns hl hO hS => zN3 (hL w) hO hS (zOw ns hl)) fun _ _ _ _ _ z => z
end Lac
open PySem PySem.W PyProof.Rows
set_option maxRecDepth 100000 in
set_option maxHeartbeats 0 in
theorem PySem.Challenge.cw_bringhome_k32_whole_no_word_leaves_fewer_holds : PySem.Challenge.rw_bringhome_k32_whole_no_word_leaves_fewer.Holds := by
  w_on; o_law; k_head; (case hw => w_witness2);k_fill;refine Lac.zUv (l:=PySem.Challenge.rw_bringhome_k32_whole_no_word_leaves_fewer) rfl rfl (fun w h Y => PySem.W.kIn_of Y) (fun w => by rfl) ?F
  case F =>
    intro w mg fa h KX G hmg;refine' Lac.zSg KX G hmg ?_ ?_ ?_ ?_ ?_ ?_ ?_ ?_ ?_ ?_ ?_ ?_ ?_ ?_ ?_ ?_ ?_ ?_ ?_ ?_ ?_ ?_ ?_ ?_ ?_ ?_ ?_ ?_ ?_ ?_ ?_ ?_ ?_ ?_ ?_ ?_ ?_ ?_ ?_ ?_ ?_ ?_ ?_ ?_ ?_ ?_ ?_ ?_ ?_ ?_ ?_ ?_ ?_ ?_ ?_ ?_ ?_ ?_ ?_ ?_ ?_ ?_ ?_ ?_ ?_ ?_ ?_ ?_ ?_ ?_ ?_;all_goals first | exact ⟨_,by k_is,by k_is,by k_is,by k_is⟩ | (unfold L3.Zn; k_is) | (unfold L3.Ki; kit_is) | k_is
