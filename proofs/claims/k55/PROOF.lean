import PyProof.Rows.All
import Wide.All
import OpenK.AllK
import Wide.FinOn
import PyProof.EqAt
import PyProof.EqKinds
import PyProof.TupleCall
import PyProof.NeData
import PyProof.ReprRoads
import PyProof.MeetsStr2
import PyProof.DictCompW
import PySem.Challenge.RW_handedon_k55_guards_lead
def PySem.W.Fast.tw5023557658484636100 := 0
def PySem.W.Fast.tw5312753031797942010 := 0
def PySem.W.Fast.tw11572089354030719081 := 0
def PySem.W.Fast.tw2974506928669303860 := 0
def PySem.W.Fast.tw835165273055234792 := 0
def PySem.W.Fast.tw4656458770760466880 := 0
def PySem.W.Fast.tw9915750081890372126 := 0
def PySem.W.Fast.tw18047001262267755863 := 0
def PySem.W.Fast.tw13868760759108733874 := 0
def PySem.W.Fast.tw17443881200510298847 := 0
def PySem.W.Fast.tw5979044252203456453 := 0
def PySem.W.Fast.tw10279212145136549771 := 0
def PySem.W.Fast.tw5693992895248727239 := 0
def PySem.W.Fast.tw7938038486962344965 := 0
def PySem.W.Fast.tw14207054919884659390 := 0
def PySem.W.Fast.tw6902497031489615519 := 0
def PySem.W.Fast.tw7771857609857195769 := 0
def PySem.W.Fast.tw6577095127741812439 := 0
def PySem.W.Fast.tw8060673180592178731 := 0
def PySem.W.Fast.tw5071741821196629458 := 0
def PySem.W.Fast.tw9769050296166060212 := 0
def PySem.W.Fast.tw8633643908122372359 := 0
def PySem.W.Fast.tw5564445241045081936 := 0
def PySem.W.Fast.tw11967680584007495978 := 0
def PySem.W.Fast.tw2762775541680142586 := 0
def PySem.W.Fast.tw8988160965583124761 := 0
def PySem.W.Fast.tw3356918848099938225 := 0
def PySem.W.Fast.tw17983072887155338080 := 0
def PySem.W.Fast.tw9069574826998416294 := 0
def PySem.W.Fast.tw2905700638810470879 := 0
def PySem.W.Fast.tw9096941837622844921 := 0
def PySem.W.Fast.tw10202176635054283527 := 0
def PySem.W.Fast.tw17818164039686951630 := 0
def PySem.W.Fast.tw2826223141011657141 := 0
def PySem.W.Fast.tw17128815196024902515 := 0
def PySem.W.Fast.tw15214662351849070137 := 0
def PySem.W.Fast.tw10458445757421916958 := 0
def PySem.W.Fast.tw11867218369942765208 := 0
def PySem.W.Fast.tw233190684456502084 := 0
def PySem.W.Fast.tw6293830841068329858 := 0
def PySem.W.Fast.tw380932519000753567 := 0
def PySem.W.Fast.tw10938264254974531615 := 0
def PySem.W.Fast.tw10396838626900407331 := 0
def PySem.W.Fast.tw10379058507260852413 := 0
def PySem.W.Fast.tw16000443999247606575 := 0
def PySem.W.Fast.tw10178557353245241144 := 0
def PySem.W.Fast.tw17647051082097700319 := 0
def PySem.W.Fast.tw526117221722680601 := 0
def PySem.W.Fast.tw15253044109010521680 := 0
def PySem.W.Fast.tw4500169694857407685 := 0
def PySem.W.Fast.tw9649695156531269732 := 0
def PySem.W.Fast.tw17474024072111164470 := 0
def PySem.W.Fast.tw5497278933501091471 := 0
def PySem.W.Fast.tw1626819082402724814 := 0
def PySem.W.Fast.tw17325425436210773041 := 0
def PySem.W.Fast.tw9297705954771746464 := 0
def PySem.W.Fast.tw7484785147258298497 := 0
def PySem.W.Fast.tw17673564701372014191 := 0
def PySem.W.Fast.tw449275447257194910 := 0
def PySem.W.Fast.tw11373652153831544652 := 0
def PySem.W.Fast.tw556617766179850918 := 0
def PySem.W.Fast.tw15917019426784528128 := 0
def PySem.W.Fast.tw664658802291187060 := 0
def PySem.W.Fast.tw881205049148902006 := 0
def PySem.W.Fast.tw12308353925375561388 := 0
def PySem.W.Fast.tw6463669751935733960 := 0
def PySem.W.Fast.tw14880507445564283644 := 0
def PySem.W.Fast.tw5592330686016625251 := 0
def PySem.W.Fast.tw4788686201368136294 := 0
def PySem.W.Fast.tw5770683885198440944 := 0
def PySem.W.Fast.tw5295626197264883660 := 0
def PySem.W.Fast.tw14410264059441346913 := 0
def PySem.W.Fast.tw14542648504298066895 := 0
def PySem.W.Fast.tw10839027698590416219 := 0
def PySem.W.Fast.tw12828178353039072969 := 0
def PySem.W.Fast.tw6236239617946604666 := 0
def PySem.W.Fast.tw14121773572142175795 := 0
def PySem.W.Fast.tw9613157981912265624 := 0
def PySem.W.Fast.tw10868010771704813335 := 0
def PySem.W.Fast.tw17263508055129942745 := 0
def PySem.W.Fast.tw4567567023413427381 := 0
def PySem.W.Fast.tw13196703823490329362 := 0
def PySem.W.Fast.tw3135950240216265274 := 0
def PySem.W.Fast.tw15046760096291056194 := 0
def PySem.W.Fast.tw10873014677813265832 := 0
def PySem.W.Fast.tw14284942809736530998 := 0
def PySem.W.Fast.tw16502595241723329696 := 0
def PySem.W.Fast.tw2947582169534453779 := 0
def PySem.W.Fast.tw9046304256858582425 := 0
def PySem.W.Fast.tw1874235929480695024 := 0
def PySem.W.Fast.tw6745777305251383235 := 0
def PySem.W.Fast.tw14530091069035261009 := 0
def PySem.W.Fast.tw17076899523091935404 := 0
def PySem.W.Fast.tw14410627735760933071 := 0
def PySem.W.Fast.tw12087629799561604030 := 0
def PySem.W.Fast.tw2042324936839901984 := 0
def PySem.W.Fast.tw2740910764712749908 := 0
def PySem.W.Fast.tw11693191861797909166 := 0
def PySem.W.Fast.tw6995443649374424858 := 0
def PySem.W.Fast.tw9370117259865174593 := 0
def PySem.W.Fast.tw14542568218193391519 := 0
def PySem.W.Fast.tw17835869912584608424 := 0
def PySem.W.Fast.tw6387088629838554457 := 0
def PySem.W.Fast.tw17909321299961870920 := 0
def PySem.W.Fast.tw1699152815732470523 := 0
def PySem.W.Fast.tw10441319504293188061 := 0
def PySem.W.Fast.tw18168010667372959781 := 0
def PySem.W.Fast.tw5184156233407564857 := 0
def PySem.W.Fast.tw7877400504237196421 := 0
def PySem.W.Fast.tw9034257934624693185 := 0
def PySem.W.Fast.tw2693745535667100677 := 0
def PySem.W.Fast.tw16191344539736293880 := 0
def PySem.W.Fast.tw9795222986310619804 := 0
def PySem.W.Fast.tw17254639940351440127 := 0
def PySem.W.Fast.tw12799305126513529189 := 0
def PySem.W.Fast.tw15204925427826974599 := 0
def PySem.W.Fast.tw15067235372394355578 := 0
def PySem.W.Fast.tw5881138256699335551 := 0
def PySem.W.Fast.tw12168869506241064917 := 0
def PySem.W.Fast.tw894150731923220536 := 0
def PySem.W.Fast.tw15236040712020040298 := 0
def PySem.W.Fast.tw12127177213503135767 := 0
def PySem.W.Fast.tw3001073823651980628 := 0
def PySem.W.Fast.tw17036271454745539291 := 0
def PySem.W.Fast.tw13689915761888396222 := 0
def PySem.W.Fast.tw266752354267362982 := 0
def PySem.W.Fast.tw4042702978029706387 := 0
def PySem.W.Fast.tw2936072637830123771 := 0
def PySem.W.Fast.tw732178786861307377 := 0
def PySem.W.Fast.tw3898946626691803805 := 0
def PySem.W.Fast.tw6897938750169469658 := 0
def PySem.W.Fast.tw4442926660369608242 := 0
def PySem.W.Fast.tw8281000730390306372 := 0
def PySem.W.Fast.tw8858630354257535736 := 0
def PySem.W.Fast.tw7761622545769503417 := 0
def PySem.W.Fast.tw7700523475218102867 := 0
open List renaming length_map->BU2,length_append->BU7,length_cons->BU8,mem_of_getElem?->BV2,getElem?_eq_getElem->BV4,mem_cons_of_mem->BV5,getElem?_map->BV6,mem_cons_self->BV7,lookup->BW0,size_toArray->BW3,findSome?_cons->BW5,getElem?_append_left->BW7,range->BW8,mem_append_right->BW9,map_append->BX0,map_cons->BX1,replicate->BX2,length_nil->BX3,append_assoc->BX5,not_mem_nil->BX6,getElem?_append_right->BY0,length_take->BY1,eq_nil_of_length_eq_zero->BY4,drop->BY9,any_cons->BZ0,mem_cons->BZ3,getElem?_take_of_lt->BZ6,getElem?_cons_succ->BZ8,getElem?_range->CA2,take->CA6,getElem?_drop->CA7,getD->CA8,append_nil->CA9,flatMap_cons->CB4,length->CB7,flatMap->CB9,getElem_mem->CC5,map_map->CC6,getElem?_of_mem->CC8,getElem?_replicate->CD2,flatMap_append->CD3,length_drop->CD5,all_eq_true->CD6,take_succ->CD9,length_replicate->CE6,find?_cons->CE7,mem_of_find?_eq_some->CF4,take_length->CF7,length_reverse->CF9,length_range->CG3,take_append_drop->CH0,map_nil->CH1,mem_append_left->CH3,filterMap_cons->CH7,getD_eq_getElem?_getD->CI0,reverse_cons->CJ0,getElem?_cons_zero->CJ3,drop_length->CJ5,length_filter_le->CJ9
open PySem renaming wpAny_bind->BU3,wpAny_pure->BV0,Shared->BV1,sizeLine->BV8,sizeLine_eq->BW2,starEach->BX4,mem_of_lookup->BX8,mainGlobals->BY2,wpAny_newObj_type->BY5,compareOp->BY6,Program->BY7,bootBuiltins->BZ4,Spec->BZ7,assignEach->BZ9,wpAny_holding->CA4,wpAny_mono->CA5,wpAny_truthy_bool->CB5,sysModules->CC2,Value->CC9,Around->CE0,wpAny_callSpecial?_slot->CE1,binaryOp->CE2,wpAny_passesOwn->CF1,wpAny_field->CF2,foldedSetIterable->CF5,NameKind->CF6,wpAny_specialOf->CG4,wpAny_Call_Name_kw->CG5,letOwnedTupleGo->CG6,Str->CG7,sliceBounds->CH2,Addr->CH4,wpAny_call_entry->CH8,wpAny_standAt->CI1,FuncData->CI3,backTo->CI6,Expr->CI8,wpAny_pyIter_tuple->CJ2,getItem->CJ4,wpAny_pyIter_enum->CJ7,swapsWith->CJ8
open Nat renaming le_refl->BU4,zero_add->BW6,ne_of_lt->BX7,lt_of_lt_of_le->BX9,le_trans->CA0,add_assoc->CA1,add_comm->CB1,add_left_comm->CC0,lt_or_ge->CD1,zero_le->CD4,lt_irrefl->CF0,le_add_right->CF8,eq_zero_or_pos->CG0
open PySem.W renaming Frag->BU5,keepIn->CB3,fnOf->CB8,nsIn->CC3,mg_none_of->CC4,codeIn->CG1
open PySem.Heap renaming get?_push_of_some->BU6,lt_size->BW1,get?_push_size->BW4,SameBut->CD0,get?_update_other->CG2
open Bool renaming false_ne_true->BU9,and_eq_true->BV3,not_eq_true'->CA3,or_eq_false_iff->CB0,false_eq_true->CE3,eq_iff_iff->CE8,not_true->CH5,false_xor->CI4
open PySem.Builtin.Range renaming rangeSize->BV9,small->CE5
open PySem.Builtin.Tuple renaming tupleHashOf->BY3,tupleExact->BZ2,tupleItemsOf->CD8
open PySem.Builtin.Slice renaming slicePlaces->BY8,sliceAdjust->CC1
open PySem.PyData renaming keyHash->BZ1,eqv->CB2,eqvAll->CI9
open PyProof.Rows renaming slot_tuple_getitem->BZ5,callWith_type1->CB6,slot_tupleiter_next->CI5
open Int renaming emod_lt_of_pos->CC7,emod_nonneg->CE9
open PySem.Builtin renaming divisionGoesByPylong->CD7
open Option renaming map_some->CE4,getD_some->CF3
open PySem.Heap.IsSliceOf renaming new->CG8
open PySem.Builtin.Int renaming intBits->CG9
open Array renaming length_toList->CH6
open PySem.Builtin.Str renaming occurrences->CH9
open PySem.F renaming args_tuple_add_2->CI2,entry_tuple_add->CI7,slot_tuple_add->CJ1
open PySem.Calls renaming callWith_builtin->CJ6
open PySem.Builtin.SmallTypes renaming nextOf->CK0
set_option Elab.async false
set_option linter.all false
set_option maxRecDepth 100000
variable {us:List CC9}{u:CC9}{α:Type}{P:PySem.Program}{w:PySem.World}{h:PySem.Heap}{o:PySem.Obj}{t':Nat}{it:CH4}{x:CG7}{N:List CG7}{i:Nat}{j:Nat}{A:PySem.Around}{Q:CC9->PySem.Shared->Prop}{s':PySem.Shared}{s:PySem.Shared}{pos:PySem.Pos}{pins:List (CH4×PySem.Obj)}{e:CI8}{es:List CI8}{tg:CI8}{body:List PySem.Stmt}{K:BU5}{l:CI8}{p:List Int}{fp:List CH4}{iter:CI8}{C:Int->Int->Prop}{fd:PySem.FuncData}{ps:List CG7}{mg:CG7->Option CC9}{qual:CG7}{scope:PySem.Scope}{doc:CC9}{cdv:CC9}{oc:CC9}{an:Option CH4}{od:Option CH4}{osl:Array (Option CC9)}{sl:CH4}{lo:Option Int}{hi:Option Int}{t:CH4}{items:Array CC9}{its:List CC9}{loose:List CG7}{st:PySem.Stmt}{h':PySem.Heap}{prog:PySem.Program}{env:PySem.Env}{op:PySem.CmpOp}{ifs:List CI8}{is:List Nat}{ys:List CG7}{elts:List CI8}{ks:List Int}{q:List Int}{cs:List (CG7×CG7)}{caps:List CG7}{gens:List PySem.Comprehension}{ah:List Int}
namespace L2
open PySem PySem.Spec PyProof.Rows
abbrev Key:=Sum Int Str
def EM:Key->Value->Bool
 | .inl k,v=>Value.isInt k v
 | .inr x,v=>Value.isStrOf x v
def AQ1 (w:World):Key->Int
 | .inl k=>hashInt k
 | .inr x=>hashStr w x
theorem E8:∀{k:Key} {v:Value},EM k v=true->(∃i t,k=Sum.inl i/\v=Value.int i t)\/(∃x t,k=Sum.inr x/\v=Value.str x t)
 | .inl i,v,h=>by
  obtain⟨t,e⟩:=Value.isInt_shape (k:=i) (v:=v) h
  exact .inl ⟨i,t,rfl,e⟩
 | .inr x,v,h=>by
  obtain⟨t,e⟩:=Value.isStrOf_shape (x:=x) (v:=v) h
  exact .inr ⟨x,t,rfl,e⟩
theorem YK (i:Int)(t:Tok):EM (.inl i) (.int i t)=true:=by simp[EM,Value.isInt]
theorem YL (x:Str)(t:Tok):EM (.inr x) (.str x t)=true:=by simp[EM,Value.isStrOf]
theorem BE7 (a b:Int):decide ((Sum.inl a:Key)=Sum.inl b)=(a==b):=by
 by_cases e:a=b
 ·subst e;simp
 ·have h:¬(Sum.inl a:Key)=Sum.inl b:=fun q=>e (Sum.inl.inj q)
  rw[decide_eq_false h]
  exact(beq_eq_false_iff_ne.mpr e).symm
theorem BE8 (a b:Str):decide ((Sum.inr a:Key)=Sum.inr b)=decide (a=b):=by
 by_cases e:a=b
 ·simp
 ·have h:¬(Sum.inr a:Key)=Sum.inr b:=fun q=>e (Sum.inr.inj q)
  rw[decide_eq_false h,decide_eq_false e]
def E3 (prog:BY7)(w:World):PySem.KeyKind prog w Key where
 is:=EM
 hash:=AQ1 w
 inj:=fun v a b ha hb=>by
  rcases E8 ha with⟨i,t,rfl,rfl⟩|⟨x,t,rfl,rfl⟩
  ·rcases E8 hb with⟨j,u,rfl,e⟩|⟨y,u,rfl,e⟩
   ·injection e with e1 _;rw[e1]
   ·exact nomatch e
  ·rcases E8 hb with⟨j,u,rfl,e⟩|⟨y,u,rfl,e⟩
   ·exact nomatch e
   ·injection e with e1 _;rw[e1]
 byValue:=fun k v h=>by
  rcases E8 h with⟨i,t,rfl,rfl⟩|⟨x,t,rfl,rfl⟩<;>rfl
 pyHash:=fun hv h=>by
  rcases E8 hv with⟨i,t,rfl,rfl⟩|⟨x,t,rfl,rfl⟩
  ·exact wpAny_pyHash_int h
  ·exact wpAny_pyHash_str h
 eqBool:=fun hu hv h=>by
  rcases E8 hu with⟨i,t,rfl,rfl⟩|⟨x,t,rfl,rfl⟩
  ·rcases E8 hv with⟨j,u,rfl,rfl⟩|⟨y,u,rfl,rfl⟩
   ·rw[BE7] at h;exact wpAny_eqBool_int h
   ·exact SeqAt.EqAt.int_str i t y u _ _ _ _ h
  ·rcases E8 hv with⟨j,u,rfl,rfl⟩|⟨y,u,rfl,rfl⟩
   ·exact SeqAt.EqAt.str_int x t j u _ _ _ _ h
   ·rw[BE8] at h;exact wpAny_eqBool_str h
 «strs»:=fun k x t v h=>by
  rcases E8 h with⟨i,u,rfl,e⟩|⟨y,u,rfl,e⟩
  ·exact nomatch e
  ·injection e with e1 _
   subst e1
   cases v<;>rfl
theorem QS (prog:BY7)(w:World)(i:Int)(t:Tok):(E3 prog w).is (.inl i) (.int i t)=true:=YK i t
theorem P2 (prog:BY7)(w:World)(x:Str)(t:Tok):(E3 prog w).is (.inr x) (.str x t)=true:=YL x t
inductive V where
 | non|bl (b:Bool)|int (i:Int)|str (x:Str)|byt (b:Array UInt8)|flt (b:UInt64)|ref (a:Addr)|ty (n:String)
 deriving DecidableEq
def RelV:V->Value->Prop
 | .non,u=>u=Value.none
 | .bl b,u=>u=Value.bool b
 | .int i,u=>∃t,u=Value.int i t
 | .str x,u=>∃t,u=Value.str x t
 | .byt b,u=>∃t,u=Value.bytes b t
 | .flt b,u=>∃t,u=Value.float b t
 | .ref a,u=>u=Value.ref a
 | .ty n,u=>u=Value.type n
abbrev Vals:List V->List Value->Prop:=Paired RelV
theorem Vals.length {xs:List V}(r:Vals xs us):xs.length=us.length:=Paired.length r
theorem Vals.get:∀{xs:List V} {us:List Value} {i:Nat} {x:V},Vals xs us->xs[i]?=some x->∃u,us[i]?=some u/\RelV x u
 | _,_,_,_,.nil,e=>by simp at e
 | _,_,0,_,.cons r _,e=>by simp at e;subst e;exact⟨_,rfl,r⟩
 | _,_,i+1,x,.cons _ t,e=>by
  obtain⟨u,a,b⟩:=Vals.get (i:=i) (x:=x) t (by simpa using e)
  exact⟨u,by simpa using a,b⟩
theorem Vals.set {x:V}(r:RelV x u):∀{xs:List V} {us:List Value} (i:Nat),Vals xs us->Vals (xs.set i x) (us.set i u)
 | _,_,_,.nil=>.nil
 | _,_,0,.cons _ t=>.cons r t
 | _,_,i+1,.cons q t=>.cons q (Vals.set r i t)
theorem Vals.append:∀{xs ys:List V} {us a:List Value},Vals xs us->Vals ys a->Vals (xs++ys) (us++a)
 | _,_,_,_,.nil,s=>s
 | _,_,_,_,.cons r t,s=>.cons r (Vals.append t s)
theorem Vals.take:∀{xs:List V} {us:List Value} (n:Nat),Vals xs us->Vals (xs.take n) (us.take n)
 | _,_,0,_=>.nil
 | _,_,_+1,.nil=>.nil
 | _,_,n+1,.cons r t=>.cons r (Vals.take n t)
theorem Vals.drop:∀{xs:List V} {us:List Value} (n:Nat),Vals xs us->Vals (xs.drop n) (us.drop n)
 | _,_,0,r=>r
 | _,_,_+1,.nil=>.nil
 | _,_,n+1,.cons _ t=>Vals.drop n t
def RelO:Option V->Option Value->Prop
 | some v,some u=>RelV v u
 | none,none=>True
 | _,_=>False
def KV {κ:Type}:List (κ×V)->List (κ×Value)->Prop:=Paired fun(p:κ×V) (q:κ×Value)=>p.1=q.1/\RelV p.2 q.2
def kV:Key->V
 | .inl i=>.int i
 | .inr x=>.str x
inductive HO where
 | lst (xs:List V)
 | tup (xs:List V)
 | dK (kvs:List (Key×V))|dT (kvs:List (List Key×V))
 | set (S:Int->Bool) (n:Nat)
 | ins (C dx:Addr) (fs:List (Str×V))
 | own (x:Addr)
 | xd (fs:List (Str×V))
 | met (f x:Addr)
 | rng (lo hi:Int)
 | frz (o:Obj) (u:HO)
 | tbl (ps:Array Value)
 | ext (φ:BY7->World->Addr->Heap->Prop)
abbrev Hp:=Addr->Option HO
def upd (H:Hp)(a:Addr)(o:HO):Hp:=fun b=>if b=a then some o else H b
theorem D4 {H:Hp}{a:Addr}{o:HO}:upd H a o a=some o:=by unfold upd;rw[if_pos rfl]
theorem D6 {H:Hp}{a b:Addr}{o:HO}(h:b≠a):upd H a o b=H b:=by unfold upd;rw[if_neg h]
theorem BN2 {H:Hp}{a b:Addr}{o u:HO}(h:H a=some o)(h':H b=some u)(d:o≠u):a≠b:=by
 intro e;subst e;rw[h] at h';exact d (Option.some.inj h')
theorem K8 {H:Hp}{a b:Addr}{o:HO}(h:H a=some o)(h':H b=none):a≠b:=by
 intro e;subst e;rw[h] at h';cases h'
section
variable (P:BY7)(w:World)
def ObjOk (H:Hp)(h:Heap)(a:Addr):HO->Prop
 | .lst xs=>xs.length<=BV8/\∃(its:List Value) (n:Nat),Vals xs its/\h.get? a=some {cls:=.type "list",data:=.seq its.toArray n}
 | .tup xs=>xs.length<=BV8/\∃its:List Value,Vals xs its/\IsTup h a its.toArray
 | .dK kvs=>kvs.length<=BV8/\(a==CC2)=false/\∃vs,KV kvs vs/\h.DictOf (E3 P w) a vs
 | .dT kvs=>kvs.length<=BV8/\(a==CC2)=false/\∃xs:List (List Key×Addr×Value),
   Paired (fun(p:List Key×V) (q:List Key×Addr×Value)=>p.1=q.1/\H q.2.1=some (.tup (p.1.map kV))/\RelV p.2 q.2.2) kvs xs /\
   ∃o es ep,h.get? a=some o/\o.ExactDict/\o.data=.dict es ep/\es.toList=xs.map (entryOfKey (tupleKind (E3 P w)))/\(xs.map (·.1)).Nodup
 | .set S n=>h.SetOf (intKind P w) a S n
 | .ins C dx fs=>H dx=some (.own a)/\fs.length<=1000/\dx≠a/\h.get? a=some (PySem.W.instObj C dx) /\
   ∃mA,h.Ns1 dx mA/\(∀f,RelO (fs.lookup f) (mA f))/\PySem.Within mA (fs.map (·.1))
 | .own _=>∃o,h.get? a=some o
 | .xd fs=>∃mA,h.Ns1 a mA/\∀f,RelO (fs.lookup f) (mA f)
 | .rng lo hi=>∃t u v,h.get? a=some {cls:=.type "range",data:=.fields #[.int lo t,.int hi u,.int 1 v]}
 | .frz o u=>h.get? a=some o/\ObjOk H h a u
 | .tbl ps=>h.get? a=some {cls:=.none,data:=.fields ps}
 | .met f x=>h.get? a=some (PySem.W.methodObj (.ref f) (.ref x))
 | .ext φ=>φ P w a h/\(∃o,h.get? a=some o)/\∀h1 h2:Heap,φ P w a h1->(∀o,h1.get? a=some o->h2.get? a=some o)->φ P w a h2
def HOk (H:Hp)(h:Heap):Prop:=∀a o,H a=some o->ObjOk P w H h a o
end
section
variable {P:BY7}{w:World}{H H':Hp}{h h':Heap}{a:Addr}{o:HO}
theorem ObjOk.lt (x:ObjOk P w H h a o):a<h.objs.size:=by
 cases o with
 | lst c=>obtain⟨_,_,_,_,e⟩:=x;exact BW1 e
 | tup c=>obtain⟨_,_,_,p⟩:=x;exact p.lt
 | dK b=>obtain⟨_,_,_,_,o,_,_,e,_⟩:=x;exact BW1 e
 | dT b=>obtain⟨_,_,_,_,o,_,_,e,_⟩:=x;exact BW1 e
 | set S n=>obtain⟨o,_,_,_,e,_⟩:=x;exact BW1 e
 | ins C d fs=>obtain⟨_,_,_,e,_⟩:=x;exact BW1 e
 | own y=>obtain⟨_,e⟩:=x;exact BW1 e
 | xd fs=>obtain⟨_,⟨_,_,_,e,_⟩,_⟩:=x;exact BW1 e
 | rng lo g=>obtain⟨_,_,_,e⟩:=x;exact BW1 e
 | frz i u=>obtain⟨e,_⟩:=x;exact BW1 e
 | tbl j=>exact BW1 (show h.get? a=some _ from x)
 | met f y=>exact BW1 (show h.get? a=some _ from x)
 | ext k=>obtain⟨_,⟨_,e⟩,_⟩:=x;exact BW1 e
theorem Paired.mapP {e:Type}{F G:α->e->Prop}:∀{c:List α} {d:List e},Paired F c d->(∀a b,F a b->G a b)->Paired G c d
 | _,_,.nil,_=>.nil
 | _,_,.cons r t,f=>.cons (f _ _ r) (Paired.mapP t f)
theorem ObjOk.stay (x:ObjOk P w H h a o)(k:∀b u,(b=a\/H b=some (.own a))->h.get? b=some u->h'.get? b=some u)
  (ho:∀b,H b=some (.own a)->H' b=some (.own a)) (B:∀b xs,H b=some (.tup xs)->H' b=some (.tup xs)):ObjOk P w H' h' a o:=by
 induction o with
 | lst xs=>obtain⟨z,l,n,r,e⟩:=x;exact⟨z,l,n,r,k _ _ (.inl rfl) e⟩
 | tup xs=>obtain⟨z,l,r,g,e,c⟩:=x;exact⟨z,l,r,g,k _ _ (.inl rfl) e,c⟩
 | dK m=>obtain⟨z,y,D,r,g,i,j,e,c⟩:=x;exact⟨z,y,D,r,g,i,j,k _ _ (.inl rfl) e,c⟩
 | dT m =>
  obtain⟨z,y,xs,r,g,i,j,e,c⟩:=x
  exact⟨z,y,xs,Paired.mapP r fun p q z=>⟨z.1,B _ _ z.2.1,z.2.2⟩,g,i,j,k _ _ (.inl rfl) e,c⟩
 | set S n=>obtain⟨g,i,j,t,e,c⟩:=x;exact⟨g,i,j,t,k _ _ (.inl rfl) e,c⟩
 | ins C G fs =>
  obtain⟨d,z,ne,e,s,⟨A,i,j,E,c⟩,r⟩:=x
  exact⟨ho _ d,z,ne,k _ _ (.inl rfl) e,s,⟨A,i,j,k _ _ (.inr d) E,c⟩,r⟩
 | own y=>obtain⟨g,e⟩:=x;exact⟨g,k _ _ (.inl rfl) e⟩
 | xd fs=>obtain⟨s,⟨A,i,j,e,c⟩,r⟩:=x;exact⟨s,⟨A,i,j,k _ _ (.inl rfl) e,c⟩,r⟩
 | rng lo I=>obtain⟨t,u,v,e⟩:=x;exact⟨t,u,v,k _ _ (.inl rfl) e⟩
 | frz g u F=>obtain⟨e,q⟩:=x;exact⟨k _ _ (.inl rfl) e,F q⟩
 | tbl J =>
  have e:=x
  exact k a _ (.inl rfl) e
 | met f y =>
  have e:=x
  exact k a _ (.inl rfl) e
 | ext K=>obtain⟨p,⟨o,e⟩,st⟩:=x;exact⟨st _ _ p fun o q=>k _ _ (.inl rfl) q,⟨o,k _ _ (.inl rfl) e⟩,st⟩
theorem HOk.lt (x:HOk P w H h)(e:H a=some o):a<h.objs.size:=(x a o e).lt
theorem HOk.fresh (x:HOk P w H h)(e:h.objs.size<=a):H a=none:=by
 cases q:H a with
 | none=>rfl
 | some u=>exact absurd (BX9 (x.lt q) e) (CF0 _)
theorem HOk.kept (x:HOk P w H h)(k:∀b u,h.get? b=some u->h'.get? b=some u):HOk P w H h':=fun a o e =>
 (x a o e).stay (fun b u _ q=>k b u q) (fun _ q=>q) fun _ _ q=>q
theorem HOk.laid (x:HOk P w H h)(k:∀b u,h.get? b=some u->h'.get? b=some u)(g:h.objs.size<=a)(new:ObjOk P w (upd H a o) h' a o):HOk P w (upd H a o) h':=fun b u e=>by
 have d:=x.fresh g
 by_cases f:b=a
 ·subst f;rw[D4] at e;cases e;exact new
 ·rw[D6 f] at e
  exact(x b u e).stay (fun c v _ q=>k c v q) (fun c q=>by rw[D6 (K8 q d)];exact q) fun c i q=>by rw[D6 (K8 q d)];exact q
end
def Rd (H:Hp)(a:Addr)(u:HO):Prop:=H a=some u\/∃o,H a=some (.frz o u)
theorem Rd.ok {H:Hp}{a:Addr}{u:HO}(r:Rd H a u)(x:HOk P w H h):ObjOk P w H h a u:=by
 rcases r with r|⟨o,r⟩
 ·exact x a u r
 ·obtain⟨_,q⟩:=x a _ r
  exact q
def Mut:Option HO->Prop
 | some (.lst _)=>True
 | some (.dK _)=>True
 | some (.dT _)=>True
 | some (.set _ _)=>True
 | some (.ins _ _ _)=>True
 | some (.ext _)=>True
 | _=>False
section
variable {P:BY7}{w:World}{H:Hp}{h h':Heap}{x e:Addr}{o':HO}
theorem HOk.write (ok:HOk P w H h)(g:Mut (H x))(m:e=x\/H e=some (.own x))(k:∀b u,b≠e->h.get? b=some u->h'.get? b=some u)(l:∃u,h'.get? e=some u)
  (new:ObjOk P w (upd H x o') h' x o'):HOk P w (upd H x o') h':=fun b u q=>by
 have d:∀c y,H c=some (.own y)->c≠x:=fun c y r z=>by subst z;rw[r] at g;exact g
 have f:∀c i,H c=some (.tup i)->c≠x:=fun c i r z=>by subst z;rw[r] at g;exact g
 by_cases j:b=x
 ·subst j;rw[D4] at q;cases q;exact new
 ·rw[D6 j] at q
  by_cases a:b=e
  ·have n:H b=some (.own x):=by
    rcases m with z|z
    ·exact absurd (a.trans z) j
    ·rw[a];exact z
   rw[q] at n;cases n
   obtain⟨v,o⟩:=l
   exact⟨v,by rw[a];exact o⟩
  ·refine(ok b u q).stay (fun c v hc r=>k c v ?_ r) (fun c r=>by rw[D6 (d c b r)];exact r) fun c i r=>by rw[D6 (f c i r)];exact r
   rcases hc with rfl|hc
   ·exact a
   ·rintro rfl
    rcases m with z|z
    ·exact d c b hc z
    ·rw[hc] at z;cases z;exact j rfl
end
structure Un (fs ex:List Addr)(H H':Hp)(h h':Heap):Prop where
 keep:∀b o,h.get? b=some o->H b=none->b∉fs->b∉ex->h'.get? b=some o
 slot:∀b o,h.get? b=some o->H b=none->b∈fs->b∉ex->∃sl,h'.get? b=some {o with slots:=sl}
 free:∀b o,h.get? b=some o->H b=none->b∉ex->H' b=none
 there:∀b o,h.get? b=some o->b∉ex->∃o',h'.get? b=some o'
 tups:∀b xs,H b=some (.tup xs)->H' b=some (.tup xs)
 frzs:∀b o u,H b=some (.frz o u)->H' b=some (.frz o u)
 tbls:∀b ps,H b=some (.tbl ps)->∃more,H' b=some (.tbl (ps++more))
section
variable {fs fs' ex ex':List Addr}{H H1 H2:Hp}{h h1 h2 h':Heap}{a x e:Addr}{o:HO}
theorem Un.any (u:Un fs ex H H1 h h1){b:Addr}{a:Obj}(q:h.get? b=some a)(n:H b=none)(c:b∉ex):∃sl,h1.get? b=some {a with slots:=sl}:=by
 by_cases d:b∈fs
 ·exact u.slot b a q n d c
 ·exact⟨a.slots,u.keep b a q n d c⟩
theorem Un.kept (k:∀b u,h.get? b=some u->h'.get? b=some u):Un fs ex H H h h' :=
 ⟨fun b a q _ _ _=>k b a q,fun b a q _ _ _=>⟨a.slots,k b a q⟩,fun _ _ _ n _=>n,fun b a q _=>⟨a,k b a q⟩,fun _ _ q=>q,fun _ _ _ q=>q,fun _ c q=>⟨#[],by rw[q];simp⟩⟩
theorem Un.refl:Un fs ex H H h h:=Un.kept fun _ _ q=>q
theorem Un.laid (k:∀b u,h.get? b=some u->h'.get? b=some u)(d:h.objs.size<=a)(c:H a=none):Un fs ex H (upd H a o) h h' where
 keep:=fun b u q _ _ _=>k b u q
 slot:=fun b u q _ _ _=>⟨u.slots,k b u q⟩
 free:=fun b u q n _=>by rw[D6 (BX7 (BX9 (BW1 q) d))];exact n
 there:=fun b u q _=>⟨u,k b u q⟩
 tups:=fun b e q=>by rw[D6 (K8 q c)];exact q
 frzs:=fun b u e q=>by rw[D6 (K8 q c)];exact q
 tbls:=fun b f q=>⟨#[],by rw[D6 (K8 q c),q];simp⟩
theorem Un.write (c:Mut (H x))(j:e=x\/H e=some (.own x))(k:∀b u,b≠e->h.get? b=some u->h'.get? b=some u)(d:∃u,h'.get? e=some u):Un fs ex H (upd H x o) h h':=by
 have g:∀b,H b=none->b≠x:=fun b n z=>by subst z;rw[n] at c;exact c
 have i:∀b,H b=none->b≠e:=fun b n z=>by
  subst z
  rcases j with r|r
  ·exact g b n r
  ·rw[n] at r;cases r
 have f:∀b u,H b=some u->¬Mut (some u)->b≠x:=fun b u q nm z=>by subst z;rw[q] at c;exact nm c
 refine⟨fun b u q n _ _=>k b u (i b n) q,fun b u q n _ _=>⟨u.slots,k b u (i b n) q⟩,fun b u q n _=>by rw[D6 (g b n)];exact n,fun b u q _=>?_,
  fun b l q=>by rw[D6 (f b _ q fun z=>z)];exact q,fun b u l q=>by rw[D6 (f b _ q fun z=>z)];exact q,fun b m q=>⟨#[],by rw[D6 (f b _ q fun z=>z),q];simp⟩⟩
 by_cases a:b=e
 ·subst a;exact d
 ·exact⟨u,k b u a q⟩
end
def trk (h:Heap)(H:Hp):List Addr:=(BW8 h.objs.size).filter fun a=>(H a).isSome
def MZ (h:Heap)(H:Hp):Heap:=PySem.W.hideAll h (trk h H)
theorem YI (h:Heap)(H:Hp):(MZ h H).objs.size=h.objs.size:=PySem.W.hideAll_size _ _
theorem AE4 {H:Hp}{b:Addr}(e:h.get? b=some o)(n:H b=none):(MZ h H).get? b=some o :=
 PySem.W.hideAll_get _ e fun a=>by
  have q:=(List.mem_filter.mp a).2
  rw[n] at q;simp at q
theorem AR3 {H:Hp}{b:Addr}(e:(MZ h H).get? b=some o):h.get? b=some o/\H b=none:=by
 have a:=PySem.W.of_hideAll (trk h H) e
 refine⟨a,?_⟩
 cases q:H b with
 | none=>rfl
 | some x =>
  have c:b∈trk h H:=List.mem_filter.mpr ⟨List.mem_range.mpr (BW1 a),by simp[q]⟩
  have z:(MZ h H).get? b=none:=PySem.W.hideAll_none (trk h H) c
  rw[z] at e;cases e
structure Mod (K:BU5)(mg:Str->Option Value)(base:Heap):Prop where
 kin:K.In base
 glob:base.Ns BY2 mg
 blt:∃mb,base.Ns builtinsNs mb/\∀x:Str,x≠"__name__"->mb x=BZ4 x
 nolimit:base.NoLimit
structure Cx where
 prog:BY7
 w:World
 K:BU5
 mg:Str->Option Value
 base:Heap
 A:CE0
 N:List Str
 s₀:BV1
 H₀:Hp
 env:Env
 outer:List Env
 stack:List Env
 ex:List Addr
 fn:Str->Bool
 calm:Bool
 pn:List (Addr×Obj)
 xe:Value->BV1->Prop
def frs (l:List Env):List Addr:=l.filterMap (·.frame)
abbrev Cx.fs (X:Cx):List Addr:=frs X.outer
def Vis (sc:Scope)(x:Str):Prop:=sc.names.lookup x=some .local\/sc.names.lookup x=some .cell\/sc.names.lookup x=some .free
def Loc (sc:Scope)(x:Str):Prop:=sc.names.lookup x=some .local\/sc.names.lookup x=some .cell
def BS1 (env:Env)(h:Heap)(m:Str->Option Value)(x:Str)(u:Value):Prop :=
 (env.kindOf x=some .local/\m x=some u)\/((env.kindOf x=some .cell\/env.kindOf x=some .free)/\∃c,env.cells.lookup x=some c/\h.IsCell c (some u))
structure Cx.Ok (X:Cx):Prop where
 mod:Mod X.K X.mg X.base
 kind:X.env.scope.kind=.function
 glob:X.env.globals=BY2
 blt:X.env.builtins=builtinsNs
 above:X.s₀.heap.objs.size<=X.env.locals
 inj:∀x y c,X.env.cells.lookup x=some c->X.env.cells.lookup y=some c->x=y
 has:∀x,(X.env.kindOf x=some .cell\/X.env.kindOf x=some .free)->∃c,X.env.cells.lookup x=some c
 cab:∀x c,X.fn x=true->X.env.cells.lookup x=some c->X.s₀.heap.objs.size<=c
 hd:X.calm=true->X.A.handled=none
 frames:X.A.frames=some X.stack
 stk:X.stack=X.outer\/(X.stack=X.env::X.outer/\X.env.frame=some X.env.locals)
 exf:∀b∈X.ex,b≠X.env.locals/\∀x c,X.env.cells.lookup x=some c->c≠b
 bs:∀b o,X.base.get? b=some o->X.s₀.heap.get? b=some o/\X.H₀ b=none
 bsz:X.base.objs.size<=X.s₀.heap.objs.size
 noex:∀b o,X.base.get? b=some o->b∉X.ex
 exfs:∀b∈X.ex,b∉X.fs
 funs:X.s₀.heap.FunFrames X.base X.outer
 frf:∀b∈X.fs,X.H₀ b=none
structure Inv (X:Cx)(pins:List (Addr×Obj))(σ:List (Option V))(H:Hp)(s:BV1):Prop where
 ok:X.Ok
 os:s.os=X.s₀.os
 bare:AllBare s.gens
 base:Un X.fs X.ex X.H₀ H X.s₀.heap s.heap
 loc:∃m,s.heap.Ns X.env.locals m/\∀(i:Nat) (x:Str) (v:V),X.N[i]?=some x->σ[i]?=some (some v)->Vis X.env.scope x->∃u,RelV v u/\BS1 X.env s.heap m x u
 cell:∀x c,X.env.cells.lookup x=some c->∃v,s.heap.IsCell c v
 free:H X.env.locals=none
 freeC:∀x c,X.env.cells.lookup x=some c->H c=none
 pin:∀p∈X.pn++pins,s.heap.get? p.1=some p.2/\H p.1=none/\p.1≠X.env.locals/\p.1∉X.fs/\∀v,p.2.data≠.cell v
 hok:HOk X.prog X.w H s.heap
 len:σ.length=X.N.length
section
variable {X:Cx}{pins:List (Addr×Obj)}{σ:List (Option V)}{H H':Hp}{s:BV1}{h':Heap}
theorem Cx.Ok.nofr (ok:X.Ok){b:Addr}(e:X.base.get? b=some o):b∉X.fs:=fun a=>by
 have:=(ok.funs.mem a).1
 rw[e] at this;cases this
theorem Inv.bs (I:Inv X pins σ H s):∀b o,X.base.get? b=some o->s.heap.get? b=some o/\H b=none:=fun b o e =>
 ⟨I.base.keep b o (I.ok.bs b o e).1 (I.ok.bs b o e).2 (I.ok.nofr e) (I.ok.noex b o e),I.base.free b o (I.ok.bs b o e).1 (I.ok.bs b o e).2 (I.ok.noex b o e)⟩
theorem Inv.bk (I:Inv X pins σ H s):∀b o,X.base.get? b=some o->s.heap.get? b=some o:=fun b o e=>(I.bs b o e).1
theorem Inv.mod (I:Inv X pins σ H s):Mod X.K X.mg X.base:=I.ok.mod
theorem Inv.kIn (I:Inv X pins σ H s):X.K.In s.heap:=I.ok.mod.kin.keeps I.bk
theorem Inv.lt (I:Inv X pins σ H s):X.env.locals<s.heap.objs.size:=let ⟨_,hn,_⟩:=I.loc;hn.lt
theorem Inv.sz (I:Inv X pins σ H s):X.s₀.heap.objs.size<=s.heap.objs.size:=CA0 I.ok.above (Nat.le_of_lt I.lt)
theorem Inv.nofs (I:Inv X pins σ H s){a:Addr}(h:s.heap.objs.size<=a):a∉X.fs:=fun b=>by
 obtain⟨_,o,c,_⟩:=I.ok.funs.mem b
 exact absurd (BX9 (BW1 c) (CA0 I.sz h)) (CF0 _)
theorem Inv.cne (I:Inv X pins σ H s):∀x c,X.env.cells.lookup x=some c->c≠X.env.locals:=fun x c e z=>by
 obtain⟨v,o,d,f⟩:=I.cell x c e
 obtain⟨m,⟨g,h,i,a,b,_⟩,_⟩:=I.loc
 rw[z,a] at d;cases d;rw[b] at f;cases f
theorem Inv.funs (I:Inv X pins σ H s):s.heap.FunFrames X.base X.outer:=by
 have all:∀(l:List Env),(∀b∈frs l,b∈X.fs)->X.s₀.heap.FunFrames X.base l->s.heap.FunFrames X.base l:=by
  intro l
  induction l with
  | nil=>intro _ _;trivial
  | cons g r h =>
   intro f i
   obtain⟨j,⟨L,o,a,k,m,n⟩,p⟩:=i
   have c:=f L (by unfold frs;rw[CH7,a];exact BV7)
   obtain⟨q,e⟩:=I.base.slot L o m (I.ok.frf L c) c fun z=>I.ok.exfs L z c
   exact⟨j,⟨L,_,a,k,e,n⟩,h (fun b d=>f b (by unfold frs;rw[CH7,a];exact BV5 _ d)) p⟩
 exact all X.outer (fun _ d=>d) I.ok.funs
theorem Inv.stack (I:Inv X pins σ H s):s.heap.FunFrames X.base X.stack:=by
 rcases I.ok.stk with e|⟨e,a⟩
 ·rw[e];exact I.funs
 ·rw[e]
  obtain⟨m,b,_⟩:=I.loc
  refine .cons (by rw[I.ok.kind];decide) a b ?_ I.funs
  exact Heap.get?_none_of_le (CA0 I.ok.bsz I.ok.above)
theorem Inv.stkSub (I:Inv X pins σ H s):∀b∈frs X.stack,b∈X.env.locals::X.fs:=fun b a=>by
 rcases I.ok.stk with e|⟨e,c⟩
 ·rw[e] at a;exact BV5 _ a
 ·rw[e] at a
  unfold frs at a
  rw[CH7,c] at a
  exact a
theorem Inv.stkFree (I:Inv X pins σ H s):∀b∈frs X.stack,H b=none:=fun b hb=>by
 rcases BZ3.mp (I.stkSub b hb) with e|hb
 ·rw[e];exact I.free
 ·obtain⟨_,o,a,_⟩:=I.ok.funs.mem hb
  exact I.base.free b o a (I.ok.frf b hb) fun z=>I.ok.exfs b z hb
theorem Inv.step {g':Array GenState}{t':Nat}{d':Drawn}{ch:List Addr}(I:Inv X pins σ H s)
  (f:∀b∈ch,(b∈X.ex\/X.s₀.heap.objs.size<=b)/\b≠X.env.locals/\(∀x c,X.env.cells.lookup x=some c->c≠b)/\∀p∈X.pn++pins,p.1≠b)
  (keep:∀b o,b≠X.env.locals->b∉X.fs->b∉ch->s.heap.get? b=some o->H b=none->h'.get? b=some o)
  (slot:∀b o,b≠X.env.locals->b∈X.fs->b∉ch->s.heap.get? b=some o->H b=none->∃sl,h'.get? b=some {o with slots:=sl}) (free:∀b o,b∉ch->s.heap.get? b=some o->H b=none->H' b=none)
  (there:∀b o,b∉ch->s.heap.get? b=some o->∃o',h'.get? b=some o')
  (tups:∀b xs,H b=some (.tup xs)->H' b=some (.tup xs)) (frzs:∀b o u,H b=some (.frz o u)->H' b=some (.frz o u)) (tbls:∀b ps,H b=some (.tbl ps)->∃more,H' b=some (.tbl (ps++more)))
  (ns:∀m,s.heap.Ns X.env.locals m->h'.Ns X.env.locals m) (hok:HOk X.prog X.w H' h') (K:AllBare g') :
  Inv X pins σ H' {s with heap:=h',gens:=g',drawn:=d',toks:=t'}:=by
 have B:∀b o,X.s₀.heap.get? b=some o->b≠X.env.locals:=fun b o e=>BX7 (BX9 (BW1 e) I.ok.above)
 have j:∀b o,X.s₀.heap.get? b=some o->b∉X.ex->b∉ch:=fun b o e a y=>by
  rcases(f b y).1 with z|z
  ·exact a z
  ·exact absurd (BX9 (BW1 e) z) (CF0 _)
 have g:∀x c,X.env.cells.lookup x=some c->∀v,s.heap.IsCell c v->h'.IsCell c v:=fun x c e v ⟨o,A,D⟩=>by
  have h:=fun z=>(f c z).2.2.1 x c e rfl
  by_cases F:c∈X.fs
  ·obtain⟨sl,q⟩:=slot c o (I.cne x c e) F h A (I.freeC x c e)
   exact⟨_,q,D⟩
  ·exact⟨o,keep c o (I.cne x c e) F h A (I.freeC x c e),D⟩
 refine⟨I.ok,I.os,K,⟨fun b o e n y a=>?_,fun b o e n y a=>?_,fun b o e n a=>?_,fun b o e a=>?_,fun b xs e=>tups b xs (I.base.tups b xs e),fun b o xs e=>frzs b o xs (I.base.frzs b o xs e),fun b ps e=>?_⟩,?_,fun x c e=>?_,?_,fun x c e=>?_,fun p G=>?_,hok,I.len⟩
 ·exact keep b o (B b o e) y (j b o e a) (I.base.keep b o e n y a) (I.base.free b o e n a)
 ·obtain⟨sl,t⟩:=I.base.slot b o e n y a
  obtain⟨E,C⟩:=slot b _ (B b o e) y (j b o e a) t (I.base.free b o e n a)
  exact⟨E,C⟩
 ·obtain⟨o',t⟩:=I.base.there b o e a
  exact free b o' (j b o e a) t (I.base.free b o e n a)
 ·obtain⟨o',t⟩:=I.base.there b o e a
  exact there b o' (j b o e a) t
 ·obtain⟨L,t⟩:=I.base.tbls b ps e
  obtain⟨M,C⟩:=tbls b _ t
  exact⟨L++M,by rw[C,Array.append_assoc]⟩
 ·obtain⟨m,N,O⟩:=I.loc
  refine⟨m,ns m N,fun i x v t C P=>?_⟩
  obtain⟨u,r,l⟩:=O i x v t C P
  refine⟨u,r,?_⟩
  rcases l with l|⟨k,c,e,z⟩
  ·exact .inl l
  ·exact .inr ⟨k,c,e,g x c e _ z⟩
 ·obtain⟨v,z⟩:=I.cell x c e
  exact⟨v,g x c e v z⟩
 ·obtain⟨m,⟨o,_,_,A,_⟩,_⟩:=I.loc
  exact free _ o (fun z=>(f _ z).2.1 rfl) A I.free
 ·obtain⟨v,o,A,D⟩:=I.cell x c e
  exact free c o (fun z=>(f c z).2.2.1 x c e rfl) A (I.freeC x c e)
 ·obtain⟨e,n,ne,J,d⟩:=I.pin p G
  have h:=fun z=>(f p.1 z).2.2.2 p G rfl
  exact⟨keep p.1 p.2 ne J h e n,free p.1 p.2 h e n,ne,J,d⟩
theorem Inv.un {t':Nat}(I:Inv X pins σ H s)(u:Un X.fs [] H H' s.heap h')(hok:HOk X.prog X.w H' h'):Inv X pins σ H' {s with heap:=h',toks:=t'}:=by
 obtain⟨m,⟨o,k,l,g,r⟩,_⟩:=id I.loc
 obtain⟨p,h⟩:=u.any g I.free (by simp)
 exact I.step (g':=s.gens) (d':=s.drawn) (ch:=[]) (fun _ z=>nomatch z) (fun b o _ c _ e n=>u.keep b o e n c (by simp)) (fun b o _ c _ e n=>u.slot b o e n c (by simp)) (fun b o _ e n=>u.free b o e n (by simp)) (fun b o _ e=>u.there b o e (by simp)) u.tups u.frzs u.tbls (fun q i=>by
  obtain⟨t,d,f,a,j⟩:=i
  rw[g] at a;cases a
  exact⟨_,d,f,h,j⟩) hok I.bare
theorem Inv.call {g':Array GenState}{t':Nat}{d':Drawn}{ch:List Addr}(I:Inv X pins σ H s)(u:Un (frs X.stack) ch H H' s.heap h')(hok:HOk X.prog X.w H' h')(k:AllBare g')
  (d:∀b∈ch,(b∈X.ex\/X.s₀.heap.objs.size<=b)/\b≠X.env.locals/\(∀x c,X.env.cells.lookup x=some c->c≠b)/\∀p∈X.pn++pins,p.1≠b) :
  Inv X pins σ H' {s with heap:=h',gens:=g',drawn:=d',toks:=t'}:=by
 obtain⟨m,⟨o,v,y,j,r⟩,_⟩:=id I.loc
 obtain⟨A,g⟩:=u.any j I.free fun z=>(d _ z).2.1 rfl
 exact I.step (ch:=ch) d (fun b o g l a e n=>u.keep b o e n (fun z=>(BZ3.mp (I.stkSub b z)).elim g l) a) (fun b o _ _ a e n=>u.any e n a) (fun b o a e n=>u.free b o e n a) (fun b o a e=>u.there b o e a) u.tups u.frzs u.tbls (fun B q=>by
  obtain⟨C,h,i,f,t⟩:=q
  rw[j] at f;cases f
  exact⟨_,h,i,g,t⟩) hok k
theorem Inv.turned {t':Nat}(I:Inv X pins σ H s)(k:∀b o,b≠it->s.heap.get? b=some o->h'.get? b=some o)(g:H it=none)(f:it≠X.env.locals)
  (h1:it∈X.ex\/X.s₀.heap.objs.size<=it) (h2:∀x c,X.env.cells.lookup x=some c->c≠it) (h:∀p∈X.pn++pins,p.1≠it):Inv X pins σ H {s with heap:=h',toks:=t'}:=by
 have d:∀b u,H b=some u->b≠it:=fun b u e z=>by rw[z,g] at e;cases e
 refine I.step (g':=s.gens) (d':=s.drawn) (ch:=[it]) (fun b i=>?_) (fun b o _ _ a e _=>k b o (fun z=>a (by simp[z])) e) (fun b o _ _ a e _=>⟨o.slots,k b o (fun z=>a (by simp[z])) e⟩) (fun _ _ _ _ n=>n)
  (fun b o a e=>⟨o,k b o (fun z=>a (by simp[z])) e⟩) (fun _ _ e=>e) (fun _ _ _ e=>e) (fun b y e=>⟨#[],by rw[e];simp⟩) (fun m j=>?_) (fun b u e=>?_) I.bare
 ·have e:b=it:=by simpa using i
  subst e
  exact⟨h1,f,h2,h⟩
 ·obtain⟨o,l,t,w,r⟩:=j
  exact⟨o,l,t,k _ o (Ne.symm f) w,r⟩
 ·refine(I.hok b u e).stay (fun c v a q=>k c v ?_ q) (fun _ q=>q) fun _ _ q=>q
  rcases a with z|z
  ·rw[z];exact d b u e
  ·exact d c _ z
theorem Inv.tok (I:Inv X pins σ H s)(t:Nat):Inv X pins σ H {s with toks:=t}:=I.un (h':=s.heap) (t':=t) Un.refl I.hok
theorem Inv.kept {t':Nat}(I:Inv X pins σ H s)(k:∀b u,s.heap.get? b=some u->h'.get? b=some u):Inv X pins σ H {s with heap:=h',toks:=t'}:=I.un (Un.kept k) (I.hok.kept k)
theorem Inv.laid {a:Addr}{o:HO}{t':Nat}(I:Inv X pins σ H s)(k:∀b u,s.heap.get? b=some u->h'.get? b=some u)(c:s.heap.objs.size<=a)(new:ObjOk X.prog X.w (upd H a o) h' a o) :
  Inv X pins σ (upd H a o) {s with heap:=h',toks:=t'}:=I.un (Un.laid k c (I.hok.fresh c)) (I.hok.laid k c new)
theorem Inv.write {x e:Addr}{o:HO}{t':Nat}(I:Inv X pins σ H s)(c:Mut (H x))(d:e=x\/H e=some (.own x))(k:∀b u,b≠e->s.heap.get? b=some u->h'.get? b=some u)(a:∃u,h'.get? e=some u)
  (new:ObjOk X.prog X.w (upd H x o) h' x o):Inv X pins σ (upd H x o) {s with heap:=h',toks:=t'}:=I.un (Un.write c d k a) (I.hok.write c d k a new)
theorem Inv.pins_of {a:List (Addr×Obj)}(I:Inv X pins σ H s)(h:∀p∈a,s.heap.get? p.1=some p.2/\H p.1=none/\p.1≠X.env.locals/\p.1∉X.fs/\∀v,p.2.data≠.cell v):Inv X a σ H s :=
 ⟨I.ok,I.os,I.bare,I.base,I.loc,I.cell,I.free,I.freeC,fun p b=>(List.mem_append.mp b).elim (fun z=>I.pin p (CH3 _ z)) (h p),I.hok,I.len⟩
theorem QU (c:N.Nodup)(a:N[i]?=some x)(b:N[j]?=some x):i=j:=by
 obtain⟨f,d⟩:=List.getElem?_eq_some_iff.mp a
 obtain⟨g,e⟩:=List.getElem?_eq_some_iff.mp b
 exact(List.getElem_inj c).mp (d.trans e.symm)
theorem ZX {M:Model}{E:Value->BV1->Prop}{v:V}{Q:Unit->BV1->Prop}(I:Inv X pins σ H s)(hN:X.N.Nodup)(hi:X.N[i]?=some x)(t:Loc X.env.scope x)(r:RelV v u)
  (h:∀s',Inv X pins (σ.set i (some v)) H s'->(∃a,CD0 a s.heap s'.heap/\(a=X.env.locals\/X.env.cells.lookup x=some a))->Q () s') (hf:X.fn x=true\/X.env.scope.names.lookup x=some .local:=by first|exact .inl rfl|exact .inr rfl|assumption):wpAny M A (storeName X.env x u) Q E s:=by
 obtain⟨m,U,hl⟩:=id I.loc
 have K:(X.env.scope.kind==.class || (X.env.scope.kind==.module && X.env.locals != X.env.globals))=false:=by rw[I.ok.kind];rfl
 have D:i<σ.length:=by rw[I.len];exact(List.getElem?_eq_some_iff.mp hi).1
 have cne:=I.cne
 have g:∀{a:Addr} {h':Heap},(∃o,s.heap.get? a=some o/\H a=none)->CD0 a s.heap h'->HOk X.prog X.w H h':=fun{a h'} ha f b ob e=>by
  obtain⟨_,_,B⟩:=ha
  refine(I.hok b ob e).stay (fun c S hc q=>(f.2 c ?_).trans q) (fun _ q=>q) fun _ _ q=>q
  rintro rfl
  rcases hc with rfl|hc
  ·rw[B] at e;cases e
  ·rw[B] at hc;cases hc
 rcases t with hk|hk
 ·refine wpAny_storeName_local hk U (fun h' W f=>?_) K
  obtain⟨oL,_,_,Y,_⟩:=id U
  refine h _ ⟨I.ok,I.os,I.bare,⟨fun b o e n F t=>?_,fun b o e n F t=>?_,I.base.free,fun b o e t=>?_,I.base.tups,I.base.frzs,I.base.tbls⟩,⟨_,W,fun j y Z l C e3=>?_⟩,fun y c e=>?_,I.free,I.freeC,fun p hp=>?_,g ⟨oL,Y,I.free⟩ f,by simpa using I.len⟩ ⟨_,f,.inl rfl⟩
  ·exact(f.2 b (BX7 (BX9 (BW1 e) I.ok.above))).trans (I.base.keep b o e n F t)
  ·obtain⟨sl,l⟩:=I.base.slot b o e n F t
   exact⟨sl,(f.2 b (BX7 (BX9 (BW1 e) I.ok.above))).trans l⟩
  ·obtain⟨o',l⟩:=I.base.there b o e t
   exact⟨o',(f.2 b (BX7 (BX9 (BW1 e) I.ok.above))).trans l⟩
  ·by_cases G:j=i
   ·subst G
    rw[hi] at l;cases l
    rw[List.getElem?_set_self D] at C
    cases C
    exact⟨u,r,.inl ⟨hk,by simp⟩⟩
   ·rw[List.getElem?_set_ne (Ne.symm G)] at C
    obtain⟨u',r',q⟩:=hl j y Z l C e3
    refine⟨u',r',?_⟩
    rcases q with⟨k,e⟩|⟨k,c,e,z⟩
    ·refine .inl ⟨k,?_⟩
     have:y≠x:=fun e=>G (QU hN l (e ▸ hi))
     simp[this,e]
    ·exact .inr ⟨k,c,e,z.sameBut f (cne y c e)⟩
  ·obtain⟨S,z⟩:=I.cell y c e
   exact⟨S,z.sameBut f (cne y c e)⟩
  ·obtain⟨e,n,ne,nf,d⟩:=I.pin p hp
   exact⟨(f.2 p.1 ne).trans e,n,ne,nf,d⟩
 ·have J:X.fn x=true:=by
   rcases hf with z|z
   ·exact z
   ·rw[z] at hk;cases hk
  obtain⟨c,hc⟩:=I.ok.has x (.inl hk)
  obtain⟨S,z⟩:=I.cell x c hc
  refine wpAny_storeName_cell I.ok.kind hk hc z (fun h' L f=>?_)
  obtain⟨oc,O,P⟩:=id z
  refine h {s with heap:=h'} ⟨I.ok,I.os,I.bare,⟨fun b o e n F t=>?_,fun b o e n F t=>?_,I.base.free,fun b o e t=>?_,I.base.tups,I.base.frzs,I.base.tbls⟩,⟨m,U.sameBut f (Ne.symm (cne x c hc)),fun j y Z l C e3=>?_⟩,fun y T e=>?_,I.free,I.freeC,fun p hp=>?_,g ⟨oc,O,I.freeC x c hc⟩ f,by simpa using I.len⟩ ⟨c,f,.inr hc⟩
  ·exact(f.2 b (BX7 (BX9 (BW1 e) (I.ok.cab x c J hc)))).trans (I.base.keep b o e n F t)
  ·obtain⟨sl,l⟩:=I.base.slot b o e n F t
   exact⟨sl,(f.2 b (BX7 (BX9 (BW1 e) (I.ok.cab x c J hc)))).trans l⟩
  ·obtain⟨o',l⟩:=I.base.there b o e t
   exact⟨o',(f.2 b (BX7 (BX9 (BW1 e) (I.ok.cab x c J hc)))).trans l⟩
  ·by_cases G:j=i
   ·subst G
    rw[hi] at l;cases l
    rw[List.getElem?_set_self D] at C
    cases C
    exact⟨u,r,.inr ⟨.inl hk,c,hc,L⟩⟩
   ·rw[List.getElem?_set_ne (Ne.symm G)] at C
    obtain⟨u',r',q⟩:=hl j y Z l C e3
    refine⟨u',r',?_⟩
    rcases q with q|⟨k,T,e,z'⟩
    ·exact .inl q
    ·refine .inr ⟨k,T,e,z'.sameBut f ?_⟩
     rintro rfl
     exact G (QU hN l (I.ok.inj _ _ _ e hc ▸ hi))
  ·by_cases R:T=c
   ·subst R;exact⟨_,L⟩
   ·obtain⟨w2,z2⟩:=I.cell y T e
    exact⟨w2,z2.sameBut f R⟩
  ·obtain⟨e,n,ne,nf,d⟩:=I.pin p hp
   refine⟨(f.2 p.1 ?_).trans e,n,ne,nf,d⟩
   intro q
   rw[q,O] at e
   have q':=Option.some.inj e
   exact d S (by rw[<-q'];exact P)
theorem CW {M:Model}{E:Value->BV1->Prop}{v:V}{Q:Unit->BV1->Prop}(I:Inv X pins σ H s)(a:X.N.Nodup)(hi:X.N[i]?=some x)(b:Loc X.env.scope x)(r:RelV v u)
  (h:∀s',Inv X pins (σ.set i (some v)) H s'->Q () s') (c:X.fn x=true\/X.env.scope.names.lookup x=some .local:=by first|exact .inl rfl|exact .inr rfl|assumption):wpAny M A (storeName X.env x u) Q E s :=
 ZX I a hi b r (fun s' d _=>h s' d) c
theorem Inv.call' {ch:List Addr}(I:Inv X pins σ H s)(ho:s'.os=s.os)(u:Un (frs X.stack) ch H H' s.heap s'.heap)(hok:HOk X.prog X.w H' s'.heap)(d:AllBare s'.gens)
  (a:∀b∈ch,(b∈X.ex\/X.s₀.heap.objs.size<=b)/\b≠X.env.locals/\(∀x c,X.env.cells.lookup x=some c->c≠b)/\∀p∈X.pn++pins,p.1≠b):Inv X pins σ H' s':=by
 obtain⟨f,g',d',t',g⟩:=s'
 have e:=ho
 subst e
 exact I.call (g':=g') (t':=t') (d':=d') u hok d a
end
abbrev XK:=Value->Option Addr->Hp->Prop
abbrev St:=List (Option V)
abbrev VK:=V->Hp->Prop
abbrev TE:=St->Hp->VK->Prop
abbrev TT:=St->Hp->(Bool->Hp->Prop)->Prop
abbrev TA:=St->Hp->(List V->Hp->Prop)->Prop
structure Ends where
 nx:St->Hp->Prop
 rt:VK
 bk:St->Hp->Prop:=fun _ _=>False
 ct:St->Hp->Prop:=fun _ _=>False
abbrev TS:=Ends->St->Hp->Prop
def EP (X:Cx)(pins:List (Addr×Obj))(σ:St)(Q:VK)(u:Value)(s':BV1):Prop:=∃v H',Inv X pins σ H' s'/\RelV v u/\Q v H'
def TP (X:Cx)(pins:List (Addr×Obj))(σ:St)(Q:Bool->Hp->Prop)(b:Bool)(s':BV1):Prop:=∃H',Inv X pins σ H' s'/\Q b H'
def AP (X:Cx)(pins:List (Addr×Obj))(σ:St)(Q:List V->Hp->Prop)(us:List Value)(s':BV1):Prop:=∃vs H',Inv X pins σ H' s'/\Vals vs us/\Q vs H'
def SP (X:Cx)(pins:List (Addr×Obj))(D:Ends)(f:Flow)(s':BV1):Prop :=
 match f with
 | .next=>∃σ' H',Inv X pins σ' H' s'/\D.nx σ' H'
 | .brk=>∃σ' H',Inv X pins σ' H' s'/\D.bk σ' H'
 | .cont=>∃σ' H',Inv X pins σ' H' s'/\D.ct σ' H'
 | .ret u=>∃v σ' H',Inv X pins σ' H' s'/\RelV v u/\D.rt v H'
def PE (X:Cx)(e:Expr)(t:TE):Prop :=
 ∀(pins:List (Addr×Obj)) (s:BV1) (σ:St) (H:Hp) (Q:VK),Inv X pins σ H s->t σ H Q->wpAny (model X.prog X.w) X.A (eval e X.env) (EP X pins σ Q) X.xe s
def PT (X:Cx)(e:Expr)(t:TT):Prop :=
 ∀(pins:List (Addr×Obj)) (s:BV1) (σ:St) (H:Hp) (Q:Bool->Hp->Prop),Inv X pins σ H s->t σ H Q->wpAny (model X.prog X.w) X.A (isTrue e X.env (eval e X.env)) (TP X pins σ Q) X.xe s
def PA (X:Cx)(es:List Expr)(t:TA):Prop :=
 ∀(pos:Pos) (pins:List (Addr×Obj)) (s:BV1) (σ:St) (H:Hp) (Q:List V->Hp->Prop),Inv X pins σ H s->t σ H Q->wpAny (model X.prog X.w) X.A (spliced (CI6 pos (BX4 es X.env))) (AP X pins σ Q) X.xe s
def PS (X:Cx)(st:Stmt)(t:TS):Prop :=
 ∀(pins:List (Addr×Obj)) (s:BV1) (σ:St) (H:Hp) (D:Ends),Inv X pins σ H s->t D σ H->wpAny (model X.prog X.w) X.A (exec st X.env) (SP X pins D) X.xe s
def PSs (X:Cx)(st:List Stmt)(t:TS):Prop :=
 ∀(pins:List (Addr×Obj)) (s:BV1) (σ:St) (H:Hp) (D:Ends),Inv X pins σ H s->t D σ H->wpAny (model X.prog X.w) X.A (execs st X.env) (SP X pins D) X.xe s
theorem thn {t:Sem α}{Q b:α->BV1->Prop}{M:Model}{E:Value->BV1->Prop}(h:wpAny M A t Q E s)(c:∀a s,Q a s->b a s):wpAny M A t b E s:=CA5 h c fun _ _ x=>x
section
variable {X:Cx}
def BR7 (i:Nat):TE:=fun σ H Q=>∃v,σ[i]?=some (some v)/\Q v H
def tC (v:V):TE:=fun _ H Q=>Q v H
theorem BH8 (j:X.N[i]?=some x)(k:Vis X.env.scope x)(hd:(x==("__debug__":Str))=false:=by decide) (f:(x==("__classdict__":Str))=false:=by decide):PE X (.Name x pos) (BR7 i):=by
 intro d s n H Q I h
 obtain⟨v,e,h⟩:=h
 obtain⟨m,o,p⟩:=I.loc
 obtain⟨u,r,l⟩:=p i x v j e k
 have b:EP X d n Q u s:=⟨v,H,I,r,h⟩
 rcases l with⟨hk,q⟩|⟨hk,c,g,a⟩
 ·exact wpAny_Name (wpAny_loadName_local I.ok.kind hk o q b) hd
 ·rcases hk with hk|hk
  ·exact wpAny_Name (wpAny_loadName_cell I.ok.kind hk g a b) hd
  ·exact wpAny_Name (wpAny_loadName_free I.ok.kind hk g a b f) hd
theorem BH4 {i j pos}:PE X (.Constant (.int i) j pos) (tC (.int i)):=fun _ _ _ H _ I h=>wpAny_Constant_int ⟨.int i,H,I.tok _,⟨_,rfl⟩,h⟩
theorem BP3 {b j pos}:PE X (.Constant (.bool b) j pos) (tC (.bl b)):=fun _ _ _ H _ I h=>Constant_bool ⟨.bl b,H,I,rfl,h⟩
theorem BH5 {j pos}:PE X (.Constant .none j pos) (tC .non):=fun _ _ _ H _ I h=>Constant_none ⟨.non,H,I,rfl,h⟩
theorem BH6 {x j pos}:PE X (.Constant (.str x) j pos) (tC (.str x)):=fun _ _ _ H _ I h=>Calls.Constant_str ⟨.str x,H,I.tok _,⟨_,rfl⟩,h⟩
def Gl (X:Cx)(x:Str):Prop:=X.env.kindOf x=some .globalImplicit
theorem NE {E:Value->BV1->Prop}{σ:St}{H:Hp}(I:Inv X pins σ H s)(a:Gl X x)(b:X.mg x=some u)(h:Q u s)
  (hd:(x==("__debug__":Str))=false:=by decide):wpAny (model X.prog X.w) X.A (eval (.Name x pos) X.env) Q E s :=
 Calls.Name_function_global I.ok.kind a (Calls.loadGlobal_global (by rw[I.ok.glob];exact I.mod.glob.keeps I.bk) b h) hd
theorem BI {E:Value->BV1->Prop}{σ:St}{H:Hp}(I:Inv X pins σ H s)(a:Gl X x)(b:X.mg x=none)(c:BZ4 x=some u)(h:Q u s)
  (d:x≠"__name__":=by decide) (hd:(x==("__debug__":Str))=false:=by decide):wpAny (model X.prog X.w) X.A (eval (.Name x pos) X.env) Q E s:=by
 obtain⟨g,e,f⟩:=I.mod.blt
 exact Calls.Name_function_global I.ok.kind a (Calls.loadGlobal_builtin (by rw[I.ok.glob];exact I.mod.glob.keeps I.bk) b (by rw[I.ok.blt];exact e.keeps I.bk) ((f x d).trans c) h) hd
theorem AT5 {v:V}(a:Gl X x)(b:X.mg x=some u)(r:RelV v u)(hd:(x==("__debug__":Str))=false:=by decide):PE X (.Name x pos) (tC v) :=
 fun _ _ _ H _ I h=>NE I a b ⟨v,H,I,r,h⟩ hd
theorem AT1 {v:V}(a:Gl X x)(b:X.mg x=none)(c:BZ4 x=some u)(r:RelV v u)(d:x≠"__name__":=by decide) (hd:(x==("__debug__":Str))=false:=by decide):PE X (.Name x pos) (tC v) :=
 fun _ _ _ H _ I h=>BI I a b c ⟨v,H,I,r,h⟩ d hd
variable {a b:Expr}{ta tb:TE}{pos:Pos}
variable {tA tB':TT}{rest:List Expr}
end
def SqL (K:BU5)(H:Hp)(a:Addr)(xs:List V):Prop :=
 Rd H a (.lst xs) \/
  ∃(o:Obj) (its:Array Value) (n:Nat),K.lookup a=some o/\o.cls=.type "list"/\o.dict=none/\o.data=.seq its n/\its.size<=BV8/\Vals xs its.toList
def SqT (K:BU5)(H:Hp)(a:Addr)(xs:List V):Prop :=
 Rd H a (.tup xs) \/
  ∃(o:Obj) (its:Array Value) (n:Nat),K.lookup a=some o/\o.cls=.type "tuple"/\o.data=.seq its n/\its.size<=BV8/\Vals xs its.toList
def BS2:Value->Option V
 | .none=>some .non
 | .bool b=>some (.bl b)
 | .int i _=>some (.int i)
 | .str x _=>some (.str x)
 | .bytes b _=>some (.byt b)
 | .float b _=>some (.flt b)
 | .ref a=>some (.ref a)
 | .type n=>some (.ty n)
 | _=>none
theorem RelV.abs {x:V}(r:RelV x u):BS2 u=some x:=by
 cases x with
 | non=>cases r;rfl
 | bl _=>cases r;rfl
 | int _=>obtain⟨t,rfl⟩:=r;rfl
 | str _=>obtain⟨t,rfl⟩:=r;rfl
 | byt _=>obtain⟨t,rfl⟩:=r;rfl
 | flt _=>obtain⟨t,rfl⟩:=r;rfl
 | ref _=>cases r;rfl
 | ty _=>cases r;rfl
theorem RelV.inj {x y:V}(r:RelV x u)(q:RelV y u):x=y:=Option.some.inj (r.abs.symm.trans q.abs)
theorem Vals.inj:∀{xs ys:List V} {us:List Value},Vals xs us->Vals ys us->xs=ys
 | _,_,_,.nil,.nil=>rfl
 | _,_,_,.cons r t,.cons r' t'=>by rw[r.inj r',Vals.inj t t']
section
variable {X:Cx}{pins:List (Addr×Obj)}{σ:St}{H:Hp}{s:BV1}{a:Addr}{xs ys:List V}
theorem Inv.list (I:Inv X pins σ H s)(h:SqL X.K H a xs):∃its:List Value,Vals xs its/\PlainL s.heap a its.toArray/\xs.length<=BV8:=by
 rcases h with h|⟨o,its,n,b,c,d,f,g,r⟩
 ·obtain⟨z,its,n,r,e⟩:=h.ok I.hok
  exact⟨its,r,⟨_,n,e,rfl,rfl,rfl⟩,z⟩
 ·refine⟨its.toList,r,⟨o,n,I.kIn a o b,c,d,by simpa using f⟩,?_⟩
  have e:=r.length
  simp only[CH6] at e
  lia
theorem Inv.tuple (I:Inv X pins σ H s)(h:SqT X.K H a xs):∃its:List Value,Vals xs its/\IsTup s.heap a its.toArray/\xs.length<=BV8:=by
 rcases h with h|⟨o,its,n,b,c,d,f,r⟩
 ·obtain⟨z,its,r,p⟩:=h.ok I.hok
  exact⟨its,r,p,z⟩
 ·refine⟨its.toList,r,⟨o,I.kIn a o b,c,n,by simpa using d⟩,?_⟩
  have e:=r.length
  simp only[CH6] at e
  lia
theorem Inv.list_inj (I:Inv X pins σ H s)(h:SqL X.K H a xs)(h':SqL X.K H a ys):xs=ys:=by
 obtain⟨b,r,⟨o,n,e,_,_,d⟩,_⟩:=I.list h
 obtain⟨its',g,⟨i,j,c,_,_,f⟩,_⟩:=I.list h'
 rw[e] at c;cases c
 rw[d] at f
 injection f with d1 _
 have:b=its':=by simpa using congrArg Array.toList d1
 subst this
 exact r.inj g
theorem Inv.tuple_inj (I:Inv X pins σ H s)(h:SqT X.K H a xs)(h':SqT X.K H a ys):xs=ys:=by
 obtain⟨b,r,⟨o,e,_,n,d⟩,_⟩:=I.tuple h
 obtain⟨its',g,⟨i,c,_,j,f⟩,_⟩:=I.tuple h'
 rw[e] at c;cases c
 rw[d] at f
 injection f with d1 _
 have:b=its':=by simpa using congrArg Array.toList d1
 subst this
 exact r.inj g
end
abbrev Cx.wish (X:Cx)(E:Value->BV1->Prop):Cx:={X with xe:=E}
abbrev Cx.nox (X:Cx):Cx:=X.wish fun _ _=>False
theorem Cx.Ok.wish {X:Cx}(ok:X.Ok)(E:Value->BV1->Prop):(X.wish E).Ok :=
 ⟨ok.mod,ok.kind,ok.glob,ok.blt,ok.above,ok.inj,ok.has,ok.cab,ok.hd,ok.frames,ok.stk,ok.exf,ok.bs,ok.bsz,ok.noex,ok.exfs,ok.funs,ok.frf⟩
theorem Cx.Ok.unwish {X:Cx}{E:Value->BV1->Prop}(ok:(X.wish E).Ok):X.Ok :=
 ⟨ok.mod,ok.kind,ok.glob,ok.blt,ok.above,ok.inj,ok.has,ok.cab,ok.hd,ok.frames,ok.stk,ok.exf,ok.bs,ok.bsz,ok.noex,ok.exfs,ok.funs,ok.frf⟩
section
variable {X:Cx}{pins:List (Addr×Obj)}{σ:St}{H:Hp}{s:BV1}{E:Value->BV1->Prop}
theorem Inv.wish (I:Inv X pins σ H s)(E:Value->BV1->Prop):Inv (X.wish E) pins σ H s:=⟨I.ok.wish E,I.os,I.bare,I.base,I.loc,I.cell,I.free,I.freeC,I.pin,I.hok,I.len⟩
theorem Inv.unwish (I:Inv (X.wish E) pins σ H s):Inv X pins σ H s:=⟨I.ok.unwish,I.os,I.bare,I.base,I.loc,I.cell,I.free,I.freeC,I.pin,I.hok,I.len⟩
theorem SP.unwish {D:Ends}{f:Flow}(h:SP (X.wish E) pins D f s'):SP X pins D f s':=by
 cases f with
 | next=>obtain⟨a,b,I,q⟩:=h;exact⟨a,b,I.unwish,q⟩
 | brk=>obtain⟨a,b,I,q⟩:=h;exact⟨a,b,I.unwish,q⟩
 | cont=>obtain⟨a,b,I,q⟩:=h;exact⟨a,b,I.unwish,q⟩
 | ret u=>obtain⟨v,a,b,I,r,q⟩:=h;exact⟨v,a,b,I.unwish,r,q⟩
theorem PSs.nox {st:List Stmt}{t:TS}(h:PSs X.nox st t):PSs X st t:=fun a s b H D I c =>
 CA5 (h a s b H D (I.wish _) c) (fun _ _ q=>q.unwish) fun _ _ z=>False.elim z
end
section
variable {X:Cx}{st:Stmt}{rest:List Stmt}{t u:TS}{e:Expr}{te:TE}{pos:Pos}
theorem Inv.quiet {σ:St}{H:Hp}(I:Inv X pins σ H s):interactive X.env=false:=by simp[interactive,I.ok.kind]
end
abbrev TG:=V->St->Hp->(St->Hp->Prop)->Prop
abbrev TGs:=List V->St->Hp->(St->Hp->Prop)->Prop
def PG (X:Cx)(target:Expr)(t:TG):Prop :=
 ∀(pins:List (Addr×Obj)) (s:BV1) (σ:St) (H:Hp) (v:V) (u:Value) (Q:St->Hp->Prop),Inv X pins σ H s->RelV v u->t v σ H Q ->
  wpAny (model X.prog X.w) X.A (assign target X.env u) (fun _ s'=>∃σ' H',Inv X pins σ' H' s'/\Q σ' H') X.xe s
def PGs (X:Cx)(ts:List Expr)(t:TGs):Prop :=
 ∀(pins:List (Addr×Obj)) (s:BV1) (σ:St) (H:Hp) (vs:List V) (us:List Value) (Q:St->Hp->Prop),Inv X pins σ H s->Vals vs us->t vs σ H Q ->
  wpAny (model X.prog X.w) X.A (assignInOrder ((BZ9 ts X.env).map (·.2)) us) (fun _ s'=>∃σ' H',Inv X pins σ' H' s'/\Q σ' H') X.xe s
abbrev BB0:=V->V->V->Hp->(Hp->Prop)->Prop
def BK8 (X:Cx)(t:BB0):Prop :=
 ∀(pins:List (Addr×Obj)) (s:BV1) (σ:St) (H:Hp) (o i v:V) (ov iv u:Value) (Q:Hp->Prop),Inv X pins σ H s->RelV o ov->RelV i iv->RelV v u->t o i v H Q ->
  wpAny (model X.prog X.w) X.A (setItem ov iv u) (fun _ s'=>∃H',Inv X pins σ H' s'/\Q H') X.xe s
abbrev TIp:=V->V->Hp->VK->Prop
def PIp (X:Cx)(op:Operator)(t:TIp):Prop :=
 ∀(pins:List (Addr×Obj)) (s:BV1) (σ:St) (H:Hp) (x y:V) (v u:Value) (Q:VK),Inv X pins σ H s->RelV x v->RelV y u->t x y H Q ->
  wpAny (model X.prog X.w) X.A (inplaceOp op v u) (EP X pins σ Q) X.xe s
section
variable {X:Cx}{pos:Pos}
def AY1 (i:Nat):TG:=fun v σ H Q=>Q (σ.set i (some v)) H
theorem NT (b:X.N.Nodup)(hi:X.N[i]?=some x)(c:Loc X.env.scope x)(d:X.fn x=true\/X.env.scope.names.lookup x=some .local:=by first|exact .inl rfl|exact .inr rfl|assumption):PG X (.Name x pos) (AY1 i):=by
 intro a s f H v u Q I r h
 exact wpAny_assign_Name (CW I b hi c r (fun g e=>⟨_,H,e,h⟩) d)
def BT1:TGs:=fun vs σ H Q=>vs=[]/\Q σ H
def BM0 (t:TG)(u:TGs):TGs:=fun vs σ H Q=>∃v r,vs=v::r/\t v σ H fun σ' H'=>u r σ' H' Q
theorem WK:PGs X [] BT1:=by
 intro a s b H c d Q I r h
 obtain⟨e,h⟩:=h
 subst e
 exact assignInOrder_nil ⟨b,H,I,h⟩
theorem RB {t:TG}{u:TGs}(h1:PG X e t)(h2:PGs X es u)
  (hs:(BZ9 (e::es) X.env).map (·.2)=assign e X.env::(BZ9 es X.env).map (·.2):=by rfl):PGs X (e::es) (BM0 t u):=by
 intro a s c H l m Q I r h
 obtain⟨v,n,d,h⟩:=h
 subst d
 cases r with
 | cons r f =>
  rw[hs]
  refine assignInOrder_cons (thn (h1 a s c H _ _ _ I r h) fun _ g ⟨b,i,j,k⟩=>?_)
  exact h2 a g b i _ _ Q j f k
def BT3 (K:BU5)(n:Nat)(t:TGs):TG:=fun v σ H Q=>∃a xs,v=.ref a/\SqT K H a xs/\xs.length=n/\t xs σ H Q
theorem AH5 {k:Nat}{t:TGs}{n:Nat}(i:X.calm=true)(h:PGs X es t)
  (j:(BZ9 es X.env).length=n:=by rfl) (d:(BZ9 es X.env).findIdx? (·.1)=none:=by rfl):PG X (.Tuple es k pos) (BT3 X.K n t):=by
 intro c s l H v u Q I r f
 obtain⟨a,m,p,q,w,f⟩:=f
 subst p
 cases r
 obtain⟨x,g,y,B⟩:=I.tuple q
 refine assign_Tuple_tuple (I.ok.hd i) y (by simp[j,<-w,g.length]) d fun C z=>?_
 have A:=I.kept (t':=s.toks) fun b o e=>z b o (BX7 (BW1 e)) e
 exact h c _ l H m _ Q A (by simpa using g) f
def BT2 (to ti:TE)(t:BB0):TG:=fun v σ H Q=>to σ H fun o H1=>ti σ H1 fun i H2=>t o i v H2 fun H3=>Q σ H3
theorem BH9 {o i:Expr}{to ti:TE}{t:BB0}(ho:PE X o to)(hi:PE X i ti)(hs:BK8 X t)
  (z:∀v,assign (.Subscript o i pos) X.env v=(do
   let ov <-holding [v] (eval o X.env)
   let iv <-holding [v,ov] (eval i X.env)
   standAt pos
   holding [v,ov,iv] (setItem ov iv v)
   release [v,ov,iv] []):=by intro _;rfl):PG X (.Subscript o i pos) (BT2 to ti t):=by
 intro a s b H v u Q I r h
 refine BU3 (CA4 (thn (ho a s b H _ I h) fun ov c ⟨x,d,e,f,g⟩=>?_))
 refine BU3 (CA4 (thn (hi a c b d _ e g) fun iv j ⟨y,k,l,m,n⟩=>?_))
 refine BU3 (CI1 (BU3 (CA4 (thn (hs a j b k x y v ov iv u _ l f m r n) fun _ A ⟨p,q,w⟩=>?_))))
 exact wpAny_release ⟨b,p,q,w⟩
def BR3 (te:TE)(g:TG):TS:=fun D σ H=>te σ H fun x H1=>g x σ H1 D.nx
theorem AJ0 {te:TE}{g:TG}(c:PE X e te)(d:PG X tg g)(hs:swapsWithSole [tg] e pos.line X.env=pure false:=by rfl) (f:swappedStores [tg] e X.env=pure none:=by rfl)
  (h1:(BZ9 [tg] X.env).map (·.2)=[assign tg X.env]:=by rfl):PS X (.Assign [tg] e pos) (BR3 te g):=by
 intro a s b H D I h
 refine wpAny_Assign_stores (thn (c a s b H _ I h) fun v i ⟨x,j,k,l,m⟩=>?_) hs f
 rw[h1]
 exact thn (d a i b j x v _ k l m) fun _ n q=>q
theorem BI9 {te:TE}{pos':Pos}(b:X.N.Nodup)(hi:X.N[i]?=some x)(c:Loc X.env.scope x)(d:PE X e te)(hs:CJ8 e (some (.Name x pos')) pos.line X.env=pure false:=by rfl) (f:X.fn x=true\/X.env.scope.names.lookup x=some .local:=by first|exact .inl rfl|exact .inr rfl|assumption) :
  PS X (.Assign [.Name x pos'] e pos) (BR3 te (AY1 i)):=by
 intro a s g H D I h
 refine wpAny_Assign_Name (thn (d a s g H _ I h) fun v o ⟨y,j,k,l,m⟩=>?_) hs
 exact CW k b hi c l (fun p n=>⟨_,j,n,m⟩) f
def BT7 (i:Nat)(te:TE)(ti:TIp):TS:=fun D σ H=>∃x,σ[i]?=some (some x)/\te σ H fun y H1=>ti x y H1 fun z H2=>D.nx (σ.set i (some z)) H2
theorem BI8 {te:TE}{op:Operator}{ti:TIp}{pos':Pos}(p:X.N.Nodup)(hi:X.N[i]?=some x)(g:Loc X.env.scope x)(q:PE X e te)(ho:PIp X op ti)(t:X.fn x=true\/X.env.scope.names.lookup x=some .local:=by first|exact .inl rfl|exact .inr rfl|assumption) :
  PS X (.AugAssign (.Name x pos') op e pos) (BT7 i te ti):=by
 intro a s n H D I h
 obtain⟨v,B,h⟩:=h
 obtain⟨m,C,E⟩:=I.loc
 have j:Vis X.env.scope x:=by rcases g with k|k;exact .inl k;exact .inr (.inl k)
 obtain⟨u,r,l⟩:=E i x v hi B j
 refine wpAny_AugAssign_Name ?_
 have o:wpAny (model X.prog X.w) X.A (eval e X.env) (fun w d=>wpAny (model X.prog X.w) X.A (inplaceOp op u w) (fun r f=>wpAny (model X.prog X.w) X.A (storeName X.env x r) (fun _=>SP X a D .next) X.xe f) X.xe d) X.xe s:=by
  refine thn (q a s n H _ I h) fun w F ⟨y,G,J,K,L⟩=>?_
  refine thn (ho a F n G v y u w _ J r K L) fun z U ⟨V,M,O,P,Q⟩=>?_
  exact CW O p hi g P (fun W R=>⟨_,M,R,Q⟩) t
 rcases l with⟨hk,S⟩|⟨hk,c,T,b⟩
 ·exact wpAny_loadName_local I.ok.kind hk C S o
 ·rcases hk with hk|hk
  ·exact wpAny_loadName_cell I.ok.kind hk T b o
  ·rcases g with k|k
   ·have:X.env.scope.names.lookup x=some .free:=hk
    rw[k] at this;cases this
   ·have:X.env.scope.names.lookup x=some .free:=hk
    rw[k] at this;cases this
def ipI (f:Int->Int->Int):TIp:=fun x y H Q=>∃i j,x=.int i/\y=.int j/\Q (.int (f i j)) H
theorem BE1:PIp X .Add (ipI fun i j=>i+j):=by
 intro a s f H x y v u Q I b c h
 obtain⟨i,j,d,e,q⟩:=h
 subst d;subst e
 obtain⟨t,rfl⟩:=b
 obtain⟨g,rfl⟩:=c
 exact iadd_int ⟨.int _,H,I.tok _,⟨_,rfl⟩,q⟩
end
section
variable {X:Cx}{pos:Pos}
def BK0 (c:TT)(tb:TS):TS:=fun D σ H=>∃W:Nat->St->Hp->Prop,(∃m,W m σ H)/\∀m σ H,W m σ H ->
 c σ H fun b H1=>if b=true then∃N:St->Hp->Prop,(∀σ' H',N σ' H'->∃m',m'<m/\W m' σ' H')/\tb {D with nx:=N,ct:=N,bk:=D.nx} σ H1 else D.nx σ H1
theorem AJ3 {c:Expr}{tc:TT}{tb:TS}(t:PassesOwn (model X.prog X.w) X.A X.env X.xe)(C:PT X c tc)(E:PSs X body tb):PS X (.While c body [] pos) (BK0 tc tb):=by
 intro a s F H D I h
 obtain⟨W,⟨G,J⟩,g⟩:=h
 refine wpAny_While (codeAny_whileLoop (fun n K=>∃i u,Inv X a i u K/\W n i u) ?_ G ⟨F,H,I,J⟩)
 rintro n L ⟨e,x,M,O⟩
 refine CF1 t (thn (C a L e x _ M (g n e x O)) fun b P ⟨y,z,k⟩=>?_)
 cases b with
 | true =>
  obtain⟨N,B,k⟩:=k
  refine CF1 t (thn (E a P e y _ z k) fun f Q l=>?_)
  cases f with
  | next =>
   obtain⟨d,j,m,o⟩:=l
   obtain⟨p,q,r⟩:=B d j o
   exact⟨p,q,d,j,m,r⟩
  | cont =>
   obtain⟨d,j,m,o⟩:=l
   obtain⟨p,q,r⟩:=B d j o
   exact⟨p,q,d,j,m,r⟩
  | brk=>exact l
  | ret v=>exact l
 | false =>
  exact wpAny_execs_nil ⟨e,y,z,k⟩
end
structure It where
 go:Nat->Hp->Prop
 yld:Nat->Hp->V->Hp->Prop
 stop:Nat->Hp->Prop
def LS (X:Cx)(pins:List (Addr×Obj))(H:Hp)(b:Addr):Prop :=
 H b=none/\b≠X.env.locals/\b∉X.fs/\(b∈X.ex\/X.s₀.heap.objs.size<=b)/\(∀x c,X.env.cells.lookup x=some c->c≠b)/\∀p∈X.pn++pins,p.1≠b
theorem Inv.fpOk {X:Cx}{σ:St}{H H':Hp}{b:Addr}(I:Inv X pins σ H s)(a:s.heap.objs.size<=b)(d:H' b=none):LS X pins H' b:=by
 refine⟨d,Nat.ne_of_gt (BX9 I.lt a),I.nofs a,.inr (CA0 I.sz a),fun x c e z=>?_,fun p f z=>?_⟩
 ·obtain⟨v,q⟩:=I.cell x c e
  exact absurd (BX9 q.lt (by rw[z];exact a)) (CF0 _)
 ·exact absurd (BX9 (BW1 (I.pin p f).1) (by rw[z];exact a)) (CF0 _)
structure Turn (P:BY7)(w:World)(K:BU5)(tg:Expr)(J:It)(fp:List Addr)(it:Addr)(tn:Nat->Heap->Prop):Prop where
 mem:it∈fp
 obj:∀i h,tn i h->∀b∈fp,∃o,h.get? b=some o/\∀v,o.data≠.cell v
 keep:∀i h h',tn i h->(∀b∈fp,∀o,h.get? b=some o->h'.get? b=some o)->tn i h'
 item:∀(X:Cx),X.prog=P->X.w=w->X.K=K->X.calm=true->∀(i:Nat) (pins:List (Addr×Obj)) (s:BV1) (σ:St) (H:Hp) (E:Value->BV1->Prop),Inv X pins σ H s->(∀b∈fp,LS X pins H b)->tn i s.heap->J.go i H ->
  wpAny (model P w) X.A (pyNext (.ref it)) (fun r s1=>∃u,r=some u /\
   wpAny (model P w) X.A (CG6 tg (.ref it) u) (fun _ s2=>∃x H',Inv X pins σ H' s2/\RelV x u/\J.yld i H x H'/\tn (i+1) s2.heap/\∀b∈fp,H' b=none) E s1) E s
 done:∀(X:Cx),X.prog=P->X.w=w->X.K=K->X.calm=true->∀(i:Nat) (pins:List (Addr×Obj)) (s:BV1) (σ:St) (H:Hp) (E:Value->BV1->Prop),Inv X pins σ H s->(∀b∈fp,LS X pins H b)->tn i s.heap->J.stop i H ->
  wpAny (model P w) X.A (pyNext (.ref it)) (fun r s1=>r=none/\Inv X pins σ H s1) E s
 self:∀(A:CE0) (i:Nat) (s:BV1) (Q:Value->BV1->Prop) (E:Value->BV1->Prop),tn i s.heap->Q (.ref it) s->wpAny (model P w) A (pyIter (.ref it)) Q E s
abbrev TI:=St->Hp->(It->Hp->Prop)->Prop
def PIE (X:Cx)(pins:List (Addr×Obj))(σ:St)(tg:Expr)(R:It->Hp->Prop)(itv:Value)(s2:BV1):Prop :=
 ∃(it:Addr) (fp:List Addr) (tn:Nat->Heap->Prop) (J:It) (H':Hp),itv=.ref it/\Inv X pins σ H' s2/\Turn X.prog X.w X.K tg J fp it tn/\tn 0 s2.heap/\(∀b∈fp,LS X pins H' b)/\R J H'
def PI (X:Cx)(tg iter:Expr)(wi:TI):Prop :=
 ∀(pins:List (Addr×Obj)) (s:BV1) (σ:St) (H:Hp) (R:It->Hp->Prop),Inv X pins σ H s->wi σ H R ->
  wpAny (model X.prog X.w) X.A (eval iter X.env) (fun v s1=>wpAny (model X.prog X.w) X.A (pyIter v) (PIE X pins σ tg R) X.xe s1) X.xe s
theorem QH {M:Model}{E:Value->BV1->Prop}{n:String}{vs:Array Value}{Q:Unit->BV1->Prop}(ho:s.heap.get? it=some o)(b:o.cls=.type n)(hd:o.data=.fields vs)
  (c:["enumerate","zip","dict_itemiterator","dict_reverseitemiterator","odict_iterator","itertools.zip_longest","itertools.pairwise"].contains n=false) (a:Q () s):wpAny M A (CG6 tg (.ref it) u) Q E s:=by
 cases tg<;>first
  | exact BV0 a
  | (cases u<;>first
    | exact BV0 a
    | (refine BU3 (wpAny_load ho ?_)
       rw[b,hd]
       show wpAny M A (if (["enumerate","zip","dict_itemiterator","dict_reverseitemiterator","odict_iterator","itertools.zip_longest","itertools.pairwise"].contains n && vs[0]?==some (rawInt _))=true then _ else _) Q E s
       rw[if_neg (by intro h;rw[c,Bool.false_and] at h;cases h)]
       exact BV0 a))
def Itl (K:BU5)(a:Addr):It :=
 ⟨fun i H=>∃xs x,SqL K H a xs/\xs[i]?=some x,fun i H x H'=>H'=H/\∀xs,SqL K H a xs->xs[i]?=some x,fun i H=>∃xs,SqL K H a xs/\xs.length<=i⟩
def Itt (K:BU5)(a:Addr):It :=
 ⟨fun i H=>∃xs x,SqT K H a xs/\xs[i]?=some x,fun i H x H'=>H'=H/\∀xs,SqT K H a xs->xs[i]?=some x,fun i H=>∃xs,SqT K H a xs/\xs.length<=i⟩
def Itr (lo:Int)(n:Nat):It:=⟨fun i _=>i<n,fun i H x H'=>H'=H/\x=.int (lo+i),fun i _=>n<=i⟩
theorem LQ (a it:Addr):Turn P w K tg (Itl K a) [it] it (fun i h=>h.IsListIter it a i) where
 mem:=by simp
 obj:=fun i h st b f=>by
  have e:b=it:=by simpa using f
  subst e
  obtain⟨o,e,c,d⟩:=st
  exact⟨o,e,fun v z=>by rw[d] at z;cases z⟩
 keep:=fun i h n st k=>st.at fun o e=>k it (by simp) o e
 item:=by
  intro X q r t M i g s N H E I l st y
  subst q r t
  obtain⟨O,x,m,A⟩:=y
  obtain⟨B,C,p,Q⟩:=I.list m
  obtain⟨u,R,S⟩:=C.get A
  obtain⟨D,F,T,G,J,L⟩:=l it (by simp)
  refine wpAny_pyNext_list_item st p.isList (x:=u) (by simpa using R) fun n j U=>?_
  have V:=I.turned (t':=s.toks) (fun b o f e=>(U.2 b f).trans e) D F G J L
  obtain⟨o,e,c,d⟩:=id j
  exact⟨u,rfl,QH (s:={s with heap:=n}) e c d (by decide) ⟨x,H,V,S,⟨rfl,fun Z W=>by rw[I.list_inj W m];exact A⟩,j,fun b f=>(l b f).1⟩⟩
 done:=by
  intro X q r t M i g s N H E I l st y
  subst q r t
  obtain⟨O,m,A⟩:=y
  obtain⟨B,C,p,Q⟩:=I.list m
  obtain⟨D,F,T,G,J,L⟩:=l it (by simp)
  have hl:=C.length
  exact wpAny_pyNext_list_end (I.ok.hd M) st p.isList (by simp;lia) fun n Y=>⟨rfl,I.turned (t':=s.toks) (fun b o f e=>Y b o f e) D F G J L⟩
 self:=fun _ _ _ _ _ st h=>wpAny_pyIter_listiter st h
theorem IT (a it:Addr):Turn P w K tg (Itt K a) [it] it (fun i h=>h.IsTupleIter it a i) where
 mem:=by simp
 obj:=fun i h st b f=>by
  have e:b=it:=by simpa using f
  subst e
  obtain⟨o,e,c,d⟩:=st
  exact⟨o,e,fun v z=>by rw[d] at z;cases z⟩
 keep:=fun i h q st k=>st.at fun o e=>k it (by simp) o e
 item:=by
  intro X r t y M i j s N H E I m st A
  subst r t y
  obtain⟨O,x,n,B⟩:=A
  obtain⟨g,C,p,Q⟩:=I.tuple n
  obtain⟨u,R,S⟩:=C.get B
  obtain⟨D,F,T,G,J,L⟩:=m it (by simp)
  refine wpAny_pyNext_tuple_item st (show s.heap.IsTuple a g.toArray from p) (x:=u) (by simpa using R) fun q l U=>?_
  have V:=I.turned (t':=s.toks) (fun b o f e=>(U.2 b f).trans e) D F G J L
  obtain⟨o,e,c,d⟩:=id l
  exact⟨u,rfl,QH (s:={s with heap:=q}) e c d (by decide) ⟨x,H,V,S,⟨rfl,fun Z W=>by rw[I.tuple_inj W n];exact B⟩,l,fun b f=>(m b f).1⟩⟩
 done:=by
  intro X r t y M i j s N H E I m st A
  subst r t y
  obtain⟨O,n,B⟩:=A
  obtain⟨g,C,p,Q⟩:=I.tuple n
  obtain⟨D,F,T,G,J,L⟩:=m it (by simp)
  have hl:=C.length
  exact wpAny_pyNext_tuple_end (I.ok.hd M) st (show s.heap.IsTuple a g.toArray from p) (by simp;lia) fun q Y=>⟨rfl,I.turned (t':=s.toks) (fun b o f e=>Y b o f e) D F G J L⟩
 self:=fun _ _ _ _ _ st h=>wpAny_pyIter_tupleiter st h
theorem UO (it:Addr)(lo:Int)(n:Nat):Turn P w K tg (Itr lo n) [it] it (fun i h=>IsRangeIter h it (lo+(i:Nat)*1) ((n:Int)-(i:Nat)) 1) where
 mem:=by simp
 obj:=fun i h st b c=>by
  have e:b=it:=by simpa using c
  subst e
  exact⟨_,st,fun v z=>by
   have D:=z
   cases D⟩
 keep:=fun i h f st k=>k it (by simp) _ st
 item:=by
  intro X x y A j i a s B H E I g st l
  subst x y A
  obtain⟨m,p,F,q,r,u⟩:=g it (by simp)
  have W:=Walks.range (prog:=X.prog) (w:=X.w) (I.ok.hd j) it lo 1 n
  refine W.item i s _ _ l st fun v f C G d J=>?_
  obtain⟨t,rfl⟩:=G
  have L:Inv X a B H {s with heap:=f,toks:=C}:=I.turned (fun b o c e=>J b o (by simpa using c) e) m p q r u
  refine⟨_,rfl,QH (s:={s with heap:=f,toks:=C}) (n:="range_iterator") d rfl rfl (by decide) ⟨.int (lo+i),H,L,⟨t,?_⟩,⟨rfl,rfl⟩,d,fun b c=>(g b c).1⟩⟩
  rw[Int.mul_one]
 done:=by
  intro X x y A j i a s B H E I g st l
  obtain⟨m,p,F,q,r,u⟩:=g it (by simp)
  exact wpAny_pyNext_range_end (I.ok.hd j) st (by have:n<=i:=l;lia) fun f M=>⟨rfl,I.turned (t':=s.toks) (fun b o c e=>M b o c e) m p q r u⟩
 self:=fun _ _ _ _ _ st h=>wpAny_pyIter_rangeiter st h
section
variable {X:Cx}{tg:Expr}
def BM5 (K:BU5)(tl:TE):TI:=fun σ H R=>tl σ H fun x H1=>∃a,x=.ref a/\(∃xs,SqL K H1 a xs)/\R (Itl K a) H1
def BT4 (K:BU5)(tl:TE):TI:=fun σ H R=>tl σ H fun x H1=>∃a,x=.ref a/\(∃xs,SqT K H1 a xs)/\R (Itt K a) H1
theorem AU0 {tl:TE}(g:PE X l tl):PI X tg l (BM5 X.K tl):=by
 intro c s i H R I h
 refine thn (g c s i H _ I h) fun v d ⟨x,j,f,k,m⟩=>?_
 obtain⟨a,e,⟨u,n⟩,q⟩:=m
 subst e
 cases k
 obtain⟨r,w,p,y⟩:=f.list n
 refine wpAny_pyIter_list p.isList ?_
 refine⟨d.heap.objs.size,[d.heap.objs.size],_,_,j,rfl,f.kept (t':=d.toks) fun b o e=>BU6 _ e,LQ a _,⟨_,BW4 _ rfl,rfl,rfl⟩,fun b t=>?_,q⟩
 have e:b=d.heap.objs.size:=by simpa using t
 subst e
 exact f.fpOk (BU4 _) (f.hok.fresh (BU4 _))
theorem BI1 {tl:TE}(i:PE X l tl):PI X tg l (BT4 X.K tl):=by
 intro c s j H R I h
 refine thn (i c s j H _ I h) fun v d ⟨x,k,f,m,n⟩=>?_
 obtain⟨a,e,⟨u,r⟩,q⟩:=n
 subst e
 cases m
 obtain⟨g,w,p,y⟩:=f.tuple r
 refine CJ2 (show d.heap.IsTuple a g.toArray from p) ?_
 refine⟨d.heap.objs.size,[d.heap.objs.size],_,_,k,rfl,f.kept (t':=d.toks) fun b o e=>BU6 _ e,IT a _,⟨_,BW4 _ rfl,rfl,rfl⟩,fun b t=>?_,q⟩
 have e:b=d.heap.objs.size:=by simpa using t
 subst e
 exact f.fpOk (BU4 _) (f.hok.fresh (BU4 _))
theorem RK {σ:St}{H:Hp}{R:It->Hp->Prop}{E:Value->BV1->Prop}{lo hi:Int}{t u v:Tok}{tk:Nat}(I:Inv X pins σ H s)(h1:-(2^62)<=lo)(h2:lo<2^62)(c:-(2^62)<=hi)(d:hi<2^62)
  (q:R (Itr lo (hi-lo).toNat) H):wpAny (model X.prog X.w) X.A (pyIter (.ref s.heap.objs.size)) (PIE X pins σ tg R) E {s with heap:=s.heap.push {cls:=.type "range",data:=.fields #[.int lo t,.int hi u,.int 1 v]},toks:=tk}:=by
 refine wpAny_pyIter_range (IsRange.new ..) (small_one h1 h2 c d) ?_
 have a:Inv X pins σ H {s with heap:=s.heap.push {cls:=.type "range",data:=.fields #[.int lo t,.int hi u,.int 1 v]},toks:=tk}:=I.kept fun b o e=>BU6 _ e
 refine⟨(s.heap.push {cls:=.type "range",data:=.fields #[.int lo t,.int hi u,.int 1 v]}).objs.size,[(s.heap.push {cls:=.type "range",data:=.fields #[.int lo t,.int hi u,.int 1 v]}).objs.size],_,_,H,rfl,
  a.kept (t':=tk) fun b o e=>BU6 _ e,UO _ lo (hi-lo).toNat,?_,fun b f=>?_,q⟩
 ·have g:lo+((0:Nat):Int)*1=lo:=by simp
  have h:(((hi-lo).toNat:Nat):Int)-((0:Nat):Int)=BV9 lo hi 1:=by rw[rangeSize_one];split<;>lia
  rw[g,h]
  exact BW4 _ rfl
 ·have e:b=(s.heap.push {cls:=.type "range",data:=.fields #[.int lo t,.int hi u,.int 1 v]}).objs.size:=by simpa using f
  subst e
  exact a.fpOk (BU4 _) (a.hok.fresh (BU4 _))
def BM6 (ta:TA):TI:=fun σ H R=>ta σ H fun vs H1=>∃j:Int,vs=[.int j]/\-(2^62)<=j/\j<2^62/\R (Itr 0 j.toNat) H1
def BM7 (ta:TA):TI:=fun σ H R=>ta σ H fun vs H1=>∃i j:Int,vs=[.int i,.int j]/\(-(2^62)<=i/\i<2^62/\-(2^62)<=j/\j<2^62)/\R (Itr i (j-i).toNat) H1
theorem ZH {a:Expr}{ta:TA}{p:Pos}(d:Gl X "range")(f:X.mg "range"=none)(g:PA X [a] ta)(hs:BX4 [a] X.env=[(false,eval a X.env)]:=by rfl):PI X tg (.Call (.Name "range" p) [a] [] pos) (BM6 ta):=by
 intro b s i H R I h
 refine Call_ (BI I d f boot_range (CB6 (thn (g pos b s i H _ I h) fun o u ⟨v,w,k,l,c⟩=>?_) hs rfl))
 obtain⟨j,e,c,m,q⟩:=c
 subst e
 cases l with
 | cons r n =>
  cases n
  obtain⟨t,rfl⟩:=r
  exact call_range_1 (RK k (by lia) (by lia) c m (by simpa using q))
theorem ZI {a b:Expr}{ta:TA}{p:Pos}(k:Gl X "range")(l:X.mg "range"=none)(m:PA X [a,b] ta)(hs:BX4 [a,b] X.env=[(false,eval a X.env),(false,eval b X.env)]:=by rfl) (c:BX4 [b] X.env=[(false,eval b X.env)]:=by rfl) :
  PI X tg (.Call (.Name "range" p) [a,b] [] pos) (BM7 ta):=by
 intro d s n H R I h
 refine Call_ (BI I k l boot_range (CB6 (thn (m pos d s n H _ I h) fun z A ⟨B,C,o,u,f⟩=>?_) (by rw[hs,c]) (by rw[c];rfl)))
 obtain⟨i,j,e,⟨f,v,w,x⟩,q⟩:=f
 subst e
 cases u with
 | cons r g =>
  cases g with
  | cons y g =>
   cases g
   obtain⟨t,rfl⟩:=r
   obtain⟨D,rfl⟩:=y
   exact call_range_2 (RK o f v w x q)
def BT8 (wi:TI)(g:TG)(tb:TS):TS:=fun D σ H=>wi σ H fun J H1=>∃W:Nat->Nat->St->Hp->Prop,(∃m,W 0 m σ H1)/\∀i m σ H,W i m σ H ->
 (J.stop i H/\D.nx σ H)\/(J.go i H/\∃N:St->Hp->Prop,(∀σ' H',N σ' H'->∃m',m'<m/\W (i+1) m' σ' H')/\∀x H',J.yld i H x H'->g x σ H' fun σ2 H2=>tb {D with nx:=N,ct:=N,bk:=D.nx} σ2 H2)
def HK (fp:List Addr)(h:Heap):List (Addr×Obj):=fp.filterMap fun b=>(h.get? b).map fun o=>(b,o)
theorem U2 {b:Addr}(a:b∈fp)(e:h.get? b=some o):(b,o)∈HK fp h:=List.mem_filterMap.mpr ⟨b,a,by rw[e];rfl⟩
theorem YV {p:Addr×Obj}(a:p∈HK fp h):p.1∈fp/\h.get? p.1=some p.2:=by
 obtain⟨b,c,e⟩:=List.mem_filterMap.mp a
 cases q:h.get? b with
 | none=>rw[q] at e;cases e
 | some o =>
  rw[q] at e
  have d:=Option.some.inj e
  subst d
  exact⟨c,q⟩
theorem Inv.pinned {σ:St}{H:Hp}(I:Inv X pins σ H s)(f:∀b∈fp,LS X pins H b)(ho:∀b∈fp,∃o,s.heap.get? b=some o/\∀v,o.data≠.cell v):Inv X (pins++HK fp s.heap) σ H s :=
 I.pins_of fun p g=>(List.mem_append.mp g).elim (fun z=>I.pin p (BW9 _ z)) fun z=>by
  obtain⟨a,e⟩:=YV z
  obtain⟨h,i,j,_⟩:=f p.1 a
  obtain⟨o,c,d⟩:=ho p.1 a
  rw[e] at c;cases c
  exact⟨e,h,i,j,d⟩
theorem Inv.unpinned {a:List (Addr×Obj)}{σ:St}{H:Hp}(I:Inv X (pins++a) σ H s):Inv X pins σ H s:=I.pins_of fun p b=>I.pin p (BW9 _ (CH3 _ b))
theorem AJ1 {V:TI}{g:TG}{tb:TS}(B:PassesOwn (model X.prog X.w) X.A X.env X.xe)(Y:X.calm=true)(hi:PI X tg iter V)(hg:PG X tg g)(j:PSs X body tb)
  (hs:∀x,CF5 iter X.env x=pure x:=by intro _;rfl):PS X (.For tg iter body [] pos) (BT8 V g tb):=by
 intro a s Z H D I h
 refine wpAny_For (thn (hi a s Z H _ I h) fun v s1 h1=>thn h1 fun itv s2 h2=>?_) hs
 obtain⟨it,C,tn,J,H2,e,I2,T,O,f2,W,⟨m0,w0⟩,E⟩:=h2
 subst e
 have k:∀{H':Hp},(∀b∈C,H' b=none)->∀b∈C,LS X a H' b:=fun hn b j=>⟨hn b j,(f2 b j).2⟩
 refine codeAny_forLoop_any (fun n s'=>∃i l H',Inv X a l H' s'/\tn i s'.heap/\(∀b∈C,H' b=none)/\W i n l H') ?_ m0 ⟨0,Z,H2,I2,O,fun b j=>(f2 b j).1,w0⟩
 rintro n s3 ⟨i,p,M,I3,F,G,w3⟩
 rcases E i n p M w3 with⟨K,qn⟩|⟨go,N,hN,step⟩
 ·refine CF1 B (thn (T.done X rfl rfl rfl Y i a s3 p M X.xe I3 (k G) F K) fun r s4 ⟨P,I4⟩=>?_)
  subst P
  exact wpAny_execs_nil ⟨p,M,I4,qn⟩
 ·refine CF1 B (thn (T.item X rfl rfl rfl Y i a s3 p M X.xe I3 (k G) F go) fun r s4 ⟨u,P,h4⟩=>?_)
  subst P
  refine CF1 B (thn h4 fun _ s5 ⟨x,H5,I5,r5,y5,z,Q⟩=>?_)
  have R:=I5.pinned (k Q) (T.obj _ _ z)
  refine CF1 B (thn (hg _ s5 p H5 x u _ R r5 (step x H5 y5)) fun _ s6 ⟨S,H6,I6,q6⟩=>?_)
  refine CF1 B (thn (j _ s6 S H6 _ I6 q6) fun f U y=>?_)
  have again:∀{c:St} {q:Hp},Inv X (a++HK C s5.heap) c q U->N c q->∃m,m<n/\∃i l H',Inv X a l H' U/\tn i U.heap/\(∀b∈C,H' b=none)/\W i m l H':=fun{c q} t L=>by
   obtain⟨m',hm,w7⟩:=hN c q L
   refine⟨m',hm,i+1,c,q,t.unpinned,T.keep _ _ _ z fun b j o e=>(t.pin (b,o) (BW9 _ (BW9 _ (U2 j e)))).1,fun b j=>?_,w7⟩
   obtain⟨o,e,d⟩:=T.obj _ _ z b j
   exact(t.pin (b,o) (BW9 _ (BW9 _ (U2 j e)))).2.1
  cases f with
  | next=>obtain⟨c,q,t,L⟩:=y;exact again t L
  | cont=>obtain⟨c,q,t,L⟩:=y;exact again t L
  | brk=>obtain⟨c,q,t,y⟩:=y;exact⟨c,q,t.unpinned,y⟩
  | ret v=>obtain⟨x7,c,q,t,r7,y⟩:=y;exact⟨x7,c,q,t.unpinned,r7,y⟩
end
abbrev R2:=V->V->Hp->VK->Prop
def OpR (X:Cx)(f:Value->Value->Sem Value)(r:R2):Prop :=
 ∀(pins:List (Addr×Obj)) (s:BV1) (σ:St) (H:Hp) (x y:V) (v u:Value) (Q:VK),Inv X pins σ H s->RelV x v->RelV y u->r x y H Q ->
  wpAny (model X.prog X.w) X.A (f v u) (EP X pins σ Q) X.xe s
def UnR (X:Cx)(f:Value->Sem Value)(r:V->Hp->VK->Prop):Prop :=
 ∀(pins:List (Addr×Obj)) (s:BV1) (σ:St) (H:Hp) (x:V) (v:Value) (Q:VK),Inv X pins σ H s->RelV x v->r x H Q ->
  wpAny (model X.prog X.w) X.A (f v) (EP X pins σ Q) X.xe s
def CallR (X:Cx)(f:Value)(r:List V->Hp->VK->Prop):Prop :=
 ∀(pins:List (Addr×Obj)) (s:BV1) (σ:St) (H:Hp) (xs:List V) (us:List Value) (Q:VK),Inv X pins σ H s->Vals xs us->r xs H Q ->
  wpAny (model X.prog X.w) X.A (call f us) (EP X pins σ Q) X.xe s
def rI (C:Int->Int->Prop)(g:Int->Int->V):R2:=fun x y H Q=>∃i j,x=.int i/\y=.int j/\C i j/\Q (g i j) H
def rI0 (g:Int->Int->V):R2:=fun x y H Q=>∃i j,x=.int i/\y=.int j/\Q (g i j) H
def rU (g:Int->V):V->Hp->VK->Prop:=fun x H Q=>∃i,x=.int i/\Q (g i) H
section
variable {X:Cx}{a b c:Expr}{ta tb tc:TE}{pos:Pos}
theorem opI {f:Value->Value->Sem Value}{g:Int->Int->Int}
  (rule:∀(i j:Int) (t u:Tok) (s:BV1) (Q:Value->BV1->Prop) (E:Value->BV1->Prop),C i j->Q (.int (g i j) s.toks) {s with toks:=s.toks+1}->wpAny (model X.prog X.w) X.A (f (.int i t) (.int j u)) Q E s) :
  OpR X f (rI C fun i j=>.int (g i j)):=by
 intro a s k H x y v u Q I b c h
 obtain⟨i,j,rfl,rfl,d,q⟩:=h
 obtain⟨t,rfl⟩:=b
 obtain⟨e,rfl⟩:=c
 exact rule i j t e s _ _ d ⟨.int (g i j),H,I.tok _,⟨_,rfl⟩,q⟩
theorem BO5 {f:Value->Value->Sem Value}{g:Int->Int->Int}
  (rule:∀(i j:Int) (t u:Tok) (s:BV1) (Q:Value->BV1->Prop) (E:Value->BV1->Prop),Q (.int (g i j) s.toks) {s with toks:=s.toks+1}->wpAny (model X.prog X.w) X.A (f (.int i t) (.int j u)) Q E s) :
  OpR X f (rI0 fun i j=>.int (g i j)):=by
 intro a s e H x y v u Q I b c h
 obtain⟨i,j,rfl,rfl,q⟩:=h
 obtain⟨t,rfl⟩:=b
 obtain⟨d,rfl⟩:=c
 exact rule i j t d s _ _ ⟨.int (g i j),H,I.tok _,⟨_,rfl⟩,q⟩
theorem AR5 {f:Value->Value->Sem Value}{g:Int->Int->Bool}
  (rule:∀(i j:Int) (t u:Tok) (s:BV1) (Q:Value->BV1->Prop) (E:Value->BV1->Prop),Q (.bool (g i j)) s->wpAny (model X.prog X.w) X.A (f (.int i t) (.int j u)) Q E s) :
  OpR X f (rI0 fun i j=>.bl (g i j)):=by
 intro a s e H x y v u Q I b c h
 obtain⟨i,j,rfl,rfl,q⟩:=h
 obtain⟨t,rfl⟩:=b
 obtain⟨d,rfl⟩:=c
 exact rule i j t d s _ _ ⟨.bl (g i j),H,I,rfl,q⟩
def BA3 (i j:Int):Prop:=0<=j/\j<=1000000/\i.natAbs<2^64
def CMul (i j:Int):Prop:=(-(2^64)<i/\i<2^64)\/(-(2^64)<j/\j<2^64)
theorem CMul.ok {i j:Int}(h:CMul i j):IntMulOk i j:=by
 rcases h with⟨a,b⟩|⟨a,b⟩
 ·exact .of_left (intBits_le_64 a b)
 ·exact .of_right (intBits_le_64 a b)
theorem BG0:OpR X (CE2 .Add) (rI0 fun i j=>.int (i+j)):=BO5 fun _ _ _ _ _ _ _ q=>add_int q
theorem BG4:OpR X (CE2 .Sub) (rI0 fun i j=>.int (i-j)):=BO5 fun _ _ _ _ _ _ _ q=>sub_int q
theorem BG2:OpR X (CE2 .Mod) (rI (fun _ j=>0<j) fun i j=>.int (i % j)):=opI fun i j _ _ _ _ _ a q=>by
 exact mod_int' (by lia) (by rw[Int.fmod_eq_emod_of_nonneg i (by lia)];exact q)
theorem BG3:OpR X (CE2 .Pow) (rI BA3 fun i j=>.int (i^j.toNat)):=opI fun _ _ _ _ _ _ _ a q=>pow_int_small a.1 a.2.1 a.2.2 q
theorem unI {f:Value->Sem Value}{g:Int->Int}
  (rule:∀(i:Int) (t:Tok) (s:BV1) (Q:Value->BV1->Prop) (E:Value->BV1->Prop),Q (.int (g i) s.toks) {s with toks:=s.toks+1}->wpAny (model X.prog X.w) X.A (f (.int i t)) Q E s) :
  UnR X f (rU fun i=>.int (g i)):=by
 intro a s c H x v Q I b h
 obtain⟨i,rfl,q⟩:=h
 obtain⟨t,rfl⟩:=b
 exact rule i t s _ _ ⟨.int (g i),H,I.tok _,⟨_,rfl⟩,q⟩
theorem BK2:UnR X (unaryOp .USub) (rU fun i=>.int (-i)):=unI fun _ _ _ _ _ q=>neg_int q
end
def BQ6:V->V->Bool
 | .non,.non=>true|.non,.int _=>true|.int _,.non=>true|.non,.bl _=>true|.bl _,.non=>true|.non,.str _=>true|.str _,.non=>true
 | .int _,.int _=>true|.bl _,.bl _=>true|.str _,.str _=>true|.byt _,.byt _=>true
 | .int _,.str _=>true|.str _,.int _=>true|.bl _,.str _=>true|.str _,.bl _=>true
 | _,_=>false
def rEq:R2:=fun x y H Q=>BQ6 x y=true/\Q (.bl (decide (x=y))) H
def rNe:R2:=fun x y H Q=>BQ6 x y=true/\Q (.bl (!decide (x=y))) H
theorem VH {i j:Int}:decide (V.int i=V.int j)=(i==j):=by
 rw[CE8]
 simp
theorem AC8 {i j:Bool}:decide (V.bl i=V.bl j)=(i==j):=by
 rw[CE8]
 simp
theorem FN {i j:Str}:decide (V.str i=V.str j)=(i==j):=by
 rw[CE8]
 simp
theorem VG {i j:Array UInt8}:decide (V.byt i=V.byt j)=(i.toList==j.toList):=by
 rw[CE8]
 cases i
 cases j
 simp
section
variable {X:Cx}{a b c:Expr}{ta tb tc:TE}{pos:Pos}
theorem D1 {σ:St}{H:Hp}{Q:VK}{k a:Bool}(I:Inv X pins σ H s)(q:Q (.bl k) H)(e:k=a):EP X pins σ Q (.bool a) s:=by
 subst e
 exact⟨.bl k,H,I,rfl,q⟩
theorem BO6:OpR X (BY6 .Eq) rEq:=by
 intro e s f H x y v u Q I d a h
 obtain⟨c,q⟩:=h
 cases x with
 | non =>
  cases d
  cases y with
  | non=>cases a;exact PySem.EqNone.eq_none_none (D1 I q (by simp))
  | bl j=>cases a;exact PySem.EqNone.eq_none_bool (D1 I q (by simp))
  | int j=>obtain⟨b,rfl⟩:=a;exact PySem.EqNone.eq_none_int (D1 I q (by simp))
  | str j=>obtain⟨b,rfl⟩:=a;exact PySem.EqNone.eq_none_str (D1 I q (by simp))
  | _=>exact absurd (show false=true from c) BU9
 | bl i =>
  cases d
  cases y with
  | non=>cases a;exact PySem.EqNone.eq_bool_none (D1 I q (by simp))
  | bl j=>cases a;exact eq_bool (D1 I q AC8)
  | str j=>obtain⟨b,rfl⟩:=a;exact PySem.EqMixed.eq_bool_str (D1 I q (by simp))
  | _=>exact absurd (show false=true from c) BU9
 | int i =>
  obtain⟨t,rfl⟩:=d
  cases y with
  | non=>cases a;exact PySem.EqNone.eq_int_none (D1 I q (by simp))
  | int j=>obtain⟨b,rfl⟩:=a;exact eq_int (D1 I q VH)
  | str j=>obtain⟨b,rfl⟩:=a;exact PySem.EqMixed.eq_int_str (D1 I q (by simp))
  | _=>exact absurd (show false=true from c) BU9
 | str i =>
  obtain⟨t,rfl⟩:=d
  cases y with
  | non=>cases a;exact PySem.EqNone.eq_str_none (D1 I q (by simp))
  | bl j=>cases a;exact PySem.EqMixed.eq_str_bool (D1 I q (by simp))
  | int j=>obtain⟨b,rfl⟩:=a;exact PySem.EqMixed.eq_str_int (D1 I q (by simp))
  | str j=>obtain⟨b,rfl⟩:=a;exact eq_str (D1 I q FN)
  | _=>exact absurd (show false=true from c) BU9
 | byt i =>
  obtain⟨t,rfl⟩:=d
  cases y with
  | byt j=>obtain⟨b,rfl⟩:=a;exact PySem.W.eq_bytes (D1 I q VG)
  | _=>exact absurd (show false=true from c) BU9
 | _=>cases y<;>exact absurd (show false=true from c) BU9
theorem BP1:OpR X (BY6 .NotEq) rNe:=by
 intro e s f H x y v u Q I d a h
 obtain⟨c,q⟩:=h
 cases x with
 | non =>
  cases d
  cases y with
  | non=>cases a;exact PySem.EqNone.ne_none_none (D1 I q (by simp))
  | bl j=>cases a;exact PySem.EqNone.ne_none_bool (D1 I q (by simp))
  | int j=>obtain⟨b,rfl⟩:=a;exact PySem.EqNone.ne_none_int (D1 I q (by simp))
  | str j=>obtain⟨b,rfl⟩:=a;exact PySem.EqNone.ne_none_str (D1 I q (by simp))
  | _=>exact absurd (show false=true from c) BU9
 | bl i =>
  cases d
  cases y with
  | non=>cases a;exact PySem.EqNone.ne_bool_none (D1 I q (by simp))
  | bl j=>cases a;exact ne_bool (D1 I q (congrArg not AC8))
  | str j=>obtain⟨b,rfl⟩:=a;exact PySem.EqMixed.ne_bool_str (D1 I q (by simp))
  | _=>exact absurd (show false=true from c) BU9
 | int i =>
  obtain⟨t,rfl⟩:=d
  cases y with
  | non=>cases a;exact PySem.EqNone.ne_int_none (D1 I q (by simp))
  | int j=>obtain⟨b,rfl⟩:=a;exact ne_int (D1 I q (congrArg not VH))
  | str j=>obtain⟨b,rfl⟩:=a;exact PySem.EqMixed.ne_int_str (D1 I q (by simp))
  | _=>exact absurd (show false=true from c) BU9
 | str i =>
  obtain⟨t,rfl⟩:=d
  cases y with
  | non=>cases a;exact PySem.EqNone.ne_str_none (D1 I q (by simp))
  | bl j=>cases a;exact PySem.EqMixed.ne_str_bool (D1 I q (by simp))
  | int j=>obtain⟨b,rfl⟩:=a;exact PySem.EqMixed.ne_str_int (D1 I q (by simp))
  | str j=>obtain⟨b,rfl⟩:=a;exact ne_str (D1 I q (congrArg not FN))
  | _=>exact absurd (show false=true from c) BU9
 | byt i =>
  obtain⟨t,rfl⟩:=d
  cases y with
  | byt j=>obtain⟨b,rfl⟩:=a;exact PySem.W.ne_bytes (D1 I q (congrArg not VG))
  | _=>exact absurd (show false=true from c) BU9
 | _=>cases y<;>exact absurd (show false=true from c) BU9
theorem BP0:OpR X (BY6 .Lt) (rI0 fun i j=>.bl (decide (i<j))):=AR5 fun _ _ _ _ _ _ _ q=>lt_int q
theorem BO9:OpR X (BY6 .LtE) (rI0 fun i j=>.bl (decide (i<=j))):=AR5 fun _ _ _ _ _ _ _ q=>le_int q
theorem BO8:OpR X (BY6 .Gt) (rI0 fun i j=>.bl (decide (j<i))):=AR5 fun _ _ _ _ _ _ _ q=>gt_int q
theorem BO7:OpR X (BY6 .GtE) (rI0 fun i j=>.bl (decide (j<=i))):=AR5 fun _ _ _ _ _ _ _ q=>ge_int q
theorem YW:OpR X (BY6 .In) (fun x y H Q=>∃i j,x=.str i/\y=.str j/\Q (.bl (!(CH9 j i 0 j.length 1).isEmpty)) H):=by
 intro a s d H x y v u Q I b c h
 obtain⟨i,j,rfl,rfl,q⟩:=h
 obtain⟨t,rfl⟩:=b
 obtain⟨e,rfl⟩:=c
 exact in_str (D1 I q rfl)
theorem BG1:OpR X (BY6 .Is) (fun x y H Q=>y=.non/\Q (.bl (decide (x=.non))) H):=by
 intro a s d H x y v u Q I b c h
 obtain⟨rfl,q⟩:=h
 cases c
 refine is_none_gen (D1 I q ?_)
 cases x<;>first
  | (cases b;rfl)
  | (obtain⟨t,rfl⟩:=b;rfl)
theorem AR7:OpR X (BY6 .IsNot) (fun x y H Q=>y=.non/\Q (.bl (!decide (x=.non))) H):=by
 intro a s d H x y v u Q I b c h
 obtain⟨rfl,q⟩:=h
 cases c
 refine isnot_none_gen (D1 I q ?_)
 cases x<;>first
  | (cases b;rfl)
  | (obtain⟨t,rfl⟩:=b;rfl)
theorem NR:OpR X (BY6 .NotIn) (fun x y H Q=>∃i j,x=.str i/\y=.str j/\Q (.bl (!(!(CH9 j i 0 j.length 1).isEmpty))) H):=by
 intro a s d H x y v u Q I b c h
 obtain⟨i,j,rfl,rfl,q⟩:=h
 obtain⟨t,rfl⟩:=b
 obtain⟨e,rfl⟩:=c
 exact notIn_str (D1 I q rfl)
theorem DW:(BV8:Nat)<2^63:=by decide
theorem TM:OpR X (CE2 .Add) (fun x y H Q=>∃i j,x=.str i/\y=.str j/\i.length+j.length<=BV8/\Q (.str (i++j)) H):=by
 intro a s f H x y v u Q I b c h
 obtain⟨i,j,rfl,rfl,d,q⟩:=h
 obtain⟨t,rfl⟩:=b
 obtain⟨e,rfl⟩:=c
 exact add_str (fun e g=>⟨.str (i++j),H,I.tok _,⟨_,rfl⟩,q⟩) d
theorem vals1 {x:V}(r:Vals [x] us):∃u,us=[u]/\RelV x u:=by
 cases r with
 | cons a b=>cases b;exact⟨_,rfl,a⟩
theorem vals2 {x y:V}(r:Vals [x,y] us):∃u w',us=[u,w']/\RelV x u/\RelV y w':=by
 cases r with
 | cons a b =>
  cases b with
  | cons c d=>cases d;exact⟨_,_,rfl,a,c⟩
theorem XU (c:X.calm=true):CallR X (.builtin "max") (fun xs H Q=>∃i j,xs=[.int i,.int j]/\Q (.int (if j>i then j else i)) H):=by
 intro b s d H xs e Q I r h
 obtain⟨i,j,rfl,q⟩:=h
 obtain⟨u,f,rfl,⟨t,rfl⟩,⟨g,rfl⟩⟩:=vals2 r
 refine max_two_ints (I.ok.hd c) fun l m k=>⟨_,H,I.kept k,?_,q⟩
 by_cases a:j>i
 ·rw[if_pos a,if_pos a];exact⟨_,rfl⟩
 ·rw[if_neg a,if_neg a];exact⟨_,rfl⟩
theorem XT:CallR X (.type "int") (fun xs H Q=>(∃i,xs=[.int i]/\Q (.int i) H)\/∃k,xs=[.bl k]/\Q (.int (if k then 1 else 0)) H):=by
 intro a s c H xs d Q I r h
 rcases h with⟨i,rfl,q⟩|⟨k,rfl,q⟩
 ·obtain⟨u,rfl,t,rfl⟩:=vals1 r
  exact call_int_int ⟨.int i,H,I,⟨_,rfl⟩,q⟩
 ·obtain⟨u,rfl,b⟩:=vals1 r
  cases b
  exact call_int_bool ⟨.int (if k then 1 else 0),H,I.tok _,⟨_,rfl⟩,q⟩
end
section
variable {prog:BY7}{w:World}{A:CE0}{E:Value->BV1->Prop}{s:BV1}{K:BU5}{x dx C f:Addr}{mA:Str->Option Value}{name:Str}{v:Value}
end
theorem RelO.some_of {v:V}{o:Option Value}(r:RelO (some v) o):∃u,o=some u/\RelV v u:=by
 cases o with
 | none=>exact(show False from r).elim
 | some u=>exact⟨u,rfl,r⟩
section
variable {P:BY7}{w:World}{H H':Hp}{h h':Heap}{a C dx:Addr}{fs fs':List (Str×V)}
end
section
variable {X:Cx}{pins:List (Addr×Obj)}{σ:St}{H:Hp}{s:BV1}{a C dx:Addr}{fs:List (Str×V)}{f:Str}{v:V}{A:CE0}{E:Value->BV1->Prop}
end
section
variable {X:Cx}{o e value:Expr}{f:Str}{pos pos' tpos:Pos}{ta tv:TE}
end
section
variable {X:Cx}{pins:List (Addr×Obj)}{σ:St}{H:Hp}{s:BV1}{A:CE0}{E:Value->BV1->Prop}{Q:Value->BV1->Prop}{c:Value}{b:Bool}
end
structure Room (k:Nat)(A:CE0):Prop where
 hd:A.handled=none
 dp:A.depth+3*k+5<recursionLimit
 un:A.units+16*k+200<cLine
 gd:A.guards=some []
theorem Room.mono {k:Nat}(r:Room k A)(h:j<=k):Room j A:=⟨r.hd,by have:=r.dp;lia,by have:=r.un;lia,r.gd⟩
theorem Room.deeper {k:Nat}(r:Room (k+1) A)(env:Env):Room k (A.deeper env) :=
 ⟨r.hd,by have:=r.dp;show A.depth+1+3*k+5<_;lia,by have:=r.un;show A.units+3+16*k+200<_;lia,r.gd⟩
theorem Room.depth {k:Nat}(r:Room k A):A.depth<recursionLimit:=by have:=r.dp;lia
theorem Room.units {k:Nat}(r:Room k A):A.units+64<cLine:=by have:=r.un;lia
def BU0:TA:=fun _ H Q=>Q [] H
section
variable {X:Cx}{e:Expr}{es:List Expr}{te:TE}{t:TA}{pos:Pos}
def BU1 (t:TA):TE:=fun σ H Q=>t σ H fun xs H1=>xs.length<=BV8/\∀p,H1 p=none->Q (.ref p) (upd H1 p (.tup xs))
def BT9 (t:TA):TE:=fun σ H Q=>t σ H fun xs H1=>xs.length<=BV8/\∀p,H1 p=none->Q (.ref p) (upd H1 p (.lst xs))
theorem BH7 {x1}(h:PA X es t):PE X (.Tuple es x1 pos) (BU1 t):=by
 intro a s f H Q I g
 refine wpAny_Tuple_spliced (thn (h pos a s f H _ I g) fun i c ⟨j,k,d,r,z,q⟩=>⟨by rw[<-r.length];exact z,?_⟩)
 have l:=d.hok.fresh (BU4 _)
 refine⟨.ref c.heap.objs.size,upd k c.heap.objs.size (.tup j),d.laid (t':=c.toks) (fun b u e=>BU6 _ e) (BU4 _) ?_,rfl,q _ l⟩
 exact⟨z,i,r,⟨_,BW4 _ rfl,rfl,_,rfl⟩⟩
theorem AH3 (h:PA X es t):PE X (.List es pos) (BT9 t):=by
 intro a s f H Q I g
 refine wpAny_List_spliced (thn (h pos a s f H _ I g) fun i c ⟨j,k,d,r,z,q⟩=>⟨by rw[<-r.length];exact z,?_⟩)
 have l:=d.hok.fresh (BU4 _)
 refine⟨.ref c.heap.objs.size,upd k c.heap.objs.size (.lst j),d.laid (t':=c.toks) (fun b u e=>BU6 _ e) (BU4 _) ?_,rfl,q _ l⟩
 exact⟨z,i,0,r,BW4 _ rfl⟩
end
abbrev Sp:=List V->Hp->VK->XK->Prop
abbrev CXT:=List Env->Hp->BV1->XK->Value->BV1->Prop
structure AN6 (P:BY7)(w:World)(K:BU5)(mg:Str->Option Value)(base:Heap)(A:CE0)(outer:List Env)(s:BV1)(H:Hp):Prop where
 frames:A.frames=some outer
 mod:Mod K mg base
 bs:∀b o,base.get? b=some o->s.heap.get? b=some o/\H b=none
 bsz:base.objs.size<=s.heap.objs.size
 funs:s.heap.FunFrames base outer
 frf:∀b∈frs outer,H b=none
 hok:HOk P w H s.heap
 bare:AllBare s.gens
def CE (outer:List Env)(P:BY7)(w:World)(H:Hp)(s:BV1)(Q:VK)(u:Value)(s':BV1):Prop :=
 ∃v H',s'.os=s.os/\AllBare s'.gens/\Un (frs outer) [] H H' s.heap s'.heap/\HOk P w H' s'.heap/\RelV v u/\Q v H'
def CR (CX:CXT)(outer:List Env)(P:BY7)(w:World)(H:Hp)(s:BV1)(Q:VK)(E:XK)(r:Result)(s':BV1):Prop :=
 match r with
 | .ok (.ret u)=>CE outer P w H s Q u s'
 | .ok _=>False
 | .error e=>CX outer H s E e s'
structure AL (P:BY7)(w:World)(K:BU5)(mg:Str->Option Value)(base:Heap)(CX:CXT)(k:Nat)(f:Addr)(fd:CI3)(ps:List Str)(sp:Sp):Prop where
 len:∀vs H Q E,sp vs H Q E->vs.length=ps.length
 run:∀(A:CE0) (outer:List Env) (s:BV1) (H:Hp) (args:Args) (us:List Value) (vs:List V) (Q:VK) (E:XK),Room k A->AN6 P w K mg base A outer s H->BindsTo s fd args (ps.zip us)->Vals vs us->sp vs H Q E ->
  codeAny (model P w) A (.call (.ref f) args) (CR CX outer P w H s Q E) s
section
variable {X:Cx}{pins:List (Addr×Obj)}{σ:St}{H:Hp}{s s':BV1}
theorem Inv.env0 (I:Inv X pins σ H s):AN6 X.prog X.w X.K X.mg X.base X.A X.stack s H :=
 ⟨I.ok.frames,I.ok.mod,I.bs,CA0 I.ok.bsz I.sz,I.stack,I.stkFree,I.hok,I.bare⟩
theorem Inv.after {Q:VK}(I:Inv X pins σ H s)(h:CE X.stack X.prog X.w H s Q u s'):EP X pins σ Q u s':=by
 obtain⟨v,f,os,a,un,c,r,q⟩:=h
 obtain⟨i,g,d,t,e⟩:=s'
 obtain rfl:e=s.os:=os
 exact⟨v,f,I.call (h':=i) (g':=g) (d':=d) (t':=t) (ch:=[]) un c a (fun b z=>absurd z (by simp)),r,q⟩
end
def BA0 (sp:Sp)(dvs:List V)(E:XK)(t:TA):TE:=fun σ H Q=>t σ H fun vs H1=>sp (vs++dvs) H1 Q E
def Binds (K:BU5)(fd:CI3)(ps:List Str)(ds:List Value):Prop :=
 ∀(s:BV1) (us:List Value),K.In s.heap->(us++ds).length=ps.length->BindsTo s fd ⟨us,[]⟩ (ps.zip (us++ds))
theorem Binds.all (h:∀us:List Value,us.length=ps.length->bindArgs fd ⟨us,[]⟩=pure (ps.zip us)):Binds K fd ps []:=fun s us _ a=>by
 rw[CA9] at a ⊢
 exact .of_eq (h us a)
def MG (CX:CXT)(X:Cx)(E:XK):Prop:=∀(pins:List (Addr×Obj)) (σ:St) (H:Hp) (s:BV1) (e:Value) (s':BV1),Inv X pins σ H s->CX X.stack H s E e s'->X.xe e s'
section
variable {X:Cx}{CX:CXT}{k:Nat}{f C:Addr}{fd:CI3}{ps:List Str}{sp:Sp}{dvs:List V}{ds:List Value}{E:XK}{x m:Str}{p pos apos:Pos}{e o:Expr}{es:List Expr}{ta:TE}{t:TA}
theorem AL4 {σ:St}{H:Hp}{Q:VK}{vs:List V}(F:AL X.prog X.w X.K X.mg X.base CX k f fd ps sp)(c:Room k X.A)(d:Binds X.K fd ps ds)(hd:Vals dvs ds)(g:MG CX X E)
  (I:Inv X pins σ H s) (r:Vals vs us) (h:sp (vs++dvs) H Q E):wpAny (model X.prog X.w) X.A (call (.ref f) us) (EP X pins σ Q) X.xe s:=by
 have b:=r.append hd
 have i:(us++ds).length=ps.length:=by rw[<-b.length];exact F.len _ _ _ _ h
 refine wpAny_call (codeAny_mono (F.run X.A X.stack s H ⟨us,[]⟩ (us++ds) (vs++dvs) Q E c I.env0 (d s us I.kIn i) b h) fun r j a=>?_)
 cases r with
 | error e=>exact g pins σ H s e j I a
 | ok l =>
  cases l with
  | ret u=>exact I.after a
  | next=>exact False.elim a
  | brk=>exact False.elim a
  | cont=>exact False.elim a
theorem AT2 (F:AL X.prog X.w X.K X.mg X.base CX k f fd ps sp)(g:Room k X.A)(i:Gl X x)(j:X.mg x=some (.ref f))(l:CB3 X.K (.ref f)=true)(m:Binds X.K fd ps ds)(hd:Vals dvs ds)(n:MG CX X E)
  (o:PA X (e::es) t) (b:(x==("__debug__":Str))=false:=by decide) (u:BX4 (e::es) X.env=(false,eval e X.env)::BX4 es X.env:=by rfl) (c:(CI6 pos (BX4 es X.env)).any (·.1)=false:=by rfl) :
  PE X (.Call (.Name x p) (e::es) [] pos) (BA0 sp dvs E t):=by
 intro a s v H Q I h
 refine CG5 (NE I i j ?_ b)
 refine PySem.W.callWith_K (h₀:=X.base) I.ok.mod.kin l (thn (o pos a s v H _ I h) fun y z ⟨B,C,d,r,q⟩=>⟨d.kIn,?_⟩) u c
 exact AL4 F g m hd n d r q
theorem AH2 (F:AL X.prog X.w X.K X.mg X.base CX k f fd ps sp)(c:Room k X.A)(d:Gl X x)(e:X.mg x=some (.ref f))(g:CB3 X.K (.ref f)=true)(i:Binds X.K fd ps ds)(hd:Vals dvs ds)(j:MG CX X E)
  (a:(x==("__debug__":Str))=false:=by decide):PE X (.Call (.Name x p) [] [] pos) (BA0 sp dvs E BU0):=by
 intro b s l H Q I h
 refine CG5 (NE I d e ?_ a)
 exact PySem.W.callWith_K0 I.kIn g (AL4 (us:=[]) F c i hd j I .nil h)
end
section
variable {X:Cx}{CX:CXT}{k:Nat}{f C:Addr}{fd:CI3}{ps ks:List Str}{sp:Sp}{E:XK}{x m:Str}{p pos apos kpos:Pos}{e o:Expr}{es:List Expr}{kws:List Keyword}{te ta:TE}{t tk:TA}{nm:Option Str}
variable {g:List Value->List Value->List Value}{gV:List V->List V->List V}
end
structure T7 (N P:List Str)(sc:Scope):Prop where
 kind:sc.kind=.function
 co:sc.isCoroutine=false
 gen:sc.isGenerator=false
 nd:N.Nodup
 pre:N.take P.length=P
 par:∀x∈P,sc.names.lookup x=some .local\/sc.names.lookup x=some .cell
 nofree:∀y∈sc.names,y.2≠.free
theorem JZ {kindOf:Str->Option CF6}{x:Str}:∀{binds:List (Str×Value)} {m:Str->Option Value},(∀v,(x,v)∉binds)->bindL kindOf binds m x=m x
 | [],_,_=>rfl
 | (n,v)::r,m,h=>by
  unfold bindL
  rw[JZ fun w a=>h w (BV5 _ a)]
  split
  ·have:x≠n:=by rintro rfl;exact h v BV7
   simp[this]
  ·rfl
theorem JX {kindOf:Str->Option CF6}{x:Str}:∀{binds:List (Str×Value)} {m:Str->Option Value},(∀v,(x,v)∉binds)->bindC kindOf binds m x=m x
 | [],_,_=>rfl
 | (n,v)::r,m,h=>by
  unfold bindC
  rw[JX fun w a=>h w (BV5 _ a)]
  split
  ·rfl
  ·have:x≠n:=by rintro rfl;exact h v BV7
   simp[this]
theorem JY {kindOf:Str->Option CF6}{x:Str}{v:Value}:∀{P:List Str} {vs:List Value} {i:Nat} {m:Str->Option Value},P.Nodup->P[i]?=some x->vs[i]?=some v->kindOf x=some .local ->
  bindL kindOf (P.zip vs) m x=some v
 | [],_,_,_,_,h,_,_=>by simp at h
 | _::_,[],_,_,_,_,h,_=>by simp at h
 | p::P,w::vs,0,m,nd,h1,h2,hk=>by
  simp at h1 h2;subst h1;subst h2
  show bindL kindOf ((p,w)::P.zip vs) m p=_
  unfold bindL
  rw[JZ fun v a=>(List.nodup_cons.mp nd).1 (List.of_mem_zip a).1,if_pos hk]
  simp
 | p::P,w::vs,i+1,m,nd,h1,h2,hk=>by
  unfold bindL
  exact JY (i:=i) (List.nodup_cons.mp nd).2 (by simpa using h1) (by simpa using h2) hk
theorem JW {kindOf:Str->Option CF6}{x:Str}{v:Value}:∀{P:List Str} {vs:List Value} {i:Nat} {m:Str->Option Value},P.Nodup->P[i]?=some x->vs[i]?=some v->kindOf x≠some .local ->
  bindC kindOf (P.zip vs) m x=some v
 | [],_,_,_,_,h,_,_=>by simp at h
 | _::_,[],_,_,_,_,h,_=>by simp at h
 | p::P,w::vs,0,m,nd,h1,h2,hk=>by
  simp at h1 h2;subst h1;subst h2
  show bindC kindOf ((p,w)::P.zip vs) m p=_
  unfold bindC
  rw[JX fun v a=>(List.nodup_cons.mp nd).1 (List.of_mem_zip a).1,if_neg hk]
  simp
 | p::P,w::vs,i+1,m,nd,h1,h2,hk=>by
  unfold bindC
  exact JW (i:=i) (List.nodup_cons.mp nd).2 (by simpa using h1) (by simpa using h2) hk
def start (N:List Str)(vs:List V):St:=vs.map some++BX2 (N.length-vs.length) none
def SS (CX:CXT)(P:BY7)(w:World)(K:BU5)(mg:Str->Option Value)(base:Heap)(N:List Str)(qual:Str)(scope:Scope)(f:Addr)(cd:Value)(A:CE0)(outer:List Env)(s:BV1)(H:Hp)(E:XK):Cx where
 prog:=P
 w:=w
 K:=K
 mg:=mg
 base:=base
 A:=A.deeper (envOfC qual scope s.heap.objs.size f cd)
 N:=N
 s₀:=s
 H₀:=H
 env:=envOfC qual scope s.heap.objs.size f cd
 outer:=outer
 stack:=envOfC qual scope s.heap.objs.size f cd::outer
 ex:=[]
 calm:=true
 fn:=fun _=>true
 pn:=[]
 xe:=fun e s'=>wpAny (model P w) (A.deeper (envOfC qual scope s.heap.objs.size f cd)) (leaving (envOfC qual scope s.heap.objs.size f cd) e) (fun _ s''=>CX outer H s E e s'') (fun e' s''=>CX outer H s E e' s'') s'
theorem PP {sc:Scope}{n:Nat}(h:sc.names.lookup x=some .cell):∃c,(cellsFrom n sc.names []).lookup x=some c:=by
 have q:=PySem.W.cellsFrom_some sc.names n [] (.inl h)
 exact Option.isSome_iff_exists.mp q
theorem YJ {CX:CXT}{base:Heap}{f:Addr}{o:Value}{outer:List Env}{s1:BV1}{H:Hp}{E:XK}{vs:List V}
  (S:T7 N ps scope) (hd:A.handled=none) (g:AN6 P w K mg base A outer s H) (J:vs.length=ps.length) (r:Vals vs us)
  (x:InCallC s s.heap.objs.size (bindL (envOfC qual scope s.heap.objs.size f o).kindOf (ps.zip us) fun _=>none) (cellsFrom (s.heap.objs.size+1) scope.names []) (bindC (envOfC qual scope s.heap.objs.size f o).kindOf (ps.zip us) fun _=>none) s1) :
  Inv (SS CX P w K mg base N qual scope f o A outer s H E) [] (start N vs) H s1:=by
 have F:ps.length<=N.length:=by have:=congrArg CB7 S.pre;rw[BY1] at this;lia
 obtain⟨t,L,rfl,C⟩:=x.done
 have j:∀b:Addr,b∉(SS CX P w K mg base N qual scope f o A outer s H E).ex:=fun b z=>absurd (show b∈([]:List Addr) from z) (by simp)
 refine⟨⟨g.mod,S.kind,rfl,rfl,BU4 _,fun y z c t d=>?_,fun y hy=>?_,fun y c _ h=>?_,fun _=>hd,Around.frames_deeper g.frames,.inr ⟨rfl,rfl⟩,fun b z=>absurd z (j b),g.bs,g.bsz,fun b _ _=>j b,fun b z=>absurd z (j b),g.funs,g.frf⟩,
  rfl,g.bare,Un.kept C,⟨_,x.toInCall.ns,fun i y v t d M=>?_⟩,fun y c h=>⟨_,x.cell y c h⟩,g.hok.fresh (BU4 _),fun y c h=>?_,fun p l=>absurd (show p∈([]:List (Addr×Obj)) from l) (by simp),g.hok.kept C,?_⟩
 ·exact name_of_addr x.apart (BX8 t) (BX8 d)
 ·rcases hy with hy|hy
  ·exact PP hy
  ·exact absurd rfl (S.nofree _ (BX8 hy))
 ·exact Nat.le_of_lt (x.above y c (BX8 h))
 ·have B:i<vs.length:=by
   unfold start at d
   by_cases B:i<vs.length
   ·exact B
   ·rw[BY0 (by simpa using B)] at d
    rw[CD2] at d
    split at d<;>cases d
  have G:vs[i]?=some v:=by
   unfold start at d
   rw[BW7 (by simpa using B),BV6] at d
   cases e:vs[i]? with
   | none=>rw[e] at d;cases d
   | some a=>rw[e] at d;cases d;rfl
  obtain⟨u,D,I⟩:=r.get G
  have l:ps[i]?=some y:=by
   rw[<-S.pre,BZ6 (by lia)];exact t
  have m:ps.Nodup:=by rw[<-S.pre];exact S.nd.sublist (List.take_sublist _ _)
  refine⟨u,I,?_⟩
  rcases S.par y (BV2 l) with k|k
  ·exact .inl ⟨k,JY m l D k⟩
  ·obtain⟨c,e⟩:=PP (n:=s.heap.objs.size+1) k
   refine .inr ⟨.inl k,c,e,?_⟩
   have q:=x.cell y c e
   rw[JW m l D (by show scope.names.lookup y≠_;rw[k];decide)] at q
   exact q
 ·exact g.hok.fresh (Nat.le_of_lt (x.above y c (BX8 h)))
 ·unfold start
  show _=N.length
  rw[BU7,BU2,CE6]
  lia
theorem BL9 {CX:CXT}{base:Heap}{k:Nat}{f:Addr}{name:Str}{a:Arguments}{C kV pm ct:Value}
  {sp:Sp} (G:K.lookup f=some ⟨oc,od,.func (CB8 name qual a body scope C kV doc pm an cdv ct),osl⟩) (m:CG1 K cdv qual=true) (S:T7 N ps scope)
  (len:∀vs H Q E,sp vs H Q E->vs.length=ps.length)
  (d:∀(A:CE0) (outer:List Env) (s:BV1) (H:Hp) (vs:List V) (Q:VK) (E:XK),Room k (A.deeper (envOfC qual scope s.heap.objs.size f cdv))->sp vs H Q E ->
   ∃t,PSs (SS CX P w K mg base N qual scope f cdv A outer s H E) body t/\t {nx:=fun _ H'=>Q .non H',rt:=Q} (start N vs) H) :
  AL P w K mg base CX (k+1) f (CB8 name qual a body scope C kV doc pm an cdv ct) ps sp:=by
 refine⟨len,fun A outer s H D L vs Q E p i M r j=>?_⟩
 have O:=len _ _ _ _ j
 have F:=i.mod.kin.keeps fun b o e=>(i.bs b o e).1
 have z:=i.mod.nolimit.keeps fun b o e=>(i.bs b o e).1
 have g:∀y∈ps.zip L,scope.names.lookup y.1=some .local\/(scope.names.lookup y.1=some .cell/\((cellsFrom (s.heap.objs.size+1) scope.names []).lookup y.1).isSome=true):=fun⟨n,v⟩ R=>by
  rcases S.par n (List.of_mem_zip R).1 with q|q
  ·exact .inl q
  ·exact .inr ⟨q,PySem.W.cellsFrom_some _ _ _ (.inl q)⟩
 refine codeAny_call_function p.depth (F _ _ G) rfl S.co S.gen rfl (PySem.W.codeRec_of F m) (M _ _ _ _ ?_)
 refine wpAny_newFunctionEnv_cells S.kind g fun T U s1 x=>?_
 subst U
 refine⟨z.keeps x.toInCall.keep,codeAny_func ?_⟩
 obtain⟨t,X,Y⟩:=d A outer s H vs Q E (p.deeper _) j
 have I:Inv (SS CX P w K mg base N qual scope f cdv A outer s H E) [] (start N vs) H s1:=YJ S p.hd i O r x
 refine CA5 (X [] s1 (start N vs) H _ I Y) (fun Z s' h=>?_) fun e s' h=>h
 have l:∀{c:St} {H':Hp} {v:V} {u:Value},Inv (SS CX P w K mg base N qual scope f cdv A outer s H E) [] c H' s'->RelV v u->Q v H'->CE outer P w H s Q u s' :=
  fun{c H' v u} J B q=>⟨v,H',J.os,J.bare,J.base,J.hok,B,q⟩
 cases Z with
 | ret u =>
  obtain⟨v,c,H',J,B,q⟩:=h
  exact l J B q
 | next =>
  obtain⟨c,H',J,q⟩:=h
  exact l (v:=V.non) (u:=Value.none) J rfl q
 | brk =>
  obtain⟨_,_,_,q⟩:=h
  exact False.elim q
 | cont =>
  obtain⟨_,_,_,q⟩:=h
  exact False.elim q
section
variable {X:Cx}{x:Str}{p pos:Pos}{e:Expr}{es:List Expr}{t:TA}{id T:String}{r:List V->Hp->VK->Prop}
end
end L2
variable {H:L2.Hp}{v:L2.V}{vs:List L2.V}{kvs:List (L2.Key×L2.V)}
namespace HT
open PySem PyProof.Rows
def lexLt:List Int->List Int->Bool
 | [],[]=>false
 | [],_::_=>true
 | _::_,[]=>false
 | x::xs,y::ys=>if x=y then lexLt xs ys else decide (x<y)
section
open PySem.SeqAt
open PySem.AutoSeq1 (wpAny_loadPart')
open PySem.MeetsSeq PySem.MeetsSeq2 PySem.MeetsSeq3
end
section
variable {prog:BY7}{w:World}{A:CE0}{E:Value->BV1->Prop}{s:BV1}
def sIx (n d:Nat):Option Int->Nat
 | none=>d
 | some v=>if v<0 then(v+(n:Int)).toNat else min v.toNat n
theorem HX (n d:Nat):sIx n d none=d:=rfl
theorem AW5 (n d k:Nat):sIx n d (some (k:Int))=min k n:=by
 show(if (k:Int)<0 then((k:Int)+(n:Int)).toNat else min (k:Int).toNat n)=min k n
 rw[if_neg (by lia),Int.toNat_natCast]
theorem VB (v:Int)(n d:Nat):(if v<0 then max (v+(n:Int)) 0 else min v (n:Int))=((sIx n d (some v):Nat):Int):=by
 show(if v<0 then max (v+(n:Int)) 0 else min v (n:Int))=(((if v<0 then(v+(n:Int)).toNat else min v.toNat n):Nat):Int)
 by_cases a:v<0
 ·lia
 ·lia
theorem SN (lo hi:Option Int)(n:Nat):CC1 lo hi 1 (n:Int)=(((sIx n 0 lo:Nat):Int),((sIx n n hi:Nat):Int)):=by
 have a:¬((1:Int)<0):=by lia
 unfold CC1
 refine Prod.ext ?_ ?_
 ·cases lo with
  | none=>rfl
  | some v=>exact VB v n 0
 ·cases hi with
  | none=>rfl
  | some v=>exact VB v n n
theorem TY (i j:Nat):BY8 (i:Int) (j:Int) 1=j-i:=by
 unfold BY8
 have a:(1:Int)>0:=by lia
 split<;>lia
theorem HY {v:Value}{o:Option Int}{Q:Option Int->BV1->Prop}(p:IsPart v o)(h:Q o s):wpAny (model prog w) A (Builtin.Slice.slicePartIndex v) Q E s:=by
 cases p with
 | none=>exact slicePart_none h
 | int i t=>exact slicePart_int h
theorem T5 {c d:Value}{n:Nat}{Q:Int×Int×Nat->BV1->Prop}(hs:s.heap.IsSliceOf sl c d .none)(e:IsPart c lo)(f:IsPart d hi)
  (h:Q (((sIx n 0 lo:Nat):Int),1,sIx n n hi-sIx n 0 lo) s):wpAny (model prog w) A (Builtin.Slice.sliceApplied (.ref sl) (pure (n:Int))) Q E s:=by
 obtain⟨os,a,g,b⟩:=id hs
 refine BU3 (BU3 (CF2 a b (x:=c) rfl (BU3 (CF2 a b (x:=d) rfl (BU3 (CF2 a b (x:=.none) rfl (BV0 ?_)))))))
 refine BU3 (slicePart_none ?_)
 refine BU3 (HY e (BU3 (HY f (BU3 (BV0 ?_)))))
 show wpAny _ _ (match CC1 lo hi 1 (n:Int) with|(lo,hi)=>pure (lo,(1:Int),BY8 lo hi 1)) _ _ s
 rw[SN lo hi n]
 show wpAny _ _ (pure (((sIx n 0 lo:Nat):Int),(1:Int),BY8 ((sIx n 0 lo:Nat):Int) ((sIx n n hi:Nat):Int) 1)) _ _ s
 rw[TY]
 exact BV0 h
theorem AH9 (xs:Array Value)(i k:Nat):((BW8 k).filterMap fun(m:Nat)=>xs[((i:Int)+(m:Int)*1).toNat]?).toArray=((xs.toList.drop i).take k).toArray:=by
 have e:(fun(m:Nat)=>xs[((i:Int)+(m:Int)*1).toNat]?)=fun m=>xs[i+m]?:=by
  funext m
  have:((i:Int)+(m:Int)*1).toNat=i+m:=by lia
  rw[this]
 rw[e]
 have:=pick_run xs i k
 rw[List.filterMap_map] at this
 have a:((fun x=>xs[x]?) ∘ fun x=>i+x)=fun m=>xs[i+m]?:=rfl
 rw[a] at this
 rw[this]
theorem BZ {g i:Value}(b:IsTup s.heap t items)(hs:s.heap.IsSliceOf sl g i .none)(j:IsPart g lo)(k:IsPart i hi)
  (l:¬(sIx items.size 0 lo=0/\sIx items.size items.size hi=items.size))
  (h:Q (.ref s.heap.objs.size) {s with heap:=s.heap.push {cls:=.type "tuple",data:=.seq ((items.toList.drop (sIx items.size 0 lo)).take (sIx items.size items.size hi-sIx items.size 0 lo)).toArray}})
  (hsz:items.size<=BV8):wpAny (model prog w) A (CJ4 (.ref t) (.ref sl)) Q E s:=by
 have a:sizeOk (.seq ((items.toList.drop (sIx items.size 0 lo)).take (sIx items.size items.size hi-sIx items.size 0 lo)).toArray):=by
  show((items.toList.drop (sIx items.size 0 lo)).take (sIx items.size items.size hi-sIx items.size 0 lo)).toArray.size<=BV8
  rw[BW3,BY1,CD5,CH6]
  lia
 obtain⟨os,c,d,n⟩:=id hs
 have e:s.TypeIs (.ref sl) "slice":=⟨os,c,d⟩
 unfold CJ4
 try with_reducible refine CA4 ?_
 refine BU3 (wpAny_sequenceKey b.typeIs (by decide) ?_)
 refine BU3 (CE1 (name:=Str.ofString "__getitem__") b.typeIs BZ5
  (CH8 BZ5 b.typeIs entry_tuple_getitem ?_ (args_tuple_getitem _ _)))
 show wpAny _ _ (CD8 (.ref t) >>= _) _ _ s
 refine BU3 (tupleItemsOf_ b ?_)
 refine BU3 (wpAny_typeOf e ?_)
 refine BU3 (T5 hs j k ?_)
 have f:¬((((sIx items.size 0 lo:Nat):Int)==0 && (1:Int)==1 && (sIx items.size items.size hi-sIx items.size 0 lo)==items.size)=true):=by
  intro q
  rw[BV3,BV3] at q
  have o:((sIx items.size 0 lo:Nat):Int)=0:=eq_of_beq q.1.1
  have p:sIx items.size items.size hi-sIx items.size 0 lo=items.size:=eq_of_beq q.2
  exact l ⟨by lia,by lia⟩
 show wpAny _ _ (if (((sIx items.size 0 lo:Nat):Int)==0 && (1:Int)==1 && (sIx items.size items.size hi-sIx items.size 0 lo)==items.size)=true then _ else _) _ _ s
 rw[if_neg f,AH9]
 first
  | exact BU3 (m:=BZ2 _) (BY5 (BV0 ⟨_,rfl,BV0 h⟩) a)
  | exact BU3 (m:=BZ2 _) (BY5 (BU3 (BV0 (BV0 ⟨_,rfl,BV0 h⟩))) a)
  | exact BU3 (BU3 (m:=BZ2 _) (BY5 (BV0 (BV0 ⟨_,rfl,BV0 h⟩)) a))
  | exact BU3 (BU3 (m:=BZ2 _) (BY5 (BV0 ⟨_,rfl,BV0 h⟩) a))
end
end HT
namespace L2
open PySem PySem.Spec PyProof.Rows
section
variable {X:Cx}{e:Expr}{te:TE}{lo hi:Option Expr}{tl th:TO}{pos p2:Pos}
def SlR (X:Cx)(r:V->Option Int->Option Int->Hp->VK->Prop):Prop :=
 ∀(pins:List (Addr×Obj)) (s:BV1) (σ:St) (H:Hp) (x:V) (v vl vu:Value) (lo hi:Option Int) (sl:Addr) (Q:VK),Inv X pins σ H s->RelV x v->s.heap.IsSliceOf sl vl vu .none->IsPart vl lo->IsPart vu hi->r x lo hi H Q ->
  ∃T id,typeLookup (.type T) "__getitem__"=pure (some (.builtin id))/\s.TypeIs v T/\wpAny (model X.prog X.w) X.A (CJ4 v (.ref sl)) (EP X pins σ Q) X.xe s
theorem SlR.or {r r':V->Option Int->Option Int->Hp->VK->Prop}(h:SlR X r)(h':SlR X r'):SlR X (fun x lo hi H Q=>r x lo hi H Q\/r' x lo hi H Q):=by
 intro a s b H x v c d lo hi e Q I f g i j q
 rcases q with q|q
 ·exact h a s b H x v c d lo hi e Q I f g i j q
 ·exact h' a s b H x v c d lo hi e Q I f g i j q
def PU (xs:List V)(lo hi:Option Int):List V:=(xs.drop (HT.sIx xs.length 0 lo)).take (HT.sIx xs.length xs.length hi-HT.sIx xs.length 0 lo)
theorem EK (xs:List V)(lo hi:Option Int):(PU xs lo hi).length<=xs.length:=by
 unfold PU
 rw[BY1,CD5]
 lia
def AV6 (K:BU5):V->Option Int->Option Int->Hp->VK->Prop:=fun x lo hi H Q=>∃a xs,x=.ref a/\SqT K H a xs /\
 ¬(HT.sIx xs.length 0 lo=0/\HT.sIx xs.length xs.length hi=xs.length)/\∀p,H p=none->Q (.ref p) (upd H p (.tup (PU xs lo hi)))
theorem UI:SlR X (AV6 X.K):=by
 intro g s u H x v w y lo e z Q I k l m n h
 obtain⟨a,d,rfl,p,t,q⟩:=h
 cases k
 obtain⟨f,r,i,j⟩:=I.tuple p
 have c:f.toArray.size=d.length:=by rw[BW3];exact r.length.symm
 refine⟨"tuple",_,PyProof.Rows.slot_tuple_getitem.lookup,i.typeIs,?_⟩
 refine HT.BZ i l m n (by rw[c];exact t) ?_ (by rw[c];exact j)
 rw[c]
 refine⟨.ref s.heap.objs.size,_,I.laid (t':=s.toks) (o:=.tup (PU d lo e)) (fun b A q=>BU6 _ q) (BU4 _) ?_,rfl,q _ (I.hok.fresh (BU4 _))⟩
 exact⟨CA0 (EK d lo e) j,_,(r.drop (HT.sIx d.length 0 lo)).take (HT.sIx d.length d.length e-HT.sIx d.length 0 lo),IsTup.new _ _⟩
end
def ixN (n:Nat)(i:Int):Option Nat:=if 0<=i then(if i<n then some i.toNat else none) else if -(n:Int)<=i then some (i+n).toNat else none
def atI {α:Type}(xs:List α)(i:Int):Option α:=(ixN xs.length i).bind fun j=>xs[j]?
theorem VT {n:Nat}{i:Int}(h:ixN n i=some j):seqIndex? i n=some j/\j<n/\-(n:Int)<=i/\i<n:=by
 unfold ixN at h
 by_cases b:0<=i
 ·rw[if_pos b] at h
  by_cases a:i<n
  ·rw[if_pos a] at h
   have e:=Option.some.inj h
   exact⟨by rw[seqIndex_of b a,e],by lia,by lia,a⟩
  ·rw[if_neg a] at h;cases h
 ·rw[if_neg b] at h
  by_cases a:-(n:Int)<=i
  ·rw[if_pos a] at h
   have e:=Option.some.inj h
   exact⟨by rw[seqIndex_neg (by lia) a,e],by lia,a,by lia⟩
  ·rw[if_neg a] at h;cases h
theorem MH {xs:List α}{i:Int}{v:α}(h:atI xs i=some v):∃j,seqIndex? i xs.length=some j/\xs[j]?=some v/\j<xs.length/\-(xs.length:Int)<=i/\i<xs.length:=by
 unfold atI at h
 cases e:ixN xs.length i with
 | none=>rw[e] at h;cases h
 | some j =>
  rw[e] at h
  obtain⟨a,b,c,d⟩:=VT e
  exact⟨j,a,h,b,c,d⟩
theorem B7 {xs:List α}{v:α}(h:xs[j]?=some v):atI xs (j:Int)=some v:=by
 have a:=(List.getElem?_eq_some_iff.mp h).1
 have e:ixN xs.length (j:Int)=some j:=by
  unfold ixN
  rw[if_pos (by lia),if_pos (by lia)];simp
 unfold atI;rw[e];exact h
def AO0 (b:Expr):Prop:=∀o i,subscripted b false o i=operate [o,i] (CJ4 o i)
def IxR (X:Cx)(r:R2):Prop :=
 ∀(value slice:Expr) (pins:List (Addr×Obj)) (s:BV1) (σ:St) (H:Hp) (x y:V) (v u:Value) (Q:VK),Inv X pins σ H s->RelV x v->RelV y u->r x y H Q ->
  subscripted slice false v u=operate [v,u] (CJ4 v u)->wpAny (model X.prog X.w) X.A (subscriptTail value slice v u) (EP X pins σ Q) X.xe s
section
variable {X:Cx}{a b:Expr}{ta tb:TE}{pos:Pos}
theorem IxR.or {r r':R2}(h:IxR X r)(h':IxR X r'):IxR X (fun x y H Q=>r x y H Q\/r' x y H Q):=by
 intro a b c s d H x y v u Q I e f q g
 rcases q with q|q
 ·exact h a b c s d H x y v u Q I e f q g
 ·exact h' a b c s d H x y v u Q I e f q g
def BP7 (K:BU5):R2:=fun x y H Q=>∃p xs i v,x=.ref p/\y=.int i/\SqL K H p xs/\atI xs i=some v/\Q v H
def BP9 (K:BU5):R2:=fun x y H Q=>∃p xs i v,x=.ref p/\y=.int i/\SqT K H p xs/\atI xs i=some v/\Q v H
def BP8:R2:=fun x y H Q=>∃z i c,x=.str z/\y=.int i/\z.length<=BV8/\atI z.cps.toList i=some c/\Q (.str ⟨#[c]⟩) H
theorem ix_list:IxR X (BP7 X.K):=by
 intro d e a s m H x y v u Q I B C h n
 obtain⟨p,N,i,z,rfl,rfl,D,E,q⟩:=h
 cases B
 obtain⟨t,rfl⟩:=C
 obtain⟨f,r,g,O⟩:=I.list D
 obtain⟨j,c,F,P,G,J⟩:=MH E
 obtain⟨w,o,k⟩:=r.get F
 have L:=r.length
 have R:=DW
 have b:EP X a m Q w s:=⟨z,H,I,k,q⟩
 by_cases A:0<=i
 ·have l:i.toNat=j:=by
   rw[seqIndex_of A J] at c
   exact Option.some.inj c
  exact item_listR g.isList A (by lia) (by rw[l];simpa using o) b n
 ·have l:(i+(f.toArray.size:Int)).toNat=j:=by
   rw[seqIndex_neg (by lia) G] at c
   rw[BW3,<-L]
   exact Option.some.inj c
  exact subscriptTail_builtinR (x:=w) g.isList.typeIs slot_list_getitem.lookup
   (wpAny_getItem_list_neg (Q:=fun r M=>r=w/\EP X a m Q r M) g.isList (by lia) (by rw[BW3]<;>lia) (by lia) (by rw[l];simpa using o) ⟨rfl,b⟩) n
theorem ix_tup:IxR X (BP9 X.K):=by
 intro b c a s f H x y v u Q I k l h m
 obtain⟨p,G,i,z,rfl,rfl,n,o,q⟩:=h
 cases k
 obtain⟨t,rfl⟩:=l
 obtain⟨A,r,g,J⟩:=I.tuple n
 obtain⟨j,B,C,L,M,N⟩:=MH o
 obtain⟨w,D,d⟩:=r.get C
 have E:=r.length
 have O:=DW
 have e:EP X a f Q w s:=⟨z,H,I,d,q⟩
 exact subscriptTail_builtinR (x:=w) g.typeIs slot_tuple_getitem.lookup
  (getItem_tuple (j:=j) (Q:=fun r F=>r=w/\EP X a f Q r F) g (by lia) (by lia) (by rw[BW3,<-E];exact B) (by simpa using D) ⟨rfl,e⟩) m
theorem BE4:IxR X BP8:=by
 intro a b d s A H x y v u Q I f g h k
 obtain⟨z,i,c,rfl,rfl,B,l,q⟩:=h
 obtain⟨t,rfl⟩:=f
 obtain⟨C,rfl⟩:=g
 obtain⟨j,e,m,D,n,o⟩:=MH l
 have p:z.cps.toList.length=z.length:=by simp[Str.length]
 rw[p] at e n o
 have E:=DW
 exact tail_any (typeIs_str s z t) slot_str_getitem.lookup (getItem_str (c:=c) (by
  have r:decide (i < -(2^63:Int))=false:=decide_eq_false (by lia)
  have w:decide (i ≥ 2^63)=false:=decide_eq_false (by lia)
  rw[r,w,Bool.or_false]) (by rw[e];simpa using m) ⟨.str ⟨#[c]⟩,H,I.tok _,⟨_,rfl⟩,q⟩) k
def rIx (K:BU5):R2:=fun x y H Q=>BP7 K x y H Q\/BP9 K x y H Q\/BP8 x y H Q
theorem BE3:IxR X (rIx X.K):=ix_list.or (ix_tup.or BE4)
theorem TC (its:List Value)(n j:Nat)(u:Value):Obj.mapSeq (·.setIfInBounds j u) {cls:=.type "list",data:=.seq its.toArray n}={cls:=.type "list",data:=.seq (its.set j u).toArray n}:=by
 simp[Obj.mapSeq]
theorem Inv.lst {pins:List (Addr×Obj)}{σ:St}{H:Hp}{s:BV1}{p:Addr}{xs:List V}(I:Inv X pins σ H s)(h:H p=some (.lst xs)) :
  ∃(its:List Value) (n:Nat),Vals xs its/\s.heap.get? p=some {cls:=.type "list",data:=.seq its.toArray n}/\xs.length<=BV8:=by
 obtain⟨z,its,n,r,e⟩:=I.hok p _ h
 exact⟨its,n,r,e,z⟩
theorem Inv.lstUpd {σ:St}{p:Addr}{xs ys:List V}{its':List Value}{n a:Nat}{f:Obj->Obj}(I:Inv X pins σ H s)(h:H p=some (.lst xs))
  (ho:s.heap.get? p=some {cls:=.type "list",data:=.seq its.toArray n}) (c:f {cls:=.type "list",data:=.seq its.toArray n}={cls:=.type "list",data:=.seq its'.toArray a}) (r:Vals ys its') (d:ys.length<=BV8) (t:Nat) :
  Inv X pins σ (upd H p (.lst ys)) {s with heap:=s.heap.update p f,toks:=t}:=by
 have e:(s.heap.update p f).get? p=some {cls:=.type "list",data:=.seq its'.toArray a}:=by
  rw[Heap.get?_update_self f ho (by rw[c]<;>rfl),c]
 refine I.write (x:=p) (e:=p) (by rw[h];trivial) (.inl rfl) (fun b u g q=>(CG2 _ _ (Ne.symm g)).trans q) ⟨_,e⟩ ?_
 exact⟨d,its',a,r,e⟩
def BQ0:V->V->V->Hp->(Hp->Prop)->Prop:=fun o i v H Q=>∃p xs k j,o=.ref p/\i=.int k/\H p=some (.lst xs)/\ixN xs.length k=some j/\Q (upd H p (.lst (xs.set j v)))
theorem set_list:BK8 X BQ0:=by
 intro f s D H o i v E F u Q I y z A h
 obtain⟨p,G,k,j,rfl,rfl,g,B,q⟩:=h
 cases y
 obtain⟨t,rfl⟩:=z
 obtain⟨a,n,r,c,C⟩:=I.lst g
 obtain⟨b,J,l,m⟩:=VT B
 have d:=r.length
 have K:=DW
 have w:=I.lstUpd g c (TC a n j u) (r.set A j) (by rw[List.length_set];exact C) s.toks
 by_cases x:0<=k
 ·have e:k.toNat=j:=by
   rw[seqIndex_of x m] at b
   exact Option.some.inj b
  exact PySem.W.ki_setAt c x (by lia) (by rw[BW3,<-d];exact m) (by rw[e];exact⟨_,w,q⟩)
 ·have e:(k+(a.toArray.size:Int)).toNat=j:=by
   rw[seqIndex_neg (by lia) l] at b
   rw[BW3,<-d]
   exact Option.some.inj b
  exact PySem.W.ki_setBack c (by lia) (by rw[BW3,<-d];exact l) (by lia) (by rw[e];exact⟨_,w,q⟩)
theorem OH (lo hi:Option Int)(n:Nat):(CH2 lo hi none n).1=((HT.sIx n 0 lo:Nat):Int)/\(CH2 lo hi none n).2.1=((HT.sIx n n hi:Nat):Int)/\(CH2 lo hi none n).2.2=1:=by
 refine⟨?_,?_,rfl⟩
 ·cases lo with
  | none=>simp[CH2,HT.sIx]
  | some i =>
   simp only[CH2,HT.sIx,Option.getD_none,if_true]
   by_cases h:i<0
   ·simp only[h]<;>lia
   ·simp only[h]<;>lia
 ·cases hi with
  | none=>simp[CH2,HT.sIx]
  | some i =>
   simp only[CH2,HT.sIx,Option.getD_none,if_true]
   by_cases h:i<0
   ·simp only[h]<;>lia
   ·simp only[h]<;>lia
theorem JL (its:List Value)(lo hi:Option Int):slicePick its.toArray lo hi none=((its.drop (HT.sIx its.length 0 lo)).take (HT.sIx its.length its.length hi-HT.sIx its.length 0 lo)).toArray:=by
 obtain⟨a,b,c⟩:=OH lo hi its.toArray.size
 unfold slicePick
 rw[a,b,c]
 simp only[sliceRange_one,pick_run]<;>rfl
def AV5 (K:BU5):V->Option Int->Option Int->Hp->VK->Prop:=fun x lo hi H Q=>∃a xs,x=.ref a/\SqL K H a xs/\∀p,H p=none->Q (.ref p) (upd H p (.lst (PU xs lo hi)))
theorem sl_list:SlR X (AV5 X.K):=by
 intro f s t H x v u w lo e y Q I i j k l h
 obtain⟨a,c,rfl,m,q⟩:=h
 cases i
 obtain⟨n,r,g,p⟩:=I.list m
 have d:=r.length
 refine⟨"list",_,slot_list_getitem.lookup,g.isList.typeIs,?_⟩
 refine wpAny_getItem_list_slice g.isList j k l .none (by simp) ?_ (by rw[BW3]<;>lia)
 rw[JL,<-d]
 refine⟨.ref s.heap.objs.size,_,I.laid (t':=s.toks) (o:=.lst (PU c lo e)) (fun b z q=>BU6 _ q) (BU4 _) ?_,rfl,q _ (I.hok.fresh (BU4 _))⟩
 exact⟨CA0 (EK c lo e) p,_,0,(r.drop (HT.sIx c.length 0 lo)).take (HT.sIx c.length c.length e-HT.sIx c.length 0 lo),BW4 _ rfl⟩
def AU:V->Bool
 | .non=>true
 | .bl _=>true
 | .int _=>true
 | .str _=>true
 | _=>false
def eqV:V->V->Bool
 | .non,.non=>true
 | .bl a,.bl b=>a==b
 | .bl a,.int b=>(if a then 1 else 0)==b
 | .int a,.bl b=>a==(if b then 1 else 0)
 | .int a,.int b=>a==b
 | .str a,.str b=>a==b
 | _,_=>false
theorem BD0 {y x:V}{v:Value}(e:RelV y u)(c:RelV x v)(g:AU y=true)(f:AU x=true):SeqAt.EqAt A s u v (eqV y x):=by
 cases y with
 | non =>
  cases e
  cases x with
  | non=>cases c;exact SeqAt.EqAt.same _
  | bl b=>cases c;exact SeqAt.EqAt.none_bool b
  | int b=>obtain⟨t,rfl⟩:=c;exact SeqAt.EqAt.none_int b t
  | str b=>obtain⟨t,rfl⟩:=c;exact SeqAt.EqAt.none_str b t
  | _=>exact absurd (show false=true from f) BU9
 | bl a =>
  cases e
  cases x with
  | non=>cases c;exact SeqAt.EqAt.bool_none a
  | bl b=>cases c;exact SeqAt.EqAt.bool_bool a b
  | int b=>obtain⟨t,rfl⟩:=c;exact SeqAt.EqAt.bool_int a b t
  | str b=>obtain⟨t,rfl⟩:=c;exact SeqAt.EqAt.bool_str a b t
  | _=>exact absurd (show false=true from f) BU9
 | int a =>
  obtain⟨d,rfl⟩:=e
  cases x with
  | non=>cases c;exact SeqAt.EqAt.int_none a d
  | bl b=>cases c;exact SeqAt.EqAt.int_bool a d b
  | int b=>obtain⟨t,rfl⟩:=c;exact SeqAt.EqAt.int_int a d b t
  | str b=>obtain⟨t,rfl⟩:=c;exact SeqAt.EqAt.int_str a d b t
  | _=>exact absurd (show false=true from f) BU9
 | str a =>
  obtain⟨d,rfl⟩:=e
  cases x with
  | non=>cases c;exact SeqAt.EqAt.str_none a d
  | bl b=>cases c;exact SeqAt.EqAt.str_bool a d b
  | int b=>obtain⟨t,rfl⟩:=c;exact SeqAt.EqAt.str_int a d b t
  | str b=>obtain⟨t,rfl⟩:=c;exact SeqAt.EqAt.str_str a d b t
  | _=>exact absurd (show false=true from f) BU9
 | _=>exact absurd (show false=true from g) BU9
def eqU (x:V)(u:Value):Bool:=match u with
 | .none=>eqV .non x
 | .bool b=>eqV (.bl b) x
 | .int i _=>eqV (.int i) x
 | .str z _=>eqV (.str z) x
 | _=>false
theorem AD7 {x y:V}(r:RelV y u)(f:AU y=true):eqU x u=eqV y x:=by
 cases y with
 | non=>cases r;rfl
 | bl b=>cases r;rfl
 | int i=>obtain⟨t,rfl⟩:=r;rfl
 | str z=>obtain⟨t,rfl⟩:=r;rfl
 | _=>exact absurd (show false=true from f) BU9
theorem BQ {x:V}:∀{xs:List V} {us:List Value},Vals xs us->xs.all AU=true->us.any (eqU x)=xs.any fun y=>eqV y x
 | _,_,.nil,_=>rfl
 | y::xs,u::us,.cons r t,f=>by
  rw[List.all_cons,BV3] at f
  rw[BZ0,BZ0,AD7 r f.1,BQ t f.2]
theorem X4 {A:CE0}{s:BV1}{x:V}{v:Value}(a:RelV x v)(b:AU x=true):∀{xs:List V} {us:List Value},Vals xs us->xs.all AU=true->∀u∈us,SeqAt.EqAt A s u v (eqU x u)
 | _,_,.nil,_=>fun u hu=>by cases hu
 | y::xs,u::us,.cons r t,f=>fun c hu=>by
  rw[List.all_cons,BV3] at f
  rcases BZ3.mp hu with rfl|hu
  ·rw[AD7 r f.1];exact BD0 r a f.1 b
  ·exact X4 a b t f.2 c hu
def inV (x:V)(xs:List V):Bool:=xs.any fun y=>eqV y x
def rIn (K:BU5)(neg:Bool):R2:=fun x y H Q=>∃p xs,y=.ref p/\(SqL K H p xs\/SqT K H p xs)/\AU x=true/\xs.all AU=true/\Q (.bl (if neg then !inV x xs else inV x xs)) H
theorem LD:OpR X (BY6 .In) (rIn X.K false):=by
 intro d s j H x y v u Q I e g h
 obtain⟨p,k,rfl,hq,f,fs,q⟩:=h
 cases g
 rcases hq with hq|hq
 ·obtain⟨a,r,b,i⟩:=I.list hq
  refine SeqAt.in_listAt (eqU x) b.isList (fun w c=>X4 e f r fs w (by simpa using c)) ⟨.bl _,H,I,rfl,?_⟩
  rw[show a.toArray.any (eqU x)=a.any (eqU x) by simp,BQ r fs]
  exact q
 ·obtain⟨a,r,b,i⟩:=I.tuple hq
  refine SeqAt.in_tupleAt (eqU x) b (fun w c=>X4 e f r fs w (by simpa using c)) ⟨.bl _,H,I,rfl,?_⟩
  rw[show a.toArray.any (eqU x)=a.any (eqU x) by simp,BQ r fs]
  exact q
theorem NQ:OpR X (BY6 .NotIn) (rIn X.K true):=by
 intro d s j H x y v u Q I e g h
 obtain⟨p,k,rfl,hq,f,fs,q⟩:=h
 cases g
 rcases hq with hq|hq
 ·obtain⟨a,r,b,i⟩:=I.list hq
  refine SeqAt.notIn_listAt (eqU x) b.isList (fun w c=>X4 e f r fs w (by simpa using c)) ⟨.bl _,H,I,rfl,?_⟩
  rw[show a.toArray.any (eqU x)=a.any (eqU x) by simp,BQ r fs]
  exact q
 ·obtain⟨a,r,b,i⟩:=I.tuple hq
  refine SeqAt.notIn_tupleAt (eqU x) b (fun w c=>X4 e f r fs w (by simpa using c)) ⟨.bl _,H,I,rfl,?_⟩
  rw[show a.toArray.any (eqU x)=a.any (eqU x) by simp,BQ r fs]
  exact q
theorem call_len_seq:CallR X (.builtin "len") (fun xs H Q=>∃p ys,xs=[.ref p]/\(SqL X.K H p ys\/SqT X.K H p ys)/\Q (.int ys.length) H):=by
 intro e s i H xs j Q I r h
 obtain⟨p,ys,rfl,hq,q⟩:=h
 obtain⟨u,rfl,f⟩:=vals1 r
 cases f
 have k:=DW
 rcases hq with hq|hq
 ·obtain⟨b,c,d,g⟩:=I.list hq
  have a:=c.length
  exact Calls.call_len_list d.isList (by simp only[BW3]<;>lia) ⟨.int ys.length,H,I.tok _,⟨s.toks+1,by rw[BW3,a]⟩,q⟩
 ·obtain⟨b,c,d,g⟩:=I.tuple hq
  have a:=c.length
  exact len_tuple d (by simp only[BW3]<;>lia) ⟨.int ys.length,H,I.tok _,⟨s.toks+1,by rw[BW3,a]⟩,q⟩
theorem MN:CallR X (.builtin "len") (fun xs H Q=>∃z,xs=[.str z]/\z.length<=BV8/\Q (.int z.length) H):=by
 intro a s b H xs c Q I r h
 obtain⟨z,rfl,d,q⟩:=h
 obtain⟨u,rfl,t,rfl⟩:=vals1 r
 have e:=DW
 exact len_str (by lia) ⟨.int z.length,H,I.tok _,⟨_,rfl⟩,q⟩
theorem CallR.or {f:Value}{r r':List V->Hp->VK->Prop}(h:CallR X f r)(h':CallR X f r'):CallR X f (fun xs H Q=>r xs H Q\/r' xs H Q):=by
 intro a s b H xs c Q I d q
 rcases q with q|q
 ·exact h a s b H xs c Q I d q
 ·exact h' a s b H xs c Q I d q
theorem MP:CallR X (.type "list") (fun xs H Q=>∃p ys,xs=[.ref p]/\(SqL X.K H p ys\/SqT X.K H p ys)/\∀l,H l=none->Q (.ref l) (upd H l (.lst ys))):=by
 intro g s A H xs C Q I r h
 obtain⟨p,ys,rfl,hq,q⟩:=h
 obtain⟨u,rfl,B⟩:=vals1 r
 cases B
 have i:∀(a:List Value),Vals ys a->ys.length<=BV8->∀(c:Heap) (d:Nat),(∀b z,s.heap.get? b=some z->c.get? b=some z) ->
   c.get? s.heap.objs.size=some {cls:=.type "list",dict:=none,data:=.seq a.toArray d,slots:=#[]}->EP X g A Q (.ref s.heap.objs.size) {s with heap:=c}:=fun a f j c d k e =>
  ⟨.ref s.heap.objs.size,_,I.laid (t':=s.toks) k (BU4 _) (show ObjOk X.prog X.w _ c _ (.lst ys) from ⟨j,a,d,f,e⟩),rfl,q _ (I.hok.fresh (BU4 _))⟩
 rcases hq with hq|hq
 ·obtain⟨a,f,t,j⟩:=I.list hq
  have m:=f.length
  obtain⟨o,v,x,n,y⟩:=t.isList
  exact call_list_seq p (.inl rfl) v x y (fun c d k e=>i a f j c d k e) (by simp only[BW3]<;>lia)
 ·obtain⟨a,f,t,j⟩:=I.tuple hq
  have m:=f.length
  obtain⟨o,v,x,n,y⟩:=t
  exact call_list_seq p (.inr rfl) v x y (fun c d k e=>i a f j c d k e) (by simp only[BW3]<;>lia)
theorem JE:CallR X (.type "tuple") (fun xs H Q=>∃p ys,xs=[.ref p]/\((SqL X.K H p ys/\∀l,H l=none->Q (.ref l) (upd H l (.tup ys)))\/(SqT X.K H p ys/\Q (.ref p) H))):=by
 intro g s x H xs y Q I r h
 obtain⟨p,ys,rfl,h⟩:=h
 obtain⟨u,rfl,m⟩:=vals1 r
 cases m
 rcases h with⟨c,q⟩|⟨c,q⟩
 ·obtain⟨a,d,f,i⟩:=I.list c
  have j:=d.length
  refine call_tuple_list f.isList (fun n t=>?_) (by simp only[BW3]<;>lia)
  have k:=I.kept (t':=s.toks) t
  have v:=k.laid (t':=s.toks) (fun b o e=>BU6 _ e) (BU4 _) (show ObjOk X.prog X.w _ _ _ (.tup ys) from ⟨i,a,d,IsTup.new _ _⟩)
  exact⟨.ref n.objs.size,_,v,rfl,q _ (k.hok.fresh (BU4 _))⟩
 ·obtain⟨a,d,f,i⟩:=I.tuple c
  exact call_tuple_same f ⟨.ref p,H,I,rfl,q⟩
def tyV (K:BU5)(T:String)(x:V)(H:Hp):Prop:=match x with
 | .str _=>T="str"
 | .int _=>T="int"
 | .ref p=>(T="list"/\∃xs,SqL K H p xs)\/(T="tuple"/\∃o,K.lookup p=some o/\o.cls=.type "tuple"/\o.dict=none) \/
   (T="dict"/\((∃kvs,H p=some (.dK kvs))\/∃kvs,H p=some (.dT kvs)))\/(T="set"/\∃S n,H p=some (.set S n))
 | _=>False
theorem AN0 {σ:St}{T:String}{x:V}{v:Value}(I:Inv X pins σ H s)(r:RelV x v)(ty:tyV X.K T x H) :
  s.TypeIs v T/\∀a,v=.ref a->∃h,s.heap.get? a=some h/\h.dict=none:=by
 cases x with
 | str z =>
  obtain⟨t,rfl⟩:=r
  cases(show T="str" from ty)
  exact⟨typeIs_str s z t,fun _ e=>nomatch e⟩
 | int i =>
  obtain⟨t,rfl⟩:=r
  cases(show T="int" from ty)
  exact⟨typeIs_int s i t,fun _ e=>nomatch e⟩
 | ref p =>
  cases r
  rcases ty with⟨rfl,q,k⟩|⟨rfl,o,b,l,d⟩|⟨rfl,b⟩|⟨rfl,S,n,b⟩
  ·obtain⟨m,_,j,_⟩:=I.list k
   refine⟨j.isList.typeIs,fun a e=>?_⟩
   cases e
   obtain⟨o,n,e,c,d,_⟩:=j
   exact⟨o,e,d⟩
  ·refine⟨⟨o,I.kIn p o b,l⟩,fun a e=>?_⟩
   cases e
   exact⟨o,I.kIn _ o b,d⟩
  ·have z:∃o,s.heap.get? p=some o/\o.ExactDict:=by
    rcases b with⟨f,b⟩|⟨f,b⟩
    ·obtain⟨_,_,_,_,o,_,_,e,ex,_⟩:=I.hok p _ b
     exact⟨o,e,ex⟩
    ·obtain⟨_,_,_,_,o,_,_,e,ex,_⟩:=I.hok p _ b
     exact⟨o,e,ex⟩
   obtain⟨o,e,ex⟩:=z
   refine⟨⟨o,e,ex.1⟩,fun a g=>?_⟩
   cases g
   exact⟨o,e,ex.2.1⟩
  ·obtain⟨o,_,_,_,e,ex,_⟩:=I.hok p _ b
   refine⟨⟨o,e,ex.1⟩,fun a g=>?_⟩
   cases g
   exact⟨o,e,ex.2.1⟩
 | _=>exact False.elim ty
variable {o e:Expr}{es:List Expr}{to:TE}{t:TA}{name:Str}{apos cpos:Pos}{T id:String}{r:V->List V->Hp->VK->Prop}
end
def MtM (X:Cx)(id:String)(r:V->List V->Hp->VK->Prop):Prop :=
 ∀(pins:List (Addr×Obj)) (s:BV1) (σ:St) (H:Hp) (x:V) (xs:List V) (v:Value) (us:List Value) (Q:VK),Inv X pins σ H s->RelV x v->Vals xs us->r x xs H Q ->
  wpAny (model X.prog X.w) X.A (call (.builtin id) (v::us)) (EP X pins σ Q) X.xe s
theorem Vals.one:∀{x:V} {us:List Value},Vals [x] us->∃u,us=[u]/\RelV x u
 | _,_,.cons r .nil=>⟨_,rfl,r⟩
section
variable {X:Cx}{pins:List (Addr×Obj)}{σ:St}{H:Hp}{s:BV1}{l b:Addr}{xs ys zs:List V}
theorem Inv.lset {its':List Value}{n:Nat}{f:Array Value->Array Value}{t':Nat}(I:Inv X pins σ H s)(a:H l=some (.lst xs))
  (e:s.heap.get? l=some {cls:=.type "list",data:=.seq its.toArray n}) (b:f its.toArray=its'.toArray) (c:Vals ys its') (d:ys.length<=BV8) :
  Inv X pins σ (upd H l (.lst ys)) {s with heap:=s.heap.update l (Obj.mapSeq f),toks:=t'}:=by
 have q:=PySem.IsL.update e f
 rw[b] at q
 refine I.write (x:=l) (e:=l) (by rw[a];exact trivial) (.inl rfl) (fun i u g h=>(CG2 s.heap (Obj.mapSeq f) (Ne.symm g)).trans h) ⟨_,q⟩ ?_
 exact⟨d,its',_,c,q⟩
theorem Inv.lnew {t':Nat}(I:Inv X pins σ H s)(a:Vals ys its)(b:ys.length<=BV8) :
  Inv X pins σ (upd H s.heap.objs.size (.lst ys)) {s with heap:=s.heap.push {cls:=.type "list",data:=.seq its.toArray},toks:=t'} :=
 I.laid (fun _ _ q=>BU6 _ q) (BU4 _) ⟨b,its,0,a,BW4 _ rfl⟩
theorem Inv.fresh (I:Inv X pins σ H s):H s.heap.objs.size=none:=I.hok.fresh (BU4 _)
theorem Inv.lstM (I:Inv X pins σ H s)(a:H l=some (.lst xs)):xs.length<=BV8/\∃(its:List Value) (n:Nat),Vals xs its/\xs.length=its.length/\s.heap.get? l=some {cls:=.type "list",data:=.seq its.toArray n}:=by
 obtain⟨z,its,n,r,e⟩:=I.hok l _ a
 exact⟨z,its,n,r,r.length,e⟩
theorem AF8 {n:Nat}(h:n<=BV8):Builtin.List.listTooLong n=false:=by
 exact decide_eq_false (by lia)
end
section
variable {X:Cx}
def AV3:V->List V->Hp->VK->Prop:=fun x vs H Q=>∃l xs y,x=.ref l/\vs=[y]/\H l=some (.lst xs)/\xs.length<BV8/\Q .non (upd H l (.lst (xs++[y])))
theorem KY:MtM X "list.append" AV3:=by
 intro b s i H x j v k Q I d f h
 obtain⟨l,m,y,rfl,rfl,c,o,q⟩:=h
 cases d
 obtain⟨u,rfl,g⟩:=f.one
 obtain⟨z,a,n,r,p,e⟩:=I.lstM c
 refine call_meets F.slot_list_append ⟨_,e,rfl⟩ F.entry_list_append (F.args_list_append_2 _ _) (PySem.list_append l a.toArray n u (by rw[BW3];lia)) ⟨e,?_⟩
 refine⟨.non,_,I.lset (its':=a++[u]) c e (by simp) (r.append (.cons g .nil)) ?_,rfl,q⟩
 rw[BU7,List.length_singleton]
 lia
def AV4:V->List V->Hp->VK->Prop:=fun x vs H Q=>∃l b xs zs,x=.ref l/\vs=[.ref b]/\H l=some (.lst xs)/\H b=some (.lst zs)/\xs.length+zs.length<=BV8/\Q .non (upd H l (.lst (xs++zs)))
theorem YT:MtM X "list.extend" AV4:=by
 intro g s A H x B v C Q I j k h
 obtain⟨l,b,D,E,rfl,rfl,i,m,G,q⟩:=h
 cases j
 obtain⟨u,rfl,o⟩:=k.one
 cases o
 obtain⟨z,c,n,r,J,e⟩:=I.lstM i
 obtain⟨K,a,p,t,w,y⟩:=I.lstM m
 have f:c.toArray.size+a.toArray.size<=BV8:=by rw[BW3,BW3];lia
 have d:¬(!c.toArray.isEmpty && Builtin.List.listTooLong (c.toArray.size+a.toArray.size))=true:=by
  rw[AF8 f,Bool.and_false]
  exact BU9
 refine call_meets F.slot_list_extend ⟨_,e,rfl⟩ F.entry_list_extend (F.args_list_extend_2 _ _)
  (AutoSeq1.list_extend_list_list_0 l c.toArray n b a.toArray p d (by lia) (by lia)) ⟨e,y,?_⟩
 refine⟨.non,_,I.lset (its':=c++a) i e (by simp) (r.append t) ?_,rfl,q⟩
 rw[BU7]
 lia
end
section
variable {prog:BY7}{w:World}{A:CE0}{E:Value->BV1->Prop}{s:BV1}
end
section
variable {X:Cx}
end
end L2
namespace Att
open PySem PySem.W PySem.Calls PyProof.Rows
theorem FF {P:Params}:∀(ns:List Int) (vs:List Value),WellAll P h vs (ns.map WData.int)->IntsAre vs ns:=by
 intro ns
 induction ns with
 | nil =>
  intro vs w
  cases w
  exact .nil
 | cons n ns c =>
  intro vs w
  cases w with
  | cons a b =>
   cases a
   exact .cons _ _ (c _ b)
theorem ZS {l:OpenLaw}{n:Nat}(o:l.most=some n){P:Params}{args:List WData}{b:List Value}
  (c:l.row.toRowW.claim.pre args=true) (j:WellAll P h b args) :
  ∃a vs ns,b=[Value.ref a]/\args=[WData.list (ns.map WData.int)]/\h.get? a=some {cls:=.type "list",data:=.seq vs.toArray}/\IntsAre vs ns/\ns.length<=n:=by
 have k:=(pre_splitW c).1
 have m:l.pre.holds [] {args:=args}=true:=(pre_splitW c).2
 obtain⟨d,r,rfl,p,s⟩:=hasAllW_cons k
 obtain rfl:=hasAllW_nil s
 obtain⟨y,rfl,t⟩:=hasW_list p
 obtain⟨ns,rfl⟩:=items_int t
 have e:ns.length<=n:=by
  unfold OpenLaw.pre at m
  have g:(WTm.not (.lt (.lit (.int (n:Int))) (.len (.arg 0)))).holds [] {args:=[.list (ns.map .int)]}=true:=by
   have g:=(holds_andW m).1
   rw[o] at g
   exact g
  have i:=condW_of g (w_not (w_lt w_lit (w_len_list (w_arg rfl))))
  rw[BU2] at i
  refine Nat.le_of_not_lt fun q=>?_
  have u:(n:Int)<((ns.length:Nat):Int):=by lia
  first
   | (rw[decide_eq_true u] at i;exact absurd i (by decide))
   | (simp at i;lia)
 cases j with
 | cons v w =>
  cases w
  cases v with
  | list x f=>exact⟨_,_,ns,rfl,rfl,x,FF ns _ f,e⟩
theorem ZK (l:OpenLaw)(args:List WData):l.row.toRowW.claim.post args (.bool true) args=true :=
 postW_of (r:=l.row.toRowW) (X:=(true==true))
  (show WShape.has [] (.bool true) .bool=true by first|rfl|decide|simp[WShape.has,WShape.arms,WShape.armsAll])
  (show(WTm.eq .res (.lit (.bool true))).value [] {args:=args,res:=some (.bool true),after:=args}=some (.bool (true==true)) from w_eq_bool (w_res rfl) w_lit) rfl
theorem attach_call {l:OpenLaw}{n:Nat}{q:BY7}{s:(Str->Option Value)->Heap->Prop}{t:World->Heap->Prop}{d:DefRec}
  (y:l.most=some n) (i:d.params.defaults=[])
  (call:∀(w:World) (s₀ s₁:BV1) (mg j:Str->Option Value) (fa:Addr) (o:Obj) (pm h doc:Value) (a:Addr) (vs:List Value) (ns:List Int),
   Ground q loose [] s w s₀ mg j s₁.heap->t w s₁.heap ->
   s₁.heap.get? fa=some o->o.data=.func (docDef d.name d.params d.body d.scope pm h doc)->s₁.heap.CodeRec h d.name->mg d.name=some (.ref fa) ->
   s₁.heap.get? a=some {cls:=.type "list",data:=.seq vs.toArray}->IntsAre vs ns->ns.length<=n->s₁.gens=#[] ->
   codeAny (model l.prog w) callerA (.call (.ref fa) ⟨[.ref a],[]⟩) (fun r s'=>r=.ok (.ret (.bool true))/\OldK s₁.heap s'.heap/\s'.os=s₁.os/\AllBare s'.gens) s₁) :
  WalkO q loose s t l.row.toRowW d [] (fun f vs=>PySem.call f vs):=by
 intro w s₀ s₁ mg j G Y fa o pm h doc z kV A B k hD m C u v L c x D p E
 obtain rfl:z=.none:=Dflts.none hD i
 obtain rfl:kV=.none:=Dflts.noKw hD
 obtain⟨a,vs,ns,rfl,rfl,e,b,g⟩:=ZS y c p
 refine enter_call (codeAny_mono (call w s₀ s₁ mg j fa o pm h doc a vs ns G Y A (fd_plain B) k m e b g C) fun r s' F=>?_)
 obtain⟨rfl,H,I,J⟩:=F
 exact⟨.inl ⟨.bool true,.bool true,[],rfl,fun _=>rfl,.bool true,ZK l _,fun _=>⟨List.Pairwise.nil,fun _ K=>(nomatch K)⟩⟩,H,I,J⟩
section
variable {prog:BY7}{w:World}{A:CE0}{E:Value->BV1->Prop}{s:BV1}{K:Frag}
end
end Att
namespace L2
open PySem PySem.Spec PyProof.Rows
theorem LR:∀{vs:List Value} {ns:List Int},IntsAre vs ns->Vals (ns.map V.int) vs
 | _,_,.nil=>.nil
 | _,_,.cons n t h=>.cons ⟨t,rfl⟩ (LR h)
def BA9 (H:Hp):Prop:=∀b,H b=none\/∃o xs,H b=some (.frz o (.lst xs))
theorem AF0 {J:Str->Option Value}{CX:CXT}{k:Nat}{fa a:Addr}{sp:Sp}{s₁:BV1}{vs:List Value}{ns:List Int}
  (R:K.In s₁.heap) (l:s₁.heap.Ns BY2 mg) (f:s₁.heap.Ns builtinsNs J) (L:∀x:Str,x≠"__name__"->J x=BZ4 x) (p:s₁.heap.NoLimit) (Y:s₁.gens=#[])
  (E:s₁.heap.get? a=some {cls:=.type "list",data:=.seq vs.toArray}) (hi:IntsAre vs ns) (S:ns.length<=BV8) (Z:Room k callerA)
  (F:∀base:Heap,K.In base->base.Ns BY2 mg->AL P w K mg base CX k fa fd [x] sp) (j:∀(s:BV1) (u:Value),BindsTo s fd ⟨[u],[]⟩ [(x,u)])
  (M:∀H:Hp,BA9 H->SqL K H a (ns.map V.int)->sp [.ref a] H (fun v _=>v=.bl true) fun _ _ _=>False)
  (N:∀H e s',CX [] H s₁ (fun _ _ _=>False) e s'->False) :
  codeAny (model P w) callerA (.call (.ref fa) ⟨[.ref a],[]⟩) (fun r s'=>r=.ok (.ret (.bool true))/\OldK s₁.heap s'.heap/\s'.os=s₁.os/\AllBare s'.gens) s₁:=by
 have T:=LR hi
 have t:=hi.length
 have i:∀H:Hp,BA9 H->SqL K H a (ns.map V.int)->HOk P w H s₁.heap->(∀b,H b≠none->b=a)->(H a≠none->K.lookup a=none) ->
   codeAny (model P w) callerA (.call (.ref fa) ⟨[.ref a],[]⟩) (fun r s'=>r=.ok (.ret (.bool true))/\OldK s₁.heap s'.heap/\s'.os=s₁.os/\AllBare s'.gens) s₁:=by
  intro H U hS y W hK
  have c:∀{b:Addr} {o:Obj},s₁.heap.get? b=some o->H b=none->(MZ s₁.heap H).get? b=some o:=fun e n=>AE4 e n
  have O:∀{b:Addr} {o:Obj} {G:Array DictEntry} {I:Nat},s₁.heap.get? b=some o->o.data=.dict G I->H b=none:=fun{b o G I} e d=>by
   cases q:H b with
   | none=>rfl
   | some u =>
    have Q:=W b (by rw[q];simp)
    subst Q
    rw[E] at e;cases e
    have d':=d
    cases d'
  have g:∀{b:Addr} {m:Str->Option Value},s₁.heap.Ns b m->(MZ s₁.heap H).Ns b m:=fun{b m} ⟨o,G,I,e,d,r⟩=>⟨o,G,I,c e (O e d),d,r⟩
  have A:K.In (MZ s₁.heap H):=fun b o e=>c (R b o e) (by
   cases q:H b with
   | none=>rfl
   | some u =>
    have Q:=W b (by rw[q];simp)
    subst Q
    rw[hK (by rw[q];simp)] at e;cases e)
  have hM:Mod K mg (MZ s₁.heap H):=⟨A,g l,⟨J,g f,L⟩,let ⟨mc,h1,h2⟩:=p;⟨mc,g h1,h2⟩⟩
  have e0:AN6 P w K mg (MZ s₁.heap H) callerA [] s₁ H:=⟨rfl,hM,fun b o e=>AR3 e,Nat.le_of_eq (YI _ _),trivial,fun b f=>absurd (show b∈([]:List Addr) from f) (by simp),y,.of_eq Y⟩
  refine codeAny_mono ((F _ A (g l)).run callerA [] s₁ H ⟨[.ref a],[]⟩ [.ref a] [.ref a] _ _ Z e0 (j s₁ (.ref a)) (.cons rfl .nil) (M H U hS)) fun r s' h=>?_
  cases r with
  | error e=>exact(N H e s' h).elim
  | ok fl =>
   cases fl with
   | next=>exact False.elim h
   | brk=>exact False.elim h
   | cont=>exact False.elim h
   | ret u =>
    obtain⟨v,H',os,B,un,C,r',q⟩:=h
    have q':=q
    subst q'
    obtain rfl:u=Value.bool true:=r'
    refine⟨rfl,OldK.of_keep fun b o e=>?_,os,B⟩
    cases q:H b with
    | none=>exact un.keep b o e q (by intro z;exact absurd (show b∈([]:List Addr) from z) (by simp)) (by simp)
    | some u =>
     rcases U b with z|⟨ob,xs,z⟩
     ·rw[q] at z;cases z
     ·have z2:=un.frzs b ob _ z
      obtain⟨X,_⟩:=y b _ z
      obtain⟨e2,_⟩:=C b _ z2
      rw[e] at X;cases X
      exact e2
 cases hk:K.lookup a with
 | some o =>
  have e:=R a o hk
  rw[E] at e
  cases e
  refine i (fun _=>none) (fun _=>.inl rfl) (.inr ⟨_,vs.toArray,_,hk,rfl,rfl,rfl,by rw[BW3,t];exact S,by simpa using T⟩) (fun b u z=>by have D:=z;cases D) (fun b z=>absurd rfl z) fun z=>absurd rfl z
 | none =>
  refine i (fun b=>if b=a then some (.frz {cls:=.type "list",data:=.seq vs.toArray} (.lst (ns.map V.int))) else none) (fun b=>?_) (.inl (.inr ⟨{cls:=.type "list",data:=.seq vs.toArray},if_pos rfl⟩)) (fun b u z=>?_) (fun b z=>?_) fun _=>hk
  ·by_cases f:b=a
   ·exact .inr ⟨_,_,if_pos f⟩
   ·exact .inl (if_neg f)
  ·by_cases f:b=a
   ·have D:=(if_pos f).symm.trans z
    cases D
    subst f
    exact⟨E,by rw[BU2];exact S,vs,_,T,E⟩
   ·have D:=(if_neg f).symm.trans z
    cases D
  ·by_cases f:b=a
   ·exact f
   ·exact absurd (if_neg f) z
theorem AW9 {l:PySem.W.OpenLaw}{n k:Nat}{q:BY7}{D:(Str->Option Value)->Heap->Prop}{A:World->Heap->Prop}{d:DefRec}{K:Params->BU5}{CX:World->CXT}{sp:World->Sp}
  (E:l.most=some n) (p:n<=BV8) (r:d.params.defaults=[]) (I:Room k callerA)
  (J:∀(w:World) (h:Heap),A w h->(K w.params).In h)
  (F:∀(w:World) (mg:Str->Option Value) (fa:Addr) (h:Heap),(K w.params).In h->h.Ns BY2 mg->mg d.name=some (.ref fa) ->
   ∃fd:CI3,(∀(s:BV1) (u:Value),BindsTo s fd ⟨[u],[]⟩ [(x,u)]) /\
    ∀base:Heap,(K w.params).In base->base.Ns BY2 mg->AL l.prog w (K w.params) mg base (CX w) k fa fd [x] (sp w))
  (t:∀(w:World) (H:Hp) (a:Addr) (ns:List Int),ns.length<=n->BA9 H->SqL (K w.params) H a (ns.map V.int)->sp w [.ref a] H (fun v _=>v=.bl true) fun _ _ _=>False)
  (y:∀(w:World) (H:Hp) (s:BV1) (e:Value) (s':BV1),CX w [] H s (fun _ _ _=>False) e s'->False) :
  PySem.W.WalkO q loose D A l.row.toRowW d [] (fun f vs=>PySem.call f vs):=by
 refine Att.attach_call E r fun w B j mg R fa o pm S L a vs ns G Y U X M z m i c N=>?_
 have C:=J w _ Y
 obtain⟨fd,O,P⟩:=F w mg fa _ C G.T.g z
 exact AF0 C G.T.g G.T.b G.T.builtins G.T.nolimit N m i (CA0 c p) I P O (fun H Q hS=>t w H a ns c Q hS) fun H e s'=>y w H j e s'
def N0 (s:Stmt):Arguments:=match s with
 | .FunctionDef _ a _ _ _ _ _ _ _ _=>a
 | _=>{posonlyargs:=[],args:=[],vararg:=none,kwonlyargs:=[],kw_defaults:=[],kwarg:=none,defaults:=[]}
def G3 (s:Stmt):List Stmt:=match s with
 | .FunctionDef _ _ b _ _ _ _ _ _ _=>b
 | _=>[]
def D3 (s:Stmt):Scope:=match s with
 | .FunctionDef _ _ _ _ _ _ sc _ _ _=>sc
 | _=>{kind:=.function,names:=[],isGenerator:=false,isCoroutine:=false}
abbrev CX0:CXT:=fun _ _ _ _ _ _=>False
abbrev E0:XK:=fun _ _ _=>False
theorem AY7 {X:Cx}:MG CX0 X E0:=fun _ _ _ _ _ _ _ h=>h.elim
structure Fun (K:BU5)(x qual:Str)(st:Stmt)(f:Addr)(fd:CI3):Prop where
 ex:∃(oc:Value) (od:Option Addr) (kV doc pm:Value) (an:Option Addr) (cdv ct:Value) (osl:Array (Option Value)),
  fd=CB8 x qual (N0 st) (G3 st) (D3 st) .none kV doc pm an cdv ct/\K.lookup f=some ⟨oc,od,.func fd,osl⟩/\CG1 K cdv qual=true
 kp:CB3 K (.ref f)=true
section
variable {P:BY7}{w:World}{K:BU5}{mg:Str->Option Value}{base:Heap}
theorem Fun.ok {f:Addr}{k:Nat}{sp:Sp}(F:Fun K x qual st f fd)(S:T7 N ps (D3 st))(len:∀vs H Q E,sp vs H Q E->vs.length=ps.length)
  (a:∀(cdv:Value) (A:CE0) (outer:List Env) (s:BV1) (H:Hp) (vs:List V) (Q:VK) (E:XK),Room k (A.deeper (envOfC qual (D3 st) s.heap.objs.size f cdv))->sp vs H Q E ->
   ∃t,PSs (SS CX0 P w K mg base N qual (D3 st) f cdv A outer s H E).nox (G3 st) t/\t {nx:=fun _ H'=>Q .non H',rt:=Q} (start N vs) H):AL P w K mg base CX0 (k+1) f fd ps sp:=by
 obtain⟨j,l,kV,d,pm,m,cdv,ct,e,rfl,g,b⟩:=F.ex
 refine BL9 g b S len fun A outer s H vs Q E i c=>?_
 obtain⟨t,h,q⟩:=a cdv A outer s H vs Q E i c
 exact⟨t,h.nox,q⟩
theorem Fun.binds {f:Addr}(F:Fun K x qual st f fd)
  (h:∀(kV doc pm:Value) (an:Option Addr) (cdv ct:Value) (us:List Value),us.length=ps.length->bindArgs (CB8 x qual (N0 st) (G3 st) (D3 st) .none kV doc pm an cdv ct) ⟨us,[]⟩=pure (ps.zip us)):Binds K fd ps []:=by
 obtain⟨c,d,kV,doc,pm,an,cdv,ct,a,rfl,e,b⟩:=F.ex
 exact .all (h kV doc pm an cdv ct)
theorem AE2 {f:Addr}{kV pm ct:Value}(l:K.lookup f=some ⟨oc,od,.func (CB8 x qual (N0 st) (G3 st) (D3 st) .none kV doc pm an cdv ct),osl⟩)
  (c:CG1 K cdv qual=true) (k:CB3 K (.ref f)=true):Fun K x qual st f (CB8 x qual (N0 st) (G3 st) (D3 st) .none kV doc pm an cdv ct):=⟨⟨oc,od,kV,doc,pm,an,cdv,ct,osl,rfl,l,c⟩,k⟩
end
section
variable {X:Cx}
end
section
variable {κ:Type}[DecidableEq κ]
def Z7 (kvs:List (κ×V))(k:κ):Option V:=(kvs.find? fun kv=>decide (kv.1=k)).map (·.2)
def putK (kvs:List (κ×V))(k:κ)(v:V):List (κ×V) :=
 if (kvs.any fun kv=>decide (kv.1=k))=true then kvs.map (fun kv=>if kv.1=k then(kv.1,v) else kv) else kvs++[(k,v)]
theorem IV {p:κ×V}{r:List (κ×V)}{k:κ}(e:p.1=k):Z7 (p::r) k=some p.2:=by simp[Z7,CE7,e]
theorem IU {p:κ×V}{r:List (κ×V)}{k:κ}(e:¬p.1=k):Z7 (p::r) k=Z7 r k:=by simp[Z7,CE7,e]
theorem SE (k:κ):∀kvs:List (κ×V),(kvs.any fun a=>decide (a.1=k))=(Z7 kvs k).isSome
 | []=>rfl
 | p::r=>by
  rw[BZ0]
  by_cases e:p.1=k
  ·simp only[IV e,decide_eq_true e,Bool.true_or,Option.isSome_some]
  ·rw[IU e,decide_eq_false e,Bool.false_or];exact SE k r
theorem X3 (kvs:List (κ×V))(k:κ)(v:V):(putK kvs k v).length<=kvs.length+1:=by
 unfold putK
 split
 ·rw[BU2];lia
 ·rw[BU7,BU8,BX3];lia
theorem RelO.isSome_eq {o:Option V}{u:Option Value}(r:RelO o u):o.isSome=u.isSome:=by
 cases o with
 | none=>cases u with
  | none=>rfl
  | some _=>exact(show False from r).elim
 | some _=>cases u with
  | none=>exact(show False from r).elim
  | some _=>rfl
theorem KV.val {kvs:List (κ×V)}{vs:List (κ×Value)}(r:KV kvs vs)(k:κ):RelO (Z7 kvs k) (valueAt vs k):=by
 unfold KV at r
 induction r with
 | nil=>exact True.intro
 | @cons p q i a h t f =>
  obtain⟨d,g⟩:=h
  by_cases e:p.1=k
  ·have c:q.1=k:=d.symm.trans e
   have b:valueAt (q::a) k=some q.2:=by simp[valueAt,CE7,c]
   rw[IV e,b];exact g
  ·have c:¬q.1=k:=fun z=>e (d.trans z)
   have b:valueAt (q::a) k=valueAt a k:=by simp[valueAt,CE7,c]
   rw[IU e,b];exact f
theorem KV.any {kvs:List (κ×V)}{vs:List (κ×Value)}(r:KV kvs vs)(k:κ):(kvs.any fun a=>decide (a.1=k))=vs.any fun a=>decide (a.1=k):=by
 unfold KV at r
 induction r with
 | nil=>rfl
 | cons h t b=>rw[BZ0,BZ0,b,h.1]
theorem KV.repl {kvs:List (κ×V)}{vs:List (κ×Value)}(r:KV kvs vs)(k:κ){y:V}(c:RelV y u) :
  KV (kvs.map fun a=>if a.1=k then(a.1,y) else a) (vs.map fun a=>if a.1=k then(a.1,u) else a):=by
 unfold KV at r ⊢
 induction r with
 | nil=>exact .nil
 | @cons p q g i h t d =>
  rw[BX1,BX1]
  refine .cons ?_ d
  obtain⟨b,f⟩:=h
  by_cases e:p.1=k
  ·rw[if_pos e,if_pos (b.symm.trans e)];exact⟨b,c⟩
  ·rw[if_neg e,if_neg (fun z=>e (b.trans z))];exact⟨b,f⟩
theorem KV.put {kvs:List (κ×V)}{vs:List (κ×Value)}(r:KV kvs vs)(k:κ){y:V}(a:RelV y u):KV (putK kvs k y) (stored vs k u):=by
 unfold putK stored
 rw[r.any k]
 by_cases e:(vs.any fun b=>decide (b.1=k))=true
 ·rw[if_pos e,if_pos e];exact r.repl k a
 ·rw[if_neg e,if_neg e];exact Paired.snoc r ⟨rfl,a⟩
theorem KV.length {kvs:List (κ×V)}{vs:List (κ×Value)}(r:KV kvs vs):kvs.length=vs.length:=Paired.length r
end
theorem QK {k:Key}(r:RelV (kV k) u):(E3 P w).is k u=true:=by
 cases k with
 | inl i=>obtain⟨t,e⟩:=(show∃t,u=Value.int i t from r);subst e;exact QS P w i t
 | inr x=>obtain⟨t,e⟩:=(show∃t,u=Value.str x t from r);subst e;exact P2 P w x t
theorem KP {P:BY7}{w:World}:∀{ks:List Key} {us:List Value},Vals (ks.map kV) us->ItemsAre (E3 P w) ks us
 | [],_,r=>by rw[CH1] at r;cases r;exact .nil
 | k::ks,_,r=>by
  rw[BX1] at r
  cases r with
  | cons h t=>exact .cons (QK h) (KP t)
abbrev KT (H:Hp):List (List Key×V)->List (List Key×Addr×Value)->Prop:=Paired fun p q=>p.1=q.1/\H q.2.1=some (.tup (p.1.map kV))/\RelV p.2 q.2.2
theorem KT.val {kvs:List (List Key×V)}{xs:List (List Key×Addr×Value)}(r:KT H kvs xs)(k:List Key):RelO (Z7 kvs k) ((atKey xs k).map (·.2)):=by
 induction r with
 | nil=>exact True.intro
 | @cons p q i a h t f =>
  obtain⟨d,_,g⟩:=h
  by_cases e:p.1=k
  ·have c:q.1=k:=d.symm.trans e
   have b:atKey (q::a) k=some q.2:=by simp[atKey,CE7,c]
   rw[IV e,b];exact g
  ·have c:¬q.1=k:=fun z=>e (d.trans z)
   have b:atKey (q::a) k=atKey a k:=by simp[atKey,CE7,c]
   rw[IU e,b];exact f
theorem KT.repl {kvs:List (List Key×V)}{xs:List (List Key×Addr×Value)}(r:KT H kvs xs)(k:List Key){y:V}(d:RelV y u) :
  KT H (kvs.map fun b=>if b.1=k then(b.1,y) else b) (xs.map (putAt k u)):=by
 induction r with
 | nil=>exact .nil
 | @cons p q i j h t f =>
  rw[BX1,BX1]
  refine .cons ?_ f
  obtain⟨a,c,g⟩:=h
  unfold putAt
  by_cases e:p.1=k
  ·rw[if_pos e,if_pos (a.symm.trans e)];exact⟨a,c,d⟩
  ·rw[if_neg e,if_neg (fun z=>e (a.trans z))];exact⟨a,c,g⟩
theorem KT.put {kvs:List (List Key×V)}{xs:List (List Key×Addr×Value)}(r:KT H kvs xs)(k:List Key){b:Addr}{y:V}(c:H b=some (.tup (k.map kV)))(a:RelV y u) :
  KT H (putK kvs k y) (storedH xs k b u):=by
 have e:(kvs.any fun d=>decide (d.1=k))=(atKey xs k).isSome:=by
  rw[SE,(r.val k).isSome_eq,Option.isSome_map]
 unfold putK storedH
 rw[e]
 by_cases q:(atKey xs k).isSome=true
 ·rw[if_pos q,if_pos q];exact r.repl k a
 ·rw[if_neg q,if_neg q];exact Paired.snoc r ⟨rfl,c,a⟩
theorem KT.keeps {H':Hp}{kvs:List (List Key×V)}{xs:List (List Key×Addr×Value)}(r:KT H kvs xs)(a:∀b ys,H b=some (.tup ys)->H' b=some (.tup ys)):KT H' kvs xs :=
 Paired.mapP r fun _ _ z=>⟨z.1,a _ _ z.2.1,z.2.2⟩
section
variable {P:BY7}{w:World}{H:Hp}{h:Heap}{a:Addr}
theorem AZ3 {u:HO}(ok:HOk P w H h)(e:Rd H a u):ObjOk P w H h a u:=e.ok ok
theorem AD3 (ok:HOk P w H h)(e:Rd H a (.dK kvs)):kvs.length<=BV8/\(a==CC2)=false/\∃vs,KV kvs vs/\h.DictOf (E3 P w) a vs :=
 show ObjOk P w H h a (.dK kvs) from AZ3 ok e
theorem AX4 (ok:HOk P w H h)(e:H a=some (.dK kvs)):kvs.length<=BV8/\(a==CC2)=false/\∃vs,KV kvs vs/\h.DictOf (E3 P w) a vs:=AD3 ok (.inl e)
theorem SX {ks:List Key}(ok:HOk P w H h)(e:H a=some (.tup (ks.map kV))):(tupleKind (E3 P w)).is h ks a:=by
 obtain⟨_,b,r,o,c,d,n,f⟩:=(show ObjOk P w H h a (.tup (ks.map kV)) from ok a _ e)
 exact⟨o,b.toArray,n,c,d,f,by simpa using KP r⟩
theorem AD5 {kvs:List (List Key×V)}(ok:HOk P w H h)(e:Rd H a (.dT kvs)):kvs.length<=BV8/\(a==CC2)=false /\
  ∃xs,KT H kvs xs/\h.DictOfH (tupleKind (E3 P w)) a xs:=by
 obtain⟨z,y,xs,r,o,c,d,f,g,i,j,k⟩:=(show ObjOk P w H h a (.dT kvs) from AZ3 ok e)
 refine⟨z,y,xs,r,o,c,d,f,g,i,j,fun x hx=>?_,k⟩
 have all:∀{l:List (List Key×V)} {m:List (List Key×Addr×Value)},KT H l m->∀x∈m,(tupleKind (E3 P w)).is h x.1 x.2.1:=by
  intro l m q
  induction q with
  | nil=>intro x hx;exact nomatch hx
  | @cons p q s u b t n =>
   intro x hx
   rcases BZ3.mp hx with e|hx
   ·subst e
    exact SX ok (by rw[<-b.1];exact b.2.1)
   ·exact n x hx
 exact all r x hx
theorem BL5 {kvs:List (List Key×V)}(ok:HOk P w H h)(e:H a=some (.dT kvs)):kvs.length<=BV8/\(a==CC2)=false /\
  ∃xs,KT H kvs xs/\h.DictOfH (tupleKind (E3 P w)) a xs:=AD5 ok (.inl e)
end
def BA6 (H:Hp)(a:Addr)(y:V)(r:Option V):Prop :=
 (∃kvs k,Rd H a (.dK kvs)/\y=kV k/\r=Z7 kvs k)\/∃kvs k b,Rd H a (.dT kvs)/\y=.ref b/\H b=some (.tup (k.map kV))/\r=Z7 kvs k
def BK3 (H:Hp)(a:Addr)(y v:V)(H':Hp):Prop :=
 (∃kvs k,H a=some (.dK kvs)/\y=kV k/\kvs.length<BV8/\H'=upd H a (.dK (putK kvs k v))) \/
 ∃kvs k b,H a=some (.dT kvs)/\y=.ref b/\H b=some (.tup (k.map kV))/\kvs.length<BV8/\H'=upd H a (.dT (putK kvs k v))
section
variable {X:Cx}{pins:List (Addr×Obj)}{σ:St}{H:Hp}{s:BV1}{a:Addr}{y v:V}{u r:Value}{o:Option V}{A:CE0}{E:Value->BV1->Prop}
theorem Inv.big (I:Inv X pins σ H s):CC2<s.heap.objs.size:=by
 have h:BY2<s.heap.objs.size:=(I.mod.glob.keeps I.bk).lt
 exact Nat.lt_trans (by decide) h
theorem XZ (r:A.units+1<cLine)(I:Inv X pins σ H s)(g:BA6 H a y (some v))(q:RelV y u)(h:∀w' s',Inv X pins σ H s'->RelV v w'->Q w' s') :
  wpAny (model X.prog X.w) A (CJ4 (.ref a) u) Q E s:=by
 rcases g with⟨f,k,e,i,l⟩|⟨f,k,b,e,i,t,l⟩
 ·subst i
  obtain⟨z,x,B,c,j⟩:=AD3 I.hok e
  obtain⟨w',m,d⟩:=RelO.some_of (v:=v) (o:=valueAt B k) (by rw[l];exact c.val k)
  exact wpAny_getItem_of (QK q) j.mapOf m (h w' _ (I.tok _) d)
 ·subst i
  cases(show u=Value.ref b from q)
  obtain⟨z,x,C,c,j⟩:=AD5 I.hok e
  obtain⟨w',m,d⟩:=RelO.some_of (v:=v) (o:=(atKey C k).map (·.2)) (by rw[l];exact c.val k)
  obtain⟨p,D,n⟩:=Option.map_eq_some_iff.mp m
  refine wpAny_getItem_heap (tupleKind_room_in1 r) (SX I.hok t) j D ?_
  rw[n]
  exact h w' _ (I.tok _) d
theorem FL {t':Nat}{c:HO}(I:Inv X pins σ H s)(d:Mut (H a))(hs:CD0 a s.heap h')(f:∃q,h'.get? a=some q)(new:ObjOk X.prog X.w (upd H a c) h' a c) :
  Inv X pins σ (upd H a c) {s with heap:=h',toks:=t'} :=
 I.write (x:=a) (e:=a) d (.inl rfl) (fun b q g z=>(hs.2 b g).trans z) f new
theorem AD2 {H':Hp}{vs:List (Key×Value)}(z:kvs.length<=BV8)(hd:(a==CC2)=false)(b:KV kvs vs)(c:h'.DictOf (E3 P w) a vs) :
  ObjOk P w H' h' a (.dK kvs):=⟨z,hd,vs,b,c⟩
theorem YA {H':Hp}{Q:Unit->BV1->Prop}(K:A.units+1<cLine)(I:Inv X pins σ H s)(g:BK3 H a y v H')(C:RelV y u)(D:RelV v r)(h:∀s',Inv X pins σ H' s'->Q () s') :
  wpAny (model X.prog X.w) A (setItem (.ref a) u r) Q E s:=by
 rcases g with⟨d,k,e,m,l,n⟩|⟨d,k,b,e,m,F,l,n⟩
 ·subst m n
  obtain⟨z,o,L,f,p⟩:=AX4 I.hok e
  have t:L.length<=BV8:=by rw[<-f.length];exact z
  have x:(putK d k v).length<=BV8:=by have:=X3 d k v;lia
  refine wpAny_setItem_pairs (hsz:=t) (QK C) p fun G i B=>h _ ?_
  have M:∃q,G.get? a=some q:=let ⟨q,_,_,j,_⟩:=i;⟨q,j⟩
  exact FL I (by rw[e];exact True.intro) B M (AD2 x o (f.put k D) i)
 ·subst m n
  cases(show u=Value.ref b from C)
  obtain⟨z,o,N,f,p⟩:=BL5 I.hok e
  have t:N.length<=BV8:=by rw[<-Paired.length f];exact z
  have x:(putK d k v).length<=BV8:=by have:=X3 d k v;lia
  refine wpAny_setItem_heap (hsz:=t) (tupleKind_room_in1 K) (SX I.hok F) p fun G i B=>h _ ?_
  obtain⟨q,O,P,j,R,S,T,_,U⟩:=i
  refine FL I (by rw[e];exact True.intro) B ⟨q,j⟩ ⟨x,o,_,(f.put k F D).keeps fun c V J=>?_,q,O,P,j,R,S,T,U⟩
  rw[D6 (BN2 J e (fun z=>nomatch z))]
  exact J
end
section
variable {X:Cx}{pins:List (Addr×Obj)}{σ:St}{H:Hp}{s:BV1}{a:Addr}{kvs:List (Key×V)}{k:Key}{u:Value}{A:CE0}{E:Value->BV1->Prop}
end
def XS (i:Expr):Prop:=∀ov iv,subscripted i false ov iv=operate [ov,iv] (CJ4 ov iv)
theorem OR {E:Value->BV1->Prop}{value a:Expr}{T id:String}
  (j:typeLookup (.type T) "__getitem__"=pure (some (.builtin id))) (hs:XS a)
  (h:wpAny (model prog w) A (eval value env) (fun o s₁=>wpAny (model prog w) A (eval a env) (fun i s₂=>s₂.TypeIs o T/\wpAny (model prog w) A (CJ4 o i) Q E s₂) E s₁) E s) :
  wpAny (model prog w) A (eval (.Subscript value a pos) env) Q E s:=by
 refine Subscript_ (CA5 h (fun o s₁ e=>CA5 e (fun i s₂ b=>?_) fun _ _ x=>x) fun _ _ x=>x)
 obtain⟨g,b⟩:=b
 unfold subscriptTail
 refine BU3 ?_
 rw[getitemInPython_of_ne g.not_modules]
 refine BU3 (CG4 g j ?_)
 have d:wpAny (model prog w) A (subscripted a false o i) (fun r c=>wpAny (model prog w) A (letTemporaryGo value o r >>= fun _=>pure r) Q E c) E s₂:=by
  rw[hs o i]
  exact wpAny_operating (CA5 b (fun r c f=>BU3 (wpAny_letTemporaryGo (BV0 f))) fun _ _ x=>x)
 first
  | exact BV0 (BU3 d)
  | exact BU3 (BV0 (BU3 d))
  | exact BU3 d
theorem PW {X:Cx}{σ:St}{a:Addr}{y:V}{o:Option V}(I:Inv X pins σ H s)(g:BA6 H a y o):s.TypeIs (.ref a) "dict":=by
 rcases g with⟨c,k,e,_,_⟩|⟨c,k,b,e,_,_,_⟩
 ·obtain⟨_,_,f,_,d⟩:=AD3 I.hok e
  exact d.typeIs
 ·obtain⟨_,_,h,_,d⟩:=AD5 I.hok e
  exact d.typeIs
def BR4 (td ty:TE):TE:=fun σ H Q=>td σ H fun x H1=>ty σ H1 fun y H2=>∃a v,x=.ref a/\BA6 H2 a y (some v)/\Q v H2
def BQ5 (td ty tv:TE):TS:=fun D σ H=>tv σ H fun v H1=>td σ H1 fun x H2=>ty σ H2 fun y H3=>∃a H4,x=.ref a/\BK3 H3 a y v H4/\D.nx σ H4
section
variable {X:Cx}{o i e value:Expr}{pos pos' tpos:Pos}{td ty tv:TE}
theorem AT3 (f:X.A.units+1<cLine)(ho:PE X o td)(hi:PE X i ty)(hs:XS i):PE X (.Subscript o i pos) (BR4 td ty):=by
 intro b s d H Q I h
 refine OR PySem.F.slot_dict_getitem.lookup hs (thn (ho b s d H _ I h) fun u j ⟨x,k,l,m,n⟩=>thn (hi b j d k _ l n) fun w z ⟨y,p,e,q,a,v,ex,g,r⟩=>?_)
 subst ex
 obtain rfl:u=Value.ref a:=m
 exact⟨PW e g,XZ f e g q fun B C t c=>⟨v,p,t,c,r⟩⟩
theorem AU8 (d:X.A.units+1<cLine)(ho:PE X o td)(hi:PE X i ty)(e:PE X value tv)(hs:CJ8 value (some (.Subscript o i pos')) pos.line X.env=pure false) :
  PS X (.Assign [.Subscript o i pos'] value pos) (BQ5 td ty tv):=by
 intro b s c H D I h
 refine wpAny_Assign_Subscript (thn (e b s c H _ I h) fun r f ⟨v,j,k,l,m⟩=>thn (ho b f c j _ k m) fun u n ⟨x,p,q,t,w⟩=>thn (hi b n c p _ q w) fun G J ⟨y,K,z,B,a,C,ex,g,E⟩=>?_) hs
 subst ex
 obtain rfl:u=Value.ref a:=t
 exact YA d z g B l fun L F=>⟨c,C,F,E⟩
end
theorem AD1 (h:Heap)(a:CC2<h.objs.size):ObjOk P w H (h.push {cls:=.type "dict",data:=.dict #[]}) h.objs.size (.dK []) :=
 ⟨CD4 _,beq_eq_false_iff_ne.mpr (Ne.symm (BX7 a)),[],.nil,Heap.DictOf.new h⟩
section
variable {X:Cx}{pos:Pos}
end
def OW:List (TE×TE)->St->Hp->(List (V×V)->Hp->Prop)->Prop
 | [],_,H,Q=>Q [] H
 | (tk,tv)::r,σ,H,Q=>tk σ H fun x H1=>tv σ H1 fun y H2=>OW r σ H2 fun ps H3=>Q ((x,y)::ps) H3
abbrev VV:List (V×V)->List (Value×Value)->Prop:=Paired fun p q=>RelV p.1 q.1/\RelV p.2 q.2
def PPs (X:Cx)(pos:Pos)(keys:List (Option Expr))(values:List Expr)(trs:List (TE×TE)):Prop :=
 ∀(pins:List (Addr×Obj)) (s:BV1) (σ:St) (H:Hp) (Q:List (V×V)->Hp->Prop),Inv X pins σ H s->OW trs σ H Q ->
  wpAny (model X.prog X.w) X.A (evalPairs (pairTrees keys values X.env pos)) (fun vs s'=>∃ps H',Inv X pins σ H' s'/\VV ps vs/\Q ps H') X.xe s
theorem AU2 {X:Cx}:PPs X pos [] [] []:=fun a s b H Q I h=>pairTrees_nil_walk ⟨[],H,I,.nil,h⟩
theorem AI4 {X:Cx}{k v:Expr}{ks:List (Option Expr)}{vs:List Expr}{tk tv:TE}{b:List (TE×TE)}(e:PE X k tk)(f:PE X v tv)(g:PPs X pos ks vs b) :
  PPs X pos (some k::ks) (v::vs) ((tk,tv)::b):=fun a s c H Q I h =>
 pairTrees_cons_walk (thn (e a s c H _ I h) fun u i ⟨x,j,l,m,n⟩=>thn (f a i c j _ l n) fun C o ⟨y,p,q,r,t⟩ =>
  thn (g a o c p _ q t) fun D E ⟨w,z,A,d,B⟩=>⟨(x,y)::w,z,A,.cons ⟨m,r⟩ d,B⟩)
def DY (kvs more:List (Key×V)):List (Key×V):=more.foldl (fun acc kv=>putK acc kv.1 kv.2) kvs
theorem KV.merge:∀{more:List (Key×V)} {a:List (Key×Value)} {kvs:List (Key×V)} {vs:List (Key×Value)},KV more a->KV kvs vs->KV (DY kvs more) (merged vs a):=by
 intro more a kvs vs r
 unfold KV at r
 induction r generalizing kvs vs with
 | nil=>intro q;exact q
 | @cons p q d f h t b =>
  intro c
  have e:KV (putK kvs p.1 p.2) (stored vs q.1 q.2):=by
   have:=c.put p.1 h.2
   rw[<-h.1];exact this
  exact b e
theorem AV:∀(more kvs:List (Key×V)),(DY kvs more).length<=kvs.length+more.length
 | [],kvs=>by show kvs.length<=kvs.length+0;lia
 | p::r,kvs=>by
  have a:=AV r (putK kvs p.1 p.2)
  have b:=X3 kvs p.1 p.2
  show(DY (putK kvs p.1 p.2) r).length<=_
  rw[BU8];lia
theorem GJ {P:BY7}{w:World}:∀{kvs:List (Key×V)} {e:List (Value×Value)},VV (kvs.map fun f=>(kV f.1,f.2)) e->∃d,Carries (E3 P w) e d/\KV kvs d
 | [],_,r=>by rw[CH1] at r;cases r;exact⟨[],True.intro,.nil⟩
 | p::kvs,_,r=>by
  rw[BX1] at r
  cases r with
  | @cons a b i bs h t =>
   obtain⟨d,c,q⟩:=GJ (P:=P) (w:=w) t
   obtain⟨j,g⟩:=b
   exact⟨(p.1,g)::d,⟨QK h.1,rfl,c⟩,.cons ⟨rfl,h.2⟩ q⟩
def BR5 (trs:List (TE×TE)):TE:=fun σ H Q=>∀p,H p=none->OW trs σ (upd H p (.dK [])) fun ps H2=>H2 p=some (.dK [])/\∃kvs:List (Key×V),ps=kvs.map (fun kv=>(kV kv.1,kv.2))/\kvs.length<=15/\Q (.ref p) (upd H2 p (.dK (DY [] kvs)))
theorem AT4 {X:Cx}{keys:List (Option Expr)}{b:List Expr}{d:List (TE×TE)}(h:PPs X pos keys b d)(f:keys.all (·.isSome)=true)(n:keys.length=b.length)(p:keys≠[])
  (k:keys.length<=15):PE X (.Dict keys b pos) (BR5 d):=by
 intro g s r H Q I q
 have t:=I.hok.fresh (BU4 s.heap.objs.size)
 have u:=I.laid (a:=s.heap.objs.size) (o:=.dK []) (h':=s.heap.push {cls:=.type "dict",data:=.dict #[]}) (t':=s.toks) (fun _ _ q=>BU6 _ q) (BU4 _) (AD1 s.heap I.big)
 refine wpAny_Dict_walk (knd:=E3 X.prog X.w) f n p k (thn (h g _ r _ _ u (q _ t)) fun L M ⟨N,O,m,l,e,i,v,R,x⟩=>?_)
 subst v
 obtain⟨y,c,A⟩:=GJ (P:=X.prog) (w:=X.w) l
 obtain⟨z,B,C,D,E⟩:=AX4 m.hok e
 cases D
 refine⟨y,c,E,fun h' j F=>⟨.ref s.heap.objs.size,_,?_,rfl,x⟩⟩
 have G:(DY [] i).length<=BV8:=by
  have J:=AV i []
  rw[BX3] at J
  rw[BW2];lia
 have K:∃q,h'.get? s.heap.objs.size=some q:=let ⟨q,_,_,hq,_⟩:=j;⟨q,hq⟩
 exact FL m (by rw[e];exact True.intro) F K (AD2 G B (A.merge .nil) j)
section
variable {X:Cx}{pins:List (Addr×Obj)}{σ:St}{H:Hp}{s:BV1}{a:Addr}{y d:V}{u r:Value}{o:Option V}{A:CE0}{E:Value->BV1->Prop}
end
section
variable {X:Cx}{o e f:Expr}{apos cpos:Pos}{td ty tx:TE}
end
section
variable {X:Cx}{pins:List (Addr×Obj)}{σ:St}{H:Hp}{s:BV1}{a:Addr}{kvs:List (Key×V)}{A:CE0}{E:Value->BV1->Prop}
end
section
variable {X:Cx}{pins:List (Addr×Obj)}{σ:St}{H:Hp}{s:BV1}{a:Addr}{y:V}{u:Value}{A:CE0}{E:Value->BV1->Prop}
end
section
variable {X:Cx}
end
section
variable {κ:Type}[DecidableEq κ]
end
end L2
namespace L3
open PySem PySem.Spec PyProof.Rows L2
class RdC (B:Prop) (A:outParam Prop):Prop where
 h:A->B
theorem RdC.g {A B:Prop}(i:RdC B A):A->B:=i.h
inductive D where
 | non|bl (b:Bool)|int (i:Int)|str (x:Str)|ty (n:String)|ref (a:Addr)
 | tup (xs:List D)|lst (xs:List D)|dct (kvs:List (Key×D))
abbrev C7:=Str×Option (List Int)
def nkD:C7->D
 | (w,none)=>.tup [.str w]
 | (w,some p)=>.tup [.str w,.tup (p.map D.int)]
inductive MO where
 | lst (xs:List D)|dct (kvs:List (Key×D))|dt (kvs:List (List Int×D))|dn (kvs:List (C7×D))
abbrev Mem:=Addr->Option MO
def D9 (M:Mem)(a:Addr)(o:MO):Mem:=fun b=>if b=a then some o else M b
def J4 (M:Mem)(a:Addr):Mem:=fun b=>if b=a then none else M b
theorem B0 {M:Mem}{a:Addr}{o:MO}:D9 M a o a=some o:=by unfold D9;rw[if_pos rfl]
theorem B3 {M:Mem}{a b:Addr}{o:MO}(h:b≠a):D9 M a o b=M b:=by unfold D9;rw[if_neg h]
theorem YS {M:Mem}{a:Addr}{o u:MO}:D9 (D9 M a o) a u=D9 M a u:=by
 funext b;unfold D9;split<;>rfl
def BK6 (K:BU5)(a:Addr)(xs:List V):Prop :=
 ∃(o:Obj) (its:Array Value) (n:Nat),K.lookup a=some o/\o.cls=.type "list"/\o.dict=none/\o.data=.seq its n/\its.size<=BV8/\Vals xs its.toList
def BA8 (K:BU5)(a:Addr)(xs:List V):Prop :=
 ∃(o:Obj) (its:Array Value) (n:Nat),K.lookup a=some o/\o.cls=.type "tuple"/\o.data=.seq its n/\its.size<=BV8/\Vals xs its.toList
def Fix (M:Mem)(H:Hp)(a:Addr)(o:HO):Prop:=Rd H a o/\M a=none
mutual
inductive Rep (K:BU5)(M:Mem)(H:Hp):D->V->Prop
 | non:Rep K M H .non .non
 | bl {b:Bool}:Rep K M H (.bl b) (.bl b)
 | int {i:Int}:Rep K M H (.int i) (.int i)
 | str {x:Str}:Rep K M H (.str x) (.str x)
 | ty {n:String}:Rep K M H (.ty n) (.ty n)
 | ref {a:Addr}:Rep K M H (.ref a) (.ref a)
 | tup {a:Addr} {ds:List D} {vs:List V}:(Fix M H a (.tup vs)\/BA8 K a vs)->Reps K M H ds vs->Rep K M H (.tup ds) (.ref a)
 | lst {a:Addr} {ds:List D} {vs:List V}:(Fix M H a (.lst vs)\/BK6 K a vs)->Reps K M H ds vs->Rep K M H (.lst ds) (.ref a)
 | dct {a:Addr} {ds:List (Key×D)} {vs:List (Key×V)}:Fix M H a (.dK vs)->RepK K M H ds vs->Rep K M H (.dct ds) (.ref a)
inductive Reps (K:BU5)(M:Mem)(H:Hp):List D->List V->Prop
 | nil:Reps K M H [] []
 | cons {d:D} {v:V} {ds:List D} {vs:List V}:Rep K M H d v->Reps K M H ds vs->Reps K M H (d::ds) (v::vs)
inductive RepK (K:BU5)(M:Mem)(H:Hp):List (Key×D)->List (Key×V)->Prop
 | nil:RepK K M H [] []
 | cons {k:Key} {d:D} {v:V} {ds:List (Key×D)} {vs:List (Key×V)}:Rep K M H d v->RepK K M H ds vs->RepK K M H ((k,d)::ds) ((k,v)::vs)
end
def BS8 (x:List Int×Addr×Value):DictEntry:=⟨reduceHash (BY3 (x.1.map hashInt)),.ref x.2.1,x.2.2⟩
def dtφ (a:Addr)(xs:List (List Int×Addr×Value)):BY7->World->Addr->Heap->Prop:=fun _ _ _ h=>(a==CC2)=false/\∃o es ep,h.get? a=some o/\o.ExactDict/\o.data=.dict es ep/\es.toList=xs.map BS8/\(xs.map (·.1)).Nodup
inductive RepT (K:BU5)(M:Mem)(H:Hp):List (List Int×D)->List (List Int×Addr×Value)->Prop
 | nil:RepT K M H [] []
 | cons {k:List Int} {b:Addr} {d:D} {v:V} {u:Value} {ds:List (List Int×D)} {xs:List (List Int×Addr×Value)}:Rep K M H (.tup (k.map D.int)) (.ref b)->Rep K M H d v->RelV v u->RepT K M H ds xs->RepT K M H ((k,d)::ds) ((k,b,u)::xs)
def nHs (w:World):C7->List Int
 | (x,none)=>[AQ1 w (.inr x)]
 | (x,some p)=>[AQ1 w (.inr x),reduceHash (BY3 (p.map hashInt))]
def WA (w:World)(k:C7):Int:=reduceHash (BY3 (nHs w k))
def BS9 (w:World)(x:C7×Addr×Value):DictEntry:=⟨WA w x.1,.ref x.2.1,x.2.2⟩
def dnφ (xs:List (C7×Addr×Value)):BY7->World->Addr->Heap->Prop:=fun _ w a h=>(a==CC2)=false/\∃o es ep,h.get? a=some o/\o.ExactDict/\o.data=.dict es ep/\es.toList=xs.map (BS9 w)/\(xs.map (·.1)).Nodup
inductive RepN (K:BU5)(M:Mem)(H:Hp):List (C7×D)->List (C7×Addr×Value)->Prop
 | nil:RepN K M H [] []
 | cons {k:C7} {b:Addr} {d:D} {v:V} {u:Value} {ds:List (C7×D)} {xs:List (C7×Addr×Value)}:Rep K M H (nkD k) (.ref b)->Rep K M H d v->RelV v u->RepN K M H ds xs->RepN K M H ((k,d)::ds) ((k,b,u)::xs)
def RepO (K:BU5)(M:Mem)(H:Hp)(a:Addr):MO->HO->Prop
 | .lst ds,.lst vs=>Reps K M H ds vs
 | .dct ds,.dK vs=>RepK K M H ds vs
 | .dt ds,.ext φ=>∃xs,φ=dtφ a xs/\RepT K M H ds xs
 | .dn ds,.ext φ=>∃xs,φ=dnφ xs/\RepN K M H ds xs
 | _,_=>False
def MRel (K:BU5)(M:Mem)(H:Hp):Prop:=∀a o,M a=some o->∃ho,H a=some ho/\RepO K M H a o ho
structure Step (M:Mem)(H:Hp)(M':Mem)(H':Hp):Prop where
 keep:∀a o,H a=some o->M a=none->H' a=some o
 dom:∀a,M' a≠none->M a≠none\/H a=none
theorem Step.refl {M:Mem}:Step M H M H:=⟨fun _ _ h _=>h,fun _ h=>.inl h⟩
theorem Step.gone {M M':Mem}{H':Hp}(s:Step M H M' H'){a:Addr}{o:HO}(h:H a=some o)(b:M a=none):M' a=none:=by
 cases e:M' a with
 | none=>rfl
 | some u =>
  rcases s.dom a (by rw[e];intro z;cases z) with z|z
  ·exact absurd b z
  ·rw[h] at z;cases z
theorem Step.trans {M M1 M2:Mem}{H1 H2:Hp}(a:Step M H M1 H1)(b:Step M1 H1 M2 H2):Step M H M2 H2 where
 keep:=fun c o h d=>b.keep c o (a.keep c o h d) (a.gone h d)
 dom:=fun c h=>by
  rcases b.dom c h with z|z
  ·exact a.dom c z
  ·cases e:H c with
   | none=>exact .inr rfl
   | some o =>
    refine .inl fun d=>?_
    rw[a.keep c o e d] at z;cases z
theorem Fix.mono {M M':Mem}{H':Hp}{a:Addr}{o:HO}(s:Step M H M' H')(f:Fix M H a o):Fix M' H' a o:=by
 obtain⟨r,b⟩:=f
 rcases r with r|⟨c,r⟩
 ·exact⟨.inl (s.keep _ _ r b),s.gone r b⟩
 ·exact⟨.inr ⟨c,s.keep _ _ r b⟩,s.gone r b⟩
section
variable {K:BU5}{M M':Mem}{H H':Hp}
theorem Rep.mono {d:D}(s:Step M H M' H')(r:Rep K M H d v):Rep K M' H' d v :=
 Rep.rec (motive_1:=fun d v _=>Rep K M' H' d v) (motive_2:=fun e f _=>Reps K M' H' e f) (motive_3:=fun e f _=>RepK K M' H' e f)
  .non .bl .int .str .ty .ref (fun h _ c=>.tup (h.imp (Fix.mono s) id) c) (fun h _ c=>.lst (h.imp (Fix.mono s) id) c) (fun h _ c=>.dct (h.mono s) c)
  .nil (fun _ _ a b=>.cons a b) .nil (fun _ _ a b=>.cons a b) r
theorem Reps.mono {ds:List D}(s:Step M H M' H')(r:Reps K M H ds vs):Reps K M' H' ds vs:=by
 induction ds generalizing vs with
 | nil=>cases r;exact .nil
 | cons d ds c=>cases r with|cons a b=>exact .cons (a.mono s) (c b)
theorem RepK.mono {ds:List (Key×D)}{vs:List (Key×V)}(s:Step M H M' H')(r:RepK K M H ds vs):RepK K M' H' ds vs:=by
 induction ds generalizing vs with
 | nil=>cases r;exact .nil
 | cons d ds c=>cases r with|cons a b=>exact .cons (a.mono s) (c b)
theorem RepT.mono {ds:List (List Int×D)}{xs:List (List Int×Addr×Value)}(s:Step M H M' H')(r:RepT K M H ds xs):RepT K M' H' ds xs:=by
 induction r with
 | nil=>exact .nil
 | cons a b c _ d=>exact .cons (a.mono s) (b.mono s) c d
theorem RepN.mono {ds:List (C7×D)}{xs:List (C7×Addr×Value)}(s:Step M H M' H')(r:RepN K M H ds xs):RepN K M' H' ds xs:=by
 induction r with
 | nil=>exact .nil
 | cons a b c _ d=>exact .cons (a.mono s) (b.mono s) c d
theorem Reps.length {ds:List D}(r:Reps K M H ds vs):ds.length=vs.length:=by
 induction ds generalizing vs with
 | nil=>cases r;rfl
 | cons d ds c=>cases r with|cons a b=>rw[BU8,BU8,c b]
theorem Reps.get {ds:List D}(r:Reps K M H ds vs){d:D}(h:ds[i]?=some d):∃v,vs[i]?=some v/\Rep K M H d v:=by
 induction ds generalizing vs i with
 | nil=>simp at h
 | cons e ds c =>
  cases r with
  | cons a b =>
   cases i with
   | zero=>simp at h;subst h;exact⟨_,rfl,a⟩
   | succ i=>simpa using c b (by simpa using h)
theorem Reps.append {ds es:List D}{us:List V}(r:Reps K M H ds vs)(q:Reps K M H es us):Reps K M H (ds++es) (vs++us):=by
 induction ds generalizing vs with
 | nil=>cases r;exact q
 | cons d ds c=>cases r with|cons a b=>exact .cons a (c b)
theorem Reps.take {ds:List D}(r:Reps K M H ds vs)(n:Nat):Reps K M H (ds.take n) (vs.take n):=by
 induction ds generalizing vs n with
 | nil=>cases r;simp;exact .nil
 | cons d ds c=>cases r with|cons a b=>cases n with
  | zero=>exact .nil
  | succ n=>simpa using Reps.cons a (c b n)
theorem Reps.drop {ds:List D}(r:Reps K M H ds vs)(n:Nat):Reps K M H (ds.drop n) (vs.drop n):=by
 induction ds generalizing vs n with
 | nil=>cases r;simp;exact .nil
 | cons d ds c=>cases r with|cons a b=>cases n with
  | zero=>exact .cons a b
  | succ n=>simpa using c b n
theorem Reps.set {ds:List D}{d:D}(r:Reps K M H ds vs)(q:Rep K M H d v)(i:Nat):Reps K M H (ds.set i d) (vs.set i v):=by
 induction ds generalizing vs i with
 | nil=>cases r;exact .nil
 | cons d ds c=>cases r with|cons a b=>cases i with
  | zero=>exact .cons q b
  | succ i=>exact .cons a (c b i)
theorem Reps.ints {ns:List Int}:Reps K M H (ns.map D.int) (ns.map V.int):=by
 induction ns with
 | nil=>exact .nil
 | cons n ns a=>exact .cons .int a
theorem MRel.free (m:MRel K M H){a:Addr}(h:H a=none):M a=none:=by
 cases e:M a with
 | none=>rfl
 | some o=>obtain⟨b,z,_⟩:=m a o e;rw[h] at z;cases z
end
abbrev Lo:=List (Option D)
structure SRel (K:BU5)(M:Mem)(H:Hp)(σ:Lo)(σv:L2.St):Prop where
 len:σ.length=σv.length
 get:∀(i:Nat) (d:D),σ[i]?=some (some d)->∃v,σv[i]?=some (some v)/\Rep K M H d v
theorem SRel.mono {M M':Mem}{H':Hp}{σ:Lo}{σv:L2.St}(s:Step M H M' H')(r:SRel K M H σ σv):SRel K M' H' σ σv :=
 ⟨r.len,fun i d h=>let ⟨v,e,q⟩:=r.get i d h;⟨v,e,q.mono s⟩⟩
theorem SRel.set {M:Mem}{σ:Lo}{σv:L2.St}(r:SRel K M H σ σv){d:D}(q:Rep K M H d v)(i:Nat):SRel K M H (σ.set i (some d)) (σv.set i (some v)):=by
 refine⟨by simp[r.len],fun j e h=>?_⟩
 rw[List.getElem?_set] at h
 rw[List.getElem?_set,<-r.len]
 by_cases a:i=j
 ·rw[if_pos a] at h ⊢
  by_cases b:j<σ.length
  ·rw[a,if_pos b] at h
   rw[a,if_pos b]
   cases h
   exact⟨v,rfl,q⟩
  ·rw[a,if_neg b] at h;cases h
 ·rw[if_neg a] at h ⊢
  exact r.get j e h
abbrev DK:=D->Mem->Prop
abbrev TE3:=Lo->Mem->DK->Prop
abbrev TT3:=Lo->Mem->(Bool->Mem->Prop)->Prop
abbrev TA3:=Lo->Mem->(List D->Mem->Prop)->Prop
structure L6 where
 nx:Lo->Mem->Prop
 rt:DK
 bk:Lo->Mem->Prop:=fun _ _=>False
 ct:Lo->Mem->Prop:=fun _ _=>False
abbrev TS3:=L6->Lo->Mem->Prop
def EP3 (X:Cx)(pins:List (Addr×Obj))(σv:L2.St)(M:Mem)(H:Hp)(Q:DK)(u:Value)(s':BV1):Prop :=
 ∃d v M' H',Inv X pins σv H' s'/\Step M H M' H'/\MRel X.K M' H'/\RelV v u/\Rep X.K M' H' d v/\Q d M'
def TP3 (X:Cx)(pins:List (Addr×Obj))(σv:L2.St)(M:Mem)(H:Hp)(Q:Bool->Mem->Prop)(b:Bool)(s':BV1):Prop :=
 ∃M' H',Inv X pins σv H' s'/\Step M H M' H'/\MRel X.K M' H'/\Q b M'
def AP3 (X:Cx)(pins:List (Addr×Obj))(σv:L2.St)(M:Mem)(H:Hp)(Q:List D->Mem->Prop)(us:List Value)(s':BV1):Prop :=
 ∃ds vs M' H',Inv X pins σv H' s'/\Step M H M' H'/\MRel X.K M' H'/\Vals vs us/\Reps X.K M' H' ds vs/\Q ds M'
def SP3 (X:Cx)(pins:List (Addr×Obj))(M:Mem)(H:Hp)(T:L6)(f:Flow)(s':BV1):Prop :=
 match f with
 | .next=>∃σ' σv' M' H',Inv X pins σv' H' s'/\Step M H M' H'/\MRel X.K M' H'/\SRel X.K M' H' σ' σv'/\T.nx σ' M'
 | .brk=>∃σ' σv' M' H',Inv X pins σv' H' s'/\Step M H M' H'/\MRel X.K M' H'/\SRel X.K M' H' σ' σv'/\T.bk σ' M'
 | .cont=>∃σ' σv' M' H',Inv X pins σv' H' s'/\Step M H M' H'/\MRel X.K M' H'/\SRel X.K M' H' σ' σv'/\T.ct σ' M'
 | .ret u=>∃d v σv' M' H',Inv X pins σv' H' s'/\Step M H M' H'/\MRel X.K M' H'/\RelV v u/\Rep X.K M' H' d v/\T.rt d M'
def PE3 (X:Cx)(e:Expr)(t:TE3):Prop :=
 ∀(pins:List (Addr×Obj)) (s:BV1) (σv:L2.St) (H:Hp) (σ:Lo) (M:Mem) (Q:DK),Inv X pins σv H s->SRel X.K M H σ σv->MRel X.K M H->t σ M Q ->
  wpAny (model X.prog X.w) X.A (eval e X.env) (EP3 X pins σv M H Q) X.xe s
def PT3 (X:Cx)(e:Expr)(t:TT3):Prop :=
 ∀(pins:List (Addr×Obj)) (s:BV1) (σv:L2.St) (H:Hp) (σ:Lo) (M:Mem) (Q:Bool->Mem->Prop),Inv X pins σv H s->SRel X.K M H σ σv->MRel X.K M H->t σ M Q ->
  wpAny (model X.prog X.w) X.A (isTrue e X.env (eval e X.env)) (TP3 X pins σv M H Q) X.xe s
def PA3 (X:Cx)(es:List Expr)(t:TA3):Prop :=
 ∀(pos:Pos) (pins:List (Addr×Obj)) (s:BV1) (σv:L2.St) (H:Hp) (σ:Lo) (M:Mem) (Q:List D->Mem->Prop),Inv X pins σv H s->SRel X.K M H σ σv->MRel X.K M H->t σ M Q ->
  wpAny (model X.prog X.w) X.A (spliced (CI6 pos (BX4 es X.env))) (AP3 X pins σv M H Q) X.xe s
def PS3 (X:Cx)(st:Stmt)(t:TS3):Prop :=
 ∀(pins:List (Addr×Obj)) (s:BV1) (σv:L2.St) (H:Hp) (σ:Lo) (M:Mem) (T:L6),Inv X pins σv H s->SRel X.K M H σ σv->MRel X.K M H->t T σ M ->
  wpAny (model X.prog X.w) X.A (exec st X.env) (SP3 X pins M H T) X.xe s
def PSs3 (X:Cx)(st:List Stmt)(t:TS3):Prop :=
 ∀(pins:List (Addr×Obj)) (s:BV1) (σv:L2.St) (H:Hp) (σ:Lo) (M:Mem) (T:L6),Inv X pins σv H s->SRel X.K M H σ σv->MRel X.K M H->t T σ M ->
  wpAny (model X.prog X.w) X.A (execs st X.env) (SP3 X pins M H T) X.xe s
def dnE (K:BU5)(t:TE3):TE:=fun σv H Q2=>∃σ M Q,SRel K M H σ σv/\MRel K M H/\t σ M Q/\∀d v M' H',Step M H M' H'->MRel K M' H'->Rep K M' H' d v->Q d M'->Q2 v H'
def dnT (K:BU5)(t:TT3):TT:=fun σv H Q2=>∃σ M Q,SRel K M H σ σv/\MRel K M H/\t σ M Q/\∀b M' H',Step M H M' H'->MRel K M' H'->Q b M'->Q2 b H'
def dnA (K:BU5)(t:TA3):TA:=fun σv H Q2=>∃σ M Q,SRel K M H σ σv/\MRel K M H/\t σ M Q/\∀ds vs M' H',Step M H M' H'->MRel K M' H'->Reps K M' H' ds vs->Q ds M'->Q2 vs H'
structure AA1 (K:BU5)(M:Mem)(H:Hp)(T:L6)(D2:Ends):Prop where
 nx:∀σ' σv' M' H',Step M H M' H'->MRel K M' H'->SRel K M' H' σ' σv'->T.nx σ' M'->D2.nx σv' H'
 bk:∀σ' σv' M' H',Step M H M' H'->MRel K M' H'->SRel K M' H' σ' σv'->T.bk σ' M'->D2.bk σv' H'
 ct:∀σ' σv' M' H',Step M H M' H'->MRel K M' H'->SRel K M' H' σ' σv'->T.ct σ' M'->D2.ct σv' H'
 rt:∀d v M' H',Step M H M' H'->MRel K M' H'->Rep K M' H' d v->T.rt d M'->D2.rt v H'
def dnS (K:BU5)(t:TS3):TS:=fun D2 σv H=>∃σ M T,SRel K M H σ σv/\MRel K M H/\t T σ M/\AA1 K M H T D2
section
variable {X:Cx}{e:Expr}{es:List Expr}{st:Stmt}{sts:List Stmt}
theorem PE3.dn {t:TE3}(h:PE3 X e t):PE X e (dnE X.K t):=by
 rintro a s b H o I ⟨g,M,Q,hS,i,j,k⟩
 exact thn (h a s b H g M Q I hS i j) fun u p ⟨d,v,l,f,m,st,n,r,c,q⟩=>⟨v,f,m,r,k d v l f st n c q⟩
theorem PT3.dn {t:TT3}(h:PT3 X e t):PT X e (dnT X.K t):=by
 rintro a s b H m I ⟨d,M,Q,hS,f,g,i⟩
 exact thn (h a s b H d M Q I hS f g) fun u n ⟨j,c,k,st,l,q⟩=>⟨c,k,i u j c st l q⟩
theorem PA3.dn {t:TA3}(h:PA3 X es t):PA X es (dnA X.K t):=by
 rintro b a s c H o I ⟨g,M,Q,hS,i,j,k⟩
 exact thn (h b a s c H g M Q I hS i j) fun u p ⟨d,v,l,f,m,st,n,r,e,q⟩=>⟨v,f,m,r,k d v l f st n e q⟩
theorem BQ8 {M:Mem}{T:L6}{g:Ends}(h:AA1 X.K M H T g){f:Flow}(q:SP3 X pins M H T f s'):SP X pins g f s':=by
 cases f with
 | next=>obtain⟨c,a,e,b,I,st,m,r,q⟩:=q;exact⟨a,b,I,h.nx _ _ _ _ st m r q⟩
 | brk=>obtain⟨c,a,e,b,I,st,m,r,q⟩:=q;exact⟨a,b,I,h.bk _ _ _ _ st m r q⟩
 | cont=>obtain⟨c,a,e,b,I,st,m,r,q⟩:=q;exact⟨a,b,I,h.ct _ _ _ _ st m r q⟩
 | ret u=>obtain⟨d,v,a,e,b,I,st,m,i,r,q⟩:=q;exact⟨v,a,b,I,i,h.rt _ _ _ _ st m r q⟩
theorem PSs3.dn {t:TS3}(h:PSs3 X sts t):PSs X sts (dnS X.K t):=by
 rintro a s b H i I ⟨c,M,T,hS,d,e,g⟩
 exact thn (h a s b H c M T I hS d e) fun f j q=>BQ8 g q
abbrev Up (K:BU5)(M:Mem)(H:Hp)(Q:DK):VK:=fun v H'=>∃d M',Step M H M' H'/\MRel K M' H'/\Rep K M' H' d v/\Q d M'
theorem PE3.of {t:TE3}{t2:TE}(h:PE X e t2)(b:∀pins s σv H σ M Q,Inv X pins σv H s->SRel X.K M H σ σv->MRel X.K M H->t σ M Q->t2 σv H (Up X.K M H Q)):PE3 X e t:=by
 intro pins s σv H σ M Q I hS c f
 exact thn (h pins s σv H _ I (b pins s σv H σ M Q I hS c f)) fun u l ⟨v,g,i,r,d,j,st,k,a,q⟩=>⟨d,v,j,g,i,st,k,r,a,q⟩
abbrev UpE (K:BU5)(M:Mem)(H:Hp)(T:L6):Ends where
 nx:=fun σv' H'=>∃σ' M',Step M H M' H'/\MRel K M' H'/\SRel K M' H' σ' σv'/\T.nx σ' M'
 rt:=fun v H'=>∃d M',Step M H M' H'/\MRel K M' H'/\Rep K M' H' d v/\T.rt d M'
 bk:=fun σv' H'=>∃σ' M',Step M H M' H'/\MRel K M' H'/\SRel K M' H' σ' σv'/\T.bk σ' M'
 ct:=fun σv' H'=>∃σ' M',Step M H M' H'/\MRel K M' H'/\SRel K M' H' σ' σv'/\T.ct σ' M'
theorem PS3.of {t:TS3}{t2:TS}(h:PS X st t2)(g:∀pins s σv H σ M T,Inv X pins σv H s->SRel X.K M H σ σv->MRel X.K M H->t T σ M->t2 (UpE X.K M H T) σv H):PS3 X st t:=by
 intro pins s σv H σ M T I hS i j
 refine thn (h pins s σv H _ I (g pins s σv H σ M T I hS i j)) fun f l q=>?_
 cases f with
 | next=>obtain⟨a,c,I,b,e,st,m,r,q⟩:=q;exact⟨b,a,e,c,I,st,m,r,q⟩
 | brk=>obtain⟨a,c,I,b,e,st,m,r,q⟩:=q;exact⟨b,a,e,c,I,st,m,r,q⟩
 | cont=>obtain⟨a,c,I,b,e,st,m,r,q⟩:=q;exact⟨b,a,e,c,I,st,m,r,q⟩
 | ret u=>obtain⟨v,a,c,I,k,d,e,st,m,r,q⟩:=q;exact⟨d,v,a,e,c,I,st,m,k,r,q⟩
end
section
variable {K:BU5}{M:Mem}{H:Hp}{p:Addr}{ho:HO}{o:MO}
theorem Step.lay (b:H p=none):Step M H M (upd H p ho) :=
 ⟨fun a u h _=>by rw[D6 (K8 h b)];exact h,fun _ h=>.inl h⟩
theorem MRel.lay (m:MRel K M H)(b:H p=none):MRel K M (upd H p ho):=fun a u e=>by
 obtain⟨c,d,r⟩:=m a u e
 refine⟨c,by rw[D6 (K8 d b)];exact d,?_⟩
 cases u<;>cases c<;>first|exact r.elim|exact Reps.mono (Step.lay b) r|exact RepK.mono (Step.lay b) r|(obtain⟨f,e,r⟩:=r;exact⟨f,e,r.mono (Step.lay b)⟩)
theorem Step.put (h:H p=none\/M p≠none):Step M H (D9 M p o) (upd H p ho):=by
 refine⟨fun a u e c=>?_,fun a e=>?_⟩
 ·have:a≠p:=by
   rintro rfl
   rcases h with h|h
   ·rw[h] at e;cases e
   ·exact h c
  rw[D6 this];exact e
 ·by_cases b:a=p
  ·subst b;exact h.elim .inr .inl
  ·rw[B3 b] at e;exact .inl e
theorem RepO.mono {M':Mem}{H':Hp}(s:Step M H M' H')(r:RepO K M H p o ho):RepO K M' H' p o ho:=by
 cases o<;>cases ho<;>first|exact r.elim|exact Reps.mono s r|exact RepK.mono s r|(obtain⟨a,e,r⟩:=r;exact⟨a,e,r.mono s⟩)
theorem MRel.put (m:MRel K M H)(h:H p=none\/M p≠none)(r:RepO K M H p o ho):MRel K (D9 M p o) (upd H p ho):=fun a u e=>by
 by_cases b:a=p
 ·subst b
  rw[B0] at e;cases e
  exact⟨ho,D4,r.mono (Step.put h)⟩
 ·rw[B3 b] at e
  obtain⟨c,d,f⟩:=m a u e
  exact⟨c,by rw[D6 b];exact d,f.mono (Step.put h)⟩
end
mutual
def pyD:D->PyData
 | .non=>.none|.bl b=>.bool b|.int i=>.int i|.str x=>.str x
 | .tup xs=>.tuple (AR xs)|.lst xs=>.list (AR xs)
 | .dct _=>.none|.ty _=>.none|.ref _=>.none
def AR:List D->List PyData
 | []=>[]|d::ds=>pyD d::AR ds
end
mutual
def plain:D->Bool
 | .non|.bl _|.int _|.str _=>true
 | .tup xs|.lst xs=>X7 xs
 | .dct _|.ty _|.ref _=>false
def X7:List D->Bool
 | []=>true|d::ds=>plain d && X7 ds
end
section
variable {X:Cx}{pins:List (Addr×Obj)}{σv:L2.St}{M:Mem}{H:Hp}{s:BV1}
theorem SqT.of3 {a:Addr}(h:Fix M H a (.tup vs)\/BA8 K a vs):SqT K H a vs:=h.imp (·.1) id
theorem SqL.of3 {a:Addr}(h:Fix M H a (.lst vs)\/BK6 K a vs):SqL K H a vs:=h.imp (·.1) id
mutual
theorem HS (I:Inv X pins σv H s)(d:D){v:V}{u:Value}(c:plain d=true)(p:Rep X.K M H d v)(r:RelV v u):∃as,Reads s.heap u (pyD d) as:=by
 cases d with
 | non=>cases p;cases r;exact⟨[],.none⟩
 | bl b=>cases p;cases r;exact⟨[],.bool b⟩
 | int i=>cases p;obtain⟨t,rfl⟩:=r;exact⟨[],.int i t⟩
 | str x=>cases p;obtain⟨t,rfl⟩:=r;exact⟨[],.str x t⟩
 | tup e =>
  cases p with
  | tup h q =>
  cases r
  obtain⟨f,g,⟨o,j,k,n,l⟩,_⟩:=I.tuple (SqT.of3 h)
  obtain⟨as,m⟩:=V0 I e (by simpa[plain] using c) q g
  exact⟨as,by exact .tuple j k l (by simpa using m)⟩
 | lst e =>
  cases p with
  | @lst a _ _ h q =>
  cases r
  obtain⟨f,g,⟨o,n,j,k,_,l⟩,_⟩:=I.list (SqL.of3 h)
  obtain⟨as,m⟩:=V0 I e (by simpa[plain] using c) q g
  exact⟨a::as,by exact .list j k l (by simpa using m)⟩
 | dct _=>cases c
 | ty _=>cases c
 | ref _=>cases c
theorem V0 (I:Inv X pins σv H s)(ds:List D){vs:List V}{us:List Value}(b:X7 ds=true)(p:Reps X.K M H ds vs)(r:Vals vs us):∃as,ReadsAll s.heap us (AR ds) as:=by
 cases ds with
 | nil=>cases p;cases r;exact⟨[],.nil⟩
 | cons d ds =>
  cases p with
  | cons q c =>
  cases r with
  | cons r e =>
   have a:plain d=true/\X7 ds=true:=by simpa[X7] using b
   obtain⟨as,f⟩:=HS I d a.1 q r
   obtain⟨bs,g⟩:=V0 I ds a.2 c e
   exact⟨as++bs,by exact .cons f g⟩
end
end
theorem AI {X:Cx}{σv:L2.St}{M:Mem}(I:Inv X pins σv H s){d:D}(a:plain d=true)(p:Rep X.K M H d v)(r:RelV v u):∃as,Reads s.heap u (pyD d) as:=HS I d a p r
abbrev R3:=D->D->Mem->DK->Prop
abbrev U3:=D->Mem->DK->Prop
abbrev C3:=List D->Mem->DK->Prop
def OpR3 (X:Cx)(f:Value->Value->Sem Value)(r:R3):Prop :=
 ∀(pins:List (Addr×Obj)) (s:BV1) (σv:L2.St) (H:Hp) (M:Mem) (x y:D) (xv yv:V) (v u:Value) (Q:DK),Inv X pins σv H s->MRel X.K M H->RelV xv v->RelV yv u->Rep X.K M H x xv->Rep X.K M H y yv->r x y M Q ->
  wpAny (model X.prog X.w) X.A (f v u) (EP3 X pins σv M H Q) X.xe s
def UnR3 (X:Cx)(f:Value->Sem Value)(r:U3):Prop :=
 ∀(pins:List (Addr×Obj)) (s:BV1) (σv:L2.St) (H:Hp) (M:Mem) (x:D) (xv:V) (v:Value) (Q:DK),Inv X pins σv H s->MRel X.K M H->RelV xv v->Rep X.K M H x xv->r x M Q ->
  wpAny (model X.prog X.w) X.A (f v) (EP3 X pins σv M H Q) X.xe s
def CallR3 (X:Cx)(f:Value)(r:C3):Prop :=
 ∀(pins:List (Addr×Obj)) (s:BV1) (σv:L2.St) (H:Hp) (M:Mem) (xs:List D) (xvs:List V) (us:List Value) (Q:DK),Inv X pins σv H s->MRel X.K M H->Vals xvs us->Reps X.K M H xs xvs->r xs M Q ->
  wpAny (model X.prog X.w) X.A (call f us) (EP3 X pins σv M H Q) X.xe s
section
variable {X:Cx}
theorem P0 {σv:L2.St}{M:Mem}{Q:DK}(h:EP X pins σv (Up X.K M H Q) u s'):EP3 X pins σv M H Q u s':=by
 obtain⟨v,b,c,r,d,e,st,f,a,q⟩:=h
 exact⟨d,v,e,b,c,st,f,r,a,q⟩
theorem OpR3.of {f:Value->Value->Sem Value}{r:R2}{r3:R3}(h:OpR X f r)
  (e:∀(H:Hp) (M:Mem) (x y:D) (a b:V) (Q:DK),MRel X.K M H->Rep X.K M H x a->Rep X.K M H y b->r3 x y M Q->r a b H (Up X.K M H Q)):OpR3 X f r3 :=
 fun c s d H M x y a b v u Q I m g i j k q=>thn (h c s d H a b v u _ I g i (e H M x y a b Q m j k q)) fun _ _ z=>P0 z
theorem UnR3.of {f:Value->Sem Value}{r:V->Hp->VK->Prop}{r3:U3}(h:UnR X f r)
  (d:∀(H:Hp) (M:Mem) (x:D) (a:V) (Q:DK),MRel X.K M H->Rep X.K M H x a->r3 x M Q->r a H (Up X.K M H Q)):UnR3 X f r3 :=
 fun b s c H M x a v Q I m e g q=>thn (h b s c H a v _ I e (d H M x a Q m g q)) fun _ _ z=>P0 z
theorem CallR3.of {f:Value}{r:List V->Hp->VK->Prop}{r3:C3}(h:CallR X f r)
  (d:∀(H:Hp) (M:Mem) (xs:List D) (a:List V) (Q:DK),MRel X.K M H->Reps X.K M H xs a->r3 xs M Q->r a H (Up X.K M H Q)):CallR3 X f r3 :=
 fun b s c H M xs a e Q I m g i q=>thn (h b s c H a e _ I g (d H M xs a Q m i q)) fun _ _ z=>P0 z
theorem up0 {M:Mem}{Q:DK}{d:D}(m:MRel K M H)(r:Rep K M H d v)(q:Q d M):Up K M H Q v H:=⟨d,M,.refl,m,r,q⟩
def A6 (r:R3)(ta tb:TE3):TE3:=fun σ M Q=>ta σ M fun x M1=>tb σ M1 fun y M2=>r x y M2 Q
def P9 (r:U3)(ta:TE3):TE3:=fun σ M Q=>ta σ M fun x M1=>r x M1 Q
variable {a b c e:Expr}{es:List Expr}{ta tb tc te:TE3}{t:TA3}{pos:Pos}
theorem EP3.trans {σv:L2.St}{M M1:Mem}{H1:Hp}{Q:DK}(st:Step M H M1 H1)(h:EP3 X pins σv M1 H1 Q u s'):EP3 X pins σv M H Q u s':=by
 obtain⟨d,v,c,e,f,a,g,r,b,q⟩:=h
 exact⟨d,v,c,e,f,st.trans a,g,r,b,q⟩
theorem BC1 (j:PE3 X a ta)(k:PE3 X b tb){f:Value->Value->Sem Value}{r:R3}(ho:OpR3 X f r){σv:L2.St}{σ:Lo}{M:Mem}{Q:DK}
  (I:Inv X pins σv H s) (hS:SRel X.K M H σ σv) (l:MRel X.K M H) (h:A6 r ta tb σ M Q) :
  wpAny (model X.prog X.w) X.A (eval a X.env) (fun v s₁=>wpAny (model X.prog X.w) X.A (eval b X.env) (fun u s₂=>wpAny (model X.prog X.w) X.A (f v u) (EP3 X pins σv M H Q) X.xe s₂) X.xe s₁) X.xe s:=by
 refine thn (j pins s σv H σ M _ I hS l h) fun v m c=>?_
 obtain⟨x,n,o,p,q,d,t,g,B,C⟩:=c
 refine thn (k pins m σv p σ o _ q (hS.mono d) t C) fun u D c=>?_
 obtain⟨y,E,F,G,J,e,L,i,N,O⟩:=c
 exact thn (ho pins D σv G F x y n E v u Q J L g i (B.mono e) N O) fun _ _ z=>z.trans (d.trans e)
theorem BH0 {op:Operator}{r:R3}(ho:OpR3 X (CE2 op) r)(d:PE3 X a ta)(e:PE3 X b tb):PE3 X (.BinOp a op b pos) (A6 r ta tb) :=
 fun c s f H i M Q I hS g h=>wpAny_BinOp (BC1 d e ho I hS g h)
theorem BH3 {op:UnaryOp}{r:U3}(ho:UnR3 X (unaryOp op) r)(f:PE3 X a ta):PE3 X (.UnaryOp op a pos) (P9 r ta) :=
 fun b s c H g M Q I hS i h=>UnaryOp_ (thn (f b s c H g M _ I hS i h) fun v j ⟨x,k,l,m,n,d,o,e,p,q⟩ =>
  thn (ho b j c m l x k v Q n o e p q) fun _ _ z=>z.trans d)
theorem AS1 {r:R3}(ho:OpR3 X (BY6 op) r)(d:PE3 X a ta)(e:PE3 X b tb)(f:behindInMarks op b=false):PE3 X (.Compare a [op] [b] pos) (A6 r ta tb) :=
 fun c s g H j M Q I hS i h=>wpAny_Compare1 (BC1 d e ho I hS i h) f
def B1 (t:TE3):TT3:=fun σ M Q=>t σ M fun x M'=>∃k,x=.bl k/\Q k M'
theorem AU9 {r:R3}(ho:OpR3 X (BY6 op) r)(i:PE3 X a ta)(j:PE3 X b tb)(l:behindInMarks op b=false):PT3 X (.Compare a [op] [b] pos) (B1 (A6 r ta tb)):=by
 intro g s m H C M Q I hS n h
 refine wpAny_isTrue_Compare1 (thn (BC1 (Q:=fun x o=>∃k,x=.bl k/\Q k o) i j ho I hS n h) fun v D p=>thn p fun u E q=>thn q fun d F ⟨x,G,t,w,y,c,z,f,A,k,e,B⟩=>?_) l
 subst e
 cases A
 cases f
 exact CB5 ⟨t,w,y,c,z,B⟩
theorem WQ (h:PE3 X e te)(g:∀a,isTrue e X.env a=(do let v <-a;standAt e.pos;holding [v] (truthy v)):=by intro _;rfl):PT3 X e (B1 te):=by
 intro b s c H i M Q I hS j l
 refine isTrue_plain (thn (h b s c H i M _ I hS j l) fun v t ⟨x,u,m,n,o,d,p,f,q,k,e,r⟩=>?_) (g _)
 subst e
 cases q
 cases f
 exact CB5 ⟨m,n,o,d,p,r⟩
def O8 (r r':R3)(ta tb tc:TE3):TE3:=fun σ M Q=>ta σ M fun x M1=>tb σ M1 fun y M2=>r x y M2 fun z M3=>∃k,z=.bl k/\if k=true then tc σ M3 fun w M4=>r' y w M4 Q else Q (.bl false) M3
theorem YZ {i:CmpOp}{r r':R3}(ho:OpR3 X (BY6 op) r)(p:OpR3 X (BY6 i) r')(K:PE3 X a ta)(L:PE3 X b tb)(N:PE3 X c tc)
  (O:lastMarks [op,i] [b,c]=false:=by with_unfolding_all rfl):PE3 X (.Compare a [op,i] [b,c] pos) (O8 r r' ta tb tc):=by
 intro f s g H q M Q I hS P h
 refine Compare_chain (thn (K f s g H q M _ I hS P h) fun v R ⟨x,S,T,U,V,j,W,t,Y,Z⟩=>chain_link (thn (L f R g U q T _ V (hS.mono j) W Z) fun u s2 ⟨y,C,M2,H2,I2,l,m2,m,D,q2⟩ =>
  thn (ho f s2 g H2 M2 x y S C v u _ I2 m2 t m (Y.mono l) D q2) fun d s3 ⟨z,zv,M3,E,F,n,G,w,p3,k,e,J⟩=>?_)) O
 subst e
 cases p3
 cases w
 refine CB5 ?_
 have st:=(j.trans l).trans n
 cases k with
 | false=>exact ite_ff ⟨.bl false,.bl false,M3,E,F,st,G,rfl,.bl,J⟩
 | true=>exact ite_tt (chain_last (thn (N f s3 g E q M3 _ F (hS.mono st) G J) fun w' s4 ⟨z',A,M4,H4,I4,o,m4,B,p4,q4⟩ =>
   thn (p f s4 g H4 M4 y z' C A u w' Q I4 m4 m B (D.mono (n.trans o)) p4 q4) fun _ _ z=>z.trans (st.trans o)))
theorem ZP {i:CmpOp}{r r':R3}(ho:OpR3 X (BY6 op) r)(p:OpR3 X (BY6 i) r')(N:PE3 X a ta)(O:PE3 X b tb)(P:PE3 X c tc)
  (R:lastMarks [op,i] [b,c]=false:=by with_unfolding_all rfl):PT3 X (.Compare a [op,i] [b,c] pos) (B1 (O8 r r' ta tb tc)):=by
 intro f s g H q M Q I hS S h
 refine isTrue_chain (thn (N f s g H q M _ I hS S h) fun v T ⟨x,U,V,W,Y,j,Z,t,p1,q1⟩=>test_link (thn (O f T g W q V _ Y (hS.mono j) Z q1) fun u s2 ⟨y,E,M2,H2,I2,l,m2,m,F,q2⟩ =>
  thn (ho f s2 g H2 M2 x y U E v u _ I2 m2 t m (p1.mono l) F q2) fun d s3 ⟨z,zv,M3,G,J,n,K,w,p3,k,e,L⟩=>?_)) R
 subst e
 cases p3
 cases w
 refine CB5 ?_
 have st:=(j.trans l).trans n
 cases k with
 | false =>
  obtain⟨k',e',q'⟩:=L
  cases e'
  exact ite_ff ⟨M3,G,J,st,K,q'⟩
 | true =>
  refine ite_tt (test_last (thn (P f s3 g G q M3 _ J (hS.mono st) K L) fun w' s4 ⟨z',A,M4,H4,I4,o,m4,B,p4,q4⟩ =>
   thn (p f s4 g H4 M4 y z' E A u w' _ I4 m4 m B (F.mono (n.trans o)) p4 q4) fun d' s5 ⟨z2,zv2,M5,H5,I5,C,m5,D,p5,k2,e2,q5⟩=>?_))
  subst e2
  cases p5
  cases D
  exact CB5 ⟨M5,H5,I5,(st.trans o).trans C,m5,q5⟩
def PW3 (X:Cx)(e:Expr)(t:TT3):Prop :=
 ∀(whole:Sem Value) (pins:List (Addr×Obj)) (s:BV1) (σv:L2.St) (H:Hp) (σ:Lo) (M:Mem) (Q:Bool->Mem->Prop),Inv X pins σv H s->SRel X.K M H σ σv->MRel X.K M H->t σ M Q ->
  wpAny (model X.prog X.w) X.A (isTrue e X.env whole) (TP3 X pins σv M H Q) X.xe s
theorem PW3.pt {t:TT3}(h:PW3 X e t):PT3 X e t:=h _
variable {tA tB':TT3}{rest:List Expr}
def ID (t u:TT3):TT3:=fun σ M Q=>t σ M fun c M1=>if c=true then u σ M1 Q else Q false M1
def CY (t u:TT3):TT3:=fun σ M Q=>t σ M fun c M1=>if c=true then Q true M1 else u σ M1 Q
def AX (t:TT3):TT3:=fun σ M Q=>t σ M fun c M1=>Q (!c) M1
theorem TP3.trans {σv:L2.St}{M M1:Mem}{H1:Hp}{Q:Bool->Mem->Prop}{u:Bool}(st:Step M H M1 H1)(h:TP3 X pins σv M1 H1 Q u s'):TP3 X pins σv M H Q u s':=by
 obtain⟨b,c,d,a,e,q⟩:=h
 exact⟨b,c,d,st.trans a,e,q⟩
theorem AJ7 (f:PT3 X a tA):PW3 X (.BoolOp .And [a] pos) tA:=by
 intro j b s d H g M Q I hS i h
 refine isTrue_and (thn (f b s d H g M Q I hS i h) fun c k e=>?_)
 cases c with
 | true=>exact isTrue_and_nil e
 | false=>exact e
theorem AV2 (f:PT3 X a tA):PW3 X (.BoolOp .Or [a] pos) tA:=by
 intro j b s d H g M Q I hS i h
 refine isTrue_or (thn (f b s d H g M Q I hS i h) fun c k e=>?_)
 cases c with
 | false=>exact isTrue_or_nil e
 | true=>exact e
theorem AV1 (n:PT3 X a tA)(o:PW3 X (.BoolOp .And (b::rest) pos) tB'):PW3 X (.BoolOp .And (a::b::rest) pos) (ID tA tB'):=by
 intro p d s f H g M Q I hS q h
 refine isTrue_and (thn (n d s f H g M _ I hS q h) fun c r ⟨i,j,k,e,l,m⟩=>?_)
 cases c with
 | true=>exact thn (o p d r f j g i Q k (hS.mono e) l m) fun _ _ z=>z.trans e
 | false=>exact⟨i,j,k,e,l,m⟩
theorem BJ0 (n:PT3 X a tA)(o:PW3 X (.BoolOp .Or (b::rest) pos) tB'):PW3 X (.BoolOp .Or (a::b::rest) pos) (CY tA tB'):=by
 intro p d s f H g M Q I hS q h
 refine isTrue_or (thn (n d s f H g M _ I hS q h) fun c r ⟨i,j,k,e,l,m⟩=>?_)
 cases c with
 | false=>exact thn (o p d r f j g i Q k (hS.mono e) l m) fun _ _ z=>z.trans e
 | true=>exact⟨i,j,k,e,l,m⟩
theorem AV0 (e:PT3 X a tA):PT3 X (.UnaryOp .Not a pos) (AX tA):=fun b s d H f M Q I hS g h =>
 isTrue_not (e b s d H f M (fun c i=>Q (!c) i) I hS g h)
def R4 (ta tb:TE3):TE3:=fun σ M Q=>ta σ M fun x M1=>∃c,x=.bl c/\if c=true then tb σ M1 Q else Q (.bl false) M1
def LJ (ta tb:TE3):TE3:=fun σ M Q=>ta σ M fun x M1=>∃c,x=.bl c/\if c=true then Q (.bl true) M1 else tb σ M1 Q
def OV (ta:TE3):TE3:=fun σ M Q=>ta σ M fun x M1=>∃c,x=.bl c/\Q (.bl (!c)) M1
theorem WI {op}(h:PE3 X a ta):PE3 X (.BoolOp op [a] pos) ta:=fun b s c H d M Q I hS e f=>BoolOp_one (h b s c H d M Q I hS e f)
theorem AR9 (p:PE3 X a ta)(q:PE3 X (.BoolOp .And (b::rest) pos) tb):PE3 X (.BoolOp .And (a::b::rest) pos) (R4 ta tb):=by
 intro d s g H j M Q I hS r h
 refine BoolOp_and (thn (p d s g H j M _ I hS r h) fun v t ⟨x,w,k,l,m,f,n,i,u,c,e,o⟩=>?_)
 subst e
 cases u
 cases i
 refine CB5 ?_
 cases c with
 | true=>exact thn (q d t g l j k Q m (hS.mono f) n o) fun _ _ z=>z.trans f
 | false=>exact⟨.bl false,.bl false,k,l,m,f,n,rfl,.bl,o⟩
theorem BH1 (p:PE3 X a ta)(q:PE3 X (.BoolOp .Or (b::rest) pos) tb):PE3 X (.BoolOp .Or (a::b::rest) pos) (LJ ta tb):=by
 intro d s g H j M Q I hS r h
 refine BoolOp_or (thn (p d s g H j M _ I hS r h) fun v t ⟨x,w,k,l,m,f,n,i,u,c,e,o⟩=>?_)
 subst e
 cases u
 cases i
 refine CB5 ?_
 cases c with
 | false=>exact thn (q d t g l j k Q m (hS.mono f) n o) fun _ _ z=>z.trans f
 | true=>exact⟨.bl true,.bl true,k,l,m,f,n,rfl,.bl,o⟩
theorem AS5 (i:PE3 X a ta):PE3 X (.UnaryOp .Not a pos) (OV ta):=by
 intro b s d H j M Q I hS k h
 refine UnaryOp_ (thn (i b s d H j M _ I hS k h) fun v r ⟨x,t,l,m,n,f,o,g,p,c,e,q⟩=>?_)
 subst e
 cases p
 cases g
 exact not_of (CB5 ⟨.bl (!c),.bl (!c),l,m,n,f,o,rfl,.bl,q⟩)
def UL (t:TT3)(ta tb:TE3):TE3:=fun σ M Q=>t σ M fun c M1=>if c=true then ta σ M1 Q else tb σ M1 Q
theorem ZC {c:Expr}(p:PT3 X c tA)(q:PE3 X a ta)(r:PE3 X b tb):PE3 X (.IfExp c a b pos) (UL tA ta tb):=by
 intro e s g H i M Q I hS t h
 refine wpAny_IfExp (thn (p e s g H i M _ I hS t h) fun d j ⟨k,l,m,f,n,o⟩=>?_)
 cases d with
 | true=>exact thn (q e j g l i k Q m (hS.mono f) n o) fun _ _ z=>z.trans f
 | false=>exact thn (r e j g l i k Q m (hS.mono f) n o) fun _ _ z=>z.trans f
def A4 (i:Nat):TE3:=fun σ M Q=>match σ[i]? with
 | some (some d)=>Q d M
 | _=>False
def tC3 (d:D):TE3:=fun _ M Q=>Q d M
theorem AT0 (h:PE X e (BR7 i)):PE3 X e (A4 i):=PE3.of h fun a s b H c M Q I hS f q=>by
 unfold A4 at q
 cases e:c[i]? with
 | none=>rw[e] at q;exact q.elim
 | some g =>
  rw[e] at q
  cases g with
  | none=>exact q.elim
  | some d =>
   obtain⟨v,j,r⟩:=hS.get i d e
   exact⟨v,j,up0 f r q⟩
theorem pv3 (i:Nat){pos:Pos}(b:X.N[i]?=some x:=by rfl) (c:Vis X.env.scope x:=by first|exact Or.inl rfl|exact Or.inr (Or.inl rfl)|exact Or.inr (Or.inr rfl)) (hd:(x==("__debug__":Str))=false:=by decide)
  (a:(x==("__classdict__":Str))=false:=by decide):PE3 X (.Name x pos) (A4 i):=AT0 (BH8 b c hd a)
theorem QW {d:D}(h:PE X e (tC v))(b:∀K M H,Rep K M H d v):PE3 X e (tC3 d):=PE3.of h fun a s c H g M Q I hS f q=>up0 f (b _ _ _) q
theorem AS2 {i j pos}:PE3 X (.Constant (.int i) j pos) (tC3 (.int i)):=QW BH4 fun _ _ _=>.int
theorem BG5 {b j pos}:PE3 X (.Constant (.bool b) j pos) (tC3 (.bl b)):=QW BP3 fun _ _ _=>.bl
theorem AS4 {j pos}:PE3 X (.Constant .none j pos) (tC3 .non):=QW BH5 fun _ _ _=>.non
theorem AS8 {x j pos}:PE3 X (.Constant (.str x) j pos) (tC3 (.str x)):=QW BH6 fun _ _ _=>.str
theorem QZ {d:D}{pos:Pos}(b:Gl X x)(c:X.mg x=some u)(r:RelV v u)(e:∀M H,Rep X.K M H d v)(hd:(x==("__debug__":Str))=false:=by decide):PE3 X (.Name x pos) (tC3 d) :=
 PE3.of (AT5 b c r hd) fun a s f H h M Q I hS g q=>up0 g (e _ _) q
def A5:TA3:=fun _ M Q=>Q [] M
def A0 (ta:TE3)(tr:TA3):TA3:=fun σ M Q=>ta σ M fun x M1=>tr σ M1 fun xs M2=>Q (x::xs) M2
theorem WH:PA3 X [] A5:=fun b a s c H e M Q I hS d h=>Calls.spliced_nil ⟨[],[],M,H,I,.refl,d,.nil,.nil,h⟩
theorem QV (l:PE3 X e te)(m:PA3 X es t)(hs:BX4 (e::es) X.env=(false,eval e X.env)::BX4 es X.env:=by rfl):PA3 X (e::es) (A0 te t):=by
 intro f a s b H k M Q I hS n h
 rw[hs]
 refine Calls.spliced_cons (thn (l a s b H k M _ I hS n h) fun u o ⟨x,p,q,r,v,c,w,g,y,z⟩=>?_)
 exact thn (m f a o b r k q _ v (hS.mono c) w z) fun J K ⟨A,i,B,C,D,d,E,j,F,G⟩=>⟨x::A,p::i,B,C,D,c.trans d,E,.cons g j,.cons (y.mono d) F,G⟩
def B9 (t:TA3):TE3:=fun σ M Q=>t σ M fun xs M1=>xs.length<=BV8/\Q (.tup xs) M1
def F9 (t:TA3):TE3:=fun σ M Q=>t σ M fun xs M1=>xs.length<=BV8/\Q (.lst xs) M1
def J7 (t:TA3):TE3:=fun σ M Q=>t σ M fun xs M1=>xs.length<=BV8/\∀p,M1 p=none->Q (.ref p) (D9 M1 p (.lst xs))
theorem AS9 {x1}(h:PA3 X es t):PE3 X (.Tuple es x1 pos) (B9 t):=PE3.of (BH7 h.dn) fun b s c H d M Q I hS e h=>by
 refine⟨d,M,_,hS,e,h,fun f j g k st m r ⟨i,q⟩=>⟨by rw[<-r.length];exact i,fun p a=>?_⟩⟩
 exact⟨.tup f,g,st.trans (Step.lay a),m.lay a,.tup (.inl ⟨.inl D4,m.free a⟩) (r.mono (Step.lay a)),q⟩
theorem AS3 (h:PA3 X es t):PE3 X (.List es pos) (F9 t):=PE3.of (AH3 h.dn) fun b s c H d M Q I hS e h=>by
 refine⟨d,M,_,hS,e,h,fun f j g k st m r ⟨i,q⟩=>⟨by rw[<-r.length];exact i,fun p a=>?_⟩⟩
 exact⟨.lst f,g,st.trans (Step.lay a),m.lay a,.lst (.inl ⟨.inl D4,m.free a⟩) (r.mono (Step.lay a)),q⟩
theorem AH0 (h:PA3 X es t):PE3 X (.List es pos) (J7 t):=PE3.of (AH3 h.dn) fun b s c H d M Q I hS e h=>by
 refine⟨d,M,_,hS,e,h,fun f j g k st m r ⟨i,q⟩=>⟨by rw[<-r.length];exact i,fun p a=>?_⟩⟩
 exact⟨.ref p,D9 g p (.lst f),st.trans (Step.put (.inl a)),m.put (.inl a) r,.ref,q p (m.free a)⟩
end
section
variable {X:Cx}
def rI3 (C:Int->Int->Prop)(g:Int->Int->D):R3:=fun x y M Q=>match x,y with
 | .int i,.int j=>C i j/\Q (g i j) M
 | _,_=>False
def EC (g:Int->Int->D):R3:=fun x y M Q=>match x,y with
 | .int i,.int j=>Q (g i j) M
 | _,_=>False
theorem WG {f:Value->Value->Sem Value}{g:Int->Int->Int}(h:OpR X f (rI C fun i j=>.int (g i j))):OpR3 X f (rI3 C fun i j=>.int (g i j)) :=
 OpR3.of h fun H M x y c d Q m a b q=>by
  cases x<;>cases y<;>first|exact q.elim|skip
  cases a;cases b
  exact⟨_,_,rfl,rfl,q.1,up0 m .int q.2⟩
theorem BF9 {f:Value->Value->Sem Value}{g:Int->Int->Int}(h:OpR X f (rI0 fun i j=>.int (g i j))):OpR3 X f (EC fun i j=>.int (g i j)) :=
 OpR3.of h fun H M x y c d Q m a b q=>by
  cases x<;>cases y<;>first|exact q.elim|skip
  cases a;cases b
  exact⟨_,_,rfl,rfl,up0 m .int q⟩
theorem NP {f:Value->Value->Sem Value}{g:Int->Int->Bool}(h:OpR X f (rI0 fun i j=>.bl (g i j))):OpR3 X f (EC fun i j=>.bl (g i j)) :=
 OpR3.of h fun H M x y c d Q m a b q=>by
  cases x<;>cases y<;>first|exact q.elim|skip
  cases a;cases b
  exact⟨_,_,rfl,rfl,up0 m .bl q⟩
def UQ (i j:Int):Prop:=CMul i j\/(i.natAbs<2^4096/\j.natAbs<2^4096)
theorem bits_le {i:Int}(h:i.natAbs<2^4096):CG9 i<=4096:=by
 unfold CG9
 split
 ·lia
 ·rename_i hi
  have h0:i.natAbs≠0:=by intro z;apply hi;have:i=0:=by lia
                         subst this;rfl
  have:=(Nat.log2_lt h0).mpr h
  lia
theorem BF1 {i j:Int}(h:UQ i j):IntMulOk i j:=by
 rcases h with h|⟨b,c⟩
 ·exact h.ok
 ·have d:=bits_le b
  have e:=bits_le c
  unfold IntMulOk Builtin.Int.intTooBig
  have:decide (((CG9 i+CG9 j:Nat):Int)>((bitsLine:Nat):Int))=false:=by
   refine decide_eq_false ?_
   have:bitsLine=134217728:=rfl
   lia
  intro z
  simp only[BV3] at z
  have a:=z.2
  simp only[Int.natCast_add] at this
  rw[this] at a;cases a
theorem AR6:OpR X (CE2 .Mult) (rI UQ fun i j=>.int (i*j)):=opI fun _ _ _ _ _ _ _ a q=>mul_int q (BF1 a)
def AA0 (i j:Int):Prop:=0<j/\j.natAbs<2^4096
theorem AG4:OpR X (CE2 .FloorDiv) (rI AA0 fun i j=>.int (i / j)):=opI fun i j _ _ _ _ _ a q=>by
 have c:=a.1
 refine floordiv_int (by lia) (by rw[Int.fdiv_eq_ediv_of_nonneg i (by lia)];exact q) (.inl (PyProof.noPylong_of_log2 ?_))
 have b:j.natAbs≠0:=by lia
 have:=(Nat.log2_lt b).mpr a.2
 lia
theorem BF8:OpR3 X (CE2 .Sub) (EC fun i j=>.int (i-j)):=BF9 BG4
theorem BF6:OpR3 X (CE2 .Mult) (rI3 UQ fun i j=>.int (i*j)):=WG AR6
theorem AR2:OpR3 X (CE2 .FloorDiv) (rI3 AA0 fun i j=>.int (i / j)):=WG AG4
theorem BF5:OpR3 X (CE2 .Mod) (rI3 (fun _ j=>0<j) fun i j=>.int (i % j)):=WG BG2
theorem BF7:OpR3 X (CE2 .Pow) (rI3 BA3 fun i j=>.int (i^j.toNat)):=WG BG3
theorem BO2:OpR3 X (BY6 .Lt) (EC fun i j=>.bl (decide (i<j))):=NP BP0
theorem BO1:OpR3 X (BY6 .LtE) (EC fun i j=>.bl (decide (i<=j))):=NP BO9
theorem BN8:OpR3 X (BY6 .Gt) (EC fun i j=>.bl (decide (j<i))):=NP BO8
theorem BN7:OpR3 X (BY6 .GtE) (EC fun i j=>.bl (decide (j<=i))):=NP BO7
def rU3 (g:Int->Int):U3:=fun x M Q=>match x with
 | .int i=>Q (.int (g i)) M
 | _=>False
theorem BK1:UnR3 X (unaryOp .USub) (rU3 fun i=>-i):=UnR3.of BK2 fun H M x b Q m a q=>by
 cases x<;>first|exact q.elim|skip
 cases a
 exact⟨_,rfl,up0 m .int q⟩
def D0:R3:=fun x y M Q=>match x,y with
 | .int i,.int j=>Q (.int (i+j)) M
 | .str a,.str b=>a.length+b.length<=BV8/\Q (.str (a++b)) M
 | .lst a,.lst b=>a.length+b.length<=BV8/\Q (.lst (a++b)) M
 | .tup a,.tup b=>a.length+b.length<=BV8/\Q (.tup (a++b)) M
 | _,_=>False
theorem BF3:OpR3 X (CE2 .Add) D0:=by
 intro i s A H M x y xv yv v u Q I m J K L N q
 cases x<;>cases y<;>first|exact q.elim|skip
 ·cases L;cases N
  exact thn (BG0 i s A H _ _ v u _ I J K ⟨_,_,rfl,rfl,up0 m .int q⟩) fun _ _ z=>P0 z
 ·cases L;cases N
  exact thn (TM i s A H _ _ v u _ I J K ⟨_,_,rfl,rfl,q.1,up0 m .str q.2⟩) fun _ _ z=>P0 z
 ·cases L with|tup O j=>cases N with|tup P k =>
  cases J;cases K
  obtain⟨d,t,S,z1⟩:=I.tuple (SqT.of3 O)
  obtain⟨a,w,T,z2⟩:=I.tuple (SqT.of3 P)
  obtain⟨⟨U,B,C,D⟩,g,V,n,W⟩:=id S
  obtain⟨⟨E,e,l,f⟩,c,p,G,r⟩:=id T
  subst V W p r
  have l1:=j.length
  have l2:=k.length
  have l3:=t.length
  have l4:=w.length
  obtain⟨hz,q⟩:=q
  by_cases R:d.toArray.isEmpty=true
  ·refine concat_meets ⟨_,g,rfl⟩ ⟨_,c,rfl⟩ noFill_tuple_add seq_tuple_add CJ1 CI7 (CI2 _ _) (tuple_addW0 _ _ _ _ n G B e D f R) ⟨g,c,?_⟩
   have Y:d=[]:=by simpa using R
   subst Y
   cases t
   cases j
   exact⟨_,.ref _,M,H,I,.refl,m,rfl,.tup P k,q⟩
  ·by_cases Z:a.toArray.isEmpty=true
   ·refine concat_meets ⟨_,g,rfl⟩ ⟨_,c,rfl⟩ noFill_tuple_add seq_tuple_add CJ1 CI7 (CI2 _ _) (tuple_addW1 _ _ _ _ n G B e D f R Z) ⟨g,c,?_⟩
    have Y:a=[]:=by simpa using Z
    subst Y
    cases w
    cases k
    rw[CA9] at q
    exact⟨_,.ref _,M,H,I,.refl,m,rfl,.tup O j,q⟩
   ·refine concat_meets ⟨_,g,rfl⟩ ⟨_,c,rfl⟩ noFill_tuple_add seq_tuple_add CJ1 CI7 (CI2 _ _) (tuple_addW2 _ _ _ _ n G B e D f R Z (by simp;lia)) ⟨g,c,?_⟩
    have ea:d.toArray++a.toArray=(d++a).toArray:=by simp
    rw[ea]
    have h:=I.fresh
    have rr:=j.append k
    refine⟨_,.ref s.heap.objs.size,M,_,I.laid (t':=s.toks) (o:=.tup _) (fun b ob q=>BU6 _ q) (BU4 _) ⟨by rw[BU7];lia,_,t.append w,IsTup.new _ _⟩,Step.lay h,m.lay h,rfl,.tup (.inl ⟨.inl D4,m.free h⟩) (rr.mono (Step.lay h)),q⟩
 ·cases L with|lst O j=>cases N with|lst P k =>
  cases J;cases K
  obtain⟨d,t,S,z1⟩:=I.list (SqL.of3 O)
  obtain⟨a,w,T,z2⟩:=I.list (SqL.of3 P)
  obtain⟨⟨U,B,C,D⟩,g,V,n,W⟩:=S.isList
  obtain⟨⟨E,e,l,f⟩,c,p,G,r⟩:=T.isList
  subst V W p r
  have l1:=j.length
  have l2:=k.length
  have l3:=t.length
  have l4:=w.length
  obtain⟨hz,q⟩:=q
  refine concat_meets ⟨_,g,rfl⟩ ⟨_,c,rfl⟩ noFill_list_add seq_list_add PySem.F.slot_list_add PySem.F.entry_list_add (PySem.F.args_list_add_2 _ _) (list_addW _ _ _ _ n G B e D f (by simp;lia)) ⟨g,c,?_⟩
  have ea:d.toArray++a.toArray=(d++a).toArray:=by simp
  rw[ea]
  have h:=I.fresh
  have rr:=j.append k
  exact⟨_,.ref s.heap.objs.size,M,_,I.lnew (t':=s.toks) (t.append w) (by rw[BU7];lia),Step.lay h,m.lay h,rfl,.lst (.inl ⟨.inl D4,m.free h⟩) (rr.mono (Step.lay h)),q⟩
def dOk (d:D):Prop:=plain d=true/\(pyD d).canLay0=true/\(pyD d).depth<=60
def D7:R3:=fun x y M Q=>(dOk x/\dOk y/\Q (.bl (CB2 (pyD x) (pyD y))) M)\/∃a b,x=.str a/\y=.str b/\Q (.bl (a==b)) M
def CN:R3:=fun x y M Q=>(dOk x/\dOk y/\Q (.bl (!PyData.eqv (pyD x) (pyD y))) M)\/∃a b,x=.str a/\y=.str b/\Q (.bl (!(a==b))) M
theorem BN6 {k:Nat}(n:Room k X.A):OpR3 X (BY6 .Eq) D7:=by
 intro c s d H M x y r t v u Q I m f g i j h
 rcases h with⟨e,l,q⟩|⟨a,b,rfl,rfl,q⟩
 rotate_left
 ·cases i;cases j
  exact thn (BO6 c s d H _ _ v u _ I f g ⟨rfl,up0 m .bl (by rw[FN];exact q)⟩) fun _ _ z=>P0 z
 obtain⟨w,o⟩:=AI I e.1 i f
 obtain⟨bs,p⟩:=AI I l.1 j g
 exact SeqAt.compareEq_reads o p e.2.1 l.2.1 (by have:=n.units;have:=e.2.2;lia) ⟨_,.bl _,M,H,I,.refl,m,rfl,.bl,q⟩
theorem BO3 {k:Nat}(n:Room k X.A):OpR3 X (BY6 .NotEq) CN:=by
 intro c s d H M x y r t v u Q I m f g i j h
 rcases h with⟨e,l,q⟩|⟨a,b,rfl,rfl,q⟩
 rotate_left
 ·cases i;cases j
  exact thn (BP1 c s d H _ _ v u _ I f g ⟨rfl,up0 m .bl (by rw[FN];exact q)⟩) fun _ _ z=>P0 z
 obtain⟨w,o⟩:=AI I e.1 i f
 obtain⟨bs,p⟩:=AI I l.1 j g
 exact SeqAt.compareNe_reads o p e.2.1 l.2.1 (by have:=n.units;have:=e.2.2;lia) ⟨_,.bl _,M,H,I,.refl,m,rfl,.bl,q⟩
def UB:R3:=fun x y M Q=>y=.non/\Q (.bl (match x with|.non=>true|_=>false)) M
def HN:R3:=fun x y M Q=>y=.non/\Q (.bl (match x with|.non=>false|_=>true)) M
theorem BO0:OpR3 X (BY6 .Is) UB:=OpR3.of BG1 fun H M x y d f Q m b c a=>by
 obtain⟨e,q⟩:=a
 subst e;cases c
 refine⟨rfl,?_⟩
 cases b<;>exact up0 m .bl (by simpa using q)
theorem AF9:OpR3 X (BY6 .IsNot) HN:=OpR3.of AR7 fun H M x y d f Q m b c a=>by
 obtain⟨e,q⟩:=a
 subst e;cases c
 refine⟨rfl,?_⟩
 cases b<;>exact up0 m .bl (by simpa using q)
variable {a b e:Expr}{ta tb te:TE3}{pos:Pos}
def C1:R3:=fun x y M Q=>match x,y with
 | .lst ds,.int i=>∃d,atI ds i=some d/\Q d M
 | .tup ds,.int i=>∃d,atI ds i=some d/\Q d M
 | .ref a,.int i=>∃ds d,M a=some (.lst ds)/\atI ds i=some d/\Q d M
 | .str z,.int i=>z.length<=BV8/\∃c,atI z.cps.toList i=some c/\Q (.str ⟨#[c]⟩) M
 | _,_=>False
theorem Reps.atI {M:Mem}{ds:List D}(r:Reps K M H ds vs){i:Int}{d:D}(h:L2.atI ds i=some d):∃v,L2.atI vs i=some v/\Rep K M H d v:=by
 unfold L2.atI at h ⊢
 rw[<-r.length]
 cases e:ixN ds.length i with
 | none=>rw[e] at h;cases h
 | some j =>
  rw[e] at h
  exact r.get (show ds[j]?=some d from h)
theorem BG9 (J:PE3 X a ta)(L:PE3 X b tb)(hs:AO0 b):PE3 X (.Subscript a b pos) (A6 C1 ta tb):=by
 intro e s g H E M Q I hS N h
 refine Subscript_ (thn (J e s g H E M _ I hS N h) fun v O ⟨x,F,P,R,S,i,T,w,U,V⟩ =>
  thn (L e O g R E P _ S (hS.mono i) T V) fun u W ⟨y,G,Y,A,Z,j,k,B,t,l⟩=>?_)
 have C:rIx X.K F G A (Up X.K Y A Q):=by
  have f:=U.mono j
  cases x<;>cases y<;>first|exact l.elim|skip
  ·cases f;cases t
   obtain⟨hz,c,hc,q⟩:=l
   exact .inr (.inr ⟨_,_,c,rfl,rfl,hz,hc,up0 k .str q⟩)
  ·cases f;cases t
   obtain⟨ds,d,hm,m,q⟩:=l
   obtain⟨ho,e1,r⟩:=k _ _ hm
   cases ho<;>first|exact r.elim|skip
   obtain⟨n,o,p⟩:=Reps.atI r m
   exact .inl ⟨_,_,_,n,rfl,rfl,.inl (.inl e1),o,up0 k p q⟩
  ·cases f with|tup D r=>cases t;obtain⟨d,m,q⟩:=l;obtain⟨n,o,p⟩:=Reps.atI r m;exact .inr (.inl ⟨_,_,_,n,rfl,rfl,SqT.of3 D,o,up0 k p q⟩)
  ·cases f with|lst D r=>cases t;obtain⟨d,m,q⟩:=l;obtain⟨n,o,p⟩:=Reps.atI r m;exact .inl ⟨_,_,_,n,rfl,rfl,SqL.of3 D,o,up0 k p q⟩
 exact thn (BE3 a b e W g A F G v u _ Z w B C (hs _ _)) fun _ _ z=>(P0 z).trans (i.trans j)
def F7:Lo->Mem->(Option Int->Mem->Prop)->Prop:=fun _ M Q=>Q none M
def J8 (t:TE3):Lo->Mem->(Option Int->Mem->Prop)->Prop:=fun σ M Q=>t σ M fun x M1=>match x with
 | .int i=>Q (some i) M1
 | _=>False
abbrev TO3:=Lo->Mem->(Option Int->Mem->Prop)->Prop
def PO3 (X:Cx)(e:Option Expr)(t:TO3):Prop :=
 ∀(pins:List (Addr×Obj)) (s:BV1) (σv:L2.St) (H:Hp) (σ:Lo) (M:Mem) (Q:Option Int->Mem->Prop),Inv X pins σv H s->SRel X.K M H σ σv->MRel X.K M H->t σ M Q ->
  wpAny (model X.prog X.w) X.A (evalPart e X.env) (fun v s'=>∃o M' H',Inv X pins σv H' s'/\Step M H M' H'/\MRel X.K M' H'/\IsPart v o/\Q o M') X.xe s
theorem AI2:PO3 X none F7:=by
 intro a s b H d M Q I hS c h
 exact BV0 ⟨none,M,H,I,.refl,c,.none,h⟩
theorem HL (h:PE3 X e te):PO3 X (some e) (J8 te):=by
 intro a s b H i M Q I hS j k
 refine thn (h a s b H i M _ I hS j k) fun u q c=>?_
 obtain⟨x,r,l,m,n,d,o,f,p,g⟩:=c
 cases x<;>first|exact g.elim|skip
 cases p
 obtain⟨t,rfl⟩:=f
 exact⟨some _,l,m,n,d,o,.int _ t,g⟩
def cutD (xs:List D)(lo hi:Option Int):List D:=(xs.drop (HT.sIx xs.length 0 lo)).take (HT.sIx xs.length xs.length hi-HT.sIx xs.length 0 lo)
theorem Reps.cut {M:Mem}{ds:List D}(r:Reps K M H ds vs)(lo hi:Option Int):Reps K M H (cutD ds lo hi) (PU vs lo hi):=by
 unfold cutD PU
 rw[r.length]
 exact(r.drop _).take _
def BQ1:D->Option Int->Option Int->Mem->DK->Prop:=fun x lo hi M Q=>match x with
 | .lst ds=>Q (.lst (cutD ds lo hi)) M
 | .tup ds=>¬(HT.sIx ds.length 0 lo=0/\HT.sIx ds.length ds.length hi=ds.length)/\Q (.tup (cutD ds lo hi)) M
 | _=>False
theorem ZD {lo hi:Option Expr}{tl th:TO3}{p2:Pos}(E:PE3 X e te)(F:PO3 X lo tl)(G:PO3 X hi th) :
  PE3 X (.Subscript e (.Slice lo hi none p2) pos) (fun σ M Q=>te σ M fun x M1=>tl σ M1 fun l M2=>th σ M2 fun u M3=>BQ1 x l u M3 Q):=by
 intro a s c H σ M Q I hS J h
 refine Subscript_ (thn (E a s c H σ M _ I hS J h) fun v L ⟨x,n,M1,N,O,f,P,o,R,S⟩=>?_)
 refine wpAny_Slice (thn (F a L c N σ M1 _ O (hS.mono f) P S) fun t U ⟨l,M2,V,W,g,Y,Z,q2⟩=>thn (G a U c V σ M2 _ W (hS.mono (f.trans g)) Y q2) fun w i ⟨u,M3,j,I3,k,m,pu,y⟩=>?_)
 refine BV0 ?_
 have I4:Inv X a c j {i with heap:=i.heap.push {cls:=.type "slice",data:=.fields #[t,w,.none]}}:=I3.kept (t':=i.toks) fun b ob q=>BU6 _ q
 have C:=R.mono (g.trans k)
 have A:AV5 X.K n l u j (Up X.K M3 j Q)\/AV6 X.K n l u j (Up X.K M3 j Q):=by
  cases x<;>first|exact y.elim|skip
  ·cases C with|tup B r =>
   obtain⟨D,q⟩:=y
   rw[r.length] at D
   exact .inr ⟨_,_,rfl,SqT.of3 B,D,fun p d=>⟨_,M3,Step.lay d,m.lay d,.tup (.inl ⟨.inl D4,m.free d⟩) ((r.cut l u).mono (Step.lay d)),q⟩⟩
  ·cases C with|lst B r =>
   refine .inl ⟨_,_,rfl,SqL.of3 B,fun p d=>?_⟩
   exact⟨_,M3,Step.lay d,m.lay d,.lst (.inl ⟨.inl D4,m.free d⟩) ((r.cut l u).mono (Step.lay d)),y⟩
 obtain⟨T,id,hT,ht,hg⟩:=(sl_list.or UI) a {i with heap:=i.heap.push {cls:=.type "slice",data:=.fields #[t,w,.none]}} c j n v t w l u i.heap.objs.size _ I4 o (CG8 ..) Z pu A
 exact tail_any (ops:=[.ref i.heap.objs.size,v]) ht hT (thn hg fun _ _ z=>(P0 z).trans ((f.trans g).trans k)) (by with_unfolding_all rfl)
end
section
variable {X:Cx}{a b e o i value:Expr}{es:List Expr}{ta tb te td ty tv:TE3}{t:TA3}{pos p pos':Pos}{x:Str}{id T:String}{r:C3}
def F0 (r:C3)(t:TA3):TE3:=fun σ M Q=>t σ M fun ds M1=>r ds M1 Q
theorem YY (i:CallR3 X (.builtin id) r)(j:Gl X x)(k:X.mg x=none)(l:BZ4 x=some (.builtin id))(m:PA3 X (e::es) t)(n:x≠"__name__":=by decide) (c:(x==("__debug__":Str))=false:=by decide)
  (o:BX4 (e::es) X.env=(false,eval e X.env)::BX4 es X.env:=by rfl) (d:(CI6 pos (BX4 es X.env)).any (·.1)=false:=by rfl):PE3 X (.Call (.Name x p) (e::es) [] pos) (F0 r t):=by
 intro a s b H q M Q I hS u h
 refine CG5 (BI I j k l ?_ n c)
 exact PyProof.Rows.callWith_builtin1 (thn (m pos a s b H q M _ I hS u h) fun v w ⟨y,A,B,C,D,f,E,g,F,G⟩=>thn (i a w b C B y A v Q D E g F G) fun _ _ z=>z.trans f) o d
theorem TN (i:CallR3 X (.type T) r)(j:Gl X x)(k:X.mg x=none)(l:BZ4 x=some (.type T))(m:PA3 X (e::es) t)(n:x≠"__name__":=by decide) (c:(x==("__debug__":Str))=false:=by decide)
  (o:BX4 (e::es) X.env=(false,eval e X.env)::BX4 es X.env:=by rfl) (d:(CI6 pos (BX4 es X.env)).any (·.1)=false:=by rfl):PE3 X (.Call (.Name x p) (e::es) [] pos) (F0 r t):=by
 intro a s b H q M Q I hS u h
 refine CG5 (BI I j k l ?_ n c)
 exact CB6 (thn (m pos a s b H q M _ I hS u h) fun v w ⟨y,A,B,C,D,f,E,g,F,G⟩=>thn (i a w b C B y A v Q D E g F G) fun _ _ z=>z.trans f) o d
theorem AG8 {d:D}(a:Gl X x)(b:X.mg x=none)(c:BZ4 x=some u)(r:RelV v u)(e:∀K M H,Rep K M H d v)(f:x≠"__name__":=by decide) (hd:(x==("__debug__":Str))=false:=by decide):PE3 X (.Name x pos) (tC3 d) :=
 QW (AT1 a b c r f hd) e
def D8:C3:=fun ds M Q=>match ds with
 | [.lst xs]=>Q (.int xs.length) M
 | [.tup xs]=>Q (.int xs.length) M
 | [.str z]=>z.length<=BV8/\Q (.int z.length) M
 | [.ref a]=>∃xs,M a=some (.lst xs)/\Q (.int xs.length) M
 | _=>False
theorem BC4:CallR3 X (.builtin "len") D8:=CallR3.of (call_len_seq.or MN) fun H M j a Q m b q=>by
 rcases b with _|⟨pd,c⟩;(exact(q:False).elim);rcases c with _|⟨k,d⟩;rotate_left;(first|exact(q:False).elim|(cases pd<;>exact(q:False).elim))
 cases pd with
 | lst h r=>exact .inl ⟨_,_,rfl,.inl (SqL.of3 h),by rw[<-r.length];exact up0 m .int q⟩
 | tup h r=>exact .inl ⟨_,_,rfl,.inr (SqT.of3 h),by rw[<-r.length];exact up0 m .int q⟩
 | str=>exact .inr ⟨_,rfl,q.1,up0 m .int q.2⟩
 | ref =>
  obtain⟨l,e,q⟩:=q
  obtain⟨f,g,r⟩:=m _ _ e
  cases f<;>first|exact r.elim|skip
  have i:=r
  exact .inl ⟨_,_,rfl,.inl (.inl (.inl g)),by rw[<-i.length];exact up0 m .int q⟩
 | _=>exact(q:False).elim
def EO:C3:=fun ds M Q=>match ds with
 | [.int i]=>Q (.int i) M
 | [.bl k]=>Q (.int (if k then 1 else 0)) M
 | _=>False
theorem BC3:CallR3 X (.type "int") EO:=CallR3.of XT fun H M e a Q m b q=>by
 rcases b with _|⟨pd,c⟩;(exact(q:False).elim);rcases c with _|⟨f,d⟩;rotate_left;(first|exact(q:False).elim|(cases pd<;>exact(q:False).elim))
 cases pd with
 | int=>exact .inl ⟨_,rfl,up0 m .int q⟩
 | bl=>exact .inr ⟨_,rfl,up0 m .int q⟩
 | _=>exact(q:False).elim
end
section
variable {X:Cx}{a b e o i value:Expr}{es:List Expr}{ta tb te td ty tv:TE3}{t:TA3}{pos p pos':Pos}{x:Str}
def JR (kds:List (Key×D))(k:Key):Option D:=(kds.find? fun kv=>decide (kv.1=k)).map (·.2)
def putD (kds:List (Key×D))(k:Key)(d:D):List (Key×D) :=
 if (kds.any fun kv=>decide (kv.1=k))=true then kds.map (fun kv=>if kv.1=k then(kv.1,d) else kv) else kds++[(k,d)]
def HB (kds more:List (Key×D)):List (Key×D):=more.foldl (fun acc kv=>putD acc kv.1 kv.2) kds
def kD:Key->D
 | .inl i=>.int i
 | .inr x=>.str x
def dK?:D->Option Key
 | .int i=>some (.inl i)
 | .str x=>some (.inr x)
 | _=>none
section
variable {K:BU5}{M:Mem}{H:Hp}
theorem RepK.length {c:List (Key×D)}(r:RepK K M H c kvs):c.length=kvs.length:=by
 induction c generalizing kvs with
 | nil=>cases r;rfl
 | cons d f e=>cases r with|cons a b=>rw[BU8,BU8,e b]
theorem RepK.val {c:List (Key×D)}(r:RepK K M H c kvs)(k:Key):(∃d v,JR c k=some d/\Z7 kvs k=some v/\Rep K M H d v)\/(JR c k=none/\Z7 kvs k=none):=by
 induction c generalizing kvs with
 | nil=>cases r;exact .inr ⟨rfl,rfl⟩
 | cons d f i =>
  cases r with
  | @cons g d v f h a b =>
   by_cases e:g=k
   ·exact .inl ⟨d,v,by simp[JR,e],by simp[Z7,e],a⟩
   ·have j:JR ((g,d)::f) k=JR f k:=by simp[JR,e]
    have l:Z7 ((g,v)::h) k=Z7 h k:=by simp[Z7,e]
    rw[j,l];exact i b
theorem RepK.some {a:List (Key×D)}(r:RepK K M H a kvs){k:Key}{d:D}(h:JR a k=Option.some d):∃v,Z7 kvs k=Option.some v/\Rep K M H d v:=by
 rcases r.val k with⟨e,v,b,c,q⟩|⟨b,_⟩
 ·rw[h] at b;cases b;exact⟨v,c,q⟩
 ·rw[h] at b;cases b
theorem RepK.anyK {c:List (Key×D)}(r:RepK K M H c kvs)(k:Key):(c.any fun e=>decide (e.1=k))=kvs.any fun e=>decide (e.1=k):=by
 induction c generalizing kvs with
 | nil=>cases r;rfl
 | cons d g f=>cases r with|cons a b=>rw[BZ0,BZ0,f b]
theorem RepK.repl {c:List (Key×D)}(r:RepK K M H c kvs)(k:Key){d:D}(q:Rep K M H d v):RepK K M H (c.map (fun f=>if f.1=k then(f.1,d) else f)) (kvs.map (fun f=>if f.1=k then(f.1,v) else f)):=by
 induction c generalizing kvs with
 | nil=>cases r;exact .nil
 | cons h i g =>
  cases r with
  | @cons j h l i m a b =>
   rw[BX1,BX1]
   by_cases e:j=k
   ·simp only[e];exact .cons q (g b)
   ·simp only[e];exact .cons a (g b)
theorem RepK.snoc {c:List (Key×D)}(r:RepK K M H c kvs)(k:Key){d:D}(q:Rep K M H d v):RepK K M H (c++[(k,d)]) (kvs++[(k,v)]):=by
 induction c generalizing kvs with
 | nil=>cases r;exact .cons q .nil
 | cons f g e=>cases r with|cons a b=>exact .cons a (e b)
theorem RepK.put {a:List (Key×D)}(r:RepK K M H a kvs)(k:Key){d:D}(q:Rep K M H d v):RepK K M H (putD a k d) (putK kvs k v):=by
 unfold putD putK
 rw[r.anyK]
 split
 ·exact r.repl k q
 ·exact r.snoc k q
theorem RepK.merge {more:List (Key×D)}{e:List (Key×V)}(q:RepK K M H more e):∀{c:List (Key×D)} {kvs:List (Key×V)},RepK K M H c kvs->RepK K M H (HB c more) (DY kvs e):=by
 induction more generalizing e with
 | nil=>cases q;exact fun r=>r
 | cons d g f=>cases q with|cons a b=>exact fun r=>f b (r.put _ a)
theorem OF {k:Key}(r:Rep K M H (kD k) v):v=kV k:=by
 cases k<;>(cases r;rfl)
theorem AX2 {d:D}{k:Key}(h:dK? d=Option.some k):d=kD k:=by
 cases d<;>first|(cases h;rfl)|cases h
end
def E6:R3:=fun x y M Q=>∃k d,dK? y=some k/\(match x with
 | .dct kds=>JR kds k=some d
 | .ref a=>∃kds,M a=some (.dct kds)/\JR kds k=some d
 | _=>False)/\Q d M
theorem QX (p:X.A.units+1<cLine)(ho:PE3 X o td)(hi:PE3 X i ty)(hs:XS i):PE3 X (.Subscript o i pos) (A6 E6 td ty):=PE3.of (AT3 p ho.dn hi.dn hs) fun l s t H m M Q I hS u h=>by
 refine⟨m,M,_,hS,u,h,fun x R w S a z B C=>⟨m,w,_,hS.mono a,z,C,fun y T n U b f D E=>?_⟩⟩
 obtain⟨k,d,F,g,q⟩:=E
 have G:=AX2 F
 subst G
 have J:=OF D
 subst J
 have e:=B.mono b
 cases x<;>first|exact g.elim|skip
 ·cases e
  obtain⟨K,L,N⟩:=g
  obtain⟨ho,O,r⟩:=f _ _ L
  cases ho<;>first|exact r.elim|skip
  obtain⟨v,c,j⟩:=RepK.some r N
  exact⟨_,v,rfl,.inl ⟨_,k,.inl O,rfl,c.symm⟩,d,n,a.trans b,f,j,q⟩
 ·cases e with
  | dct P r =>
   obtain⟨v,c,j⟩:=RepK.some r g
   exact⟨_,v,rfl,.inl ⟨_,k,P.1,rfl,c.symm⟩,d,n,a.trans b,f,j,q⟩
def S8 (td ty tv:TE3):TS3:=fun T σ M=>tv σ M fun d M1=>td σ M1 fun x M2=>ty σ M2 fun y M3=>∃k a kds,dK? y=some k/\x=.ref a/\M3 a=some (.dct kds)/\kds.length<BV8/\T.nx σ (D9 M3 a (.dct (putD kds k d)))
theorem AI5 (t:X.A.units+1<cLine)(ho:PE3 X o td)(hi:PE3 X i ty)(u:PE3 X value tv)(hs:CJ8 value (some (.Subscript o i pos')) pos.line X.env=pure false) :
  PS3 X (.Assign [.Subscript o i pos'] value pos) (S8 td ty tv):=PS3.of (AU8 t ho.dn hi.dn u.dn hs) fun l s w H g M T I hS B h=>by
 refine⟨g,M,_,hS,B,h,fun d v C W b D E F=>⟨g,C,_,hS.mono b,D,F,fun x Y G Z c J K L=>⟨g,G,_,hS.mono (b.trans c),J,L,fun y yv M3 N e m O P=>?_⟩⟩⟩
 obtain⟨k,a,j,Q,rfl,n,R,q⟩:=P
 have S:=AX2 Q
 subst S
 have U:=OF O
 subst U
 cases K
 obtain⟨ho,V,r⟩:=m _ _ n
 cases ho<;>first|exact r.elim|skip
 have p:=r
 have f:N a=none\/M3 a≠none:=.inr (by rw[n];intro z;cases z)
 have pd:=E.mono (c.trans e)
 refine⟨a,_,rfl,.inl ⟨_,k,V,rfl,by rw[<-p.length];exact R,rfl⟩,g,D9 M3 a (.dct (putD j k d)),((b.trans c).trans e).trans (Step.put f),m.put f (p.put k pd),?_,q⟩
 exact hS.mono (((b.trans c).trans e).trans (Step.put f))
def V3:List (TE3×TE3)->Lo->Mem->(List (D×D)->Mem->Prop)->Prop
 | [],_,M,Q=>Q [] M
 | (tk,tv)::r,σ,M,Q=>tk σ M fun x M1=>tv σ M1 fun y M2=>V3 r σ M2 fun ps M3=>Q ((x,y)::ps) M3
def AA3 (X:Cx)(pos:Pos)(keys:List (Option Expr))(values:List Expr)(trs:List (TE3×TE3)):Prop:=PPs X pos keys values (trs.map fun z=>(dnE X.K z.1,dnE X.K z.2))
theorem AI3:AA3 X pos [] [] []:=AU2
theorem ZL {k v:Expr}{ks:List (Option Expr)}{vs:List Expr}{tk tv:TE3}{a:List (TE3×TE3)}(b:PE3 X k tk)(c:PE3 X v tv)(d:AA3 X pos ks vs a):AA3 X pos (some k::ks) (v::vs) ((tk,tv)::a):=AI4 b.dn c.dn d
inductive RepP (K:BU5)(M:Mem)(H:Hp):List (D×D)->List (V×V)->Prop
 | nil:RepP K M H [] []
 | cons {d1 d2:D} {v1 v2:V} {ds:List (D×D)} {vs:List (V×V)}:Rep K M H d1 v1->Rep K M H d2 v2->RepP K M H ds vs->RepP K M H ((d1,d2)::ds) ((v1,v2)::vs)
theorem LK {K:BU5}:∀(d:List (TE3×TE3)) {σ:Lo} {σv:L2.St} {M:Mem} {H:Hp} {Q:List (D×D)->Mem->Prop} {Q2:List (V×V)->Hp->Prop},SRel K M H σ σv->MRel K M H->V3 d σ M Q ->
  (∀ps vs M' H',Step M H M' H'->MRel K M' H'->RepP K M' H' ps vs->Q ps M'->Q2 vs H')->OW (d.map fun z=>(dnE K z.1,dnE K z.2)) σv H Q2
 | [],σ,σv,M,H,Q,Q2,hS,hM,h,hq=>hq [] [] M H .refl hM .nil h
 | (tk,tv)::r,σ,σv,M,H,Q,Q2,hS,hM,h,hq=>by
  refine⟨σ,M,_,hS,hM,h,fun x q e s a f g i=>⟨σ,e,_,hS.mono a,f,i,fun y t u v b j k l=>?_⟩⟩
  refine LK r (hS.mono (a.trans b)) j l fun ps vs M3 m c n o p=>?_
  exact hq _ _ M3 m ((a.trans b).trans c) n (.cons (g.mono (b.trans c)) (k.mono c) o) p
def FW (trs:List (TE3×TE3)):TE3:=fun σ M Q=>∀p,M p=none->V3 trs σ (D9 M p (.dct [])) fun ps M1=>M1 p=some (.dct []) /\
 ∃kds:List (Key×D),ps=kds.map (fun kd=>(kD kd.1,kd.2))/\kds.length<=15/\Q (.ref p) (D9 M1 p (.dct (HB [] kds)))
theorem LE {K:BU5}{M:Mem}{H:Hp}:∀(f:List (Key×D)) {vs:List (V×V)},RepP K M H (f.map (fun kd=>(kD kd.1,kd.2))) vs->∃kvs:List (Key×V),vs=kvs.map (fun g=>(kV g.1,g.2))/\RepK K M H f kvs
 | [],vs,r=>by cases r;exact⟨[],rfl,.nil⟩
 | (k,d)::f,vs,r=>by
  cases r with
  | cons a b c =>
   obtain⟨kvs,e,q⟩:=LE f c
   have h:=OF a
   subst h e
   exact⟨(k,_)::kvs,rfl,.cons b q⟩
theorem ZA {keys:List (Option Expr)}{a:List Expr}{b:List (TE3×TE3)}(h:AA3 X pos keys a b)(c:keys.all (·.isSome)=true)(i:keys.length=a.length)(y:keys≠[])(j:keys.length<=15) :
  PE3 X (.Dict keys a pos) (FW b):=PE3.of (AT4 h c i y j) fun o s A H G M Q I hS t h=>by
 intro p k
 have d:Step M H (D9 M p (.dct [])) (upd H p (.dK [])):=Step.put (.inl k)
 refine LK b (hS.mono d) (t.put (.inl k) (show RepK _ _ _ _ _ from .nil)) (h p (t.free k)) fun J K u B l v C m=>?_
 obtain⟨w,f,e,i,q⟩:=m
 subst e
 obtain⟨n,rfl,x⟩:=LE f C
 obtain⟨D,E,r⟩:=v _ _ w
 cases D<;>first|exact r.elim|skip
 have F:=r
 cases F
 have g:B p=none\/u p≠none:=.inr (by rw[w];intro z;cases z)
 exact⟨E,n,rfl,by rw[<-x.length];exact i,.ref p,D9 u p (.dct (HB [] f)),(d.trans l).trans (Step.put g),v.put g (x.merge .nil),.ref,q⟩
end
def Vs (M:Mem)(d:D)(M':Mem)(d':D):Prop:=∀(K:BU5) (H:Hp) (v:V),MRel K M H->Rep K M H d v->MRel K M' H/\Rep K M' H d' v/\∀a,M' a≠none->M a≠none
section
variable {K:BU5}{M M':Mem}{H:Hp}
theorem Rep.shrink {d:D}(s:∀a,M a=none->M' a=none)(r:Rep K M H d v):Rep K M' H d v :=
 Rep.rec (motive_1:=fun d v _=>Rep K M' H d v) (motive_2:=fun e f _=>Reps K M' H e f) (motive_3:=fun e f _=>RepK K M' H e f)
  .non .bl .int .str .ty .ref (fun h _ c=>.tup (h.imp (fun z=>⟨z.1,s _ z.2⟩) id) c) (fun h _ c=>.lst (h.imp (fun z=>⟨z.1,s _ z.2⟩) id) c) (fun h _ c=>.dct ⟨h.1,s _ h.2⟩ c)
  .nil (fun _ _ a b=>.cons a b) .nil (fun _ _ a b=>.cons a b) r
theorem Reps.shrink {ds:List D}(s:∀a,M a=none->M' a=none)(r:Reps K M H ds vs):Reps K M' H ds vs:=by
 induction ds generalizing vs with
 | nil=>cases r;exact .nil
 | cons d ds c=>cases r with|cons a b=>exact .cons (a.shrink s) (c b)
theorem RepK.shrink {ds:List (Key×D)}{vs:List (Key×V)}(s:∀a,M a=none->M' a=none)(r:RepK K M H ds vs):RepK K M' H ds vs:=by
 induction ds generalizing vs with
 | nil=>cases r;exact .nil
 | cons d ds c=>cases r with|cons a b=>exact .cons (a.shrink s) (c b)
theorem RepT.shrink {ds:List (List Int×D)}{xs:List (List Int×Addr×Value)}(s:∀a,M a=none->M' a=none)(r:RepT K M H ds xs):RepT K M' H ds xs:=by
 induction r with
 | nil=>exact .nil
 | cons a b c _ d=>exact .cons (a.shrink s) (b.shrink s) c d
theorem RepN.shrink {ds:List (C7×D)}{xs:List (C7×Addr×Value)}(s:∀a,M a=none->M' a=none)(r:RepN K M H ds xs):RepN K M' H ds xs:=by
 induction r with
 | nil=>exact .nil
 | cons a b c _ d=>exact .cons (a.shrink s) (b.shrink s) c d
def Sub (M' M:Mem):Prop:=∀a o,M' a=some o->M a=some o
theorem Sub.refl:Sub M M:=fun _ _ h=>h
theorem Sub.none {a:Addr}(s:Sub M' M)(h:M a=Option.none):M' a=Option.none:=by
 cases e:M' a with
 | none=>rfl
 | some o=>rw[s a o e] at h;cases h
theorem MRel.sub (s:Sub M' M)(m:MRel K M H):MRel K M' H:=fun a o e=>by
 obtain⟨b,c,r⟩:=m a o (s a o e)
 refine⟨b,c,?_⟩
 cases o<;>cases b<;>first|exact r.elim|exact Reps.shrink (fun _ z=>s.none z) r|exact RepK.shrink (fun _ z=>s.none z) r|(obtain⟨d,e,r⟩:=r;exact⟨d,e,r.shrink fun _ z=>s.none z⟩)
theorem Vs.sub (s:Sub M' M)(d:D):Vs M d M' d:=fun K H v m r=>⟨m.sub s,r.shrink fun _ z=>s.none z,fun a h z=>h (s.none z)⟩
theorem Vs.refl (d:D):Vs M d M d:=Vs.sub .refl d
theorem mdel_sub {a:Addr}:Sub (J4 M a) M:=fun b o h=>by
 unfold J4 at h
 split at h
 ·cases h
 ·exact h
theorem YR {a:Addr}:J4 M a a=none:=by unfold J4;rw[if_pos rfl]
theorem QQ {a:Addr}{o:MO}(h:M a=none):J4 (D9 M a o) a=M:=by
 funext b
 unfold J4 D9
 by_cases e:b=a
 ·rw[if_pos e,e,h]
 ·rw[if_neg e,if_neg e]
theorem Vs.frzL {a:Addr}{ds:List D}(h:M a=some (.lst ds)):Vs M (.ref a) (J4 M a) (.lst ds):=fun K H v m r=>by
 cases r
 obtain⟨c,d,q⟩:=m a _ h
 cases c<;>first|exact q.elim|skip
 exact⟨m.sub mdel_sub,.lst (.inl ⟨.inl d,YR⟩) (Reps.shrink (fun _ z=>mdel_sub.none z) q),fun b e z=>e (mdel_sub.none z)⟩
theorem Vs.trans {M1 M2:Mem}{d e d2:D}(a:Vs M d M1 e)(b:Vs M1 e M2 d2):Vs M d M2 d2:=fun K H v m r=>by
 obtain⟨f,g,h⟩:=a K H v m r
 obtain⟨i,j,k⟩:=b K H v f g
 exact⟨i,j,fun c z=>h c (k c z)⟩
theorem Step.less {b:Mem}{c:Hp}(s:Step b c M H)(h:∀a,M' a≠none->M a≠none):Step b c M' H:=⟨s.keep,fun a z=>s.dom a (h a z)⟩
end
section
variable {X:Cx}{a b e o i value:Expr}{es:List Expr}{ta tb te td ty tv:TE3}{t:TA3}{pos p pos':Pos}{x:Str}{st:Stmt}{rest:List Stmt}{t1 t2:TS3}
theorem SP3.trans {M M1:Mem}{H1:Hp}{T:L6}{f:Flow}(s:Step M H M1 H1)(h:SP3 X pins M1 H1 T f s'):SP3 X pins M H T f s':=by
 cases f with
 | next=>obtain⟨b,a,c,e,I,st,r⟩:=h;exact⟨b,a,c,e,I,s.trans st,r⟩
 | brk=>obtain⟨b,a,c,e,I,st,r⟩:=h;exact⟨b,a,c,e,I,s.trans st,r⟩
 | cont=>obtain⟨b,a,c,e,I,st,r⟩:=h;exact⟨b,a,c,e,I,s.trans st,r⟩
 | ret u=>obtain⟨d,v,a,c,e,I,st,r⟩:=h;exact⟨d,v,a,c,e,I,s.trans st,r⟩
def B6:TS3:=fun T σ M=>T.nx σ M
def A8 (t u:TS3):TS3:=fun T σ M=>t {T with nx:=u T} σ M
theorem AJ5:PSs3 X [] B6:=fun _ _ a H b M T I hS c h=>wpAny_execs_nil ⟨b,a,M,H,I,.refl,c,hS,h⟩
theorem ZO (h1:PS3 X st t1)(h2:PSs3 X rest t2):PSs3 X (st::rest) (A8 t1 t2):=by
 intro a s c H e M T I hS g h
 refine wpAny_execs_cons (thn (h1 a s c H e M {T with nx:=t2 T} I hS g h) fun f i q=>?_)
 cases f with
 | next =>
  obtain⟨d,b,j,k,l,st,m,n,q⟩:=q
  exact thn (h2 a i b k d j T l n m q) fun _ _ z=>z.trans st
 | ret v=>exact q
 | brk=>exact q
 | cont=>exact q
theorem AJ6 (h1:PS3 X st t1):PSs3 X [st] t1:=by
 intro a s b H c M T I hS d h
 refine wpAny_execs_cons (thn (h1 a s b H c M T I hS d h) fun f e q=>?_)
 cases f with
 | next=>exact wpAny_execs_nil q
 | ret v=>exact q
 | brk=>exact q
 | cont=>exact q
theorem AI8:PS3 X (.Pass pos) B6:=fun _ _ a H b M T I hS c h=>wpAny_Pass ⟨b,a,M,H,I,.refl,c,hS,h⟩
def F4 (te:TE3):TS3:=fun T σ M=>te σ M fun _ M1=>T.nx σ M1
theorem AI6 (g:PE3 X e te)(hs:CJ8 e none pos.line X.env=pure false:=by rfl):PS3 X (.Expr e pos) (F4 te):=by
 intro a s b H f M T I hS i h
 exact wpAny_Expr_any (thn (g a s b H f M _ I hS i h) fun v o ⟨d,p,j,k,l,c,m,q,r,n⟩=>⟨f,b,j,k,l,c,m,hS.mono c,n⟩) I.quiet hs
def B4 (te:TE3):TS3:=fun T σ M=>te σ M T.rt
theorem AU7 (f:PE3 X e te):PS3 X (.Return (some e) pos) (B4 te):=by
 intro a s b H g M T I hS i h
 exact wpAny_Return_some (thn (f a s b H g M _ I hS i h) fun v r ⟨d,j,k,l,m,c,n,o,p,q⟩=>⟨d,j,b,k,l,m,c,n,o,p,q⟩)
def AM7:TS3:=fun T _ M=>T.rt .non M
theorem AI9:PS3 X (.Return none pos) AM7:=fun _ _ a H c M T I hS b h=>wpAny_Return_none ⟨.non,.non,a,M,H,I,.refl,b,rfl,.non,h⟩
def C2 (c:TT3)(t u:TS3):TS3:=fun T σ M=>c σ M fun b M1=>if b=true then t T σ M1 else u T σ M1
theorem BI7 {c:Expr}{a b:List Stmt}{tc:TT3}(p:PT3 X c tc)(q:PSs3 X a t1)(r:PSs3 X b t2):PS3 X (.If c a b pos) (C2 tc t1 t2):=by
 intro e s g H i M T I hS t h
 refine wpAny_If (thn (p e s g H i M _ I hS t h) fun d j ⟨k,l,m,f,n,o⟩=>?_)
 cases d with
 | true=>exact thn (q e j g l i k T m (hS.mono f) n o) fun _ _ z=>z.trans f
 | false=>exact thn (r e j g l i k T m (hS.mono f) n o) fun _ _ z=>z.trans f
def C0 (i:Nat)(te:TE3):TS3:=fun T σ M=>te σ M fun d M1=>T.nx (σ.set i (some d)) M1
theorem WP {i:Nat}(c:X.N.Nodup)(hi:X.N[i]?=some x)(f:Loc X.env.scope x)(g:PE3 X e te)(hs:CJ8 e (some (.Name x pos')) pos.line X.env=pure false:=by rfl) (j:X.fn x=true\/X.env.scope.names.lookup x=some .local:=by first|exact .inl rfl|exact .inr rfl|assumption) :
  PS3 X (.Assign [.Name x pos'] e pos) (C0 i te):=PS3.of (BI9 c hi f g.dn hs j) fun a s k H b M T I hS l h =>
 ⟨b,M,_,hS,l,h,fun d v n o st m r q=>⟨b.set i (some d),n,st,m,(hS.mono st).set r i,q⟩⟩
def Wk (K:BU5)(J:It)(ds:List D)(M:Mem)(H:Hp):Prop:=∀M' H',Step M H M' H' ->
 (∀i,i<ds.length->J.go i H')/\(∀i d x H'',ds[i]?=some d->J.yld i H' x H''->H''=H'/\Rep K M' H' d x)/\∀i,ds.length<=i->J.stop i H'
abbrev TI3:=Lo->Mem->(List D->Mem->Prop)->Prop
def dnI (K:BU5)(t:TI3):TI:=fun σv H R2=>∃σ M R,SRel K M H σ σv/\MRel K M H/\t σ M R/\∀ds J M' H',Step M H M' H'->MRel K M' H'->Wk K J ds M' H'->R ds M'->R2 J H'
def PI3 (X:Cx)(tg iter:Expr)(t:TI3):Prop:=PI X tg iter (dnI X.K t)
theorem PI.weak {b w2:TI}(h:PI X tg iter b)(c:∀σ H R,w2 σ H R->b σ H R):PI X tg iter w2:=fun a s σ H R I q=>h a s σ H R I (c _ _ _ q)
def N7 (ti:TI3)(i:Nat)(tb:TS3):TS3:=fun T σ M=>ti σ M fun ds M1=>∃Pv:Nat->Lo->Mem->Prop,Pv 0 σ M1 /\
 (∀k d σ M,ds[k]?=some d->Pv k σ M->tb {T with nx:=Pv (k+1),ct:=Pv (k+1),bk:=T.nx} (σ.set i (some d)) M)/\∀σ M,Pv ds.length σ M->T.nx σ M
theorem AU6 {ti:TI3}{tb:TS3}{i:Nat}{S:Pos}(hp:PassesOwn (model X.prog X.w) X.A X.env X.xe)(hc:X.calm=true)(hi:PI3 X (.Name x S) iter ti)
  (hN:X.N.Nodup) (L:X.N[i]?=some x) (hx:Loc X.env.scope x) (hb:PSs3 X body tb)
  (hs:∀y,CF5 iter X.env y=pure y:=by intro _;rfl) (hf:X.fn x=true\/X.env.scope.names.lookup x=some .local:=by first|exact .inl rfl|exact .inr rfl|assumption) :
  PS3 X (.For (.Name x S) iter body [] pos) (N7 ti i tb):=PS3.of (AJ1 hp hc hi (NT hN L hx hf) hb.dn hs) fun U s σv H V M T I hS hM h=>by
 refine⟨V,M,_,hS,hM,h,fun o J O W l m1 wk ⟨Pv,p0,C,D⟩=>?_⟩
 refine⟨fun k m p E=>m=o.length-k/\k<=o.length/\∃b j,Step O W j E/\MRel X.K j E/\SRel X.K j E b p/\Pv k b j,⟨_,rfl,CD4 _,V,O,.refl,m1,hS.mono l,p0⟩,?_⟩
 rintro k m p E ⟨rfl,hk,b,j,f,Y,F,Z⟩
 obtain⟨go,P,G⟩:=wk j E f
 by_cases n:k<o.length
 ·refine .inr ⟨go k n,fun a r=>∃c g,Step O W g r/\MRel X.K g r/\SRel X.K g r c a/\Pv (k+1) c g,?_,?_⟩
  ·rintro a r ⟨c,g,q⟩
   exact⟨o.length-(k+1),by lia,rfl,n,c,g,q⟩
  ·intro y Q hy
   obtain⟨rfl,ry⟩:=P k o[k] y Q (by simp[n]) hy
   refine⟨b.set i (some o[k]),j,_,F.set ry i,Y,C k o[k] b j (by simp[n]) Z,?_⟩
   exact⟨fun a R t r u v z B=>⟨a,t,f.trans u,v,z,B⟩,fun a R t r u v z B=>⟨a,t,(l.trans f).trans u,v,z,B⟩,
    fun a R t r u v z B=>⟨a,t,f.trans u,v,z,B⟩,fun d R t r u v z B=>⟨d,t,(l.trans f).trans u,v,z,B⟩⟩
 ·have e:k=o.length:=by lia
  subst e
  exact .inl ⟨G _ (BU4 _),b,j,l.trans f,Y,F,D b j Z⟩
def P1 (ta:TA3):TI3:=fun σ M R=>ta σ M fun ds M1=>match ds with
 | [.int j]=>-(2^62)<=j/\j<2^62/\R ((BW8 j.toNat).map fun k=>D.int (k:Nat)) M1
 | _=>False
theorem TR (g:Gl X "range")(l:X.mg "range"=none)(o:PA3 X [a] t)(hs:BX4 [a] X.env=[(false,eval a X.env)]:=by rfl):PI3 X tg (.Call (.Name "range" p) [a] [] pos) (P1 t) :=
 PI.weak (ZH g l o.dn hs) fun s H R2 c=>by
  obtain⟨u,M,R,hS,v,h,k⟩:=c
  refine⟨u,M,_,hS,v,h,fun I J w y st m r q=>?_⟩
  have A:=r
  rcases A with _|⟨pd,B⟩;(exact(q:False).elim);rcases B with _|⟨K,C⟩;rotate_left;(first|exact(q:False).elim|(cases pd<;>exact(q:False).elim))
  cases pd with
  | @int j =>
   obtain⟨D,E,q⟩:=q
   refine⟨j,rfl,D,E,k _ _ w y st m (fun L N O=>⟨fun i f=>?_,fun i d x P b F=>?_,fun i f=>?_⟩) q⟩
   ·show i<j.toNat
    simpa using f
   ·obtain⟨rfl,rfl⟩:=F
    refine⟨rfl,?_⟩
    rw[BV6] at b
    cases e:(BW8 j.toNat)[i]? with
    | none=>rw[e] at b;cases b
    | some n =>
     rw[e] at b
     have G:n=i:=by
      rw[CA2] at e
      ·exact(Option.some.inj e).symm
      ·have:=(List.getElem?_eq_some_iff.mp e).1;simpa using this
     subst G
     cases b
     have z:(0:Int)+(n:Int)=(n:Int):=by lia
     rw[z];exact .int
   ·show j.toNat<=i
    simpa using f
  | _=>exact(q:False).elim
theorem AH8 {b:TE3}(t:PE3 X a b)(f:b=te):PI3 X tg a (fun σ M R=>te σ M fun d M1=>match d with|.lst ds=>R ds M1|_=>False):=by
 subst f
 refine PI.weak (AU0 t.dn) fun u H R2 g=>?_
 obtain⟨σ,M,R,hS,w,h,k⟩:=g
 refine⟨σ,M,_,hS,w,h,fun d v y z st m r q=>?_⟩
 cases r<;>first|exact q.elim|skip
 rename_i A ds c p B
 refine⟨A,rfl,⟨c,SqL.of3 p⟩,k ds _ y z st m (fun E F s=>?_) q⟩
 have j:=SqL.of3 (p.imp (Fix.mono s) id)
 have l:=B.mono s
 refine⟨fun i n=>?_,fun i d x G C o=>?_,fun i n=>?_⟩
 ·obtain⟨v,e,_⟩:=l.get (i:=i) (d:=ds[i]) (by simp[n])
  exact⟨c,v,j,e⟩
 ·obtain⟨rfl,o⟩:=o
  obtain⟨v,e,D⟩:=l.get C
  rw[o c j] at e
  cases e
  exact⟨rfl,D⟩
 ·exact⟨c,j,by rw[<-l.length];exact n⟩
theorem AT9 (p:PE3 X a te):PI3 X tg a (fun σ M R=>te σ M fun d M1=>match d with|.tup ds=>R ds M1|_=>False):=by
 refine PI.weak (BI1 p.dn) fun s H R2 e=>?_
 obtain⟨σ,M,R,hS,t,h,k⟩:=e
 refine⟨σ,M,_,hS,t,h,fun d v u w st m r q=>?_⟩
 cases r<;>first|exact q.elim|skip
 rename_i y ds b n z
 refine⟨y,rfl,⟨b,SqT.of3 n⟩,k ds _ u w st m (fun C D o=>?_) q⟩
 have f:=SqT.of3 (n.imp (Fix.mono o) id)
 have g:=z.mono o
 refine⟨fun i j=>?_,fun i d x E A l=>?_,fun i j=>?_⟩
 ·obtain⟨v,c,_⟩:=g.get (i:=i) (d:=ds[i]) (by simp[j])
  exact⟨b,v,f,c⟩
 ·obtain⟨rfl,l⟩:=l
  obtain⟨v,c,B⟩:=g.get A
  rw[l b f] at c
  cases c
  exact⟨rfl,B⟩
 ·exact⟨b,f,by rw[<-g.length];exact j⟩
def Its (z:Str):It:=⟨fun i _=>i<z.cps.size,fun i H x H'=>H'=H/\∃c,z.cps[i]?=some c/\x=.str ⟨#[c]⟩,fun i _=>z.cps.size<=i⟩
theorem AM9 (z:Str)(tk:Tok)(it:Addr)(wide:Bool):Turn P w K tg (Its z) [it] it (fun i h=>h.IsStrIter it (if wide then "str_iterator" else "str_ascii_iterator") z tk i) where
 mem:=by simp
 obj:=fun i h st b l=>by
  have e:b=it:=by simpa using l
  subst e
  obtain⟨o,e,c,d⟩:=st
  exact⟨o,e,fun v z=>by rw[d] at z;cases z⟩
 keep:=fun i h f st k=>let ⟨o,ho,r⟩:=st;⟨o,k it (by simp) o ho,r⟩
 item:=by
  intro X M N O D i j s F H E I p st G
  subst M N O
  obtain⟨q,t,S,y,B,C⟩:=p it (by simp)
  have g:i<z.cps.size:=G
  have m:∀(f:Heap),f.IsStrIter it (if wide then "str_iterator" else "str_ascii_iterator") z tk (i+1)->CD0 it s.heap f->∃u,some (Value.str ⟨#[z.cps[i]]⟩ s.toks)=some u /\
    wpAny (model X.prog X.w) X.A (CG6 tg (.ref it) u) (fun _ R=>∃x J,Inv X j F J R/\RelV x u/\(Its z).yld i H x J/\R.heap.IsStrIter it (if wide then "str_iterator" else "str_ascii_iterator") z tk (i+1)/\∀b∈[it],J b=none) E {s with heap:=f,toks:=s.toks+1}:=by
   intro f n T
   have U:Inv X j F H {s with heap:=f,toks:=s.toks+1}:=I.turned (t':=s.toks+1) (fun b o l e=>(T.2 b l).trans e) q t y B C
   obtain⟨o,e,c,d⟩:=id n
   refine⟨_,rfl,QH (s:={s with heap:=f,toks:=s.toks+1}) e c d (by cases wide<;>decide) ⟨.str ⟨#[z.cps[i]]⟩,H,U,⟨_,rfl⟩,⟨rfl,_,by simp[g],rfl⟩,n,fun b l=>(p b l).1⟩⟩
  cases wide with
  | false=>exact wpAny_pyNext_ascii_item st (c:=z.cps[i]) (by simp[g]) fun f a b=>m f a b
  | true=>exact wpAny_pyNext_wide_item st (c:=z.cps[i]) (by simp[g]) fun f a b=>m f a b
 done:=by
  intro X M N O D i j s F H E I p st G
  obtain⟨q,t,S,y,B,C⟩:=p it (by simp)
  have g:z.cps.size<=i:=G
  cases wide with
  | false=>exact wpAny_pyNext_ascii_end (I.ok.hd D) st (by simp[g]) fun f L=>⟨rfl,I.turned (t':=s.toks) (fun b o l e=>L b o l e) q t y B C⟩
  | true=>exact wpAny_pyNext_wide_end (I.ok.hd D) st (by simp[g]) fun f L=>⟨rfl,I.turned (t':=s.toks) (fun b o l e=>L b o l e) q t y B C⟩
 self:=fun A i s Q E st h=>by
  cases wide with
  | false=>exact wpAny_pyIter_striter_ascii st h
  | true=>exact wpAny_pyIter_striter_wide st h
theorem BI0 {tl:TE}(j:PE X l tl):PI X tg l (fun σ H R=>tl σ H fun x H1=>∃z,x=.str z/\R (Its z) H1):=by
 intro a s σ H R I h
 refine thn (j a s σ H _ I h) fun v c f=>?_
 obtain⟨x,H1,g,k,m⟩:=f
 obtain⟨z,e,q⟩:=m
 subst e
 obtain⟨i,rfl⟩:=k
 have d:∀wide:Bool,PIE X a σ tg R (.ref c.heap.objs.size) {c with heap:=c.heap.push {cls:=.type (if wide then "str_iterator" else "str_ascii_iterator"),data:=.fields #[.str z i,.int 0 0]}}:=fun wide=>by
  refine⟨c.heap.objs.size,[c.heap.objs.size],_,_,H1,rfl,g.kept (t':=c.toks) fun b o e=>BU6 _ e,AM9 z i _ wide,⟨_,BW4 _ rfl,rfl,rfl⟩,fun b n=>?_,q⟩
  have e:b=c.heap.objs.size:=by simpa using n
  subst e
  exact g.fpOk (BU4 _) (g.hok.fresh (BU4 _))
 cases ha:z.cps.all (·<128)
 ·exact wpAny_pyIter_wide ha (d true)
 ·exact wpAny_pyIter_ascii ha (d false)
theorem AT8 (g:PE3 X a te):PI3 X tg a (fun σ M R=>te σ M fun d M1=>match d with|.str z=>R (z.cps.toList.map fun c=>D.str ⟨#[c]⟩) M1|_=>False):=by
 refine PI.weak (BI0 g.dn) fun j H R2 b=>?_
 obtain⟨σ,M,R,hS,l,h,k⟩:=b
 refine⟨σ,M,_,hS,l,h,fun d v n o st m r q=>?_⟩
 cases r<;>first|exact q.elim|skip
 rename_i z
 refine⟨z,rfl,k _ _ n o st m (fun t u w=>⟨fun i e=>?_,fun i d x y f p=>?_,fun i e=>?_⟩) q⟩
 ·show i<z.cps.size
  simpa using e
 ·obtain⟨rfl,c,s,rfl⟩:=p
  rw[BV6] at f
  have:z.cps.toList[i]?=some c:=by simpa using s
  rw[this] at f
  cases f
  exact⟨rfl,.str⟩
 ·show z.cps.size<=i
  simpa using e
end
abbrev Sp3:=List D->Mem->DK->Prop
def GP (K:BU5)(sp:Sp3):Sp:=fun vs H Q _=>∃ds M Q3,Reps K M H ds vs/\MRel K M H/\sp ds M Q3/\∀d v M' H',Step M H M' H'->MRel K M' H'->Rep K M' H' d v->Q3 d M'->Q v H'
def View (Q:DK):DK:=fun d M=>∃d' M',Vs M d M' d'/\Q d' M'
theorem View.of {Q:DK}{d:D}{M:Mem}(q:Q d M):View Q d M:=⟨d,M,.refl d,q⟩
theorem View.sub {Q:DK}{d:D}{M M':Mem}(s:Sub M' M)(q:Q d M'):View Q d M:=⟨d,M',.sub s d,q⟩
def B8 (N:List Str)(ds:List D):Lo:=ds.map some++BX2 (N.length-ds.length) none
theorem ZW {M:Mem}{ds:List D}(r:Reps K M H ds vs):SRel K M H (B8 N ds) (L2.start N vs):=by
 refine⟨by simp[B8,L2.start,r.length],fun i d h=>?_⟩
 unfold B8 at h
 unfold L2.start
 by_cases a:i<ds.length
 ·rw[BW7 (by simpa using a),BV6] at h
  rw[BW7 (by simpa[<-r.length] using a),BV6]
  cases e:ds[i]? with
  | none=>rw[e] at h;cases h
  | some f =>
   rw[e] at h;cases h
   obtain⟨v,b,c⟩:=r.get e
   exact⟨v,by rw[b];rfl,c⟩
 ·rw[BY0 (by simpa using a),CD2] at h
  split at h<;>cases h
section
variable {P:BY7}{w:World}{K:BU5}{mg:Str->Option Value}{base:Heap}
theorem Fun.ok3 {f:Addr}{k:Nat}{sp:Sp3}(F:Fun K x qual st f fd)(S:T7 N ps (D3 st))(len:∀ds M Q,sp ds M Q->ds.length=ps.length)
  (a:∀(cdv:Value) (A:CE0) (outer:List Env) (s:BV1) (H:Hp) (E:XK),Room k (A.deeper (envOfC qual (D3 st) s.heap.objs.size f cdv)) ->
   ∃t,PSs3 (SS CX0 P w K mg base N qual (D3 st) f cdv A outer s H E).nox (G3 st) t/\∀ds M Q,sp ds M Q->t {nx:=fun _ M'=>View Q .non M',rt:=View Q} (B8 N ds) M) :
  AL P w K mg base CX0 (k+1) f fd ps (GP K sp):=by
 refine F.ok S (fun l H Q E ⟨ds,M,e,r,_,h,_⟩=>by rw[<-r.length];exact len _ _ _ h) fun cdv A outer s H l Q E n b=>?_
 obtain⟨ds,M,e,r,m,h,q⟩:=b
 obtain⟨t,o,p⟩:=a cdv A outer s H E n
 have c:∀d v M' H',Step M H M' H'->MRel K M' H'->Rep K M' H' d v->View e d M'->Q v H':=fun d v M' H' st g u b=>by
  obtain⟨y,B,i,C⟩:=b
  obtain⟨D,G,I⟩:=i K H' v g u
  exact q y v B H' (st.less I) D G C
 refine⟨_,o.dn,B8 N ds,M,_,ZW r,m,p ds M e h,?_⟩
 exact⟨fun J j M' H' st g _ z=>c .non .non M' H' st g .non z,fun _ _ _ _ _ _ _ z=>z.elim,fun _ _ _ _ _ _ _ z=>z.elim,c⟩
end
section
variable {X:Cx}{e:Expr}{es:List Expr}{t:TA3}{x:Str}{p pos:Pos}{k:Nat}{f:Addr}{fd:CI3}{ps:List Str}{sp:Sp3}
def A7 (sp:Sp3)(t:TA3):TE3:=fun σ M Q=>t σ M fun ds M1=>sp ds M1 Q
theorem AG9 (F:AL X.prog X.w X.K X.mg X.base CX0 k f fd ps (GP X.K sp))(i:Room k X.A)(j:Gl X x)(l:X.mg x=some (.ref f))(n:CB3 X.K (.ref f)=true)(o:Binds X.K fd ps [])
  (u:PA3 X (e::es) t) (a:(x==("__debug__":Str))=false:=by decide) (y:BX4 (e::es) X.env=(false,eval e X.env)::BX4 es X.env:=by rfl) (b:(CI6 pos (BX4 es X.env)).any (·.1)=false:=by rfl) :
  PE3 X (.Call (.Name x p) (e::es) [] pos) (A7 sp t) :=
 PE3.of (AT2 F i j l n o .nil AY7 u.dn a y b) fun g s z H B M Q I hS C h=>by
  refine⟨B,M,_,hS,C,h,fun D E G J c L N O=>?_⟩
  show GP X.K sp (E++[]) J _ _
  rw[CA9]
  exact⟨D,G,Q,N,L,O,fun d v P R st m r q=>⟨d,P,c.trans st,m,r,q⟩⟩
theorem YX (F:AL X.prog X.w X.K X.mg X.base CX0 k f fd ps (GP X.K sp))(c:Room k X.A)(e:Gl X x)(g:X.mg x=some (.ref f))(i:CB3 X.K (.ref f)=true)(j:Binds X.K fd ps [])
  (a:(x==("__debug__":Str))=false:=by decide):PE3 X (.Call (.Name x p) [] [] pos) (A7 sp A5) :=
 PE3.of (AH2 F c e g i j .nil AY7 a) fun b s l H t M Q I hS n h =>
  ⟨[],M,Q,.nil,n,h,fun d v o u st m r q=>⟨d,o,st,m,r,q⟩⟩
end
abbrev Q8:R3:=EC fun i j=>.int (i-j)
abbrev CM:R3:=rI3 UQ fun i j=>.int (i*j)
abbrev UA:R3:=rI3 AA0 fun i j=>.int (i / j)
abbrev E9:R3:=rI3 (fun _ j=>0<j) fun i j=>.int (i % j)
abbrev RJ:R3:=rI3 BA3 fun i j=>.int (i^j.toNat)
abbrev S6:R3:=EC fun i j=>.bl (decide (i<j))
abbrev UC:R3:=EC fun i j=>.bl (decide (i<=j))
abbrev CL:R3:=EC fun i j=>.bl (decide (j<i))
abbrev BP5:R3:=EC fun i j=>.bl (decide (j<=i))
abbrev K0:U3:=rU3 fun i=>-i
def BR6 (te:TE3)(tl th:TO3):TE3:=fun σ M Q=>te σ M fun x M1=>tl σ M1 fun l M2=>th σ M2 fun u M3=>BQ1 x l u M3 Q
def K7 (te:TE3):TI3:=fun σ M R=>te σ M fun d M1=>match d with|.lst ds=>R ds M1|_=>False
def CF (te:TE3):TI3:=fun σ M R=>te σ M fun d M1=>match d with|.tup ds=>R ds M1|_=>False
def AE5 (te:TE3):TI3:=fun σ M R=>te σ M fun d M1=>match d with|.str z=>R (z.cps.toList.map fun c=>D.str ⟨#[c]⟩) M1|_=>False
section
variable {X:Cx}{a e:Expr}{te:TE3}{pos:Pos}{lo hi:Option Expr}{tl th:TO3}{p2:Pos}{tg:Expr}
theorem BH2 (a:PE3 X e te)(b:PO3 X lo tl)(c:PO3 X hi th):PE3 X (.Subscript e (.Slice lo hi none p2) pos) (BR6 te tl th):=ZD a b c
theorem AY8 (b:PE3 X a te):PI3 X tg a (K7 te):=AH8 b rfl
theorem AZ0 (b:PE3 X a te):PI3 X tg a (CF te):=AT9 b
theorem AY9 (b:PE3 X a te):PI3 X tg a (AE5 te):=AT8 b
end
theorem BB7:BZ4 "len"=some (.builtin "len"):=by decide +kernel
theorem AA6:BZ4 "int"=some (.type "int"):=by decide +kernel
theorem MI:BZ4 "list"=some (.type "list"):=by decide +kernel
theorem PM:BZ4 "tuple"=some (.type "tuple"):=by decide +kernel
theorem AA7:BZ4 "range"=some (.type "range"):=by decide +kernel
structure XO (K:BU5)(mg:Str->Option Value)(x:Str)(st:Stmt)(ps:List Str)(f:Addr)(fd:CI3):Prop where
 fn:Fun K x x st f fd
 bd:Binds K fd ps []
 gl:mg x=some (.ref f)
theorem us0 (h:us.length=0):us=[]:=List.length_eq_zero_iff.mp h
theorem us1 (h:us.length=1):∃a,us=[a]:=by
 cases us with
 | nil=>cases h
 | cons a r=>exact⟨a,by rw[us0 (Nat.succ.inj h)]⟩
theorem us2 (h:us.length=2):∃a b,us=[a,b]:=by
 cases us with
 | nil=>cases h
 | cons a r=>obtain⟨b,e⟩:=us1 (Nat.succ.inj h);exact⟨a,b,by rw[e]⟩
theorem us3 (h:us.length=3):∃a b c,us=[a,b,c]:=by
 cases us with
 | nil=>cases h
 | cons a r=>obtain⟨b,c,e⟩:=us2 (Nat.succ.inj h);exact⟨a,b,c,by rw[e]⟩
theorem us4 (h:us.length=4):∃a b c d,us=[a,b,c,d]:=by
 cases us with
 | nil=>cases h
 | cons a r=>obtain⟨b,c,d,e⟩:=us3 (Nat.succ.inj h);exact⟨a,b,c,d,by rw[e]⟩
theorem VO {f:Addr}{kV pm ct:Value}(X:K.In h)(G:h.Ns BY2 mg)
  (a:CC3 K BY2 x=some (some (.ref f))) (l:K.lookup f=some ⟨oc,od,.func (CB8 x x (N0 st) (G3 st) (D3 st) .none kV doc pm an cdv ct),osl⟩)
  (c:CG1 K cdv x=true) (k:CB3 K (.ref f)=true)
  (b:∀(kV doc pm:Value) (an:Option Addr) (cdv ct:Value) (us:List Value),us.length=ps.length->bindArgs (CB8 x x (N0 st) (G3 st) (D3 st) .none kV doc pm an cdv ct) ⟨us,[]⟩=pure (ps.zip us)) :
  XO K mg x st ps f (CB8 x x (N0 st) (G3 st) (D3 st) .none kV doc pm an cdv ct) :=
 ⟨AE2 l c k,(AE2 l c k).binds b,PySem.W.mg_of X G a⟩
def OL:Sp3:=fun ds M Q=>∃ns:List Int,ds=[.lst (ns.map D.int)]/\ns.length<=63/\(∀a,M a=none)/\∀M',Q (.bl true) M'
theorem BS0 {l:PySem.W.OpenLaw}{q:BY7}{i:(Str->Option Value)->Heap->Prop}{c:World->Heap->Prop}{d:DefRec}{K:Params->BU5}{k:Nat}(j:l.most=some 63)(b:d.params.defaults=[])(m:Room k callerA)
  (o:∀(w:World) (h:Heap),c w h->(K w.params).In h)
  (F:∀(w:World) (mg:Str->Option Value) (fa:Addr) (h:Heap),(K w.params).In h->h.Ns BY2 mg->mg d.name=some (.ref fa) ->
   ∃fd:CI3,(∀(s:BV1) (u:Value),BindsTo s fd ⟨[u],[]⟩ [(x,u)])/\∀base:Heap,(K w.params).In base->base.Ns BY2 mg->AL l.prog w (K w.params) mg base CX0 k fa fd [x] (GP (K w.params) OL)) :
  PySem.W.WalkO q loose i c l.row.toRowW d [] (fun f vs=>PySem.call f vs) :=
 L2.AW9 (n:=63) (k:=k) (x:=x) (CX:=fun _=>CX0) (sp:=fun w=>GP (K w.params) OL) j (by decide) b m o F
  (fun w H a g p _ hS=>⟨[.lst (g.map D.int)],fun _=>none,fun d _=>d=.bl true,.cons (.lst (hS.imp (fun z=>⟨z,rfl⟩) id) .ints) .nil,(fun _ _ z=>nomatch z),⟨g,rfl,p,fun _=>rfl,fun _=>rfl⟩,
   fun d v t y _ _ r e=>by subst e;cases r;rfl⟩) fun _ _ _ _ _ z=>z
def Same3 (p:Addr)(M M':Mem):Prop:=∀q,q≠p->M' q=M q
theorem Same3.refl {p:Addr}{M:Mem}:Same3 p M M:=fun _ _=>rfl
theorem Same3.trans {p:Addr}{M M1 M2:Mem}(a:Same3 p M M1)(b:Same3 p M1 M2):Same3 p M M2:=fun q h=>(b q h).trans (a q h)
def R9 (c:Str->Addr):List (Str×CF6)->List (Str×Addr)->List (Str×Addr)
 | [],acc=>acc
 | (n,k)::r,acc=>R9 c r (if (k==.free)=true then(n,c n)::acc else acc)
theorem JF {c:Str->Addr}(h:∀p∈scope.names,p.2=.free->env.cells.lookup p.1=some (c p.1)):closureFor scope env=pure (R9 c scope.names []):=by
 unfold closureFor
 have d:∀(l:List (Str×CF6)) (a:List (Str×Addr)),(∀p∈l,p.2=.free->env.cells.lookup p.1=some (c p.1)) ->
   (forIn l a fun(x:Str×CF6) (r:List (Str×Addr))=>match x with
    | (name,kind)=>if (kind==NameKind.free)=true then do let y <-cellOf env name;pure (ForInStep.yield ((name,y)::r)) else pure (ForInStep.yield r):Sem (List (Str×Addr)))=pure (R9 c l a):=by
  intro l
  induction l with
  | nil=>intro a _;rfl
  | cons p l m =>
   intro a f
   obtain⟨n,k⟩:=p
   rw[List.forIn_cons]
   by_cases b:(k==NameKind.free)=true
   ·have g:k=.free:=by simpa using b
    have o:=f (n,k) BV7 g
    have e:cellOf env n=pure (c n):=by unfold cellOf;rw[show env.cells.lookup n=some (c n) from o]
    simp only[b,e]
    have:=m ((n,c n)::a) fun q i=>f q (BV5 _ i)
    unfold R9
    rw[if_pos b,<-this]
    rfl
   ·simp only[b]
    have:=m a fun q i=>f q (BV5 _ i)
    unfold R9
    rw[if_neg b,<-this]
    rfl
 have j:=d scope.names [] h
 first
  | exact j
  | (refine Eq.trans ?_ j;rfl)
  | (simp only[bind_pure];exact j)
theorem DQ (c:Str->Addr):∀(l:List (Str×CF6)) (a:List (Str×Addr)) (p:Str×Addr),p∈R9 c l a->p∈a\/(p.2=c p.1/\(p.1,NameKind.free)∈l)
 | [],a,p,h=>.inl h
 | (n,k)::r,a,p,h=>by
  rcases DQ c r _ p h with h|⟨e,f⟩
  ·by_cases b:(k==NameKind.free)=true
   ·rw[if_pos b] at h
    rcases BZ3.mp h with rfl|h
    ·have d:k=.free:=by simpa using b
     exact .inr ⟨rfl,by rw[d];exact BV7⟩
    ·exact .inl h
   ·rw[if_neg b] at h;exact .inl h
  ·exact .inr ⟨e,BV5 _ f⟩
theorem KC (c:Str->Addr):∀(l:List (Str×CF6)) (a:List (Str×Addr)) (n:Str),((n,NameKind.free)∈l\/(n,c n)∈a)->(n,c n)∈R9 c l a
 | [],a,n,h=>by
  rcases h with h|h
  ·exact absurd h (by simp)
  ·exact h
 | (m,k)::r,a,n,h=>by
  refine KC c r _ n ?_
  rcases h with h|h
  ·rcases BZ3.mp h with e|h
   ·cases e
    exact .inr (by exact BV7)
   ·exact .inl h
  ·by_cases b:(k==NameKind.free)=true
   ·rw[if_pos b];exact .inr (BV5 _ h)
   ·rw[if_neg b];exact .inr h
theorem JG {l:List (Str×Addr)}{c:Str->Addr}(h:∀p∈l,p.2=c p.1){n:Str}(b:(n,c n)∈l):l.lookup n=some (c n):=by
 induction l with
 | nil=>exact absurd b (by simp)
 | cons p r d =>
  obtain⟨m,a⟩:=p
  by_cases e:n=m
  ·subst e
   have:a=c n:=h (n,a) BV7
   simp[this]
  ·have f:(n==m)=false:=by simpa using e
   simp only[List.lookup_cons,f]
   refine d (fun q g=>h q (BV5 _ g)) ?_
   rcases BZ3.mp b with z|z
   ·cases z;exact absurd rfl e
   ·exact z
theorem XW (c:Str->Addr)(l:List (Str×CF6)):∀p∈R9 c l [],p.2=c p.1:=fun p a=>by
 rcases DQ c l [] p a with h|h
 ·exact absurd h (by simp)
 ·exact h.1
theorem MQ {c:Str->Addr}{l:List (Str×CF6)}{n:Str}(h:(n,NameKind.free)∈l):(R9 c l []).lookup n=some (c n) :=
 JG (XW c l) (KC c l [] n (.inl h))
theorem AG1 {c:Str->Addr}{l:List (Str×CF6)}{n:Str}{a:Addr}(h:(R9 c l []).lookup n=some a):a=c n/\(n,NameKind.free)∈l:=by
 have b:=BX8 h
 rcases DQ c l [] (n,a) b with z|z
 ·exact absurd z (by simp)
 ·exact z
theorem XX {R:Result->BV1->Prop}{elt a:Expr}{it l:Value}(I:Nat->BV1->Prop)
  (o:∀n s,I n s->wpAny (model prog w) A (pyNext it) (fun r s₁=>match r with
   | none=>R (.ok .next) s₁
   | some v=>wpAny (model prog w) A (CG6 a it v) (fun _ b=>wpAny (model prog w) A (assign a env v) (fun _ s₂ =>
     wpAny (model prog w) A (forIn ifs true fun c r=>if r=true then do let ok <-isTrue c env (eval c env);pure (ForInStep.yield ok) else pure (ForInStep.yield r)) (fun ok d =>
      if ok=true then wpAny (model prog w) A (eval elt env) (fun x f =>
       wpAny (model prog w) A (call (.builtin "list.append") [l,x]) (fun _ g=>∃m,m<n/\I m g) (fun _ _=>False) f) (fun _ _=>False) d
      else∃m,m<n/\I m d) (fun _ _=>False) s₂) (fun _ _=>False) b) (fun _ _=>False) s₁) (fun _ _=>False) s)
  (n:Nat) (h:I n s):codeAny (model prog w) A (.compLoop (.ListComp elt [⟨a,iter,ifs,0⟩] scope pos) 0 it l env) R s:=by
 refine codeAny_loop rfl I (fun n s u=>?_) n h
 refine wpAny_noted ?_
 refine BU3 (CI1 (BU3 (CA5 (o n s u) (fun r s₁ i=>?_) fun _ _ e=>e.elim)))
 cases r with
 | none=>exact BV0 i
 | some v =>
  refine BU3 (CA5 i (fun _ b k=>?_) fun _ _ e=>e.elim)
  refine BU3 (CA5 k (fun _ s₂ p=>BU3 (CA5 p (fun ok d j=>?_) fun _ _ e=>e.elim)) fun _ _ e=>e.elim)
  cases ok with
  | false=>exact BV0 ⟨rfl,j⟩
  | true =>
   exact BU3 (BU3 (CA5 j (fun x f q=>BU3 (CA5 q (fun _ g t=>BV0 (BV0 ⟨rfl,t⟩)) fun _ _ e=>e.elim)) fun _ _ e=>e.elim))
def F2 (X:Cx)(scope:Scope)(cl:List (Str×Addr))(s₀:BV1)(H₀:Hp)(ex:List Addr)(N':List Str):Cx :=
 {X with N:=N',s₀:=s₀,H₀:=H₀,env:=compEnvC scope cl s₀.heap.objs.size X.env,outer:=X.stack,stack:=X.stack,ex:=ex,fn:=fun _=>false,pn:=[],xe:=fun _ _=>False}
theorem OD (a:∀y∈scope.names,y.2≠.cell)(h:(relabel scope env).names.lookup x=some .cell\/(relabel scope env).names.lookup x=some .free):(x,NameKind.free)∈scope.names:=by
 have b:∀c,(c=.cell\/c=.free)->(relabel scope env).names.lookup x=some c->(x,NameKind.free)∈scope.names:=fun c g h=>by
  have i:=BX8 h
  obtain⟨⟨n,k⟩,d,e⟩:=List.mem_map.mp i
  by_cases f:(k==NameKind.free && env.scope.kind==.function && env.kindOf n==some .cell)=true
  ·dsimp only at e
   rw[if_pos f] at e
   cases e
   have:k=.free:=by
    simp only[BV3] at f
    simpa using f.1.1
   rw[this] at d;exact d
  ·dsimp only at e
   rw[if_neg f] at e
   cases e
   rcases g with rfl|rfl
   ·exact absurd rfl (a _ d)
   ·exact d
 rcases h with h|h
 ·exact b _ (.inl rfl) h
 ·exact b _ (.inr rfl) h
def AN9 (X:Cx)(ifs:List Expr)(t:TT3):Prop :=
 ∀(pins:List (Addr×Obj)) (s:BV1) (σv:L2.St) (H:Hp) (σ:Lo) (M:Mem) (Q:Bool->Mem->Prop),Inv X pins σv H s->SRel X.K M H σ σv->MRel X.K M H->t σ M Q ->
  wpAny (model X.prog X.w) X.A (forIn ifs true fun c r=>if r=true then do let ok <-isTrue c X.env (eval c X.env);pure (ForInStep.yield ok) else pure (ForInStep.yield r)) (TP3 X pins σv M H Q) X.xe s
def P6:TT3:=fun _ M Q=>Q true M
theorem AI0 {X:Cx}:AN9 X [] P6:=fun a s b H d M Q I hS c h=>by
 exact BV0 ⟨M,H,I,.refl,c,h⟩
theorem AI1 {X:Cx}{c:Expr}{t:TT3}(e:PT3 X c t):AN9 X [c] t:=fun a s d H f M Q I hS g h=>by
 rw[List.forIn_cons]
 refine BU3 (BU3 (thn (e a s d H f M Q I hS g h) fun b i q=>BV0 ?_))
 show wpAny _ _ (forIn [] b _) _ _ _
 exact BV0 q
abbrev TG3:=D->Lo->Mem->(Lo->Mem->Prop)->Prop
def dnG (K:BU5)(g:TG3):TG:=fun v σv H Q2=>∃d σ M Q,Rep K M H d v/\SRel K M H σ σv/\MRel K M H/\g d σ M Q/\∀σ' σv' M' H',Step M H M' H'->MRel K M' H'->SRel K M' H' σ' σv'->Q σ' M'->Q2 σv' H'
def PG3 (X:Cx)(tg:Expr)(g:TG3):Prop:=PG X tg (dnG X.K g)
theorem PG.weak {X:Cx}{g1 g2:TG}(h:PG X tg g1)(b:∀v σ H Q,g2 v σ H Q->g1 v σ H Q):PG X tg g2:=fun a s σ H v u Q I r q=>h a s σ H v u Q I r (b _ _ _ _ q)
def K1 (i:Nat):TG3:=fun d σ M Q=>Q (σ.set i (some d)) M
theorem RA {X:Cx}(a:X.N.Nodup)(hi:X.N[i]?=some x)(b:Loc X.env.scope x)(c:X.fn x=true\/X.env.scope.names.lookup x=some .local:=by first|exact .inl rfl|exact .inr rfl|assumption):PG3 X (.Name x pos) (K1 i) :=
 PG.weak (NT a hi b c) fun v e H j ⟨d,f,M,Q,r,hS,g,h,k⟩=>k (f.set i (some d)) _ M H .refl g (hS.set r i) h
def V2 {α:Type}:List (Option α)->List Nat->List α->List (Option α)
 | σ,i::is,x::xs=>V2 (σ.set i (some x)) is xs
 | σ,_,_=>σ
def YG (is:List Nat):TGs:=fun vs σ H Q=>vs.length=is.length/\Q (V2 σ is vs) H
theorem PGs.weak {X:Cx}{ts:List Expr}{g1 g2:TGs}(h:PGs X ts g1)(b:∀v σ H Q,g2 v σ H Q->g1 v σ H Q):PGs X ts g2:=fun a s σ H v u Q I r q=>h a s σ H v u Q I r (b _ _ _ _ q)
theorem AH6 {X:Cx}:PGs X [] (YG []):=PGs.weak WK fun c d H Q a=>by
 obtain⟨b,q⟩:=a
 have e:=List.length_eq_zero_iff.mp b
 subst e
 exact⟨rfl,q⟩
theorem ZE {X:Cx}(c:X.N.Nodup)(hi:X.N[i]?=some x)(d:Loc X.env.scope x)(h2:PGs X es (YG is))
  (e:X.fn x=true\/X.env.scope.names.lookup x=some .local:=by first|exact .inl rfl|exact .inr rfl|assumption)
  (hs:(BZ9 (.Name x pos::es) X.env).map (·.2)=assign (.Name x pos) X.env::(BZ9 es X.env).map (·.2):=by rfl):PGs X (.Name x pos::es) (YG (i::is)) :=
 PGs.weak (RB (NT c hi d e) h2 hs) fun f g H Q a=>by
  obtain⟨b,q⟩:=a
  cases f with
  | nil=>cases b
  | cons v r=>exact⟨v,r,rfl,by simpa using b,q⟩
theorem BK {K:BU5}{M:Mem}{H:Hp}:∀{is:List Nat} {ds:List D} {vs:List V} {σ:Lo} {σv:L2.St},Reps K M H ds vs->SRel K M H σ σv->SRel K M H (V2 σ is ds) (V2 σv is vs)
 | [],ds,vs,σ,σv,r,hS=>by cases ds<;>cases vs<;>exact hS
 | i::is,_,_,σ,σv,.nil,hS=>hS
 | i::is,_,_,σ,σv,.cons a b,hS=>BK (is:=is) b (hS.set a i)
def N1 (is:List Nat):TG3:=fun d σ M Q=>∃ds,d=.tup ds/\ds.length=is.length/\Q (V2 σ is ds) M
theorem AT7 {X:Cx}{k:Nat}(g:X.calm=true)(h:PGs X es (YG is))
  (i:(BZ9 es X.env).length=is.length:=by rfl) (a:(BZ9 es X.env).findIdx? (·.1)=none:=by rfl):PG3 X (.Tuple es k pos) (N1 is) :=
 PG.weak (AH5 g h i a) fun v j H o b=>by
  obtain⟨d,p,M,Q,r,hS,l,⟨s,e,f,q⟩,m⟩:=b
  subst e
  cases r with
  | tup n c=>exact⟨_,_,rfl,SqT.of3 n,by rw[<-c.length];exact f,by rw[<-c.length];exact f,m _ _ M H .refl l (BK c hS) q⟩
def RT (g:TG3)(te:TE3):TS3:=fun T σ M=>te σ M fun d M1=>g d σ M1 T.nx
theorem AU4 {X:Cx}{te:TE3}{g:TG3}(j:PE3 X e te)(k:PG3 X tg g)(hs:swapsWithSole [tg] e pos.line X.env=pure false:=by rfl) (l:swappedStores [tg] e X.env=pure none:=by rfl)
  (h1:(BZ9 [tg] X.env).map (·.2)=[assign tg X.env]:=by rfl):PS3 X (.Assign [tg] e pos) (RT g te):=PS3.of (AJ0 j.dn k hs l h1) fun c s n H f M T I hS o h =>
 ⟨f,M,_,hS,o,h,fun d v p y st m r q=>⟨d,f,p,_,r,hS.mono st,m,q,fun a i t z b u w x=>⟨a,t,st.trans b,u,w,x⟩⟩⟩
def N8 (ti:TI3)(g:TG3)(tb:TS3):TS3:=fun T σ M=>ti σ M fun ds M1=>∃Pv:Nat->Lo->Mem->Prop,Pv 0 σ M1 /\
 (∀k d σ M,ds[k]?=some d->Pv k σ M->g d σ M fun σ' M'=>tb {T with nx:=Pv (k+1),ct:=Pv (k+1),bk:=T.nx} σ' M')/\∀σ M,Pv ds.length σ M->T.nx σ M
theorem EN {f:Str×CF6->Str×CF6}(a:∀p,(f p).1=p.1){x:Str}:∀{l:List (Str×CF6)},(l.map f).lookup x=(l.lookup x).map fun k=>(f (x,k)).2
 | []=>rfl
 | (n,k)::r=>by
  have b:=a (n,k)
  rw[BX1]
  generalize c:f (n,k)=q at b ⊢
  obtain⟨g,h⟩:=q
  cases b
  rw[List.lookup_cons,List.lookup_cons]
  by_cases e:x=n
  ·subst e
   simp[c]
  ·have d:(x==n)=false:=by simpa using e
   rw[d]
   exact EN a
theorem Y3:(relabel scope env).names.lookup x=(scope.names.lookup x).map fun k=>if (k==NameKind.free && env.scope.kind==.function && env.kindOf x==some .cell)=true then NameKind.cell else k:=by
 have:=EN (f:=fun p=>if (p.2==NameKind.free && env.scope.kind==.function && env.kindOf p.1==some .cell)=true then(p.1,NameKind.cell) else(p.1,p.2)) (fun p=>by split<;>rfl) (x:=x) (l:=scope.names)
 refine this.trans ?_
 congr 1
 funext k
 split<;>rfl
theorem JK (h:scope.names.lookup x=some .free):(relabel scope env).names.lookup x=some .cell\/(relabel scope env).names.lookup x=some .free:=by
 rw[Y3,h,CE4]
 split
 ·exact .inl rfl
 ·exact .inr rfl
def R6 (ti:TI3)(n:Nat)(slots:List Nat)(g:TG3)(tt:TT3)(te:TE3):TE3:=fun σ M Q=>ti σ M fun ds M1=>∀p,M1 p=none->∃Pv:Nat->List D->Mem->Prop,Pv 0 [] (D9 M1 p (.lst [])) /\
 (∀k d acc M,ds[k]?=some d->Pv k acc M->g d (BX2 n none++slots.map fun j=>(σ[j]?).getD none) M fun σ' M0=>tt σ' M0 fun b M' =>
  if b=true then te σ' M' fun e M''=>M'' p=some (.lst acc)/\acc.length<BV8/\Pv (k+1) (acc++[e]) (D9 M'' p (.lst (acc++[e]))) else Pv (k+1) acc M') /\
 ∀acc M,Pv ds.length acc M->M p=some (.lst acc)/\Q (.lst acc) (J4 M p)
def OS (ti:TI3)(n:Nat)(slots:List Nat)(g:TG3)(tt:TT3)(te:TE3):TE3:=fun σ M Q=>ti σ M fun ds M1=>∀p,M1 p=none->∃Pv:Nat->List D->Mem->Prop,Pv 0 [] (D9 M1 p (.lst [])) /\
 (∀k d acc M,ds[k]?=some d->Pv k acc M->g d (BX2 n none++slots.map fun j=>(σ[j]?).getD none) M fun σ' M0=>tt σ' M0 fun b M' =>
  if b=true then te σ' M' fun e M''=>M'' p=some (.lst acc)/\acc.length<BV8/\Pv (k+1) (acc++[e]) (D9 M'' p (.lst (acc++[e]))) else Pv (k+1) acc M') /\
 ∀acc M,Pv ds.length acc M->M p=some (.lst acc)/\Q (.ref p) M
def WkE (K:BU5)(J:It)(ds:List D)(M:Mem)(H:Hp):Prop:=∀M' H',Step M H M' H'->MRel K M' H' ->
 (∀i,i<ds.length->J.go i H')/\(∀i d x H'',ds[i]?=some d->J.yld i H' x H''->Step M' H' M' H''/\MRel K M' H''/\Rep K M' H'' d x)/\J.stop ds.length H'
def BS7 (K:BU5)(t:TI3):TI:=fun σv H R2=>∃σ M R,SRel K M H σ σv/\MRel K M H/\t σ M R/\∀ds J M' H',Step M H M' H'->MRel K M' H'->WkE K J ds M' H'->R ds M'->R2 J H'
def SM (X:Cx)(tg iter:Expr)(t:TI3):Prop:=PI X tg iter (BS7 X.K t)
theorem PI3.toE {X:Cx}{t:TI3}(h:PI3 X tg iter t):SM X tg iter t:=PI.weak h fun c H R2 ⟨f,M,R,hS,g,j,k⟩=>⟨f,M,R,hS,g,j,fun l J n o st m p=>k l J n o st m fun q s a u =>
 let ⟨go,yld,stop⟩:=p q s a
 ⟨go,fun i d x b e y=>by obtain⟨rfl,r⟩:=yld i d x b e y;exact⟨.refl,u,r⟩,stop _ (BU4 _)⟩⟩
theorem KL {prog:BY7}{w:World}{A:CE0}{E:Value->BV1->Prop}{it l:Addr}:∀{n:Nat} {s:BV1} {items:Array Value} {i:Nat} {Q:List Value->BV1->Prop},s.heap.IsListIter it l i->s.heap.IsList l items->it≠l->i+n<=items.size ->
  (∀h',h'.IsListIter it l (i+n)->CD0 it s.heap h'->Q ((items.toList.drop i).take n) {s with heap:=h'})->wpAny (model prog w) A (PySem.draw (.ref it) n) Q E s
 | 0,s,items,i,Q,hi,hl,hne,hn,k=>by
  exact BV0 (by simpa using k s.heap hi ⟨rfl,fun _ _=>rfl⟩)
 | n+1,s,items,i,Q,hi,hl,hne,hn,k=>by
  have a:i<items.size:=by lia
  refine BU3 (wpAny_pyNext_list_item hi hl (x:=items[i]) (by simp[a]) fun h' d f=>?_)
  have g:h'.IsList l items:=by
   obtain⟨o,m,r⟩:=hl
   exact⟨o,(f.2 l (Ne.symm hne)).trans m,r⟩
  refine BU3 (CA4 (KL (n:=n) (s:={s with heap:=h'}) (i:=i+1) d g hne (by lia) fun p h c=>BV0 ?_))
  have e:items.toList.drop i=items[i]::items.toList.drop (i+1):=by
   rw[List.drop_eq_getElem_cons (by simpa using a)]
   simp
  have:=k p (by rw[show i+(n+1)=i+1+n by lia];exact h) ⟨c.1.trans f.1,fun b j=>(c.2 b j).trans (f.2 b j)⟩
  rw[e,List.take_succ_cons] at this
  exact this
theorem SD {E:Value->BV1->Prop}{l:Addr}{a:List (Bool×(Value->Sem Unit))}{Q:Unit->BV1->Prop}(x:A.handled=none)(r:s.heap.IsList l items)
  (g:a.length=items.size) (h:a.findIdx? (·.1)=none)
  (k:∀h',Heap.ExtBut s.heap.objs.size s.heap h'->wpAny (model prog w) A (assignInOrder (a.map (·.2)) items.toList) Q E {s with heap:=h'}):wpAny (model prog w) A (PySem.unpack (.ref l) a) Q E s:=by
 obtain⟨o,f,j,n,t⟩:=id r
 have c:=BW1 f
 unfold PySem.unpack
 rw[h]
 refine BU3 (CA4 ?_)
 refine BU3 ?_
 refine BU3 (CG4 (T:="list") ⟨o,f,j⟩ (F.slot_list_iter).1 ?_)
 refine BV0 ?_
 refine BU3 (CA4 (wpAny_pyIter_list r ?_))
 refine BU3 (CA4 (KL (i:=0) (l:=l) (items:=items) ⟨_,BW4 _ rfl,rfl,rfl⟩ ⟨o,BU6 _ f,j,n,t⟩ (Nat.ne_of_gt c) (by lia) fun h' m u=>?_))
 have e:(items.toList.drop 0).take a.length=items.toList:=by rw[List.drop_zero,List.take_of_length_le (by simp[g])]
 rw[e]
 have d:¬items.toList.length<a.length:=by simp[g]
 simp only[d]
 have p:h'.IsList l items:=⟨o,(u.2 l (BX7 c)).trans (BU6 _ f),j,n,t⟩
 refine BU3 (CA4 (wpAny_pyNext_list_end x m p (by simp[g]) fun y z=>?_))
 refine BV0 (k y fun b B v q=>z b B v ((u.2 b v).trans (BU6 _ q)))
def AY0 (is:List Nat):TG3:=fun d σ M Q=>∃ds,d=.lst ds/\ds.length=is.length/\Q (V2 σ is ds) M
theorem AT6 {X:Cx}{k:Nat}(m:X.calm=true)(h:PGs X es (YG is))
  (n:(BZ9 es X.env).length=is.length:=by rfl) (c:(BZ9 es X.env).findIdx? (·.1)=none:=by rfl):PG3 X (.Tuple es k pos) (AY0 is):=by
 rintro a s f H v u p I r ⟨d,C,M,Q,g,hS,t,⟨D,e,j,q⟩,w⟩
 subst e
 cases g with
 | lst x i =>
  cases r
  obtain⟨y,l,z,E⟩:=I.list (SqL.of3 x)
  refine BU3 (CI1 (SD (I.ok.hd m) z.isList (by rw[n,<-j,i.length,l.length];simp) c fun F A=>?_))
  have B:=I.kept (t':=s.toks) fun b o e=>A b o (BX7 (BW1 e)) e
  exact h a _ f H _ _ p B (by simpa using l) ⟨by rw[<-i.length];exact j,w _ _ M H .refl t (BK i hS) q⟩
theorem ES {α:Type}{n:Nat}:∀{is:List Nat} {σ:List (Option α)} {xs:List α},(∀i∈is,i<n)->(V2 σ is xs).drop n=σ.drop n
 | [],σ,xs,_=>by cases xs<;>rfl
 | i::is,σ,[],_=>rfl
 | i::is,σ,x::xs,h=>by
  show(V2 (σ.set i (some x)) is xs).drop n=σ.drop n
  rw[ES fun j a=>h j (BV5 _ a),List.drop_set_of_lt (h i BV7)]
theorem AP7 {n:Nat}(hi:i<n)(d:D)(M:Mem)(Q:Lo->Mem->Prop)(cs:Lo)(h:K1 i d (BX2 n none++cs) M Q):K1 i d (BX2 n none++cs) M (fun a M'=>a.drop n=cs/\Q a M'):=by
 refine⟨?_,h⟩
 rw[List.drop_set_of_lt hi,List.drop_left' (by simp)]
theorem BD4 {n:Nat}(hi:∀i∈is,i<n)(d:D)(M:Mem)(Q:Lo->Mem->Prop)(cs:Lo)(h:N1 is d (BX2 n none++cs) M Q):N1 is d (BX2 n none++cs) M (fun a M'=>a.drop n=cs/\Q a M'):=by
 obtain⟨b,e,c,q⟩:=h
 refine⟨b,e,c,?_,q⟩
 rw[ES hi,List.drop_left' (by simp)]
abbrev M3:=D->List D->Mem->DK->Prop
def MtR3 (X:Cx)(id:String)(r:M3):Prop :=
 ∀(pins:List (Addr×Obj)) (s:BV1) (σv:L2.St) (H:Hp) (M:Mem) (x:D) (xs:List D) (xv:V) (xvs:List V) (v:Value) (us:List Value) (Q:DK),Inv X pins σv H s->MRel X.K M H->RelV xv v->Vals xvs us->Rep X.K M H x xv->Reps X.K M H xs xvs->r x xs M Q ->
  wpAny (model X.prog X.w) X.A (call (.builtin id) (v::us)) (EP3 X pins σv M H Q) X.xe s
def tyD (T:String)(M:Mem):D->Prop
 | .str _=>T="str"
 | .lst _=>T="list"
 | .ref a=>(T="list"/\∃ds,M a=some (.lst ds))\/(T="dict"/\∃ds,M a=some (.dct ds))
 | _=>False
theorem BA2 {X:Cx}{T:String}{M:Mem}{d:D}(m:MRel X.K M H)(r:Rep X.K M H d v)(h:tyD T M d):tyV X.K T v H:=by
 cases r with
 | str=>exact h
 | lst c _=>exact .inl ⟨h,_,SqL.of3 c⟩
 | ref =>
  rcases h with⟨rfl,f,e⟩|⟨rfl,f,e⟩
  ·obtain⟨a,b,r⟩:=m _ _ e
   cases a<;>first|exact(r:False).elim|skip
   exact .inl ⟨rfl,_,.inl (.inl b)⟩
  ·obtain⟨a,b,r⟩:=m _ _ e
   cases a<;>first|exact(r:False).elim|skip
   exact .inr (.inr (.inl ⟨rfl,.inl ⟨_,b⟩⟩))
 | dct c _=>exact h.elim
 | _=>exact h.elim
def R5 (T:String)(r:M3)(to:TE3)(t:TA3):TE3:=fun σ M Q=>to σ M fun x M1=>tyD T M1 x/\t σ M1 fun xs M2=>r x xs M2 Q
def XF (T:String)(r:M3)(to:TE3):TE3:=fun σ M Q=>to σ M fun x M1=>tyD T M1 x/\r x [] M1 Q
section
variable {X:Cx}{o e:Expr}{es:List Expr}{to:TE3}{t:TA3}{name:Str}{apos cpos:Pos}{T id:String}{r:M3}
theorem AS0 (m:PlainAttrs T)(slot:Slot T name id)(f:typeOf (.builtin id)=pure (.type "method_descriptor"))(n:MtR3 X id r)(ho:PE3 X o to)
  (b:attributeBase o name X.env (eval o X.env)=eval o X.env:=by rfl) (c:(apos.endLine==cpos.line)=true:=by rfl):PE3 X (.Call (.Attribute o name apos) [] [] cpos) (XF T r to):=by
 intro a s e H p M Q I hS q h
 refine wpAny_Call_method0_late b c (thn (ho a s e H p M _ I hS q h) fun v t ⟨d,u,w,x,i,g,j,k,l,y,A⟩=>?_)
 obtain⟨B,C⟩:=AN0 i k (BA2 j l y)
 exact⟨T,id,m,slot,f,B,C,CJ6 rfl (PySem.evalArgs_none (thn (n a t e x w d [] u [] v [] Q i j k .nil l .nil A) fun _ _ z=>z.trans g))⟩
theorem BG6 (A:PlainAttrs T)(slot:Slot T name id)(l:typeOf (.builtin id)=pure (.type "method_descriptor"))(B:MtR3 X id r)(ho:PE3 X o to)(C:PA3 X (e::es) t)
  (c:attributeBase o name X.env (eval o X.env)=eval o X.env:=by rfl)
  (i:((CI6 cpos (BX4 (e::es) X.env)).all (fun x=>!x.1) && (backToKw cpos (keywordEach [] X.env)).all (fun x=>x.1.isSome)
   && decide ((e::es).length+([]:List Keyword).length+(if ([]:List Keyword).isEmpty then 0 else 1)<30))=true:=by rfl)
  (f:(apos.endLine==cpos.line)=true:=by rfl) (hs:BX4 (e::es) X.env=(false,eval e X.env)::BX4 es X.env:=by rfl) (b:(CI6 cpos (BX4 es X.env)).any (·.1)=false:=by rfl) :
  PE3 X (.Call (.Attribute o name apos) (e::es) [] cpos) (R5 T r to t):=by
 intro a s g H n M Q I hS D h
 refine wpAny_Call_method_late c i f rfl (thn (ho a s g H n M _ I hS D h) fun v E ⟨d,F,G,J,p,j,q,u,w,K,L⟩=>?_)
 obtain⟨N,O⟩:=AN0 p u (BA2 q w K)
 refine⟨T,id,A,slot,l,N,O,?_⟩
 have y:=C cpos a E g J n G _ p (hS.mono j) q L
 rw[hs] at y ⊢
 refine CJ6 (by show(false || (CI6 cpos (BX4 es X.env)).any (·.1))=false;rw[b]<;>rfl) (Calls.evalArgs_plain ?_)
 exact thn y fun P R ⟨S,U,V,W,Y,k,Z,m,p2,q2⟩=>thn (B a R g W V d S F U v P Q Y Z u m (w.mono k) p2 q2) fun _ _ z=>z.trans (j.trans k)
theorem MtR3.of {id:String}{r:M3}{g:V->List V->Hp->VK->Prop}(h:MtM X id g)(i:∀H M x xs b a Q,MRel X.K M H->Rep X.K M H x b->Reps X.K M H xs a->r x xs M Q->g b a H (Up X.K M H Q)):MtR3 X id r:=by
 intro c s d H M x xs b a v j Q I m k e l f q
 exact thn (h c s d H b a v j _ I k e (i H M x xs b a Q m l f q)) fun _ _ z=>P0 z
theorem RN {M:Mem}{d:D}(r:Reps K M H [d] vs):∃v,vs=[v]/\Rep K M H d v:=by
 cases r with
 | cons a b=>cases b;exact⟨_,rfl,a⟩
def E7:M3:=fun x xs M Q=>∃a ds y,x=.ref a/\xs=[y]/\M a=some (.lst ds)/\ds.length<BV8/\Q .non (D9 M a (.lst (ds++[y])))
theorem YN:MtR3 X "list.append" E7:=MtR3.of KY fun H M x t u f Q m g b c=>by
 obtain⟨a,h,y,i,j,d,k,q⟩:=c
 subst i j
 cases g
 obtain⟨v,rfl,l⟩:=RN b
 obtain⟨n,p,r⟩:=m _ _ d
 cases n<;>first|exact(r:False).elim|skip
 rename_i s
 have e:=r
 refine⟨a,s,_,rfl,rfl,p,by rw[<-e.length];exact k,.non,_,Step.put (.inr (by rw[d];simp)),m.put (.inr (by rw[d];simp)) (o:=.lst (h++[y])) (Reps.append e (.cons l .nil)),.non,q⟩
end
def GL (env:Env)(scope:Scope)(caps:List Str):Bool :=
 (scope.names.all fun y=>match y.2 with
  | .free=>(match env.kindOf y.1 with|some .cell=>true|some .free=>true|_=>false)
  | .cell=>false
  | .local=>(match scope.names.lookup y.1 with|some .local=>true|_=>false)
  | _=>true) && caps.all fun y=>match scope.names.lookup y with|some .free=>true|_=>false
def XG (i:Nat)(t:TS3):TS3:=fun T σ M=>∃a ds,σ[i]?=some (some (.ref a))/\M a=some (.lst ds)/\t T (σ.set i (some (.lst ds))) (J4 M a)
theorem AJ4 {X:Cx}{sts:List Stmt}{t:TS3}(i:Nat)(h:PSs3 X sts t):PSs3 X sts (XG i t):=by
 rintro c s σv H o M T I hS p ⟨a,u,n,w,q⟩
 obtain⟨m,r,sub⟩:=Vs.frzL w X.K H (.ref a) p .ref
 have st:Step M H (J4 M a) H:=⟨fun _ _ h _=>h,fun b h=>.inl (sub b h)⟩
 have g:SRel X.K (J4 M a) H (o.set i (some (.lst u))) σv:=by
  refine⟨by simp[hS.len],fun j d e=>?_⟩
  rw[List.getElem?_set] at e
  by_cases f:i=j
  ·subst f
   have x:=(List.getElem?_eq_some_iff.mp n).1
   rw[if_pos rfl,if_pos x] at e
   cases e
   obtain⟨v,k,l⟩:=hS.get i _ n
   cases l
   exact⟨_,k,r⟩
  ·rw[if_neg f] at e
   obtain⟨v,k,l⟩:=hS.get j d e
   exact⟨v,k,l.mono st⟩
 exact thn (h c s σv H _ _ T I g m q) fun _ _ z=>z.trans st
def XH:TS3:=fun _ _ _=>False
theorem ZM {X:Cx}:PS3 X st XH:=fun _ _ _ _ _ _ _ _ _ _ h=>h.elim
end L3
variable {M:L3.Mem}{σ:L3.Lo}{y:L3.D}{xs:List (L3.C7×CH4×CC9)}{ds:List L3.D}{sp:Nat->L3.Sp3}{te:L3.TE3}{tt:L3.TT3}
namespace L3
open PySem L2
section
variable {t u:TS3}{T:L6}{σ:Lo}{M:Mem}{Q:DK}{QB:Bool->Mem->Prop}{QA:List D->Mem->Prop}{c tA tB:TT3}{te ta tb tc:TE3}{tas:TA3}{i:Nat}{d x y:D}{r r':R3}{ru:U3}{rc:C3}{sp:Sp3}
instance rd_seq:RdC (A8 t u T σ M) (t {T with nx:=u T} σ M):=⟨fun h=>h⟩
instance rd_ifs:RdC (C2 c t u T σ M) (c σ M fun b M1=>if b=true then t T σ M1 else u T σ M1):=⟨fun h=>h⟩
instance rd_test:RdC (B1 te σ M QB) (te σ M fun x M'=>∃k,x=.bl k/\QB k M'):=⟨fun h=>h⟩
instance rd_op:RdC (A6 r ta tb σ M Q) (ta σ M fun x M1=>tb σ M1 fun y M2=>r x y M2 Q):=⟨fun h=>h⟩
instance rd_un:RdC (P9 ru ta σ M Q) (ta σ M fun x M1=>ru x M1 Q):=⟨fun h=>h⟩
theorem OC {i:Nat}(e:σ[i]?=some (some d))(h:Q d M):A4 i σ M Q:=by unfold A4;rw[e];exact h
instance rd_c:RdC (tC3 d σ M Q) (Q d M):=⟨fun h=>h⟩
instance rd_ret:RdC (B4 te T σ M) (te σ M T.rt):=⟨fun h=>h⟩
instance rd_set:RdC (C0 i te T σ M) (te σ M fun d M1=>T.nx (σ.set i (some d)) M1):=⟨fun h=>h⟩
instance rd_drop:RdC (F4 te T σ M) (te σ M fun _ M1=>T.nx σ M1):=⟨fun h=>h⟩
instance rd_next:RdC (B6 T σ M) (T.nx σ M):=⟨fun h=>h⟩
instance rd_call:RdC (A7 sp tas σ M Q) (tas σ M fun ds M1=>sp ds M1 Q):=⟨fun h=>h⟩
instance rd_cb:RdC (F0 rc tas σ M Q) (tas σ M fun ds M1=>rc ds M1 Q):=⟨fun h=>h⟩
instance rd_nil:RdC (A5 σ M QA) (QA [] M):=⟨fun h=>h⟩
instance rd_cons:RdC (A0 te tas σ M QA) (te σ M fun x M1=>tas σ M1 fun xs M2=>QA (x::xs) M2):=⟨fun h=>h⟩
instance rd_tupE:RdC (B9 tas σ M Q) (tas σ M fun xs M1=>xs.length<=BV8/\Q (.tup xs) M1):=⟨fun h=>h⟩
instance rd_lstE:RdC (F9 tas σ M Q) (tas σ M fun xs M1=>xs.length<=BV8/\Q (.lst xs) M1):=⟨fun h=>h⟩
instance rd_and:RdC (ID tA tB σ M QB) (tA σ M fun c M1=>if c=true then tB σ M1 QB else QB false M1):=⟨fun h=>h⟩
instance rd_or:RdC (CY tA tB σ M QB) (tA σ M fun c M1=>if c=true then QB true M1 else tB σ M1 QB):=⟨fun h=>h⟩
instance rd_not:RdC (AX tA σ M QB) (tA σ M fun c M1=>QB (!c) M1):=⟨fun h=>h⟩
instance rd_andV:RdC (R4 ta tb σ M Q) (ta σ M fun x M1=>∃c,x=.bl c/\if c=true then tb σ M1 Q else Q (.bl false) M1):=⟨fun h=>h⟩
instance rd_orV:RdC (LJ ta tb σ M Q) (ta σ M fun x M1=>∃c,x=.bl c/\if c=true then Q (.bl true) M1 else tb σ M1 Q):=⟨fun h=>h⟩
instance rd_notV:RdC (OV ta σ M Q) (ta σ M fun x M1=>∃c,x=.bl c/\Q (.bl (!c)) M1):=⟨fun h=>h⟩
instance rd_if3:RdC (UL c ta tb σ M Q) (c σ M fun b M1=>if b=true then ta σ M1 Q else tb σ M1 Q):=⟨fun h=>h⟩
instance rd_chain:RdC (O8 r r' ta tb tc σ M Q) (ta σ M fun x M1=>tb σ M1 fun y M2=>r x y M2 fun z M3=>∃k,z=.bl k/\if k=true then tc σ M3 fun w M4=>r' y w M4 Q else Q (.bl false) M3):=⟨fun h=>h⟩
instance rd_np {QO:Option Int->Mem->Prop}:RdC (F7 σ M QO) (QO none M):=⟨fun h=>h⟩
instance rd_part {QO:Option Int->Mem->Prop}:RdC (J8 te σ M QO) (te σ M fun x M1=>match x with|.int i=>QO (some i) M1|_=>False):=⟨fun h=>h⟩
instance rd_bl {b:Bool}{P:Bool->Prop}:RdC (∃k,D.bl b=.bl k/\P k) (P b):=⟨fun h=>⟨b,rfl,h⟩⟩
instance rd_iteT {P R:Prop}:RdC (if true=true then P else R) (P):=⟨fun h=>by exact h⟩
instance rd_iteF {P R:Prop}:RdC (if false=true then P else R) (R):=⟨fun h=>by exact h⟩
theorem U9 {c P R:Prop}[Decidable c](h1:c->P)(h2:¬c->R):if decide c=true then P else R:=by
 by_cases h:c
 ·rw[decide_eq_true h,if_pos rfl];exact h1 h
 ·rw[decide_eq_false h,if_neg BU9];exact h2 h
instance rd_I0 {g:Int->Int->D}{i j:Int}:RdC (EC g (.int i) (.int j) M Q) (Q (g i j) M):=⟨fun h=>h⟩
theorem F6 {g:Int->Int->D}{i j:Int}(a:C i j)(h:Q (g i j) M):rI3 C g (.int i) (.int j) M Q:=⟨a,h⟩
instance rd_U {g:Int->Int}{i:Int}:RdC (rU3 g (.int i) M Q) (Q (.int (g i)) M):=⟨fun h=>h⟩
instance rd_addI {i j:Int}:RdC (D0 (.int i) (.int j) M Q) (Q (.int (i+j)) M):=⟨fun h=>h⟩
theorem CO {a b:List D}(c:a.length+b.length<=BV8)(h:Q (.lst (a++b)) M):D0 (.lst a) (.lst b) M Q:=⟨c,h⟩
theorem U8 {a b:List D}(c:a.length+b.length<=BV8)(h:Q (.tup (a++b)) M):D0 (.tup a) (.tup b) M Q:=⟨c,h⟩
theorem AZ2 (a:dOk x)(b:dOk y)(h:Q (.bl (CB2 (pyD x) (pyD y))) M):D7 x y M Q:=.inl ⟨a,b,h⟩
instance rd_eqS {a b:Str}:RdC (D7 (.str a) (.str b) M Q) (Q (.bl (a==b)) M):=⟨fun h=>.inr ⟨a,b,rfl,rfl,h⟩⟩
instance rd_neS {a b:Str}:RdC (CN (.str a) (.str b) M Q) (Q (.bl (!(a==b))) M):=⟨fun h=>.inr ⟨a,b,rfl,rfl,h⟩⟩
theorem S7 {i:Int}(e:atI ds i=some d)(h:Q d M):C1 (.lst ds) (.int i) M Q:=⟨d,e,h⟩
theorem B2 {i:Int}(e:atI ds i=some d)(h:Q d M):C1 (.tup ds) (.int i) M Q:=⟨d,e,h⟩
theorem UG {z:Str}{i:Int}{c:Nat}(a:z.length<=BV8)(e:atI z.cps.toList i=some c)(h:Q (.str ⟨#[c]⟩) M):C1 (.str z) (.int i) M Q:=⟨a,c,e,h⟩
instance rd_lenL {ds:List D}:RdC (D8 [.lst ds] M Q) (Q (.int ds.length) M):=⟨fun h=>h⟩
instance rd_lenT {ds:List D}:RdC (D8 [.tup ds] M Q) (Q (.int ds.length) M):=⟨fun h=>h⟩
instance rd_intB {b:Bool}:RdC (EO [.bl b] M Q) (Q (.int (if b then 1 else 0)) M):=⟨fun h=>h⟩
instance rd_isN:RdC (UB x .non M Q) (Q (.bl (match x with|.non=>true|_=>false)) M):=⟨fun h=>⟨rfl,h⟩⟩
instance rd_isntN:RdC (HN x .non M Q) (Q (.bl (match x with|.non=>false|_=>true)) M):=⟨fun h=>⟨rfl,h⟩⟩
instance rd_for {ti:TI3}{tb:TS3}:RdC (N7 ti i tb T σ M) (ti σ M fun ds M1=>∃Pv:Nat->Lo->Mem->Prop,Pv 0 σ M1 /\
 (∀k d σ M,ds[k]?=some d->Pv k σ M->tb {T with nx:=Pv (k+1),ct:=Pv (k+1),bk:=T.nx} (σ.set i (some d)) M)/\∀σ M,Pv ds.length σ M->T.nx σ M):=⟨fun h=>h⟩
instance rd_rng {R:List D->Mem->Prop}:RdC (P1 tas σ M R) (tas σ M fun ds M1=>match ds with|[.int j]=>-(2^62)<=j/\j<2^62/\R ((BW8 j.toNat).map fun k=>D.int (k:Nat)) M1|_=>False):=⟨fun h=>h⟩
end
theorem AA {ds:List α}{n:Int}(b:0<=n)(h1:n<(ds.length:Int)):∃d,atI ds n=some d/\d∈ds:=by
 obtain⟨k,rfl⟩:∃k:Nat,n=(k:Int):=⟨n.toNat,by lia⟩
 have a:k<ds.length:=by lia
 exact⟨ds[k],B7 (by simp[a]),CC5 a⟩
theorem BH {i:Int}:dOk (.int i):=⟨rfl,rfl,by simp[pyD,PyData.depth]⟩
local macro_rules | `(tactic| walk_at "st")=>`(tactic| first|refine L3.RdC.h ?_|((with_reducible show A4 _ _ _ _);refine OC rfl ?_)|((with_reducible show _/\_);refine⟨(by first|decide|(simp only[BU8,BX3];decide)),?_⟩))
local macro_rules | `(tactic| walk_at "rd")=>`(tactic| repeat walk_at "st")
theorem NB:∀ns:List Int,X7 (ns.map D.int)=true/\PyData.canLayAll0 (AR (ns.map D.int))=true/\PyData.depthAll (AR (ns.map D.int))=0
 | []=>⟨rfl,rfl,rfl⟩
 | n::ns=>by
  obtain⟨a,b,c⟩:=NB ns
  simp[X7,plain,AR,pyD,PyData.canLayAll0,PyData.canLay0,PyData.depthAll,PyData.depth,a,b,c]
theorem RL {td ty tv:TE3}{T:L6}(h:tv σ M fun d M1=>td σ M1 fun x M2=>ty σ M2 fun y M3=>∃k a b,dK? y=some k/\x=.ref a/\M3 a=some (.dct b)/\b.length<BV8/\T.nx σ (D9 M3 a (.dct (putD b k d)))):S8 td ty tv T σ M:=h
end L3
local macro_rules | `(tactic| walk_at "st")=>`(tactic| first|refine L3.RdC.h ?_|((with_reducible show L3.A4 _ _ _ _);refine L3.OC rfl ?_)|((with_reducible show _/\_);refine⟨(by first|decide|(simp only[BU8,BX3];decide)),?_⟩))
local macro_rules | `(tactic| walk_at "rd")=>`(tactic| repeat walk_at "st")
namespace L3
open PySem L2
section
variable {t u:TS3}{T:L6}{σ:Lo}{M:Mem}{Q:DK}{QB:Bool->Mem->Prop}{QA:List D->Mem->Prop}{c tA tB:TT3}{te ta tb tc to:TE3}{tas:TA3}{i:Nat}{d x y:D}{r r':R3}{g:TG3}{ti:TI3}{tt:TT3}{slots:List Nat}{n:Nat}
instance rd_asg:RdC (RT g te T σ M) (te σ M fun d M1=>g d σ M1 T.nx):=⟨fun h=>h⟩
instance rd_gName {QG:Lo->Mem->Prop}:RdC (K1 i d σ M QG) (QG (σ.set i (some d)) M):=⟨fun h=>h⟩
theorem J0 {QG:Lo->Mem->Prop}(a:ds.length=is.length)(h:QG (V2 σ is ds) M):N1 is (.tup ds) σ M QG:=⟨ds,rfl,a,h⟩
instance rd_true:RdC (P6 σ M QB) (QB true M):=⟨fun h=>h⟩
instance rd_bm {ty:String}{rm:M3}:RdC (R5 ty rm to tas σ M Q) (to σ M fun x M1=>tyD ty M1 x/\tas σ M1 fun xs M2=>rm x xs M2 Q):=⟨fun h=>h⟩
instance rd_bm0 {ty:String}{rm:M3}:RdC (XF ty rm to σ M Q) (to σ M fun x M1=>tyD ty M1 x/\rm x [] M1 Q):=⟨fun h=>h⟩
theorem L4 {a:Addr}(b:M a=some (.lst ds))(c:ds.length<BV8)(h:Q .non (D9 M a (.lst (ds++[y])))):E7 (.ref a) [y] M Q:=⟨a,ds,y,rfl,rfl,b,c,h⟩
theorem BJ6 {a:Addr}(e:σ[i]?=some (some (.ref a)))(b:M a=some (.lst ds))(h:t T (σ.set i (some (.lst ds))) (J4 M a)):XG i t T σ M:=⟨a,ds,e,b,h⟩
def UR (g:TG3)(tt:TT3)(te:TE3)(σ0:Lo)(ds:List D)(M1:Mem)(Q:DK):Prop:=∀p,M1 p=none->∃Pv:Nat->List D->Mem->Prop,Pv 0 [] (D9 M1 p (.lst [])) /\
 (∀k d acc M,ds[k]?=some d->Pv k acc M->g d σ0 M fun σ' M0=>tt σ' M0 fun b M' =>
  if b=true then te σ' M' fun e M''=>M'' p=some (.lst acc)/\acc.length<BV8/\Pv (k+1) (acc++[e]) (D9 M'' p (.lst (acc++[e]))) else Pv (k+1) acc M') /\
 ∀acc M,Pv ds.length acc M->M p=some (.lst acc)/\Q (.lst acc) (J4 M p)
instance rd_comp:RdC (R6 ti n slots g tt te σ M Q) (ti σ M fun ds M1=>UR g tt te (BX2 n none++slots.map fun j=>(σ[j]?).getD none) ds M1 Q):=⟨fun h=>h⟩
instance rd_forG {tb:TS3}:RdC (N8 ti g tb T σ M) (ti σ M fun ds M1=>∃Pv:Nat->Lo->Mem->Prop,Pv 0 σ M1 /\
 (∀k d σ M,ds[k]?=some d->Pv k σ M->g d σ M fun σ' M'=>tb {T with nx:=Pv (k+1),ct:=Pv (k+1),bk:=T.nx} σ' M')/\∀σ M,Pv ds.length σ M->T.nx σ M):=⟨fun h=>h⟩
def AY6 (R:List D->Mem->Prop):DK:=fun d M1=>match d with|.tup ds=>R ds M1|_=>False
def AY5 (R:List D->Mem->Prop):DK:=fun d M1=>match d with|.lst ds=>R ds M1|_=>False
instance rd_iTup {R:List D->Mem->Prop}:RdC (CF te σ M R) (te σ M (AY6 R)):=⟨fun h=>h⟩
instance rd_iList {R:List D->Mem->Prop}:RdC (K7 te σ M R) (te σ M (AY5 R)):=⟨fun h=>h⟩
instance rd_onTup {R:List D->Mem->Prop}{ds:List D}:RdC (AY6 R (.tup ds) M) (R ds M):=⟨fun h=>h⟩
instance rd_onLst {R:List D->Mem->Prop}{ds:List D}:RdC (AY5 R (.lst ds) M) (R ds M):=⟨fun h=>h⟩
end
theorem C8 {b:Bool}{P R:Prop}(e:b=true)(h:P):if b=true then P else R:=by rw[if_pos e];exact h
theorem B5 {b:Bool}{P R:Prop}(e:b=false)(h:R):if b=true then P else R:=by rw[if_neg (by rw[e];exact BU9)];exact h
theorem HR {x:D}{b:Bool}{Q:DK}(a:dOk x)(c:dOk y)(e:CB2 (pyD x) (pyD y)=b)(h:Q (.bl b) M):D7 x y M Q:=.inl ⟨a,c,by rw[e];exact h⟩
theorem OA {x:D}{b:Bool}{Q:DK}(a:dOk x)(c:dOk y)(e:CB2 (pyD x) (pyD y)=b)(h:Q (.bl (!b)) M):CN x y M Q:=.inl ⟨a,c,by rw[e];exact h⟩
theorem BL7 (x y:Int):CB2 (pyD (.int x)) (pyD (.int y))=(x==y):=by simp[pyD,CB2]
instance rd_eqI {x y:Int}{M:Mem}{Q:DK}:RdC (D7 (.int x) (.int y) M Q) (Q (.bl (x==y)) M):=⟨fun h=>HR BH BH (BL7 x y) h⟩
instance rd_neI {x y:Int}{M:Mem}{Q:DK}:RdC (CN (.int x) (.int y) M Q) (Q (.bl (!(x==y))) M):=⟨fun h=>OA BH BH (BL7 x y) h⟩
theorem I0 {a b:Addr}(h:b≠a):J4 M a b=M b:=by unfold J4;rw[if_neg h]
theorem Q0 {a:Addr}:J4 M a a=none:=by unfold J4;rw[if_pos rfl]
end L3
namespace L3
open PySem PySem.Spec PyProof.Rows L2
section
variable {X:Cx}{a b e:Expr}{ta tb te:TE3}{pos:Pos}
def J9:C3:=fun ds M Q=>match ds with
 | [.lst xs]=>Q (.tup xs) M
 | [.tup xs]=>Q (.tup xs) M
 | [.ref a]=>∃xs,M a=some (.lst xs)/\Q (.tup xs) M
 | _=>False
theorem AB2:CallR3 X (.type "tuple") J9:=CallR3.of JE fun H M k b Q m c q=>by
 rcases c with _|⟨pd,d⟩;(exact(q:False).elim);rcases d with _|⟨n,e⟩;rotate_left;(first|exact(q:False).elim|(cases pd<;>exact(q:False).elim))
 cases pd with
 | lst h r=>exact⟨_,_,rfl,.inl ⟨SqL.of3 h,fun l a=>⟨_,M,Step.lay a,m.lay a,.tup (.inl ⟨.inl D4,m.free a⟩) (r.mono (Step.lay a)),q⟩⟩⟩
 | tup h r=>exact⟨_,_,rfl,.inr ⟨SqT.of3 h,_,M,.refl,m,.tup h r,q⟩⟩
 | ref =>
  obtain⟨o,f,q⟩:=q
  obtain⟨g,i,r⟩:=m _ _ f
  cases g<;>first|exact r.elim|skip
  have j:=r
  exact⟨_,_,rfl,.inl ⟨.inl (.inl i),fun l a=>⟨_,M,Step.lay a,m.lay a,.tup (.inl ⟨.inl D4,m.free a⟩) (j.mono (Step.lay a)),q⟩⟩⟩
 | _=>exact(q:False).elim
def AE7 (x:Str)(ys:List Str):Prop:=(ys.map fun y=>y.length).sum+ys.length*x.length<=16777216
theorem XE {K:BU5}{M:Mem}{H:Hp}:∀{ys:List Str} {vs:List V} {its:List Value},Reps K M H (ys.map D.str) vs->Vals vs its->StrsAre its ys
 | [],_,_,r,v=>by cases r;cases v;exact .nil
 | y::ys,_,_,.cons p1 p2,v=>by
  cases p1
  cases v with
  | cons a b =>
   obtain⟨t,rfl⟩:=a
   exact .cons y t (XE p2 b)
def subIn (z w:Str):Bool:=!(CH9 w z 0 w.length 1).isEmpty
def UH (M:Mem):D->Option (List D)
 | .lst ds=>some ds
 | .tup ds=>some ds
 | .ref a=>match M a with|some (.lst ds)=>some ds|_=>none
 | _=>none
def FG (neg:Bool):R3:=fun x y M Q=>(∃z w,x=.str z/\y=.str w/\Q (.bl (neg ^^ subIn z w)) M)\/∃z,∃ys:List Str,x=.str z/\UH M y=some (ys.map D.str)/\Q (.bl (neg ^^ ys.any (·==z))) M
theorem IC {K:BU5}{M:Mem}{H:Hp}:∀{ys:List Str} {vs:List V},Reps K M H (ys.map D.str) vs->vs=ys.map V.str
 | [],_,r=>by cases r;rfl
 | y::ys,_,.cons p1 p2=>by
  cases p1
  rw[IC p2];rfl
theorem OG {b:V}(m:MRel K M H)(r:Rep K M H y b)(e:UH M y=some ds):∃p vs,b=.ref p/\(SqL K H p vs\/SqT K H p vs)/\Reps K M H ds vs:=by
 cases r with
 | tup h r=>cases e;exact⟨_,_,rfl,.inr (SqT.of3 h),r⟩
 | lst h r=>cases e;exact⟨_,_,rfl,.inl (SqL.of3 h),r⟩
 | @ref a =>
  unfold UH at e
  dsimp only at e
  cases hm:M a with
  | none=>rw[hm] at e;cases e
  | some o =>
   rw[hm] at e
   cases o with
   | dct _=>cases e
   | dt _=>cases e
   | dn _=>cases e
   | lst f =>
    cases e
    obtain⟨c,d,r⟩:=m _ _ hm
    cases c<;>first|exact(r:False).elim|skip
    exact⟨_,_,rfl,.inl (.inl (.inl d)),r⟩
 | _=>cases e
theorem VS {z:Str}:inV (.str z) (ys.map V.str)=ys.any (·==z):=by
 unfold inV
 rw[List.any_map]
 rfl
theorem KM (ys:List Str):(ys.map V.str).all AU=true:=by
 rw[List.all_map,CD6]
 intro _ _;rfl
theorem BN9:OpR3 X (BY6 .In) (FG false):=by
 rintro a s b H M x y l n v u Q I m c d f g (⟨z,w,rfl,rfl,q⟩|⟨z,i,rfl,j,q⟩)
 ·cases f;cases g
  exact thn (YW a s b H _ _ v u _ I c d ⟨z,w,rfl,rfl,up0 m .bl (by rw[CI4] at q;exact q)⟩) fun _ _ h=>P0 h
 ·cases f
  obtain⟨p,o,rfl,k,r⟩:=OG m g j
  have e:=IC r
  subst e
  exact thn (LD a s b H _ _ v u _ I c d ⟨p,_,rfl,k,rfl,KM i,up0 m .bl (by rw[VS];rw[CI4] at q;exact q)⟩) fun _ _ h=>P0 h
theorem AG0:OpR3 X (BY6 .NotIn) (FG true):=by
 rintro a s b H M x y l n v u Q I m c d f g (⟨z,w,rfl,rfl,q⟩|⟨z,i,rfl,j,q⟩)
 ·cases f;cases g
  exact thn (NR a s b H _ _ v u _ I c d ⟨z,w,rfl,rfl,up0 m .bl (by rw[Bool.true_xor] at q;exact q)⟩) fun _ _ h=>P0 h
 ·cases f
  obtain⟨p,o,rfl,k,r⟩:=OG m g j
  have e:=IC r
  subst e
  exact thn (NQ a s b H _ _ v u _ I c d ⟨p,_,rfl,k,rfl,KM i,up0 m .bl (by rw[VS];rw[Bool.true_xor] at q;exact q)⟩) fun _ _ h=>P0 h
end
section
variable {X:Cx}{e:Expr}{te:TE3}{pos:Pos}
def BJ4:V->Option Int->Option Int->Hp->VK->Prop:=fun x lo hi H Q=>∃z,x=.str z/\z.length<=BV8/\Q (.str (Txt.slice z lo hi)) H
theorem AL7:SlR X BJ4:=by
 intro d s w H x v e f lo g y Q I j k m n h
 obtain⟨z,rfl,o,q⟩:=h
 obtain⟨t,rfl⟩:=j
 refine⟨"str",_,PyProof.Rows.slot_str_getitem.lookup,typeIs_str _ _ _,?_⟩
 obtain⟨l,rfl,p⟩:∃l:Option (Int×Tok),e=partValue l/\lo=l.map (·.1):=by
  cases m with
  | none=>exact⟨none,rfl,rfl⟩
  | int i t=>exact⟨some (i,t),rfl,rfl⟩
 obtain⟨u,rfl,r⟩:∃u:Option (Int×Tok),f=partValue u/\g=u.map (·.1):=by
  cases n with
  | none=>exact⟨none,rfl,rfl⟩
  | int i t=>exact⟨some (i,t),rfl,rfl⟩
 subst p r
 refine wpAny_getItem_str_slice (st:=none) (l:=l) (u:=u) k rfl ?_
 have a:(Txt.slice z (l.map (·.1)) (u.map (·.1))).length<=BV8:=CA0 (Txt.slice_le _ _ _) o
 unfold sliceMade slicePicked
 unfold Txt.slice at q a
 split
 ·rename_i c
  split at q
  ·exact⟨.str _,H,I,⟨_,rfl⟩,q⟩
  ·rename_i b
   exact absurd c b
 ·rename_i c
  split at a
  ·rename_i b
   exact absurd b c
  ·rename_i b
   rw[if_neg b] at q
   exact⟨a,.str _,H,I.tok _,⟨_,rfl⟩,q⟩
def WT:D->Option Int->Option Int->Mem->DK->Prop:=fun x lo hi M Q=>match x with
 | .lst ds=>Q (.lst (cutD ds lo hi)) M
 | .tup ds=>¬(HT.sIx ds.length 0 lo=0/\HT.sIx ds.length ds.length hi=ds.length)/\Q (.tup (cutD ds lo hi)) M
 | .str z=>z.length<=BV8/\Q (.str (Txt.slice z lo hi)) M
 | _=>False
def IE (te:TE3)(tl th:TO3):TE3:=fun σ M Q=>te σ M fun x M1=>tl σ M1 fun l M2=>th σ M2 fun u M3=>WT x l u M3 Q
theorem AS6 {lo hi:Option Expr}{tl th:TO3}{p2:Pos}(F:PE3 X e te)(G:PO3 X lo tl)(J:PO3 X hi th) :
  PE3 X (.Subscript e (.Slice lo hi none p2) pos) (IE te tl th):=by
 intro a s c H t M Q I hS L h
 refine Subscript_ (thn (F a s c H t M _ I hS L h) fun v N ⟨x,o,O,P,R,g,S,w,U,V⟩=>?_)
 refine wpAny_Slice (thn (G a N c P t O _ R (hS.mono g) S V) fun y W ⟨l,Y,Z,I2,i,m2,pl,q2⟩=>thn (J a W c Z t Y _ I2 (hS.mono (g.trans i)) m2 q2) fun A j ⟨u,M3,f,I3,k,m,pu,n⟩=>?_)
 refine BV0 ?_
 have I4:Inv X a c f {j with heap:=j.heap.push {cls:=.type "slice",data:=.fields #[y,A,.none]}}:=I3.kept (t':=j.toks) fun b ob q=>BU6 _ q
 have B:=U.mono (i.trans k)
 have C:(AV5 X.K o l u f (Up X.K M3 f Q)\/AV6 X.K o l u f (Up X.K M3 f Q))\/BJ4 o l u f (Up X.K M3 f Q):=by
  cases x<;>first|exact(n:False).elim|skip
  ·cases B
   exact .inr ⟨_,rfl,n.1,up0 m .str n.2⟩
  ·cases B with|tup D r =>
   obtain⟨E,q⟩:=n
   rw[r.length] at E
   exact .inl (.inr ⟨_,_,rfl,SqT.of3 D,E,fun p d=>⟨_,M3,Step.lay d,m.lay d,.tup (.inl ⟨.inl D4,m.free d⟩) ((r.cut l u).mono (Step.lay d)),q⟩⟩)
  ·cases B with|lst D r =>
   refine .inl (.inl ⟨_,_,rfl,SqL.of3 D,fun p d=>?_⟩)
   exact⟨_,M3,Step.lay d,m.lay d,.lst (.inl ⟨.inl D4,m.free d⟩) ((r.cut l u).mono (Step.lay d)),n⟩
 obtain⟨T,id,hT,ht,hg⟩:=((sl_list.or UI).or AL7) a {j with heap:=j.heap.push {cls:=.type "slice",data:=.fields #[y,A,.none]}} c f o v y A l u j.heap.objs.size _ I4 w (CG8 ..) pl pu C
 exact tail_any (ops:=[.ref j.heap.objs.size,v]) ht hT (thn hg fun _ _ z=>(P0 z).trans ((g.trans i).trans k)) (by with_unfolding_all rfl)
end
theorem YF {base:Heap}{k:Nat}{f:Addr}(g:∀n ds M Q,sp n ds M Q->ds.length=ps.length)(b:∀ds M Q,¬sp 0 ds M Q) :
  AL P w K mg base CX0 k f fd ps (GP K (sp 0)):=⟨fun d H Q E ⟨ds,M,e,r,_,h,_⟩=>absurd h (b _ _ _),fun A a s H c i d Q E j l m o ⟨ds,M,e,r,_,h,_⟩=>absurd h (b _ _ _)⟩
theorem AQ4 (x:Str):x.length=x.cps.toList.length:=by
 show x.cps.size=_
 simp
instance rd_iteNT {P R:Prop}:RdC (if (!true)=true then P else R) (R):=⟨fun h=>h⟩
instance rd_iteNF {P R:Prop}:RdC (if (!false)=true then P else R) (P):=⟨fun h=>h⟩
instance rd_slA {te:TE3}{tl th:TO3}{σ:Lo}{M:Mem}{Q:DK}:RdC (IE te tl th σ M Q) (te σ M fun x M1=>tl σ M1 fun l M2=>th σ M2 fun u M3=>WT x l u M3 Q):=⟨fun h=>h⟩
instance rd_lstM {tas:TA3}{σ:Lo}{M:Mem}{Q:DK}:RdC (J7 tas σ M Q) (tas σ M fun xs M1=>xs.length<=BV8/\∀p,M1 p=none->Q (.ref p) (D9 M1 p (.lst xs))):=⟨fun h=>h⟩
section
variable {X:Cx}{a b e:Expr}{ta tb te:TE3}{t:TA3}{pos p:Pos}
def CZ (c:TT3)(tb:TS3):TS3:=fun T σ M=>∃W:Nat->Lo->Mem->Prop,(∃m,W m σ M)/\∀m σ M,W m σ M ->
 c σ M fun b M1=>if b=true then tb {T with nx:=fun σ' M'=>∃m',m'<m/\W m' σ' M',ct:=fun σ' M'=>∃m',m'<m/\W m' σ' M',bk:=T.nx} σ M1 else T.nx σ M1
theorem ZN {c:Expr}{tc:TT3}{tb:TS3}(J:PassesOwn (model X.prog X.w) X.A X.env X.xe)(L:PT3 X c tc)(N:PSs3 X body tb):PS3 X (.While c body [] pos) (CZ tc tb) :=
 PS3.of (AJ3 J L.dn N.dn) fun D s O H P M T I hS Q y=>by
  obtain⟨W,⟨R,S⟩,t⟩:=y
  refine⟨fun m h v=>∃e l,Step M H l v/\MRel X.K l v/\SRel X.K l v e h/\W m e l,⟨R,P,M,.refl,Q,hS,S⟩,?_⟩
  rintro m h v ⟨e,l,st,U,B,w⟩
  refine⟨e,l,_,B,U,t m e l w,fun b E V f F G=>?_⟩
  cases b with
  | true =>
   refine⟨fun a i=>∃j,j<m/\∃k g,Step M H g i/\MRel X.K g i/\SRel X.K g i k a/\W j k g,fun a i ⟨j,u,z⟩=>⟨j,u,z⟩,e,E,_,B.mono f,F,G,?_⟩
   have x:=st.trans f
   exact⟨fun a C n i o p q ⟨j,u,r⟩=>⟨j,u,a,n,x.trans o,p,q,r⟩,fun a C n i o p q r=>⟨a,n,x.trans o,p,q,r⟩,
    fun a C n i o p q ⟨j,u,r⟩=>⟨j,u,a,n,x.trans o,p,q,r⟩,fun d C n i o p q r=>⟨d,n,x.trans o,p,q,r⟩⟩
  | false =>
   exact⟨e,E,st.trans f,F,B.mono f,G⟩
def GV (ta:TA3):TI3:=fun σ M R=>ta σ M fun ds M1=>∃i j:Int,ds=[.int i,.int j]/\(-(2^62)<=i/\i<2^62/\-(2^62)<=j/\j<2^62)/\R ((BW8 (j-i).toNat).map fun k=>D.int (i+(k:Nat))) M1
def HM:M3:=fun x xs M Q=>∃a b ds es,x=.ref a/\xs=[.ref b]/\M a=some (.lst ds)/\M b=some (.lst es)/\ds.length+es.length<=BV8/\Q .non (D9 M a (.lst (ds++es)))
theorem YO:MtR3 X "list.extend" HM:=MtR3.of YT fun H M x C D j Q m k d e=>by
 obtain⟨a,b,l,n,p,s,f,t,u,q⟩:=e
 subst p s
 cases k
 obtain⟨E,rfl,v⟩:=RN d
 cases v
 obtain⟨w,y,r⟩:=m _ _ f
 cases w<;>first|exact(r:False).elim|skip
 rename_i z
 obtain⟨g,A,h⟩:=m _ _ t
 cases g<;>first|exact(h:False).elim|skip
 rename_i B
 have i:=r
 have c:=h
 exact⟨a,b,z,B,rfl,rfl,y,A,by rw[<-i.length,<-c.length];exact u,.non,_,Step.put (.inr (by rw[f];simp)),m.put (.inr (by rw[f];simp)) (o:=.lst (l++n)) (Reps.append i c),.non,q⟩
theorem TU (o:Gl X "range")(s:X.mg "range"=none)(u:PA3 X [a,b] t)(hs:BX4 [a,b] X.env=[(false,eval a X.env),(false,eval b X.env)]:=by rfl) (f:BX4 [b] X.env=[(false,eval b X.env)]:=by rfl) :
  PI3 X tg (.Call (.Name "range" p) [a,b] [] pos) (GV t) :=
 PI.weak (ZI o s u.dn hs f) fun v H R2 g=>by
  obtain⟨w,M,R,hS,y,h,k⟩:=g
  refine⟨w,M,_,hS,y,h,fun O P z A st m r q=>?_⟩
  obtain⟨i,j,rfl,⟨B,C,D,E⟩,q⟩:=q
  cases r with
  | cons F G =>
   cases F
   cases G with
   | cons I J =>
    cases I
    cases J
    refine⟨i,j,rfl,⟨B,C,D,E⟩,k _ _ z A st m (fun Q S T=>⟨fun n l=>?_,fun n d x U c K=>?_,fun n l=>?_⟩) q⟩
    ·show n<(j-i).toNat
     simpa using l
    ·obtain⟨rfl,rfl⟩:=K
     refine⟨rfl,?_⟩
     rw[BV6] at c
     cases e:(BW8 (j-i).toNat)[n]? with
     | none=>rw[e] at c;cases c
     | some L =>
      rw[e] at c
      have N:L=n:=by
       rw[CA2] at e
       ·exact(Option.some.inj e).symm
       ·have:=(List.getElem?_eq_some_iff.mp e).1;simpa using this
      subst N
      cases c
      exact .int
    ·show(j-i).toNat<=n
     simpa using l
theorem AW:∀(n:Nat) (l:List Str),Vals (l.map V.str) (strsFrom n l)
 | _,[]=>.nil
 | n,x::l=>.cons ⟨n,rfl⟩ (AW (n+1) l)
theorem LI {K:BU5}{M:Mem}{H:Hp}:∀l:List Str,Reps K M H (l.map D.str) (l.map V.str)
 | []=>.nil
 | x::l=>.cons .str (LI l)
def OT (to ti te:TE3):TS3:=fun T σ M=>te σ M fun d M1=>to σ M1 fun o M2=>ti σ M2 fun i M3=>∃a ds j k,o=.ref a/\i=.int k/\M3 a=some (.lst ds)/\ixN ds.length k=some j/\T.nx σ (D9 M3 a (.lst (ds.set j d)))
end
theorem BR:BZ4 "enumerate"=some (.type "enumerate"):=by decide +kernel
end L3
namespace MK
open PySem L2 L3
def AM8:Int:=1000000000000000000000000000000
def bnd (n:Int):Prop:=-AM8<n/\n<AM8
def ltr (x:Str):Prop:=∀c∈x.cps.toList,97<=c/\c<=122
def nm (x:Str):Prop:=ltr x/\1<=x.length/\x.length<=8
mutual
inductive Ex where
 | none|num (n:Int)|var (x:Str)|op (s:Str) (a b:Ex)|make (r:Str) (as:Exs)
inductive Exs where
 | nil|cons (a:Ex) (r:Exs)
end
mutual
def eD:Ex->D
 | .none=>.tup [.str "none"]
 | .num n=>.tup [.str "number",.int n]
 | .var x=>.tup [.str "var",.str x]
 | .op s a b=>.tup [.str "op",.str s,eD a,eD b]
 | .make r as=>.tup [.str "make",.str r,.tup (eDs as)]
def eDs:Exs->List D
 | .nil=>[]
 | .cons a r=>eD a::eDs r
end
mutual
def nd:Ex->Nat
 | .none=>1
 | .num _=>1
 | .var _=>1
 | .op _ a b=>1+nd a+nd b
 | .make _ as=>1+nds as
def nds:Exs->Nat
 | .nil=>0
 | .cons a r=>nd a+nds r
end
mutual
def dp:Ex->Nat
 | .none=>1
 | .num _=>1
 | .var _=>1
 | .op _ a b=>1+max (dp a) (dp b)
 | .make _ as=>1+dps as
def dps:Exs->Nat
 | .nil=>0
 | .cons a r=>max (dp a) (dps r)
end
def exl:Exs->Nat
 | .nil=>0
 | .cons _ r=>exl r+1
def sgn (s:Str):Prop:=s="+"\/s="-"\/s="*"\/s="<"\/s="="
mutual
def wf:Ex->Prop
 | .none=>True
 | .num n=>bnd n
 | .var x=>nm x
 | .op s a b=>sgn s/\wf a/\wf b
 | .make r as=>nm r/\exl as<=3/\wfs as
def wfs:Exs->Prop
 | .nil=>True
 | .cons a r=>wf a/\wfs r
end
inductive Head where
 | leaf (h:Str) (rest:List D)|ife (e:D)|whl (e:D)|tr (cs:List (Str×Str))
mutual
inductive Deed where
 | mk (h:Head) (bs:Bls)
inductive Blk where
 | nil|cons (d:Deed) (r:Blk)
inductive Bls where
 | nil|cons (b:Blk) (r:Bls)
end
def E5:List (Str×Str)->List D->List D
 | (w,x)::cs,t::ts=>.tup [.str w,.str x,t]::E5 cs ts
 | _,_=>[]
def headD:Head->List D->D
 | .leaf h r,_=>.tup (.str h::r)
 | .ife e,ts=>.tup (.str "if"::e::ts)
 | .whl e,ts=>.tup (.str "while"::e::ts)
 | .tr cs,ts=>.tup [.str "try",ts.getD 0 (.tup []),.tup (E5 cs ts.tail),ts.getD (cs.length+1) (.tup [])]
mutual
def dD:Deed->D
 | .mk h bs=>headD h (dTs bs)
def dB:Blk->List D
 | .nil=>[]
 | .cons d r=>dD d::dB r
def dTs:Bls->List D
 | .nil=>[]
 | .cons b r=>.tup (dB b)::dTs r
end
mutual
def G2:Deed->Nat
 | .mk _ bs=>1+K9 bs
def D5:Blk->Nat
 | .nil=>0
 | .cons d r=>G2 d+D5 r
def K9:Bls->Nat
 | .nil=>0
 | .cons b r=>D5 b+K9 r
end
mutual
def dpD:Deed->Nat
 | .mk _ bs=>W6 bs
def dpB:Blk->Nat
 | .nil=>0
 | .cons d r=>max (dpD d) (dpB r)
def W6:Bls->Nat
 | .nil=>0
 | .cons b r=>max (1+dpB b) (W6 r)
end
def BU:Blk->Nat
 | .nil=>0
 | .cons _ r=>BU r+1
def bsl:Bls->Nat
 | .nil=>0
 | .cons _ r=>bsl r+1
def FE (d:D):Prop:=∃e,d=eD e/\wf e/\nd e<=9/\dp e<=4
def FX (h:Str)(r:List D):Prop :=
 ((h="let"\/h="give"\/h="on")/\∃x e,r=[.str x,e]/\nm x/\FE e) \/
 ((h="note"\/h="close"\/h="end")/\∃e,r=[e]/\FE e) \/
 (h="ask"/\∃x y g e,r=[.str x,.str y,g,e]/\nm x/\nm y/\FE g/\FE e) \/
 (h="cast"/\∃x y g w e,r=[.str x,.str y,g,.str w,e]/\nm x/\nm y/\nm w/\FE g/\FE e) \/
 (h="leave"/\r=[]) \/
 (h="fault"/\∃w e,r=[.str w,e]/\nm w/\FE e)
def hOk:Head->Nat->Prop
 | .leaf h r,n=>n=0/\FX h r
 | .ife e,n=>n=2/\FE e
 | .whl e,n=>n=1/\FE e
 | .tr cs,n=>n=cs.length+2/\cs.length<=3/\∀c∈cs,nm c.1/\nm c.2
mutual
def okD:Deed->Prop
 | .mk h bs=>hOk h (bsl bs)/\AG2 bs
def okB:Blk->Prop
 | .nil=>True
 | .cons d r=>okD d/\okB r
def AG2:Bls->Prop
 | .nil=>True
 | .cons b r=>okB b/\AG2 r
end
def CS:Sp3:=fun ds M Q=>∃h bs,ds=[dD (.mk h bs)]/\hOk h (bsl bs)/\Q (.lst (dTs bs)) M
structure Rl where
 name:Str
 pars:List Str
 blk:Blk
def rD (r:Rl):D:=.tup [.str r.name,.tup (r.pars.map D.str),.tup (dB r.blk)]
end MK
variable {d:MK.Deed}{r:MK.Rl}
namespace L3
open PySem PySem.Spec PyProof.Rows L2
section
variable {T:L6}{σ:Lo}{M:Mem}{Q:DK}{QB:Bool->Mem->Prop}{d x y:D}
instance rd_tupL {ds:List D}:RdC (J9 [.lst ds] M Q) (Q (.tup ds) M):=⟨fun h=>h⟩
theorem WX {a:Addr}(b:M a=some (.lst ds))(h:Q (.tup ds) M):J9 [.ref a] M Q:=⟨ds,b,h⟩
theorem AV9 {a:Addr}(b:M a=some (.lst ds))(h:Q (.int ds.length) M):D8 [.ref a] M Q:=⟨ds,b,h⟩
theorem RM {c:TT3}{tb:TS3}(h:∃W:Nat->Lo->Mem->Prop,(∃m,W m σ M)/\∀m σ M,W m σ M ->
 c σ M fun b M1=>if b=true then tb {T with nx:=fun a M'=>∃d,d<m/\W d a M',ct:=fun a M'=>∃d,d<m/\W d a M',bk:=T.nx} σ M1 else T.nx σ M1):CZ c tb T σ M:=h
theorem AK5 {z:Str}{y:D}{neg:Bool}(e:UH M y=some (ys.map D.str))(h:Q (.bl (neg ^^ ys.any (·==z))) M):FG neg (.str z) y M Q:=.inr ⟨z,ys,rfl,e,h⟩
theorem Q9 {a:Addr}{b:List (Key×D)}{k:Str}(c:M a=some (.dct b))(e:JR b (.inr k)=some d)(h:Q d M):E6 (.ref a) (.str k) M Q:=⟨.inr k,d,rfl,⟨b,c,e⟩,h⟩
theorem AV8 {b:List (TE3×TE3)}(h:∀p,M p=none->V3 b σ (D9 M p (.dct [])) fun ps M1=>M1 p=some (.dct [])/\∃a:List (Key×D),ps=a.map (fun kd=>(kD kd.1,kd.2))/\a.length<=15/\Q (.ref p) (D9 M1 p (.dct (HB [] a)))):FW b σ M Q:=h
theorem Y2 {tk tv:TE3}{r:List (TE3×TE3)}{QP:List (D×D)->Mem->Prop}(h:tk σ M fun x M1=>tv σ M1 fun y M2=>V3 r σ M2 fun ps M3=>QP ((x,y)::ps) M3):V3 ((tk,tv)::r) σ M QP:=h
theorem AW0 {QP:List (D×D)->Mem->Prop}(h:QP [] M):V3 [] σ M QP:=h
end
theorem View.frz {Q:DK}{a:Addr}(b:M a=some (.lst ds))(q:Q (.lst ds) (J4 M a)):View Q (.ref a) M:=⟨.lst ds,J4 M a,Vs.frzL b,q⟩
theorem AB6 {a:List D}{P:Nat->D->D->Prop}(c:a.length=ds.length)(h:∀(k:Nat) d e,ds[k]?=some d->a[k]?=some e->P k d e):∀e∈a,∃(k:Nat) (d:D),ds[k]?=some d/\P k d e:=fun e b=>by
 obtain⟨k,f,rfl⟩:=List.getElem_of_mem b
 exact⟨k,ds[k],by simp,h k ds[k] _ (by simp) (by simp)⟩
theorem BF {α:Type}{f:α->D}{P:α->Prop}:∀{l:List D},(∀e∈l,∃c,e=f c/\P c)->∃cs:List α,l=cs.map f/\∀c∈cs,P c
 | [],_=>⟨[],rfl,fun _ h=>by cases h⟩
 | e::l,h=>by
  obtain⟨c,rfl,b⟩:=h e BV7
  obtain⟨cs,rfl,a⟩:=BF fun x hx=>h x (BV5 _ hx)
  exact⟨c::cs,rfl,fun x hx=>by
   rcases BZ3.mp hx with rfl|hx
   ·exact b
   ·exact a x hx⟩
theorem AL6 {a:Addr}(h:M a=some (.lst ds)):UH M (.ref a)=some ds:=by
 unfold UH
 dsimp only
 rw[h]
theorem F3 {b:Bool}{P R:Prop}(h1:P)(h2:R):if b=true then P else R:=by cases b<;>assumption
theorem AD8:CB2 (pyD (.tup ds)) (pyD (.tup []))=ds.isEmpty:=by
 cases ds<;>simp[pyD,AR,CB2,CI9]
theorem AQ8:dOk (.tup []):=⟨rfl,rfl,by decide⟩
theorem AB8 {s:TG3}{i:Lo}{M1:Mem}{Q:DK}(l:List α)(f g:α->D)(v:l.length<BV8)
  (j:∀a∈l,∀M2 (R:D->Mem->Prop) (F:Mem->Prop),(∀x,M1 x≠none->M2 x=M1 x)->R (g a) M2->s (f a) i M2 fun m M3=>tt m M3 fun u M4=>if u=true then te m M4 R else F M4)
  (done:Q (.lst (l.map g)) M1):UR s tt te i (l.map f) M1 Q:=by
 intro p t
 refine⟨fun k h M2=>h=(l.take k).map g/\M2 p=some (.lst h)/\∀a,a≠p->M2 a=M1 a,⟨rfl,B0,fun a e=>B3 e⟩,?_,?_⟩
 ·rintro k d h M2 o ⟨rfl,c,b⟩
  have q:k<l.length:=by simpa using(List.getElem?_eq_some_iff.mp o).1
  have r:d=f l[k]:=by
   rw[BV6,BV4 q] at o
   exact(Option.some.inj o).symm
  subst r
  refine j l[k] (CC5 q) M2 _ _ (fun a e=>b a (by rintro rfl;exact e t)) ⟨c,by simp;lia,?_,B0,fun a e=>by rw[B3 e];exact b a e⟩
  rw[CD9,BV4 q,BX0]
  rfl
 ·rintro h M2 ⟨rfl,c,b⟩
  have n:(l.map f).length=l.length:=by simp
  rw[n,CF7] at c ⊢
  have:J4 M2 p=M1:=funext fun a=>by
   by_cases e:a=p
   ·subst e;rw[Q0,t]
   ·rw[I0 e];exact b a e
  rw[this]
  exact⟨c,done⟩
end L3
open L3
namespace MK
open PySem L2 L3
def abc:Str:="abcdefghijklmnopqrstuvwxyz"
theorem AA4 {n:Int}(b:0<=n)(h1:n<26):∃c,atI abc.cps.toList n=some c/\97<=c/\c<=122:=by
 have e:abc.cps.toList=(BW8 26).map (·+97):=by decide +kernel
 obtain⟨c,d,a⟩:=AA (ds:=abc.cps.toList) b (by rw[e];simpa using h1)
 refine⟨c,d,?_⟩
 rw[e] at a
 obtain⟨k,f,rfl⟩:=List.mem_map.mp a
 have:=List.mem_range.mp f
 lia
def one (c:Nat):Str:=⟨#[c]⟩
theorem KN:∀(cs:List Nat) (a:Array Nat),(List.foldl (fun b (p:Str)=>b++(("":Str)).cps++p.cps) a (cs.map one)).toList=a.toList++cs
 | [],a=>by simp
 | c::cs,a=>by
  rw[BX1,List.foldl_cons,KN cs]
  have:(("":Str)).cps=#[]:=by decide +kernel
  rw[this]
  simp[one]
theorem KO (cs:List Nat):(Txt.join "" (cs.map one)).cps.toList=cs:=by
 show(List.foldl _ (((cs.map one).headD Str.empty).cps) (BY9 1 (cs.map one))).toList=cs
 cases cs with
 | nil=>rfl
 | cons c cs =>
  rw[BX1,List.drop_one,List.tail_cons]
  refine(KN cs _).trans ?_
  simp[one]
theorem AY4 (x:Str)(h:(x.cps.toList.all fun c=>decide (97<=c/\c<=122))=true)(h1:(decide (1<=x.length) && decide (x.length<=8))=true):nm x:=by
 rw[CD6] at h
 simp only[BV3,decide_eq_true_eq] at h1
 exact⟨fun c a=>by simpa using h c a,h1⟩
theorem AY3 {l:List Str}(a:∀x∈l,nm x){n:Int}(b:0<=n)(h1:n<(l.length:Int)):∃x,atI (l.map D.str) n=some (.str x)/\nm x:=by
 obtain⟨d,c,e⟩:=AA (ds:=l.map D.str) b (by rw[BU2];exact h1)
 obtain⟨x,f,rfl⟩:=List.mem_map.mp e
 exact⟨x,c,a x f⟩
end MK
open L3
namespace MK
open PySem L2 L3
theorem BJ8 {n:Int}(b:0<=n)(h1:n<5):∃c,atI (("+-*<=":Str)).cps.toList n=some c/\sgn ⟨#[c]⟩:=by
 have e:(("+-*<=":Str)).cps.toList=[43,45,42,60,61]:=by decide +kernel
 obtain⟨c,d,a⟩:=AA (ds:=(("+-*<=":Str)).cps.toList) b (by rw[e];simpa using h1)
 refine⟨c,d,?_⟩
 rw[e] at a
 simp only[BZ3,BX6,or_false] at a
 rcases a with rfl|rfl|rfl|rfl|rfl
 ·exact .inl (by decide +kernel)
 ·exact .inr (.inl (by decide +kernel))
 ·exact .inr (.inr (.inl (by decide +kernel)))
 ·exact .inr (.inr (.inr (.inl (by decide +kernel))))
 ·exact .inr (.inr (.inr (.inr (by decide +kernel))))
end MK
open L3
namespace MK
open PySem L2 L3
theorem MS {x:Ex}(h:wf x)(h1:nd x<=9)(h2:dp x<=4):FE (eD x):=⟨x,rfl,h,h1,h2⟩
theorem three {l:List Str}{n:Int}(a:0<=n)(h1:n<(l.length:Int)):∃x,atI (l.map D.str) n=some (.str x)/\x∈l:=by
 obtain⟨d,b,c⟩:=AA (ds:=l.map D.str) a (by rw[BU2];exact h1)
 obtain⟨x,e,rfl⟩:=List.mem_map.mp c
 exact⟨x,b,e⟩
end MK
open L3
namespace MK
open PySem L2 L3
def toL:Blk->List Deed
 | .nil=>[]
 | .cons d r=>d::toL r
def C5:Bls->List Blk
 | .nil=>[]
 | .cons b r=>b::C5 r
def tB (b:Blk):D:=.tup (dB b)
theorem KE:∀b:Blk,dB b=(toL b).map dD
 | .nil=>rfl
 | .cons d r=>by show dD d::dB r=_;rw[KE r];rfl
theorem O2:∀bs:Bls,dTs bs=(C5 bs).map tB
 | .nil=>rfl
 | .cons b r=>by show D.tup (dB b)::dTs r=_;rw[O2 r];rfl
theorem K5:∀bs:Bls,(C5 bs).length=bsl bs
 | .nil=>rfl
 | .cons b r=>by show(C5 r).length+1=bsl r+1;rw[K5 r]
theorem VD (bs:Bls):(dTs bs).length=bsl bs:=by rw[O2,BU2,K5]
theorem U1 {h:Str}{r:List D}(a:FX h r):(h==("if":Str))=false/\(h==("while":Str))=false/\(h==("try":Str))=false:=by
 rcases a with⟨h1|h1|h1,_⟩|⟨h1|h1|h1,_⟩|⟨h1,_⟩|⟨h1,_⟩|⟨h1,_⟩|⟨h1,_⟩<;>subst h1<;>exact⟨by decide +kernel,by decide +kernel,by decide +kernel⟩
def XI:D->D
 | .tup [_,_,t]=>t
 | _=>.non
theorem DP:∀(cs:List (Str×Str)) (ts:List D),cs.length<=ts.length->(E5 cs ts).map XI=ts.take cs.length
 | [],ts,_=>by cases ts<;>rfl
 | (w,x)::cs,[],h=>by simp at h
 | (w,x)::cs,t::ts,h=>by
  show XI (.tup [.str w,.str x,t])::(E5 cs ts).map XI=_
  rw[DP cs ts (by simpa using h)]
  rfl
theorem UY:∀(cs:List (Str×Str)) (ts:List D),(E5 cs ts).length<=cs.length
 | [],ts=>by cases ts<;>simp[E5]
 | (w,x)::cs,[]=>by simp[E5]
 | (w,x)::cs,t::ts=>by
  show(E5 cs ts).length+1<=cs.length+1
  have:=UY cs ts
  lia
theorem UZ:∀(cs:List (Str×Str)) (ts:List D) (d:D),d∈E5 cs ts->∃w x t,d=.tup [.str w,.str x,t]
 | [],ts,d,h=>by cases ts<;>simp[E5] at h
 | (w,x)::cs,[],d,h=>by simp[E5] at h
 | (w,x)::cs,t::ts,d,h=>by
  rcases BZ3.mp h with rfl|h
  ·exact⟨w,x,t,rfl⟩
  ·exact UZ cs ts d h
theorem T1:∀d:Deed,1<=G2 d
 | .mk h bs=>by show 1<=1+K9 bs;lia
theorem XJ:∀b:Blk,(toL b).length<=D5 b
 | .nil=>BU4 _
 | .cons d r=>by
  show(toL r).length+1<=G2 d+D5 r
  have:=XJ r
  have:=T1 d
  lia
theorem P8:∀(b:Blk) (d:Deed),d∈toL b->G2 d<=D5 b/\dpD d<=dpB b/\(okB b->okD d)
 | .cons x r,d,h=>by
  rcases BZ3.mp h with rfl|h
  ·exact⟨CF8 _ _,Nat.le_max_left _ _,fun z=>z.1⟩
  ·obtain⟨a,b,c⟩:=P8 r d h
   exact⟨CA0 a (Nat.le_add_left _ _),CA0 b (Nat.le_max_right _ _),fun z=>c z.2⟩
theorem G8:∀(bs:Bls) (b:Blk),b∈C5 bs->D5 b<=K9 bs/\dpB b+1<=W6 bs/\(AG2 bs->okB b)
 | .cons x r,b,h=>by
  rcases BZ3.mp h with rfl|h
  ·exact⟨CF8 _ _,by show dpB b+1<=max (1+dpB b) (W6 r);lia,fun z=>z.1⟩
  ·obtain⟨a,c,d⟩:=G8 r b h
   exact⟨CA0 a (Nat.le_add_left _ _),by show dpB b+1<=max (1+dpB x) (W6 r);lia,fun z=>d z.2⟩
theorem AP8 {h:Head}{n:Nat}(a:hOk h n):n<=5:=by
 cases h with
 | leaf _ _=>have:=a.1;lia
 | ife _=>have:=a.1;lia
 | whl _=>have:=a.1;lia
 | tr b=>have:=a.1;have:=a.2.1;lia
end MK
open L3
namespace MK
open PySem L2 L3
def O1:Blk->Deed->Blk
 | .nil,x=>.cons x .nil
 | .cons a r,x=>.cons a (O1 r x)
theorem AC6:∀(k:Blk) (d:Deed),dB (O1 k d)=dB k++[dD d]
 | .nil,d=>rfl
 | .cons a r,d=>by show dD a::dB (O1 r d)=_;rw[AC6 r d];rfl
theorem PQ:∀(k:Blk) (d:Deed),D5 (O1 k d)=D5 k+G2 d
 | .nil,d=>by show G2 d+0=0+G2 d;lia
 | .cons a r,d=>by show G2 a+D5 (O1 r d)=G2 a+D5 r+G2 d;rw[PQ r d];lia
theorem PN:∀(k:Blk) (d:Deed),BU (O1 k d)=BU k+1
 | .nil,d=>rfl
 | .cons a r,d=>by show BU (O1 r d)+1=BU r+1+1;rw[PN r d]
theorem VI:∀(k:Blk) (d:Deed),dpB (O1 k d)=max (dpB k) (dpD d)
 | .nil,d=>by show max (dpD d) 0=max 0 (dpD d);lia
 | .cons a r,d=>by show max (dpD a) (dpB (O1 r d))=max (max (dpD a) (dpB r)) (dpD d);rw[VI r d];lia
theorem WF:∀(k:Blk) (d:Deed),okB k->okD d->okB (O1 k d)
 | .nil,d,_,h=>⟨h,trivial⟩
 | .cons a r,d,h,b=>⟨h.1,WF r d h.2 b⟩
theorem AC7:∀k:Blk,(dB k).length=BU k
 | .nil=>rfl
 | .cons a r=>by show(dB r).length+1=BU r+1;rw[AC7 r]
theorem BB2:∀(k:Blk) (d:Deed),O1 k d≠.nil
 | .nil,d,h=>by cases h
 | .cons a r,d,h=>by cases h
def G5:List Blk->Bls
 | []=>.nil
 | b::r=>.cons b (G5 r)
theorem PV:∀l:List Blk,dTs (G5 l)=l.map tB
 | []=>rfl
 | b::r=>by show D.tup (dB b)::dTs (G5 r)=_;rw[PV r];rfl
theorem PO:∀l:List Blk,bsl (G5 l)=l.length
 | []=>rfl
 | b::r=>by show bsl (G5 r)+1=r.length+1;rw[PO r]
theorem GK:∀l:List Blk,K9 (G5 l)=(l.map D5).sum
 | []=>rfl
 | b::r=>by show D5 b+K9 (G5 r)=_;rw[GK r];rfl
theorem AC:∀(l:List Blk) (m:Nat),(∀b∈l,dpB b+1<=m)->W6 (G5 l)<=m
 | [],m,_=>CD4 _
 | b::r,m,h=>by
  show max (1+dpB b) (W6 (G5 r))<=m
  have:=h b BV7
  have:=AC r m fun x a=>h x (BV5 _ a)
  lia
theorem LC:∀l:List Blk,(∀b∈l,okB b)->AG2 (G5 l)
 | [],_=>trivial
 | b::r,h=>⟨h b BV7,LC r fun x a=>h x (BV5 _ a)⟩
theorem UW:∀(cs:List (Str×Str)) (ts:List D) (w x:Str) (t:D),cs.length=ts.length->E5 (cs++[(w,x)]) (ts++[t])=E5 cs ts++[.tup [.str w,.str x,t]]
 | [],[],w,x,t,_=>rfl
 | (a,b)::cs,u::ts,w,x,t,h=>by
  show D.tup [.str a,.str b,u]::E5 (cs++[(w,x)]) (ts++[t])=_
  rw[UW cs ts w x t (by simpa using h)];rfl
theorem W4:∀(cs:List (Str×Str)) (ts us:List D),cs.length=ts.length->E5 cs (ts++us)=E5 cs ts
 | [],[],us,_=>by cases us<;>rfl
 | (a,b)::cs,u::ts,us,h=>by
  show D.tup [.str a,.str b,u]::E5 cs (ts++us)=_
  rw[W4 cs ts us (by simpa using h)];rfl
theorem W3:∀(cs:List (Str×Str)) (ts:List D),cs.length=ts.length->(E5 cs ts).length=cs.length
 | [],[],_=>rfl
 | (a,b)::cs,u::ts,h=>by
  show(E5 cs ts).length+1=cs.length+1
  rw[W3 cs ts (by simpa using h)]
end MK
open L3
namespace MK
open PySem L2 L3
theorem View.only {Q:DK}{d:D}{p:Addr}{M1:Mem}(h:∀a,a≠p->M a≠none->M1 a=M a)(q:Q d (fun a=>if a=p then M1 p else M a)):View Q d M1:=View.sub (fun a o e=>by
 by_cases b:a=p
 ·subst b;rw[if_pos rfl] at e;exact e
 ·rw[if_neg b] at e;rw[h a b (by rw[e];simp)];exact e) q
end MK
namespace L3
open PySem PySem.Spec PyProof.Rows L2
theorem JH (it t:Addr)(i:Nat)(items:Array Value)(x:Value):Meets (Builtin.«tuple_iterator.__next__» {pos:=[.ref it]}) fun A R s =>
  s.heap.IsTupleIter it t i/\s.heap.IsTuple t items/\items[i]?=some x/\∀h',h'.IsTupleIter it t (i+1)->CD0 it s.heap h'->R (.ok (.ret x)) {s with heap:=h'}:=by
 rintro f w A R s ⟨⟨⟨h,j,g,r⟩,a,l,m⟩,⟨u,c,o,n,d⟩,p,k⟩
 subst l m
 refine BU3 (BV0 ?_)
 refine BU3 (CF2 a rfl rfl ?_)
 refine BU3 (CF2 a rfl rfl ?_)
 refine BU3 (wpAny_seqItems c d ?_)
 have e:(↑i:Int).toNat=i:=by simp
 simp only[e,p]
 refine BU3 (wpAny_setField a rfl (by simp) ?_)
 refine BV0 (k _ ?_ ?_)
 ·exact⟨_,Heap.get?_update_self _ a rfl,rfl,rfl⟩
 ·exact⟨by simp[Heap.update],fun b q=>CG2 _ _ (Ne.symm q)⟩
theorem NI (it t:Addr)(i:Nat)(items:Array Value):Meets (Builtin.«tuple_iterator.__next__» {pos:=[.ref it]}) fun A R s =>
  A.handled=none/\s.heap.IsTupleIter it t i/\s.heap.IsTuple t items/\items[i]?=none/\∀h' e,Heap.ExtBut it s.heap h'->(∃o,h'.get? e=some o/\o.cls=.type "StopIteration")->R (.error (.ref e)) {s with heap:=h'}:=by
 rintro g w A R s ⟨j,⟨⟨l,m,h,x⟩,a,p,q⟩,⟨y,c,r,n,d⟩,u,k⟩
 subst p q
 refine BU3 (BV0 ?_)
 refine BU3 (CF2 a rfl rfl ?_)
 refine BU3 (CF2 a rfl rfl ?_)
 refine BU3 (wpAny_seqItems c d ?_)
 have e:(↑i:Int).toNat=i:=by simp
 simp only[e,u]
 refine BU3 (wpAny_rule ?_)
 refine BU3 (wpAny_setField a rfl (by simp) ?_)
 refine BU3 (BU3 (BY5 ?_))
 refine BU3 (BU3 (BV0 (BV0 ?_)))
 refine BY5 ?_ (by first|decide|(unfold sizeOk;simp[ownMembersOf,BW2]))
 refine wpAny_raiseNew_none j (k _ _ (fun b z v f=>?_) ⟨_,BW4 _ rfl,rfl⟩)
 exact BU6 _ (BU6 _ ((CG2 _ _ (Ne.symm v)).trans f))
theorem HD {E:Value->BV1->Prop}{x:Value}(hi:s.heap.IsTupleIter it t i)(e:s.heap.IsTuple t items)(f:items[i]?=some x)
  (k:∀h',h'.IsTupleIter it t (i+1)->CD0 it s.heap h'->Q x {s with heap:=h'}):wpAny (model prog w) A (CK0 (.ref it)) Q E s:=by
 obtain⟨o,c,d,g⟩:=id hi
 refine BU3 (CE1 ⟨o,c,d⟩ CI5 ?_)
 refine call_meets CI5 ⟨o,c,d⟩ entry_tupleiter_next (F.args_tuple_iterator_next_1 _) (JH it t i items x) ⟨hi,e,f,fun h' a b=>?_⟩
 exact BV0 (k h' a b)
theorem JI {E:Value->BV1->Prop}(f:A.handled=none)(hi:s.heap.IsTupleIter it t i)(g:s.heap.IsTuple t items)(h:items[i]?=none)
  (k:∀h' e,Heap.ExtBut it s.heap h'->(∃o,h'.get? e=some o/\o.cls=.type "StopIteration")->E (.ref e) {s with heap:=h'}):wpAny (model prog w) A (CK0 (.ref it)) Q E s:=by
 obtain⟨o,c,d,j⟩:=id hi
 refine BU3 (CE1 ⟨o,c,d⟩ CI5 ?_)
 exact call_meets CI5 ⟨o,c,d⟩ entry_tupleiter_next (F.args_tuple_iterator_next_1 _) (NI it t i items) ⟨f,hi,g,h,fun h' e a b=>k h' e a b⟩
theorem EL (n:A.handled=none)(it t:Addr)(e:t≠it)(items:Array Value):Draws prog w A it [it,t] items.size (fun i v=>items[i]?=some v) fun i h=>h.IsTupleIter it t i/\h.IsTuple t items where
 live:=fun i h ⟨⟨o,c,_⟩,_⟩=>⟨o,c⟩
 frame:=fun i h j ⟨⟨o,c,r⟩,⟨l,f,p⟩⟩ k=>⟨⟨o,k it (by simp) o c,r⟩,⟨l,k t (by simp) l f,p⟩⟩
 item:=fun i s Q E m ⟨g,d⟩ k=>HD g d (x:=items[i]) (by simp[m]) fun j a b=>k _ j s.toks (by simp[m]) ⟨a,by
  obtain⟨o,c,r⟩:=d
  exact⟨o,(b.2 t e).trans c,r⟩⟩ b
 done:=fun s Q E ⟨g,d⟩ k=>JI n g d (by simp) k
theorem SG {M:Model}{E:Value->BV1->Prop}{b:Bool}{Q:Bool->BV1->Prop}(h:∀b,Q b s):wpAny M A (pure b) Q E s:=BV0 (h b)
theorem QR (t:Addr)(items:Array Value):Meets (Builtin.«enumerate.__new__» {pos:=[.type "enumerate",.ref t]}) fun A R s =>
  s.heap.IsTuple t items/\R (.ok (.ret (.ref (s.heap.push {cls:=.type "tuple_iterator",data:=.fields #[.ref t,.int 0 0]}).objs.size)))
   {s with heap:=(s.heap.push {cls:=.type "tuple_iterator",data:=.fields #[.ref t,.int 0 0]}).push {cls:=.type "enumerate",data:=.fields #[.none,.bool false,.ref s.heap.objs.size,rawInt 0,.none,.none]}}:=by
 rintro b w A R s ⟨c,k⟩
 refine BU3 ?_
 refine BU3 (BV0 ?_)
 refine BU3 ?_
 rw[sub_enumerate]
 refine BV0 (BV0 ?_)
 refine BU3 ?_
 refine BU3 (wpAny_stack fun st _ _ _=>SG fun a=>?_)
 cases a with
 | true =>
  refine BU3 (BV0 ?_)
  refine BU3 (CJ2 c ?_)
  refine BU3 (BY5 (data:=.fields #[.none,.bool false,.ref s.heap.objs.size,rawInt 0,.none,.none]) ?_)
  exact BV0 k
 | false =>
  refine BU3 (BV0 ?_)
  refine BU3 (CJ2 c ?_)
  refine BU3 (BY5 (data:=.fields #[.none,.bool false,.ref s.heap.objs.size,rawInt 0,.none,.none]) ?_)
  exact BV0 k
theorem SR {E:Value->BV1->Prop}(a:s.heap.IsTuple t items)
  (k:Q (.ref (s.heap.objs.size+1)) {s with heap:=(s.heap.push {cls:=.type "tuple_iterator",data:=.fields #[.ref t,.int 0 0]}).push {cls:=.type "enumerate",data:=.fields #[.none,.bool false,.ref s.heap.objs.size,rawInt 0,.none,.none]}}) :
  wpAny (model prog w) A (call (.type "enumerate") [.ref t]) Q E s:=by
 refine callType_new F.called_enumerate (by decide) (F.typeCall_enumerate_1 _) (F.newCall_enumerate_1 _) (fun b=>F.args_object_init_2 _ _) F.entry_enumerate_new (QR t items) ⟨a,?_⟩
 have e:(s.heap.push {cls:=.type "tuple_iterator",data:=.fields #[.ref t,.int 0 0]}).objs.size=s.heap.objs.size+1:=by simp[Heap.push]
 rw[e]
 refine⟨⟨{cls:=.type "enumerate",data:=.fields #[.none,.bool false,.ref s.heap.objs.size,rawInt 0,.none,.none]},?_,rfl⟩,k⟩
 rw[<-e]
 exact BW4 _ rfl
def BK5 (K:BU5)(a:Addr):It :=
 ⟨fun i H=>∃xs x,SqT K H a xs/\xs[i]?=some x,fun i H x H'=>∃T v,H T=none/\(∀xs,SqT K H a xs->xs[i]?=some v)/\x=.ref T/\H'=upd H T (.tup [.int (i:Nat),v]),fun i H=>∃xs,SqT K H a xs/\xs.length=i⟩
def BK4 (K:BU5)(a:Addr):It :=
 ⟨fun i H=>∃xs x,SqL K H a xs/\xs[i]?=some x,fun i H x H'=>∃T v,H T=none/\(∀xs,SqL K H a xs->xs[i]?=some v)/\x=.ref T/\H'=upd H T (.tup [.int (i:Nat),v]),fun i H=>∃xs,SqL K H a xs/\xs.length=i⟩
theorem Inv.pair {X:Cx}{σ:L2.St}{e:Addr}{tk:Nat}{t0:Tok}(I:Inv X pins σ H s)(d:LS X pins H e)(f:LS X pins H it)
  (le:e<s.heap.objs.size) (p:it<s.heap.objs.size) (ru:RelV v u) (g:h'.get? s.heap.objs.size=some {cls:=.type "tuple",data:=.seq #[.int (i:Nat) t0,u]})
  (h:∀b o,b≠e->b≠it->s.heap.get? b=some o->h'.get? b=some o):Inv X pins σ (upd H s.heap.objs.size (.tup [.int (i:Nat),v])) {s with heap:=h',toks:=tk}:=by
 have l:=I.fresh
 have j:∀b u,H b=some u->b≠s.heap.objs.size:=fun b u q=>by rintro rfl;rw[l] at q;cases q
 have ne:∀b u,H b=some u->b≠e/\b≠it:=fun b u q=>⟨(by rintro rfl;rw[d.1] at q;cases q),(by rintro rfl;rw[f.1] at q;cases q)⟩
 refine I.call' (s':={s with heap:=h',toks:=tk}) (ch:=[e,it]) rfl ⟨fun b o q n _ a=>?_,fun b o q n _ a=>?_,fun b o q n a=>?_,fun b o q a=>?_,fun b m q=>?_,fun b o u q=>?_,fun b t q=>?_⟩ (fun b o q=>?_) I.bare (fun b k=>?_)
 ·simp only[BZ3,BX6,or_false,not_or] at a
  exact h b o a.1 a.2 q
 ·simp only[BZ3,BX6,or_false,not_or] at a
  exact⟨o.slots,h b o a.1 a.2 q⟩
 ·rw[D6 (BX7 (BW1 q))];exact n
 ·simp only[BZ3,BX6,or_false,not_or] at a
  exact⟨o,h b o a.1 a.2 q⟩
 ·rw[D6 (j b _ q)];exact q
 ·rw[D6 (j b _ q)];exact q
 ·exact⟨#[],by rw[D6 (j b _ q),q];simp⟩
 ·by_cases k:b=s.heap.objs.size
  ·subst k
   rw[D4] at q
   cases q
   exact⟨by rw[BW2];show 2<=_;lia,[.int (i:Nat) t0,u],.cons ⟨t0,rfl⟩ (.cons ru .nil),⟨_,g,rfl,_,rfl⟩⟩
  ·rw[D6 k] at q
   refine(I.hok b o q).stay (fun c w hc r=>?_) (fun c r=>by rw[D6 (j c _ r)];exact r) fun c m r=>by rw[D6 (j c _ r)];exact r
   rcases hc with rfl|hc
   ·exact h c w (ne c o q).1 (ne c o q).2 r
   ·exact h c w (ne c _ hc).1 (ne c _ hc).2 r
 ·simp only[BZ3,BX6,or_false] at k
  rcases k with rfl|rfl
  ·exact⟨d.2.2.2.1,d.2.1,d.2.2.2.2.1,d.2.2.2.2.2⟩
  ·exact⟨f.2.2.2.1,f.2.1,f.2.2.2.2.1,f.2.2.2.2.2⟩
theorem UN {k:Nat}(a it e:Addr)(h1:e≠it)(h2:a≠it)(h3:a≠e) :
  Turn P w K (.Tuple elts k pos) (BK5 K a) [e,it] e (fun i h=>(∃old,IsEnum h e it (i:Nat) old)/\h.IsTupleIter it a i) where
 mem:=by simp
 obj:=fun i h st b j=>by
  obtain⟨⟨old,g⟩,⟨o,l,c,d⟩⟩:=st
  simp only[BZ3,BX6,or_false] at j
  rcases j with rfl|rfl
  ·exact⟨_,g,fun v z=>by cases z⟩
  ·exact⟨o,l,fun v z=>by rw[d] at z;cases z⟩
 keep:=fun i h Z st kk=>by
  obtain⟨⟨old,g⟩,⟨o,l,r⟩⟩:=st
  exact⟨⟨old,kk e (by simp) _ g⟩,⟨o,kk it (by simp) o l,r⟩⟩
 item:=by
  intro X J L M N i B s σ H E I t st O
  subst J L M
  obtain⟨xs,x,G,Q⟩:=O
  obtain⟨f,R,p,hz⟩:=I.tuple G
  obtain⟨u,hu,ru⟩:=R.get Q
  have hi:i<f.length:=(List.getElem?_eq_some_iff.mp hu).1
  obtain⟨⟨old,g⟩,hit⟩:=st
  have le:=BW1 g
  have li:it<s.heap.objs.size:=by obtain⟨o,l,_⟩:=hit;exact BW1 l
  refine wpAny_pyNext_enum_itemD (EL (A:=X.A.in1) (by exact I.ok.hd N) it a h2 f.toArray) g ⟨hit,p⟩ (by simpa using hi) h1 (by simp;exact⟨h1,Ne.symm h3⟩) fun y Z tk hy C S D hsz m=>?_
  have ey:y=u:=by
   have:f[i]?=some y:=by simpa using hy
   rw[hu] at this;exact(Option.some.inj this).symm
  subst ey
  refine⟨_,rfl,wpAny_letOwnedTupleGo_enum C fun T U n=>?_⟩
  have V:∀b o,b≠e->b≠it->s.heap.get? b=some o->T.get? b=some o:=fun b o F W q=>(n.2 b F).trans (m b o F W q)
  refine⟨.ref s.heap.objs.size,_,Inv.pair (s:=s) (tk:=tk+1) (i:=i) (t0:=tk) I (t e (by simp)) (t it (by simp)) le li ru ((n.2 _ (Nat.ne_of_gt le)).trans D) V,rfl,⟨s.heap.objs.size,x,I.fresh,fun ys Y=>by rw[I.tuple_inj Y G];exact Q,rfl,rfl⟩,⟨⟨_,U⟩,?_⟩,fun b j=>?_⟩
  ·obtain⟨o,l,r⟩:=S.1
   exact⟨o,(n.2 it (Ne.symm h1)).trans l,r⟩
  ·simp only[BZ3,BX6,or_false] at j
   rcases j with rfl|rfl
   ·rw[D6 (BX7 le)];exact(t b (by simp)).1
   ·rw[D6 (BX7 li)];exact(t b (by simp)).1
 done:=by
  intro X J L M N i B s σ H E I t st O
  subst J L M
  obtain⟨xs,G,Q⟩:=O
  obtain⟨f,R,p,hz⟩:=I.tuple G
  obtain⟨⟨old,g⟩,hit⟩:=st
  have hl:=R.length
  obtain⟨f0,f1,f2,f3,f4,f5⟩:=t it (by simp)
  have en:f.toArray.size=i:=by simp;lia
  exact wpAny_pyNext_enum_endD (EL (A:=X.A.in1) (by exact I.ok.hd N) it a h2 f.toArray) g ⟨by rw[en];exact hit,p⟩ fun Z eb=>⟨rfl,I.turned (t':=s.toks) (fun b o j e=>eb b o j e) f0 f1 f3 f4 f5⟩
 self:=fun _ _ _ _ _ st h=>by
  obtain⟨⟨old,g⟩,_⟩:=st
  exact CJ7 g h
theorem UM {k:Nat}(a it e:Addr)(h1:e≠it)(h2:a≠it)(h3:a≠e) :
  Turn P w K (.Tuple elts k pos) (BK4 K a) [e,it] e (fun i h=>(∃old,IsEnum h e it (i:Nat) old)/\h.IsListIter it a i) where
 mem:=by simp
 obj:=fun i h st b j=>by
  obtain⟨⟨old,g⟩,⟨o,l,c,d⟩⟩:=st
  simp only[BZ3,BX6,or_false] at j
  rcases j with rfl|rfl
  ·exact⟨_,g,fun v z=>by cases z⟩
  ·exact⟨o,l,fun v z=>by rw[d] at z;cases z⟩
 keep:=fun i h Z st kk=>by
  obtain⟨⟨old,g⟩,⟨o,l,r⟩⟩:=st
  exact⟨⟨old,kk e (by simp) _ g⟩,⟨o,kk it (by simp) o l,r⟩⟩
 item:=by
  intro X J L M N i B s σ H E I t st O
  subst J L M
  obtain⟨xs,x,G,Q⟩:=O
  obtain⟨f,R,p,hz⟩:=I.list G
  obtain⟨u,hu,ru⟩:=R.get Q
  have hi:i<f.length:=(List.getElem?_eq_some_iff.mp hu).1
  obtain⟨⟨old,g⟩,hit⟩:=st
  have le:=BW1 g
  have li:it<s.heap.objs.size:=by obtain⟨o,l,_⟩:=hit;exact BW1 l
  refine wpAny_pyNext_enum_itemD (Draws.list (prog:=X.prog) (w:=X.w) (A:=X.A.in1) (by exact I.ok.hd N) it a h2 f.toArray) g ⟨hit,p.isList⟩ (by simpa using hi) h1 (by simp;exact⟨h1,Ne.symm h3⟩) fun y Z tk hy C S D hsz m=>?_
  have ey:y=u:=by
   have:f[i]?=some y:=by simpa using hy
   rw[hu] at this;exact(Option.some.inj this).symm
  subst ey
  refine⟨_,rfl,wpAny_letOwnedTupleGo_enum C fun T U n=>?_⟩
  have V:∀b o,b≠e->b≠it->s.heap.get? b=some o->T.get? b=some o:=fun b o F W q=>(n.2 b F).trans (m b o F W q)
  refine⟨.ref s.heap.objs.size,_,Inv.pair (s:=s) (tk:=tk+1) (i:=i) (t0:=tk) I (t e (by simp)) (t it (by simp)) le li ru ((n.2 _ (Nat.ne_of_gt le)).trans D) V,rfl,⟨s.heap.objs.size,x,I.fresh,fun ys Y=>by rw[I.list_inj Y G];exact Q,rfl,rfl⟩,⟨⟨_,U⟩,?_⟩,fun b j=>?_⟩
  ·obtain⟨o,l,r⟩:=S.1
   exact⟨o,(n.2 it (Ne.symm h1)).trans l,r⟩
  ·simp only[BZ3,BX6,or_false] at j
   rcases j with rfl|rfl
   ·rw[D6 (BX7 le)];exact(t b (by simp)).1
   ·rw[D6 (BX7 li)];exact(t b (by simp)).1
 done:=by
  intro X J L M N i B s σ H E I t st O
  subst J L M
  obtain⟨xs,G,Q⟩:=O
  obtain⟨f,R,p,hz⟩:=I.list G
  obtain⟨⟨old,g⟩,hit⟩:=st
  have hl:=R.length
  obtain⟨f0,f1,f2,f3,f4,f5⟩:=t it (by simp)
  have en:f.toArray.size=i:=by simp;lia
  exact wpAny_pyNext_enum_endD (Draws.list (prog:=X.prog) (w:=X.w) (A:=X.A.in1) (by exact I.ok.hd N) it a h2 f.toArray) g ⟨by rw[en];exact hit,p.isList⟩ fun Z eb=>⟨rfl,I.turned (t':=s.toks) (fun b o j e=>eb b o j e) f0 f1 f3 f4 f5⟩
 self:=fun _ _ _ _ _ st h=>by
  obtain⟨⟨old,g⟩,_⟩:=st
  exact CJ7 g h
theorem SQ {E:Value->BV1->Prop}(b:s.heap.IsList t items)
  (k:Q (.ref (s.heap.objs.size+1)) {s with heap:=(s.heap.push {cls:=.type "list_iterator",data:=.fields #[.ref t,.int 0 0]}).push {cls:=.type "enumerate",data:=.fields #[.none,.bool false,.ref s.heap.objs.size,rawInt 0,.none,.none]}}) :
  wpAny (model prog w) A (call (.type "enumerate") [.ref t]) Q E s:=by
 obtain⟨⟨cls,a,data,c⟩,d,f,n,g⟩:=b
 subst f g
 refine callType_new F.called_enumerate (by decide) (F.typeCall_enumerate_1 _) (F.newCall_enumerate_1 _) (fun h=>F.args_object_init_2 _ _) F.entry_enumerate_new (meets_enumerate_newL t items n a c) ⟨d,?_⟩
 have e:(s.heap.push {cls:=.type "list_iterator",data:=.fields #[.ref t,.int 0 0]}).objs.size=s.heap.objs.size+1:=by simp[Heap.push]
 rw[e]
 refine⟨⟨{cls:=.type "enumerate",data:=.fields #[.none,.bool false,.ref s.heap.objs.size,rawInt 0,.none,.none]},?_,rfl⟩,k⟩
 rw[<-e]
 exact BW4 _ rfl
theorem RH {X:Cx}{ti:TI3}{g:TG3}{tb:TS3}(Z:PassesOwn (model X.prog X.w) X.A X.env X.xe)(hc:X.calm=true)(hi:SM X tg iter ti)
  (hg:PG3 X tg g) (hb:PSs3 X body tb) (hs:∀y,CF5 iter X.env y=pure y:=by intro _;rfl) :
  PS3 X (.For tg iter body [] pos) (N8 ti g tb):=PS3.of (AJ1 Z hc hi hg hb.dn hs) fun R s σv H S M T I hS hM h=>by
 refine⟨S,M,_,hS,hM,h,fun n J L U j m1 wk ⟨Pv,p0,B,C⟩=>?_⟩
 refine⟨fun k m o D=>m=n.length-k/\k<=n.length/\∃b i,Step L U i D/\MRel X.K i D/\SRel X.K i D b o/\Pv k b i,⟨_,rfl,CD4 _,S,L,.refl,m1,hS.mono j,p0⟩,?_⟩
 rintro k m o D ⟨rfl,hk,b,i,r,V,E,W⟩
 obtain⟨go,N,F⟩:=wk i D r V
 by_cases l:k<n.length
 ·refine .inr ⟨go k l,fun a p=>∃c f,Step L U f p/\MRel X.K f p/\SRel X.K f p c a/\Pv (k+1) c f,?_,?_⟩
  ·rintro a p ⟨c,f,q⟩
   exact⟨n.length-(k+1),by lia,rfl,l,c,f,q⟩
  ·intro y O hy
   obtain⟨Y,my,ry⟩:=N k n[k] y O (by simp[l]) hy
   refine⟨n[k],b,i,_,ry,E.mono Y,my,B k n[k] b i (by simp[l]) W,fun P v9 M9 H9 s9 m9 r9 q9=>?_⟩
   refine⟨P,M9,_,r9,m9,q9,?_⟩
   have G:=(r.trans Y).trans s9
   exact⟨fun a Q t p u v x z=>⟨a,t,G.trans u,v,x,z⟩,fun a Q t p u v x z=>⟨a,t,(j.trans G).trans u,v,x,z⟩,
    fun a Q t p u v x z=>⟨a,t,G.trans u,v,x,z⟩,fun d Q t p u v x z=>⟨d,t,(j.trans G).trans u,v,x,z⟩⟩
 ·have e:k=n.length:=by lia
  subst e
  exact .inl ⟨F,b,i,j.trans r,V,E,C b i W⟩
def prs:Nat->List D->List D
 | _,[]=>[]
 | n,d::r=>.tup [.int (n:Nat),d]::prs (n+1) r
theorem U6:∀(ds:List D) (n i:Nat) (d:D),(prs n ds)[i]?=some d->∃x,ds[i]?=some x/\d=.tup [.int ((n+i:Nat):Int),x]
 | [],n,i,d,h=>by simp[prs] at h
 | x::r,n,0,d,h=>by simp[prs] at h;exact⟨x,rfl,by rw[<-h];rfl⟩
 | x::r,n,i+1,d,h=>by
  have a:(prs (n+1) r)[i]?=some d:=by simpa[prs] using h
  obtain⟨y,b,c⟩:=U6 r (n+1) i d a
  exact⟨y,by simpa using b,by rw[c];congr 3;lia⟩
theorem S3:∀(ds:List D) (n:Nat),(prs n ds).length=ds.length
 | [],n=>rfl
 | x::r,n=>by show(prs (n+1) r).length+1=r.length+1;rw[S3 r]
def HI (R:List D->Mem->Prop):DK:=fun d M1=>match d with
 | .tup ds=>R (prs 0 ds) M1
 | .lst ds=>R (prs 0 ds) M1
 | _=>False
def BG (te:TE3):TI3:=fun σ M R=>te σ M (HI R)
instance rd_iEnum {te:TE3}{σ:Lo}{M:Mem}{R:List D->Mem->Prop}:RdC (BG te σ M R) (te σ M (HI R)):=⟨fun h=>h⟩
instance rd_onEnumT {ds:List D}{M:Mem}{R:List D->Mem->Prop}:RdC (HI R (.tup ds) M) (R (prs 0 ds) M):=⟨fun h=>h⟩
instance rd_onEnumL {ds:List D}{M:Mem}{R:List D->Mem->Prop}:RdC (HI R (.lst ds) M) (R (prs 0 ds) M):=⟨fun h=>h⟩
theorem AN4 {M1:Mem}{H1:Hp}{J:It}(b:Hp->List V->Prop)(e:∀i H xs x,b H xs->xs[i]?=some x->J.go i H)(n:∀i H x H',J.yld i H x H'->∃T v,H T=none/\(∀xs,b H xs->xs[i]?=some v)/\x=.ref T/\H'=upd H T (.tup [.int (i:Nat),v]))
  (f:∀i H xs,b H xs->xs.length=i->J.stop i H) (hs:∀M' H',Step M1 H1 M' H'->∃vs,b H' vs/\Reps K M' H' ds vs):WkE K J (prs 0 ds) M1 H1:=by
 intro M' H' st l
 obtain⟨vs,g,r⟩:=hs M' H' st
 refine⟨fun i m=>?_,fun i d x h o j=>?_,?_⟩
 ·rw[S3] at m
  obtain⟨v,k,_⟩:=r.get (i:=i) (d:=ds[i]) (by simp[m])
  exact e i H' vs v g k
 ·obtain⟨T,v,c,k,rfl,rfl⟩:=n i H' x h j
  obtain⟨y,p,rfl⟩:=U6 ds 0 i d o
  obtain⟨s,a,q⟩:=r.get p
  rw[k vs g] at a
  cases a
  refine⟨Step.lay c,l.lay c,.tup (.inl ⟨.inl D4,l.free c⟩) (.cons ?_ (.cons (q.mono (Step.lay c)) .nil))⟩
  rw[BW6];exact .int
 ·rw[S3]
  exact f _ H' vs g r.length.symm
theorem AH7 {X:Cx}{a:Expr}{k:Nat}{tpos p:Pos}(hg:Gl X "enumerate")(hm:X.mg "enumerate"=none)(ha:PE3 X a te)(W:BX4 [a] X.env=(false,eval a X.env)::BX4 [] X.env:=by rfl) (F:(CI6 pos (BX4 [] X.env)).any (·.1)=false:=by rfl) :
  SM X (.Tuple elts k tpos) (.Call (.Name "enumerate" p) [a] [] pos) (BG te):=by
 rintro r s G H R2 I ⟨σ,M,R,hS,hM,h,Y⟩
 refine CG5 (BI I hg hm BR ?_ (by decide) (by decide))
 have t:PA3 X [a] (A0 te A5):=QV ha WH W
 refine CB6 (thn (t pos r s G H σ M (fun J C=>match J with|[d]=>HI R d C|_=>False) I hS hM h) fun us c ⟨J,D,C,E,n,v,Z,L,N,w⟩=>?_) W F
 match J,N,w with
 | [d],N,w =>
  obtain⟨xv,rfl,pd⟩:=RN N
  obtain⟨u,rfl,ru⟩:=vals1 L
  cases pd with
  | @tup f g D y O =>
   cases ru
   obtain⟨z,ri,A,hz⟩:=n.tuple (SqT.of3 y)
   have j:f<c.heap.objs.size:=by obtain⟨o,P,_⟩:=id A;exact BW1 P
   refine SR (show c.heap.IsTuple f z.toArray from A) ?_
   have Q:∀b o,c.heap.get? b=some o->((c.heap.push {cls:=.type "tuple_iterator",data:=.fields #[.ref f,.int 0 0]}).push {cls:=.type "enumerate",data:=.fields #[.none,.bool false,.ref c.heap.objs.size,rawInt 0,.none,.none]}).get? b=some o:=fun b o e=>BU6 _ (BU6 _ e)
   have S:(c.heap.push {cls:=.type "tuple_iterator",data:=.fields #[.ref f,.int 0 0]}).objs.size=c.heap.objs.size+1:=by simp[Heap.push]
   have l:((c.heap.push {cls:=.type "tuple_iterator",data:=.fields #[.ref f,.int 0 0]}).push {cls:=.type "enumerate",data:=.fields #[.none,.bool false,.ref c.heap.objs.size,rawInt 0,.none,.none]}).get? (c.heap.objs.size+1)=some {cls:=.type "enumerate",data:=.fields #[.none,.bool false,.ref c.heap.objs.size,rawInt 0,.none,.none]}:=by rw[<-S];exact BW4 _ rfl
   refine CJ7 (it:=c.heap.objs.size) (i:=0) (old:=.none) l ?_
   refine⟨c.heap.objs.size+1,[c.heap.objs.size+1,c.heap.objs.size],_,BK5 X.K f,E,rfl,n.kept (t':=c.toks) Q,UN f c.heap.objs.size (c.heap.objs.size+1) (Nat.succ_ne_self _) (BX7 j) (BX7 (Nat.lt_succ_of_lt j)),⟨⟨.none,l⟩,⟨_,BU6 _ (BW4 _ rfl),rfl,rfl⟩⟩,fun b B=>?_,?_⟩
   ·have m:c.heap.objs.size<=b:=by
     simp only[BZ3,BX6,or_false] at B
     rcases B with rfl|rfl
     ·exact Nat.le_succ _
     ·exact BU4 _
    exact n.fpOk m (n.hok.fresh m)
   ·refine Y (prs 0 g) _ C E v Z (AN4 (fun H g=>SqT X.K H f g) (fun i H g x q t=>⟨g,x,q,t⟩) (fun i H x T U=>U) (fun i H g q V=>⟨g,q,V⟩) fun M' T st=>⟨D,SqT.of3 (y.imp (Fix.mono st) id),O.mono st⟩) w
  | @lst f g D y O =>
   cases ru
   obtain⟨z,ri,A,hz⟩:=n.list (SqL.of3 y)
   have j:f<c.heap.objs.size:=by obtain⟨o,P,_⟩:=id A.isList;exact BW1 P
   refine SQ A.isList ?_
   have Q:∀b o,c.heap.get? b=some o->((c.heap.push {cls:=.type "list_iterator",data:=.fields #[.ref f,.int 0 0]}).push {cls:=.type "enumerate",data:=.fields #[.none,.bool false,.ref c.heap.objs.size,rawInt 0,.none,.none]}).get? b=some o:=fun b o e=>BU6 _ (BU6 _ e)
   have S:(c.heap.push {cls:=.type "list_iterator",data:=.fields #[.ref f,.int 0 0]}).objs.size=c.heap.objs.size+1:=by simp[Heap.push]
   have l:((c.heap.push {cls:=.type "list_iterator",data:=.fields #[.ref f,.int 0 0]}).push {cls:=.type "enumerate",data:=.fields #[.none,.bool false,.ref c.heap.objs.size,rawInt 0,.none,.none]}).get? (c.heap.objs.size+1)=some {cls:=.type "enumerate",data:=.fields #[.none,.bool false,.ref c.heap.objs.size,rawInt 0,.none,.none]}:=by rw[<-S];exact BW4 _ rfl
   refine CJ7 (it:=c.heap.objs.size) (i:=0) (old:=.none) l ?_
   refine⟨c.heap.objs.size+1,[c.heap.objs.size+1,c.heap.objs.size],_,BK4 X.K f,E,rfl,n.kept (t':=c.toks) Q,UM f c.heap.objs.size (c.heap.objs.size+1) (Nat.succ_ne_self _) (BX7 j) (BX7 (Nat.lt_succ_of_lt j)),⟨⟨.none,l⟩,⟨_,BU6 _ (BW4 _ rfl),rfl,rfl⟩⟩,fun b B=>?_,?_⟩
   ·have m:c.heap.objs.size<=b:=by
     simp only[BZ3,BX6,or_false] at B
     rcases B with rfl|rfl
     ·exact Nat.le_succ _
     ·exact BU4 _
    exact n.fpOk m (n.hok.fresh m)
   ·refine Y (prs 0 g) _ C E v Z (AN4 (fun H g=>SqL X.K H f g) (fun i H g x q t=>⟨g,x,q,t⟩) (fun i H x T U=>U) (fun i H g q V=>⟨g,q,V⟩) fun M' T st=>⟨D,SqL.of3 (y.imp (Fix.mono st) id),O.mono st⟩) w
  | _=>exact(w:False).elim
section
variable {X:Cx}{o i e:Expr}{to ti te:TE3}{pos p:Pos}
theorem AI7 (ho:PE3 X o to)(hi:PE3 X i ti)(w:PE3 X e te)
  (z:∀v,assign (.Subscript o i p) X.env v=(do
   let ov <-holding [v] (eval o X.env)
   let iv <-holding [v,ov] (eval i X.env)
   standAt p
   holding [v,ov,iv] (setItem ov iv v)
   release [v,ov,iv] []):=by intro _;rfl) (hs:swapsWithSole [.Subscript o i p] e pos.line X.env=pure false:=by rfl) (A:swappedStores [.Subscript o i p] e X.env=pure none:=by rfl)
  (h1:(BZ9 [.Subscript o i p] X.env).map (·.2)=[assign (.Subscript o i p) X.env]:=by rfl):PS3 X (.Assign [.Subscript o i p] e pos) (OT to ti te) :=
 PS3.of (AJ0 w.dn (BH9 ho.dn hi.dn set_list z) hs A h1) fun n s B H g M T I hS C h=>by
  refine⟨g,M,_,hS,C,h,fun d v D V b E F G=>?_⟩
  refine⟨g,D,_,hS.mono b,E,G,fun x W J Y c K L N=>?_⟩
  refine⟨g,J,_,(hS.mono b).mono c,K,N,fun y Z M3 H3 f t O P=>?_⟩
  obtain⟨a,Q,j,k,rfl,rfl,l,R,q⟩:=P
  cases O
  have m:=L.mono f
  cases m
  obtain⟨ho,S,r⟩:=t _ _ l
  cases ho<;>first|exact(r:False).elim|skip
  rename_i U
  have u:=r
  refine⟨a,U,k,j,rfl,rfl,S,by rw[<-u.length];exact R,g,_,((b.trans c).trans f).trans (Step.put (.inr (by rw[l];simp))),t.put (.inr (by rw[l];simp)) (o:=.lst (Q.set j d)) (Reps.set u ((F.mono c).mono f) j),?_,q⟩
  exact(((hS.mono b).mono c).mono f).mono (Step.put (.inr (by rw[l];simp)))
end
end L3
namespace K11
open PySem L2 L3 MK
mutual
def plB:Blk->List Int->Nat->List (List Int)
 | .nil,_,_=>[]
 | .cons d r,ah,i=>(ah++[(i:Int)])::(plD d (ah++[(i:Int)])++plB r ah (i+1))
def plD:Deed->List Int->List (List Int)
 | .mk _ bs,pl=>Q6 bs pl 0
def Q6:Bls->List Int->Nat->List (List Int)
 | .nil,_,_=>[]
 | .cons b r,pl,j=>plB b (pl++[(j:Int)]) 0++Q6 r pl (j+1)
end
def plT (p:List Int):D:=.tup (p.map D.int)
def CU (n:Nat):Sp3:=fun ds M Q=>∃b ah,ds=[.tup (dB b),plT ah]/\okB b/\dpB b+1<=n/\D5 b<=100/\ah.length+2*n<=30/\∀a M',M a=none->M' a=some (.lst ((plB b ah 0).map plT))->(∀x,x≠a->M' x=M x)->Q (.ref a) M'
def spPlacesR:Sp3:=fun ds M Q=>∃r,ds=[rD r]/\okB r.blk/\dpB r.blk<=4/\D5 r.blk<=100/\∀a M',M a=none->M' a=some (.lst ((plB r.blk [] 0).map plT))->(∀x,x≠a->M' x=M x)->Q (.ref a) M'
end K11
namespace K11
open PySem L2 L3
abbrev EG:List Str:=["deed"]
def EX:TS3 :=
  (A8 (C2 (B1 (A6 D7 (A6 C1 (A4 0) (tC3 (.int 0))) (tC3 (.str "if")))) (B4 (F9 (A0 (A6 C1 (A4 0) (tC3 (.int 2))) (A0 (A6 C1 (A4 0) (tC3 (.int 3))) A5)))) B6)
  (A8 (C2 (B1 (A6 D7 (A6 C1 (A4 0) (tC3 (.int 0))) (tC3 (.str "while")))) (B4 (F9 (A0 (A6 C1 (A4 0) (tC3 (.int 2))) A5))) B6)
  (A8 (C2 (B1 (A6 D7 (A6 C1 (A4 0) (tC3 (.int 0))) (tC3 (.str "try")))) (B4 (A6 D0 (A6 D0 (F9 (A0 (A6 C1 (A4 0) (tC3 (.int 1))) A5)) (R6 (CF (A6 C1 (A4 0) (tC3 (.int 2)))) 3 [] (N1 [0,1,2]) P6 (A4 2))) (F9 (A0 (A6 C1 (A4 0) (tC3 (.int 3))) A5)))) B6)
  (B4 (F9 A5)))))
theorem OO (d0:D):B8 EG [d0]=[some d0]:=rfl
abbrev EI:List Str:=["block","ahead","found","at","deed","place","number","inner"]
def FC (q_places_in:Sp3):TS3 :=
  (A8 (C0 2 (J7 A5))
  (A8 (N8 (BG (A4 0)) (N1 [3,4]) (A8 (C0 5 (A6 D0 (A4 1) (B9 (A0 (A4 3) A5))))
  (A8 (F4 (R5 "list" E7 (A4 2) (A0 (A4 5) A5)))
  (N8 (BG (A7 MK.CS (A0 (A4 4) A5))) (N1 [6,7]) (F4 (R5 "list" HM (A4 2) (A0 (A7 q_places_in (A0 (A4 7) (A0 (A6 D0 (A4 5) (B9 (A0 (A4 6) A5))) A5))) A5)))))))
  (B4 (A4 2))))
theorem OQ (d0 a:D):B8 EI [d0,a]=[some d0,some a,none,none,none,none,none,none]:=rfl
abbrev PL:List Str:=["rule"]
def RX:TS3 :=
  (B4 (A7 (CU 8) (A0 (A6 C1 (A4 0) (tC3 (.int 2))) (A0 (B9 A5) A5))))
theorem ZV (d0:D):B8 PL [d0]=[some d0]:=rfl
end K11
open L3
namespace K11
open PySem L2 L3 MK
theorem rd_blocks_of:∀ds M Q,CS ds M Q->EX {nx:=fun _ M'=>View Q .non M',rt:=View Q} (B8 EG ds) M:=by
 rintro _ M Q ⟨h,bs,rfl,p,q⟩
 have n:=VD bs
 rw[OO]
 unfold EX
 show _
 change (A8 _ _) _ [some (headD h (dTs bs))] M
 generalize dTs bs=k at q n
 cases h with
 | leaf h r =>
  obtain⟨g,s⟩:=p
  obtain⟨z,A,B⟩:=U1 s
  have u:k=[]:=List.length_eq_zero_iff.mp (n.trans g)
  subst u
  walk_at "rd"
  refine B2 (d:=.str h) (B7 (j:=0) rfl) ?_
  walk_at "rd"
  refine B5 z ?_
  walk_at "rd"
  refine B2 (d:=.str h) (B7 (j:=0) rfl) ?_
  walk_at "rd"
  refine B5 A ?_
  walk_at "rd"
  refine B2 (d:=.str h) (B7 (j:=0) rfl) ?_
  walk_at "rd"
  refine B5 B ?_
  walk_at "rd"
  exact View.of q
 | ife e =>
  obtain⟨g,_⟩:=p
  obtain⟨f,v,rfl⟩:∃f v,k=[f,v]:=by
   match k,n.trans g with
   | [a,b],_=>exact⟨a,b,rfl⟩
  walk_at "rd"
  refine B2 (d:=.str "if") rfl ?_
  walk_at "rd"
  refine C8 (by decide +kernel) ?_
  walk_at "rd"
  refine B2 (d:=f) rfl ?_
  walk_at "rd"
  refine B2 (d:=v) rfl ?_
  walk_at "rd"
  exact View.of q
 | whl e =>
  obtain⟨g,_⟩:=p
  obtain⟨f,rfl⟩:∃f,k=[f]:=by
   match k,n.trans g with
   | [a],_=>exact⟨a,rfl⟩
  walk_at "rd"
  refine B2 (d:=.str "while") rfl ?_
  walk_at "rd"
  refine B5 (by decide +kernel) ?_
  walk_at "rd"
  refine B2 (d:=.str "while") rfl ?_
  walk_at "rd"
  refine C8 (by decide +kernel) ?_
  walk_at "rd"
  refine B2 (d:=f) rfl ?_
  walk_at "rd"
  exact View.of q
 | tr c =>
  obtain⟨g,C,_⟩:=p
  obtain⟨f,rest,rfl⟩:∃f rest,k=f::rest:=by
   match k,n.trans g with
   | a::r,_=>exact⟨a,r,rfl⟩
  have K:rest.length=c.length+1:=by simpa[g] using n
  walk_at "rd"
  refine B2 (d:=.str "try") rfl ?_
  walk_at "rd"
  refine B5 (by decide +kernel) ?_
  walk_at "rd"
  refine B2 (d:=.str "try") rfl ?_
  walk_at "rd"
  refine B5 (by decide +kernel) ?_
  walk_at "rd"
  refine B2 (d:=.str "try") rfl ?_
  walk_at "rd"
  refine C8 (by decide +kernel) ?_
  walk_at "rd"
  refine B2 (d:=f) rfl ?_
  walk_at "rd"
  refine B2 (d:=.tup (E5 c rest)) rfl ?_
  walk_at "rd"
  have D:E5 c rest=(E5 c rest).map id:=by simp
  rw[D]
  have E:=UY c rest
  refine AB8 (E5 c rest) id XI (by rw[BW2];lia) ?_ ?_
  ·intro d G L R F _ H
   obtain⟨w,x,t,rfl⟩:=UZ c rest d G
   refine J0 rfl ?_
   walk_at "rd"
   exact H
  rw[DP c rest (by lia)]
  refine CO (by simp;rw[BW2];lia) ?_
  walk_at "rd"
  have m:∃l,rest[c.length]?=some l:=⟨rest[c.length],by simp⟩
  obtain⟨l,o⟩:=m
  have I:(f::rest).getD (c.length+1) (.tup [])=l:=by simp[CA8,o]
  refine B2 (d:=l) (by rw[<-I];rfl) ?_
  walk_at "rd"
  refine CO (by simp;rw[BW2];lia) ?_
  have J:[f]++rest.take c.length++[l]=f::rest:=by
   have:rest.take c.length++[l]=rest:=by
    have y:=CD9 (l:=rest) (i:=c.length)
    rw[o] at y
    rw[show rest.take c.length++[l]=rest.take c.length++(some l).toList from rfl,<-y,List.take_of_length_le (by lia)]
   rw[BX5,this];rfl
  rw[J]
  exact View.of q
def BT:Blk->Nat->Blk
 | b,0=>b
 | .nil,_+1=>.nil
 | .cons _ r,k+1=>BT r k
def T9:Bls->Nat->Bls
 | b,0=>b
 | .nil,_+1=>.nil
 | .cons _ r,k+1=>T9 r k
theorem GE (b:Blk):BT b 0=b:=by cases b<;>rfl
theorem EJ (b:Bls):T9 b 0=b:=by cases b<;>rfl
theorem JV:∀(b:Blk) (k:Nat) (x:D),(dB b)[k]?=some x->∃d,d∈toL b/\x=dD d/\BT b k=.cons d (BT b (k+1))
 | .nil,k,x,h=>by simp[dB] at h
 | .cons d r,0,x,h=>by
  have a:some (dD d)=some x:=by simpa[dB] using h
  cases a
  exact⟨d,BV7,rfl,by rw[GE];show _=Blk.cons d (BT r 0);rw[GE]⟩
 | .cons d r,k+1,x,h=>by
  have a:(dB r)[k]?=some x:=by simpa[dB] using h
  obtain⟨e,c,f,g⟩:=JV r k x a
  exact⟨e,BV5 _ c,f,g⟩
theorem GI:∀(b:Bls) (k:Nat) (x:D),(dTs b)[k]?=some x->∃d,d∈C5 b/\x=.tup (dB d)/\T9 b k=.cons d (T9 b (k+1))
 | .nil,k,x,h=>by simp[dTs] at h
 | .cons d r,0,x,h=>by
  have a:some (D.tup (dB d))=some x:=by simpa[dTs] using h
  cases a
  exact⟨d,BV7,rfl,by rw[EJ];show _=Bls.cons d (T9 r 0);rw[EJ]⟩
 | .cons d r,k+1,x,h=>by
  have a:(dTs r)[k]?=some x:=by simpa[dTs] using h
  obtain⟨e,c,f,g⟩:=GI r k x a
  exact⟨e,BV5 _ c,f,g⟩
theorem JU:∀b:Blk,BT b (dB b).length=.nil
 | .nil=>rfl
 | .cons d r=>JU r
theorem GH:∀b:Bls,T9 b (dTs b).length=.nil
 | .nil=>rfl
 | .cons d r=>GH r
mutual
theorem AG:∀(b:Blk) (ah:List Int) (i:Nat),(plB b ah i).length=D5 b
 | .nil,ah,i=>by simp[plB,D5]
 | .cons d r,ah,i=>by
  have c:=AU1 d (ah++[(i:Int)])
  have a:=AG r ah (i+1)
  simp only[plB,D5,BU8,BU7,a]
  lia
theorem AU1:∀(d:Deed) (ah:List Int),(plD d ah).length+1=G2 d
 | .mk h bs,ah=>by
  have a:=RD bs ah 0
  simp only[plD,G2,a]
  lia
theorem RD:∀(bs:Bls) (ah:List Int) (j:Nat),(Q6 bs ah j).length=K9 bs
 | .nil,ah,j=>by simp[Q6,K9]
 | .cons b r,ah,j=>by
  have a:=AG b (ah++[(j:Int)]) 0
  have c:=RD r ah (j+1)
  simp only[Q6,K9,BU7,a,c]
end
theorem NV (p:List Int)(k:Nat):plT (p++[(k:Int)])=.tup (p.map D.int++[D.int (k:Nat)]):=by unfold plT;rw[BX0];rfl
theorem View.onlyR {Q:DK}{f:Addr}{M1:Mem}(h:∀a,a≠f->M a≠none->M1 a=M a)(q:Q (.ref f) (fun a=>if a=f then M1 f else M a)):View Q (.ref f) M1:=View.only h q
theorem zero_places_in:∀ds M Q,¬CU 0 ds M Q:=by rintro _ _ _ ⟨_,_,rfl,_,h,_⟩;lia
theorem rd_places_in:∀n ds M Q,CU (n+1) ds M Q->FC (CU n) {nx:=fun _ M'=>View Q .non M',rt:=View Q} (B8 EI ds) M:=by
 rintro lv _ M Q ⟨b,e,rfl,G,Z,W,hah,q⟩
 rw[OQ]
 unfold FC
 walk_at "rd"
 intro f hf
 walk_at "rd"
 have H:=AG b e 0
 refine⟨fun k u z=>∃(dn:List (List Int)) (I J K v w:Option D),u=[some (.tup (dB b)),some (plT e),some (.ref f),I,J,K,v,w]/\dn++plB (BT b k) e k=plB b e 0/\z f=some (.lst (dn.map plT))/\∀x,x≠f->M x≠none->z x=M x,
  ⟨[],_,_,_,_,_,rfl,by cases b<;>rfl,B0,fun x m _=>B3 m⟩,?_,?_⟩
 ·rintro k d u z hd ⟨dn,I,J,K,v,w,rfl,g,p,y⟩
  obtain⟨x,m,rfl⟩:=U6 _ _ _ _ hd
  obtain⟨X,A,rfl,L⟩:=JV b k x m
  obtain⟨c1,c2,c3⟩:=P8 b X A
  cases X with
  | mk h bs =>
   have t:=c3 G
   refine J0 rfl ?_
   walk_at "rd"
   refine U8 (by rw[BU2,BW2];show e.length+1<=_;lia) ?_
   walk_at "rd"
   refine⟨.inl ⟨rfl,_,p⟩,?_⟩
   walk_at "rd"
   have hdl:dn.length<=D5 b:=by rw[<-H,<-g];simp
   refine L4 p (by rw[BU2,BW2];lia) ?_
   walk_at "rd"
   refine⟨h,bs,rfl,t.1,?_⟩
   walk_at "rd"
   rw[L] at g
   have e0:plB (.cons (.mk h bs) (BT b (k+1))) e k=(e++[(k:Int)])::(Q6 bs (e++[(k:Int)]) 0++plB (BT b (k+1)) e (k+1)):=by simp only[plB,plD]
   rw[e0] at g
   rw[BW6]
   refine⟨fun j u F=>∃(r:List (List Int)) (v w:Option D),u=[some (.tup (dB b)),some (plT e),some (.ref f),some (.int ((k:Nat):Int)),some (dD (.mk h bs)),some (plT (e++[(k:Int)])),v,w]/\r++Q6 (T9 bs j) (e++[(k:Int)]) j=dn++[e++[(k:Int)]]++Q6 bs (e++[(k:Int)]) 0/\F f=some (.lst (r.map plT))/\∀x,x≠f->M x≠none->F x=M x,
    ⟨dn++[e++[(k:Int)]],_,_,by rw[NV];rfl,by cases bs<;>rfl,by rw[B0,BX0,List.map_singleton,NV],fun x m o=>by rw[B3 m];exact y x m o⟩,?_,?_⟩
   ·rintro j d u F N ⟨r,v,w,rfl,i,l,s⟩
    obtain⟨x,O,rfl⟩:=U6 _ _ _ _ N
    obtain⟨c,P,rfl,R⟩:=GI bs j x O
    obtain⟨c4,c5,c6⟩:=G8 bs c P
    have hcD:G2 (.mk h bs)=1+K9 bs:=rfl
    have hdD:dpD (.mk h bs)=W6 bs:=rfl
    rw[R] at i
    have e1:Q6 (.cons c (T9 bs (j+1))) (e++[(k:Int)]) j=plB c (e++[(k:Int)]++[(j:Int)]) 0++Q6 (T9 bs (j+1)) (e++[(k:Int)]) (j+1):=by simp only[Q6]
    rw[e1] at i
    have Y:r.length+D5 c<=D5 b:=by
     have h1:=congrArg CB7 i
     have h2:=congrArg CB7 g
     have h3:=AG c (e++[(k:Int)]++[(j:Int)]) 0
     simp only[BU7,BU8,BX3] at h1 h2
     lia
    refine J0 rfl ?_
    walk_at "rd"
    refine⟨.inl ⟨rfl,_,l⟩,?_⟩
    walk_at "rd"
    refine U8 (by rw[BU2,BU7,BW2];show e.length+1+1<=_;lia) ?_
    walk_at "rd"
    rw[BW6]
    refine⟨c,e++[(k:Int)]++[(j:Int)],by rw[NV],c6 t.2,by lia,by lia,by simp only[BU7,BU8,BX3];lia,fun a M3 S T B=>?_⟩
    walk_at "rd"
    have U:f≠a:=by rintro rfl;rw[S] at l;cases l
    have V:M3 f=some (.lst (r.map plT)):=by rw[B f U];exact l
    refine⟨f,a,_,_,rfl,rfl,V,T,by rw[BU2,BU2,AG,BW2];lia,?_⟩
    refine⟨r++plB c (e++[(k:Int)]++[(j:Int)]) 0,_,_,rfl,by rw[BX5];exact i,by rw[B0,BX0],fun x m o=>?_⟩
    rw[B3 m,B x]
    ·exact s x m o
    ·rintro rfl;rw[s _ m o] at S;exact o S
   ·rintro u F ⟨r,v,w,rfl,i,l,s⟩
    rw[S3,GH] at i
    have C:r=dn++[e++[(k:Int)]]++Q6 bs (e++[(k:Int)]) 0:=by simpa[Q6] using i
    refine⟨r,_,_,_,_,_,rfl,?_,l,s⟩
    rw[C,<-g]
    simp
 ·rintro u z ⟨dn,I,J,K,v,w,rfl,g,p,y⟩
  rw[S3,JU] at g
  have E:dn=plB b e 0:=by simpa[plB] using g
  subst E
  walk_at "rd"
  refine View.onlyR (f:=f) (M:=M) y (q f _ hf ?_ fun x m=>?_)
  ·show(if f=f then z f else M f)=_
   rw[if_pos rfl];exact p
  ·show(if x=f then z f else M x)=M x
   rw[if_neg m]
theorem rd_places:∀ds M Q,spPlacesR ds M Q->RX {nx:=fun _ M'=>View Q .non M',rt:=View Q} (B8 PL ds) M:=by
 rintro _ M Q ⟨r,rfl,c,e,b,q⟩
 rw[ZV]
 unfold RX
 walk_at "rd"
 refine B2 (d:=.tup (dB r.blk)) rfl ?_
 walk_at "rd"
 exact⟨r.blk,[],rfl,c,by lia,b,by simp,fun a M' f g h=>View.of (q a M' f g h)⟩
theorem HA (a:Int)(r s:List Int):HT.lexLt (a::r) (a::s)=HT.lexLt r s:=by
 rw[HT.lexLt];simp
theorem NH:∀(p:List Int) (x:Int) (r:List Int),HT.lexLt p (p++x::r)=true
 | [],x,r=>HT.lexLt.eq_2 x r
 | a::p,x,r=>by
  show HT.lexLt (a::p) (a::(p++x::r))=true
  rw[HA];exact NH p x r
theorem NG:∀(p:List Int) (i j:Int) (r s:List Int),i<j->HT.lexLt (p++i::r) (p++j::s)=true
 | [],i,j,r,s,h=>by
  show HT.lexLt (i::r) (j::s)=true
  rw[HT.lexLt]
  rw[if_neg (by lia)];simpa using h
 | a::p,i,j,r,s,h=>by
  show HT.lexLt (a::(p++i::r)) (a::(p++j::s))=true
  rw[HA];exact NG p i j r s h
def Pw (l:List (List Int)):Prop:=l.Pairwise fun p q=>HT.lexLt p q=true
def Fr (ah:List Int)(i:Nat)(l:List (List Int)):Prop:=∀p∈l,∃(j:Nat) (r:List Int),i<=j/\p=ah++(j:Int)::r
mutual
theorem NU:∀(b:Blk) (ah:List Int) (i:Nat),Fr ah i (plB b ah i)/\Pw (plB b ah i)
 | .nil,ah,i=>by simp only[plB];exact⟨(fun p h=>by cases h),.nil⟩
 | .cons d r,ah,i=>by
  obtain⟨g,l⟩:=BI3 d (ah++[(i:Int)])
  obtain⟨c,m⟩:=NU r ah (i+1)
  have a:∀p∈plD d (ah++[(i:Int)]),∃(x:Int) (s:List Int),p=ah++(i:Int)::(x::s):=fun p hp=>by
   obtain⟨j,s,_,e⟩:=g p hp
   exact⟨j,s,by rw[e];simp⟩
  simp only[plB]
  refine⟨fun p hp=>?_,?_⟩
  ·rcases BZ3.mp hp with rfl|hp
   ·exact⟨i,[],BU4 _,rfl⟩
   ·rcases List.mem_append.mp hp with hp|hp
    ·obtain⟨x,s,e⟩:=a p hp
     exact⟨i,x::s,BU4 _,e⟩
    ·obtain⟨j,s,k,e⟩:=c p hp
     exact⟨j,s,by lia,e⟩
  ·refine List.Pairwise.cons (fun p hp=>?_) (List.pairwise_append.mpr ⟨l,m,fun p hp n f=>?_⟩)
   ·rcases List.mem_append.mp hp with hp|hp
    ·obtain⟨j,s,_,e⟩:=g p hp
     rw[e];exact NH _ _ _
    ·obtain⟨j,s,k,e⟩:=c p hp
     rw[e];exact NG ah i j [] s (by lia)
   ·obtain⟨x,s,e⟩:=a p hp
    obtain⟨j,q,k,o⟩:=c n f
    rw[e,o]
    exact NG ah i j _ _ (by lia)
theorem BI3:∀(d:Deed) (a:List Int),Fr a 0 (plD d a)/\Pw (plD d a)
 | .mk h bs,a=>by simp only[plD];exact WM bs a 0
theorem WM:∀(bs:Bls) (a:List Int) (j:Nat),Fr a j (Q6 bs a j)/\Pw (Q6 bs a j)
 | .nil,a,j=>by simp only[Q6];exact⟨(fun p h=>by cases h),.nil⟩
 | .cons b r,a,j=>by
  obtain⟨g,i⟩:=NU b (a++[(j:Int)]) 0
  obtain⟨f,l⟩:=WM r a (j+1)
  have c:∀p∈plB b (a++[(j:Int)]) 0,∃(x:Int) (s:List Int),p=a++(j:Int)::(x::s):=fun p hp=>by
   obtain⟨k,s,_,e⟩:=g p hp
   exact⟨k,s,by rw[e];simp⟩
  simp only[Q6]
  refine⟨fun p hp=>?_,List.pairwise_append.mpr ⟨i,l,fun p hp m d=>?_⟩⟩
  ·rcases List.mem_append.mp hp with hp|hp
   ·obtain⟨x,s,e⟩:=c p hp
    exact⟨j,x::s,BU4 _,e⟩
   ·obtain⟨k,s,n,e⟩:=f p hp
    exact⟨k,s,by lia,e⟩
  ·obtain⟨x,s,e⟩:=c p hp
   obtain⟨k,q,n,o⟩:=f m d
   rw[e,o]
   exact NG a j k _ _ (by lia)
end
def Bn (n:Nat)(p:List Int):Prop:=p.length<=n/\∀x∈p,0<=x/\x<=1000
theorem Bn.app {n:Nat}(h:Bn n p){k:Nat}(b:k<=1000):Bn (n+1) (p++[(k:Int)]):=by
 refine⟨by have:=h.1;simp;exact this,fun x a=>?_⟩
 rcases List.mem_append.mp a with z|z
 ·exact h.2 x z
 ·have:=List.mem_singleton.mp z
  lia
theorem Bn.mono {n m:Nat}(h:Bn n p)(a:n<=m):Bn m p:=⟨CA0 h.1 a,h.2⟩
mutual
theorem TX:∀(b:Blk) (ah:List Int) (i n:Nat),okB b->i+D5 b<=1000->Bn n ah->∀p∈plB b ah i,Bn (n+1+2*dpB b) p
 | .nil,ah,i,n,_,_,_,p,hp=>by simp only[plB] at hp;cases hp
 | .cons d r,ah,i,n,c,e,a,p,hp=>by
  have f:D5 (.cons d r)=G2 d+D5 r:=rfl
  have g:dpB (.cons d r)=max (dpD d) (dpB r):=rfl
  have h:=T1 d
  simp only[plB] at hp
  rcases BZ3.mp hp with rfl|hp
  ·exact(a.app (by lia)).mono (by lia)
  ·rcases List.mem_append.mp hp with hp|hp
   ·exact(BI2 d (ah++[(i:Int)]) (n+1) c.1 (by lia) (a.app (by lia)) p hp).mono (by lia)
   ·exact(TX r ah (i+1) n c.2 (by lia) a p hp).mono (by lia)
theorem BI2:∀(d:Deed) (a:List Int) (n:Nat),okD d->G2 d<=1000->Bn n a->∀p∈plD d a,Bn (n+2*dpD d) p
 | .mk h bs,a,n,b,f,e,p,c=>by
  have g:G2 (.mk h bs)=1+K9 bs:=rfl
  have i:dpD (.mk h bs)=W6 bs:=rfl
  have j:=AP8 b.1
  simp only[plD] at c
  exact WL bs a 0 n b.2 (by lia) (by lia) e p c
theorem WL:∀(bs:Bls) (a:List Int) (j n:Nat),AG2 bs->j+bsl bs<=1000->K9 bs<=1000->Bn n a->∀p∈Q6 bs a j,Bn (n+2*W6 bs) p
 | .nil,a,j,n,_,_,_,_,p,hp=>by simp only[Q6] at hp;cases hp
 | .cons b r,a,j,n,c,e,f,d,p,hp=>by
  have g:K9 (.cons b r)=D5 b+K9 r:=rfl
  have h:W6 (.cons b r)=max (1+dpB b) (W6 r):=rfl
  have i:bsl (.cons b r)=bsl r+1:=rfl
  simp only[Q6] at hp
  rcases List.mem_append.mp hp with hp|hp
  ·exact(TX b (a++[(j:Int)]) 0 (n+1) c.1 (by lia) (d.app (by lia)) p hp).mono (by lia)
  ·exact(WL r a (j+1) n c.2 (by lia) (by lia) d p hp).mono (by lia)
end
theorem AW1 {tas:TA3}{R:List D->Mem->Prop}(h:tas σ M fun ds M1=>∃i j:Int,ds=[.int i,.int j]/\(-(2^62)<=i/\i<2^62/\-(2^62)<=j/\j<2^62)/\R ((BW8 (j-i).toNat).map fun k=>D.int (i+(k:Nat))) M1):GV tas σ M R:=h
end K11
namespace L2
open PySem PySem.Spec PyProof.Rows
def BA7 (lo c:Int)(n:Nat):It:={go:=fun i _=>i<n,yld:=fun i H x H'=>H'=H/\x=V.int (lo+(i:Nat)*c),stop:=fun i _=>n<=i}
theorem SA (it:Addr)(lo c:Int)(n:Nat):Turn P w K tg (BA7 lo c n) [it] it (fun i h=>IsRangeIter h it (lo+(i:Nat)*c) ((n:Int)-(i:Nat)) c) where
 mem:=by simp
 obj:=fun i h st b d=>by
  have e:b=it:=by simpa using d
  subst e
  exact⟨_,st,fun v z=>by
   have F:Data.fields _=Data.cell v:=z
   cases F⟩
 keep:=fun i h g st k=>k it (by simp) _ st
 item:=by
  intro X l m p q i a s C H E I j st r
  subst l m p
  obtain⟨u,x,G,y,A,B⟩:=j it (by simp)
  have W:=Walks.range (prog:=X.prog) (w:=X.w) (I.ok.hd q) it lo c n
  refine W.item i s _ _ r st fun v g D J f L=>?_
  obtain⟨t,rfl⟩:=J
  have M:Inv X a C H {s with heap:=g,toks:=D}:=I.turned (fun b o d e=>L b o (by simpa using d) e) u x y A B
  exact⟨_,rfl,QH (s:={s with heap:=g,toks:=D}) (n:="range_iterator") f rfl rfl (by decide) ⟨.int (lo+(i:Nat)*c),H,M,⟨t,rfl⟩,⟨rfl,rfl⟩,f,fun b d=>(j b d).1⟩⟩
 done:=by
  intro X l m p q i a s C H E I j st r
  subst l m p
  obtain⟨u,x,G,y,A,B⟩:=j it (by simp)
  exact wpAny_pyNext_range_end (I.ok.hd q) st (by have:n<=i:=r;lia) fun g N=>⟨rfl,I.turned (t':=s.toks) (fun b o d e=>N b o d e) u x y A B⟩
 self:=fun _ _ _ _ _ st h=>wpAny_pyIter_rangeiter st h
section
variable {X:Cx}{tg:Expr}
theorem ZQ {σ:St}{R:It->Hp->Prop}{E:Value->BV1->Prop}{lo hi c:Int}{t u v:Tok}{tk:Nat}(I:Inv X pins σ H s)(hs:CE5 lo hi c=true)(h:0<=BV9 lo hi c)
  (q:R (BA7 lo c (BV9 lo hi c).toNat) H):wpAny (model X.prog X.w) X.A (pyIter (.ref s.heap.objs.size)) (PIE X pins σ tg R) E {s with heap:=s.heap.push {cls:=.type "range",data:=.fields #[.int lo t,.int hi u,.int c v]},toks:=tk}:=by
 refine wpAny_pyIter_range (IsRange.new ..) hs ?_
 have a:Inv X pins σ H {s with heap:=s.heap.push {cls:=.type "range",data:=.fields #[.int lo t,.int hi u,.int c v]},toks:=tk}:=I.kept fun b o e=>BU6 _ e
 refine⟨(s.heap.push {cls:=.type "range",data:=.fields #[.int lo t,.int hi u,.int c v]}).objs.size,[(s.heap.push {cls:=.type "range",data:=.fields #[.int lo t,.int hi u,.int c v]}).objs.size],_,_,H,rfl,
  a.kept (t':=tk) fun b o e=>BU6 _ e,SA _ lo c (BV9 lo hi c).toNat,?_,fun b d=>?_,q⟩
 ·have f:lo+((0:Nat):Int)*c=lo:=by simp
  have g:(((BV9 lo hi c).toNat:Nat):Int)-((0:Nat):Int)=BV9 lo hi c:=by lia
  show IsRangeIter _ _ (lo+((0:Nat):Int)*c) ((((BV9 lo hi c).toNat:Nat):Int)-((0:Nat):Int)) c
  rw[f,g]
  exact BW4 _ rfl
 ·have e:b=(s.heap.push {cls:=.type "range",data:=.fields #[.int lo t,.int hi u,.int c v]}).objs.size:=by simpa using d
  subst e
  exact a.fpOk (BU4 _) (a.hok.fresh (BU4 _))
def BD9 (ta:TA):TI:=fun σ H R=>ta σ H fun vs H1=>∃i j c:Int,vs=[.int i,.int j,.int c]/\(c≠0/\CD7 (j-i) c=false/\CE5 i j c=true/\0<=BV9 i j c)/\R (BA7 i c (BV9 i j c).toNat) H1
theorem ZJ {a b c:Expr}{ta:TA}{p:Pos}(m:Gl X "range")(n:X.mg "range"=none)(o:PA X [a,b,c] ta)(hs:BX4 [a,b,c] X.env=(false,eval a X.env)::BX4 [b,c] X.env:=by rfl) (g:((CI6 pos (BX4 [b,c] X.env)).any (·.1))=false:=by rfl) :
  PI X tg (.Call (.Name "range" p) [a,b,c] [] pos) (BD9 ta):=by
 intro d s u H R I h
 refine Call_ (BI I m n boot_range (CB6 (thn (o pos d s u H _ I h) fun C D ⟨E,F,v,w,k⟩=>?_) hs g))
 obtain⟨i,j,c,e,⟨k,x,y,z⟩,q⟩:=k
 subst e
 cases w with
 | cons r f =>
  cases f with
  | cons A f =>
   cases f with
   | cons l f =>
    cases f
    obtain⟨t,rfl⟩:=r
    obtain⟨G,rfl⟩:=A
    obtain⟨B,rfl⟩:=l
    exact call_range_3 k (ZQ v y z q) (.inl x)
end
end L2
namespace L3
open PySem PySem.Spec PyProof.Rows L2
section
variable {X:Cx}{a b c e:Expr}{t:TA3}{te:TE3}{p pos:Pos}
def NA (ta:TA3):TI3:=fun σ M R=>ta σ M fun ds M1=>∃i j c:Int,ds=[.int i,.int j,.int c]/\(c≠0/\CD7 (j-i) c=false/\CE5 i j c=true/\0<=BV9 i j c)/\R ((BW8 (BV9 i j c).toNat).map fun k=>D.int (i+(k:Nat)*c)) M1
theorem TV (s:Gl X "range")(u:X.mg "range"=none)(v:PA3 X [a,b,c] t)(hs:BX4 [a,b,c] X.env=(false,eval a X.env)::BX4 [b,c] X.env:=by rfl) (g:((CI6 pos (BX4 [b,c] X.env)).any (·.1))=false:=by rfl) :
  PI3 X tg (.Call (.Name "range" p) [a,b,c] [] pos) (NA t) :=
 PI.weak (ZJ s u v.dn hs g) fun w H R2 l=>by
  obtain⟨y,M,R,hS,z,h,k⟩:=l
  refine⟨y,M,_,hS,z,h,fun S T A B st m r q=>?_⟩
  obtain⟨i,j,c,rfl,⟨C,D,E,F⟩,q⟩:=q
  cases r with
  | cons G I =>
   cases G
   cases I with
   | cons J K =>
    cases J
    cases K with
    | cons L N =>
    cases L
    cases N
    refine⟨i,j,c,rfl,⟨C,D,E,F⟩,k _ _ A B st m (fun U V W=>⟨fun n o=>?_,fun n d x Y f O=>?_,fun n o=>?_⟩) q⟩
    ·show n<(BV9 i j c).toNat
     simpa using o
    ·obtain⟨rfl,rfl⟩:=O
     refine⟨rfl,?_⟩
     rw[BV6] at f
     cases e:(BW8 (BV9 i j c).toNat)[n]? with
     | none=>rw[e] at f;cases f
     | some P =>
      rw[e] at f
      have Q:P=n:=by
       rw[CA2] at e
       ·exact(Option.some.inj e).symm
       ·have:=(List.getElem?_eq_some_iff.mp e).1;simpa using this
      subst Q
      cases f
      exact .int
    ·show(BV9 i j c).toNat<=n
     simpa using o
def EF (te:TE3):TE3:=fun σ M Q=>te σ M fun d M1=>∃p xs,d=.ref p/\M1 p=some (.lst xs)/\Q (.lst xs) (J4 M1 p)
theorem QY (h:PE3 X e te):PE3 X e (EF te):=by
 intro a s b H j M Q I hS k l
 refine thn (h a s b H j M _ I hS k l) fun u B c=>?_
 obtain⟨x,g,m,i,n,d,o,f,r,t⟩:=c
 obtain⟨p,v,rfl,w,q⟩:=t
 obtain⟨y,z,A⟩:=Vs.frzL w X.K i g o r
 exact⟨.lst v,g,J4 m p,i,n,d.less A,y,f,z,q⟩
end
end L3
namespace HT
open PySem PySem.Spec PyProof.Rows
theorem VN {α a:Type}{f:α->Option a}{g:α->a}:∀l:List α,(∀x∈l,f x=some (g x))->l.filterMap f=l.map g
 | [],_=>rfl
 | x::l,h=>by rw[CH7,h x BV7,BX1,VN l fun y b=>h y (BV5 _ b)]
theorem RC (its:Array Value)(f:Nat->Nat)(c:∀k,k<its.size->f k=its.size-1-k):((BW8 its.size).filterMap fun k=>its[f k]?)=its.toList.reverse:=by
 have d:∀x∈BW8 its.size,its[f x]?=some (its.toList.reverse.getD x .none):=fun x e=>by
  have a:x<its.size:=by simpa using e
  have g:its.toList.reverse[x]?=its.toList[its.toList.length-1-x]?:=List.getElem?_reverse (by simpa using a)
  rw[c x a,CA8,g]
  have b:its.size-1-x<its.size:=by lia
  simp[b]
 rw[VN _ d]
 refine List.ext_getElem (by simp) fun i l h=>?_
 have j:=BV4 h
 rw[List.getElem_map,List.getElem_range,CA8,j]
 rfl
section
variable {prog:BY7}{w:World}{A:CE0}{E:Value->BV1->Prop}{s:BV1}
theorem JM (its:Array Value):slicePick its none none (some (-1))=its.toList.reverse.toArray:=by
 have d:(CH2 none none (some (-1)) its.size)=((its.size:Int)-1,-1,-1):=rfl
 unfold slicePick
 show(List.filterMap (fun x=>its[x]?) (sliceRange ((its.size:Int)-1) (-1) (-1))).toArray=_
 have a:sliceRange ((its.size:Int)-1) (-1) (-1)=(BW8 its.size).map fun k=>its.size-1-k:=by
  unfold sliceRange
  have b:((if (-1:Int)>0 then if (its.size:Int)-1 < -1 then(-1-((its.size:Int)-1) + -1-1) / -1 else 0 else if (its.size:Int)-1 > -1 then((its.size:Int)-1 - -1 - -1-1) / - -1 else 0)).toNat=its.size:=by
   rw[if_neg (by decide)]
   split
   ·have:((its.size:Int)-1 - -1 - -1-1) / - -1=its.size:=by
     have e:((- -1:Int))=1:=rfl
     rw[e,Int.ediv_one];lia
    lia
   ·lia
  simp only[b]
  refine List.map_congr_left fun k c=>?_
  have:k<its.size:=by simpa using c
  lia
 rw[a,List.filterMap_map]
 congr 1
 exact RC its _ fun k _=>rfl
theorem ED {t:Tok}{n:Nat}{Q:Int×Int×Nat->BV1->Prop}(hs:s.heap.IsSliceOf sl .none .none (.int (-1) t))
  (h:Q ((n:Int)-1,-1,n) s):wpAny (model prog w) A (Builtin.Slice.sliceApplied (.ref sl) (pure (n:Int))) Q E s:=by
 obtain⟨os,a,c,b⟩:=id hs
 refine BU3 (BU3 (CF2 a b (x:=.none) rfl (BU3 (CF2 a b (x:=.none) rfl (BU3 (CF2 a b (x:=.int (-1) t) rfl (BV0 ?_)))))))
 refine BU3 (slicePart_int ?_)
 have f:CC1 none none (-1) (n:Int)=((n:Int)-1,-1):=rfl
 show wpAny _ _ (match CC1 none none (-1) (n:Int) with|(lo,hi)=>pure (lo,(-1:Int),BY8 lo hi (-1))) _ _ s
 show wpAny _ _ (pure ((n:Int)-1,(-1:Int),BY8 ((n:Int)-1) (-1) (-1))) _ _ s
 have d:BY8 ((n:Int)-1) (-1) (-1)=n:=by
  unfold BY8
  rw[if_neg (by decide)]
  split
  ·have e:((- -1:Int))=1:=rfl
   lia
  ·lia
 rw[d]
 exact BV0 h
theorem CA {tk:Tok}(b:IsTup s.heap t items)(hs:s.heap.IsSliceOf sl .none .none (.int (-1) tk))
  (h:Q (.ref s.heap.objs.size) {s with heap:=s.heap.push {cls:=.type "tuple",data:=.seq items.toList.reverse.toArray}})
  (hsz:items.size<=BV8):wpAny (model prog w) A (CJ4 (.ref t) (.ref sl)) Q E s:=by
 have a:sizeOk (.seq items.toList.reverse.toArray):=by
  show items.toList.reverse.toArray.size<=BV8
  rw[BW3,CF9,CH6]
  exact hsz
 obtain⟨os,c,d,g⟩:=id hs
 have e:s.TypeIs (.ref sl) "slice":=⟨os,c,d⟩
 unfold CJ4
 try with_reducible refine CA4 ?_
 refine BU3 (wpAny_sequenceKey b.typeIs (by decide) ?_)
 refine BU3 (CE1 (name:=Str.ofString "__getitem__") b.typeIs BZ5
  (CH8 BZ5 b.typeIs entry_tuple_getitem ?_ (args_tuple_getitem _ _)))
 show wpAny _ _ (CD8 (.ref t) >>= _) _ _ s
 refine BU3 (tupleItemsOf_ b ?_)
 refine BU3 (wpAny_typeOf e ?_)
 refine BU3 (ED hs ?_)
 have f:¬((((items.size:Int)-1==0 && (-1:Int)==1 && items.size==items.size))=true):=by simp
 show wpAny _ _ (if ((items.size:Int)-1==0 && (-1:Int)==1 && items.size==items.size)=true then _ else _) _ _ s
 have i:((BW8 items.size).filterMap fun(m:Nat)=>items[((items.size:Int)-1+(m:Int) * -1).toNat]?).toArray=items.toList.reverse.toArray:=by
  congr 1
  exact RC items _ fun k j=>by lia
 rw[if_neg f,i]
 first
  | exact BU3 (m:=BZ2 _) (BY5 (BV0 ⟨_,rfl,BV0 h⟩) a)
  | exact BU3 (m:=BZ2 _) (BY5 (BU3 (BV0 (BV0 ⟨_,rfl,BV0 h⟩))) a)
  | exact BU3 (BU3 (m:=BZ2 _) (BY5 (BV0 (BV0 ⟨_,rfl,BV0 h⟩)) a))
  | exact BU3 (BU3 (m:=BZ2 _) (BY5 (BV0 ⟨_,rfl,BV0 h⟩) a))
end
end HT
namespace L3
open PySem PySem.Spec PyProof.Rows L2
theorem IW:∀{xs:List V} {us:List Value},Vals xs us->Vals xs.reverse us.reverse
 | _,_,.nil=>.nil
 | _,_,.cons h r=>by
  rw[CJ0,CJ0]
  exact(IW r).append (.cons h .nil)
theorem Reps.rev:∀{ds:List D} {vs:List V},Reps K M H ds vs->Reps K M H ds.reverse vs.reverse
 | _,_,.nil=>.nil
 | _,_,.cons h r=>by
  rw[CJ0,CJ0]
  exact Reps.append (Reps.rev r) (.cons h .nil)
section
variable {X:Cx}{e st:Expr}{te:TE3}{ts:TO3}{pos p2:Pos}
def WS:D->Mem->DK->Prop:=fun x M Q=>match x with
 | .lst ds=>Q (.lst ds.reverse) M
 | .tup ds=>Q (.tup ds.reverse) M
 | _=>False
def LL (te:TE3)(ts:TO3):TE3:=fun σ M Q=>te σ M fun x M1=>ts σ M1 fun o M2=>o=some (-1)/\WS x M2 Q
theorem WJ (J:PE3 X e te)(y:PO3 X (some st) ts):PE3 X (.Subscript e (.Slice none none (some st) p2) pos) (LL te ts):=by
 intro a s f H D M Q I hS K h
 refine Subscript_ (thn (J a s f H D M _ I hS K h) fun v L ⟨x,Z,N,O,P,g,R,m,S,T⟩=>?_)
 refine wpAny_Slice ?_
 refine BV0 ?_
 refine BV0 ?_
 refine thn (y a L f O D N _ P (hS.mono g) R T) fun vs c z=>?_
 obtain⟨o,E,U,V,i,u,W,Y,A⟩:=z
 subst Y
 cases W with
 | int _ w =>
 have j:Inv X a f U {c with heap:=c.heap.push {cls:=.type "slice",data:=.fields #[.none,.none,.int (-1) w]}}:=V.kept (t':=c.toks) fun b F q=>BU6 _ q
 have k:({c with heap:=c.heap.push {cls:=.type "slice",data:=.fields #[.none,.none,.int (-1) w]}}:BV1).heap.IsSliceOf c.heap.objs.size .none .none (.int (-1) w):=CG8 ..
 have G:=S.mono i
 generalize ({c with heap:=c.heap.push {cls:=.type "slice",data:=.fields #[.none,.none,.int (-1) w]}}:BV1)=s3 at j k ⊢
 cases x<;>first|exact(A:False).elim|skip
 ·cases G with
  | tup B r =>
  rename_i l
  cases m
  obtain⟨C,n,p,t⟩:=j.tuple (SqT.of3 B)
  refine tail_any (ops:=[_,.ref c.heap.objs.size]) p.typeIs PyProof.Rows.slot_tuple_getitem.lookup ?_ (by with_unfolding_all rfl)
  refine HT.CA p k ?_ (by rw[BW3,<-n.length];exact t)
  have d:=j.hok.fresh (BU4 _)
  refine⟨_,.ref s3.heap.objs.size,E,_,j.laid (t':=s3.toks) (o:=.tup l.reverse) (fun b F q=>BU6 _ q) (BU4 _) ⟨by rw[CF9];exact t,_,IW n,IsTup.new _ _⟩,(g.trans i).trans (Step.lay d),u.lay d,rfl,.tup (.inl ⟨.inl D4,u.free d⟩) ((Reps.rev r).mono (Step.lay d)),A⟩
 ·cases G with
  | lst B r =>
  rename_i l
  cases m
  obtain⟨C,n,p,t⟩:=j.list (SqL.of3 B)
  refine tail_any (ops:=[_,.ref c.heap.objs.size]) p.isList.typeIs slot_list_getitem.lookup ?_ (by with_unfolding_all rfl)
  refine wpAny_getItem_list_slice p.isList k .none .none (.int _ _) (by simp) ?_ (by rw[BW3,<-n.length];exact t)
  rw[HT.JM]
  have d:=j.hok.fresh (BU4 _)
  refine⟨_,.ref s3.heap.objs.size,E,_,j.laid (t':=s3.toks) (o:=.lst l.reverse) (fun b F q=>BU6 _ q) (BU4 _) ⟨by rw[CF9];exact t,_,0,IW n,BW4 _ rfl⟩,(g.trans i).trans (Step.lay d),u.lay d,rfl,.lst (.inl ⟨.inl D4,u.free d⟩) ((Reps.rev r).mono (Step.lay d)),A⟩
end
end L3
namespace K12
open PySem L2 L3 MK K11
mutual
def prB:Blk->List Int->Nat->List (List Int×Deed)
 | .nil,_,_=>[]
 | .cons d r,ah,i=>(ah++[(i:Int)],d)::(prD d (ah++[(i:Int)])++prB r ah (i+1))
def prD:Deed->List Int->List (List Int×Deed)
 | .mk _ bs,pl=>JJ bs pl 0
def JJ:Bls->List Int->Nat->List (List Int×Deed)
 | .nil,_,_=>[]
 | .cons b r,pl,j=>prB b (pl++[(j:Int)]) 0++JJ r pl (j+1)
end
def O0:Head->Str
 | .leaf h _=>h
 | .ife _=>"if"
 | .whl _=>"while"
 | .tr _=>"try"
def nl:D->Nat
 | .tup xs=>xs.length
 | _=>0
def hasL:Deed->Bool
 | .mk (.tr cs) bs=>decide (0<nl ((dTs bs).getD (cs.length+1) (.tup [])))
 | _=>false
def U7 (r:Rl):Prop:=okB r.blk/\dpB r.blk<=4/\D5 r.blk<=100
def spDeedAt:Sp3:=fun ds M Q=>∃r p d,ds=[rD r,plT p]/\U7 r/\(p,d)∈prB r.blk [] 0/\Q (dD d) M
def spTold (f:Deed->Bool):Sp3:=fun ds M Q=>∃d,ds=[dD d]/\okD d/\Q (.bl (f d)) M
end K12
namespace K12
open PySem L2 L3
abbrev JS:List Str:=["rule","place","deed","at"]
def LN:TS3 :=
  (A8 (C0 2 (A6 C1 (A6 C1 (A4 0) (tC3 (.int 2))) (A6 C1 (A4 1) (tC3 (.int 0)))))
  (A8 (N7 (NA (A0 (tC3 (.int 1)) (A0 (F0 D8 (A0 (A4 1) A5)) (A0 (tC3 (.int 2)) A5)))) 3 (C0 2 (A6 C1 (A6 C1 (A7 MK.CS (A0 (A4 2) A5)) (A6 C1 (A4 1) (A4 3))) (A6 C1 (A4 1) (A6 D0 (A4 3) (tC3 (.int 1)))))))
  (B4 (A4 2))))
theorem UJ (d0 a:D):B8 JS [d0,a]=[some d0,some a,none,none]:=rfl
abbrev EH:List Str:=["deed"]
def FA:TS3 :=
  (B4 (R4 (A6 D7 (A6 C1 (A4 0) (tC3 (.int 0))) (tC3 (.str "try"))) (A6 CL (F0 D8 (A0 (A6 C1 (A4 0) (tC3 (.int 3))) A5)) (tC3 (.int 0)))))
theorem OP (d0:D):B8 EH [d0]=[some d0]:=rfl
end K12
namespace L3
open PySem PySem.Spec PyProof.Rows L2
def isStar:Expr->Bool
 | .Starred ..=>true
 | _=>false
theorem F1 (h:isStar e=false)(es:List Expr)(env:Env):BX4 (e::es) env=(false,eval e env)::BX4 es env:=by
 cases e<;>first|rfl|cases h
theorem BP2 {X:Cx}{t:TA3}(a:PE3 X e te)(b:PA3 X es t)(hs:isStar e=false:=by rfl):PA3 X (e::es) (A0 te t):=QV a b (F1 hs es _)
section
variable {X:Cx}{e i:Expr}{te ti:TE3}{pos:Pos}
def AZ9 (i:Nat)(te:TE3):TS3:=fun T σ M=>∃a,σ[i]?=some (some (.int a))/\te σ M fun d M1=>∃b,d=.int b/\T.nx (σ.set i (some (.int (a+b)))) M1
theorem AU5 {i:Nat}{pos':Pos}(f:X.N.Nodup)(hi:X.N[i]?=some x)(g:Loc X.env.scope x)(j:PE3 X e te)(k:X.fn x=true\/X.env.scope.names.lookup x=some .local:=by first|exact .inl rfl|exact .inr rfl|assumption) :
  PS3 X (.AugAssign (.Name x pos') .Add e pos) (AZ9 i te):=PS3.of (BI8 f hi g j.dn BE1 k) fun c s l H n M T I hS o h=>by
 obtain⟨a,p,h⟩:=h
 obtain⟨v,t,r⟩:=hS.get _ _ p
 cases r
 refine⟨.int a,t,n,M,_,hS,o,h,fun d v u w st m r q=>?_⟩
 obtain⟨b,rfl,q⟩:=q
 cases r
 exact⟨a,b,rfl,rfl,_,u,st,m,(hS.mono st).set .int _,q⟩
def QM (M:Mem)(x:D)(ds:List D):Prop:=x=.lst ds\/∃a,x=.ref a/\M a=some (.lst ds)
theorem QN {x:D}(m:MRel K M H)(r:Rep K M H x v)(e:QM M x ds):∃p vs,v=.ref p/\SqL K H p vs/\Reps K M H ds vs:=by
 rcases e with rfl|⟨a,rfl,b⟩
 ·cases r with|lst h r=>exact⟨_,_,rfl,SqL.of3 h,r⟩
 ·cases r
  obtain⟨c,d,r⟩:=m _ _ b
  cases c<;>first|exact(r:False).elim|skip
  exact⟨_,_,rfl,.inl (.inl d),r⟩
def G9:R3:=fun x y M Q=>∃ds es,QM M x ds/\QM M y es/\ds.length+es.length<=BV8/\∀p,M p=none->Q (.ref p) (D9 M p (.lst (ds++es)))
theorem AR1:OpR3 X (CE2 .Add) G9:=by
 rintro j s D H M x y xv yv v u Q I m E G J K ⟨L,N,O,P,hz,q⟩
 obtain⟨k,R,rfl,S,l⟩:=QN m J O
 obtain⟨o,T,rfl,U,p⟩:=QN m K P
 cases E;cases G
 obtain⟨b,r,k,z1⟩:=I.list S
 obtain⟨a,t,o,z2⟩:=I.list U
 obtain⟨⟨V,W,w,Y⟩,z,A,n,B⟩:=k.isList
 obtain⟨⟨C,f,g,h⟩,c,d,Z,e⟩:=o.isList
 simp only at A B d e
 subst A B d e
 have l1:=l.length
 have l2:=p.length
 have l3:=r.length
 have l4:=t.length
 refine concat_meets ⟨_,z,rfl⟩ ⟨_,c,rfl⟩ noFill_list_add seq_list_add PySem.F.slot_list_add PySem.F.entry_list_add (PySem.F.args_list_add_2 _ _) (list_addW _ _ _ _ n Z W f Y h (by simp;lia)) ⟨z,c,?_⟩
 have ea:b.toArray++a.toArray=(b++a).toArray:=by simp
 rw[ea]
 have i:=I.fresh
 have rr:=l.append p
 exact⟨.ref s.heap.objs.size,.ref s.heap.objs.size,D9 M s.heap.objs.size (.lst (L++N)),_,I.lnew (t':=s.toks) (r.append t) (by rw[BU7];lia),Step.put (.inl i),m.put (.inl i) rr,rfl,.ref,q _ (m.free i)⟩
theorem N2 {x:D}{es:List D}{Q:DK}(a:QM M x ds)(b:QM M y es)(c:ds.length+es.length<=BV8)(h:∀p,M p=none->Q (.ref p) (D9 M p (.lst (ds++es)))):G9 x y M Q:=⟨ds,es,a,b,c,h⟩
def BT0 (P:Params)(r:Str×Tok×Addr):DictEntry:=⟨BZ1 P r.1,.str r.1 r.2.1,.ref r.2.2⟩
inductive GRows (K:BU5):List (Str×Tok×Addr)->List (Str×List Str)->Prop
 | nil:GRows K [] []
 | cons {s:Str} {t:Tok} {b:Addr} {xs:List Str} {rows:List (Str×Tok×Addr)} {tbl:List (Str×List Str)}:BA8 K b (xs.map V.str)->GRows K rows tbl->GRows K ((s,t,b)::rows) ((s,xs)::tbl)
def AX0 (K:BU5)(P:Params)(a:Addr)(tbl:List (Str×List Str)):Prop:=∃(rows:List (Str×Tok×Addr)) (ep:Nat),K.lookup a=some ⟨.type "dict",none,.dict (rows.map (BT0 P)).toArray ep,#[]⟩/\(rows.map (·.1)).Nodup/\GRows K rows tbl
end
end L3
namespace PySem.SeqAt
open AutoSeq1 (wpAny_loadPart')
open MeetsSeq
end PySem.SeqAt
namespace HT
open PySem PySem.Spec PyProof.Rows L2
theorem AQ {E:Value->BV1->Prop}{f g:Value}(a:IsTup s.heap t items)(hs:s.heap.IsSliceOf sl f g .none)(j:IsPart f lo)(k:IsPart g hi)
  (i:sIx items.size 0 lo=0/\sIx items.size items.size hi=items.size) (h:Q (.ref t) s):wpAny (model prog w) A (CJ4 (.ref t) (.ref sl)) Q E s:=by
 obtain⟨os,c,d,l⟩:=id hs
 have e:s.TypeIs (.ref sl) "slice":=⟨os,c,d⟩
 unfold CJ4
 try with_reducible refine CA4 ?_
 refine BU3 (wpAny_sequenceKey a.typeIs (by decide) ?_)
 refine BU3 (CE1 (name:=Str.ofString "__getitem__") a.typeIs BZ5
  (CH8 BZ5 a.typeIs entry_tuple_getitem ?_ (args_tuple_getitem _ _)))
 show wpAny _ _ (CD8 (.ref t) >>= _) _ _ s
 refine BU3 (tupleItemsOf_ a ?_)
 refine BU3 (wpAny_typeOf e ?_)
 refine BU3 (T5 hs j k ?_)
 have b:(((sIx items.size 0 lo:Nat):Int)==0 && (1:Int)==1 && (sIx items.size items.size hi-sIx items.size 0 lo)==items.size)=true:=by
  rw[i.1,i.2];simp
 show wpAny _ _ (if (((sIx items.size 0 lo:Nat):Int)==0 && (1:Int)==1 && (sIx items.size items.size hi-sIx items.size 0 lo)==items.size)=true then _ else _) _ _ s
 rw[if_pos b]
 refine BU3 ?_
 first
  | exact wpAny_typeOf a.typeIs (by rw[if_pos (by decide)];exact BU3 (wpAny_rule (BV0 ⟨_,rfl,BV0 h⟩)))
  | exact BU3 (wpAny_typeOf a.typeIs (BV0 (by exact BU3 (wpAny_rule (BV0 ⟨_,rfl,BV0 h⟩)))))
end HT
namespace L3
open PySem PySem.Spec PyProof.Rows L2
section
variable {X:Cx}{pins:List (Addr×Obj)}{σv:L2.St}{M:Mem}{H:Hp}{s:BV1}
end
section
variable {X:Cx}{e:Expr}{te:TE3}{pos:Pos}
def AZ1 (K:BU5):V->Option Int->Option Int->Hp->VK->Prop:=fun x lo hi H Q=>∃a xs,x=.ref a/\SqT K H a xs /\
 (HT.sIx xs.length 0 lo=0/\HT.sIx xs.length xs.length hi=xs.length)/\Q (.ref a) H
theorem AW6:SlR X (AZ1 X.K):=by
 intro d s n H x v o p lo t u Q I f g i j h
 obtain⟨a,k,rfl,l,m,q⟩:=h
 cases f
 obtain⟨c,r,e,w⟩:=I.tuple l
 have b:c.toArray.size=k.length:=by rw[BW3];exact r.length.symm
 refine⟨"tuple",_,PyProof.Rows.slot_tuple_getitem.lookup,e.typeIs,?_⟩
 exact HT.AQ e g i j (by rw[b];exact m) ⟨.ref a,H,I,rfl,q⟩
def Y1:D->Option Int->Option Int->Mem->DK->Prop:=fun x lo hi M Q=>match x with
 | .lst ds=>Q (.lst (cutD ds lo hi)) M
 | .tup ds=>Q (.tup (cutD ds lo hi)) M
 | .str z=>z.length<=BV8/\Q (.str (Txt.slice z lo hi)) M
 | _=>False
def Y7 (te:TE3)(tl th:TO3):TE3:=fun σ M Q=>te σ M fun x M1=>tl σ M1 fun l M2=>th σ M2 fun u M3=>Y1 x l u M3 Q
theorem XY (h:HT.sIx ds.length 0 lo=0/\HT.sIx ds.length ds.length hi=ds.length):cutD ds lo hi=ds:=by
 unfold cutD
 rw[h.1,h.2]
 simp
theorem AS7 {lo hi:Option Expr}{tl th:TO3}{p2:Pos}(G:PE3 X e te)(J:PO3 X lo tl)(L:PO3 X hi th) :
  PE3 X (.Subscript e (.Slice lo hi none p2) pos) (Y7 te tl th):=by
 intro a s c H A M Q I hS N h
 refine Subscript_ (thn (G a s c H A M _ I hS N h) fun v O ⟨x,o,P,R,S,i,U,B,V,W⟩=>?_)
 refine wpAny_Slice (thn (J a O c R A P _ S (hS.mono i) U W) fun C Y ⟨l,Z,H2,I2,j,m2,pl,q2⟩=>thn (L a Y c H2 A Z _ I2 (hS.mono (i.trans j)) m2 q2) fun D k ⟨u,M3,d,I3,t,m,pu,f⟩=>?_)
 refine BV0 ?_
 have I4:Inv X a c d {k with heap:=k.heap.push {cls:=.type "slice",data:=.fields #[C,D,.none]}}:=I3.kept (t':=k.toks) fun b ob q=>BU6 _ q
 have E:=V.mono (j.trans t)
 have F:((AV5 X.K o l u d (Up X.K M3 d Q)\/AV6 X.K o l u d (Up X.K M3 d Q))\/BJ4 o l u d (Up X.K M3 d Q))\/AZ1 X.K o l u d (Up X.K M3 d Q):=by
  cases x with
  | str z =>
   cases E
   exact .inl (.inr ⟨_,rfl,f.1,up0 m .str f.2⟩)
  | tup n =>
   cases E with|tup w r =>
   by_cases y:HT.sIx n.length 0 l=0/\HT.sIx n.length n.length u=n.length
   ·have f:Q (.tup (cutD n l u)) M3:=f
    rw[XY y] at f
    exact .inr ⟨_,_,rfl,SqT.of3 w,by rw[<-r.length];exact y,up0 m (.tup w r) f⟩
   ·rw[r.length] at y
    exact .inl (.inl (.inr ⟨_,_,rfl,SqT.of3 w,y,fun p g=>⟨_,M3,Step.lay g,m.lay g,.tup (.inl ⟨.inl D4,m.free g⟩) ((r.cut l u).mono (Step.lay g)),f⟩⟩))
  | lst n =>
   cases E with|lst w r =>
   refine .inl (.inl (.inl ⟨_,_,rfl,SqL.of3 w,fun p g=>?_⟩))
   exact⟨_,M3,Step.lay g,m.lay g,.lst (.inl ⟨.inl D4,m.free g⟩) ((r.cut l u).mono (Step.lay g)),f⟩
  | _=>exact(f:False).elim
 obtain⟨T,id,hT,ht,hg⟩:=(((sl_list.or UI).or AL7).or AW6) a {k with heap:=k.heap.push {cls:=.type "slice",data:=.fields #[C,D,.none]}} c d o v C D l u k.heap.objs.size _ I4 B (CG8 ..) pl pu F
 exact tail_any (ops:=[.ref k.heap.objs.size,v]) ht hT (thn hg fun _ _ z=>(P0 z).trans ((i.trans j).trans t)) (by with_unfolding_all rfl)
end
theorem BT6 {X:Cx}{tl:TE}(m:PE X l tl):PI X tg l (fun σ H R=>tl σ H fun v H'=>∃a,v=.ref a/\(((∃xs,SqL X.K H' a xs)/\R (Itl X.K a) H')\/((∃xs,SqT X.K H' a xs)/\R (Itt X.K a) H'))):=by
 intro f s σ H R I h
 refine thn (m f s σ H _ I h) fun v c n=>?_
 obtain⟨x,k,d,r,a,rfl,q⟩:=n
 cases r
 rcases q with⟨⟨xs,i⟩,q⟩|⟨⟨xs,i⟩,q⟩
 ·obtain⟨g,t,p,u⟩:=d.list i
  refine wpAny_pyIter_list p.isList ?_
  refine⟨c.heap.objs.size,[c.heap.objs.size],_,_,k,rfl,d.kept (t':=c.toks) fun b o e=>BU6 _ e,LQ a _,⟨_,BW4 _ rfl,rfl,rfl⟩,fun b j=>?_,q⟩
  have e:b=c.heap.objs.size:=by simpa using j
  subst e
  exact d.fpOk (BU4 _) (d.hok.fresh (BU4 _))
 ·obtain⟨g,t,p,u⟩:=d.tuple i
  refine CJ2 (show c.heap.IsTuple a g.toArray from p) ?_
  refine⟨c.heap.objs.size,[c.heap.objs.size],_,_,k,rfl,d.kept (t':=c.toks) fun b o e=>BU6 _ e,IT a _,⟨_,BW4 _ rfl,rfl,rfl⟩,fun b j=>?_,q⟩
  have e:b=c.heap.objs.size:=by simpa using j
  subst e
  exact d.fpOk (BU4 _) (d.hok.fresh (BU4 _))
def onQ (R:List D->Mem->Prop):DK:=fun d M1=>match d with
 | .lst ds=>R ds M1
 | .tup ds=>R ds M1
 | _=>False
def iQ3 (te:TE3):TI3:=fun σ M R=>te σ M (onQ R)
theorem BP4 {X:Cx}{a:Expr}(A:PE3 X a te):PI3 X tg a (iQ3 te):=by
 refine PI.weak (BT6 A.dn) fun B H R2 p=>?_
 obtain⟨C,M,R,hS,D,h,k⟩:=p
 refine⟨C,M,_,hS,D,h,fun d v y z st m r q=>?_⟩
 cases r<;>first|exact(q:False).elim|skip
 ·rename_i s l b n t
  refine⟨s,rfl,.inr ⟨⟨b,SqT.of3 n⟩,k l _ y z st m (fun E F o=>?_) q⟩⟩
  have e:=SqT.of3 (n.imp (Fix.mono o) id)
  have f:=t.mono o
  refine⟨fun i g=>?_,fun i d x G u j=>?_,fun i g=>?_⟩
  ·obtain⟨v,c,_⟩:=f.get (i:=i) (d:=l[i]) (by simp[g])
   exact⟨b,v,e,c⟩
  ·obtain⟨rfl,j⟩:=j
   obtain⟨v,c,w⟩:=f.get u
   rw[j b e] at c
   cases c
   exact⟨rfl,w⟩
  ·exact⟨b,e,by rw[<-f.length];exact g⟩
 ·rename_i s l b n t
  refine⟨s,rfl,.inl ⟨⟨b,SqL.of3 n⟩,k l _ y z st m (fun E F o=>?_) q⟩⟩
  have e:=SqL.of3 (n.imp (Fix.mono o) id)
  have f:=t.mono o
  refine⟨fun i g=>?_,fun i d x G u j=>?_,fun i g=>?_⟩
  ·obtain⟨v,c,_⟩:=f.get (i:=i) (d:=l[i]) (by simp[g])
   exact⟨b,v,e,c⟩
  ·obtain⟨rfl,j⟩:=j
   obtain⟨v,c,w⟩:=f.get u
   rw[j b e] at c
   cases c
   exact⟨rfl,w⟩
  ·exact⟨b,e,by rw[<-f.length];exact g⟩
end L3
namespace L3
open PySem L2
instance rd_slW {te:TE3}{tl th:TO3}{σ:Lo}{M:Mem}{Q:DK}:RdC (Y7 te tl th σ M Q) (te σ M fun x M1=>tl σ M1 fun l M2=>th σ M2 fun u M3=>Y1 x l u M3 Q):=⟨fun h=>h⟩
instance rd_slWT {ds:List D}{l u:Option Int}{M:Mem}{Q:DK}:RdC (Y1 (.tup ds) l u M Q) (Q (.tup (cutD ds l u)) M):=⟨fun h=>h⟩
def BA5 (g:TG3)(tt:TT3)(te:TE3)(σ0:Lo)(ds:List D)(M1:Mem)(Q:DK):Prop:=∀p,M1 p=none->∃Pv:Nat->List D->Mem->Prop,Pv 0 [] (D9 M1 p (.lst [])) /\
 (∀k d acc M,ds[k]?=some d->Pv k acc M->g d σ0 M fun σ' M0=>tt σ' M0 fun b M' =>
  if b=true then te σ' M' fun e M''=>M'' p=some (.lst acc)/\acc.length<BV8/\Pv (k+1) (acc++[e]) (D9 M'' p (.lst (acc++[e]))) else Pv (k+1) acc M') /\
 ∀acc M,Pv ds.length acc M->M p=some (.lst acc)/\Q (.ref p) M
instance rd_compM {ti:TI3}{n:Nat}{slots:List Nat}{g:TG3}{tt:TT3}{te:TE3}{σ:Lo}{M:Mem}{Q:DK}:RdC (OS ti n slots g tt te σ M Q) (ti σ M fun ds M1=>BA5 g tt te (BX2 n none++slots.map fun j=>(σ[j]?).getD none) ds M1 Q):=⟨fun h=>h⟩
theorem Q1 {u:TG3}{m:Lo}{M1:Mem}{Q:DK}(l:List α)(f g:α->D)(c:α->Bool)(z:l.length<BV8)
  (n:∀a∈l,∀M2 (R:D->Mem->Prop) (F:Mem->Prop),(∀x,M1 x≠none->M2 x=M1 x)->(c a=true->R (g a) M2)->(c a=false->F M2)->u (f a) m M2 fun o M3=>tt o M3 fun y M4=>if y=true then te o M4 R else F M4)
  (done:Q (.lst ((l.filter c).map g)) M1):UR u tt te m (l.map f) M1 Q:=by
 intro p v
 refine⟨fun k i M2=>i=((l.take k).filter c).map g/\M2 p=some (.lst i)/\∀a,a≠p->M2 a=M1 a,⟨rfl,B0,fun a h=>B3 h⟩,?_,?_⟩
 ·rintro k d i M2 q ⟨rfl,e,b⟩
  have r:k<l.length:=by simpa using(List.getElem?_eq_some_iff.mp q).1
  have s:d=f l[k]:=by
   rw[BV6,BV4 r] at q
   exact(Option.some.inj q).symm
  subst s
  have j:(((l.take k).filter c).map g).length<=k:=by
   rw[BU2]
   exact CA0 (CJ9 _ _) (by simp;lia)
  have w:l.take (k+1)=l.take k++[l[k]]:=by rw[CD9,BV4 r];rfl
  refine n l[k] (CC5 r) M2 _ _ (fun a h=>b a (by rintro rfl;exact h v)) (fun t=>⟨e,by lia,?_,B0,fun a h=>by rw[B3 h];exact b a h⟩) (fun t=>⟨?_,e,b⟩)
  ·rw[w,List.filter_append,List.filter_cons_of_pos t,BX0];rfl
  ·rw[w,List.filter_append,List.filter_cons_of_neg (by rw[t];simp),BX0];simp
 ·rintro i M2 ⟨rfl,e,b⟩
  have j:(l.map f).length=l.length:=by simp
  rw[j,CF7] at e ⊢
  have:J4 M2 p=M1:=funext fun a=>by
   by_cases h:a=p
   ·subst h;rw[Q0,v]
   ·rw[I0 h];exact b a h
  rw[this]
  exact⟨e,done⟩
theorem View.keep {Q:DK}{d:D}{M1:Mem}(h:∀x,M x≠none->M1 x=M x)(q:Q d M):View Q d M1:=View.sub (fun a o e=>by rw[h a (by rw[e];simp)];exact e) q
instance rd_revE {te:TE3}{ts:TO3}{σ:Lo}{M:Mem}{Q:DK}:RdC (LL te ts σ M Q) (te σ M fun x M1=>ts σ M1 fun o M2=>o=some (-1)/\WS x M2 Q):=⟨fun h=>h⟩
instance rd_revL {ds:List D}{M:Mem}{Q:DK}:RdC (WS (.lst ds) M Q) (Q (.lst ds.reverse) M):=⟨fun h=>h⟩
end L3
open L3
namespace K12
open PySem L2 L3 MK K11
mutual
theorem S2:∀(b:Blk) (ah:List Int) (i:Nat),(prB b ah i).map Prod.fst=plB b ah i
 | .nil,ah,i=>by simp only[prB,plB,CH1]
 | .cons d r,ah,i=>by simp only[prB,plB,BX1,BX0,AU3 d,S2 r]
theorem AU3:∀(d:Deed) (a:List Int),(prD d a).map Prod.fst=plD d a
 | .mk h bs,a=>by simp only[prD,plD,RE bs]
theorem RE:∀(bs:Bls) (a:List Int) (j:Nat),(JJ bs a j).map Prod.fst=Q6 bs a j
 | .nil,a,j=>by simp only[JJ,Q6,CH1]
 | .cons b r,a,j=>by simp only[JJ,Q6,BX0,S2 b,RE r]
end
theorem FT (b:Blk)(ah:List Int)(i:Nat):(prB b ah i).length=D5 b:=by rw[<-AG b ah i,<-S2,BU2]
inductive Go:Deed->List Int->Deed->Prop
 | nil {d:Deed}:Go d [] d
 | cons {h:Head} {bs:Bls} {j i:Nat} {b:Blk} {d' d:Deed} {r:List Int}:(C5 bs)[j]?=some b->(toL b)[i]?=some d'->Go d' r d->Go (.mk h bs) ((j:Int)::(i:Int)::r) d
mutual
theorem X8:∀(b:Blk) (ah:List Int) (i:Nat) (p:List Int) (d:Deed),(p,d)∈prB b ah i->∃(k:Nat) (r:List Int) (d0:Deed),p=ah++((i+k:Nat):Int)::r/\(toL b)[k]?=some d0/\Go d0 r d
 | .nil,ah,i,p,d,h=>by simp only[prB] at h;cases h
 | .cons x y,ah,i,p,d,h=>by
  simp only[prB] at h
  rcases BZ3.mp h with h|h
  ·cases h
   exact⟨0,[],x,rfl,rfl,.nil⟩
  ·rcases List.mem_append.mp h with h|h
   ·obtain⟨r,e,g⟩:=BI4 x _ p d h
    exact⟨0,r,x,by rw[e];simp,rfl,g⟩
   ·obtain⟨k,r,d0,e,g,z⟩:=X8 y ah (i+1) p d h
    exact⟨k+1,r,d0,by rw[e,show i+1+k=i+(k+1) by lia],g,z⟩
theorem BI4:∀(d0:Deed) (a:List Int) (p:List Int) (d:Deed),(p,d)∈prD d0 a->∃r:List Int,p=a++r/\Go d0 r d
 | .mk h bs,a,p,d,c=>by
  simp only[prD] at c
  obtain⟨m,k,r,b,d0,e,g1,g2,g⟩:=WN bs a 0 p d c
  exact⟨_,e,.cons (j:=0+m) (by rw[BW6];exact g1) g2 g⟩
theorem WN:∀(bs:Bls) (a:List Int) (j:Nat) (p:List Int) (d:Deed),(p,d)∈JJ bs a j->∃(m k:Nat) (r:List Int) (b:Blk) (d0:Deed),p=a++((j+m:Nat):Int)::(k:Int)::r/\(C5 bs)[m]?=some b/\(toL b)[k]?=some d0/\Go d0 r d
 | .nil,a,j,p,d,h=>by simp only[JJ] at h;cases h
 | .cons x y,a,j,p,d,h=>by
  simp only[JJ] at h
  rcases List.mem_append.mp h with h|h
  ·obtain⟨k,r,d0,e,g,z⟩:=X8 x _ 0 p d h
   exact⟨0,k,r,x,d0,by rw[e];simp,rfl,g,z⟩
  ·obtain⟨m,k,r,b,d0,e,g1,g2,g⟩:=WN y a (j+1) p d h
   exact⟨m+1,k,r,b,d0,by rw[e,show j+1+m=j+(m+1) by lia],g1,g2,g⟩
end
theorem Go.ok {d':Deed}{r:List Int}(g:Go d r d'):okD d->okD d':=by
 induction g with
 | nil=>exact id
 | cons a b _ c=>exact fun e=>c ((P8 _ _ (BV2 b)).2.2 ((G8 _ _ (BV2 a)).2.2 e.2))
theorem Y0 {b:Blk}(a:okB b)(h:(p,d)∈prB b [] 0):okD d:=by
 obtain⟨k,r,e,_,c,g⟩:=X8 b [] 0 p d h
 exact g.ok ((P8 _ _ (BV2 c)).2.2 a)
theorem O4 (a:U7 r)(h:(p,d)∈prB r.blk [] 0):p.length<=9:=by
 obtain⟨b,g,i⟩:=a
 have c:p∈plB r.blk [] 0:=by rw[<-S2];exact List.mem_map_of_mem (f:=Prod.fst) h
 have:=(TX r.blk [] 0 0 b (by lia) ⟨BU4 _,fun x e=>by cases e⟩ p c).1
 lia
theorem QI (h:Head)(ts:List D):∃rest,headD h ts=.tup (.str (O0 h)::rest):=by
 cases h<;>exact⟨_,rfl⟩
theorem VE (bs:Bls)(k:Nat):∃xs,(dTs bs).getD k (.tup [])=.tup xs:=by
 rw[O2,CA8,BV6]
 cases(C5 bs)[k]? with
 | none=>exact⟨_,rfl⟩
 | some b=>exact⟨_,rfl⟩
theorem BD8 (n:Nat):decide ((0:Int)<(n:Nat))=decide (0<n):=by
 rcases CG0 n with h|h
 ·subst h;rfl
 ·rw[decide_eq_true (by lia),decide_eq_true h]
theorem rd_has_lasts:∀ds M Q,spTold hasL ds M Q->FA {nx:=fun _ M'=>View Q .non M',rt:=View Q} (B8 EH ds) M:=by
 rintro _ M Q ⟨d,rfl,c,q⟩
 rw[OP]
 unfold FA
 cases d with
 | mk h bs =>
  have no:(O0 h==("try":Str))=false->hasL (.mk h bs)=false->(B4 (R4 (A6 D7 (A6 C1 (A4 0) (tC3 (.int 0))) (tC3 (.str "try"))) (A6 CL (F0 D8 (A0 (A6 C1 (A4 0) (tC3 (.int 3))) A5)) (tC3 (.int 0))))) {nx:=fun _ M'=>View Q .non M',rt:=View Q} [some (dD (.mk h bs))] M:=by
   intro k l
   obtain⟨a,e⟩:=QI h (dTs bs)
   have f:dD (.mk h bs)=.tup (.str (O0 h)::a):=e
   rw[l] at q
   rw[f]
   walk_at "rd"
   refine B2 (d:=.str (O0 h)) (B7 (j:=0) rfl) ?_
   walk_at "rd"
   rw[k,if_neg BU9]
   exact View.of q
  cases h with
  | leaf h r=>exact no (U1 c.1.2).2.2 rfl
  | ife e=>exact no (show((("if":Str))==("try":Str))=false by decide +kernel) rfl
  | whl e=>exact no (show((("while":Str))==("try":Str))=false by decide +kernel) rfl
  | tr b =>
   obtain⟨g,ex⟩:=VE bs (b.length+1)
   have i:Q (.bl (decide (0<nl ((dTs bs).getD (b.length+1) (.tup []))))) M:=q
   have f:dD (.mk (.tr b) bs)=.tup [.str "try",(dTs bs).getD 0 (.tup []),.tup (E5 b (dTs bs).tail),.tup g]:=by rw[<-ex];rfl
   rw[ex] at i
   rw[f]
   walk_at "rd"
   refine B2 (d:=.str "try") rfl ?_
   walk_at "rd"
   rw[show((("try":Str))==("try":Str))=true by decide +kernel]
   walk_at "rd"
   refine B2 (d:=.tup g) rfl ?_
   walk_at "rd"
   rw[BD8]
   exact View.of i
theorem AW2 {tas:TA3}{R:List D->Mem->Prop}(h:tas σ M fun ds M1=>∃i j c:Int,ds=[.int i,.int j,.int c]/\(c≠0/\CD7 (j-i) c=false/\CE5 i j c=true/\0<=BV9 i j c)/\R ((BW8 (BV9 i j c).toNat).map fun k=>D.int (i+(k:Nat)*c)) M1):NA tas σ M R:=h
theorem AW3 (n:Nat)(h:n<=9):CD7 ((n:Int)-1) 2=false/\CE5 1 (n:Int) 2=true/\0<=BV9 1 (n:Int) 2:=by
 have:n=0\/n=1\/n=2\/n=3\/n=4\/n=5\/n=6\/n=7\/n=8\/n=9:=by lia
 rcases this with h|h|h|h|h|h|h|h|h|h<;>subst h<;>exact⟨by decide +kernel,by decide +kernel,by decide +kernel⟩
theorem AL0 (n:Nat):(BV9 1 (n:Int) 2).toNat=n / 2:=by
 unfold BV9
 rw[if_pos (by decide)]
 split<;>lia
theorem rd_deed_at:∀ds M Q,spDeedAt ds M Q->LN {nx:=fun _ M'=>View Q .non M',rt:=View Q} (B8 JS ds) M:=by
 rintro _ M Q ⟨r,p,d,rfl,B,C,q⟩
 have s:=O4 B C
 obtain⟨E,L,F,G,H,N⟩:=X8 r.blk [] 0 p d C
 rw[UJ]
 unfold LN
 walk_at "rd"
 refine B2 (d:=.tup (dB r.blk)) rfl ?_
 walk_at "rd"
 refine B2 (d:=.int (E:Nat)) (by rw[G];rw[BW6];exact B7 (j:=0) rfl) ?_
 walk_at "rd"
 refine B2 (d:=dD F) (B7 (by rw[KE,BV6,H];rfl)) ?_
 walk_at "rd"
 refine AW2 ?_
 walk_at "rd"
 obtain⟨O,P,R⟩:=AW3 p.length s
 refine⟨1,(p.length:Nat),2,by rw[BU2],⟨by decide,O,P,R⟩,?_⟩
 rw[AL0]
 refine⟨fun k t u=>u=M/\∃(l:Deed) (a o:List Int) (v:Option D),t=[some (rD r),some (plT p),some (dD l),v]/\p=a++o/\a.length=1+2*k/\Go l o d/\okD l,⟨rfl,F,[((0+E:Nat):Int)],L,_,rfl,by rw[G];rfl,rfl,N,(P8 _ _ (BV2 H)).2.2 B.1⟩,?_,?_⟩
 ·rintro k x t u w ⟨rfl,l,a,o,v,rfl,f,m,g,e⟩
  have I:k<p.length / 2:=by simpa using(List.getElem?_eq_some_iff.mp w).1
  have y:x=.int (1+(k:Nat)*2):=by
   rw[BV6,CA2 I] at w
   exact(Option.some.inj w).symm
  subst y
  cases g with
  | nil =>
   exfalso
   rw[f,CA9] at I
   lia
  | @cons h bs j i b n _ S J K T =>
  have z:p[1+2*k]?=some (j:Int):=by rw[f,<-m,BY0 (BU4 _),Nat.sub_self];rfl
  have A:p[1+2*k+1]?=some (i:Int):=by rw[f,<-m,BY0 (by lia),show a.length+1-a.length=1 by lia];rfl
  walk_at "rd"
  refine⟨h,bs,rfl,e.1,?_⟩
  walk_at "rd"
  refine B2 (d:=.int (j:Nat)) (by rw[show(1:Int)+(k:Nat)*2=((1+2*k:Nat):Int) by lia];exact B7 (by rw[BV6,z];rfl)) ?_
  refine S7 (d:=.tup (dB b)) (B7 (by rw[O2,BV6,J];rfl)) ?_
  walk_at "rd"
  refine B2 (d:=.int (i:Nat)) (by rw[show(1:Int)+(k:Nat)*2+1=((1+2*k+1:Nat):Int) by lia];exact B7 (by rw[BV6,A];rfl)) ?_
  refine B2 (d:=dD n) (B7 (by rw[KE,BV6,K];rfl)) ?_
  walk_at "rd"
  exact⟨rfl,n,a++[(j:Int),(i:Int)],S,_,rfl,by rw[f];simp,by simp[m];lia,T,(P8 _ _ (BV2 K)).2.2 ((G8 _ _ (BV2 J)).2.2 e.2)⟩
 ·rintro t u ⟨rfl,l,a,o,v,rfl,f,m,g,e⟩
  rw[BU2,CG3] at m
  have c:=congrArg CB7 f
  rw[BU7] at c
  cases g with
  | nil =>
   walk_at "rd"
   exact View.of q
  | cons _ _ _=>exfalso;simp only[BU8] at c;lia
end K12
open L3
namespace K12
open PySem L2 L3 MK K11
theorem AF4 {M':Mem}{a:Addr}(h:M a=none)(hs:∀x,x≠a->M' x=M x):J4 M' a=M:=funext fun x=>by
 unfold J4
 split
 ·rename_i e;rw[e,h]
 ·rename_i e;exact hs x e
instance rd_frzE {te:TE3}{σ:Lo}{M:Mem}{Q:DK}:RdC (EF te σ M Q) (te σ M fun d M1=>∃p xs,d=.ref p/\M1 p=some (.lst xs)/\Q (.lst xs) (J4 M1 p)):=⟨fun h=>h⟩
end K12
namespace L3
open PySem PySem.Spec PyProof.Rows L2
section
variable {X:Cx}{pins:List (Addr×Obj)}{σv:L2.St}{H:Hp}{s:BV1}{M:Mem}
theorem AQ0:∀{vs:List V},Reps K M H (ks.map D.int) vs->vs=ks.map V.int:=by
 induction ks with
 | nil=>intro vs h;cases h;rfl
 | cons k ks b =>
  intro vs h
  cases h with
  | cons a r=>cases a;rw[b r];rfl
theorem GX {P:BY7}{w:World}:∀{ks:List Int} {us:List Value},Vals (ks.map V.int) us->ItemsAre (intKind P w) ks us
 | [],_,.nil=>.nil
 | k::ks,_,.cons ⟨t,e⟩ r=>by subst e;exact .cons (by simp[intKind,Value.isInt]) (GX r)
theorem BT5 (I:Inv X pins σv H s){b:Addr}(r:Rep X.K M H (.tup (ks.map D.int)) (.ref b)):IsTupleKey (intKind X.prog X.w) s.heap ks b:=by
 cases r with
 | tup h r =>
  have e:=AQ0 r
  subst e
  obtain⟨a,c,⟨o,d,f,n,g⟩,i⟩:=I.tuple (SqT.of3 h)
  exact⟨o,a.toArray,n,d,f,g,by simpa using GX c⟩
end
section
variable {X:Cx}{a b e:Expr}{ta tb:TE3}{t:TA3}{pos p:Pos}
end
abbrev JC:=List D->Lo->Mem->(Lo->Mem->Prop)->Prop
def BS6 (K:BU5)(g:JC):TGs:=fun vs σv H Q2=>∃ds σ M Q,Reps K M H ds vs/\SRel K M H σ σv/\MRel K M H/\g ds σ M Q/\∀σ' σv' M' H',Step M H M' H'->MRel K M' H'->SRel K M' H' σ' σv'->Q σ' M'->Q2 σv' H'
def AN8 (X:Cx)(ts:List Expr)(g:JC):Prop:=PGs X ts (BS6 X.K g)
def MV:JC:=fun ds σ M Q=>ds=[]/\Q σ M
def AD (g:TG3)(gs:JC):JC:=fun ds σ M Q=>∃d r,ds=d::r/\g d σ M fun σ' M'=>gs r σ' M' Q
theorem ZF {X:Cx}:AN8 X [] MV:=PGs.weak WK fun f a H g b=>by
 obtain⟨h,i,M,Q,r,hS,c,⟨e,q⟩,d⟩:=b
 subst e
 cases r
 exact⟨rfl,d _ _ M H .refl c hS q⟩
theorem HJ {X:Cx}{g:TG3}{gs:JC}(h1:PG3 X e g)(h2:AN8 X es gs)
  (hs:(BZ9 (e::es) X.env).map (·.2)=assign e X.env::(BZ9 es X.env).map (·.2):=by rfl):AN8 X (e::es) (AD g gs) :=
 PGs.weak (RB h1 h2 hs) fun B k H C l=>by
  obtain⟨D,m,M,Q,r,hS,n,⟨d,c,e,q⟩,o⟩:=l
  subst e
  cases r with
  | cons a b=>exact⟨_,_,rfl,d,m,M,_,a,hS,n,q,fun f j p E st s t u=>⟨c,f,p,Q,b.mono st,t,s,u,fun h v w x i y z A=>o h v w x (st.trans i) y z A⟩⟩
def MW (n:Nat)(gs:JC):TG3:=fun d σ M Q=>∃ds,d=.tup ds/\ds.length=n/\gs ds σ M Q
theorem AH4 {X:Cx}{k n:Nat}{gs:JC}(c:X.calm=true)(h:AN8 X es gs)
  (f:(BZ9 es X.env).length=n:=by rfl) (a:(BZ9 es X.env).findIdx? (·.1)=none:=by rfl):PG3 X (.Tuple es k pos) (MW n gs) :=
 PG.weak (AH5 c h f a) fun v g H t i=>by
  obtain⟨d,j,M,Q,r,hS,l,⟨m,e,o,q⟩,p⟩:=i
  subst e
  cases r with
  | tup s b=>exact⟨_,_,rfl,SqT.of3 s,by rw[<-b.length];exact o,m,j,M,Q,b,hS,l,q,p⟩
section
variable {T:L6}{σ:Lo}{M:Mem}{Q:DK}{QG:Lo->Mem->Prop}
theorem AK4 {n:Nat}{gs:JC}(a:ds.length=n)(h:gs ds σ M QG):MW n gs (.tup ds) σ M QG:=⟨ds,rfl,a,h⟩
instance rd_gConsG {g:TG3}{gs:JC}{d:D}{r:List D}:RdC (AD g gs (d::r) σ M QG) (g d σ M fun σ' M'=>gs r σ' M' QG):=⟨fun h=>⟨d,r,rfl,h⟩⟩
instance rd_gNilG:RdC (MV [] σ M QG) (QG σ M):=⟨fun h=>⟨rfl,h⟩⟩
end
end L3
namespace GO
open PySem L2 L3 MK K11 K12
theorem VX:∀p:List Int,HT.lexLt p p=false
 | []=>rfl
 | x::p=>by rw[HA];exact VX p
theorem CK (b:Blk):((prB b [] 0).map Prod.fst).Nodup:=by
 rw[S2]
 exact(NU b [] 0).2.imp fun{p q} h e=>by subst e;rw[VX] at h;cases h
theorem CG {α:Type}:∀{l:List (List Int×α)} {p:List Int} {d:α},(l.map Prod.fst).Nodup->(p,d)∈l->BW0 p l=some d
 | [],_,_,_,h=>by cases h
 | (q,e)::l,p,d,hn,h=>by
  rw[BX1,List.nodup_cons] at hn
  rcases BZ3.mp h with z|z
  ·cases z;simp[BW0]
  ·have a:¬p=q:=fun b=>hn.1 (by rw[<-b];exact List.mem_map.mpr ⟨(p,d),z,rfl⟩)
   have c:(p==q)=false:=by simpa using a
   simp only[BW0,c]
   exact CG hn.2 z
theorem WE {α:Type}:∀{l:List (List Int×α)} {p:List Int} {d:α},BW0 p l=some d->(p,d)∈l
 | [],_,_,h=>by cases h
 | (q,e)::l,p,d,h=>by
  by_cases b:p=q
  ·subst b
   simp only[BW0,beq_self_eq_true] at h
   cases h;exact BV7
  ·have a:(p==q)=false:=by simpa using b
   simp only[BW0,a] at h
   exact BV5 _ (WE h)
theorem BI6 {b:Blk}{e:Deed}(h:(p,d)∈prB b [] 0)(g:(p,e)∈prB b [] 0):d=e :=
 Option.some.inj ((CG (CK b) h).symm.trans (CG (CK b) g))
def dflt:Deed:=.mk (.leaf "" []) .nil
def dA (b:Blk)(p:List Int):Deed:=(BW0 p (prB b [] 0)).getD dflt
theorem GN {b:Blk}(h:(p,d)∈prB b [] 0):dA b p=d:=by unfold dA;rw[CG (CK b) h];rfl
theorem Go.out {d0:Deed}{r:List Int}(g:Go d0 r d):(r=[]/\d=d0)\/∃(r':List Int) (j i:Nat) (h:Head) (bs:Bls) (bk:Blk),r=r'++[(j:Int),(i:Int)]/\Go d0 r' (.mk h bs)/\(C5 bs)[j]?=some bk/\(toL bk)[i]?=some d:=by
 induction g with
 | nil=>exact .inl ⟨rfl,rfl⟩
 | @cons h bs j i b s d r e f g k =>
  right
  rcases k with⟨rfl,rfl⟩|⟨r',l,m,n,a,c,rfl,o,p,q⟩
  ·exact⟨[],j,i,h,bs,b,rfl,.nil,e,f⟩
  ·exact⟨(j:Int)::(i:Int)::r',l,m,n,a,c,rfl,.cons e f o,p,q⟩
theorem Go.snoc {d0:Deed}{r:List Int}{c:Deed}(g:Go d0 r c):∀{h:Head} {bs:Bls} {j i:Nat} {bk:Blk} {d:Deed},c=.mk h bs->(C5 bs)[j]?=some bk->(toL bk)[i]?=some d->Go d0 (r++[(j:Int),(i:Int)]) d:=by
 induction g with
 | nil=>intro h bs j i bk d e a b;subst e;exact .cons a b .nil
 | cons f k _ l=>intro h bs j i bk d e a b;exact .cons f k (l e a b)
theorem BM2 {h:Head}{bs:Bls}{r:List Int}(g:Go (.mk h bs) r d):(r=[]/\d=.mk h bs)\/∃(j i:Nat) (b:Blk) (d':Deed) (r':List Int),r=(j:Int)::(i:Int)::r'/\(C5 bs)[j]?=some b/\(toL b)[i]?=some d'/\Go d' r' d:=by
 cases g with
 | nil=>exact .inl ⟨rfl,rfl⟩
 | cons a c e=>exact .inr ⟨_,_,_,_,_,rfl,a,c,e⟩
mutual
theorem EA:∀(b:Blk) (ah:List Int) (i k:Nat) (r:List Int) (d0 d:Deed),(toL b)[k]?=some d0->Go d0 r d->(ah++((i+k:Nat):Int)::r,d)∈prB b ah i
 | .nil,ah,i,k,r,d0,d,h,g=>by simp[toL] at h
 | .cons x y,ah,i,k,r,d0,d,h,g=>by
  have a:=BI5 x
  have c:=EA y
  simp only[prB]
  cases k with
  | zero =>
   have e:x=d0:=by simpa[toL] using h
   subst e
   cases g with
   | nil=>exact BV7
   | cons f j l =>
    refine BV5 _ (CH3 _ ?_)
    have:=a (ah++[(i:Int)]) _ d (.cons f j l) (by simp)
    simpa using this
  | succ k =>
   refine BV5 _ (BW9 _ ?_)
   rw[show i+(k+1)=i+1+k by lia]
   exact c ah (i+1) k r d0 d (by simpa[toL] using h) g
termination_by structural b=>b
theorem BI5:∀(d0:Deed) (a r:List Int) (d:Deed),Go d0 r d->r≠[]->(a++r,d)∈prD d0 a
 | .mk h bs,a,r,d,g,c=>by
  rcases BM2 g with⟨rfl,_⟩|⟨j,i,b,l,m,rfl,e,f,k⟩
  ·exact absurd rfl c
  ·simp only[prD]
   have:=WO bs a 0 j i _ b _ d e f k
   rwa [BW6] at this
termination_by structural d0=>d0
theorem WO:∀(bs:Bls) (a:List Int) (j m k:Nat) (r:List Int) (b:Blk) (d0 d:Deed),(C5 bs)[m]?=some b->(toL b)[k]?=some d0->Go d0 r d->(a++((j+m:Nat):Int)::(k:Int)::r,d)∈JJ bs a j
 | .nil,a,j,m,k,r,b,d0,d,c,f,g=>by simp[C5] at c
 | .cons x y,a,j,m,k,r,b,d0,d,c,f,g=>by
  have h:=EA x
  have i:=WO y
  simp only[JJ]
  cases m with
  | zero =>
   have e:x=b:=by simpa[C5] using c
   subst e
   refine CH3 _ ?_
   simpa using h (a++[(j:Int)]) 0 k r d0 d f g
  | succ m =>
   refine BW9 _ ?_
   rw[show j+(m+1)=j+1+m by lia]
   exact i a (j+1) m k r b d0 d (by simpa[C5] using c) f g
termination_by structural bs=>bs
end
theorem U5 {b:Blk}{h:Head}{bs:Bls}{bk:Blk}(c:(q,.mk h bs)∈prB b [] 0)(h1:(C5 bs)[j]?=some bk)(h2:(toL bk)[i]?=some d):(q++[(j:Int),(i:Int)],d)∈prB b [] 0:=by
 obtain⟨k,r,f,e,a,g⟩:=X8 b [] 0 q _ c
 have:=EA b [] 0 k _ f d a (Go.snoc g rfl h1 h2)
 rw[e];exact this
inductive Inb (b:Blk):List Int->Blk->Nat->Prop
 | top {i:Nat}:Inb b [(i:Int)] b i
 | inner {q:List Int} {h:Head} {bs:Bls} {bk:Blk} {j i:Nat}:(q,.mk h bs)∈prB b [] 0->(C5 bs)[j]?=some bk->Inb b (q++[(j:Int),(i:Int)]) bk i
theorem U4 {b:Blk}(c:(p,d)∈prB b [] 0):∃bk i,Inb b p bk i/\(toL bk)[i]?=some d:=by
 obtain⟨k,r,f,e,a,g⟩:=X8 b [] 0 p _ c
 rw[BW6] at e
 rcases Go.out g with⟨rfl,rfl⟩|⟨l,j,i,h,bs,bk,rfl,m,n,o⟩
 ·subst e;exact⟨b,k,.top,a⟩
 ·subst e
  refine⟨bk,i,?_,o⟩
  have:=Inb.inner (i:=i) (EA b [] 0 k l f _ a m) n
  rw[BW6] at this
  simpa using this
theorem Inb.mem {b:Blk}{bk:Blk}(x:Inb b p bk i){k:Nat}(h:(toL bk)[k]?=some d):(p.dropLast++[(k:Int)],d)∈prB b [] 0:=by
 cases x with
 | top =>
  have:=EA b [] 0 k [] d d h .nil
  rw[BW6] at this
  simpa using this
 | @inner q e bs _ j _ a c =>
  have:=U5 a c h
  rw[show(q++[(j:Int),(i:Int)]).dropLast++[(k:Int)]=q++[(j:Int),(k:Int)] by rw[show q++[(j:Int),(i:Int)]=(q++[(j:Int)])++[(i:Int)] by simp,List.dropLast_concat];simp]
  exact this
theorem U0 {b:Blk}{bk:Blk}(x:Inb b p bk i):(p=[(i:Int)]/\bk=b)\/∃(q:List Int) (h:Head) (bs:Bls) (j:Nat),p=q++[(j:Int),(i:Int)]/\(q,.mk h bs)∈prB b [] 0/\(C5 bs)[j]?=some bk:=by
 cases x with
 | top=>exact .inl ⟨rfl,rfl⟩
 | inner a c=>exact .inr ⟨_,_,_,_,rfl,a,c⟩
theorem Inb.of_mem {b:Blk}{bk:Blk}(x:Inb b p bk i){k:Nat}(h:(p.dropLast++[(k:Int)],d)∈prB b [] 0):(toL bk)[k]?=some d:=by
 obtain⟨o,i',y,e⟩:=U4 h
 rcases U0 x with⟨rfl,rfl⟩|⟨g,A,bs,j,rfl,q,r⟩
 ·rcases U0 y with⟨a,rfl⟩|⟨s,t,l,m,a,f,c⟩
  ·have:(k:Int)=i':=by simpa using a
   rw[show k=i' by lia];exact e
  ·exfalso
   have:=congrArg CB7 a
   simp at this
 ·rw[show(g++[(j:Int),(i:Int)]).dropLast++[(k:Int)]=g++[(j:Int),(k:Int)] by rw[show g++[(j:Int),(i:Int)]=(g++[(j:Int)])++[(i:Int)] by simp,List.dropLast_concat];simp] at y
  rcases U0 y with⟨a,rfl⟩|⟨s,t,l,m,a,f,c⟩
  ·exfalso
   have:=congrArg CB7 a
   simp at this
  ·have n:=congrArg CB7 a
   simp at n
   obtain⟨u,v⟩:=List.append_inj a n
   subst u
   simp only[List.cons.injEq,and_true] at v
   have w:m=j:=by lia
   have z:i'=k:=by lia
   subst w z
   have:=BI6 q f
   cases this
   rw[r] at c
   cases c
   exact e
def nxt (p:List Int):List Int:=p.dropLast++[p.getLastD 0+1]
theorem Inb.last {b:Blk}{p:List Int}{bk:Blk}{i:Nat}(x:Inb b p bk i):p.getLastD 0=(i:Int)/\p≠[]:=by
 cases x with
 | top=>exact⟨rfl,by simp⟩
 | inner _ _=>exact⟨by simp,by simp⟩
theorem Inb.next {b:Blk}{bk:Blk}(x:Inb b p bk i):(BW0 (nxt p) (prB b [] 0)).isSome=decide (i+1<(toL bk).length):=by
 have e:nxt p=p.dropLast++[((i+1:Nat):Int)]:=by unfold nxt;rw[x.last.1];rfl
 rw[e]
 by_cases h:i+1<(toL bk).length
 ·rw[decide_eq_true h,CG (CK b) (x.mem (BV4 h))];rfl
 ·rw[decide_eq_false h]
  cases hl:BW0 (p.dropLast++[((i+1:Nat):Int)]) (prB b [] 0) with
  | none=>rfl
  | some d =>
   have:=x.of_mem (WE hl)
   have:=(List.getElem?_eq_some_iff.mp this).1
   lia
def G7 (p:List Int):List Int:=p.take (p.length-2)
def NM (p:List Int):Int:=p.getD (p.length-2) 0
theorem BV (q:List Int)(j i:Int):G7 (q++[j,i])=q/\NM (q++[j,i])=j:=by
 unfold G7 NM
 simp[CA8]
theorem K3 (h:1<p.length):(G7 p).length<p.length:=by unfold G7;rw[BY1];lia
def ar (b:Blk)(p:List Int):List (List Int×Deed×Int):=if h:1<p.length then(G7 p,dA b (G7 p),NM p)::ar b (G7 p) else[]
termination_by p.length
decreasing_by exact K3 h
theorem R7 {b:Blk}(h:1<p.length):ar b p=(G7 p,dA b (G7 p),NM p)::ar b (G7 p):=by rw[ar,dif_pos h]
theorem P4 {b:Blk}(h:¬1<p.length):ar b p=[]:=by rw[ar,dif_neg h]
def arT (x:List Int×Deed×Int):D:=.tup [plT x.1,dD x.2.1,.int x.2.2]
def nC:Deed->Nat
 | .mk (.tr cs) _=>cs.length
 | _=>0
def E2 (d:Deed)(j:Int):Bool:=hasL d && !decide (j=(nC d:Int)+1)
structure Way (b:Blk)(x:List Int×Deed×Int):Prop where
 at_:(x.1,x.2.1)∈prB b [] 0
 num:∃j bk i d,x.2.2=((j:Nat):Int)/\(match x.2.1 with|.mk _ bs=>(C5 bs)[j]?=some bk)/\(toL bk)[(i:Nat)]?=some d
theorem Q7 {b:Blk}(f:(p,d)∈prB b [] 0)(h:1<p.length):∃(q:List Int) (j i:Nat) (a:Head) (bs:Bls) (bk:Blk),p=q++[(j:Int),(i:Int)]/\G7 p=q/\NM p=(j:Int)/\(q,.mk a bs)∈prB b [] 0/\dA b q=.mk a bs/\(C5 bs)[j]?=some bk/\(toL bk)[i]?=some d:=by
 obtain⟨bk,i,x,e⟩:=U4 f
 cases x with
 | top=>simp at h
 | @inner q a bs _ j _ c g=>exact⟨q,j,i,a,bs,bk,rfl,(BV _ _ _).1,(BV _ _ _).2,c,GN c,g,e⟩
theorem BE {b:Blk}:∀(n:Nat) {p:List Int} {d:Deed},p.length<=n->(p,d)∈prB b [] 0->∀x∈ar b p,Way b x
 | 0,p,d,hn,hp,x,hx=>by
  rw[P4 (by lia)] at hx;cases hx
 | n+1,p,d,hn,hp,x,hx=>by
  by_cases h:1<p.length
  ·obtain⟨q,j,i,m,bs,bk,o,a,f,c,e,g,k⟩:=Q7 hp h
   rw[R7 h] at hx
   have l:=K3 h
   rcases BZ3.mp hx with rfl|hx
   ·refine⟨?_,j,bk,i,d,f,?_,k⟩
    ·show(G7 p,dA b (G7 p))∈_
     rw[a,e];exact c
    ·show(match dA b (G7 p) with|.mk _ bs=>(C5 bs)[j]?=some bk)
     rw[a,e];exact g
   ·rw[a] at hx l
    exact BE n (by lia) c x hx
  ·rw[P4 h] at hx;cases hx
def spAround:Sp3:=fun ds M Q=>∃r p d,ds=[rD r,plT p]/\U7 r/\(p,d)∈prB r.blk [] 0/\Q (.lst ((ar r.blk p).map arT)) M
def LF:Sp3:=fun ds M Q=>∃cs bs,ds=[dD (.mk (.tr cs) bs)]/\okD (.mk (.tr cs) bs)/\Q (.int ((cs.length:Int)+1)) M
def EE:Sp3:=fun ds M Q=>∃cs bs,∃j:Int,ds=[dD (.mk (.tr cs) bs),.int j]/\okD (.mk (.tr cs) bs)/\Q (.bl (decide (j=(cs.length:Int)+1))) M
def CT:Sp3:=fun ds M Q=>∃d,∃j:Int,ds=[dD d,.int j]/\okD d/\Q (.bl (E2 d j)) M
def PY (l:List (List Int×Deed×Int)):D:=match l with
 | []=>.tup [.str "out"]
 | (q,d,j)::r=>if E2 d j=true then .tup [.str "last",plT q] else PY r
def isW:Deed->Bool
 | .mk (.whl _) _=>true
 | _=>false
def X2 (l:List (List Int×Deed×Int)):D:=match l with
 | []=>.tup [.str "out"]
 | (q,d,j)::r=>if isW d=true then .tup [.str "behind",plT q] else if E2 d j=true then .tup [.str "last",plT q] else X2 r
def spEnd:Sp3:=fun ds M Q=>∃r p d,ds=[rD r,plT p]/\U7 r/\(p,d)∈prB r.blk [] 0/\Q (PY (ar r.blk p)) M
def spLeave:Sp3:=fun ds M Q=>∃r p d,ds=[rD r,plT p]/\U7 r/\(p,d)∈prB r.blk [] 0/\Q (X2 (ar r.blk p)) M
def takes (w:Str)(c:Str×Str):Bool:=c.1==w || c.1==("any":Str)
def W5 (w:Str)(d:Deed)(j:Int):Option Nat:=match d with
 | .mk (.tr cs) _=>if j=0 then cs.findIdx? (takes w) else none
 | _=>none
def S5 (w:Str)(l:List (List Int×Deed×Int)):D:=match l with
 | []=>.tup [.str "out"]
 | (q,d,j)::r=>match W5 w d j with
  | some c=>.tup [.str "catch",plT q,.int (c:Nat)]
  | none=>if E2 d j=true then .tup [.str "last",plT q] else S5 w r
def WZ:Sp3:=fun ds M Q=>∃d,∃j:Int,∃w:Str,ds=[dD d,.int j,.str w]/\okD d/\Q (match W5 w d j with|some c=>.int (c:Nat)|none=>.non) M
def spFault:Sp3:=fun ds M Q=>∃r p d,∃w:Str,ds=[rD r,plT p,.str w]/\U7 r/\(p,d)∈prB r.blk [] 0/\Q (S5 w (ar r.blk p)) M
def WY:Sp3:=fun ds M Q=>∃r p bk i,ds=[rD r,plT p]/\U7 r/\Inb r.blk p bk i/\Q (.tup (dB bk)) M
def bhF (b:Blk)(p:List Int):D :=
 if (BW0 (nxt p) (prB b [] 0)).isSome=true then .tup [.str "deed",plT (nxt p)]
 else if h:1<p.length then
  if isW (dA b (G7 p))=true then .tup [.str "test",plT (G7 p)]
  else if hasL (dA b (G7 p))=true then(if NM p=(nC (dA b (G7 p)):Int)+1 then .tup [.str "resume",plT (G7 p)] else .tup [.str "last",plT (G7 p)])
  else bhF b (G7 p)
 else .tup [.str "end"]
termination_by p.length
decreasing_by exact K3 h
def spBehind (n:Nat):Sp3:=fun ds M Q=>∃r p d,ds=[rD r,plT p]/\U7 r/\(p,d)∈prB r.blk [] 0/\2*p.length+1<=n/\Q (bhF r.blk p) M
def AJ (n:Nat):Sp3:=fun ds M Q=>∃r p d bk i,ds=[rD r,plT (G7 p),.int (NM p)]/\U7 r/\(p,d)∈prB r.blk [] 0/\1<p.length/\Inb r.blk p bk i/\¬(i+1<(toL bk).length)/\2*p.length<=n/\Q (bhF r.blk p) M
end GO
namespace GO
open PySem L2 L3
abbrev PF:List Str:=["rule","place","found","number"]
def RU:TS3 :=
  (A8 (C0 2 (J7 A5))
  (A8 (CZ (B1 (A6 CL (F0 D8 (A0 (A4 1) A5)) (tC3 (.int 1)))) (A8 (C0 3 (A6 C1 (A4 1) (P9 K0 (tC3 (.int 2)))))
  (A8 (C0 1 (IE (A4 1) F7 (J8 (P9 K0 (tC3 (.int 2))))))
  (F4 (R5 "list" E7 (A4 2) (A0 (B9 (A0 (A4 1) (A0 (A7 K12.spDeedAt (A0 (A4 0) (A0 (A4 1) A5))) (A0 (A4 3) A5)))) A5))))))
  (B4 (A4 2))))
theorem ZT (d0 a:D):B8 PF [d0,a]=[some d0,some a,none,none]:=rfl
abbrev W1:List Str:=["deed"]
def Z2:TS3 :=
  (B4 (A6 D0 (F0 D8 (A0 (A6 C1 (A4 0) (tC3 (.int 2))) A5)) (tC3 (.int 1))))
theorem FJ (d0:D):B8 W1 [d0]=[some d0]:=rfl
abbrev AS:List Str:=["deed","number"]
def BD:TS3 :=
  (B4 (A6 D7 (A4 1) (A7 LF (A0 (A4 0) A5))))
theorem IA (d0 a:D):B8 AS [d0,a]=[some d0,some a]:=rfl
abbrev S9:List Str:=["deed","number"]
def T6:TS3 :=
  (B4 (R4 (A7 (K12.spTold K12.hasL) (A0 (A4 0) A5)) (OV (A7 EE (A0 (A4 0) (A0 (A4 1) A5))))))
theorem CV (d0 a:D):B8 S9 [d0,a]=[some d0,some a]:=rfl
abbrev GA:List Str:=["deed","number","word","at","caught","name","block"]
def IL:TS3 :=
  (A8 (C2 (CY (B1 (A6 CN (A6 C1 (A4 0) (tC3 (.int 0))) (tC3 (.str "try")))) (B1 (A6 CN (A4 1) (tC3 (.int 0))))) (B4 (tC3 .non)) B6)
  (A8 (N8 (BG (A6 C1 (A4 0) (tC3 (.int 2)))) (MW 2 (AD (K1 3) (AD (N1 [4,5,6]) MV))) (C2 (CY (B1 (A6 D7 (A4 4) (A4 2))) (B1 (A6 D7 (A4 4) (tC3 (.str "any"))))) (B4 (A4 3)) B6))
  (B4 (tC3 .non))))
theorem RQ (d0 a d2:D):B8 GA [d0,a,d2]=[some d0,some a,some d2,none,none,none,none]:=rfl
abbrev BO:List Str:=["rule","place","word","outer","deed","number","catch"]
def DI:TS3 :=
  (A8 (N8 (K7 (A7 spAround (A0 (A4 0) (A0 (A4 1) A5)))) (N1 [3,4,5]) (A8 (C0 6 (A7 WZ (A0 (A4 4) (A0 (A4 5) (A0 (A4 2) A5)))))
  (A8 (C2 (B1 (A6 HN (A4 6) (tC3 .non))) (B4 (B9 (A0 (tC3 (.str "catch")) (A0 (A4 3) (A0 (A4 6) A5))))) B6)
  (C2 (B1 (A7 CT (A0 (A4 4) (A0 (A4 5) A5)))) (B4 (B9 (A0 (tC3 (.str "last")) (A0 (A4 3) A5)))) B6))))
  (B4 (B9 (A0 (tC3 (.str "out")) A5))))
theorem JP (d0 a d2:D):B8 BO [d0,a,d2]=[some d0,some a,some d2,none,none,none,none]:=rfl
abbrev GB:List Str:=["rule","place","outer","deed","number"]
def IO:TS3 :=
  (A8 (N8 (K7 (A7 spAround (A0 (A4 0) (A0 (A4 1) A5)))) (N1 [2,3,4]) (C2 (B1 (A7 CT (A0 (A4 3) (A0 (A4 4) A5)))) (B4 (B9 (A0 (tC3 (.str "last")) (A0 (A4 2) A5)))) B6))
  (B4 (B9 (A0 (tC3 (.str "out")) A5))))
theorem RR (d0 a:D):B8 GB [d0,a]=[some d0,some a,none,none,none]:=rfl
abbrev BP:List Str:=["rule","place","outer","deed","number"]
def DJ:TS3 :=
  (A8 (N8 (K7 (A7 spAround (A0 (A4 0) (A0 (A4 1) A5)))) (N1 [2,3,4]) (A8 (C2 (B1 (A6 D7 (A6 C1 (A4 3) (tC3 (.int 0))) (tC3 (.str "while")))) (B4 (B9 (A0 (tC3 (.str "behind")) (A0 (A4 2) A5)))) B6)
  (C2 (B1 (A7 CT (A0 (A4 3) (A0 (A4 4) A5)))) (B4 (B9 (A0 (tC3 (.str "last")) (A0 (A4 2) A5)))) B6)))
  (B4 (B9 (A0 (tC3 (.str "out")) A5))))
theorem JQ (d0 a:D):B8 BP [d0,a]=[some d0,some a,none,none,none]:=rfl
abbrev W0:List Str:=["rule","place"]
def Z1:TS3 :=
  (A8 (C2 (B1 (A6 D7 (F0 D8 (A0 (A4 1) A5)) (tC3 (.int 1)))) (B4 (A6 C1 (A4 0) (tC3 (.int 2)))) B6)
  (B4 (A6 C1 (A7 MK.CS (A0 (A7 K12.spDeedAt (A0 (A4 0) (A0 (IE (A4 1) F7 (J8 (P9 K0 (tC3 (.int 2))))) A5))) A5)) (A6 C1 (A4 1) (P9 K0 (tC3 (.int 2)))))))
theorem FI (d0 a:D):B8 W0 [d0,a]=[some d0,some a]:=rfl
abbrev V9:List Str:=["rule","outer","number","deed"]
def Z0 (q_behind_block q_behind:Sp3):TS3 :=
  (A8 (C0 3 (A7 K12.spDeedAt (A0 (A4 0) (A0 (A4 1) A5))))
  (A8 (C2 (B1 (A6 D7 (A6 C1 (A4 3) (tC3 (.int 0))) (tC3 (.str "while")))) (B4 (B9 (A0 (tC3 (.str "test")) (A0 (A4 1) A5)))) B6)
  (A8 (C2 (B1 (A7 CT (A0 (A4 3) (A0 (A4 2) A5)))) (B4 (B9 (A0 (tC3 (.str "last")) (A0 (A4 1) A5)))) B6)
  (A8 (C2 (ID (B1 (A6 D7 (A6 C1 (A4 3) (tC3 (.int 0))) (tC3 (.str "try")))) (B1 (A7 EE (A0 (A4 3) (A0 (A4 2) A5))))) (B4 (B9 (A0 (tC3 (.str "resume")) (A0 (A4 1) A5)))) B6)
  (B4 (A7 q_behind (A0 (A4 0) (A0 (A4 1) A5))))))))
theorem FH (d0 a d2:D):B8 V9 [d0,a,d2]=[some d0,some a,some d2,none]:=rfl
abbrev PH:List Str:=["rule","place"]
def RV (q_behind_block q_behind:Sp3):TS3 :=
  (A8 (C2 (B1 (A6 S6 (A6 D0 (A6 C1 (A4 1) (P9 K0 (tC3 (.int 1)))) (tC3 (.int 1))) (F0 D8 (A0 (A7 WY (A0 (A4 0) (A0 (A4 1) A5))) A5)))) (B4 (B9 (A0 (tC3 (.str "deed")) (A0 (A6 D0 (IE (A4 1) F7 (J8 (P9 K0 (tC3 (.int 1))))) (B9 (A0 (A6 D0 (A6 C1 (A4 1) (P9 K0 (tC3 (.int 1)))) (tC3 (.int 1))) A5))) A5)))) B6)
  (A8 (C2 (B1 (A6 D7 (F0 D8 (A0 (A4 1) A5)) (tC3 (.int 1)))) (B4 (B9 (A0 (tC3 (.str "end")) A5))) B6)
  (B4 (A7 q_behind_block (A0 (A4 0) (A0 (IE (A4 1) F7 (J8 (P9 K0 (tC3 (.int 2))))) (A0 (A6 C1 (A4 1) (P9 K0 (tC3 (.int 2)))) A5)))))))
theorem ZU (d0 a:D):B8 PH [d0,a]=[some d0,some a]:=rfl
end GO
open L3
namespace GO
open PySem L2 L3 MK K11 K12
theorem BR2 (n:Nat):HT.sIx (n+2) (n+2) (some (-2))=n:=by
 show(if (-2:Int)<0 then((-2:Int)+((n+2:Nat):Int)).toNat else min (-2:Int).toNat (n+2))=n
 rw[if_pos (by decide)];lia
theorem BR1 (n:Nat):HT.sIx (n+1) (n+1) (some (-1))=n:=by
 show(if (-1:Int)<0 then((-1:Int)+((n+1:Nat):Int)).toNat else min (-1:Int).toNat (n+1))=n
 rw[if_pos (by decide)];lia
theorem AC4 (q:List Int)(j i:Int):cutD ((q++[j,i]).map D.int) none (some (-2))=q.map D.int:=by
 unfold cutD
 rw[show((q++[j,i]).map D.int).length=q.length+2 by simp,BR2,HT.HX]
 simp
theorem BC8 (q:List Int)(i:Int):cutD ((q++[i]).map D.int) none (some (-1))=q.map D.int:=by
 unfold cutD
 rw[show((q++[i]).map D.int).length=q.length+1 by simp,BR1,HT.HX]
 simp
theorem BB5 (q:List Int)(j i:Int):atI ((q++[j,i]).map D.int) (-2)=some (.int j):=by
 unfold atI ixN
 rw[show((q++[j,i]).map D.int).length=q.length+2 by simp,if_neg (by decide),if_pos (by lia),show((-2:Int)+((q.length+2:Nat):Int)).toNat=q.length by lia]
 simp
theorem BB4 (q:List Int)(i:Int):atI ((q++[i]).map D.int) (-1)=some (.int i):=by
 unfold atI ixN
 rw[show((q++[i]).map D.int).length=q.length+1 by simp,if_neg (by decide),if_pos (by lia),show((-1:Int)+((q.length+1:Nat):Int)).toNat=q.length by lia]
 simp
theorem NY {j i:Int}{Q:DK}(h:Q (plT q) M):WT (plT (q++[j,i])) none (some (-2)) M Q:=by
 refine⟨?_,?_⟩
 ·rintro⟨_,e⟩
  rw[show((q++[j,i]).map D.int).length=q.length+2 by simp,BR2] at e
  lia
 ·rw[AC4];exact h
theorem AV7 {i:Int}{Q:DK}(h:Q (plT q) M):WT (plT (q++[i])) none (some (-1)) M Q:=by
 refine⟨?_,?_⟩
 ·rintro⟨_,e⟩
  rw[show((q++[i]).map D.int).length=q.length+1 by simp,BR1] at e
  lia
 ·rw[BC8];exact h
theorem OB {j i:Int}{Q:DK}(h:Q (.int j) M):C1 (plT (q++[j,i])) (.int (-2)) M Q:=⟨_,BB5 q j i,h⟩
theorem WW {i:Int}{Q:DK}(h:Q (.int i) M):C1 (plT (q++[i])) (.int (-1)) M Q:=⟨_,BB4 q i,h⟩
theorem CP {Q:DK}(h:Q (.int (p.length:Nat)) M):D8 [plT p] M Q:=by
 show Q (.int ((p.map D.int).length:Nat)) M
 rw[BU2];exact h
theorem rd_around:∀ds M Q,spAround ds M Q->RU {nx:=fun _ M'=>View Q .non M',rt:=View Q} (B8 PF ds) M:=by
 rintro _ M Q ⟨r,p,d,rfl,v,w,q⟩
 have s:=O4 v w
 rw[ZT]
 unfold RU
 walk_at "rd"
 intro f C
 walk_at "rd"
 refine RM ⟨fun m y n=>∃(a:List Int) (z:Deed) (A:Option D) (dn:List (List Int×Deed×Int)),y=[some (rD r),some (plT a),some (.ref f),A]/\(a,z)∈prB r.blk [] 0/\m=a.length/\dn++ar r.blk a=ar r.blk p/\dn.length+a.length<=9/\n f=some (.lst (dn.map arT))/\∀x,x≠f->n x=M x,
  ⟨p.length,p,d,_,[],rfl,w,rfl,rfl,by simpa using s,B0,fun x o=>B3 o⟩,?_⟩
 rintro m y n ⟨a,z,A,dn,rfl,t,rfl,c,E,e,k⟩
 walk_at "rd"
 refine CP ?_
 walk_at "rd"
 by_cases h:1<a.length
 ·rw[decide_eq_true (show(1:Int)<(a.length:Nat) by lia)]
  obtain⟨g,j,i,u,bs,bk,F,G,H,B,I,K,L⟩:=Q7 t h
  have l:=R7 (b:=r.blk) h
  rw[G,H,I] at l
  rw[l] at c
  subst F
  walk_at "rd"
  refine OB ?_
  walk_at "rd"
  refine NY ?_
  walk_at "rd"
  refine⟨.inl ⟨rfl,_,e⟩,?_⟩
  walk_at "rd"
  refine⟨r,g,.mk u bs,rfl,v,B,?_⟩
  walk_at "rd"
  have J:(g++[(j:Int),(i:Int)]).length=g.length+2:=by simp
  refine L4 e (by rw[BU2,BW2];lia) ?_
  refine⟨g.length,by lia,g,.mk u bs,_,dn++[(g,.mk u bs,(j:Int))],rfl,B,rfl,by rw[BX5];exact c,by simp;lia,?_,fun x o=>by rw[B3 o];exact k x o⟩
  rw[B0,BX0];rfl
 ·rw[decide_eq_false (show¬(1:Int)<(a.length:Nat) by lia)]
  rw[P4 h,CA9] at c
  subst c
  walk_at "rd"
  refine View.frz e ?_
  have:J4 n f=M:=AF4 C k
  rw[this];exact q
theorem BR9 {bs:Bls}(hok:okD (.mk (.tr cs) bs)):∃xs ys b0,dD (.mk (.tr cs) bs)=.tup [.str "try",b0,.tup xs,.tup ys]/\xs=E5 cs (dTs bs).tail/\xs.length=cs.length/\hasL (.mk (.tr cs) bs)=decide (0<ys.length):=by
 obtain⟨ys,a⟩:=VE bs (cs.length+1)
 refine⟨E5 cs (dTs bs).tail,ys,(dTs bs).getD 0 (.tup []),by rw[<-a];rfl,rfl,?_,?_⟩
 ·have b:bsl bs=cs.length+2:=hok.1.1
  have d:(dTs bs).tail.length=cs.length+1:=by rw[List.length_tail,VD,b];lia
  have c:=congrArg CB7 (DP cs (dTs bs).tail (by lia))
  rw[BU2,BY1] at c
  lia
 ·show decide (0<nl ((dTs bs).getD (cs.length+1) (.tup [])))=_
  rw[a];rfl
theorem FM (x y:Int):(x==y)=decide (x=y):=by
 by_cases h:x=y
 ·subst h;simp
 ·rw[decide_eq_false h];simpa using h
theorem rd_lasts_number:∀ds M Q,LF ds M Q->Z2 {nx:=fun _ M'=>View Q .non M',rt:=View Q} (B8 W1 ds) M:=by
 rintro _ M Q ⟨f,bs,rfl,a,q⟩
 obtain⟨c,g,h,e,_,b,_⟩:=BR9 a
 rw[FJ]
 unfold Z2
 rw[e]
 walk_at "rd"
 refine B2 (d:=.tup c) rfl ?_
 walk_at "rd"
 rw[b]
 exact View.of q
theorem rd_is_in_lasts:∀ds M Q,EE ds M Q->BD {nx:=fun _ M'=>View Q .non M',rt:=View Q} (B8 AS ds) M:=by
 rintro _ M Q ⟨b,bs,j,rfl,a,q⟩
 rw[IA]
 unfold BD
 walk_at "rd"
 refine⟨b,bs,rfl,a,?_⟩
 walk_at "rd"
 rw[FM]
 exact View.of q
theorem rd_leads_to_lasts:∀ds M Q,CT ds M Q->T6 {nx:=fun _ M'=>View Q .non M',rt:=View Q} (B8 S9 ds) M:=by
 rintro _ M Q ⟨d,j,rfl,a,q⟩
 rw[CV]
 unfold T6
 walk_at "rd"
 refine⟨d,rfl,a,?_⟩
 unfold E2 at q
 cases e:hasL d with
 | false =>
  rw[e] at q
  walk_at "rd"
  exact View.of q
 | true =>
  rw[e] at q
  match d,a,e,q with
  | .mk (.tr b) bs,a,e,q =>
  walk_at "rd"
  refine⟨b,bs,j,rfl,a,?_⟩
  walk_at "rd"
  exact View.of q
  | .mk (.leaf _ _) _,a,e,q=>cases e
  | .mk (.ife _) _,a,e,q=>cases e
  | .mk (.whl _) _,a,e,q=>cases e
theorem OX (a:U7 r){x:List Int×Deed×Int}(w:Way r.blk x):okD x.2.1:=Y0 a.1 w.at_
theorem CC (d:Deed):∃h rest,dD d=.tup (.str h::rest)/\(okD d->(h==("while":Str))=isW d)/\(okD d->(h==("try":Str))=(match d with|.mk (.tr _) _=>true|_=>false)):=by
 cases d with
 | mk h bs =>
  obtain⟨rest,e⟩:=QI h (dTs bs)
  refine⟨O0 h,rest,e,fun a=>?_,fun a=>?_⟩
  ·cases h with
   | leaf h r=>exact(U1 a.1.2).2.1
   | ife e=>exact(by decide +kernel:((("if":Str))==("while":Str))=false)
   | whl e=>exact(by decide +kernel:((("while":Str))==("while":Str))=true)
   | tr b=>exact(by decide +kernel:((("try":Str))==("while":Str))=false)
  ·cases h with
   | leaf h r=>exact(U1 a.1.2).2.2
   | ife e=>exact(by decide +kernel:((("if":Str))==("try":Str))=false)
   | whl e=>exact(by decide +kernel:((("while":Str))==("try":Str))=false)
   | tr b=>exact(by decide +kernel:((("try":Str))==("try":Str))=true)
theorem BY {l:List α}{k:Nat}{x:α}(h:l[k]?=some x):l.drop k=x::l.drop (k+1):=by
 obtain⟨a,e⟩:=List.getElem?_eq_some_iff.mp h
 rw[List.drop_eq_getElem_cons a,e]
theorem FQ {f:α->D}{l:List α}{k:Nat}(h:(l.map f)[k]?=some y):∃x,l[k]?=some x/\y=f x:=by
 rw[BV6] at h
 cases e:l[k]? with
 | none=>rw[e] at h;cases h
 | some x=>rw[e] at h;exact⟨x,rfl,(Option.some.inj h).symm⟩
theorem YD (q:List Int)(d:Deed)(j:Int)(l:List (List Int×Deed×Int)):PY ((q,d,j)::l)=if E2 d j=true then .tup [.str "last",plT q] else PY l:=rfl
theorem QL (q:List Int)(d:Deed)(j:Int)(l:List (List Int×Deed×Int)):X2 ((q,d,j)::l)=if isW d=true then .tup [.str "behind",plT q] else if E2 d j=true then .tup [.str "last",plT q] else X2 l:=rfl
theorem rd_end_goes:∀ds M Q,spEnd ds M Q->IO {nx:=fun _ M'=>View Q .non M',rt:=View Q} (B8 GB ds) M:=by
 rintro _ M Q ⟨r,p,d,rfl,l,m,q⟩
 rw[RR]
 unfold IO
 walk_at "rd"
 refine⟨r,p,d,rfl,l,m,?_⟩
 walk_at "rd"
 have s:=BE p.length (BU4 _) m
 generalize ar r.blk p=L at *
 refine⟨fun k b c=>c=M/\(∃f g h,b=[some (rD r),some (plT p),f,g,h])/\PY (L.drop k)=PY L,⟨rfl,⟨_,_,_,rfl⟩,rfl⟩,?_,?_⟩
 ·rintro k y b c t ⟨rfl,⟨f,g,h,rfl⟩,a⟩
  obtain⟨⟨u,n,j⟩,o,rfl⟩:=FQ t
  have i:=s _ (BV2 o)
  refine J0 rfl ?_
  walk_at "rd"
  refine⟨n,j,rfl,OX l i,?_⟩
  rw[BY o] at a
  rw[YD] at a
  cases e:E2 n j with
  | true =>
   rw[e,if_pos rfl] at a
   walk_at "rd"
   exact View.of (by rw[<-a] at q;exact q)
  | false =>
   rw[e,if_neg BU9] at a
   walk_at "rd"
   exact⟨rfl,⟨_,_,_,rfl⟩,a⟩
 ·rintro b c ⟨rfl,⟨f,g,h,rfl⟩,a⟩
  rw[BU2,CJ5] at a
  walk_at "rd"
  exact View.of (by rw[<-a] at q;exact q)
theorem rd_leave_goes:∀ds M Q,spLeave ds M Q->DJ {nx:=fun _ M'=>View Q .non M',rt:=View Q} (B8 BP ds) M:=by
 rintro _ M Q ⟨r,p,d,rfl,o,s,q⟩
 rw[JQ]
 unfold DJ
 walk_at "rd"
 refine⟨r,p,d,rfl,o,s,?_⟩
 walk_at "rd"
 have w:=BE p.length (BU4 _) s
 generalize ar r.blk p=L at *
 refine⟨fun k f g=>g=M/\(∃i l m,f=[some (rD r),some (plT p),i,l,m])/\X2 (L.drop k)=X2 L,⟨rfl,⟨_,_,_,rfl⟩,rfl⟩,?_,?_⟩
 ·rintro k y f g x ⟨rfl,⟨i,l,m,rfl⟩,a⟩
  obtain⟨⟨A,b,j⟩,t,rfl⟩:=FQ x
  have n:=w _ (BV2 t)
  have c:=OX o n
  obtain⟨h,u,v,z,_⟩:=CC b
  rw[BY t] at a
  rw[QL] at a
  refine J0 rfl ?_
  walk_at "rd"
  show C1 (dD b) _ _ _
  rw[v]
  refine B2 (d:=.str h) (B7 (j:=0) rfl) ?_
  walk_at "rd"
  rw[z c]
  cases e:isW b with
  | true =>
   rw[e,if_pos rfl] at a
   walk_at "rd"
   exact View.of (by rw[<-a] at q;exact q)
  | false =>
   rw[e,if_neg BU9] at a
   walk_at "rd"
   refine⟨b,j,by rw[v],c,?_⟩
   cases e:E2 b j with
   | true =>
    rw[e,if_pos rfl] at a
    walk_at "rd"
    exact View.of (by rw[<-a] at q;exact q)
   | false =>
    rw[e,if_neg BU9] at a
    walk_at "rd"
    exact⟨rfl,⟨_,_,_,rfl⟩,a⟩
 ·rintro f g ⟨rfl,⟨i,l,m,rfl⟩,a⟩
  rw[BU2,CJ5] at a
  walk_at "rd"
  exact View.of (by rw[<-a] at q;exact q)
theorem Inb.snoc {b:Blk}{bk:Blk}(x:Inb b p bk i):∃a,p=a++[(i:Int)]:=by
 rcases U0 x with⟨rfl,rfl⟩|⟨q,h,bs,j,rfl,c,d⟩
 ·exact⟨[],rfl⟩
 ·exact⟨q++[(j:Int)],by simp⟩
theorem AR0 (a:List Int)(i:Int):nxt (a++[i])=a++[i+1]:=by unfold nxt;simp
theorem AO4 {b:Blk}(h:(BW0 (nxt p) (prB b [] 0)).isSome=true):bhF b p=.tup [.str "deed",plT (nxt p)]:=by rw[bhF,if_pos h]
theorem BC0 {b:Blk}(h:(BW0 (nxt p) (prB b [] 0)).isSome=false)(a:¬1<p.length):bhF b p=.tup [.str "end"]:=by rw[bhF,if_neg (by rw[h];exact BU9),dif_neg a]
theorem GF {b:Blk}(h:(BW0 (nxt p) (prB b [] 0)).isSome=false)(a:1<p.length):bhF b p =
  (if isW (dA b (G7 p))=true then .tup [.str "test",plT (G7 p)]
  else if hasL (dA b (G7 p))=true then(if NM p=(nC (dA b (G7 p)):Int)+1 then .tup [.str "resume",plT (G7 p)] else .tup [.str "last",plT (G7 p)])
  else bhF b (G7 p)):=by rw[bhF,if_neg (by rw[h];exact BU9),dif_pos a]
theorem rd_block_around:∀ds M Q,WY ds M Q->Z1 {nx:=fun _ M'=>View Q .non M',rt:=View Q} (B8 W0 ds) M:=by
 rintro _ M Q ⟨r,p,bk,i,rfl,a,x,q⟩
 rw[FI]
 unfold Z1
 walk_at "rd"
 refine CP ?_
 walk_at "rd"
 rcases U0 x with⟨rfl,rfl⟩|⟨b,h,bs,j,rfl,c,e⟩
 ·rw[show(((([(i:Int)]:List Int).length:Nat):Int)==1)=true by rfl]
  walk_at "rd"
  refine B2 (d:=.tup (dB r.blk)) rfl ?_
  exact View.of q
 ·rw[show((((b++[(j:Int),(i:Int)]).length:Nat):Int)==1)=false by rw[FM];exact decide_eq_false (by simp;lia)]
  walk_at "rd"
  refine NY ?_
  walk_at "rd"
  refine⟨r,b,.mk h bs,rfl,a,c,?_⟩
  walk_at "rd"
  refine⟨h,bs,rfl,(Y0 a.1 c).1,?_⟩
  walk_at "rd"
  refine OB ?_
  refine S7 (d:=.tup (dB bk)) (B7 (by rw[O2,BV6,e];rfl)) ?_
  exact View.of q
theorem AP9 {bs:Bls}{bk:Blk}(h1:(C5 bs)[cs.length+1]?=some bk)(h2:(toL bk)[i]?=some d):hasL (.mk (.tr cs) bs)=true:=by
 show decide (0<nl ((dTs bs).getD (cs.length+1) (.tup [])))=true
 have:(dTs bs).getD (cs.length+1) (.tup [])=.tup (dB bk):=by rw[O2,CA8,BV6,h1];rfl
 rw[this]
 have a:=(List.getElem?_eq_some_iff.mp h2).1
 exact decide_eq_true (by show 0<(dB bk).length;rw[KE,BU2];lia)
theorem zero_behind_block:∀ds M Q,¬AJ 0 ds M Q:=by rintro _ _ _ ⟨_,_,_,_,_,rfl,_,_,h,_,_,a,_⟩;lia
theorem zero_behind:∀ds M Q,¬spBehind 0 ds M Q:=by rintro _ _ _ ⟨_,_,_,rfl,_,_,h,_⟩;lia
theorem rd_behind:∀n ds M Q,spBehind (n+1) ds M Q->RV (AJ n) (spBehind n) {nx:=fun _ M'=>View Q .non M',rt:=View Q} (B8 PH ds) M:=by
 rintro n _ M Q ⟨r,p,d,rfl,k,f,v,q⟩
 obtain⟨bk,i,x,w⟩:=U4 f
 have g:=x.next
 obtain⟨b,c⟩:=x.snoc
 have m:=O4 k f
 rw[ZU]
 unfold RV
 walk_at "rd"
 rw[c]
 refine WW ?_
 walk_at "rd"
 refine⟨r,p,bk,i,by rw[c],k,x,?_⟩
 walk_at "rd"
 rw[show(dB bk).length=(toL bk).length by rw[KE,BU2]]
 by_cases h:i+1<(toL bk).length
 ·rw[decide_eq_true h] at g
  rw[decide_eq_true (show(i:Int)+1<((toL bk).length:Nat) by lia)]
  rw[AO4 g,c,AR0] at q
  walk_at "rd"
  refine AV7 ?_
  walk_at "rd"
  refine WW ?_
  walk_at "rd"
  have a:=congrArg CB7 c
  rw[BU7] at a
  refine U8 (by rw[BU2,BW2];show b.length+1<=_;simp at a;lia) ?_
  walk_at "rd"
  have e:plT (b++[(i:Int)+1])=.tup (b.map D.int++[.int ((i:Int)+1)]):=by unfold plT;rw[BX0];rfl
  rw[e] at q
  exact View.of q
 ·rw[decide_eq_false h] at g
  rw[decide_eq_false (show¬(i:Int)+1<((toL bk).length:Nat) by lia)]
  walk_at "rd"
  refine CP ?_
  rw[<-c]
  walk_at "rd"
  by_cases a:1<p.length
  ·rw[show(((p.length:Nat):Int)==1)=false by rw[FM];exact decide_eq_false (by lia)]
   obtain⟨y,j,z,A,bs,o,s,t,u,B,C,E,F⟩:=Q7 f a
   walk_at "rd"
   rw[s]
   refine NY ?_
   walk_at "rd"
   refine OB ?_
   walk_at "rd"
   exact⟨r,p,d,bk,i,by rw[t,u],k,f,a,x,h,by lia,View.of q⟩
  ·have l:p.length=1:=by rw[c] at a ⊢;simp at a ⊢;lia
   rw[show(((p.length:Nat):Int)==1)=true by rw[l];rfl]
   rw[BC0 g a] at q
   walk_at "rd"
   exact View.of q
theorem rd_behind_block:∀n ds M Q,AJ (n+1) ds M Q->Z0 (AJ n) (spBehind n) {nx:=fun _ M'=>View Q .non M',rt:=View Q} (B8 V9 ds) M:=by
 rintro n _ M Q ⟨r,p,d,bk,i,rfl,s,C,v,x,D,N,q⟩
 have w:=x.next
 rw[decide_eq_false D] at w
 rw[GF w v] at q
 obtain⟨m,j,O,c,bs,E,F,y,z,f,k,A,G⟩:=Q7 C v
 rw[y,z,k] at q
 rw[y,z]
 have a:=Y0 s.1 f
 have H:m.length+2=p.length:=by rw[F];simp
 obtain⟨h,B,g,I,J⟩:=CC (.mk c bs)
 rw[FH]
 unfold Z0
 walk_at "rd"
 refine⟨r,m,.mk c bs,rfl,s,f,?_⟩
 walk_at "rd"
 rw[g]
 refine B2 (d:=.str h) (B7 (j:=0) rfl) ?_
 walk_at "rd"
 rw[I a]
 cases e:isW (.mk c bs) with
 | true =>
  rw[e,if_pos rfl] at q
  walk_at "rd"
  exact View.of q
 | false =>
  rw[e,if_neg BU9] at q
  walk_at "rd"
  refine⟨.mk c bs,j,by rw[g],a,?_⟩
  cases b:E2 (.mk c bs) j with
  | true =>
   unfold E2 at b
   rw[BV3] at b
   have t:¬(j:Int)=(nC (.mk c bs):Int)+1:=by simpa using b.2
   rw[if_pos b.1,if_neg t] at q
   walk_at "rd"
   exact View.of q
  | false =>
   walk_at "rd"
   refine B2 (d:=.str h) (B7 (j:=0) rfl) ?_
   walk_at "rd"
   rw[J a]
   have last:hasL (.mk c bs)=false->spBehind n [rD r,plT m] M (View Q):=fun K=>by
    rw[K,if_neg BU9] at q
    exact⟨r,m,.mk c bs,rfl,s,f,by lia,View.of q⟩
   match c,a,g,e,b,q,last,k,f with
   | .tr cs,a,g,e,b,q,last,k,f =>
    show if true=true then _ else _
    walk_at "rd"
    refine⟨cs,bs,j,by rw[g],a,?_⟩
    have l:nC (.mk (.tr cs) bs)=cs.length:=rfl
    by_cases o:(j:Int)=(cs.length:Int)+1
    ·rw[decide_eq_true o]
     have u:j=cs.length+1:=by lia
     rw[u] at A
     have L:=AP9 (cs:=cs) A G
     rw[if_pos L,if_pos (by rw[l];exact o)] at q
     walk_at "rd"
     exact View.of q
    ·rw[decide_eq_false o]
     walk_at "rd"
     refine last ?_
     unfold E2 at b
     rw[l,decide_eq_false o,Bool.not_false,Bool.and_true] at b
     exact b
   | .leaf _ _,a,g,e,b,q,last,k,f =>
    show if false=true then _ else _
    walk_at "rd"
    exact last rfl
   | .ife _,a,g,e,b,q,last,k,f =>
    show if false=true then _ else _
    walk_at "rd"
    exact last rfl
   | .whl _,a,g,e,b,q,last,k,f=>cases e
theorem UX:∀(cs:List (Str×Str)) (ts:List D) (k:Nat) (y:D),(E5 cs ts)[k]?=some y->∃c t,cs[k]?=some c/\y=.tup [.str c.1,.str c.2,t]
 | [],ts,k,y,h=>by simp[E5] at h
 | (w,x)::cs,[],k,y,h=>by simp[E5] at h
 | (w,x)::cs,t::ts,0,y,h=>by
  simp only[E5,CJ3,Option.some.injEq] at h
  exact⟨(w,x),t,rfl,h.symm⟩
 | (w,x)::cs,t::ts,k+1,y,h=>by
  simp only[E5,BZ8] at h
  obtain⟨c,a,e,b⟩:=UX cs ts k y h
  exact⟨c,a,by simpa using e,b⟩
theorem U6:∀(ds:List D) (n k:Nat) (y:D),(prs n ds)[k]?=some y->∃x,ds[k]?=some x/\y=.tup [.int ((n+k:Nat):Int),x]
 | [],n,k,y,h=>by simp[prs] at h
 | d::ds,n,0,y,h=>by
  simp only[prs,CJ3,Option.some.injEq] at h
  exact⟨d,rfl,h.symm⟩
 | d::ds,n,k+1,y,h=>by
  simp only[prs,BZ8] at h
  obtain⟨x,e,a⟩:=U6 ds (n+1) k y h
  exact⟨x,by simpa using e,by rw[a,show n+1+k=n+(k+1) by lia]⟩
theorem S3:∀(ds:List D) (n:Nat),(prs n ds).length=ds.length
 | [],_=>rfl
 | d::ds,n=>by simp only[prs,BU8,S3 ds (n+1)]
theorem rd_catch_of:∀ds M Q,WZ ds M Q->IL {nx:=fun _ M'=>View Q .non M',rt:=View Q} (B8 GA ds) M:=by
 rintro _ M Q ⟨d,j,w,rfl,b,q⟩
 obtain⟨h,I,m,_,i⟩:=CC d
 have i:=i b
 rw[RQ]
 unfold IL
 walk_at "rd"
 match d,b,m,i,q with
 | .mk (.tr l) bs,b,m,i,q =>
  obtain⟨s,K,L,e,u,v,_⟩:=BR9 b
  rw[e]
  refine B2 (d:=.str "try") rfl ?_
  walk_at "rd"
  rw[show((("try":Str))==("try":Str))=true by decide +kernel]
  walk_at "rd"
  by_cases p:j=0
  ·subst p
   have n:Q (match l.findIdx? (takes w) with|some c=>.int (c:Nat)|none=>.non) M:=q
   rw[show((0:Int)==0)=true by rfl]
   walk_at "rd"
   refine B2 (d:=.tup s) rfl ?_
   walk_at "rd"
   refine⟨fun k A M1=>M1=M/\(∃B C D E,A=[some (.tup [.str "try",L,.tup s,.tup K]),some (.int 0),some (.str w),B,C,D,E])/\∀c∈l.take k,takes w c=false,⟨rfl,⟨_,_,_,_,rfl⟩,by simp⟩,?_,?_⟩
   ·rintro k y A M1 N ⟨rfl,⟨B,C,D,E,rfl⟩,g⟩
    obtain⟨x,J,rfl⟩:=U6 s 0 k y N
    rw[u] at J
    obtain⟨c,t,F,rfl⟩:=UX l _ k x J
    rw[BW6]
    refine AK4 rfl ?_
    walk_at "rd"
    refine J0 rfl ?_
    walk_at "rd"
    have O:k<l.length:=(List.getElem?_eq_some_iff.mp F).1
    have f:takes w c=true->Q (.int (k:Nat)) M1:=fun G=>by
     have:l.findIdx? (takes w)=some k:=by
      rw[List.findIdx?_eq_some_iff_getElem]
      have r:l[k]=c:=(List.getElem?_eq_some_iff.mp F).2
      refine⟨O,by rw[r];exact G,fun j p=>?_⟩
      have:=g l[j] (by rw[List.mem_take_iff_getElem];exact⟨j,by lia,rfl⟩)
      rw[this];exact BU9
     rw[this] at n;exact n
    have a:takes w c=false->∀H∈l.take (k+1),takes w H=false:=fun G H o=>by
     rw[CD9,F] at o
     rcases List.mem_append.mp o with z|z
     ·exact g H z
     ·cases List.mem_singleton.mp z;exact G
    unfold takes at f a
    cases r:(c.1==w) with
    | true =>
     rw[r] at f
     walk_at "rd"
     exact View.of (f rfl)
    | false =>
     rw[r] at f a
     walk_at "rd"
     cases e2:(c.1==("any":Str)) with
     | true =>
      rw[e2] at f
      walk_at "rd"
      exact View.of (f rfl)
     | false =>
      rw[e2] at a
      walk_at "rd"
      exact⟨rfl,⟨_,_,_,_,rfl⟩,a rfl⟩
   ·rintro A M1 ⟨rfl,⟨B,C,D,E,rfl⟩,g⟩
    rw[S3,v,CF7] at g
    have:l.findIdx? (takes w)=none:=List.findIdx?_eq_none_iff.mpr g
    rw[this] at n
    walk_at "rd"
    exact View.of n
  ·rw[show(j==0)=false by rw[FM];exact decide_eq_false p]
   have n:Q (match (if j=0 then l.findIdx? (takes w) else none) with|some c=>.int (c:Nat)|none=>.non) M:=q
   rw[if_neg p] at n
   walk_at "rd"
   exact View.of n
 | .mk (.leaf _ _) _,b,m,i,q =>
  rw[m]
  refine B2 (d:=.str h) (B7 (j:=0) rfl) ?_
  walk_at "rd"
  rw[i]
  walk_at "rd"
  exact View.of q
 | .mk (.ife _) _,b,m,i,q =>
  rw[m]
  refine B2 (d:=.str h) (B7 (j:=0) rfl) ?_
  walk_at "rd"
  rw[i]
  walk_at "rd"
  exact View.of q
 | .mk (.whl _) _,b,m,i,q =>
  rw[m]
  refine B2 (d:=.str h) (B7 (j:=0) rfl) ?_
  walk_at "rd"
  rw[i]
  walk_at "rd"
  exact View.of q
theorem QC (w:Str)(q:List Int)(d:Deed)(j:Int)(l:List (List Int×Deed×Int)):S5 w ((q,d,j)::l)=(match W5 w d j with
  | some c=>.tup [.str "catch",plT q,.int (c:Nat)]
  | none=>if E2 d j=true then .tup [.str "last",plT q] else S5 w l):=rfl
theorem rd_fault_goes:∀ds M Q,spFault ds M Q->DI {nx:=fun _ M'=>View Q .non M',rt:=View Q} (B8 BO ds) M:=by
 rintro _ M Q ⟨r,p,d,w,rfl,s,t,q⟩
 rw[JP]
 unfold DI
 walk_at "rd"
 refine⟨r,p,d,rfl,s,t,?_⟩
 walk_at "rd"
 have v:=BE p.length (BU4 _) t
 generalize ar r.blk p=L at *
 refine⟨fun k h i=>i=M/\(∃l m n o,h=[some (rD r),some (plT p),some (.str w),l,m,n,o])/\S5 w (L.drop k)=S5 w L,⟨rfl,⟨_,_,_,_,rfl⟩,rfl⟩,?_,?_⟩
 ·rintro k y h i x ⟨rfl,⟨l,m,n,o,rfl⟩,b⟩
  obtain⟨⟨z,f,j⟩,u,rfl⟩:=FQ x
  have g:=OX s (v _ (BV2 u))
  rw[BY u,QC] at b
  refine J0 rfl ?_
  walk_at "rd"
  refine⟨f,j,w,rfl,g,?_⟩
  cases e:W5 w f j with
  | some c =>
   rw[e] at b
   walk_at "rd"
   exact View.of (by rw[<-b] at q;exact q)
  | none =>
   rw[e] at b
   walk_at "rd"
   refine⟨f,j,rfl,g,?_⟩
   have a:(if E2 f j=true then .tup [.str "last",plT z] else S5 w (L.drop (k+1)))=S5 w L:=b
   cases e:E2 f j with
   | true =>
    rw[e,if_pos rfl] at a
    walk_at "rd"
    exact View.of (by rw[<-a] at q;exact q)
   | false =>
    rw[e,if_neg BU9] at a
    walk_at "rd"
    exact⟨rfl,⟨_,_,_,_,rfl⟩,a⟩
 ·rintro h i ⟨rfl,⟨l,m,n,o,rfl⟩,b⟩
  rw[BU2,CJ5] at b
  walk_at "rd"
  exact View.of (by rw[<-b] at q;exact q)
end GO
namespace L3
open PySem PySem.Spec PyProof.Rows L2
section
variable {X:Cx}
def WR:C3:=fun ds M Q=>match ds with
 | [.int i,.int j]=>Q (.int (if j>i then j else i)) M
 | _=>False
theorem BC5 (d:X.calm=true):CallR3 X (.builtin "max") WR:=CallR3.of (XU d) fun H M h e Q m f q=>by
 cases f with
 | nil=>exact(q:False).elim
 | cons b g =>
 cases g with
 | nil=>first|exact(q:False).elim|(cases b<;>exact(q:False).elim)
 | cons c a =>
 cases b with
 | int =>
  cases c with
  | int =>
   cases a with
   | nil=>exact⟨_,_,rfl,up0 m .int q⟩
   | cons _ _=>exact(q:False).elim
  | _=>first|exact(q:False).elim|(cases a<;>exact(q:False).elim)
 | _=>first|exact(q:False).elim|(cases a<;>exact(q:False).elim)|(cases c<;>cases a<;>exact(q:False).elim)
theorem BB8:BZ4 "max"=some (.builtin "max"):=by decide +kernel
instance rd_maxI {i j:Int}{M:Mem}{Q:DK}:RdC (WR [.int i,.int j] M Q) (Q (.int (if j>i then j else i)) M):=⟨fun h=>h⟩
def HQ:M3:=fun x xs M Q=>∃z,x=.str z/\xs=[]/\z.length<=BV8/\(Builtin.Str.spaceWords z (z.length+1)).length<=BV8/\(Builtin.Str.spaceWords z (z.length+1)==[(0,z.length)])=false/\(wordsOf z).length<=BV8/\Q (.lst ((wordsOf z).map D.str)) M
theorem YQ:MtR3 X "str.split" HQ:=by
 rintro d s e H M x n o f v p Q I m g a h b ⟨z,rfl,rfl,i,j,k,l,q⟩
 cases b
 cases a
 cases h
 obtain⟨t,rfl⟩:=g
 refine call_meets F.slot_str_split (typeIs_str _ _ _) F.entry_str_split (F.args_str_split_1 _) (meets_str_split_space z t i j) ?_
 rw[if_neg (by rw[k];decide)]
 have c:=I.fresh
 exact⟨_,.ref _,M,_,(I.lnew (AW _ _) (by rw[BU2];exact l)),Step.lay c,m.lay c,rfl,.lst (.inl ⟨.inl D4,m.free c⟩) (LI _),q⟩
def NW:M3:=fun x xs M Q=>∃z a,∃ys:List Str,x=.str z/\xs=[.ref a]/\M a=some (.lst (ys.map D.str))/\AE7 z ys/\Q (.str (Txt.join z ys)) M
theorem AF2:MtR3 X "str.join" NW:=by
 rintro d s e H M x B C f v D Q I m g b h c ⟨z,a,E,rfl,rfl,i,j,q⟩
 obtain⟨F,rfl,l⟩:=RN c
 obtain⟨u,rfl,n⟩:=vals1 b
 cases h
 obtain⟨t,rfl⟩:=g
 cases l
 cases n
 obtain⟨o,p,r⟩:=m _ _ i
 cases o<;>first|exact r.elim|skip
 obtain⟨w,y,A,G⟩:=I.list (.inl (.inl p))
 exact join_list A.isList (by simpa using XE (show Reps _ _ _ _ _ from r) y) j fun J k=>⟨_,.str _,M,H,I.tok k,.refl,m,⟨_,rfl⟩,.str,q⟩
def FU:C3:=fun ds M Q=>∃a xs,ds=[.ref a]/\M a=some (.lst xs)/\Q (.lst xs) M
theorem AB1:CallR3 X (.type "list") FU:=CallR3.of MP fun H M j c Q m d q=>by
 obtain⟨a,k,rfl,e,q⟩:=q
 obtain⟨n,rfl,f⟩:=RN d
 cases f
 obtain⟨g,h,r⟩:=m _ _ e
 cases g<;>first|exact r.elim|skip
 have i:Reps _ _ _ _ _:=r
 exact⟨_,_,rfl,.inl (.inl (.inl h)),fun l b=>⟨_,M,Step.lay b,m.lay b,.lst (.inl ⟨.inl D4,m.free b⟩) (i.mono (Step.lay b)),q⟩⟩
theorem AK6 {a:Addr}{xs:List D}{Q:DK}(h:M a=some (.lst xs))(q:Q (.lst xs) M):FU [.ref a] M Q:=⟨a,xs,rfl,h,q⟩
end
end L3
namespace L3
open PySem L2
instance rd_slWL {ds:List D}{l u:Option Int}{M:Mem}{Q:DK}:RdC (Y1 (.lst ds) l u M Q) (Q (.lst (cutD ds l u)) M):=⟨fun h=>h⟩
end L3
open L3
namespace K01
open PySem L2 L3
end K01
namespace L3
open PySem PySem.Spec PyProof.Rows L2
theorem ST {R:Result->BV1->Prop}{kx vx a:Expr}{it:Value}{D:Addr}(I:Nat->BV1->Prop)
  (o:∀n s,I n s->wpAny (model prog w) A (pyNext it) (fun r s₁=>match r with
   | none=>R (.ok .next) s₁
   | some v=>wpAny (model prog w) A (CG6 a it v) (fun _ d=>wpAny (model prog w) A (assign a env v) (fun _ s₂ =>
     wpAny (model prog w) A (forIn ifs true fun c r=>if r=true then do let ok <-isTrue c env (eval c env);pure (ForInStep.yield ok) else pure (ForInStep.yield r)) (fun ok e =>
      if ok=true then wpAny (model prog w) A (eval kx env) (fun x f=>wpAny (model prog w) A (eval vx env) (fun y g =>
       wpAny (model prog w) A (dictSet D x y) (fun _ i=>∃m,m<n/\I m i) (fun _ _=>False) g) (fun _ _=>False) f) (fun _ _=>False) e
      else∃m,m<n/\I m e) (fun _ _=>False) s₂) (fun _ _=>False) d) (fun _ _=>False) s₁) (fun _ _=>False) s)
  (n:Nat) (h:I n s):codeAny (model prog w) A (.compLoop (.DictComp kx vx [⟨a,iter,ifs,0⟩] scope pos) 0 it (.ref D) env) R s:=by
 refine codeAny_loop rfl I (fun n s z=>?_) n h
 refine wpAny_noted ?_
 refine BU3 (CI1 (BU3 (CA5 (o n s z) (fun r s₁ j=>?_) fun _ _ b=>b.elim)))
 cases r with
 | none=>exact BV0 j
 | some v =>
  refine BU3 (CA5 j (fun _ d l=>?_) fun _ _ b=>b.elim)
  refine BU3 (CA5 l (fun _ s₂ p=>BU3 (CA5 p (fun ok e k=>?_) fun _ _ b=>b.elim)) fun _ _ b=>b.elim)
  cases ok with
  | false=>exact BV0 ⟨rfl,k⟩
  | true =>
   exact BU3 (BU3 (CA5 k (fun x f q=>BU3 (CA4 (CA5 q (fun y g t=>BU3 (CI1 (CA4 (CA5 t (fun _ i u=>BV0 ⟨rfl,u⟩) fun _ _ b=>b.elim)))) fun _ _ b=>b.elim))) fun _ _ b=>b.elim))
def Fg (K:BU5)(x:Str)(st:Stmt):Prop:=∃(f:Addr) (oc:Value) (od an:Option Addr) (osl:Array (Option Value)) (kV doc pm cdv ct:Value),
 CC3 K BY2 x=some (some (.ref f))/\K.lookup f=some ⟨oc,od,.func (CB8 x x (N0 st) (G3 st) (D3 st) .none kV doc pm an cdv ct),osl⟩ /\
 CG1 K cdv x=true/\CB3 K (.ref f)=true
theorem Fg.of {f:Addr}{kV pm ct:Value}
  (a:CC3 K BY2 x=some (some (.ref f))) (l:K.lookup f=some ⟨oc,od,.func (CB8 x x (N0 st) (G3 st) (D3 st) .none kV doc pm an cdv ct),osl⟩)
  (c:CG1 K cdv x=true) (k:CB3 K (.ref f)=true):Fg K x st:=⟨f,oc,od,an,osl,kV,doc,pm,cdv,ct,a,l,c,k⟩
def Bd (x:Str)(st:Stmt)(ps:List Str):Prop:=∀(kV doc pm:Value) (an:Option Addr) (cdv ct:Value) (us:List Value),us.length=ps.length->bindArgs (CB8 x x (N0 st) (G3 st) (D3 st) .none kV doc pm an cdv ct) ⟨us,[]⟩=pure (ps.zip us)
section
variable {K:BU5}{h:Heap}{mg:Str->Option Value}{x:Str}{st:Stmt}{fa:Addr}(X:K.In h)(G:h.Ns BY2 mg)
include X G
theorem Fg.at (b:Bd x st ps)(p:Fg K x st):∃f fd,XO K mg x st ps f fd:=by
 obtain⟨f,h,i,j,d,kV,e,pm,g,ct,a,l,c,k⟩:=p
 exact⟨f,_,VO X G a l c k b⟩
theorem Fg.law {q:Str}(b:mg x=some (.ref fa))(g:Bd x st [q])(p:Fg K x st):∃fd,XO K mg x st [q] fa fd/\∀(s:BV1) (v:Value),BindsTo s fd ⟨[v],[]⟩ [(q,v)]:=by
 obtain⟨f,j,m,h,i,kV,d,pm,e,ct,a,l,c,k⟩:=p
 cases b.symm.trans (PySem.W.mg_of X G a)
 exact⟨_,VO X G a l c k g,fun s v=>.of_eq (g kV d pm h e ct [v] rfl)⟩
end
section
variable {X:Cx}{pos:Pos}{f:Addr}{fd:CI3}{ps:List Str}{k:Nat}{x:Str}{p:Pos}{sp:Sp3}{e:Expr}{es:List Expr}{t:TA3}{st:Stmt}
end
section
variable {X:Cx}{i:Expr}{ti:TE3}{pos:Pos}
def AD6 (P:Params)(r:Str×Tok×Str×Tok):DictEntry:=⟨BZ1 P r.1,.str r.1 r.2.1,.str r.2.2.1 r.2.2.2⟩
def EQ (rows:List (Str×Tok×Str×Tok)):List (Key×Value):=rows.map fun r=>(Sum.inr r.1,.str r.2.2.1 r.2.2.2)
def LT (K:BU5)(P:Params)(a:Addr)(tbl:List (Str×Str)):Prop:=∃(rows:List (Str×Tok×Str×Tok)) (ep:Nat),K.lookup a=some ⟨.type "dict",none,.dict (rows.map (AD6 P)).toArray ep,#[]⟩/\(rows.map (·.1)).Nodup/\rows.map (fun r=>(r.1,r.2.2.1))=tbl
theorem HV:∀{a:List (Str×Tok×Str×Tok)} {w y:Str},(a.map (fun r=>(r.1,r.2.2.1))).lookup w=some y->∃t,valueAt (EQ a) (Sum.inr w)=some (.str y t)
 | [],w,y,h=>by simp at h
 | (s,t,y',t')::a,w,y,h=>by
  simp only[BX1,BW0] at h
  by_cases b:w=s
  ·subst b
   simp only[beq_self_eq_true] at h
   cases h
   exact⟨t',by simp[valueAt,EQ]⟩
  ·have c:(w==s)=false:=by simpa using b
   rw[c] at h
   obtain⟨u,d⟩:=HV h
   refine⟨u,?_⟩
   have:¬(Sum.inr s:Key)=Sum.inr w:=fun z=>b (Sum.inr.inj z).symm
   unfold valueAt EQ at d ⊢
   rw[BX1,List.find?_cons_of_neg (by simpa using this)]
   exact d
theorem ER {P:BY7}{w:World}:∀a:List (Str×Tok×Str×Tok),Pairs (E3 P w) (a.map (AD6 w.params)) (EQ a)
 | []=>.nil
 | r::a=>.cons (P2 P w r.1 r.2.1) rfl (ER a)
theorem YH {a:Addr}{c:List (Str×Tok×Str×Tok)}{g:Nat}(i:h.get? a=some ⟨.type "dict",none,.dict (c.map (AD6 w.params)).toArray g,#[]⟩)(j:(c.map (·.1)).Nodup) :
  h.DictOf (E3 P w) a (EQ c):=by
 refine⟨_,_,g,i,⟨rfl,rfl,rfl⟩,rfl,fun e k=>?_,by simpa using ER c,?_⟩
 ·obtain⟨s,t,y,d,_,rfl⟩:∃s t y d,(s,t,y,d)∈c/\AD6 w.params (s,t,y,d)=e:=by simpa using k
  exact⟨.inr s,P2 P w s t,rfl⟩
 ·have:(EQ c).map (·.1)=(c.map (·.1)).map Sum.inr:=by unfold EQ;rw[CC6,CC6];rfl
  rw[this]
  exact List.Pairwise.map _ (fun a b f l=>f (Sum.inr.inj l)) j
def AW8 (tbl:List (Str×Str))(ti:TE3):TE3:=fun σ M Q=>ti σ M fun d M1=>∃w y,d=.str w/\tbl.lookup w=some y/\Q (.str y) M1
theorem BG8 {tbl:List (Str×Str)}{j:Pos}(r:Gl X x)(l:∃a,X.mg x=some (.ref a)/\LT X.K X.w.params a tbl)(hi:PE3 X i ti)(hs:XS i)(hd:(x==("__debug__":Str))=false:=by decide):PE3 X (.Subscript (.Name x j) i pos) (AW8 tbl ti):=by
 obtain⟨a,l,c,ep,A,B,gr⟩:=l
 intro b s e H m M Q I hS C h
 refine OR PySem.F.slot_dict_getitem.lookup hs (thn (QZ (d:=.ref a) (v:=.ref a) r l rfl (fun _ _=>.ref) hd b s e H m M (fun d f=>d=.ref a/\ti m f fun d f=>∃w y,d=.str w/\tbl.lookup w=some y/\Q (.str y) f) I hS C ⟨rfl,h⟩) fun u D ⟨d,v,f,E,G,g,J,L,j,N,O⟩=>?_)
 subst N
 cases j
 obtain rfl:u=Value.ref a:=L
 refine thn (hi b D e E m f _ G (hS.mono g) J O) fun iv P ⟨y,yv,R,S,o,n,T,U,V,w,z,W,p,Y⟩=>?_
 subst W
 cases V
 have q:P.heap.DictOf (E3 X.prog X.w) a (EQ c):=YH (o.kIn a _ A) B
 rw[<-gr] at p
 obtain⟨t,Z⟩:=HV p
 exact⟨q.typeIs,wpAny_getItem_of (QK (k:=.inr w) U) q.mapOf Z ⟨_,.str z,R,S,o.tok _,g.trans n,T,⟨_,rfl⟩,.str,Y⟩⟩
instance rd_gs {tbl:List (Str×Str)}{σ:Lo}{M:Mem}{Q:DK}:RdC (AW8 tbl ti σ M Q) (ti σ M fun d M1=>∃w y,d=.str w/\tbl.lookup w=some y/\Q (.str y) M1):=⟨fun h=>h⟩
end
structure Book where
 bin:Nat->Operator->R3
 cmp:Nat->CmpOp->R3
 call:Nat->Str->Option (Value×C3)
 meth:Nat->Str->Option (String×String×M3)
structure BookOk (B:Book)(X:Cx):Prop where
 bin:∀n op,OpR3 X (CE2 op) (B.bin n op)
 cmp:∀n op,OpR3 X (BY6 op) (B.cmp n op)
 call:∀n x u r,B.call n x=some (u,r)->X.mg x=none/\BZ4 x=some u/\((∃i,u=.builtin i)\/∃T,u=.type T)/\CallR3 X u r
 meth:∀n x T i r,B.meth n x=some (T,i,r)->PlainAttrs T/\Slot T x i/\typeOf (.builtin i)=pure (.type "method_descriptor")/\MtR3 X i r
structure Ct where
 N:List Str
 sc:Scope
 fns:Str->Option Sp3
 con:Str->Option D
 tb:Str->Option (List (Str×List Str))
 ts:Str->Option (List (Str×Str))
 h:Pos->Nat
 hi:Pos->Nat
 cp:Pos->Option (List Str)
 fz:Nat->List Nat
 B:Book
def BA4 (P:BY7)(w:World)(K:BU5)(mg:Str->Option Value)(base:Heap)(A:CE0)(x:Str)(sp:Sp3):Prop :=
 ∃k f fd ps,AL P w K mg base CX0 k f fd ps (GP K sp)/\Room k A/\mg x=some (.ref f)/\CB3 K (.ref f)=true/\Binds K fd ps []
structure OkC (Γ:Ct)(X:Cx):Prop where
 N:X.N=Γ.N
 nd:Γ.N.Nodup
 sc:∀x,X.env.kindOf x=Γ.sc.names.lookup x\/(Γ.sc.names.lookup x=some .free/\X.env.kindOf x=some .cell)
 cel:∀x,Γ.sc.names.lookup x=some .cell->X.fn x=true
 fns:∀x sp,Γ.fns x=some sp->BA4 X.prog X.w X.K X.mg X.base X.A x sp
 con:∀x d,Γ.con x=some d->(∃u v,X.mg x=some u/\RelV v u/\∀M H,Rep X.K M H d v)\/∃n,d=.ty n/\X.mg x=none/\BZ4 x=some (.type n)
 tb:∀x l,Γ.tb x=some l->∃a,X.mg x=some (.ref a)/\AX0 X.K X.w.params a l/\(a==CC2)=false
 ts:∀x l,Γ.ts x=some l->∃a,X.mg x=some (.ref a)/\LT X.K X.w.params a l
 calm:X.calm=true
 un:X.A.units+2<cLine
 bk:∀Y:Cx,Y.mg=X.mg->Y.A=X.A->Y.calm=true->BookOk Γ.B Y
theorem OkC.b {Γ:Ct}{X:Cx}(o:OkC Γ X):BookOk Γ.B X:=o.bk X rfl rfl o.calm
structure Rc where
 E:Ct->Expr->TE3
 T:Ct->Expr->TT3
def AN (R:Rc):Prop:=∀Γ X,OkC Γ X->(∀e,PE3 X e (R.E Γ e))/\∀e,PT3 X e (R.T Γ e)
structure Ext where
 E:Rc->Ct->Expr->Option TE3
 I:Rc->Ct->Expr->Expr->Option TI3
 J:Rc->Ct->Expr->Expr->Option TI3
 S:Rc->(Ct->List Stmt->TS3)->Ct->Stmt->Option TS3
def Pw (X:Cx):Prop:=PassesOwn (model X.prog X.w) X.A X.env X.xe
def ZZ (b:Ct->List Stmt->TS3):Prop:=∀Γ X,OkC Γ X->Pw X->∀ss,PSs3 X ss (b Γ ss)
structure ExtOk (x:Ext):Prop where
 E:∀R,AN R->∀Γ X,OkC Γ X->∀e t,x.E R Γ e=some t->PE3 X e t
 I:∀R,AN R->∀Γ X,OkC Γ X->∀g i t,x.I R Γ g i=some t->PI3 X g i t
 J:∀R,AN R->∀Γ X,OkC Γ X->∀g i t,x.J R Γ g i=some t->SM X g i t
 S:∀R,AN R->∀b,ZZ b->∀Γ X,OkC Γ X->Pw X->∀s t,x.S R b Γ s=some t->PS3 X s t
def AO:Ext:=⟨fun _ _ _=>none,fun _ _ _ _=>none,fun _ _ _ _=>none,fun _ _ _ _=>none⟩
theorem G4:ExtOk AO:=⟨fun _ _ _ _ _ _ _ h=>(by cases h),fun _ _ _ _ _ _ _ _ h=>(by cases h),fun _ _ _ _ _ _ _ _ h=>(by cases h),fun _ _ _ _ _ _ _ _ _ _ h=>(by cases h)⟩
def or1 {α:Type}(a b:Option α):Option α:=match a with|some x=>some x|none=>b
theorem NS {a b:Option α}{t:α}(h:or1 a b=some t):a=some t\/b=some t:=by
 unfold or1 at h
 split at h
 ·exact .inl h
 ·exact .inr h
def Ext.or (x y:Ext):Ext:=⟨fun R Γ e=>or1 (x.E R Γ e) (y.E R Γ e),fun R Γ g i=>or1 (x.I R Γ g i) (y.I R Γ g i),fun R Γ g i=>or1 (x.J R Γ g i) (y.J R Γ g i),fun R b Γ s=>or1 (x.S R b Γ s) (y.S R b Γ s)⟩
theorem ExtOk.or {x y:Ext}(a:ExtOk x)(b:ExtOk y):ExtOk (x.or y) where
 E:=fun R h d X o e t q=>(NS q).elim (a.E R h d X o e t) (b.E R h d X o e t)
 I:=fun R h d X o g i t q=>(NS q).elim (a.I R h d X o g i t) (b.I R h d X o g i t)
 J:=fun R h d X o g i t q=>(NS q).elim (a.J R h d X o g i t) (b.J R h d X o g i t)
 S:=fun R h c k d X o p s t q=>(NS q).elim (a.S R h c k d X o p s t) (b.S R h c k d X o p s t)
def bad:TE3:=fun _ _ _=>False
def AA9:TT3:=fun _ _ _=>False
def BL0:TA3:=fun _ _ _=>False
def BS:TS3:=fun _ _ _=>False
section
variable {Γ:Ct}{X:Cx}{R:Rc}
theorem F8:PE3 X e bad:=fun _ _ _ _ _ _ _ _ _ _ h=>h.elim
theorem MJ:PT3 X e AA9:=fun _ _ _ _ _ _ _ _ _ _ h=>h.elim
theorem AO3:PA3 X es BL0:=fun _ _ _ _ _ _ _ _ _ _ _ h=>h.elim
theorem L8:PS3 X st BS:=fun _ _ _ _ _ _ _ _ _ _ h=>h.elim
theorem AA8 {st:List Stmt}:PSs3 X st BS:=fun _ _ _ _ _ _ _ _ _ _ h=>h.elim
def dbg (x:Str):Bool:=x=="__debug__" || x=="__classdict__" || x=="__name__"
def ixn (x:Str):List Str->Nat->Option Nat
 | [],_=>none
 | y::ys,n=>match x==y with|true=>some n|false=>ixn x ys (n+1)
theorem AE6 {x:Str}:∀{l:List Str} {n i:Nat},ixn x l n=some i->n<=i/\l[i-n]?=some x
 | [],n,i,h=>by cases h
 | y::ys,n,i,h=>by
  unfold ixn at h
  split at h
  ·cases h
   rename_i e
   simp only[BU4,Nat.sub_self,CJ3,true_and]
   rw[eq_of_beq e]
  ·obtain⟨a,b⟩:=AE6 h
   refine⟨by lia,?_⟩
   have:i-n=i-(n+1)+1:=by lia
   rw[this,BZ8]
   exact b
theorem NC (o:OkC Γ X)(h:ixn x Γ.N 0=some i):X.N[i]?=some x:=by
 rw[o.N];simpa using(AE6 h).2
def rNm (Γ:Ct)(x:Str):TE3:=match dbg x,Γ.sc.names.lookup x with
 | false,some .globalImplicit=>match Γ.con x with|some d=>tC3 d|none=>bad
 | false,some .globalExplicit=>bad
 | false,some _=>match ixn x Γ.N 0 with|some i=>A4 i|none=>bad
 | _,_=>bad
theorem VF (h:dbg x=false):(x==("__debug__":Str))=false:=by
 unfold dbg at h;simp only[CB0] at h;exact h.1.1
theorem BL4 (h:dbg x=false):(x==("__classdict__":Str))=false:=by
 unfold dbg at h;simp only[CB0] at h;exact h.1.2
theorem AX3 (h:dbg x=false):x≠"__name__":=by
 unfold dbg at h;simp only[CB0] at h;exact ne_of_beq_false h.2
theorem OkC.gl (o:OkC Γ X)(h:Γ.sc.names.lookup x=some .globalImplicit):Gl X x:=by
 rcases o.sc x with e|⟨e,_⟩
 ·exact e.trans h
 ·rw[h] at e;cases e
theorem OkC.lcl (o:OkC Γ X)(h:Γ.sc.names.lookup x=some .local):X.env.scope.names.lookup x=some .local:=by
 rcases o.sc x with e|⟨e,_⟩
 ·exact e.trans h
 ·rw[h] at e;cases e
theorem OkC.cll (o:OkC Γ X)(h:Γ.sc.names.lookup x=some .cell):X.env.scope.names.lookup x=some .cell:=by
 rcases o.sc x with e|⟨e,_⟩
 ·exact e.trans h
 ·rw[h] at e;cases e
theorem OkC.fre (o:OkC Γ X)(h:Γ.sc.names.lookup x=some .free):Vis X.env.scope x:=by
 rcases o.sc x with e|⟨_,e⟩
 ·exact .inr (.inr (e.trans h))
 ·exact .inr (.inl e)
theorem BN4 (o:OkC Γ X):PE3 X (.Name x pos) (rNm Γ x):=by
 unfold rNm
 cases hd:dbg x
 case true=>exact F8
 cases hk:Γ.sc.names.lookup x with
 | none=>exact F8
 | some k =>
  have lo:Vis X.env.scope x->PE3 X (.Name x pos) (match ixn x Γ.N 0 with|some i=>A4 i|none=>bad):=fun c=>by
   cases hi:ixn x Γ.N 0 with
   | none=>exact F8
   | some i=>exact pv3 i (NC o hi) c (VF hd) (BL4 hd)
  cases k with
  | «local»=>exact lo (.inl (o.lcl hk))
  | cell=>exact lo (.inr (.inl (o.cll hk)))
  | free=>exact lo (o.fre hk)
  | globalExplicit=>exact F8
  | globalImplicit =>
   cases hc:Γ.con x with
   | none=>exact F8
   | some d =>
    rcases o.con x d hc with⟨u,v,a,b,e⟩|⟨n,rfl,a,b⟩
    ·exact QZ (o.gl hk) a b e (VF hd)
    ·exact AG8 (d:=.ty n) (v:=.ty n) (o.gl hk) a b rfl (fun _ _ _=>.ty) (AX3 hd) (VF hd)
def rA (f:Expr->TE3):List Expr->TA3
 | []=>A5
 | e::es=>match isStar e with|true=>BL0|false=>A0 (f e) (rA f es)
theorem JD {f:Expr->TE3}(a:∀e,PE3 X e (f e)):∀es,PA3 X es (rA f es)
 | []=>WH
 | e::es=>by
  unfold rA
  cases h:isStar e
  ·exact BP2 (a e) (JD a es) h
  ·exact AO3
def rO (f:Expr->TE3):Option Expr->TO3
 | none=>F7
 | some e=>J8 (f e)
theorem YU {f:Expr->TE3}(a:∀e,PE3 X e (f e)):∀e,PO3 X e (rO f e)
 | none=>AI2
 | some e=>HL (a e)
def AJ8 (f:Expr->TE3):List Expr->TE3
 | []=>bad
 | e::r=>match r with|[]=>f e|_::_=>R4 (f e) (AJ8 f r)
def BJ3 (f:Expr->TE3):List Expr->TE3
 | []=>bad
 | e::r=>match r with|[]=>f e|_::_=>LJ (f e) (BJ3 f r)
theorem US {f:Expr->TE3}(a:∀e,PE3 X e (f e)){pos:Pos}:∀vs,PE3 X (.BoolOp .And vs pos) (AJ8 f vs)
 | []=>F8
 | [e]=>WI (a e)
 | e::b::r=>AR9 (a e) (US a (b::r))
theorem AG5 {f:Expr->TE3}(a:∀e,PE3 X e (f e)){pos:Pos}:∀vs,PE3 X (.BoolOp .Or vs pos) (BJ3 f vs)
 | []=>F8
 | [e]=>WI (a e)
 | e::b::r=>BH1 (a e) (AG5 a (b::r))
def UE (f:Expr->TT3):List Expr->TT3
 | []=>AA9
 | e::r=>match r with|[]=>f e|_::_=>ID (f e) (UE f r)
def AK2 (f:Expr->TT3):List Expr->TT3
 | []=>AA9
 | e::r=>match r with|[]=>f e|_::_=>CY (f e) (AK2 f r)
theorem RY {f:Expr->TT3}(a:∀e,PT3 X e (f e)){pos:Pos}:∀b r,PW3 X (.BoolOp .And (b::r) pos) (UE f (b::r))
 | e,[]=>AJ7 (a e)
 | e,b::r=>AV1 (a e) (RY a b r)
theorem XM {f:Expr->TT3}(a:∀e,PT3 X e (f e)){pos:Pos}:∀b r,PW3 X (.BoolOp .Or (b::r) pos) (AK2 f (b::r))
 | e,[]=>AV2 (a e)
 | e,b::r=>BJ0 (a e) (XM a b r)
def AK0 (R:Rc)(Γ:Ct)(a:Expr)(ops:List CmpOp)(bs:List Expr)(pos:Pos):TE3:=match ops,bs with
 | [op],[b]=>match behindInMarks op b with|true=>bad|false=>A6 (Γ.B.cmp (Γ.h pos) op) (R.E Γ a) (R.E Γ b)
 | [op,op'],[b,c]=>match lastMarks [op,op'] [b,c] with|true=>bad|false=>O8 (Γ.B.cmp (Γ.h pos) op) (Γ.B.cmp (Γ.h pos) op') (R.E Γ a) (R.E Γ b) (R.E Γ c)
 | _,_=>bad
theorem ML:PT3 X e (B1 bad):=fun _ _ _ _ _ _ _ _ _ _ h=>h.elim
theorem AB4 (o:OkC Γ X)(d:∀e,PE3 X e (R.E Γ e)){a:Expr}{ops:List CmpOp}{bs:List Expr}:PE3 X (.Compare a ops bs pos) (AK0 R Γ a ops bs pos)/\PT3 X (.Compare a ops bs pos) (B1 (AK0 R Γ a ops bs pos)):=by
 unfold AK0
 split
 ·rename_i f b
  cases h:behindInMarks f b
  ·exact⟨AS1 (o.b.cmp _ _) (d _) (d _) h,AU9 (o.b.cmp _ _) (d _) (d _) h⟩
  ·exact⟨F8,ML⟩
 ·rename_i f g b c
  cases h:lastMarks [f,g] [b,c]
  ·exact⟨YZ (o.b.cmp _ _) (o.b.cmp _ _) (d _) (d _) (d _) h,ZP (o.b.cmp _ _) (o.b.cmp _ _) (d _) (d _) (d _) h⟩
  ·exact⟨F8,ML⟩
 ·exact⟨F8,ML⟩
def BJ5 (R:Rc)(Γ:Ct)(a b:Expr)(pos:Pos):TE3:=match b with
 | .Slice lo hi none _=>Y7 (R.E Γ a) (rO (R.E Γ) lo) (rO (R.E Γ) hi)
 | .Slice _ _ (some _) _=>bad
 | .Constant (.str _) _ _=>A6 E6 (R.E Γ a) (R.E Γ b)
 | _=>match Γ.h pos with|0=>A6 C1 (R.E Γ a) (R.E Γ b)|_=>A6 E6 (R.E Γ a) (R.E Γ b)
theorem AF7 {b:Expr}(h:∀l u s p,b≠.Slice l u s p):XS b:=by
 intro o i;cases b<;>first|rfl|exact absurd rfl (h _ _ _ _)
theorem BJ9 (o:OkC Γ X)(c:∀e,PE3 X e (R.E Γ e)){a b:Expr}:PE3 X (.Subscript a b pos) (BJ5 R Γ a b pos):=by
 unfold BJ5
 split
 ·exact AS7 (c _) (YU c _) (YU c _)
 ·exact F8
 ·exact QX (Nat.lt_of_succ_lt o.un) (c _) (c _) (AF7 fun _ _ _ _ h=>by cases h)
 ·rename_i f g i
  have d:∀l u s p,b≠.Slice l u s p:=fun l u s p e=>by
   cases s with
   | none=>exact f _ _ _ e
   | some s=>exact g _ _ _ _ e
  split
  ·exact BG9 (c _) (c _) (AF7 d)
  ·exact QX (Nat.lt_of_succ_lt o.un) (c _) (c _) (AF7 d)
end
section
variable {Γ:Ct}{X:Cx}{R:Rc}
def gl (Γ:Ct)(x:Str):Bool:=!dbg x && (match Γ.sc.names.lookup x with|some .globalImplicit=>true|_=>false)
theorem QF (o:OkC Γ X)(h:gl Γ x=true):Gl X x/\(x==("__debug__":Str))=false/\x≠"__name__":=by
 unfold gl at h
 simp only[BV3,CA3] at h
 refine⟨o.gl ?_,VF h.1,AX3 h.1⟩
 have a:=h.2
 split at a
 ·assumption
 ·cases a
theorem IB (h:es.any isStar=false):((CI6 pos (BX4 es env)).any (·.1))=false:=by
 induction es with
 | nil=>rfl
 | cons e es a =>
  rw[BZ0,CB0] at h
  rw[F1 h.1]
  show(false || _)=false
  exact a h.2
theorem LH (h:es.any isStar=false):((CI6 pos (BX4 es env)).all (!·.1))=true:=by
 have:=IB (env:=env) (pos:=pos) h
 simpa using this
def WD:Expr->Bool
 | .Call _ [] _ _=>false
 | _=>true
theorem UK {o:Expr}{n:Str}(h:WD o=true):attributeBase o n env (eval o env)=eval o env:=by
 cases o with
 | Call f b c p =>
  cases b with
  | nil=>cases h
  | cons a b=>cases f<;>rfl
 | _=>rfl
def AJ9 (R:Rc)(Γ:Ct)(f:Expr)(args:List Expr)(kws:List Keyword)(pos:Pos):TE3:=match f,kws with
 | .Name x _,[]=>match gl Γ x && !args.any isStar with
  | false=>bad
  | true=>match Γ.fns x with
   | some sp=>A7 sp (rA (R.E Γ) args)
   | none=>match Γ.B.call (Γ.h pos) x,args with
    | some (_,r),_::_=>F0 r (rA (R.E Γ) args)
    | _,_=>bad
 | .Attribute o m ap,[]=>match ap.endLine==pos.line && !args.any isStar && WD o && decide (args.length<30) with
  | false=>bad
  | true=>match Γ.B.meth (Γ.h pos) m with
   | none=>bad
   | some (T,_,r)=>match args with
    | []=>XF T r (R.E Γ o)
    | _::_=>R5 T r (R.E Γ o) (rA (R.E Γ) args)
 | _,_=>bad
theorem AO7 (o:OkC Γ X)(n:∀e,PE3 X e (R.E Γ e)){f:Expr}{args:List Expr}{kws:List Keyword}:PE3 X (.Call f args kws pos) (AJ9 R Γ f args kws pos):=by
 unfold AJ9
 split
 ·rename_i x p
  cases h:(gl Γ x && !args.any isStar)
  ·exact F8
  rw[BV3,CA3] at h
  obtain⟨q,s,v⟩:=QF o h.1
  have d:=JD n args
  cases hf:Γ.fns x with
  | some J =>
   obtain⟨k,f,O,P,w,y,A,C,D⟩:=o.fns x J hf
   cases args with
   | nil=>exact YX w y q A C D s
   | cons a F =>
    have c:=h.2
    rw[BZ0,CB0] at c
    exact AG9 w y q A C D d s (F1 c.1 _ _) (IB c.2)
  | none =>
   dsimp only
   split
   ·rename_i u r a F K
    obtain⟨g,j,t,l⟩:=o.b.call _ _ _ _ K
    have c:=h.2
    rw[BZ0,CB0] at c
    rcases t with⟨i,rfl⟩|⟨T,rfl⟩
    ·exact YY l q g j d v s (F1 c.1 _ _) (IB c.2)
    ·exact TN l q g j d v s (F1 c.1 _ _) (IB c.2)
   ·exact F8
 ·rename_i L m M
  cases h:(M.endLine==pos.line && !args.any isStar && WD L && decide (args.length<30))
  ·exact F8
  rw[BV3,BV3,BV3,CA3] at h
  obtain⟨⟨⟨G,H⟩,I⟩,N⟩:=h
  cases hm:Γ.B.meth (Γ.h pos) m with
  | none=>exact F8
  | some z =>
   obtain⟨g,j,t,l⟩:=o.b.meth _ _ _ _ _ hm
   have d:=JD n args
   cases args with
   | nil=>exact AS0 g j t l (n _) (UK I) G
   | cons a F =>
    have c:=H
    rw[BZ0,CB0] at c
    refine BG6 g j t l (n _) d (UK I) ?_ G (F1 c.1 _ _) (IB c.2)
    rw[BV3,BV3]
    exact⟨⟨LH H,rfl⟩,by simpa using N⟩
 ·exact F8
inductive Gi where
 | one (i:Nat)|many (is:List Nat)|lsts (is:List Nat)
def gD:Gi->TG3
 | .one i=>K1 i
 | .many is=>N1 is
 | .lsts is=>AY0 is
def lc (Γ:Ct)(x:Str):Option Nat:=match Γ.sc.names.lookup x with
 | some .local=>ixn x Γ.N 0
 | some .cell=>ixn x Γ.N 0
 | _=>none
theorem KS (o:OkC Γ X)(h:lc Γ x=some i):X.N.Nodup/\X.N[i]?=some x/\Loc X.env.scope x/\(X.fn x=true\/X.env.scope.names.lookup x=some .local):=by
 refine⟨by rw[o.N];exact o.nd,?_⟩
 unfold lc at h
 split at h
 ·rename_i k;exact⟨NC o h,.inl (o.lcl k),.inr (o.lcl k)⟩
 ·rename_i k;exact⟨NC o h,.inr (o.cll k),.inl (o.cel x k)⟩
 ·cases h
def lcs (Γ:Ct):List Expr->Option (List Nat)
 | []=>some []
 | .Name x _::es=>match lc Γ x,lcs Γ es with|some i,some is=>some (i::is)|_,_=>none
 | _=>none
theorem SY (o:OkC Γ X):∀{es:List Expr} {is:List Nat},lcs Γ es=some is->PGs X es (YG is)/\(BZ9 es X.env).length=is.length/\(BZ9 es X.env).findIdx? (·.1)=none
 | [],is,h=>by cases h;exact⟨AH6,rfl,rfl⟩
 | e::es,is,h=>by
  cases e with
  | Name x p =>
   unfold lcs at h
   split at h
   ·rename_i i d f g
    cases h
    obtain⟨a,b,c⟩:=SY o g
    obtain⟨j,k,l,m⟩:=KS o f
    refine⟨ZE j k l a m rfl,congrArg (·+1) b,?_⟩
    show((false,_)::BZ9 es X.env).findIdx? _=none
    rw[List.findIdx?_cons]
    simp only[if_false,c]
    rfl
   ·cases h
  | _=>cases h
def rG (Γ:Ct):Expr->Option Gi
 | .Name x _=>(lc Γ x).map .one
 | .Tuple es _ p=>match Γ.h p with|0=>(lcs Γ es).map .many|_=>(lcs Γ es).map .lsts
 | _=>none
theorem AP6 (o:OkC Γ X){g:Gi}(h:rG Γ tg=some g):PG3 X tg (gD g):=by
 unfold rG at h
 split at h
 ·obtain⟨i,d,rfl⟩:=Option.map_eq_some_iff.mp h
  obtain⟨e,f,j,k⟩:=KS o d
  exact RA e f j k
 ·split at h
  ·obtain⟨l,d,rfl⟩:=Option.map_eq_some_iff.mp h
   obtain⟨a,b,c⟩:=SY o d
   exact AT7 o.calm a b c
  ·obtain⟨l,d,rfl⟩:=Option.map_eq_some_iff.mp h
   obtain⟨a,b,c⟩:=SY o d
   exact AT6 o.calm a b c
 ·cases h
def MU (n:Nat):Gi->Bool
 | .one i=>i<n
 | .many is=>is.all (·<n)
 | .lsts _=>false
theorem BM1 {n:Nat}:∀{g:Gi},MU n g=true->∀(d:D) (M:Mem) (Q:Lo->Mem->Prop) (cs:Lo),gD g d (BX2 n none++cs) M Q->gD g d (BX2 n none++cs) M fun a M'=>a.drop n=cs/\Q a M'
 | .one i,h=>AP7 (by simpa[MU] using h)
 | .many b,h=>BD4 (by simpa[MU] using h)
 | .lsts b,h=>by cases h
def rI (x:Ext)(R:Rc)(Γ:Ct)(tg it:Expr):Option TI3:=match x.I R Γ tg it with
 | some t=>some t
 | none=>match it with
  | .Call (.Name "range" _) as [] _=>match gl Γ "range" && (match Γ.B.call 0 "range" with|some _=>true|none=>false),as with
   | true,[a]=>if isStar a then none else some (P1 (rA (R.E Γ) [a]))
   | true,[a,b]=>if isStar a || isStar b then none else some (GV (rA (R.E Γ) [a,b]))
   | _,_=>none
  | .Tuple es k p=>some (CF (R.E Γ (.Tuple es k p)))
  | .Constant c k p=>some (AE5 (R.E Γ (.Constant c k p)))
  | it=>match Γ.hi it.pos with
   | 0=>some (K7 (R.E Γ it))
   | 1=>some (CF (R.E Γ it))
   | 2=>some (AE5 (R.E Γ it))
   | _=>none
theorem BM8 {x:Ext}(j:ExtOk x)(i:AN R)(o:OkC Γ X){it:Expr}{t:TI3}(h:rI x R Γ tg it=some t):PI3 X tg it t:=by
 have c:=(i Γ X o).1
 unfold rI at h
 split at h
 ·rename_i l e;cases h;exact j.I R i Γ X o _ _ _ e
 split at h
 ·rename_i m k
  split at h
  ·rename_i a d
   rw[BV3] at d
   obtain⟨g1,_,_⟩:=QF o d.1
   split at h
   ·cases h
   rename_i f
   cases h
   have g:X.mg "range"=none:=by
    have:=d.2
    split at this
    ·rename_i z e;exact(o.b.call _ _ z.1 z.2 e).1
    ·cases this
   exact TR g1 g (JD c _) (F1 (by simpa using f) _ _)
  ·rename_i a b d
   rw[BV3] at d
   obtain⟨g1,_,_⟩:=QF o d.1
   split at h
   ·cases h
   rename_i f
   cases h
   have g:X.mg "range"=none:=by
    have:=d.2
    split at this
    ·rename_i z e;exact(o.b.call _ _ z.1 z.2 e).1
    ·cases this
   simp only[Bool.or_eq_true,not_or,Bool.not_eq_true] at f
   refine TU g1 g (JD c _) ?_ (F1 f.2 _ _)
   rw[F1 f.1,F1 f.2];rfl
  ·cases h
 ·cases h;exact AZ0 (c _)
 ·cases h;exact AY9 (c _)
 ·split at h<;>cases h
  ·exact AY8 (c _)
  ·exact AZ0 (c _)
  ·exact AY9 (c _)
def rJ (x:Ext)(R:Rc)(Γ:Ct)(tg it:Expr):Option TI3:=match x.J R Γ tg it with
 | some t=>some t
 | none=>rI x R Γ tg it
theorem BE5 {x:Ext}(a:ExtOk x)(b:AN R)(o:OkC Γ X){it:Expr}{t:TI3}(h:rJ x R Γ tg it=some t):SM X tg it t:=by
 unfold rJ at h
 split at h
 ·rename_i c e;cases h;exact a.J R b Γ X o _ _ _ e
 ·exact PI3.toE (BM8 a b o h)
end
structure CH (X:Cx)(tg iter:Expr)(ifs:List Expr)(scope:Scope)(tns caps:List Str)(slots:List Nat)(ti:TI3)(g:TG3)(tt:TT3):Prop where
 cm:X.calm=true
 hi:SM X tg iter ti
 hk:scope.kind=.function
 ok:GL X.env scope caps=true
 hc:slots.map (fun j=>X.N[j]?)=caps.map some
 gk:∀d M Q (cs:Lo),g d (BX2 tns.length none++cs) M Q->g d (BX2 tns.length none++cs) M (fun σ' M'=>σ'.drop tns.length=cs/\Q σ' M')
 hg:∀cl s₀ H₀ ex,PG3 (F2 X scope cl s₀ H₀ ex (tns++caps)) tg g
 ht:∀cl s₀ H₀ ex,AN9 (F2 X scope cl s₀ H₀ ex (tns++caps)) ifs tt
 hs:∀y,CF5 iter X.env y=pure y
section
variable {α:Type}{X:Cx}{tg iter ce:Expr}{ifs:List Expr}{scope:Scope}{tns caps N:List Str}{slots:List Nat}{ti:TI3}{g:TG3}{tt:TT3}{mk:Sem Value}{ty:String}{dat:Data}{ho:HO}{a0:α}{mo:α->MO}{tb:Addr->α->(α->Mem->Prop)->Lo->Mem->Prop}{B:Addr->Env->BV1->(BV1->Prop)->Prop}{pos:Pos}
def tCG (a0:α)(mo:α->MO)(tb:Addr->α->(α->Mem->Prop)->Lo->Mem->Prop)(ti:TI3)(n:Nat)(slots:List Nat)(g:TG3)(tt:TT3)(F:Addr->α->Mem->Prop)(σ:Lo)(M:Mem):Prop:=ti σ M fun ds M1=>∀p,M1 p=none->∃Pv:Nat->α->Mem->Prop,Pv 0 a0 (D9 M1 p (mo a0)) /\
 (∀k d acc M,ds[k]?=some d->Pv k acc M->g d (BX2 n none++slots.map fun j=>(σ[j]?).getD none) M fun σ' M0=>tt σ' M0 fun b M'=>if b=true then tb p acc (Pv (k+1)) σ' M' else Pv (k+1) acc M') /\
 ∀acc M,Pv ds.length acc M->M p=some (mo acc)/\F p acc M
structure CB (X:Cx)(tg iter:Expr)(ifs:List Expr)(scope:Scope)(N:List Str)(ce:Expr)(mk:Sem Value)(ty:String)(dat:Data)(ho:HO)(a0:α)(mo:α->MO)(tb:Addr->α->(α->Mem->Prop)->Lo->Mem->Prop)(B:Addr->Env->BV1->(BV1->Prop)->Prop):Prop where
 cl:clausesOf ce=[⟨tg,iter,ifs,0⟩]
 fr:({cls:=.type ty,data:=dat}:Obj).isFreed=false
 new:∀{s:BV1} {Q:Value->BV1->Prop},Q (.ref s.heap.objs.size) {s with heap:=s.heap.push {cls:=.type ty,data:=dat}}->wpAny (model X.prog X.w) X.A mk Q X.xe s
 lay:∀{pins σv H s},Inv X pins σv H s->Inv X pins σv (upd H s.heap.objs.size ho) {s with heap:=s.heap.push {cls:=.type ty,data:=dat},toks:=s.toks}
 r0:∀{M H p},RepO X.K M H p (mo a0) ho
 lp:∀{it D env R s} (I:Nat->BV1->Prop),(∀n s,I n s->wpAny (model X.prog X.w) X.A (pyNext it) (fun r s₁=>match r with
   | none=>R (.ok .next) s₁
   | some v=>wpAny (model X.prog X.w) X.A (CG6 tg it v) (fun _ s₁'=>wpAny (model X.prog X.w) X.A (assign tg env v) (fun _ s₂ =>
     wpAny (model X.prog X.w) X.A (forIn ifs true fun c r=>if r=true then do let ok <-isTrue c env (eval c env);pure (ForInStep.yield ok) else pure (ForInStep.yield r)) (fun ok s₃ =>
      if ok=true then B D env s₃ (fun s₄=>∃m,m<n/\I m s₄) else∃m,m<n/\I m s₃) (fun _ _=>False) s₂) (fun _ _=>False) s₁') (fun _ _=>False) s₁) (fun _ _=>False) s) ->
   ∀n,I n s->codeAny (model X.prog X.w) X.A (.compLoop ce 0 it (.ref D) env) R s
 st:∀{it D env R s},codeAny (model X.prog X.w) X.A (.compLoop ce 0 it (.ref D) env) R s->wpAny (model X.prog X.w) X.A (pyIter it) (fun it' s'=>codeAny (model X.prog X.w) X.A (.compLoop ce 0 it' (.ref D) env) R s') (notedBy (model X.prog X.w) X.A env fun x s'=>R (.error x) s') s ->
   codeAny (model X.prog X.w) X.A (.compStart ce 0 it (.ref D) env) R s
 bd:∀{cl s₀ H₀ ex pins s σv H σ M D acc} {P:α->Mem->Prop} {R:BV1->Prop},Inv (F2 X scope cl s₀ H₀ ex N) pins σv H s->SRel X.K M H σ σv->MRel X.K M H->tb D acc P σ M ->
   (∀sF HF MF accF,Inv (F2 X scope cl s₀ H₀ ex N) pins σv HF sF->Step M H MF HF->MRel X.K MF HF->P accF MF->R sF)->B D (compEnvC scope cl s₀.heap.objs.size X.env) s R
set_option maxHeartbeats 2000000 in
theorem PR (C:CH X tg iter ifs scope tns caps slots ti g tt)(Kd:CB X tg iter ifs scope (tns++caps) ce mk ty dat ho a0 mo tb B)
  {use:Option (Value->Sem Unit)} {Post:Value->BV1->Prop} {σv:L2.St} {F:Addr->α->Mem->Prop} (I:Inv X pins σv H s) (hS:SRel X.K M H σ σv) (hM:MRel X.K M H) (h:tCG a0 mo tb ti tns.length slots g tt F σ M)
  (fin:∀(D C:Addr) (G:α) (H5:Hp) (M5:Mem) (s6:BV1) (m:Str->Option Value),s6.heap.Ns C m->Inv X pins σv H5 s6->H5 C=none->C≠X.env.locals->C∉X.fs->X.s₀.heap.objs.size<=C->(∀x c,X.env.cells.lookup x=some c->c≠C)->(∀p∈X.pn++pins,p.1≠C) ->
   Step M H M5 H5->MRel X.K M5 H5->M5 D=some (mo G)->F D G M5->compPost (model X.prog X.w) X.A X.xe use Post (.ref D) C (.ok .next) s6) :
  wpAny (model X.prog X.w) X.A (comprehension ce scope X.env (firstIterPos [⟨tg,iter,ifs,0⟩] pos) mk false (firstIter [⟨tg,iter,ifs,0⟩] X.env) use) Post X.xe s:=by
 have hok:=C.ok
 unfold GL at hok
 rw[BV3,CD6,CD6] at hok
 obtain⟨h1,h2⟩:=hok
 have hcell:∀y∈scope.names,y.2≠.cell:=fun y hy e=>by have:=h1 y hy;rw[e] at this;cases this
 have hnames:∀y∈scope.names,y.2=.local->scope.names.lookup y.1=some .local:=fun y hy e=>by
  have:=h1 y hy
  rw[e] at this
  dsimp only at this
  split at this
  ·assumption
  ·cases this
 have W:∀y∈scope.names,y.2=.free->X.env.kindOf y.1=some .cell\/X.env.kindOf y.1=some .free:=fun y hy e=>by
  have:=h1 y hy
  rw[e] at this
  dsimp only at this
  split at this
  ·exact .inl (by assumption)
  ·exact .inr (by assumption)
  ·cases this
 have hcf:∀y∈caps,scope.names.lookup y=some .free:=fun y hy=>by
  have:=h2 y hy
  split at this
  ·assumption
  ·cases this
 clear h1 h2
 obtain⟨hc,hi,Y,_,Z,hgk,hg,ht,hs⟩:=C
 have hclos:closureFor scope X.env=pure (R9 (fun n=>(X.env.cells.lookup n).getD 0) scope.names []):=JF fun p hp hk=>by
  obtain⟨a,e⟩:=I.ok.has p.1 (W p hp hk)
  rw[e];rfl
 have f:∀x c,(R9 (fun n=>(X.env.cells.lookup n).getD 0) scope.names []).lookup x=some c->X.env.cells.lookup x=some c:=fun x c e=>by
  obtain⟨e1,e2⟩:=AG1 e
  obtain⟨a,e3⟩:=I.ok.has x (W _ e2 rfl)
  rw[e3] at e1
  rw[e3,e1];rfl
 have clHas:∀n,(n,NameKind.free)∈scope.names->∃c,(R9 (fun n=>(X.env.cells.lookup n).getD 0) scope.names []).lookup n=some c:=fun n hn=>⟨_,MQ hn⟩
 generalize R9 (fun n=>(X.env.cells.lookup n).getD 0) scope.names []=cl at hclos f clHas
 refine wpAny_comprehension_free Kd.cl hs hclos Y hnames ?_
 refine thn (hi pins s σv H (fun J L=>∃ds M1,Step M H M1 L/\MRel X.K M1 L/\WkE X.K J ds M1 L/\_) I ⟨σ,M,_,hS,hM,h,fun ds J M1 H1 st m wk q=>⟨ds,M1,st,m,wk,q⟩⟩) fun v s1 h1=>thn h1 fun itv P h2=>?_
 obtain⟨it,Q,tn,J,L,e0,I2,T,st2,f2,ds,M1,stp,m1,wk,cont⟩:=h2
 subst e0
 refine Kd.new ?_
 have R:=Kd.lay I2
 have hget:∀b o,P.heap.get? b=some o->({P with heap:=P.heap.push {cls:=.type ty,data:=dat},toks:=P.toks}:BV1).heap.get? b=some o:=fun b o e=>BU6 _ e
 have hsz:P.heap.objs.size<({P with heap:=P.heap.push {cls:=.type ty,data:=dat},toks:=P.toks}:BV1).heap.objs.size:=BW1 (BW4 _ Kd.fr)
 have hos3:({P with heap:=P.heap.push {cls:=.type ty,data:=dat},toks:=P.toks}:BV1).os=P.os:=rfl
 generalize ({P with heap:=P.heap.push {cls:=.type ty,data:=dat},toks:=P.toks}:BV1)=s3 at R hget hsz hos3 ⊢
 refine wpAny_newFunctionEnv hcell (fun _ hx=>absurd hx (by simp)) (fun h4 hns hsb=>?_) Y
 have hDn:=I2.fresh
 have hD:upd L P.heap.objs.size ho P.heap.objs.size=some ho:=D4
 have fpne:∀b∈Q,b≠P.heap.objs.size:=fun b t=>by
  obtain⟨o,e,_⟩:=T.obj _ _ st2 b t
  exact BX7 (BW1 e)
 generalize P.heap.objs.size=D at hDn hD hsz R fpne ⊢
 have stD:Step M1 L (D9 M1 D (mo a0)) (upd L D ho):=Step.put (.inl hDn)
 have mD:MRel X.K (D9 M1 D (mo a0)) (upd L D ho):=m1.put (.inl hDn) Kd.r0
 have k4:∀b o,s3.heap.get? b=some o->h4.get? b=some o:=fun b o e=>(hsb.2 b (BX7 (BW1 e))).trans (BU6 _ e)
 have fpold:∀b∈Q,b<s3.heap.objs.size:=fun b t=>by
  obtain⟨o,e,_⟩:=T.obj _ _ st2 b t
  exact BW1 (hget b o e)
 have fpD:∀b∈Q,upd L D ho b=none:=fun b t=>by
  rw[D6 (fpne b t)];exact(f2 b t).1
 have xok:(F2 X scope cl s3 (upd L D ho) Q (tns++caps)).Ok:={
  mod:=I.ok.mod
  kind:=Y
  glob:=I.ok.glob
  blt:=I.ok.blt
  above:=BU4 _
  inj:=fun x y c e1 e2=>I.ok.inj x y c (f x c e1) (f y c e2)
  has:=fun x hx=>clHas x (OD hcell hx)
  cab:=fun x c hf=>by cases hf
  hd:=I.ok.hd
  frames:=I.ok.frames
  stk:=.inl rfl
  exf:=fun b t=>⟨BX7 (fpold b t),fun x c e=>(f2 b t).2.2.2.2.1 x c (f x c e)⟩
  bs:=R.bs
  bsz:=CA0 R.ok.bsz R.sz
  noex:=fun b o e t=>by
   rcases(f2 b t).2.2.2.1 with z|z
   ·exact I.ok.noex b o e z
   ·exact absurd (BX9 (BW1 e) (CA0 I.ok.bsz z)) (CF0 _)
  exfs:=fun b t z=>by
   rcases BZ3.mp (I2.stkSub b z) with z|z
   ·exact(f2 b t).2.1 z
   ·exact(f2 b t).2.2.1 z
  funs:=R.stack
  frf:=R.stkFree}
 have I4:Inv (F2 X scope cl s3 (upd L D ho) Q (tns++caps)) [] (BX2 tns.length none++slots.map fun j=>(σv[j]?).getD none) (upd L D ho) {s3 with heap:=h4,toks:=s3.toks+([]:List (Str×Value)).length}:={
  ok:=xok
  os:=rfl
  bare:=R.bare
  base:=Un.kept k4
  loc:=by
   refine⟨_,hns,fun i x v e1 e2 vis=>?_⟩
   have hi:tns.length<=i:=by
    rcases CD1 i tns.length with z|z
    ·rw[BW7 (by simpa using z),CD2] at e2
     split at e2<;>cases e2
    ·exact z
   change (tns++caps)[i]?=some x at e1
   rw[BY0 hi] at e1
   rw[BY0 (by simpa using hi),CE6,BV6] at e2
   cases e3:slots[i-tns.length]? with
   | none=>rw[e3] at e2;cases e2
   | some j =>
    rw[e3,CE4] at e2
    have O:=Option.some.inj e2
    have e5:σv[j]?=some (some v):=by
     cases q:σv[j]? with
     | none=>rw[q] at O;cases O
     | some z=>rw[q] at O;simp only[CF3] at O;rw[O]
    have e4:X.N[j]?=some x:=by
     have:=congrArg (fun l=>l[i-tns.length]?) Z
     simp only[BV6,e3,e1,CE4] at this
     exact Option.some.inj this
    have hxf:=hcf x (BV2 e1)
    have hk:=W (x,.free) (BX8 hxf) rfl
    obtain⟨m,hm,hl⟩:=R.loc
    obtain⟨u,ru,lk⟩:=hl j x v e4 e5 (hk.elim (fun z=>.inr (.inl z)) fun z=>.inr (.inr z))
    refine⟨u,ru,.inr ⟨JK hxf,?_⟩⟩
    rcases lk with⟨z,_⟩|⟨_,c,ec,ic⟩
    ·rcases hk with y|y<;>(rw[show X.env.kindOf x=_ from z] at y;cases y)
    ·obtain⟨c',ec'⟩:=clHas x (BX8 hxf)
     have:=f x c' ec'
     rw[ec] at this
     cases this
     obtain⟨o,ho,r⟩:=ic
     exact⟨c,ec',o,k4 _ _ ho,r⟩
  cell:=fun x c e=>by
   obtain⟨v,o,ho,r⟩:=R.cell x c (f x c e)
   exact⟨v,o,k4 _ _ ho,r⟩
  free:=R.fresh
  freeC:=fun x c e=>R.freeC x c (f x c e)
  pin:=fun p hp=>absurd hp (by simp[F2])
  hok:=R.hok.kept k4
  len:=by
   have:=congrArg CB7 Z
   simp at this
   simp[F2,this]}
 have hlen:caps.length=slots.length:=by
  have:=congrArg CB7 Z
  simpa using this.symm
 have stat:∀{S:Hp},(∀b∈Q,S b=none)->∀b∈Q,LS (F2 X scope cl s3 (upd L D ho) Q (tns++caps)) [] S b:=fun hn b t =>
  ⟨hn b t,(xok.exf b t).1,xok.exfs b t,.inl t,(xok.exf b t).2,fun p hp=>absurd hp (by simp[F2])⟩
 have hMD:=m1.free hDn
 obtain⟨Pv,p0,turn,done⟩:=cont D hMD
 have hS0:SRel X.K (D9 M1 D (mo a0)) (upd L D ho) (BX2 tns.length none++slots.map fun j=>(σ[j]?).getD none) (BX2 tns.length none++slots.map fun j=>(σv[j]?).getD none):=by
  refine⟨by simp,fun i d e=>?_⟩
  rcases CD1 i tns.length with z|z
  ·rw[BW7 (by simpa using z),CD2] at e
   split at e<;>cases e
  ·rw[BY0 (by simpa using z),CE6,BV6] at e ⊢
   cases e3:slots[i-tns.length]? with
   | none=>rw[e3] at e;cases e
   | some j =>
    rw[e3,CE4] at e
    have O:=Option.some.inj e
    have e5:σ[j]?=some (some d):=by
     cases q:σ[j]? with
     | none=>rw[q] at O;cases O
     | some z=>rw[q] at O;simp only[CF3] at O;rw[O]
    obtain⟨v,ev,rv⟩:=hS.get j d e5
    exact⟨v,by rw[CE4,ev];rfl,rv.mono (stp.trans stD)⟩
 generalize hcs:(slots.map fun j=>(σ[j]?).getD none)=cs at turn hS0
 have hcsl:cs.length=caps.length:=by rw[<-hcs,hlen];simp
 have loop:codeAny (model X.prog X.w) X.A (.compLoop ce 0 (.ref it) (.ref D) (compEnvC scope cl s3.heap.objs.size X.env)) (compPost (model X.prog X.w) X.A X.xe use Post (.ref D) s3.heap.objs.size) {s3 with heap:=h4,toks:=s3.toks+([]:List (Str×Value)).length}:=by
  refine Kd.lp (fun n s'=>∃k G E S M',n=ds.length-k/\k<=ds.length/\Inv (F2 X scope cl s3 (upd L D ho) Q (tns++caps)) [] E S s'/\tn k s'.heap/\(∀b∈Q,S b=none) /\
   Step (D9 M1 D (mo a0)) (upd L D ho) M' S/\MRel X.K M' S/\SRel X.K M' S (BX2 tns.length none++cs) E/\Pv k G M') ?_ _ ⟨0,a0,_,_,_,rfl,CD4 _,I4,T.keep _ _ _ st2 fun b t o e=>k4 _ _ (hget _ _ e),fpD,.refl,mD,hS0,p0⟩
  rintro n s5 ⟨k,G,σv5,H5,M5,rfl,hk,I5,tn5,fr5,st5,m5,hS5,pk⟩
  obtain⟨go,yld,stop⟩:=wk M5 H5 (stD.trans st5) m5
  by_cases hlt:k<ds.length
  ·refine thn (T.item (F2 X scope cl s3 (upd L D ho) Q (tns++caps)) rfl rfl rfl hc k [] s5 σv5 H5 (fun _ _=>False) I5 (stat fr5) tn5 (go k hlt)) fun r s6 U=>?_
   obtain⟨u,hr,h6⟩:=U
   subst hr
   refine thn h6 fun _ s7 U=>?_
   obtain⟨x,H7,I7,r7,y7,tn7,fr7⟩:=U
   obtain⟨sy,my,ry⟩:=yld k ds[k] x H7 (by simp[hlt]) y7
   have I7':=I7.pinned (stat fr7) (T.obj _ _ tn7)
   refine thn (hg cl s3 (upd L D ho) Q _ s7 σv5 _ x u (fun E S=>∃σ' M',Step M5 H7 M' S/\MRel X.K M' S/\SRel X.K M' S σ' E/\_) I7' r7 ⟨ds[k],_,M5,_,ry,hS5.mono sy,my,hgk _ _ _ _ (turn k ds[k] G M5 (by simp[hlt]) pk),fun σ' E M' S st m r q=>⟨σ',M',st,m,r,q⟩⟩) fun _ s8 U=>?_
   obtain⟨σ8,H8,I8,σ',M8,st8,m8,hS8,hdr,q8⟩:=U
   have again:∀(sF:BV1) (HF:Hp) (MF:Mem) (V:α),Inv (F2 X scope cl s3 (upd L D ho) Q (tns++caps)) ([]++HK Q s7.heap) σ8 HF sF->Step M8 H8 MF HF->MRel X.K MF HF->Pv (k+1) V MF ->
     ∃m,m<ds.length-k/\∃k G E S M',m=ds.length-k/\k<=ds.length/\Inv (F2 X scope cl s3 (upd L D ho) Q (tns++caps)) [] E S sF/\tn k sF.heap/\(∀b∈Q,S b=none) /\
      Step (D9 M1 D (mo a0)) (upd L D ho) M' S/\MRel X.K M' S/\SRel X.K M' S (BX2 tns.length none++cs) E/\Pv k G M':=by
    intro sF HF MF V IF stF mF pF
    refine⟨ds.length-(k+1),by lia,k+1,V,σ8,HF,MF,rfl,hlt,IF.unpinned,T.keep _ _ _ tn7 fun b t o e=>(IF.pin (b,o) (BW9 _ (BW9 _ (U2 t e)))).1,fun b t=>?_,((st5.trans sy).trans st8).trans stF,mF,?_,pF⟩
    ·obtain⟨o,e,d⟩:=T.obj _ _ tn7 b t
     exact(IF.pin (b,o) (BW9 _ (BW9 _ (U2 t e)))).2.1
    ·refine SRel.mono stF ⟨?_,fun i d e=>?_⟩
     ·have:=I8.len
      rw[this,BU7,CE6,hcsl]
      simp[F2]
     ·rcases CD1 i tns.length with z|z
      ·rw[BW7 (by simpa using z),CD2] at e
       split at e<;>cases e
      ·rw[BY0 (by simpa using z),CE6,<-hdr,CA7] at e
       have:tns.length+(i-tns.length)=i:=by lia
       rw[this] at e
       exact hS8.get i d e
   refine thn (ht cl s3 (upd L D ho) Q _ s8 σ8 H8 σ' M8 _ I8 hS8 m8 q8) fun ok s9 U=>?_
   obtain⟨M9,H9,I9,st9,m9,q9⟩:=U
   cases ok with
   | false=>exact again s9 H9 M9 G I9 st9 m9 q9
   | true=>exact Kd.bd I9 (hS8.mono st9) m9 q9 fun sF HF MF V i st m p=>again sF HF MF V i (st9.trans st) m p
  ·have e:k=ds.length:=by lia
   subst e
   refine thn (T.done (F2 X scope cl s3 (upd L D ho) Q (tns++caps)) rfl rfl rfl hc _ [] s5 σv5 H5 (fun _ _=>False) I5 (stat fr5) tn5 stop) fun r s6 U=>?_
   obtain⟨hr,I6⟩:=U
   subst hr
   obtain⟨m,hn,_⟩:=I6.loc
   obtain⟨hp,hq⟩:=done G M5 pk
   refine fin D s3.heap.objs.size G H5 M5 s6 m hn (R.call' (ch:=Q) I6.os I6.base I6.hok I6.bare (fun b t=>⟨(f2 b t).2.2.2.1,(f2 b t).2.1,(f2 b t).2.2.2.2.1,(f2 b t).2.2.2.2.2⟩)) I6.free (Nat.ne_of_gt R.lt) (R.nofs (BU4 _)) R.sz (fun x c e z=>?_) (fun p hp z=>absurd (BW1 (R.pin p hp).1) (by rw[z];exact CF0 _)) ((stp.trans stD).trans st5) m5 hp hq
   obtain⟨v,q⟩:=R.cell x c e
   exact absurd q.lt (by rw[z];exact CF0 _)
 exact Kd.st loop (T.self _ _ _ _ _ (T.keep _ _ _ st2 fun b t o e=>k4 _ _ (hget _ _ e)) loop)
structure Vw (K:BU5)(mo:α->MO)(vw:Addr->α->D)(md:Mem->Addr->Mem):Prop where
 ok:∀{M H p acc},M p=some (mo acc)->MRel K M H->MRel K (md M p) H/\Rep K (md M p) H (vw p acc) (.ref p)/\∀b,md M p b≠none->M b≠none
theorem UP {mo:α->MO}:Vw K mo (fun p _=>.ref p) fun M _=>M:=⟨fun _ m=>⟨m,.ref,fun _ h=>h⟩⟩
theorem AN2:Vw K .lst (fun _ a=>.lst a) J4:=⟨fun{M H p a} b m=>Vs.frzL b K H (.ref p) m .ref⟩
variable {vw:Addr->α->D}{md:Mem->Addr->Mem}
theorem TQ (C:CH X tg iter ifs scope tns caps slots ti g tt)(d:CB X tg iter ifs scope (tns++caps) ce mk ty dat ho a0 mo tb B)(V:Vw X.K mo vw md)(f:eval ce X.env=comprehension ce scope X.env (firstIterPos [⟨tg,iter,ifs,0⟩] pos) mk false (firstIter [⟨tg,iter,ifs,0⟩] X.env) none) :
  PE3 X ce (fun σ M Q=>tCG a0 mo tb ti tns.length slots g tt (fun p a M=>Q (vw p a) (md M p)) σ M):=by
 intro c s i H σ M Q I hS j h
 rw[f]
 refine PR C d I hS j h fun D C a k L l m n q r t N u v w st x y z=>?_
 obtain⟨A,E,F⟩:=V.ok y x
 exact⟨m,n,fun O G=>⟨_,.ref D,_,k,q.turned (t':=l.toks) (it:=C) (fun b o J e=>(G.2 b J).trans e) r t (.inr u) v w,st.less F,A,rfl,E,z⟩⟩
theorem AJ2 {y:Str}{k a:Pos}{l:Nat}(C:CH X tg iter ifs scope tns caps slots ti g tt)(O:CB X tg iter ifs scope (tns++caps) ce mk ty dat ho a0 mo tb B)(V:Vw X.K mo vw md)(P:X.N.Nodup)(n:X.N[l]?=some y)(R:Loc X.env.scope y)(S:X.fn y=true\/X.env.scope.names.lookup y=some .local)
  (q:CJ8 ce (some (.Name y k)) a.line X.env=pure true) (T:evalThenUse ce X.env (assign (.Name y k) X.env)=(comprehension ce scope X.env (firstIterPos [⟨tg,iter,ifs,0⟩] pos) mk false (firstIter [⟨tg,iter,ifs,0⟩] X.env) (some (assign (.Name y k) X.env)) >>= fun _=>pure ())) :
  PS3 X (.Assign [.Name y k] ce a) (C0 l (fun σ M Q=>tCG a0 mo tb ti tns.length slots g tt (fun p d M=>Q (vw p d) (md M p)) σ M)):=by
 intro c s f H σ M T0 I hS U h
 rw[exec_Assign_Name_used _ _ _ _ q,T]
 refine BU3 (CI1 (BU3 ?_))
 refine BU3 ?_
 refine PR C O I hS U h fun D C d r M5 s6 m W A E F Y Z c5 c6 st m5 t hq=>?_
 obtain⟨mF,rF,G⟩:=V.ok t m5
 obtain⟨u,es,ep,w,i,rC⟩:=W
 have j:Inv X (c++[(C,u)]) f r s6:=A.pins_of fun p t=>by
  rcases List.mem_append.mp t with z|z
  ·exact A.pin p (BW9 _ z)
  ·cases List.mem_singleton.mp z
   exact⟨w,E,F,Y,fun v z=>by rw[i] at z;cases z⟩
 refine wpAny_assign_Name (CW j P n R (v:=.ref D) rfl (fun J L=>?_) S)
 have x:=(L.pin (C,u) (BW9 _ (BW9 _ BV7))).1
 refine⟨m,⟨u,es,ep,x,i,rC⟩,fun h' sb=>BV0 (BV0 ?_)⟩
 have I9:Inv X c (f.set l (some (.ref D))) r {J with heap:=h',toks:=J.toks}:=L.unpinned.turned (it:=C) (fun b o hb e=>(sb.2 b hb).trans e) E F (.inr Z) c5 c6
 exact⟨_,_,_,r,I9,st.less G,mF,((hS.mono st).mono ⟨fun _ _ h _=>h,fun b h=>.inl (G b h)⟩).set rF l,hq⟩
end
section
variable {X:Cx}{tg iter elt kx vx:Expr}{ifs:List Expr}{scope:Scope}{N:List Str}{te tk tv:TE3}{pos:Pos}
def tbL (te:TE3)(p:Addr)(acc:List D)(P:List D->Mem->Prop)(σ:Lo)(M:Mem):Prop:=te σ M fun e M2=>M2 p=some (.lst acc)/\acc.length<BV8/\P (acc++[e]) (D9 M2 p (.lst (acc++[e])))
theorem FK (O:∀cl s₀ H₀ ex,PE3 (F2 X scope cl s₀ H₀ ex N) elt te):CB X tg iter ifs scope N (.ListComp elt [⟨tg,iter,ifs,0⟩] scope pos) (newList []) "list" (.seq #[]) (.lst []) [] .lst (tbL te)
  (fun D env s R=>wpAny (model X.prog X.w) X.A (eval elt env) (fun x f=>wpAny (model X.prog X.w) X.A (call (.builtin "list.append") [.ref D,x]) (fun _=>R) (fun _ _=>False) f) (fun _ _=>False) s) where
 cl:=rfl
 fr:=rfl
 new:=fun h=>BY5 h
 lay:=fun I=>I.lnew (its:=[]) (ys:=[]) .nil (CD4 _)
 r0:=.nil
 lp:=fun I g n h=>XX I g n h
 st:=codeAny_compStart_list
 bd:=fun{cl s₀ H₀ ex i s j H Q M D l P R} I hS m q k=>by
  refine thn (O cl s₀ H₀ ex i s j H Q M _ I hS m q) fun S y a=>?_
  obtain⟨e,v,z,b,B,p,r,C,c,d,t,E⟩:=a
  obtain⟨T,F,rO⟩:=r D _ d
  cases T<;>first|exact(rO:False).elim|skip
  rename_i vs
  have u:Reps X.K z b l vs:=rO
  refine thn (KY _ y j b (.ref D) [v] (.ref D) [S] (fun w U=>U=upd b D (.lst (vs++[v]))) B rfl (.cons C .nil) ⟨D,vs,v,rfl,rfl,F,by rw[<-u.length];exact t,rfl⟩) fun _ G a=>?_
  obtain⟨w,V,J,_,L⟩:=a
  subst L
  exact k G _ _ _ J (p.trans (Step.put (.inr (by rw[d];simp)))) (r.put (.inr (by rw[d];simp)) (o:=.lst (l++[e])) (Reps.append u (.cons c .nil))) E
end
section
variable {Γ:Ct}{X:Cx}{R:Rc}{x:Ext}
def frees (sc:Scope):List Str:=sc.names.filterMap fun y=>match y.2 with|.free=>some y.1|_=>none
def FV (N:List Str):List Str->Option (List Nat)
 | []=>some []
 | y::ys=>match ixn y N 0,FV N ys with|some i,some is=>some (i::is)|_,_=>none
theorem RP (o:OkC Γ X):∀{ys:List Str} {is:List Nat},FV Γ.N ys=some is->is.map (fun j=>X.N[j]?)=ys.map some
 | [],is,h=>by cases h;rfl
 | y::ys,is,h=>by
  unfold FV at h
  split at h
  ·rename_i i a b c
   cases h
   rw[BX1,BX1,NC o b,RP o c]
  ·cases h
def cok (sc scope:Scope)(caps:List Str):Bool :=
 (scope.names.all fun y=>match y.2 with
  | .free=>(match sc.names.lookup y.1 with|some .cell=>true|some .free=>true|_=>false)
  | .cell=>false
  | .local=>(match scope.names.lookup y.1 with|some .local=>true|_=>false)
  | _=>true) && caps.all fun y=>match scope.names.lookup y with|some .free=>true|_=>false
theorem BC6 (o:OkC Γ X)(h:cok Γ.sc scope caps=true):GL X.env scope caps=true:=by
 unfold cok at h
 unfold GL
 rw[BV3,CD6] at h ⊢
 refine⟨fun y a=>?_,h.2⟩
 have:=h.1 y a
 obtain⟨n,k⟩:=y
 cases k with
 | free =>
  show(match X.env.kindOf n with|some .cell=>true|some .free=>true|_=>false)=true
  rcases o.sc n with z|⟨_,z⟩
  ·rw[z];exact this
  ·rw[z]
 | cell=>cases this
 | «local»=>exact this
 | _=>rfl
def dif:List Str->Bool
 | []=>true
 | y::ys=>!(ys.any (·==y)) && dif ys
theorem AD0:∀{ys:List Str},dif ys=true->ys.Nodup
 | [],_=>.nil
 | y::ys,h=>by
  unfold dif at h
  rw[BV3,CA3,List.any_eq_false] at h
  refine List.nodup_cons.mpr ⟨fun m=>h.1 y m (beq_self_eq_true y),AD0 h.2⟩
def NK:Expr->Bool
 | .Set ..=>false
 | _=>true
theorem AF (h:NK e=true)(y:Value):CF5 e env y=pure y:=by
 cases e<;>first|rfl|cases h
def BR8:Expr->Option (List Str)
 | .Name x _=>some [x]
 | .Tuple es _ _=>es.mapM fun e=>match e with|.Name x _=>some x|_=>none
 | _=>none
def cΓ (Γ:Ct)(scope:Scope)(N:List Str):Ct:={Γ with N:=N,sc:=scope}
theorem AO9 {cl:List (Str×Addr)}{s₀:BV1}{H₀:Hp}{ex:List Addr}{b:List Str}(o:OkC Γ X)(h:cok Γ.sc scope caps=true)(c:dif b=true):OkC (cΓ Γ scope b) (F2 X scope cl s₀ H₀ ex b) where
 N:=rfl
 nd:=AD0 c
 sc:=fun y=>by
  show(relabel scope X.env).names.lookup y=scope.names.lookup y\/(scope.names.lookup y=some .free/\(relabel scope X.env).names.lookup y=some .cell)
  rw[Y3]
  cases e:scope.names.lookup y with
  | none=>exact .inl rfl
  | some k =>
   show some (if _ then _ else _)=_\/_
   by_cases a:(k==NameKind.free && X.env.scope.kind==.function && X.env.kindOf y==some .cell)=true
   ·simp only[BV3] at a
    exact .inr ⟨by rw[eq_of_beq a.1.1],by rw[CE4,if_pos (by simp only[BV3];exact a)]⟩
   ·exact .inl (by rw[if_neg a])
 cel:=fun y e=>by
  have d:=BX8 (show scope.names.lookup y=some .cell from e)
  unfold cok at h
  rw[BV3,CD6] at h
  have:=h.1 _ d
  cases this
 fns:=o.fns
 con:=o.con
 tb:=o.tb
 ts:=o.ts
 calm:=o.calm
 un:=o.un
 bk:=o.bk
def BP6 (R:Rc)(Γ:Ct):List Expr->Option TT3
 | []=>some P6
 | [c]=>some (R.T Γ c)
 | _=>none
structure Cp where
 ti:TI3
 n:Nat
 sl:List Nat
 g:Gi
 tt:TT3
 Γ:Ct
def rCp (x:Ext)(R:Rc)(Γ:Ct)(gens:List Comprehension)(scope:Scope)(pos:Pos):Option Cp:=match gens with
 | [⟨tg,it,ifs,z⟩]=>match BR8 tg,FV Γ.N ((Γ.cp pos).getD (frees scope)) with
  | some tns,some sl=>match z==0 && scope.kind==.function && cok Γ.sc scope ((Γ.cp pos).getD (frees scope)) && dif (tns++(Γ.cp pos).getD (frees scope)) && NK it with
   | false=>none
   | true=>match rJ x R Γ tg it,rG (cΓ Γ scope (tns++(Γ.cp pos).getD (frees scope))) tg,BP6 R (cΓ Γ scope (tns++(Γ.cp pos).getD (frees scope))) ifs with
    | some ti,some g,some tt=>match MU tns.length g with
     | true=>some ⟨ti,tns.length,sl,g,tt,cΓ Γ scope (tns++(Γ.cp pos).getD (frees scope))⟩
     | false=>none
    | _,_,_=>none
  | _,_=>none
 | _=>none
structure CpOk (X:Cx)(gens:List Comprehension)(scope:Scope)(c:Cp)(tg it:Expr)(ifs:List Expr)(tns caps:List Str):Prop where
 eq:gens=[⟨tg,it,ifs,0⟩]
 n:c.n=tns.length
 hi:SM X tg it c.ti
 hk:scope.kind=.function
 ok:GL X.env scope caps=true
 hc:c.sl.map (fun j=>X.N[j]?)=caps.map some
 gk:∀(d:D) (M:Mem) (Q:Lo->Mem->Prop) (cs:Lo),gD c.g d (BX2 tns.length none++cs) M Q->gD c.g d (BX2 tns.length none++cs) M fun σ' M'=>σ'.drop tns.length=cs/\Q σ' M'
 o:∀cl s₀ H₀ ex,OkC c.Γ (F2 X scope cl s₀ H₀ ex (tns++caps))
 hg:∀cl s₀ H₀ ex,PG3 (F2 X scope cl s₀ H₀ ex (tns++caps)) tg (gD c.g)
 ht:∀cl s₀ H₀ ex,AN9 (F2 X scope cl s₀ H₀ ex (tns++caps)) ifs c.tt
 hs:∀y,CF5 it X.env y=pure y
theorem CpOk.ch {c:Cp}{it:Expr}{tns:List Str}(q:CpOk X gens scope c tg it ifs tns caps)(h:X.calm=true):CH X tg it ifs scope tns caps c.sl c.ti (gD c.g) c.tt:=⟨h,q.hi,q.hk,q.ok,q.hc,q.gk,q.hg,q.ht,q.hs⟩
theorem AC2 (i:ExtOk x)(d:AN R)(o:OkC Γ X){c:Cp}(h:rCp x R Γ gens scope pos=some c):∃tg it ifs tns caps,CpOk X gens scope c tg it ifs tns caps:=by
 unfold rCp at h
 split at h
 case h_2=>cases h
 rename_i tg it ifs z
 split at h
 case h_2=>cases h
 rename_i tns s t j
 split at h
 ·cases h
 rename_i e
 simp only[BV3] at e
 obtain⟨⟨⟨⟨k,l⟩,f⟩,m⟩,n⟩:=e
 split at h
 case h_2=>cases h
 rename_i u g v p q a
 split at h
 case h_2=>cases h
 rename_i r
 cases h
 cases eq_of_beq k
 have b:=fun cl s₀ H₀ ex=>AO9 (cl:=cl) (s₀:=s₀) (H₀:=H₀) (ex:=ex) o f m
 refine⟨tg,it,ifs,tns,_,rfl,rfl,BE5 i d o p,eq_of_beq l,BC6 o f,RP o j,BM1 r,b,fun cl s₀ H₀ ex=>AP6 (b cl s₀ H₀ ex) q,fun cl s₀ H₀ ex=>?_,AF n⟩
 unfold BP6 at a
 split at a
 ·cases a;exact AI0
 ·cases a;exact AI1 ((d _ _ (b cl s₀ H₀ ex)).2 _)
 ·cases a
def RI (x:Ext)(R:Rc)(Γ:Ct)(elt:Expr)(gens:List Comprehension)(scope:Scope)(pos:Pos):TE3:=match rCp x R Γ gens scope pos with
 | none=>bad
 | some c=>match Γ.h pos with
  | 0=>R6 c.ti c.n c.sl (gD c.g) c.tt (R.E c.Γ elt)
  | _=>OS c.ti c.n c.sl (gD c.g) c.tt (R.E c.Γ elt)
theorem VC (g:ExtOk x)(d:AN R)(o:OkC Γ X){elt:Expr}:PE3 X (.ListComp elt gens scope pos) (RI x R Γ elt gens scope pos):=by
 unfold RI
 cases h:rCp x R Γ gens scope pos with
 | none=>exact F8
 | some c =>
  obtain⟨k,l,i,j,f,q⟩:=AC2 g d o h
  cases q.eq
  dsimp only
  rw[q.n]
  split
  ·exact TQ (q.ch o.calm) (FK fun e a b ex=>(d _ _ (q.o e a b ex)).1 _) AN2 rfl
  ·exact TQ (q.ch o.calm) (FK fun e a b ex=>(d _ _ (q.o e a b ex)).1 _) UP rfl
def AB9 (x:Ext)(R:Rc)(Γ:Ct):Expr->TE3
 | .Name y _=>rNm Γ y
 | .Constant c _ _=>match c with|.none=>tC3 .non|.bool b=>tC3 (.bl b)|.int i=>tC3 (.int i)|.str s=>tC3 (.str s)|_=>bad
 | .BinOp a op b pos=>A6 (Γ.B.bin (Γ.h pos) op) (R.E Γ a) (R.E Γ b)
 | .UnaryOp op a _=>match op with|.USub=>P9 K0 (R.E Γ a)|.Not=>OV (R.E Γ a)|_=>bad
 | .Compare a ops bs pos=>AK0 R Γ a ops bs pos
 | .BoolOp op vs _=>match op with|.And=>AJ8 (R.E Γ) vs|.Or=>BJ3 (R.E Γ) vs
 | .IfExp c a b _=>UL (R.T Γ c) (R.E Γ a) (R.E Γ b)
 | .Tuple es _ _=>B9 (rA (R.E Γ) es)
 | .List es pos=>match Γ.h pos with|0=>F9 (rA (R.E Γ) es)|_=>J7 (rA (R.E Γ) es)
 | .Subscript a b pos=>BJ5 R Γ a b pos
 | .Call f as ks pos=>AJ9 R Γ f as ks pos
 | .ListComp elt gens scope pos=>RI x R Γ elt gens scope pos
 | _=>bad
def BR0 (x:Ext)(R:Rc)(Γ:Ct)(e:Expr):TE3:=match x.E R Γ e with
 | some t=>t
 | none=>AB9 x R Γ e
def AZ8 (R:Rc)(Γ:Ct)(e:Expr):TT3:=match e with
 | .Compare a ops bs pos=>B1 (AK0 R Γ a ops bs pos)
 | .BoolOp op vs _=>match op with|.And=>UE (R.T Γ) vs|.Or=>AK2 (R.T Γ) vs
 | .UnaryOp op a _=>match op with|.Not=>AX (R.T Γ a)|_=>B1 (R.E Γ e)
 | .IfExp ..=>AA9
 | _=>B1 (R.E Γ e)
theorem AP0 (r:ExtOk x)(l:AN R)(o:OkC Γ X)(e:Expr):PE3 X e (AB9 x R Γ e):=by
 have d:=(l Γ X o).1
 have t:=(l Γ X o).2
 cases e with
 | Name y p=>exact BN4 o
 | Constant c k p =>
  cases c with
  | none=>exact AS4
  | bool b=>exact BG5
  | int i=>exact AS2
  | str s=>exact AS8
  | _=>exact F8
 | BinOp a g b p=>exact BH0 (o.b.bin _ _) (d _) (d _)
 | UnaryOp g a p =>
  cases g with
  | USub=>show PE3 X _ (P9 K0 (R.E Γ a));exact BH3 BK1 (d _)
  | Not=>exact AS5 (d _)
  | _=>exact F8
 | Compare a u bs p=>exact(AB4 o d).1
 | BoolOp g n p=>cases g with
  | And=>exact US d n
  | Or=>exact AG5 d n
 | IfExp c a b p=>exact ZC (t _) (d _) (d _)
 | Tuple j k p=>exact AS9 (JD d j)
 | List j p =>
  show PE3 X _ (match Γ.h p with|0=>_|_=>_)
  split
  ·exact AS3 (JD d j)
  ·exact AH0 (JD d j)
 | Subscript a b p=>exact BJ9 o d
 | Call f w z p=>exact AO7 o d
 | ListComp v q m p=>exact VC r l o
 | _=>exact F8
theorem AM5 (h:AN R)(o:OkC Γ X)(e:Expr):PT3 X e (AZ8 R Γ e):=by
 have f:=(h Γ X o).1
 have g:=(h Γ X o).2
 cases e with
 | Compare a i bs p=>exact(AB4 o f).2
 | BoolOp d j p =>
  cases j with
  | nil=>cases d<;>exact MJ
  | cons b r=>cases d with
   | And=>exact PW3.pt (RY g b r)
   | Or=>exact PW3.pt (XM g b r)
 | UnaryOp d a p=>cases d with
  | Not=>exact AV0 (g _)
  | _=>exact WQ (f _)
 | IfExp c a b p=>exact MJ
 | _=>exact WQ (f _)
noncomputable def rc (x:Ext) (n:Nat):Rc:=Nat.rec ⟨fun _ _=>bad,fun _ _=>AA9⟩ (fun _ R=>⟨BR0 x R,AZ8 R⟩) n
theorem WV (a:ExtOk x):∀n,AN (rc x n)
 | 0=>fun _ _ _=>⟨fun _=>F8,fun _=>MJ⟩
 | n+1=>fun b X o=>⟨fun e=>by
   show PE3 X e (match x.E (rc x n) b e with|some t=>t|none=>AB9 x (rc x n) b e)
   cases h:x.E (rc x n) b e with
   | some t=>exact a.E _ (WV a n) b X o e t h
   | none=>exact AP0 a (WV a n) o e,AM5 (WV a n) o⟩
end
section
variable {Γ:Ct}{X:Cx}{R:Rc}{x:Ext}
def HG:Expr->Bool
 | .ListComp ..=>false
 | .SetComp ..=>false
 | .DictComp ..=>false
 | _=>true
theorem LA {t:Option Expr}{n:Nat}(h:HG e=true):CJ8 e t n env=pure false:=by
 cases e<;>first|rfl|cases h
def BN5:Expr->Bool
 | .Tuple ..=>false
 | _=>true
def BM9:Expr->Bool
 | .Slice ..=>true
 | _=>false
def BJ1 (x:Ext)(R:Rc)(Γ:Ct)(tg e:Expr)(pos:Pos):TS3:=match tg with
 | .Name y _=>match lc Γ y with
  | none=>BS
  | some i=>match e with
   | .ListComp elt gens scope p=>C0 i (RI x R Γ elt gens scope p)
   | e=>match HG e with|true=>C0 i (R.E Γ e)|false=>BS
 | .Tuple es k p=>match rG Γ (.Tuple es k p),BN5 e with
  | some g,true=>RT (gD g) (R.E Γ e)
  | _,_=>BS
 | .Subscript o i p=>match BM9 i,Γ.h p with
  | true,_=>BS
  | false,0=>S8 (R.E Γ o) (R.E Γ i) (R.E Γ e)
  | false,_=>OT (R.E Γ o) (R.E Γ i) (R.E Γ e)
 | _=>BS
theorem BB9:PS3 X st (C0 i bad):=fun _ _ _ _ _ _ _ _ _ _ h=>h.elim
theorem BB3 (C:ExtOk x)(k:AN R)(o:OkC Γ X):PS3 X (.Assign [tg] e pos) (BJ1 x R Γ tg e pos):=by
 have f:=(k Γ X o).1
 unfold BJ1
 split
 ·rename_i y p
  cases hl:lc Γ y with
  | none=>exact L8
  | some i =>
   obtain⟨l,m,r,s⟩:=KS o hl
   dsimp only
   split
   ·rename_i t j a D
    have u:∃B:Bool,CJ8 (.ListComp t j a D) (some (.Name y p)) pos.line X.env=pure B:=⟨_,rfl⟩
    obtain⟨B,w⟩:=u
    cases B
    ·exact WP l m r (VC C k o) w s
    ·unfold RI
     cases h:rCp x R Γ j a D with
     | none=>exact BB9
     | some c =>
      obtain⟨tg,J,F,G,E,q⟩:=AC2 C k o h
      cases q.eq
      dsimp only
      rw[q.n]
      split
      ·exact AJ2 (q.ch o.calm) (FK fun z b d ex=>(k _ _ (q.o z b d ex)).1 _) AN2 l m r s w rfl
      ·exact AJ2 (q.ch o.calm) (FK fun z b d ex=>(k _ _ (q.o z b d ex)).1 _) UP l m r s w rfl
   ·cases h:HG e
    ·exact L8
    ·exact WP l m r (f _) (LA h) s
 ·split
  ·rename_i g H I
   refine AU4 (f _) (AP6 o H) ?_ ?_ rfl
   ·cases e<;>rfl
   ·cases e<;>first|rfl|cases I
  ·exact L8
 ·rename_i K i p
  split
  ·exact L8
  ·refine AI5 (Nat.lt_of_succ_lt o.un) (f _) (f _) (f _) ?_
   cases e<;>rfl
  ·rename_i A _
   refine AI7 (f _) (f _) (f _) ?_ ?_ ?_ rfl
   ·intro v;cases i<;>first|rfl|cases A
   ·cases e<;>rfl
   ·cases e<;>rfl
 ·exact L8
def BJ2 (x:Ext)(R:Rc)(b:Ct->List Stmt->TS3)(Γ:Ct)(tg it:Expr)(body:List Stmt):TS3:=match NK it,tg with
 | true,.Name y p=>match lc Γ y,rI x R Γ (.Name y p) it with
  | some i,some ti=>N7 ti i (b Γ body)
  | _,_=>BS
 | true,tg=>match rG Γ tg,rJ x R Γ tg it with
  | some g,some ti=>N8 ti (gD g) (b Γ body)
  | _,_=>BS
 | _,_=>BS
theorem BD3 (f:ExtOk x)(h:AN R){b:Ct->List Stmt->TS3}(j:ZZ b)(o:OkC Γ X)(a:Pw X){it:Expr}:PS3 X (.For tg it body [] pos) (BJ2 x R b Γ tg it body):=by
 unfold BJ2
 split
 ·rename_i y p c
  split
  ·rename_i i k d e
   obtain⟨l,m,n,q⟩:=KS o d
   exact AU6 a o.calm (BM8 f h o e) l m n (j Γ X o a body) (AF c) q
  ·exact L8
 ·rename_i tg c _
  split
  ·rename_i g k d e
   exact RH a o.calm (BE5 f h o e) (AP6 o d) (j Γ X o a body) (AF c)
  ·exact L8
 ·exact L8
def AC0 (x:Ext)(R:Rc)(b:Ct->List Stmt->TS3)(Γ:Ct):Stmt->TS3
 | .Return none _=>AM7
 | .Return (some e) _=>B4 (R.E Γ e)
 | .Expr e _=>match HG e with|true=>F4 (R.E Γ e)|false=>BS
 | .Assign [tg] e pos=>BJ1 x R Γ tg e pos
 | .AugAssign (.Name y _) .Add e _=>match lc Γ y with|some i=>AZ9 i (R.E Γ e)|none=>BS
 | .If c a d _=>C2 (R.T Γ c) (b Γ a) (b Γ d)
 | .For tg it body [] _=>BJ2 x R b Γ tg it body
 | .While c body [] _=>CZ (R.T Γ c) (b Γ body)
 | .Pass _=>B6
 | .Raise ..=>XH
 | _=>BS
theorem AC1 (g:ExtOk x)(c:AN R){b:Ct->List Stmt->TS3}(d:ZZ b)(o:OkC Γ X)(a:Pw X)(s:Stmt):PS3 X s (AC0 x R b Γ s):=by
 have f:=(c Γ X o).1
 have j:=(c Γ X o).2
 unfold AC0
 split
 ·exact AI9
 ·exact AU7 (f _)
 ·rename_i e p
  cases h:HG e
  ·exact L8
  ·exact AI6 (f _) (LA h)
 ·exact BB3 g c o
 ·rename_i y p e q
  cases h:lc Γ y with
  | none=>exact L8
  | some i =>
   obtain⟨k,l,m,n⟩:=KS o h
   exact AU5 k l m (f _) n
 ·exact BI7 (j _) (d Γ X o a _) (d Γ X o a _)
 ·exact BD3 g c d o a
 ·exact ZN a (j _) (d Γ X o a _)
 ·exact AI8
 ·exact ZM
 ·exact L8
def XD (x:Ext)(R:Rc)(b:Ct->List Stmt->TS3)(Γ:Ct)(s:Stmt):TS3:=match x.S R b Γ s with
 | some t=>t
 | none=>AC0 x R b Γ s
def frzs:List Nat->TS3->TS3
 | [],t=>t
 | i::is,t=>XG i (frzs is t)
theorem VP {a:List Stmt}{t:TS3}(h:PSs3 X a t):∀is,PSs3 X a (frzs is t)
 | []=>h
 | i::is=>AJ4 i (VP h is)
def AZ7 (x:Ext)(R:Rc)(b:Ct->List Stmt->TS3)(Γ:Ct)(ss:List Stmt):TS3:=match ss with
 | []=>B6
 | s::r=>frzs (Γ.fz s.pos.line) (match r with|[]=>XD x R b Γ s|_::_=>A8 (XD x R b Γ s) (b Γ r))
noncomputable def rb (x:Ext) (R:Rc) (n:Nat):Ct->List Stmt->TS3:=Nat.rec (fun _ _=>BS) (fun _ b=>AZ7 x R b) n
theorem RS (a:ExtOk x)(c:AN R){b:Ct->List Stmt->TS3}(d:ZZ b)(o:OkC Γ X)(e:Pw X)(s:Stmt):PS3 X s (XD x R b Γ s):=by
 unfold XD
 cases h:x.S R b Γ s with
 | some t=>exact a.S R c b d Γ X o e s t h
 | none=>exact AC1 a c d o e s
theorem WU (a:ExtOk x)(b:AN R):∀n,ZZ (rb x R n)
 | 0=>fun _ _ _ _ _=>AA8
 | n+1=>fun e X o c d=>by
  show PSs3 X d (AZ7 x R (rb x R n) e d)
  cases d with
  | nil=>exact AJ5
  | cons s r =>
   refine VP ?_ _
   cases r with
   | nil=>exact AJ6 (RS a b (WU a b n) o c s)
   | cons f r=>exact ZO (RS a b (WU a b n) o c s) (WU a b n e X o c _)
end
section
variable {P:BY7}{w:World}{K:BU5}{mg:Str->Option Value}{base:Heap}
structure Gd where
 con:List (Str×D)
 tb:List (Str×List (Str×List Str))
 ts:List (Str×List (Str×Str))
 B:Book
structure AN7 (G:Gd)(w:World)(K:BU5)(mg:Str->Option Value):Prop where
 con:∀p∈G.con,(∃u v,mg p.1=some u/\RelV v u/\∀M H,Rep K M H p.2 v)\/∃n,p.2=.ty n/\mg p.1=none/\BZ4 p.1=some (.type n)
 tb:∀p∈G.tb,∃a,mg p.1=some (.ref a)/\AX0 K w.params a p.2/\(a==CC2)=false
 ts:∀p∈G.ts,∃a,mg p.1=some (.ref a)/\LT K w.params a p.2
 bk:∀Y:Cx,Y.mg=mg->(∃k,Room k Y.A)->Y.calm=true->BookOk G.B Y
def F (P:BY7)(w:World)(K:BU5)(mg:Str->Option Value)(base:Heap)(k:Nat)(x:Str)(sp:Sp3):Prop :=
 ∃f fd ps,AL P w K mg base CX0 k f fd ps (GP K sp)/\mg x=some (.ref f)/\CB3 K (.ref f)=true/\Binds K fd ps []
def Cs (P:BY7)(w:World)(K:BU5)(mg:Str->Option Value)(base:Heap)(r:Nat)(L:List (Str×Sp3)):Prop:=∀p∈L,∃k,k<=r/\F P w K mg base k p.1 p.2
theorem Cs.n {r:Nat}:Cs P w K mg base r []:=fun _ h=>absurd h BX6
theorem Cs.c {r k:Nat}{sp:Sp3}{L:List (Str×Sp3)}(f:F P w K mg base k x sp)(a:k<=r)(h:Cs P w K mg base r L):Cs P w K mg base r ((x,sp)::L):=fun p hp=>by
 rcases BZ3.mp hp with rfl|hp
 ·exact⟨k,a,f⟩
 ·exact h p hp
structure Hs where
 h:List (Nat×Nat):=[]
 hi:List (Nat×Nat):=[]
 cp:List (Nat×List Str):=[]
 fz:List (Nat×List Nat):=[]
def ct (G:Gd)(N:List Str)(sc:Scope)(L:List (Str×Sp3))(s:Hs):Ct where
 N:=N
 sc:=sc
 fns:=fun x=>L.lookup x
 con:=fun x=>G.con.lookup x
 tb:=fun x=>G.tb.lookup x
 ts:=fun x=>G.ts.lookup x
 h:=fun p=>(s.h.lookup ((p.line*1000+p.col)*1000+p.endCol)).getD 0
 hi:=fun p=>(s.hi.lookup ((p.line*1000+p.col)*1000+p.endCol)).getD 0
 cp:=fun p=>s.cp.lookup ((p.line*1000+p.col)*1000+p.endCol)
 fz:=fun n=>(s.fz.lookup n).getD []
 B:=G.B
theorem BO4 {e:Ext}(p:ExtOk e){G:Gd}(a:AN7 G w K mg){k:Nat}{sp:Sp3}{f:Addr}(A:XO K mg x st ps f fd)(S:T7 N ps (D3 st))
  (len:∀ds M Q,sp ds M Q->ds.length=ps.length) {L:List (Str×Sp3)} (q:Cs P w K mg base k L) (s:Hs) {t:TS3} (u:∀ds M Q,sp ds M Q->t {nx:=fun _ M'=>View Q .non M',rt:=View Q} (B8 N ds) M)
  (v:rb e (rc e 40) 60 (ct G N (D3 st) L s) (G3 st)=t):AL P w K mg base CX0 (k+1) f fd ps (GP K sp):=by
 refine Fun.ok3 A.fn S len fun z I b J H E c=>⟨t,?_,u⟩
 rw[<-v]
 refine WU p (WV p 40) 60 _ _ ?_ (by exact PassesOwn.never) _
 exact{
  N:=rfl
  nd:=S.nd
  sc:=fun _=>.inl rfl
  cel:=fun _ _=>rfl
  fns:=fun y g h=>by
   obtain⟨B,C,D,i,j,m,n,o,F⟩:=q _ (BX8 (show L.lookup y=some g from h))
   exact⟨B,D,i,j,m,c.mono C,n,o,F⟩
  con:=fun y d h=>a.con _ (BX8 (show G.con.lookup y=some d from h))
  tb:=fun y l h=>a.tb _ (BX8 (show G.tb.lookup y=some l from h))
  ts:=fun y l h=>a.ts _ (BX8 (show G.ts.lookup y=some l from h))
  calm:=rfl
  un:=(fun{A:CE0} (r:Room _ A)=>(by have:=r.un;lia:A.units+2<cLine)) c
  bk:=fun Y m n o=>a.bk Y m ⟨k,by rw[n];exact c⟩ o}
theorem okR {e:Ext}(a:ExtOk e){G:Gd}(b:AN7 G w K mg){k:Nat}{sp:Sp3}(A:∃f fd,XO K mg x st ps f fd)(S:T7 N ps (D3 st))
  (len:∀ds M Q,sp ds M Q->ds.length=ps.length) {L:List (Str×Sp3)} (c:Cs P w K mg base k L) (s:Hs) {t:TS3} (d:∀ds M Q,sp ds M Q->t {nx:=fun _ M'=>View Q .non M',rt:=View Q} (B8 N ds) M)
  (g:rb e (rc e 40) 60 (ct G N (D3 st) L s) (G3 st)=t):F P w K mg base (k+1) x sp:=by
 obtain⟨f,fd,A⟩:=A
 exact⟨f,fd,ps,BO4 a b A S len c s d g,A.gl,A.fn.kp,A.bd⟩
theorem P5 {k:Nat}(A:∃f fd,XO K mg x st ps f fd)(a:∀n ds M Q,sp n ds M Q->ds.length=ps.length)(b:∀ds M Q,¬sp 0 ds M Q):F P w K mg base k x (sp 0):=by
 obtain⟨f,fd,A⟩:=A
 exact⟨f,fd,ps,YF a b,A.gl,A.fn.kp,A.bd⟩
theorem BB1 {p:α->Prop}:∀x∈([]:List α),p x:=fun _ h=>absurd h BX6
theorem AO1 {p:α->Prop}{a:α}{l:List α}(h:p a)(t:∀x∈l,p x):∀x∈a::l,p x:=fun x hx=>by
 rcases BZ3.mp hx with rfl|hx
 ·exact h
 ·exact t x hx
end
def rNo:R3:=fun _ _ _ _=>False
theorem UD {X:Cx}{f:Value->Value->Sem Value}:OpR3 X f rNo:=by
 intro a s b H M x y c d u v Q
 intros
 rename_i h
 exact h.elim
def BS3:Operator->R3
 | .Add=>D0
 | .Sub=>Q8
 | .Mult=>CM
 | .FloorDiv=>UA
 | .Mod=>E9
 | .Pow=>RJ
 | _=>rNo
def BS4:CmpOp->R3
 | .Eq=>D7
 | .NotEq=>CN
 | .Lt=>S6
 | .LtE=>UC
 | .Gt=>CL
 | .GtE=>BP5
 | .Is=>UB
 | .IsNot=>HN
 | .In=>FG false
 | .NotIn=>FG true
def bk0:Book:=⟨fun _=>BS3,fun _=>BS4,fun _ _=>none,fun _ _=>none⟩
variable {X:Cx}{B:Book}
theorem BC2 {k:Nat}(b:Room k X.A):BookOk bk0 X where
 bin:=fun n a=>by
  cases a with
  | Add=>exact BF3
  | Sub=>exact BF8
  | Mult=>exact BF6
  | FloorDiv=>exact AR2
  | Mod=>exact BF5
  | Pow=>exact BF7
  | _=>exact UD
 cmp:=fun n a=>by
  cases a with
  | Eq=>exact BN6 b
  | NotEq=>exact BO3 b
  | Lt=>exact BO2
  | LtE=>exact BO1
  | Gt=>exact BN8
  | GtE=>exact BN7
  | Is=>exact BO0
  | IsNot=>exact AF9
  | In=>exact BN9
  | NotIn=>exact AG0
 call:=fun _ _ _ _ h=>by cases h
 meth:=fun _ _ _ _ _ h=>by cases h
def Book.b (B:Book)(n:Nat)(o:Operator)(r:R3):Book:={B with bin:=fun m op=>if m=n then(if op=o then r else rNo) else B.bin m op}
def Book.m (B:Book)(n:Nat)(o:CmpOp)(r:R3):Book:={B with cmp:=fun m op=>if m=n then(if op=o then r else rNo) else B.cmp m op}
def Book.c (B:Book)(n:Nat)(x:Str)(u:Value)(r:C3):Book:={B with call:=fun m y=>if m=n/\y=x then some (u,r) else B.call m y}
def Book.a (B:Book)(n:Nat)(x:Str)(T i:String)(r:M3):Book:={B with meth:=fun m y=>if m=n/\y=x then some (T,i,r) else B.meth m y}
theorem BookOk.b (h:BookOk B X){n:Nat}{o:Operator}{r:R3}(d:OpR3 X (CE2 o) r):BookOk (B.b n o r) X:={h with
 bin:=fun m a=>by
  show OpR3 X _ (if m=n then(if a=o then r else rNo) else B.bin m a)
  by_cases e:m=n
  ·rw[if_pos e]
   by_cases c:a=o
   ·rw[if_pos c,c];exact d
   ·rw[if_neg c];exact UD
  ·rw[if_neg e];exact h.bin m a}
theorem BookOk.m (h:BookOk B X){n:Nat}{o:CmpOp}{r:R3}(c:OpR3 X (BY6 o) r):BookOk (B.m n o r) X:={h with
 cmp:=fun m a=>by
  show OpR3 X _ (if m=n then(if a=o then r else rNo) else B.cmp m a)
  by_cases e:m=n
  ·rw[if_pos e]
   by_cases b:a=o
   ·rw[if_pos b,b];exact c
   ·rw[if_neg b];exact UD
  ·rw[if_neg e];exact h.cmp m a}
theorem BookOk.c (h:BookOk B X){n:Nat}{r:C3}(h1:X.mg x=none)(h2:BZ4 x=some u)(f:(∃i,u=.builtin i)\/∃T,u=.type T)(g:CallR3 X u r):BookOk (B.c n x u r) X:={h with
 call:=fun m y b d e=>by
  replace e:(if m=n/\y=x then some (u,r) else B.call m y)=some (b,d):=e
  by_cases a:m=n/\y=x
  ·rw[if_pos a] at e;cases e;rw[a.2];exact⟨h1,h2,f,g⟩
  ·rw[if_neg a] at e;exact h.call m y b d e}
theorem BookOk.a (h:BookOk B X){n:Nat}{T i:String}{r:M3}(h1:PlainAttrs T)(h2:Slot T x i)(g:typeOf (.builtin i)=pure (.type "method_descriptor"))(j:MtR3 X i r):BookOk (B.a n x T i r) X:={h with
 meth:=fun m y c d f e=>by
  replace e:(if m=n/\y=x then some (T,i,r) else B.meth m y)=some (c,d,f):=e
  by_cases b:m=n/\y=x
  ·rw[if_pos b] at e;cases e;rw[b.2];exact⟨h1,h2,g,j⟩
  ·rw[if_neg b] at e;exact h.meth m y c d f e}
variable {Γ:Ct}{X:Cx}{R:Rc}
def fr (Γ:Ct)(x:Str):Bool:=gl Γ x && (match Γ.B.call 0 x with|some _=>true|none=>false)
theorem AX9 (o:OkC Γ X)(h:fr Γ x=true):Gl X x/\X.mg x=none:=by
 unfold fr at h
 rw[BV3] at h
 refine⟨(QF o h.1).1,?_⟩
 have:=h.2
 split at this
 ·rename_i z e;exact(o.b.call _ _ z.1 z.2 e).1
 ·cases this
theorem BQ9 (h:isStar e=false):BX4 [e] env=(false,eval e env)::BX4 [] env:=F1 h _ _
def qI (R:Rc)(Γ:Ct)(_ i:Expr):Option TI3:=match Γ.hi i.pos with
 | 3=>some (iQ3 (R.E Γ i))
 | 4=>some (K7 (EF (R.E Γ i)))
 | _=>none
def extQ:Ext:={AO with I:=qI}
theorem extQ_ok:ExtOk extQ:={G4 with
 I:=fun R c a X o g i t h=>by
  have b:=(c a X o).1
  replace h:qI R a g i=some t:=h
  unfold qI at h
  split at h
  ·cases h;exact BP4 (b _)
  ·cases h;exact AY8 (QY (b _))
  ·cases h}
def sE (R:Rc)(Γ:Ct)(e:Expr):Option TE3:=match e with
 | .Subscript a (.Slice lo hi none _) p=>match Γ.h p with
  | 1=>some (BR6 (R.E Γ a) (rO (R.E Γ) lo) (rO (R.E Γ) hi))
  | 2=>some (IE (R.E Γ a) (rO (R.E Γ) lo) (rO (R.E Γ) hi))
  | _=>none
 | _=>none
def extS:Ext:={AO with E:=sE}
theorem extS_ok:ExtOk extS:={G4 with
 E:=fun R c b X o e t h=>by
  have a:=(c b X o).1
  replace h:sE R b e=some t:=h
  unfold sE at h
  split at h
  ·split at h<;>cases h
   ·exact BH2 (a _) (YU a _) (YU a _)
   ·exact AS6 (a _) (YU a _) (YU a _)
  ·cases h}
def vE (R:Rc)(Γ:Ct)(e:Expr):Option TE3:=match e with
 | .Subscript a (.Slice none none (some s) _) _=>some (LL (R.E Γ a) (J8 (R.E Γ s)))
 | _=>none
def extV:Ext:={AO with E:=vE}
theorem extV_ok:ExtOk extV:={G4 with
 E:=fun R c a X o e t h=>by
  have b:=(c a X o).1
  replace h:vE R a e=some t:=h
  unfold vE at h
  split at h
  ·cases h;exact WJ (b _) (HL (b _))
  ·cases h}
def pRs (R:Rc)(Γ:Ct):List (Option Expr)->List Expr->Option (List (TE3×TE3))
 | [],[]=>some []
 | some k::ks,v::vs=>(pRs R Γ ks vs).map fun r=>(R.E Γ k,R.E Γ v)::r
 | _,_=>none
theorem AG7 (d:∀e,PE3 X e (R.E Γ e)){pos:Pos}:∀{ks:List (Option Expr)} {vs:List Expr} {l:List (TE3×TE3)},pRs R Γ ks vs=some l->AA3 X pos ks vs l/\ks.all (·.isSome)=true/\ks.length=vs.length
 | [],[],l,h=>by cases h;exact⟨AI3,rfl,rfl⟩
 | some k::ks,v::vs,l,h=>by
  obtain⟨r,f,rfl⟩:=Option.map_eq_some_iff.mp (show(pRs R Γ ks vs).map _=some l from h)
  obtain⟨a,b,c⟩:=AG7 d f
  exact⟨ZL (d _) (d _) a,by rw[List.all_cons,b];rfl,congrArg (·+1) c⟩
 | none::_,_,_,h=>by cases h
 | [],_::_,_,h=>by cases h
 | some _::_,[],_,h=>by cases h
def dE (R:Rc)(Γ:Ct)(e:Expr):Option TE3:=match e with
 | .Dict (k::ks) vs _=>match decide (ks.length<15),pRs R Γ (k::ks) vs with
  | true,some l=>some (FW l)
  | _,_=>none
 | _=>none
def extD:Ext:={AO with E:=dE}
theorem extD_ok:ExtOk extD:={G4 with
 E:=fun R f d X o e t h=>by
  have g:=(f d X o).1
  replace h:dE R d e=some t:=h
  unfold dE at h
  split at h
  ·split at h
   ·rename_i i j
    cases h
    obtain⟨a,b,c⟩:=AG7 g j
    exact ZA a b c (by simp) (by simpa[Nat.lt_succ_iff] using i)
   ·cases h
  ·cases h}
variable {X:Cx}
def AK1 (neg:Bool):R3:=fun x y M Q=>∃(b:Bool) (bs:List Bool),x=.bl b/\UH M y=some (bs.map D.bl)/\Q (.bl (neg ^^ bs.contains b)) M
variable {X:Cx}
theorem UV {K:BU5}{M:Mem}{H:Hp}:∀{ys:List Bool} {vs:List V},Reps K M H (ys.map D.bl) vs->vs=ys.map V.bl
 | [],_,r=>by cases r;rfl
 | y::ys,_,.cons p1 p2=>by
  cases p1
  rw[UV p2];rfl
theorem BE0 {b:Bool}{ys:List Bool}:inV (.bl b) (ys.map V.bl)=ys.contains b:=by
 unfold inV
 induction ys with
 | nil=>rfl
 | cons y ys a =>
  rw[BX1,BZ0,a,List.contains_cons]
  cases y<;>cases b<;>rfl
theorem AE0 (ys:List Bool):(ys.map V.bl).all AU=true:=by
 rw[List.all_map,CD6]
 intro _ _;rfl
theorem BF4:OpR3 X (BY6 .In) (AK1 false):=by
 rintro a s c H M x y n o v u Q I m d f g i ⟨b,j,rfl,k,q⟩
 cases g
 obtain⟨p,t,rfl,l,r⟩:=OG m i k
 have e:=UV r
 subst e
 exact thn (LD a s c H _ _ v u _ I d f ⟨p,_,rfl,l,rfl,AE0 j,up0 m .bl (by rw[BE0];rw[CI4] at q;exact q)⟩) fun _ _ h=>P0 h
end L3
namespace TK
open PySem L2 L3 MK
def hNe:Head->List Blk->Prop
 | .leaf _ _,_=>True
 | .ife _,l=>∃a b,l=[a,b]/\a≠.nil
 | .whl _,l=>∃a,l=[a]/\a≠.nil
 | .tr cs,l=>∃a ms z,l=a::(ms++[z])/\ms.length=cs.length/\a≠.nil/\(∀m∈ms,m≠.nil)/\(cs=[]->z≠.nil)
mutual
def neD:Deed->Prop
 | .mk h bs=>hNe h (C5 bs)/\L5 bs
def neB:Blk->Prop
 | .nil=>True
 | .cons d r=>neD d/\neB r
def L5:Bls->Prop
 | .nil=>True
 | .cons b r=>neB b/\L5 r
end
def dOk (ds:List Int):Prop:=(1<=ds.length/\ds.length<=1000)/\∀d∈ds,0<=d/\d<100
def Kit (M:Mem)(k:Addr)(x y z:D):Prop:=∃(a:Int) (ds:List Int),M k=some (.dct [(.inr "at",.int a),(.inr "draws",.lst (ds.map D.int)),(.inr "names",x),(.inr "rules",y),(.inr "room",z)])/\(0<=a/\a<ds.length)/\dOk ds
def hD (h:Str×Int):D:=.tup [.str h.1,.int h.2]
structure KF (ys:List Str)(hs:List (Str×Int)):Prop where
 n8:ys.length=8
 nm:∀y∈ys,MK.nm y
 h0:hs≠[]
 h8:hs.length<=8
 ho:∀h∈hs,MK.nm h.1/\0<=h.2/\h.2<=3
def KR (M:Mem)(k r:Addr)(ys:List Str)(hs:List (Str×Int))(z:Int):Prop:=Kit M k (.lst (ys.map D.str)) (.ref r) (.int z)/\M r=some (.lst (hs.map hD))/\r≠k/\KF ys hs
def AM0:Sp3:=fun ds M Q=>∃c k:Int,ds=[.int c,.int k]/\(0<=c/\c<10^60)/\(0<=k/\k<1000)/\∀r:Int,0<=r->r<2147483587->Q (.int r) M
def spDraws:Sp3:=fun ds M Q=>∃ns:List Int,ds=[.lst (ns.map D.int)]/\ns.length<=63/\∀es,dOk es->Q (.lst (es.map D.int)) M
def E4:Sp3:=fun ds M Q=>∃k x y z,ds=[.ref k]/\Kit M k x y z/\∀(n:Int) M',0<=n->n<100->Kit M' k x y z->Same3 k M M'->Q (.int n) M'
def ON:Sp3:=fun ds M Q=>∃k x y z,ds=[.ref k]/\Kit M k x y z/\∀(ys:List Str) M',ys.length=8->(∀y∈ys,nm y)->Kit M' k x y z->Same3 k M M'->Q (.lst (ys.map D.str)) M'
def O5:Sp3:=fun ds M Q=>∃k r ys hs z,ds=[.ref k]/\KR M k r ys hs z/\∀x M',wf x->nd x=1->dp x=1->KR M' k r ys hs z->Same3 k M M'->Q (eD x) M'
def LG:Sp3:=fun ds M Q=>∃k r ys hs z a b,ds=[.ref k,eD a,eD b]/\KR M k r ys hs z/\∀s M',sgn s->KR M' k r ys hs z->Same3 k M M'->Q (eD (.op s a b)) M'
def BL:Sp3:=fun ds M Q=>∃k r ys hs z,ds=[.ref k]/\KR M k r ys hs z/\∀x M',wf x->nd x<=9->dp x<=4->KR M' k r ys hs z->Same3 k M M'->Q (eD x) M'
def AK:Sp3:=fun ds M Q=>∃k r ys hs z w,ds=[.ref k,.bl w]/\KR M k r ys hs z/\∀h rs M',FX h rs->KR M' k r ys hs z->Same3 k M M'->Q (dD (.mk (.leaf h rs) .nil)) M'
def N5 (n:Nat):Sp3:=fun ds M Q=>∃k r ys hs z w,∃deep:Nat,ds=[.ref k,.int deep,.bl w]/\KR M k r ys hs z/\(0<=z/\z<=29)/\(1<=deep/\deep<=5/\3*(5-deep)+4<=n) /\
 ∀c x b z' M',nm c->nm x->okB b->neB b->b≠.nil->dpB b<=5-deep->(D5 b:Int)+z'<=1+z->0<=z'->KR M' k r ys hs z'->Same3 k M M'->Q (.tup [.str c,.str x,.tup (dB b)]) M'
def N6 (n:Nat):Sp3:=fun ds M Q=>∃k r ys hs z w,∃deep:Nat,∃kind:Int,ds=[.ref k,.int kind,.int deep,.bl w]/\KR M k r ys hs z/\(0<=z/\z<=29)/\(1<=deep/\deep<=4/\3*(5-deep)+2<=n) /\
 ∀d z' M',okD d->neD d->dpD d<=5-deep->(G2 d:Int)+z'<=1+z->0<=z'->KR M' k r ys hs z'->Same3 k M M'->Q (dD d) M'
def N4 (n:Nat):Sp3:=fun ds M Q=>∃k r ys hs z w,∃deep:Nat,ds=[.ref k,.int deep,.bl w]/\KR M k r ys hs z/\(0<=z/\z<=29)/\(1<=deep/\deep<=5/\3*(5-deep)+3<=n) /\
 ∀b z' M',okB b->neB b->b≠.nil->dpB b<=5-deep->(D5 b:Int)+z'<=1+z->0<=z'->KR M' k r ys hs z'->Same3 k M M'->Q (.tup (dB b)) M'
def rOk (r:Rl):Prop:=okB r.blk/\neB r.blk/\r.blk≠.nil/\dpB r.blk<=4/\D5 r.blk<=30
def spBook:Sp3:=fun ds M Q=>∃ns:List Int,∃most:Nat,ds=[.lst (ns.map D.int),.int most]/\ns.length<=63/\(1<=most/\most<=8)/\∀bk:List Rl,(1<=bk.length/\bk.length<=most)->(∀r∈bk,rOk r)->Q (.tup (bk.map rD)) M
end TK
namespace TK
open PySem L2 L3
abbrev SH:List Str:=["_law_cell","_law_k","_law_number"]
def IG:TS3 :=
  (A8 (C0 2 (A6 E9 (A6 D0 (A6 D0 (A6 D0 (A6 CM (A6 E9 (A4 0) (tC3 (.int 2147483647))) (tC3 (.int 48271))) (A6 CM (A6 CM (A4 1) (A4 1)) (tC3 (.int 69621)))) (A4 1)) (tC3 (.int 11))) (tC3 (.int 2147483629))))
  (B4 (A6 E9 (A6 RJ (A4 2) (tC3 (.int 5))) (tC3 (.int 2147483587)))))
abbrev T8:List Str:=["_law_script","_law_cells","_law_found","_law_k","_law_cell","_law_left_here","_law_j"]
def t__law_draws:TS3 :=
  (A8 (C0 1 (A6 D0 (R6 (K7 (Y7 (A4 0) F7 (J8 (tC3 (.int 63))))) 1 [] (K1 0) P6 (A6 E9 (A4 0) (A6 RJ (tC3 (.int 10)) (tC3 (.int 60))))) (F9 (A0 (tC3 (.int 7)) A5))))
  (A8 (C0 2 (J7 A5))
  (A8 (N7 (P1 (A0 (F0 WR (A0 (tC3 (.int 24)) (A0 (F0 D8 (A0 (A4 1) A5)) A5))) A5)) 3 (A8 (C0 4 (A6 C1 (A4 1) (A6 E9 (A4 3) (F0 D8 (A0 (A4 1) A5)))))
  (A8 (C0 5 (A4 4))
  (N7 (P1 (A0 (tC3 (.int 9)) A5)) 6 (A8 (C2 (CY (B1 (A6 S6 (A4 4) (A6 RJ (tC3 (.int 10)) (tC3 (.int 18))))) (B1 (A6 BP5 (A4 3) (F0 D8 (A0 (A4 1) A5))))) (C0 5 (A7 AM0 (A0 (A4 4) (A0 (A6 D0 (A6 CM (tC3 (.int 9)) (A4 3)) (A4 6)) A5)))) B6)
  (A8 (F4 (R5 "list" E7 (A4 2) (A0 (A6 E9 (A4 5) (tC3 (.int 100))) A5)))
  (C0 5 (A6 UA (A4 5) (tC3 (.int 100))))))))))
  (B4 (A4 2)))))
abbrev PD:List Str:=["_law_kit"]
def EW:TS3 :=
  (A8 (S8 (A4 0) (tC3 (.str "at")) (A6 E9 (A6 D0 (A6 E6 (A4 0) (tC3 (.str "at"))) (tC3 (.int 1))) (F0 D8 (A0 (A6 E6 (A4 0) (tC3 (.str "draws"))) A5))))
  (B4 (A6 C1 (A6 E6 (A4 0) (tC3 (.str "draws"))) (A6 E6 (A4 0) (tC3 (.str "at"))))))
abbrev LY:List Str:=["_law_kit","_law_letters","_law_size","_law_at","_law_base","_law_start","_law_found","_law_k","_law_shut"]
def DD:TS3 :=
  (A8 (C0 1 (tC3 (.str "abcdefghijklmnopqrstuvwxyz")))
  (A8 (C0 2 (A6 D0 (tC3 (.int 1)) (A6 E9 (A7 E4 (A0 (A4 0) A5)) (tC3 (.int 8)))))
  (A8 (C0 3 (A6 E9 (A7 E4 (A0 (A4 0) A5)) (A4 2)))
  (A8 (C0 4 (OS (P1 (A0 (A4 2) A5)) 1 [1,0] (K1 0) P6 (A6 C1 (A4 1) (A6 E9 (A7 E4 (A0 (A4 2) A5)) (tC3 (.int 26))))))
  (A8 (C0 5 (A7 E4 (A0 (A4 0) A5)))
  (A8 (C0 6 (J7 A5))
  (A8 (N7 (P1 (A0 (tC3 (.int 8)) A5)) 7 (A8 (OT (A4 4) (A4 3) (A6 C1 (A4 1) (A6 E9 (A6 D0 (A4 5) (A6 CM (tC3 (.int 3)) (A4 7))) (tC3 (.int 26)))))
  (F4 (R5 "list" E7 (A4 6) (A0 (R5 "str" NW (tC3 (.str "")) (A0 (A4 4) A5)) A5)))))
  (A8 (C0 8 (tC3 (.str "any ask cast catch close else end fault give if last leave make none note on rule try while")))
  (A8 (C2 (B1 (A6 (AK1 false) (tC3 (.bl true)) (R6 (K7 (XF "str" HQ (A4 8))) 1 [6] (K1 0) P6 (A6 (FG false) (A4 0) (A4 1))))) (B4 (F9 (A0 (tC3 (.str "aa")) (A0 (tC3 (.str "b")) (A0 (tC3 (.str "aac")) (A0 (tC3 (.str "ad")) (A0 (tC3 (.str "dd")) (A0 (tC3 (.str "abcdefgh")) (A0 (tC3 (.str "abcdefgi")) (A0 (tC3 (.str "z")) A5)))))))))) B6)
  (B4 (A4 6)))))))))))
abbrev PC:List Str:=["_law_kit","_law_kind","_law_number"]
def EV:TS3 :=
  (A8 (C0 1 (A6 E9 (A7 E4 (A0 (A4 0) A5)) (tC3 (.int 7))))
  (A8 (C2 (B1 (A6 D7 (A4 1) (tC3 (.int 0)))) (B4 (B9 (A0 (tC3 (.str "none")) A5))) B6)
  (A8 (C2 (B1 (A6 CL (A4 1) (tC3 (.int 3)))) (B4 (B9 (A0 (tC3 (.str "var")) (A0 (A6 C1 (A6 E6 (A4 0) (tC3 (.str "names"))) (A6 E9 (A7 E4 (A0 (A4 0) A5)) (tC3 (.int 8)))) A5)))) B6)
  (A8 (C0 2 (A6 Q8 (A6 E9 (A7 E4 (A0 (A4 0) A5)) (tC3 (.int 9))) (tC3 (.int 4))))
  (A8 (C2 (B1 (A6 D7 (A4 1) (tC3 (.int 3)))) (C0 2 (A6 CM (A6 Q8 (A6 Q8 (A6 RJ (tC3 (.int 10)) (tC3 (.int 30))) (tC3 (.int 1))) (A7 E4 (A0 (A4 0) A5))) (A6 Q8 (tC3 (.int 1)) (A6 CM (tC3 (.int 2)) (A6 E9 (A4 2) (tC3 (.int 2))))))) B6)
  (B4 (B9 (A0 (tC3 (.str "number")) (A0 (A4 2) A5)))))))))
abbrev SI:List Str:=["_law_kit","_law_one","_law_other"]
def II:TS3 :=
  (B4 (B9 (A0 (tC3 (.str "op")) (A0 (A6 C1 (tC3 (.str "+-*<=")) (A6 E9 (A7 E4 (A0 (A4 0) A5)) (tC3 (.int 5)))) (A0 (A4 1) (A0 (A4 2) A5))))))
abbrev BN:List Str:=["_law_kit","_law_kind","_law_inner","_law_name","_law_count"]
def S4:TS3 :=
  (A8 (C0 1 (A6 E9 (A7 E4 (A0 (A4 0) A5)) (tC3 (.int 9))))
  (A8 (C2 (B1 (A6 S6 (A4 1) (tC3 (.int 5)))) (B4 (A7 O5 (A0 (A4 0) A5))) B6)
  (A8 (C2 (B1 (A6 D7 (A4 1) (tC3 (.int 5)))) (B4 (A7 LG (A0 (A4 0) (A0 (A7 O5 (A0 (A4 0) A5)) (A0 (A7 O5 (A0 (A4 0) A5)) A5))))) B6)
  (A8 (C2 (B1 (A6 D7 (A4 1) (tC3 (.int 6)))) (A8 (C0 2 (A7 LG (A0 (A4 0) (A0 (A7 LG (A0 (A4 0) (A0 (A7 O5 (A0 (A4 0) A5)) (A0 (A7 O5 (A0 (A4 0) A5)) A5)))) (A0 (A7 O5 (A0 (A4 0) A5)) A5)))))
  (B4 (A7 LG (A0 (A4 0) (A0 (A7 O5 (A0 (A4 0) A5)) (A0 (A4 2) A5)))))) B6)
  (A8 (RT (N1 [3,4]) (A6 C1 (A6 E6 (A4 0) (tC3 (.str "rules"))) (A6 E9 (A7 E4 (A0 (A4 0) A5)) (F0 D8 (A0 (A6 E6 (A4 0) (tC3 (.str "rules"))) A5)))))
  (B4 (B9 (A0 (tC3 (.str "make")) (A0 (A4 3) (A0 (F0 J9 (A0 (R6 (P1 (A0 (A4 4) A5)) 1 [0] (K1 0) P6 (A7 O5 (A0 (A4 1) A5))) A5)) A5))))))))))
abbrev LZ:List Str:=["_law_kit","_law_loop","_law_kind","_law_x","_law_word","_law_one"]
def DE:TS3 :=
  (A8 (C0 2 (A6 E9 (A7 E4 (A0 (A4 0) A5)) (tC3 (.int 12))))
  (A8 (C0 3 (A6 C1 (A6 E6 (A4 0) (tC3 (.str "names"))) (A6 E9 (A7 E4 (A0 (A4 0) A5)) (tC3 (.int 8)))))
  (A8 (C0 4 (A6 C1 (F9 (A0 (tC3 (.str "kind")) (A0 (tC3 (.str "close")) (A0 (tC3 (.str "ring")) (A0 (tC3 (.str "a")) A5))))) (A6 E9 (A7 E4 (A0 (A4 0) A5)) (tC3 (.int 4)))))
  (A8 (C2 (ID (B1 (A6 D7 (A4 2) (tC3 (.int 11)))) (B1 (A4 1))) (B4 (B9 (A0 (tC3 (.str "leave")) A5))) B6)
  (A8 (C0 5 (A7 BL (A0 (A4 0) A5)))
  (A8 (C2 (B1 (A6 S6 (A4 2) (tC3 (.int 2)))) (B4 (B9 (A0 (tC3 (.str "fault")) (A0 (A4 4) (A0 (A4 5) A5))))) B6)
  (A8 (C2 (B1 (A6 D7 (A4 2) (tC3 (.int 2)))) (B4 (B9 (A0 (tC3 (.str "end")) (A0 (A4 5) A5)))) B6)
  (A8 (C2 (B1 (A6 S6 (A4 2) (tC3 (.int 5)))) (B4 (B9 (A0 (tC3 (.str "give")) (A0 (A4 3) (A0 (A4 5) A5))))) B6)
  (A8 (C2 (B1 (A6 D7 (A4 2) (tC3 (.int 5)))) (B4 (B9 (A0 (tC3 (.str "on")) (A0 (A4 3) (A0 (A4 5) A5))))) B6)
  (A8 (C2 (B1 (A6 D7 (A4 2) (tC3 (.int 6)))) (B4 (B9 (A0 (tC3 (.str "close")) (A0 (A4 5) A5)))) B6)
  (A8 (C2 (B1 (A6 D7 (A4 2) (tC3 (.int 7)))) (B4 (B9 (A0 (tC3 (.str "note")) (A0 (A4 5) A5)))) B6)
  (A8 (C2 (B1 (A6 D7 (A4 2) (tC3 (.int 8)))) (B4 (B9 (A0 (tC3 (.str "ask")) (A0 (A4 3) (A0 (A6 C1 (A6 E6 (A4 0) (tC3 (.str "names"))) (A6 E9 (A7 E4 (A0 (A4 0) A5)) (tC3 (.int 8)))) (A0 (A4 5) (A0 (A7 O5 (A0 (A4 0) A5)) A5))))))) B6)
  (A8 (C2 (B1 (A6 D7 (A4 2) (tC3 (.int 9)))) (B4 (B9 (A0 (tC3 (.str "cast")) (A0 (A4 3) (A0 (A6 C1 (A6 E6 (A4 0) (tC3 (.str "names"))) (A6 E9 (A7 E4 (A0 (A4 0) A5)) (tC3 (.int 8)))) (A0 (A4 5) (A0 (A4 4) (A0 (A7 O5 (A0 (A4 0) A5)) A5)))))))) B6)
  (B4 (B9 (A0 (tC3 (.str "let")) (A0 (A4 3) (A0 (A4 5) A5))))))))))))))))))
abbrev IX:List Str:=["_law_kit","_law_deep","_law_loop","_law_word"]
def AY (q__law_caught q__law_nested q__law_block:Sp3):TS3 :=
  (A8 (C0 3 (A6 C1 (F9 (A0 (tC3 (.str "any")) (A0 (tC3 (.str "kind")) (A0 (tC3 (.str "close")) (A0 (tC3 (.str "ring")) (A0 (tC3 (.str "a")) A5)))))) (A6 E9 (A7 E4 (A0 (A4 0) A5)) (tC3 (.int 5)))))
  (B4 (B9 (A0 (A4 3) (A0 (A6 C1 (A6 E6 (A4 0) (tC3 (.str "names"))) (A6 E9 (A7 E4 (A0 (A4 0) A5)) (tC3 (.int 8)))) (A0 (A7 q__law_block (A0 (A4 0) (A0 (A4 1) (A0 (A4 2) A5)))) A5))))))
abbrev IY:List Str:=["_law_kit","_law_kind","_law_deep","_law_loop","_law_more","_law_last","_law_one","_law_block_here","_law_catches","_law_lasts"]
def AZ (q__law_caught q__law_nested q__law_block:Sp3):TS3 :=
  (A8 (C0 4 (A6 E9 (A7 E4 (A0 (A4 0) A5)) (tC3 (.int 4))))
  (A8 (C0 5 (F0 EO (A0 (LJ (A6 D7 (A4 4) (tC3 (.int 0))) (A6 D7 (A6 E9 (A7 E4 (A0 (A4 0) A5)) (tC3 (.int 2))) (tC3 (.int 0)))) A5)))
  (A8 (C2 (B1 (A6 S6 (A4 1) (tC3 (.int 3)))) (A8 (C0 5 (F0 EO (A0 (A6 CL (A4 4) (tC3 (.int 1))) A5)))
  (C0 4 (tC3 (.int 0)))) B6)
  (A8 (C2 (B1 (O8 UC S6 (tC3 (.int 3)) (A4 1) (tC3 (.int 5)))) (A8 (C0 4 (tC3 (.int 0)))
  (C0 5 (tC3 (.int 0)))) B6)
  (A8 (C2 (B1 (A6 S6 (A6 E6 (A4 0) (tC3 (.str "room"))) (A6 D0 (A6 D0 (tC3 (.int 1)) (A4 4)) (A4 5)))) (B4 (A7 AK (A0 (A4 0) (A0 (A4 3) A5)))) B6)
  (A8 (S8 (A4 0) (tC3 (.str "room")) (A6 Q8 (A6 Q8 (A6 Q8 (A6 E6 (A4 0) (tC3 (.str "room"))) (tC3 (.int 1))) (A4 4)) (A4 5)))
  (A8 (C2 (B1 (O8 UC S6 (tC3 (.int 3)) (A4 1) (tC3 (.int 5)))) (B4 (B9 (A0 (tC3 (.str "while")) (A0 (A7 BL (A0 (A4 0) A5)) (A0 (A7 q__law_block (A0 (A4 0) (A0 (A6 D0 (A4 2) (tC3 (.int 1))) (A0 (tC3 (.bl true)) A5)))) A5))))) B6)
  (A8 (C0 6 (A7 BL (A0 (A4 0) A5)))
  (A8 (C0 7 (A7 q__law_block (A0 (A4 0) (A0 (A6 D0 (A4 2) (tC3 (.int 1))) (A0 (A4 3) A5)))))
  (A8 (C0 8 (F0 J9 (A0 (R6 (P1 (A0 (A4 4) A5)) 1 [0,3,2] (K1 0) P6 (A7 q__law_caught (A0 (A4 1) (A0 (A6 D0 (A4 3) (tC3 (.int 1))) (A0 (A4 2) A5))))) A5)))
  (A8 (C0 9 (B9 A5))
  (A8 (C2 (B1 (A6 D7 (A4 5) (tC3 (.int 1)))) (C0 9 (A7 q__law_block (A0 (A4 0) (A0 (A6 D0 (A4 2) (tC3 (.int 1))) (A0 (A4 3) A5))))) B6)
  (A8 (C2 (B1 (A6 S6 (A4 1) (tC3 (.int 3)))) (B4 (B9 (A0 (tC3 (.str "if")) (A0 (A4 6) (A0 (A4 7) (A0 (A4 9) A5)))))) B6)
  (B4 (B9 (A0 (tC3 (.str "try")) (A0 (A4 7) (A0 (A4 8) (A0 (A4 9) A5)))))))))))))))))))
abbrev LU:List Str:=["_law_kit","_law_deep","_law_loop","_law_block_here","_law_k","_law_kind"]
def DA (q__law_caught q__law_nested q__law_block:Sp3):TS3 :=
  (A8 (C0 3 (J7 A5))
  (A8 (N7 (P1 (A0 (A6 D0 (tC3 (.int 1)) (A6 E9 (A7 E4 (A0 (A4 0) A5)) (tC3 (.int 3)))) A5)) 4 (C2 (CY (B1 (A6 D7 (A4 4) (tC3 (.int 0)))) (B1 (A6 CL (A6 E6 (A4 0) (tC3 (.str "room"))) (tC3 (.int 0))))) (A8 (S8 (A4 0) (tC3 (.str "room")) (A6 Q8 (A6 E6 (A4 0) (tC3 (.str "room"))) (F0 EO (A0 (A6 CL (A4 4) (tC3 (.int 0))) A5))))
  (A8 (C0 5 (A6 E9 (A7 E4 (A0 (A4 0) A5)) (tC3 (.int 20))))
  (C2 (CY (B1 (A6 S6 (A4 5) (tC3 (.int 9)))) (B1 (A6 D7 (A4 1) (tC3 (.int 5))))) (F4 (R5 "list" E7 (A4 3) (A0 (A7 AK (A0 (A4 0) (A0 (A4 2) A5))) A5))) (F4 (R5 "list" E7 (A4 3) (A0 (A7 q__law_nested (A0 (A4 0) (A0 (A6 Q8 (A4 5) (tC3 (.int 9))) (A0 (A4 1) (A0 (A4 2) A5))))) A5)))))) B6))
  (B4 (F0 J9 (A0 (A4 3) A5)))))
abbrev OZ:List Str:=["_law_script","_law_most","_law_kit","_law_called","_law_k","_law_book_here","_law_name","_law_count"]
def ET:TS3 :=
  (A8 (C0 2 (FW [((tC3 (.str "at")),(tC3 (.int 0))),((tC3 (.str "draws")),(A7 spDraws (A0 (A4 0) A5))),((tC3 (.str "names")),(F9 A5)),((tC3 (.str "rules")),(J7 A5)),((tC3 (.str "room")),(tC3 (.int 0)))]))
  (A8 (S8 (A4 2) (tC3 (.str "names")) (A7 ON (A0 (A4 2) A5)))
  (A8 (C0 3 (A7 ON (A0 (A4 2) A5)))
  (A8 (N7 (P1 (A0 (A6 D0 (tC3 (.int 1)) (A6 E9 (A7 E4 (A0 (A4 2) A5)) (A4 1))) A5)) 4 (F4 (R5 "list" E7 (A6 E6 (A4 2) (tC3 (.str "rules"))) (A0 (B9 (A0 (A6 C1 (A4 3) (A4 4)) (A0 (A6 E9 (A7 E4 (A0 (A4 2) A5)) (tC3 (.int 4))) A5))) A5))))
  (A8 (C0 5 (J7 A5))
  (A8 (N8 (K7 (F0 FU (A0 (A6 E6 (A4 2) (tC3 (.str "rules"))) A5))) (N1 [6,7]) (A8 (S8 (A4 2) (tC3 (.str "room")) (A6 C1 (F9 (A0 (tC3 (.int 3)) (A0 (tC3 (.int 7)) (A0 (tC3 (.int 12)) (A0 (tC3 (.int 29)) (A0 (tC3 (.int 7)) A5)))))) (A6 E9 (A7 E4 (A0 (A4 2) A5)) (tC3 (.int 5)))))
  (F4 (R5 "list" E7 (A4 5) (A0 (B9 (A0 (A4 6) (A0 (F0 J9 (A0 (Y7 (A6 E6 (A4 2) (tC3 (.str "names"))) F7 (J8 (A4 7))) A5)) (A0 (A7 (N4 20) (A0 (A4 2) (A0 (tC3 (.int 1)) (A0 (tC3 (.bl false)) A5)))) A5)))) A5)))))
  (B4 (F0 J9 (A0 (A4 5) A5)))))))))
end TK
open L3
namespace TK
open PySem L2 L3 MK
theorem AB7 {g:TG3}{s:Lo}{M1:Mem}{Q:DK}{q:Addr}(S:Nat->Mem->Prop)(P:Nat->D->D->Prop)(H:S 0 M1)(I:M1 q≠none)(T:ds.length<BV8)
  (hs:∀p,M1 p=none->∀k M M',(∀a,a≠p->M' a=M a)->S k M->S k M')
  (t:∀k d M2 (R:D->Mem->Prop) (F:Mem->Prop),ds[k]?=some d->S k M2->(∀e M5,P k d e->S (k+1) M5->Same3 q M2 M5->R e M5) ->
   g d s M2 fun u M3=>tt u M3 fun J M4=>if J=true then te u M4 R else F M4)
  (done:∀b M2,b.length=ds.length->(∀k d e,ds[k]?=some d->b[k]?=some e->P k d e)->S ds.length M2->Same3 q M1 M2->Q (.lst b) M2) :
  UR g tt te s ds M1 Q:=by
 intro p v
 have A:q≠p:=fun e=>I (by rw[e];exact v)
 refine⟨fun k b M2=>b.length=k/\(∀j d e,ds[j]?=some d->b[j]?=some e->P j d e)/\S k M2/\M2 p=some (.lst b)/\∀a,a≠q->a≠p->M2 a=M1 a,⟨rfl,fun j d e _ h=>by simp at h,hs p v 0 _ _ (fun a n=>B3 n) H,B0,fun a _ n=>B3 n⟩,?_,?_⟩
 ·rintro k d b M2 B ⟨C,i,l,m,c⟩
  have K:=(List.getElem?_eq_some_iff.mp B).1
  refine t k d M2 _ _ B l fun e M5 L E w=>?_
  refine⟨by rw[w p (Ne.symm A)];exact m,by lia,by simp[C],fun j N O o f=>?_,hs p v _ _ _ (fun a n=>B3 n) E,B0,fun a x y=>?_⟩
  ·rcases CD1 j b.length with hj|hj
   ·rw[BW7 hj] at f
    exact i j N O o f
   ·rw[BY0 hj] at f
    have G:j-b.length=0:=by
     rcases CG0 (j-b.length) with z|z
     ·exact z
     ·rw[List.getElem?_eq_none (by simp;lia)] at f;cases f
    rw[G] at f
    cases f
    have:j=k:=by lia
    subst this
    rw[B] at o;cases o
    exact L
  ·rw[B3 y,w a x];exact c a x y
 ·rintro b M2 ⟨C,i,l,m,c⟩
  refine⟨m,done b (J4 M2 p) C i (hs p v _ _ _ (fun a n=>I0 n) l) fun a n=>?_⟩
  by_cases r:a=p
  ·subst r;rw[Q0,v]
  ·rw[I0 r];exact c a n r
theorem Kit.ne {k:Addr}{x z:D}(h:Kit M k x y z):M k≠none:=by obtain⟨a,b,e,_⟩:=h;rw[e];simp
theorem Kit.same {M':Mem}{k:Addr}{x z:D}(h:Kit M k x y z)(e:M' k=M k):Kit M' k x y z:=by
 obtain⟨a,b,c,r⟩:=h
 exact⟨a,b,e.trans c,r⟩
theorem Kit.names {M:Mem}{k:Addr}{x y z:D}{Q:DK}(h:Kit M k x y z)(q:Q x M):E6 (.ref k) (.str "names") M Q:=by
 obtain⟨a,c,b,r⟩:=h;exact Q9 b rfl q
theorem Kit.rules {M:Mem}{k:Addr}{x y z:D}{Q:DK}(h:Kit M k x y z)(q:Q y M):E6 (.ref k) (.str "rules") M Q:=by
 obtain⟨a,c,b,r⟩:=h;exact Q9 b rfl q
theorem Kit.room {M:Mem}{k:Addr}{x y z:D}{Q:DK}(h:Kit M k x y z)(q:Q z M):E6 (.ref k) (.str "room") M Q:=by
 obtain⟨a,c,b,r⟩:=h;exact Q9 b rfl q
theorem take {k:Addr}{x z:D}{Q:DK}(h:Kit M k x y z)(q:∀(n:Int) M',0<=n->n<100->Kit M' k x y z->Same3 k M M'->Q (.int n) M'):E4 [.ref k] M Q:=⟨k,x,y,z,rfl,h,q⟩
theorem rd__law_mix:∀ds M Q,AM0 ds M Q->IG {nx:=fun _ M'=>View Q .non M',rt:=View Q} (B8 SH ds) M:=by
 rintro _ M Q ⟨c,k,rfl,⟨a,b⟩,⟨d,e⟩,q⟩
 unfold IG
 walk_at "rd"
 refine F6 (by decide) ?_
 walk_at "rd"
 refine F6 (.inl (.inr ⟨by decide,by decide⟩)) ?_
 walk_at "rd"
 refine F6 (.inl (.inl ⟨by lia,by lia⟩)) ?_
 walk_at "rd"
 refine F6 (.inl (.inr ⟨by decide,by decide⟩)) ?_
 walk_at "rd"
 refine F6 (by decide) ?_
 walk_at "rd"
 refine F6 ⟨by decide,by decide,?_⟩ ?_
 ·have f:=CE9 (c % 2147483647*48271+k*k*69621+k+11) (show(2147483629:Int)≠0 by decide)
  have g:=CC7 (c % 2147483647*48271+k*k*69621+k+11) (show(0:Int)<2147483629 by decide)
  lia
 walk_at "rd"
 refine F6 (by decide) ?_
 exact View.of (q _ (CE9 _ (by decide)) (CC7 _ (by decide)))
theorem rd__law_take:∀ds M Q,E4 ds M Q->EW {nx:=fun _ M'=>View Q .non M',rt:=View Q} (B8 PD ds) M:=by
 rintro _ M Q ⟨k,x,y,z,rfl,⟨a,ds,e,⟨l,m⟩,f⟩,q⟩
 unfold EW
 walk_at "rd"
 refine RL ?_
 walk_at "rd"
 refine Q9 e rfl ?_
 walk_at "rd"
 refine Q9 e rfl ?_
 walk_at "rd"
 have n:0<ds.length:=f.1.1
 refine F6 (by rw[BU2];lia) ?_
 walk_at "rd"
 refine⟨.inr "at",k,_,rfl,rfl,e,by show 5<_;decide,?_⟩
 have c:=CE9 (a+1) (show(((ds.map D.int).length:Nat):Int)≠0 by rw[BU2];lia)
 have g:=CC7 (a+1) (show(0:Int)<((ds.map D.int).length:Nat) by rw[BU2];lia)
 rw[BU2] at c g ⊢
 generalize o:(a+1) % (ds.length:Int)=b at c g ⊢
 walk_at "rd"
 refine Q9 B0 rfl ?_
 walk_at "rd"
 refine Q9 B0 rfl ?_
 obtain⟨i,rfl⟩:=Int.eq_ofNat_of_zero_le c
 have j:i<ds.length:=by lia
 refine S7 (d:=.int ds[i]) ?_ ?_
 ·unfold atI
  simp[ixN,j]
 have:=f.2 ds[i] (CC5 j)
 exact View.of (q _ _ this.1 this.2 ⟨_,ds,B0,⟨c,g⟩,f⟩ fun _ h=>B3 h)
end TK
open L3
namespace TK
open PySem L2 L3 MK
theorem AC3 (ns:List Int)(l h:Option Int):∃a:List Int,cutD (ns.map D.int) l h=a.map D.int/\a.length<=ns.length:=by
 refine⟨(ns.drop (HT.sIx (ns.map D.int).length 0 l)).take (HT.sIx (ns.map D.int).length (ns.map D.int).length h-HT.sIx (ns.map D.int).length 0 l),?_,?_⟩
 ·unfold cutD
  rw[<-List.map_drop,<-List.map_take]
 ·rw[BY1,CD5];lia
theorem rng_at {n k:Nat}{d:D}(h:((BW8 n).map fun k=>D.int (k:Nat))[k]?=some d):d=.int k/\k<n:=by
 have a:k<n:=by simpa using(List.getElem?_eq_some_iff.mp h).1
 rw[BV6,CA2 a] at h
 exact⟨by simpa using h.symm,a⟩
theorem rd__law_draws:∀ds M Q,spDraws ds M Q->t__law_draws {nx:=fun _ M'=>View Q .non M',rt:=View Q} (B8 T8 ds) M:=by
 rintro _ M Q ⟨v,rfl,hn,q⟩
 unfold t__law_draws
 walk_at "rd"
 obtain⟨K,e,hm⟩:=AC3 v none (some 63)
 rw[e]
 refine Q1 K D.int (fun c=>.int (c % 10^60)) (fun _=>true) (by rw[BW2];lia) ?_ ?_
 ·intro c J M2 R F hs Y hF
  walk_at "rd"
  refine F6 ⟨by decide,by decide,by decide⟩ ?_
  walk_at "rd"
  refine F6 (by decide) ?_
  exact Y rfl
 rw[List.filter_eq_self.mpr (fun _ _=>rfl)]
 walk_at "rd"
 refine CO (by rw[BU2,BW2];simp;lia) ?_
 have y:∃o:List Int,(K.map fun c=>D.int (c % 10^60))++[.int 7]=o.map D.int/\1<=o.length/\o.length<=64/\∀c∈o,0<=c/\c<10^60:=by
  refine⟨K.map (fun c=>c % 10^60)++[7],by simp,by simp,by simp;lia,fun c J=>?_⟩
  rcases List.mem_append.mp J with h|h
  ·obtain⟨x,_,rfl⟩:=List.mem_map.mp h
   exact⟨CE9 _ (by decide),CC7 _ (by decide)⟩
  ·cases List.mem_singleton.mp h;decide
 obtain⟨o,Z,c1,c64,y⟩:=y
 rw[Z]
 walk_at "rd"
 intro f hf
 walk_at "rd"
 generalize W:(if (((o.map D.int).length:Nat):Int)>24 then(((o.map D.int).length:Nat):Int) else 24)=w
 rw[BU2] at W
 have w0:24<=w/\w<=64:=by rw[<-W];split<;>lia
 refine⟨by lia,by lia,fun k p E=>∃(b:List Int) (L N O s:Option D),p=[some (.lst (v.map D.int)),some (.lst (o.map D.int)),some (.ref f),L,N,O,s]/\b.length=9*k/\(∀d∈b,0<=d/\d<100)/\E f=some (.lst (b.map D.int))/\∀a,a≠f->E a=M a,⟨[],_,_,_,_,rfl,rfl,fun _ h=>(by cases h),B0,fun a u=>B3 u⟩,?_,?_⟩
 ·rintro k d p E G ⟨b,L,N,O,s,rfl,l,i,z,A⟩
  obtain⟨rfl,hk⟩:=rng_at G
  walk_at "rd"
  refine F6 (by rw[BU2];lia) ?_
  rw[BU2]
  obtain⟨c,J,P⟩:=AA (ds:=o.map D.int) (n:=(k:Int) % (o.length:Int)) (CE9 _ (by lia)) (by rw[BU2];exact CC7 _ (by lia))
  obtain⟨c,H,rfl⟩:=List.mem_map.mp P
  obtain⟨S,U⟩:=y c H
  refine S7 J ?_
  walk_at "rd"
  refine⟨fun j p M2=>∃(b:List Int) (m:Int) (s:Option D),p=[some (.lst (v.map D.int)),some (.lst (o.map D.int)),some (.ref f),some (.int k),some (.int c),some (.int m),s]/\b.length=9*k+j/\(∀d∈b,0<=d/\d<100)/\M2 f=some (.lst (b.map D.int))/\∀a,a≠f->M2 a=M a,⟨b,c,_,rfl,by lia,i,z,A⟩,?_,?_⟩
  ·rintro j d p M2 G ⟨b,m,s,rfl,l,i,t,B⟩
   obtain⟨rfl,X⟩:=rng_at G
   have X:j<9:=X
   have C:∀(T:L6) (m:Int),(∀p M2,(∃(b:List Int) (m:Int) (s:Option D),p=[some (.lst (v.map D.int)),some (.lst (o.map D.int)),some (.ref f),some (.int k),some (.int c),some (.int m),s]/\b.length=9*k+(j+1)/\(∀d∈b,0<=d/\d<100)/\M2 f=some (.lst (b.map D.int))/\∀a,a≠f->M2 a=M a)->T.nx p M2) ->
     A8 (F4 (R5 "list" E7 (A4 2) (A0 (A6 E9 (A4 5) (tC3 (.int 100))) A5))) (C0 5 (A6 UA (A4 5) (tC3 (.int 100)))) T
     [some (.lst (v.map D.int)),some (.lst (o.map D.int)),some (.ref f),some (.int k),some (.int c),some (.int m),some (.int j)] M2:=by
    intro T m V
    walk_at "rd"
    refine⟨.inl ⟨rfl,_,t⟩,?_⟩
    walk_at "rd"
    refine F6 (by decide) ?_
    walk_at "rd"
    refine L4 t (by rw[BU2,BW2];lia) ?_
    walk_at "rd"
    refine F6 ⟨by decide,by decide⟩ ?_
    refine V _ _ ⟨b++[m % 100],m / 100,_,rfl,by simp[l];lia,fun d G=>?_,by rw[B0];simp,fun a u=>by rw[B3 u];exact B a u⟩
    rcases List.mem_append.mp G with h|h
    ·exact i d h
    ·cases List.mem_singleton.mp h
     exact⟨CE9 _ (by decide),CC7 _ (by decide)⟩
   have I:∀T:L6,(∀m:Int,T.nx [some (.lst (v.map D.int)),some (.lst (o.map D.int)),some (.ref f),some (.int k),some (.int c),some (.int m),some (.int j)] M2)->C0 5 (A7 AM0 (A0 (A4 4) (A0 (A6 D0 (A6 CM (tC3 (.int 9)) (A4 3)) (A4 6)) A5))) T
     [some (.lst (v.map D.int)),some (.lst (o.map D.int)),some (.ref f),some (.int k),some (.int c),some (.int m),some (.int j)] M2:=by
    intro T V
    walk_at "rd"
    refine F6 (.inl (.inl ⟨by decide,by decide⟩)) ?_
    walk_at "rd"
    exact⟨c,9*(k:Int)+j,rfl,⟨S,U⟩,⟨by lia,by lia⟩,fun r _ _=>V r⟩
   refine rd_seq.g ?_
   refine rd_ifs.g ?_
   refine rd_or.g ?_
   walk_at "rd"
   refine F6 ⟨by decide,by decide,by decide⟩ ?_
   walk_at "rd"
   refine F3 ?_ ?_
   ·exact rd_iteT.g (I _ fun m=>C _ m fun _ _ h=>h)
   ·walk_at "rd"
    exact F3 (I _ fun m=>C _ m fun _ _ h=>h) (C _ m fun _ _ h=>h)
  ·rintro p M2 ⟨b,m,s,rfl,l,i,t,B⟩
   have hl9:b.length=9*k+9:=by simpa using l
   exact⟨b,_,_,_,_,rfl,by lia,i,t,B⟩
 ·rintro p E ⟨b,L,N,O,s,rfl,l,i,z,A⟩
  walk_at "rd"
  refine View.frz z ?_
  have:J4 E f=M:=by
   funext a
   by_cases u:a=f
   ·subst u;rw[Q0,hf]
   ·rw[I0 u,A a u]
  rw[this]
  simp at l
  exact q b ⟨⟨by lia,by lia⟩,i⟩
end TK
open L3
namespace TK
open PySem L2 L3 MK
theorem pm {n m:Int}(h:0<m:=by decide):0<=n % m/\n % m<m:=⟨CE9 _ (by lia),CC7 _ h⟩
theorem AG3 (cs:List Nat):((cs.map one).map fun y=>y.length).sum=cs.length:=by
 induction cs with
 | nil=>rfl
 | cons c cs a =>
  rw[BX1,BX1,List.sum_cons,a]
  show 1+cs.length=cs.length+1
  lia
theorem AR4 {cs:List Nat}(h:∀c∈cs,97<=c/\c<=122)(h1:1<=cs.length)(b:cs.length<=8):nm (Txt.join "" (cs.map one)):=by
 refine⟨fun c a=>h c (by rw[KO] at a;exact a),?_,?_⟩<;>rw[AQ4,KO]<;>assumption
theorem BK9:∀x∈(["aa","b","aac","ad","dd","abcdefgh","abcdefgi","z"]:List Str),nm x:=by
 intro x a
 simp only[BZ3,BX6,or_false] at a
 rcases a with rfl|rfl|rfl|rfl|rfl|rfl|rfl|rfl<;>exact AY4 _ (by decide +kernel) (by decide +kernel)
theorem BQ2 {to ti:TE3}{T:L6}(h:te σ M fun d M1=>to σ M1 fun o M2=>ti σ M2 fun i M3=>∃a ds j k,o=.ref a/\i=.int k/\M3 a=some (.lst ds)/\ixN ds.length k=some j/\T.nx σ (D9 M3 a (.lst (ds.set j d)))):OT to ti te T σ M:=h
theorem BE2 {n:Nat}{k:Int}(a:0<=k)(h1:k<n):ixN n k=some k.toNat:=by
 obtain⟨i,rfl⟩:=Int.eq_ofNat_of_zero_le a
 unfold ixN
 have:i<n:=by lia
 simp[this]
def kM (M M5:Mem)(k:Addr):Mem:=fun a=>if a=k then M5 k else M a
theorem BE6 {M5:Mem}{k:Addr}:kM M M5 k k=M5 k:=by unfold kM;rw[if_pos rfl]
theorem FP {M5:Mem}{k:Addr}:Same3 k M (kM M M5 k):=fun a h=>by unfold kM;rw[if_neg h]
theorem ZY {k f:Addr}{M5:Mem}{Q:DK}(d:M5 f=some (.lst ds))(b:k≠f)(h:∀a,a≠k->M a≠none->a≠f/\M5 a=M a)(q:Q (.lst ds) (kM M M5 k)):View Q (.ref f) M5 :=
 ⟨.lst ds,_,(Vs.frzL d).trans (.sub (fun a o e=>by
  unfold kM at e
  by_cases c:a=k
  ·subst c;rw[if_pos rfl] at e;rw[I0 b];exact e
  ·rw[if_neg c] at e
   obtain⟨g,i⟩:=h a c (by rw[e];simp)
   rw[I0 g,i];exact e) _),q⟩
theorem AN1 {k:Addr}{d:D}{M5:Mem}{Q:DK}(h:∀a,a≠k->M a≠none->M5 a=M a)(q:Q d (kM M M5 k)):View Q d M5 :=
 View.sub (fun a o e=>by
  unfold kM at e
  by_cases b:a=k
  ·subst b;rw[if_pos rfl] at e;exact e
  ·rw[if_neg b] at e
   rw[h a b (by rw[e];simp)];exact e) q
theorem rd__law_names:∀ds M Q,ON ds M Q->DD {nx:=fun _ M'=>View Q .non M',rt:=View Q} (B8 LY ds) M:=by
 rintro _ M Q ⟨k,x,y,z,rfl,hK,q⟩
 unfold DD
 walk_at "rd"
 refine take hK fun n1 M1 _ _ hK1 e1=>?_
 walk_at "rd"
 refine F6 (by decide) ?_
 walk_at "rd"
 obtain⟨z0,z1⟩:=pm (n:=n1) (m:=8)
 generalize hz:1+n1 % 8=sz
 have sz0:1<=sz/\sz<=8:=by lia
 refine take hK1 fun n2 M2 _ _ hK2 e2=>?_
 walk_at "rd"
 refine F6 (by lia) ?_
 walk_at "rd"
 obtain⟨at0,at1⟩:=pm (n:=n2) (m:=sz) (by lia)
 generalize n2 % sz=g at at0 at1
 refine⟨by lia,by lia,?_⟩
 intro b hb
 have s:k≠b:=fun e=>hK2.ne (by rw[e];exact hb)
 refine⟨fun j t M3=>t.length=j/\(∀e∈t,∃c,e=.str (one c)/\97<=c/\c<=122)/\Kit M3 k x y z/\M3 b=some (.lst t)/\∀a,a≠k->a≠b->M3 a=M2 a,⟨rfl,fun _ h=>(by cases h),hK2.same (B3 s),B0,fun a _ l=>B3 l⟩,?_,?_⟩
 ·rintro j d t M3 hd ⟨Y,u,N,C,v⟩
  obtain⟨rfl,hj2⟩:=rng_at hd
  walk_at "rd"
  refine take N fun n3 M4 _ _ E O=>?_
  walk_at "rd"
  refine F6 (by decide) ?_
  obtain⟨c0,c1⟩:=pm (n:=n3) (m:=26)
  obtain⟨c,hc,S⟩:=AA4 c0 c1
  refine UG (by decide +kernel) hc ?_
  refine⟨by rw[O b (Ne.symm s)];exact C,by rw[BW2];lia,by simp[Y],fun e he=>?_,E.same (B3 s),B0,fun a A G=>by rw[B3 G,O a A];exact v a A G⟩
  rcases List.mem_append.mp he with h|h
  ·exact u e h
  ·cases List.mem_singleton.mp h;exact⟨c,rfl,S⟩
 rintro t M3 ⟨Y,u,N,C,v⟩
 refine⟨C,?_⟩
 obtain⟨i,rfl,H⟩:=BF (f:=fun c=>D.str (one c)) (P:=fun c=>97<=c/\c<=122) u
 have hl:i.length=sz.toNat:=by simpa using Y
 walk_at "rd"
 refine take N fun n3 M4 _ _ E O=>?_
 walk_at "rd"
 intro f Z
 have T:k≠f:=fun e=>E.ne (by rw[e];exact Z)
 have U:M4 b=some (.lst (i.map fun c=>D.str (one c))):=by rw[O b (Ne.symm s)];exact C
 have I:b≠f:=fun e=>by rw[e,Z] at U;cases U
 have same:∀r:Mem,(∀a,a≠k->a≠b->a≠f->r a=M4 a)->∀a,a≠k->M a≠none->r a=M a:=by
  intro r h a l hm
  have B:a≠b:=fun e=>by
   rw[<-e,e2 a l,e1 a l] at hb
   exact hm hb
  have haf:a≠f:=fun e=>by
   rw[<-e,O a l,v a l B,e2 a l,e1 a l] at Z
   exact hm Z
  rw[h a l B haf,O a l,v a l B,e2 a l,e1 a l]
 walk_at "rd"
 refine⟨fun j σ r=>∃(ys:List Str) (i:List Nat) (s7:Option D),σ=[some (.ref k),some (.str "abcdefghijklmnopqrstuvwxyz"),some (.int sz),some (.int g),some (.ref b),some (.int n3),some (.ref f),s7,none]/\ys.length=j/\(∀y∈ys,nm y)/\i.length=sz.toNat/\(∀c∈i,97<=c/\c<=122)/\Kit r k x y z/\r b=some (.lst (i.map fun c=>D.str (one c)))/\r f=some (.lst (ys.map D.str))/\∀a,a≠k->a≠b->a≠f->r a=M4 a,
  ⟨[],i,_,rfl,rfl,fun _ h=>(by cases h),hl,H,E.same (B3 T),by rw[B3 I];exact U,B0,fun a _ _ l=>B3 l⟩,?_,?_⟩
 ·rintro j d σ r hd ⟨ys,i,s7,rfl,V,W,hl,H,J,hb5,p,X⟩
  obtain⟨rfl,Y⟩:=rng_at hd
  have Y:j<8:=Y
  walk_at "rd"
  refine BQ2 ?_
  walk_at "rd"
  refine F6 (.inl (.inl ⟨by decide,by decide⟩)) ?_
  walk_at "rd"
  refine F6 (by decide) ?_
  obtain⟨c0,c1⟩:=pm (n:=n3+3*(j:Int)) (m:=26)
  obtain⟨c,hc,S⟩:=AA4 c0 c1
  refine UG (by decide +kernel) hc ?_
  walk_at "rd"
  refine⟨b,_,g.toNat,g,rfl,rfl,hb5,BE2 at0 (by rw[BU2];lia),?_⟩
  have K:(i.map fun c=>D.str (one c)).set g.toNat (.str (one c))=((i.set g.toNat c).map one).map D.str:=by
   rw[CC6,<-List.map_set];rfl
  have L:∀c'∈i.set g.toNat c,97<=c'/\c'<=122:=fun c' h=>by
   rcases List.mem_or_eq_of_mem_set h with h|rfl
   ·exact H c' h
   ·exact S
  have hl':(i.set g.toNat c).length=sz.toNat:=by rw[List.length_set];exact hl
  have hf6:∀o,D9 r b o f=some (.lst (ys.map D.str)):=fun o=>by rw[B3 (Ne.symm I)];exact p
  walk_at "rd"
  refine⟨.inl ⟨rfl,_,hf6 _⟩,?_⟩
  walk_at "rd"
  refine⟨rfl,?_⟩
  walk_at "rd"
  refine⟨"",b,(i.set g.toNat c).map one,rfl,rfl,by rw[B0];exact congrArg (fun z=>some (MO.lst z)) K,?_,?_⟩
  ·unfold AE7
   rw[AG3,BU2,show(("":Str)).length=0 by decide +kernel]
   lia
  walk_at "rd"
  refine L4 (hf6 _) (by rw[BU2,BW2];lia) ?_
  refine⟨ys++[Txt.join "" ((i.set g.toNat c).map one)],i.set g.toNat c,_,rfl,by simp[V],fun y' hy'=>?_,hl',L,(J.same (B3 s)).same (B3 T),by rw[B3 I,B0];exact congrArg (fun z=>some (MO.lst z)) (K.trans (by rw[CC6];rfl)),by rw[B0];simp,fun a A G h3=>by rw[B3 h3,B3 G];exact X a A G h3⟩
  rcases List.mem_append.mp hy' with h|h
  ·exact W y' h
  ·cases List.mem_singleton.mp h;exact AR4 L (by lia) (by lia)
 ·rintro σ r ⟨ys,i,s7,rfl,V,W,hl,H,J,hb5,p,X⟩
  walk_at "rd"
  refine⟨rfl,⟨_,rfl,rfl,by decide +kernel,by decide +kernel,by decide +kernel,by decide +kernel,?_⟩⟩
  walk_at "rd"
  refine Q1 _ D.str (fun w=>.bl (ys.any (·==w))) (fun _=>true) (by decide +kernel) ?_ ?_
  ·intro w hw M6 R F hs hR hF
   walk_at "rd"
   refine AK5 (ys:=ys) (AL6 (by rw[hs f (by rw[p];simp)];exact p)) ?_
   rw[CI4];exact hR rfl
  rw[List.filter_eq_self.mpr (fun _ _=>rfl)]
  generalize wordsOf _=ws
  refine⟨true,ws.map fun w=>ys.any (·==w),rfl,by rw[CC6];rfl,?_⟩
  walk_at "rd"
  have h5:=same r X
  refine F3 ?_ ?_
  ·walk_at "rd"
   exact AN1 h5 (q ["aa","b","aac","ad","dd","abcdefgh","abcdefgi","z"] _ rfl BK9 (J.same BE6) FP)
  ·walk_at "rd"
   refine ZY p T (fun a A G=>⟨?_,h5 a A G⟩) (q ys _ (by simpa using V) W (J.same BE6) FP)
   rintro rfl
   have:=h5 a A G
   rw[p] at this
   have B:a≠b:=Ne.symm I
   rw[O a A,v a A B,e2 a A,e1 a A] at Z
   exact G Z
end TK
open L3
namespace TK
open PySem L2 L3 MK
section
variable {M M':Mem}{k r:Addr}{ys:List Str}{hs:List (Str×Int)}{z:Int}{Q:DK}
theorem KR.next (h:KR M k r ys hs z){z':Int}(a:Kit M' k (.lst (ys.map D.str)) (.ref r) (.int z'))(e:Same3 k M M'):KR M' k r ys hs z':=⟨a,by rw[e r h.2.2.1];exact h.2.1,h.2.2.1,h.2.2.2⟩
theorem N9 (h:KR M k r ys hs z)(q:∀(n:Int) M',0<=n->n<100->KR M' k r ys hs z->Same3 k M M'->Q (.int n) M'):E4 [.ref k] M Q :=
 take h.1 fun n M' a b c d=>q n M' a b (h.next c d) d
theorem CI (h:KR M k r ys hs z){n:Int}(q:∀x,nm x->Q (.str x) M):C1 (.lst (ys.map D.str)) (.int (n % 8)) M Q:=by
 obtain⟨a,b⟩:=pm (n:=n) (m:=8)
 obtain⟨x,c,d⟩:=AY3 h.2.2.2.nm a (by rw[h.2.2.2.n8];exact b)
 exact S7 c (q x d)
end
theorem rd__law_leaf:∀ds M Q,O5 ds M Q->EV {nx:=fun _ M'=>View Q .non M',rt:=View Q} (B8 PC ds) M:=by
 rintro _ M Q ⟨k,r,w,y,z,rfl,l,q⟩
 unfold EV
 walk_at "rd"
 refine N9 l fun n A _ _ c e=>?_
 walk_at "rd"
 refine F6 (by decide) ?_
 walk_at "rd"
 refine F3 ?_ ?_
 ·walk_at "rd"
  exact View.of (q .none _ trivial rfl rfl c e)
 walk_at "rd"
 refine F3 ?_ ?_
 ·walk_at "rd"
  refine c.1.names ?_
  walk_at "rd"
  refine N9 c fun n o _ _ a f=>?_
  walk_at "rd"
  refine F6 (by decide) ?_
  refine CI a fun x p=>?_
  walk_at "rd"
  exact View.of (q (.var x) _ p rfl rfl a (e.trans f))
 walk_at "rd"
 refine N9 c fun g o _ _ a f=>?_
 walk_at "rd"
 refine F6 (by decide) ?_
 walk_at "rd"
 have d:AM8=10^30:=rfl
 refine F3 ?_ ?_
 ·walk_at "rd"
  refine F6 ⟨by decide,by decide,by decide⟩ ?_
  walk_at "rd"
  refine N9 a fun B M3 s t h u=>?_
  walk_at "rd"
  refine F6 (by decide) ?_
  walk_at "rd"
  refine F6 (.inl (.inl ⟨by decide,by decide⟩)) ?_
  walk_at "rd"
  obtain⟨i,j⟩:=pm (n:=g % 9-4) (m:=2)
  generalize (g % 9-4) % 2=b at i j
  refine F6 (.inl (.inr ⟨by lia,by lia⟩)) ?_
  walk_at "rd"
  refine View.of (q (.num _) _ ?_ rfl rfl h (e.trans (f.trans u)))
  show bnd _
  unfold bnd
  rw[d]
  have v:b=0\/b=1:=by lia
  rcases v with rfl|rfl
  ·constructor<;>(simp;lia)
  ·constructor<;>(simp;lia)
 ·walk_at "rd"
  obtain⟨i,j⟩:=pm (n:=g) (m:=9)
  refine View.of (q (.num _) _ ?_ rfl rfl a (e.trans f))
  show bnd _
  unfold bnd
  rw[d]
  constructor<;>lia
theorem rd__law_two:∀ds M Q,LG ds M Q->II {nx:=fun _ M'=>View Q .non M',rt:=View Q} (B8 SI ds) M:=by
 rintro _ M Q ⟨k,r,l,o,z,a,b,rfl,f,q⟩
 unfold II
 walk_at "rd"
 refine N9 f fun n p _ _ d g=>?_
 walk_at "rd"
 refine F6 (by decide) ?_
 obtain⟨h,i⟩:=pm (n:=n) (m:=5)
 obtain⟨c,j,e⟩:=BJ8 h i
 refine UG (by decide +kernel) j ?_
 walk_at "rd"
 exact View.of (q _ _ e d g)
def HC:List Ex->Exs
 | []=>.nil
 | a::l=>.cons a (HC l)
theorem AF5:∀l:List Ex,eDs (HC l)=l.map eD
 | []=>rfl
 | a::l=>by simp[HC,eDs,AF5 l]
theorem AF6:∀l:List Ex,exl (HC l)=l.length
 | []=>rfl
 | a::l=>by simp[HC,exl,AF6 l]
theorem VZ:∀l:List Ex,(∀e∈l,wf e/\nd e=1/\dp e=1)->wfs (HC l)/\nds (HC l)=l.length/\dps (HC l)<=1
 | [],_=>⟨trivial,rfl,CD4 _⟩
 | a::l,h=>by
  obtain⟨b,c,j⟩:=VZ l fun e d=>h e (BV5 _ d)
  obtain⟨f,g,i⟩:=h a BV7
  refine⟨⟨f,b⟩,?_,?_⟩
  ·simp only[HC,nds,g,c,BU8];lia
  ·simp only[HC,dps,i];lia
theorem rd__law_expression:∀ds M Q,BL ds M Q->S4 {nx:=fun _ M'=>View Q .non M',rt:=View Q} (B8 BN ds) M:=by
 rintro _ M Q ⟨k,r,B,w,z,rfl,J,q⟩
 unfold S4
 walk_at "rd"
 refine N9 J fun n M1 _ _ u H=>?_
 walk_at "rd"
 refine F6 (by decide) ?_
 walk_at "rd"
 have i:∀{t:Mem} {Q2:DK},KR t k r B w z->(∀x M',wf x->nd x=1->dp x=1->KR M' k r B w z->Same3 k t M'->Q2 (eD x) M')->O5 [.ref k] t Q2:=fun h q=>⟨k,r,B,w,z,rfl,h,q⟩
 have y:∀{t:Mem} {Q2:DK} {a b:Ex},KR t k r B w z->(∀s M',sgn s->KR M' k r B w z->Same3 k t M'->Q2 (eD (.op s a b)) M')->LG [.ref k,eD a,eD b] t Q2:=fun h q=>⟨k,r,B,w,z,_,_,rfl,h,q⟩
 refine F3 ?_ ?_
 ·walk_at "rd"
  exact i u fun x t h1 h2 h3 g C=>View.of (q x t h1 (by lia) (by lia) g (H.trans C))
 walk_at "rd"
 refine F3 ?_ ?_
 ·walk_at "rd"
  refine i u fun a t K L N g C=>?_
  walk_at "rd"
  refine i g fun b M3 O S T l D=>?_
  walk_at "rd"
  refine y l fun s I o v E=>?_
  exact View.of (q _ I ⟨o,K,O⟩ (by simp only[nd,L,S];decide) (by simp only[dp,N,T];decide) v (H.trans (C.trans (D.trans E))))
 walk_at "rd"
 refine F3 ?_ ?_
 ·walk_at "rd"
  refine i u fun a t K L N g C=>?_
  walk_at "rd"
  refine i g fun b M3 O S T l D=>?_
  walk_at "rd"
  refine y l fun s I o v E=>?_
  walk_at "rd"
  refine i v fun c M5 c1 c2 c3 U e5=>?_
  walk_at "rd"
  refine y U fun s' M6 V W e6=>?_
  walk_at "rd"
  refine i W fun d M7 d1 d2 d3 X e7=>?_
  walk_at "rd"
  refine y X fun s'' M8 Y Z e8=>?_
  exact View.of (q _ M8 ⟨Y,d1,V,⟨o,K,O⟩,c1⟩ (by simp only[nd,L,S,c2,d2];decide) (by simp only[dp,N,T,c3,d3];decide) Z (H.trans (C.trans (D.trans (E.trans (e5.trans (e6.trans (e7.trans e8))))))))
 walk_at "rd"
 refine u.1.rules ?_
 walk_at "rd"
 refine N9 u fun n2 t _ _ g C=>?_
 walk_at "rd"
 refine g.1.rules ?_
 walk_at "rd"
 refine AV9 g.2.1 ?_
 have hl0:0<w.length:=List.length_pos_iff.mpr J.2.2.2.h0
 rw[BU2]
 refine F6 (by lia) ?_
 obtain⟨p0,p1⟩:=pm (n:=n2) (m:=(w.length:Int)) (by lia)
 obtain⟨d,hd,hdm⟩:=AA (ds:=w.map hD) p0 (by rw[BU2];exact p1)
 obtain⟨h,hm,rfl⟩:=List.mem_map.mp hdm
 obtain⟨hn,hc0,hc3⟩:=J.2.2.2.ho h hm
 refine⟨_,_,g.2.1,hd,?_⟩
 walk_at "rd"
 refine J0 rfl ?_
 walk_at "rd"
 refine⟨by show _<=h.2;lia,by show h.2<_;lia,?_⟩
 refine AB7 (q:=k) (fun _ M=>KR M k r B w z) (fun _ _ e=>∃x,e=eD x/\wf x/\nd x=1/\dp x=1) g g.1.ne (by rw[BU2,CG3,BW2];lia) ?_ ?_ ?_
 ·intro p hp _ M3 I o l
  have hkp:k≠p:=fun e=>g.1.ne (by rw[e];exact hp)
  have hrp:r≠p:=fun e=>by have:=g.2.1;rw[e,hp] at this;cases this
  exact⟨l.1.same (o k hkp),by rw[o r hrp];exact l.2.1,l.2.2⟩
 ·intro j d M3 R F hd l hR
  walk_at "rd"
  exact i l fun x I x1 x2 x3 v E=>hR _ _ ⟨x,rfl,x1,x2,x3⟩ v E
 intro acc M3 A G l D
 obtain⟨xs,rfl,hxs⟩:=BF (f:=eD) (P:=fun x=>wf x/\nd x=1/\dp x=1) fun e he=>by
  obtain⟨_,_,_,x,hx,h2⟩:=AB6 A G e he
  exact⟨x,hx,h2⟩
 have hl2:xs.length=h.2.toNat:=by simpa using A
 walk_at "rd"
 obtain⟨w1,w2,w3⟩:=VZ xs hxs
 rw[<-AF5]
 exact View.of (q (.make h.1 (HC xs)) M3 ⟨hn,by rw[AF6];lia,w1⟩ (by simp only[nd,w2];lia) (by simp only[dp];lia) l (H.trans (C.trans D)))
end TK
open L3
namespace TK
open PySem L2 L3 MK
theorem SF:∀x∈(["any","kind","close","ring","a"]:List Str),nm x:=by
 intro x a
 simp only[BZ3,BX6,or_false] at a
 rcases a with rfl|rfl|rfl|rfl|rfl<;>exact AY4 _ (by decide +kernel) (by decide +kernel)
theorem AX6 {x:Ex}(h:wf x)(h1:nd x=1)(h2:dp x=1):FE (eD x):=MS h (by lia) (by lia)
theorem AK3 {a b:Bool}{F:Bool->Mem->Prop}(e:σ[i]?=some (some (.bl b)))(d:F true M)(c:F false M):if a=true then B1 (A4 i) σ M F else F false M:=by
 cases a with
 | false=>rw[if_neg BU9];exact c
 | true =>
  rw[if_pos rfl]
  refine rd_test.g (OC e ⟨b,rfl,?_⟩)
  cases b<;>assumption
theorem rd__law_plain:∀ds M Q,AK ds M Q->DE {nx:=fun _ M'=>View Q .non M',rt:=View Q} (B8 LZ ds) M:=by
 rintro _ M Q ⟨k,r,v,A,z,w,rfl,J,q⟩
 unfold DE
 have f:∀{B:Mem} {Q2:DK},KR B k r v A z->(∀x M',wf x->nd x=1->dp x=1->KR M' k r v A z->Same3 k B M'->Q2 (eD x) M')->O5 [.ref k] B Q2:=fun h q=>⟨k,r,v,A,z,rfl,h,q⟩
 walk_at "rd"
 refine N9 J fun n M1 _ _ i K=>?_
 walk_at "rd"
 refine F6 (by decide) ?_
 walk_at "rd"
 refine i.1.names ?_
 walk_at "rd"
 refine N9 i fun n2 B _ _ j L=>?_
 walk_at "rd"
 refine F6 (by decide) ?_
 refine CI j fun x p=>?_
 walk_at "rd"
 refine N9 j fun N M3 _ _ s O=>?_
 walk_at "rd"
 refine F6 (by decide) ?_
 obtain⟨P,R⟩:=pm (n:=N) (m:=4)
 obtain⟨wd,S,C⟩:=three (l:=["kind","close","ring","a"]) P (by simpa using R)
 have t:nm wd:=SF wd (BV5 _ C)
 refine S7 S ?_
 walk_at "rd"
 have u:=K.trans (L.trans O)
 refine AK3 rfl ?_ ?_
 ·walk_at "rd"
  exact View.of (q "leave" [] _ (.inr (.inr (.inr (.inr (.inl ⟨rfl,rfl⟩))))) s u)
 walk_at "rd"
 refine⟨k,r,v,A,z,rfl,s,fun o M4 T U V b W=>?_⟩
 have e:=MS T U V
 have c:=u.trans W
 walk_at "rd"
 refine F3 ?_ ?_
 ·walk_at "rd"
  exact View.of (q "fault" [.str wd,eD o] _ (.inr (.inr (.inr (.inr (.inr ⟨rfl,wd,_,rfl,t,e⟩))))) b c)
 walk_at "rd"
 refine F3 ?_ ?_
 ·walk_at "rd"
  exact View.of (q "end" [eD o] _ (.inr (.inl ⟨.inr (.inr rfl),_,rfl,e⟩)) b c)
 walk_at "rd"
 refine F3 ?_ ?_
 ·walk_at "rd"
  exact View.of (q "give" [.str x,eD o] _ (.inl ⟨.inr (.inl rfl),x,_,rfl,p,e⟩) b c)
 walk_at "rd"
 refine F3 ?_ ?_
 ·walk_at "rd"
  exact View.of (q "on" [.str x,eD o] _ (.inl ⟨.inr (.inr rfl),x,_,rfl,p,e⟩) b c)
 walk_at "rd"
 refine F3 ?_ ?_
 ·walk_at "rd"
  exact View.of (q "close" [eD o] _ (.inr (.inl ⟨.inr (.inl rfl),_,rfl,e⟩)) b c)
 walk_at "rd"
 refine F3 ?_ ?_
 ·walk_at "rd"
  exact View.of (q "note" [eD o] _ (.inr (.inl ⟨.inl rfl,_,rfl,e⟩)) b c)
 walk_at "rd"
 refine F3 ?_ ?_
 ·walk_at "rd"
  refine b.1.names ?_
  walk_at "rd"
  refine N9 b fun X Y _ _ d D=>?_
  walk_at "rd"
  refine F6 (by decide) ?_
  refine CI d fun y E=>?_
  walk_at "rd"
  refine f d fun a Z F G H g I=>?_
  walk_at "rd"
  exact View.of (q "ask" [.str x,.str y,eD o,eD a] _ (.inr (.inr (.inl ⟨rfl,x,y,_,_,rfl,p,E,e,AX6 F G H⟩))) g (c.trans (D.trans I)))
 walk_at "rd"
 refine F3 ?_ ?_
 ·walk_at "rd"
  refine b.1.names ?_
  walk_at "rd"
  refine N9 b fun X Y _ _ d D=>?_
  walk_at "rd"
  refine F6 (by decide) ?_
  refine CI d fun y E=>?_
  walk_at "rd"
  refine f d fun a Z F G H g I=>?_
  walk_at "rd"
  exact View.of (q "cast" [.str x,.str y,eD o,.str wd,eD a] _ (.inr (.inr (.inr (.inl ⟨rfl,x,y,_,wd,_,rfl,p,E,t,e,AX6 F G H⟩)))) g (c.trans (D.trans I)))
 walk_at "rd"
 exact View.of (q "let" [.str x,eD o] _ (.inl ⟨.inl rfl,x,_,rfl,p,e⟩) b c)
theorem zero__law_caught:∀ds M Q,¬N5 0 ds M Q:=by rintro _ _ _ ⟨_,_,_,_,_,_,_,_,_,_,⟨_,_,h⟩,_⟩;lia
theorem rd__law_caught:∀n ds M Q,N5 (n+1) ds M Q->AY (N5 n) (N6 n) (N4 n) {nx:=fun _ M'=>View Q .non M',rt:=View Q} (B8 IX ds) M:=by
 rintro m _ M Q ⟨k,r,g,h,z,w,a,rfl,i,j,⟨o,p,dn⟩,q⟩
 unfold AY
 walk_at "rd"
 refine N9 i fun n J _ _ c s=>?_
 walk_at "rd"
 refine F6 (by decide) ?_
 obtain⟨t,u⟩:=pm (n:=n) (m:=5)
 obtain⟨wd,v,e⟩:=three (l:=["any","kind","close","ring","a"]) t (by simpa using u)
 refine S7 v ?_
 walk_at "rd"
 refine c.1.names ?_
 walk_at "rd"
 refine N9 c fun K L _ _ d y=>?_
 walk_at "rd"
 refine F6 (by decide) ?_
 refine CI d fun x A=>?_
 walk_at "rd"
 refine⟨k,r,g,h,z,w,a,rfl,d,j,⟨o,p,by lia⟩,fun b B M3 C D E F G H f I=>?_⟩
 walk_at "rd"
 exact View.of (q wd x b B M3 (SF wd e) A C D E F G H f (s.trans (y.trans I)))
end TK
open L3
namespace TK
open PySem L2 L3 MK
theorem LP:∀l:List Blk,C5 (G5 l)=l
 | []=>rfl
 | b::l=>by rw[G5,C5,LP l]
theorem KZ:∀l:List Blk,(∀b∈l,neB b)->L5 (G5 l)
 | [],_=>trivial
 | b::l,h=>⟨h b BV7,KZ l fun c a=>h c (BV5 _ a)⟩
theorem HU {k r:Addr}{hs:List (Str×Int)}{z z':Int}{T:L6}(h:KR M k r ys hs z)(q:∀M',KR M' k r ys hs z'->Same3 k M M'->T.nx σ M') :
  ∃c a b,dK? (.str "room")=some c/\D.ref k=.ref a/\M a=some (.dct b)/\b.length<BV8/\T.nx σ (D9 M a (.dct (putD b c (.int z')))):=by
 obtain⟨⟨a,f,e,g,i⟩,j,d,l⟩:=h
 refine⟨.inr "room",k,_,rfl,rfl,e,by show 5<_;decide,q _ ⟨⟨a,f,B0,g,i⟩,by rw[B3 d];exact j,d,l⟩ fun _ h=>B3 h⟩
theorem AB5 {b:Blk}(h:b≠.nil):1<=D5 b:=by
 cases b with
 | nil=>exact absurd rfl h
 | cons d r=>have:=T1 d;simp only[D5];lia
def Z4 (q__law_caught q__law_nested q__law_block:Sp3):TS3 :=
  (A8 (C0 6 (A7 BL (A0 (A4 0) A5)))
  (A8 (C0 7 (A7 q__law_block (A0 (A4 0) (A0 (A6 D0 (A4 2) (tC3 (.int 1))) (A0 (A4 3) A5)))))
  (A8 (C0 8 (F0 J9 (A0 (R6 (P1 (A0 (A4 4) A5)) 1 [0,3,2] (K1 0) P6 (A7 q__law_caught (A0 (A4 1) (A0 (A6 D0 (A4 3) (tC3 (.int 1))) (A0 (A4 2) A5))))) A5)))
  (A8 (C0 9 (B9 A5))
  (A8 (C2 (B1 (A6 D7 (A4 5) (tC3 (.int 1)))) (C0 9 (A7 q__law_block (A0 (A4 0) (A0 (A6 D0 (A4 2) (tC3 (.int 1))) (A0 (A4 3) A5))))) B6)
  (A8 (C2 (B1 (A6 S6 (A4 1) (tC3 (.int 3)))) (B4 (B9 (A0 (tC3 (.str "if")) (A0 (A4 6) (A0 (A4 7) (A0 (A4 9) A5)))))) B6)
  (B4 (B9 (A0 (tC3 (.str "try")) (A0 (A4 7) (A0 (A4 8) (A0 (A4 9) A5))))))))))))
def Z3 (q__law_caught q__law_nested q__law_block:Sp3):TS3 :=
  (A8 (C2 (B1 (A6 S6 (A6 E6 (A4 0) (tC3 (.str "room"))) (A6 D0 (A6 D0 (tC3 (.int 1)) (A4 4)) (A4 5)))) (B4 (A7 AK (A0 (A4 0) (A0 (A4 3) A5)))) B6)
  (A8 (S8 (A4 0) (tC3 (.str "room")) (A6 Q8 (A6 Q8 (A6 Q8 (A6 E6 (A4 0) (tC3 (.str "room"))) (tC3 (.int 1))) (A4 4)) (A4 5)))
  (A8 (C2 (B1 (O8 UC S6 (tC3 (.int 3)) (A4 1) (tC3 (.int 5)))) (B4 (B9 (A0 (tC3 (.str "while")) (A0 (A7 BL (A0 (A4 0) A5)) (A0 (A7 q__law_block (A0 (A4 0) (A0 (A6 D0 (A4 2) (tC3 (.int 1))) (A0 (tC3 (.bl true)) A5)))) A5))))) B6) (Z4 q__law_caught q__law_nested q__law_block))))
def IQ (q__law_caught q__law_nested q__law_block:Sp3):TS3 :=
  (A8 (C2 (B1 (A6 S6 (A4 1) (tC3 (.int 3)))) (A8 (C0 5 (F0 EO (A0 (A6 CL (A4 4) (tC3 (.int 1))) A5)))
  (C0 4 (tC3 (.int 0)))) B6)
  (A8 (C2 (B1 (O8 UC S6 (tC3 (.int 3)) (A4 1) (tC3 (.int 5)))) (A8 (C0 4 (tC3 (.int 0)))
  (C0 5 (tC3 (.int 0)))) B6) (Z3 q__law_caught q__law_nested q__law_block)))
theorem NZ {b:Bool}{P R:Prop}(h1:b=true->P)(h2:b=false->R):if b=true then P else R:=by
 cases b with
 | false=>exact h2 rfl
 | true=>exact h1 rfl
theorem b01 (b:Bool):(if b=true then(1:Int) else 0)=0\/(if b=true then(1:Int) else 0)=1:=by cases b<;>simp
theorem zero__law_nested:∀ds M Q,¬N6 0 ds M Q:=by rintro _ _ _ ⟨_,_,_,_,_,_,_,_,_,_,_,⟨_,_,h⟩,_⟩;lia
set_option maxHeartbeats 1000000 in
theorem rd__law_nested:∀n ds M Q,N6 (n+1) ds M Q->AZ (N5 n) (N6 n) (N4 n) {nx:=fun _ M'=>View Q .non M',rt:=View Q} (B8 IY ds) M:=by
 rintro m _ M Q ⟨k,r,A,B,z,w,i,o,rfl,hK,⟨z0,z29⟩,⟨d1,d4,dn⟩,q⟩
 have ed:((i+1:Nat):Int)=(i:Int)+1:=by lia
 have E:∀(more last:Int) (M2:Mem),KR M2 k r A B z->Same3 k M M2->(0<=more/\more<=3)->(last=0\/last=1)->(o<5->more=0)->(3<=o->o<5->last=0)->(5<=o->more=0->last=1) ->
   Z3 (N5 m) (N6 m) (N4 m) {nx:=fun _ M'=>View Q .non M',rt:=View Q} [some (.ref k),some (.int o),some (.int i),some (.bl w),some (.int more),some (.int last),none,none,none,none] M2:=by
  intro more last M2 s O hm hl hif hwh htry
  have hl2:0<=last/\last<=1:=by lia
  unfold Z3
  walk_at "rd"
  refine s.1.room ?_
  walk_at "rd"
  refine U9 (fun hlt=>?_) fun hge=>?_
  ·walk_at "rd"
   refine⟨k,r,A,B,z,w,rfl,s,fun h rs M3 hl3 H e3=>?_⟩
   exact View.of (q (.mk (.leaf h rs) .nil) z M3 ⟨⟨rfl,hl3⟩,trivial⟩ ⟨trivial,trivial⟩ (CD4 _) (by simp only[G2,K9];lia) z0 H (O.trans e3))
  walk_at "rd"
  refine RL ?_
  walk_at "rd"
  refine s.1.room ?_
  walk_at "rd"
  generalize hz1:z-1-more-last=z1
  have P:0<=z1/\z1<=29:=by lia
  refine HU s fun M3 H e3=>?_
  have e03:=O.trans e3
  have U:∀{I:Mem} {Q2:DK} {z2:Int} (w2:Bool),KR I k r A B z2->(0<=z2/\z2<=29)->(∀b z' M',okB b->neB b->b≠.nil->dpB b+1<=5-i->(D5 b:Int)+z'<=1+z2->0<=z'->KR M' k r A B z'->Same3 k I M'->Q2 (.tup (dB b)) M')->N4 m [.ref k,.int ((i:Int)+1),.bl w2] I Q2:=fun w2 h1 h2 q2 =>
   ⟨k,r,A,B,_,w2,i+1,by rw[ed],h1,h2,⟨by lia,by lia,by lia⟩,fun b z' M' a1 a2 a3 a4=>q2 b z' M' a1 a2 a3 (by lia)⟩
  have ex:∀{I:Mem} {Q2:DK} {z2:Int},KR I k r A B z2->(∀x M',FE (eD x)->KR M' k r A B z2->Same3 k I M'->Q2 (eD x) M')->BL [.ref k] I Q2:=fun h q2=>⟨k,r,A,B,_,rfl,h,fun x M' a1 a2 a3=>q2 x M' (MS a1 a2 a3)⟩
  have tail:¬(3<=o/\o<5)->Z4 (N5 m) (N6 m) (N4 m) {nx:=fun _ M'=>View Q .non M',rt:=View Q} [some (.ref k),some (.int o),some (.int i),some (.bl w),some (.int more),some (.int last),none,none,none,none] M3:=by
   intro hk
   unfold Z4
   walk_at "rd"
   refine ex H fun x I hx V e4=>?_
   walk_at "rd"
   refine U w V P fun b z2 M5 b1 b2 b3 b4 b5 b6 u e5=>?_
   walk_at "rd"
   refine⟨by lia,by lia,?_⟩
   intro f hf
   have J:k≠f:=fun e=>u.1.ne (by rw[e];exact hf)
   have W:r≠f:=fun e=>by have:=u.2.1;rw[e,hf] at this;cases this
   refine⟨fun j K R=>∃(t:List (Str×Str)) (p:List Blk) (z3:Int),K=E5 t (p.map tB)/\t.length=j/\p.length=j/\(∀c∈t,nm c.1/\nm c.2)/\(∀b∈p,okB b/\neB b/\b≠.nil/\dpB b+1<=5-i)/\(((p.map D5).sum:Nat):Int)+z3<=j+z2/\(0<=z3/\z3<=29)/\KR R k r A B z3/\R f=some (.lst K)/\∀a,a≠k->a≠f->R a=M5 a,
    ⟨[],[],z2,rfl,rfl,rfl,fun _ h=>(by cases h),fun _ h=>(by cases h),by simp,⟨b6,by lia⟩,⟨u.1.same (B3 J),by rw[B3 W];exact u.2.1,u.2.2⟩,B0,fun a _ h=>B3 h⟩,?_,?_⟩
   ·rintro j d K R hd ⟨t,p,z3,rfl,X,hkl,Y,C,S,L,F,Z,hs6⟩
    obtain⟨rfl,hj⟩:=rng_at hd
    walk_at "rd"
    refine⟨k,r,A,B,z3,w,i+1,by rw[ed],F,L,⟨by lia,by lia,by lia⟩,fun c y b' G M7 c1 c2 c3 c4 c5 c6 c7 c8 v e7=>?_⟩
    have hcat:=W3 t (p.map tB) (by rw[BU2];lia)
    have hc0:=AB5 c5
    have hsum:(((p++[b']).map D5).sum:Nat)=(p.map D5).sum+D5 b':=by simp
    refine⟨by rw[e7 f (Ne.symm J)];exact Z,by rw[hcat,BW2];lia,t++[(c,y)],p++[b'],G,?_,by simp[X],by simp[hkl],fun c' hc'=>?_,fun c' hc'=>?_,by rw[hsum];lia,⟨c8,by lia⟩,⟨v.1.same (B3 J),by rw[B3 W];exact v.2.1,v.2.2⟩,B0,fun a h1 h2=>by rw[B3 h2,e7 a h1];exact hs6 a h1 h2⟩
    ·rw[BX0,List.map_singleton,UW t (p.map tB) c y (tB b') (by rw[BU2];lia)];rfl
    ·rcases List.mem_append.mp hc' with h|h
     ·exact Y c' h
     ·cases List.mem_singleton.mp h;exact⟨c1,c2⟩
    ·rcases List.mem_append.mp hc' with h|h
     ·exact C c' h
     ·cases List.mem_singleton.mp h;exact⟨c3,c4,c5,by lia⟩
   rintro K R ⟨t,p,z3,rfl,X,hkl,Y,C,S,L,F,Z,hs6⟩
   refine⟨Z,?_⟩
   have hcl2:(t.length:Int)=more:=by
    have:t.length=more.toNat:=by simpa using X
    lia
   have T:p.length=t.length:=by lia
   have hcnt2:(((p.map D5).sum:Nat):Int)+z3<=more+z2:=by
    have:(List.map (fun k:Nat=>D.int ↑k) (BW8 more.toNat)).length=more.toNat:=by simp
    rw[this] at S
    lia
   have v:KR (J4 R f) k r A B z3:=⟨F.1.same (I0 J),by rw[I0 W];exact F.2.1,F.2.2⟩
   have e7:Same3 k M5 (J4 R f):=fun a h1=>by
    by_cases haf:a=f
    ·subst haf;rw[Q0,hf]
    ·rw[I0 haf];exact hs6 a h1 haf
   generalize J4 R f=M7 at v e7
   have e07:=e03.trans (e4.trans (e5.trans e7))
   walk_at "rd"
   have fin:∀(l:Blk) (G:Int) (M8:Mem),okB l->neB l->dpB l+1<=5-i->(last=1->l≠.nil)->(D5 l:Int)+G<=last+z3->0<=G->KR M8 k r A B G->Same3 k M7 M8 ->
     A8 (C2 (B1 (A6 S6 (A4 1) (tC3 (.int 3)))) (B4 (B9 (A0 (tC3 (.str "if")) (A0 (A4 6) (A0 (A4 7) (A0 (A4 9) A5)))))) B6)
      (B4 (B9 (A0 (tC3 (.str "try")) (A0 (A4 7) (A0 (A4 8) (A0 (A4 9) A5)))))) {nx:=fun _ M'=>View Q .non M',rt:=View Q}
     [some (.ref k),some (.int o),some (.int i),some (.bl w),some (.int more),some (.int last),some (eD x),some (.tup (dB b)),some (.tup (E5 t (p.map tB))),some (.tup (dB l))] M8:=by
    intro l G M8 l1 l2 l3 l4 l5 l6 N e8
    walk_at "rd"
    refine U9 (fun h3=>?_) fun h3=>?_
    ·walk_at "rd"
     have hm0:=hif (by lia)
     have hk0:p=[]:=BY4 (by lia)
     subst hk0
     refine View.of (q (.mk (.ife (eD x)) (G5 [b,l])) G M8 ⟨⟨rfl,hx⟩,b1,l1,trivial⟩ ⟨⟨b,l,rfl,b3⟩,b2,l2,trivial⟩ ?_ ?_ l6 N (e07.trans e8))
     ·exact AC _ _ (by simp only[BZ3,BX6,or_false];rintro c (rfl|rfl)<;>assumption)
     ·simp only[CH1,List.sum_nil] at hcnt2
      simp only[G5,G2,K9]
      lia
    ·walk_at "rd"
     have hD:dD (.mk (.tr t) (G5 (b::(p++[l]))))=.tup [.str "try",.tup (dB b),.tup (E5 t (p.map tB)),.tup (dB l)]:=by
      show headD (.tr t) (dTs (G5 (b::(p++[l]))))=_
      rw[PV]
      show D.tup [.str "try",tB b,.tup (E5 t ((p++[l]).map tB)),(tB b::(p++[l]).map tB).getD (t.length+1) (.tup [])]=_
      rw[BX0,W4 t (p.map tB) _ (by rw[BU2];lia)]
      congr 5
      simp[CA8,<-T]
      rfl
     rw[<-hD]
     refine View.of (q _ G M8 ⟨⟨by rw[PO];simp;lia,by lia,Y⟩,LC _ ?_⟩ ⟨⟨b,p,l,LP _,T,b3,fun c hc=>(C c hc).2.2.1,fun h0=>l4 (htry (by lia) (by rw[<-hcl2,h0];rfl))⟩,KZ _ ?_⟩ ?_ ?_ l6 N (e07.trans e8))
     ·intro c hc
      rcases BZ3.mp hc with rfl|hc
      ·exact b1
      rcases List.mem_append.mp hc with hc|hc
      ·exact(C c hc).1
      ·cases List.mem_singleton.mp hc;exact l1
     ·intro c hc
      rcases BZ3.mp hc with rfl|hc
      ·exact b2
      rcases List.mem_append.mp hc with hc|hc
      ·exact(C c hc).2.1
      ·cases List.mem_singleton.mp hc;exact l2
     ·refine AC _ _ ?_
      intro c hc
      rcases BZ3.mp hc with rfl|hc
      ·exact b4
      rcases List.mem_append.mp hc with hc|hc
      ·exact(C c hc).2.2.2
      ·cases List.mem_singleton.mp hc;exact l3
     ·simp only[G2]
      rw[GK]
      simp only[BX1,BX0,CH1,List.sum_cons,List.sum_append,List.sum_nil]
      lia
   rcases hl with rfl|rfl
   ·exact B5 rfl (rd_next.g (fin .nil z3 M7 trivial trivial (by simp only[dpB];lia) (fun h=>by cases h) (by simp only[D5];lia) L.1 v .refl))
   ·refine C8 rfl ?_
    walk_at "rd"
    exact U w v L fun l G M8 l1 l2 l3 l4 l5 l6 N e8=>fin l G M8 l1 l2 l4 (fun _=>l3) l5 l6 N e8
  walk_at "rd"
  refine U9 (fun h3=>?_) fun h3=>?_
  ·walk_at "rd"
   refine U9 (fun h5=>?_) fun h5=>?_
   ·walk_at "rd"
    refine ex H fun x I hx V e4=>?_
    walk_at "rd"
    refine U true V P fun b z2 M5 b1 b2 b3 b4 b5 b6 u e5=>?_
    walk_at "rd"
    refine View.of (q (.mk (.whl (eD x)) (G5 [b])) z2 M5 ⟨⟨rfl,hx⟩,b1,trivial⟩ ⟨⟨b,rfl,b3⟩,b2,trivial⟩ ?_ ?_ b6 u (e03.trans (e4.trans e5)))
    ·exact AC _ _ (by simp only[BZ3,BX6,or_false];rintro c rfl;assumption)
    ·simp only[G5,G2,K9]
     lia
   ·walk_at "rd"
    exact tail (by lia)
  ·walk_at "rd"
   exact tail (by lia)
 have mid:∀(more last:Int) (M2:Mem),KR M2 k r A B z->Same3 k M M2->(0<=more/\more<=3)->(last=0\/last=1)->(more=0->last=1) ->
   IQ (N5 m) (N6 m) (N4 m) {nx:=fun _ M'=>View Q .non M',rt:=View Q} [some (.ref k),some (.int o),some (.int i),some (.bl w),some (.int more),some (.int last),none,none,none,none] M2:=by
  intro more last M2 s O hm hl h0
  unfold IQ
  walk_at "rd"
  refine U9 (fun h3=>?_) fun h3=>?_
  ·walk_at "rd"
   refine U9 (fun h=>by lia) fun _=>?_
   walk_at "rd"
   exact E 0 _ M2 s O ⟨by decide,by decide⟩ (b01 _) (fun _=>rfl) (fun h=>by lia) (fun h=>by lia)
  ·walk_at "rd"
   refine U9 (fun _=>?_) fun h=>by lia
   walk_at "rd"
   refine U9 (fun h5=>?_) fun h5=>?_
   ·walk_at "rd"
    exact E 0 0 M2 s O ⟨by decide,by decide⟩ (.inl rfl) (fun _=>rfl) (fun _ _=>rfl) (fun h=>by lia)
   ·walk_at "rd"
    exact E more last M2 s O hm hl (fun h=>by lia) (fun _ h=>by lia) (fun _=>h0)
 unfold AZ
 walk_at "rd"
 refine N9 hK fun n M1 _ _ hK1 e1=>?_
 walk_at "rd"
 refine F6 (by decide) ?_
 walk_at "rd"
 obtain⟨p0,p1⟩:=pm (n:=n) (m:=4)
 refine NZ (fun hb=>?_) fun hb=>?_
 ·exact rd_nil.g (rd_intB.g (mid _ _ M1 hK1 e1 ⟨p0,by lia⟩ (.inr rfl) fun _=>rfl))
 ·walk_at "rd"
  refine N9 hK1 fun n2 M2 _ _ s O=>?_
  walk_at "rd"
  refine F6 (by decide) ?_
  refine rd_c.g (rd_eqI.g ?_)
  refine rd_nil.g (rd_intB.g (mid _ _ M2 s (e1.trans O) ⟨p0,by lia⟩ (b01 _) fun h=>?_))
  rw[h] at hb
  exact absurd hb (by decide)
end TK
open L3
namespace TK
open PySem L2 L3 MK
theorem WB:∀(k:Blk) (d:Deed),neB k->neD d->neB (O1 k d)
 | .nil,d,_,h=>⟨h,trivial⟩
 | .cons x r,d,⟨a,b⟩,h=>⟨a,WB r d b h⟩
theorem zero__law_block:∀ds M Q,¬N4 0 ds M Q:=by rintro _ _ _ ⟨_,_,_,_,_,_,_,_,_,_,⟨_,_,h⟩,_⟩;lia
def IK (q__law_caught q__law_nested q__law_block:Sp3):TS3 :=
  (A8 (S8 (A4 0) (tC3 (.str "room")) (A6 Q8 (A6 E6 (A4 0) (tC3 (.str "room"))) (F0 EO (A0 (A6 CL (A4 4) (tC3 (.int 0))) A5))))
  (A8 (C0 5 (A6 E9 (A7 E4 (A0 (A4 0) A5)) (tC3 (.int 20))))
  (C2 (CY (B1 (A6 S6 (A4 5) (tC3 (.int 9)))) (B1 (A6 D7 (A4 1) (tC3 (.int 5))))) (F4 (R5 "list" E7 (A4 3) (A0 (A7 AK (A0 (A4 0) (A0 (A4 2) A5))) A5))) (F4 (R5 "list" E7 (A4 3) (A0 (A7 q__law_nested (A0 (A4 0) (A0 (A6 Q8 (A4 5) (tC3 (.int 9))) (A0 (A4 1) (A0 (A4 2) A5))))) A5))))))
theorem rd__law_block:∀n ds M Q,N4 (n+1) ds M Q->DA (N5 n) (N6 n) (N4 n) {nx:=fun _ M'=>View Q .non M',rt:=View Q} (B8 LU ds) M:=by
 rintro m _ M Q ⟨k,r,E,F,z,w,c,rfl,G,⟨z0,W⟩,⟨d1,d5,dn⟩,q⟩
 unfold DA
 walk_at "rd"
 intro f X
 have p:k≠f:=fun e=>G.1.ne (by rw[e];exact X)
 have L:r≠f:=fun e=>by have:=G.2.1;rw[e,X] at this;cases this
 have Y:KR (D9 M f (.lst [])) k r E F z:=⟨G.1.same (B3 p),by rw[B3 L];exact G.2.1,G.2.2⟩
 walk_at "rd"
 refine N9 Y fun n M1 _ _ Z e1=>?_
 walk_at "rd"
 refine F6 (by decide) ?_
 walk_at "rd"
 obtain⟨p0,p1⟩:=pm (n:=n) (m:=3)
 refine⟨by lia,by lia,?_⟩
 refine⟨fun j H M2=>∃(b:Blk) (i:Int) (N I:Option D),H=[some (.ref k),some (.int c),some (.bl w),some (.ref f),N,I]/\okB b/\neB b/\dpB b<=5-c/\BU b<=j/\(0<j->b≠.nil)/\(0<=i/\i<=29)/\(j=0->b=.nil/\i=z)/\(0<j->(D5 b:Int)+i<=1+z)/\KR M2 k r E F i/\M2 f=some (.lst (dB b))/\∀a,a≠k->a≠f->M2 a=M a,
  ⟨.nil,z,_,_,rfl,trivial,trivial,CD4 _,BU4 _,fun h=>by lia,⟨z0,W⟩,fun _=>⟨rfl,rfl⟩,fun h=>by lia,Z,by rw[e1 f (Ne.symm p),B0];rfl,fun a A J=>by rw[e1 a A,B3 J]⟩,?_,?_⟩
 ·rintro j d H M2 hd ⟨b,i,N,I,rfl,S,U,b3,b4,b5,hz,b6,V,l,s,t⟩
  obtain⟨rfl,hj⟩:=rng_at hd
  have hj3:j<3:=by
   have:(1+n % 3).toNat<=3:=by lia
   lia
  have x:(j=0\/0<i)->∀T:L6,(∀H M3,(∃(b:Blk) (i:Int) (N I:Option D),H=[some (.ref k),some (.int c),some (.bl w),some (.ref f),N,I]/\okB b/\neB b/\dpB b<=5-c/\BU b<=j+1/\(0<j+1->b≠.nil)/\(0<=i/\i<=29)/\(j+1=0->b=.nil/\i=z)/\(0<j+1->(D5 b:Int)+i<=1+z)/\KR M3 k r E F i/\M3 f=some (.lst (dB b))/\∀a,a≠k->a≠f->M3 a=M a)->T.nx H M3) ->
    IK (N5 m) (N6 m) (N4 m) T [some (.ref k),some (.int c),some (.bl w),some (.ref f),some (.int j),I] M2:=by
   intro hgo T hT
   unfold IK
   walk_at "rd"
   refine RL ?_
   walk_at "rd"
   refine l.1.room ?_
   walk_at "rd"
   generalize O:i-(if decide ((0:Int)<(j:Int))=true then 1 else 0)=z2
   have u:(0<=z2/\z2<=29)/\(j=0->z2=i)/\(0<j->z2+1=i):=by
    rcases CG0 j with h|h
    ·subst h;simp at O;exact⟨by lia,fun _=>by lia,fun h=>by lia⟩
    ·rw[decide_eq_true (by lia),if_pos rfl] at O
     exact⟨by lia,fun h=>by lia,fun _=>by lia⟩
   refine HU l fun M3 hK3 e3=>?_
   walk_at "rd"
   refine N9 hK3 fun n2 M4 _ _ P e4=>?_
   walk_at "rd"
   refine F6 (by decide) ?_
   walk_at "rd"
   have R:=e3.trans e4
   have B:M4 f=some (.lst (dB b)):=by rw[R f (Ne.symm p)];exact s
   have hbl:=AC7 b
   have put:∀(d:Deed) (C:Int) (v:Mem),okD d->neD d->dpD d<=5-c->(G2 d:Int)+C<=1+z2->0<=C->KR v k r E F C->Same3 k M4 v->E7 (.ref f) [dD d] v fun _ M'=>T.nx [some (.ref k),some (.int c),some (.bl w),some (.ref f),some (.int j),some (.int (n2 % 20))] M':=by
    intro d C v a1 a2 a3 a4 a5 o K
    have hf5:v f=some (.lst (dB b)):=by rw[K f (Ne.symm p)];exact B
    have hd0:=T1 d
    refine L4 hf5 (by rw[hbl,BW2];lia) ?_
    refine hT _ _ ⟨O1 b d,C,_,_,rfl,WF b d S a1,WB b d U a2,by rw[VI];lia,by rw[PN];lia,fun _=>BB2 b d,⟨a5,by lia⟩,fun h=>by lia,fun _=>?_,⟨o.1.same (B3 p),by rw[B3 L];exact o.2.1,o.2.2⟩,by rw[B0,AC6],fun a A J=>by rw[B3 J,K a A,R a A];exact t a A J⟩
    rw[PQ]
    rcases CG0 j with h|h
    ·obtain⟨rfl,rfl⟩:=b6 h
     have:=u.2.1 h
     simp only[D5];lia
    ·have:=V h
     have:=u.2.2 h
     lia
   have plain:F4 (R5 "list" E7 (A4 3) (A0 (A7 AK (A0 (A4 0) (A0 (A4 2) A5))) A5)) T [some (.ref k),some (.int c),some (.bl w),some (.ref f),some (.int j),some (.int (n2 % 20))] M4:=by
    walk_at "rd"
    refine⟨.inl ⟨rfl,_,B⟩,?_⟩
    walk_at "rd"
    refine⟨k,r,E,F,z2,w,rfl,P,fun h rs v hl o K=>?_⟩
    walk_at "rd"
    exact put (.mk (.leaf h rs) .nil) z2 v ⟨⟨rfl,hl⟩,trivial⟩ ⟨trivial,trivial⟩ (CD4 _) (by simp only[G2,K9];lia) u.1.1 o K
   refine F3 ?_ ?_
   ·exact rd_iteT.g plain
   ·walk_at "rd"
    refine NZ (fun _=>plain) fun h5=>?_
    have hd4:c<=4:=by
     have:¬((c:Int)=5):=by simpa using h5
     lia
    walk_at "rd"
    refine⟨.inl ⟨rfl,_,B⟩,?_⟩
    walk_at "rd"
    refine⟨k,r,E,F,z2,w,c,_,rfl,P,u.1,⟨d1,hd4,by lia⟩,fun d C v a1 a2 a3 a4 a5 o K=>?_⟩
    walk_at "rd"
    exact put d C v a1 a2 a3 a4 a5 o K
  refine rd_ifs.g (rd_or.g ?_)
  walk_at "rd"
  refine NZ (fun h0=>?_) fun h0=>?_
  ·have:j=0:=by
    have:(j:Int)=0:=by simpa using h0
    lia
   exact rd_iteT.g (x (.inl this) _ fun _ _ h=>h)
  ·have hj0:¬j=0:=by
    have:¬((j:Int)=0):=by simpa using h0
    lia
   walk_at "rd"
   refine l.1.room ?_
   walk_at "rd"
   refine U9 (fun hr=>?_) fun hr=>?_
   ·exact x (.inr hr) _ fun _ _ h=>h
   ·walk_at "rd"
    exact⟨b,i,_,_,rfl,S,U,b3,by lia,fun _=>b5 (by lia),hz,fun h=>by lia,fun _=>V (by lia),l,s,t⟩
 ·rintro H M2 ⟨b,i,N,I,rfl,S,U,b3,b4,b5,hz,b6,V,l,s,t⟩
  have y:0<(List.map (fun k:Nat=>D.int ↑k) (BW8 (1+n % 3).toNat)).length:=by simp;lia
  walk_at "rd"
  refine WX s ?_
  refine AN1 (k:=k) (M:=M) (fun a A J=>t a A fun e=>J (by rw[e];exact X)) (q b i _ S U (b5 y) b3 (V y) hz.1 ⟨l.1.same BE6,?_,l.2.2⟩ FP)
  rw[FP r l.2.2.1];exact G.2.1
end TK
open L3
namespace TK
open PySem L2 L3 MK
theorem BF0 (a b c d e:D):HB [] [(.inr "at",a),(.inr "draws",b),(.inr "names",c),(.inr "rules",d),(.inr "room",e)]=([(.inr "at",a),(.inr "draws",b),(.inr "names",c),(.inr "rules",d),(.inr "room",e)]:List (Key×D)):=by
 rfl
theorem AC5 (ns:List Str)(l h:Option Int):∃a:List Str,cutD (ns.map D.str) l h=a.map D.str :=
 ⟨(ns.drop (HT.sIx (ns.map D.str).length 0 l)).take (HT.sIx (ns.map D.str).length (ns.map D.str).length h-HT.sIx (ns.map D.str).length 0 l),by unfold cutD;rw[<-List.map_drop,<-List.map_take]⟩
theorem rd__law_book:∀ds M Q,spBook ds M Q->ET {nx:=fun _ M'=>View Q .non M',rt:=View Q} (B8 OZ ds) M:=by
 rintro _ M Q ⟨ns,i,rfl,hn,⟨m1,m8⟩,q⟩
 unfold ET
 walk_at "rd"
 refine AV8 ?_
 intro k hk
 refine Y2 ?_
 walk_at "rd"
 refine Y2 ?_
 walk_at "rd"
 refine⟨ns,rfl,hn,fun es N=>?_⟩
 refine Y2 ?_
 walk_at "rd"
 refine Y2 ?_
 walk_at "rd"
 intro r hr
 have c:r≠k:=fun e=>by rw[e,B0] at hr;cases hr
 have hr0:M r=none:=by rw[B3 c] at hr;exact hr
 refine Y2 ?_
 walk_at "rd"
 refine AW0 ?_
 refine⟨by rw[B3 (Ne.symm c),B0],[(.inr "at",.int 0),(.inr "draws",.lst (es.map D.int)),(.inr "names",.lst []),(.inr "rules",.ref r),(.inr "room",.int 0)],rfl,by show 5<=15;decide,?_⟩
 rw[BF0]
 generalize A:D9 (D9 (D9 M k (.dct [])) r (.lst [])) k (.dct [(.inr "at",.int 0),(.inr "draws",.lst (es.map D.int)),(.inr "names",.lst []),(.inr "rules",.ref r),(.inr "room",.int 0)])=M1
 have hK1:Kit M1 k (.lst []) (.ref r) (.int 0):=⟨0,es,by rw[<-A,B0],⟨by decide,by have:=N.1.1;lia⟩,N⟩
 have hr1:M1 r=some (.lst []):=by rw[<-A,B3 c,B0]
 have hs1:∀a,a≠k->a≠r->M1 a=M a:=fun a l t=>by rw[<-A,B3 l,B3 t,B3 l]
 walk_at "rd"
 refine RL ?_
 walk_at "rd"
 refine⟨k,_,_,_,rfl,hK1,fun B M2 hy8 hys hK2 e2=>?_⟩
 walk_at "rd"
 obtain⟨a2,ds2,hm2,ha2,hd2⟩:=hK2
 refine⟨.inr "names",k,_,rfl,rfl,hm2,by show 5<_;decide,?_⟩
 generalize O:D9 M2 k (.dct (putD _ (.inr "names") (.lst (B.map D.str))))=M3
 have hK3:Kit M3 k (.lst (B.map D.str)) (.ref r) (.int 0):=⟨a2,ds2,by rw[<-O,B0];rfl,ha2,hd2⟩
 have e13:Same3 k M1 M3:=fun a h=>by rw[<-O,B3 h];exact e2 a h
 walk_at "rd"
 refine⟨k,_,_,_,rfl,hK3,fun cs M4 hc8 hcs hK4 e4=>?_⟩
 walk_at "rd"
 refine take hK4 fun n M5 _ _ hK5 e5=>?_
 walk_at "rd"
 refine F6 (by lia) ?_
 walk_at "rd"
 obtain⟨p0,p1⟩:=pm (n:=n) (m:=(i:Int)) (by lia)
 generalize n % (i:Int)=rn at p0 p1
 refine⟨by lia,by lia,?_⟩
 have P:=e13.trans (e4.trans e5)
 have hr5:M5 r=some (.lst (([]:List (Str×Int)).map hD)):=by rw[P r c];exact hr1
 refine⟨fun j C R=>∃(hs:List (Str×Int)) (E:Option D),C=[some (.lst (ns.map D.int)),some (.int i),some (.ref k),some (.lst (cs.map D.str)),E,none,none,none]/\hs.length=j/\(∀h∈hs,nm h.1/\0<=h.2/\h.2<=3)/\Kit R k (.lst (B.map D.str)) (.ref r) (.int 0)/\R r=some (.lst (hs.map hD))/\∀a,a≠k->a≠r->R a=M a,
  ⟨[],_,rfl,rfl,fun _ h=>(by cases h),hK5,hr5,fun a l t=>by rw[P a l];exact hs1 a l t⟩,?_,?_⟩
 ·rintro j d C R hd ⟨hs,E,rfl,hl,u,o,g,v⟩
  obtain⟨rfl,hj⟩:=rng_at hd
  walk_at "rd"
  refine o.rules ?_
  walk_at "rd"
  refine⟨.inl ⟨rfl,_,g⟩,?_⟩
  walk_at "rd"
  obtain⟨x,hx,hnx⟩:=AY3 hcs (n:=(j:Int)) (by lia) (by rw[hc8];lia)
  refine S7 hx ?_
  walk_at "rd"
  refine take o fun n2 F _ _ w e7=>?_
  walk_at "rd"
  refine F6 (by decide) ?_
  walk_at "rd"
  obtain⟨c0,c1⟩:=pm (n:=n2) (m:=4)
  have hr7:F r=some (.lst (hs.map hD)):=by rw[e7 r c];exact g
  refine L4 hr7 (by rw[BU2,BW2];lia) ?_
  refine⟨hs++[(x,n2 % 4)],_,rfl,by simp[hl],fun h hh=>?_,w.same (B3 (Ne.symm c)),by rw[B0];simp[hD],fun a l t=>by rw[B3 t,e7 a l];exact v a l t⟩
  rcases List.mem_append.mp hh with h'|h'
  ·exact u h h'
  ·cases List.mem_singleton.mp h';exact⟨hnx,c0,by show n2 % 4<=3;lia⟩
 rintro C R ⟨hs,E,rfl,hl,u,o,g,v⟩
 have S:(hs.length:Int)=1+rn:=by
  have:hs.length=(1+rn).toNat:=by simpa using hl
  lia
 have hF:KF B hs:=⟨hy8,hys,fun h=>by rw[h] at S;simp at S;lia,by lia,u⟩
 walk_at "rd"
 intro f hf
 have p:k≠f:=fun e=>o.ne (by rw[e];exact hf)
 have y:r≠f:=fun e=>by rw[e,hf] at g;cases g
 walk_at "rd"
 refine(o.same (B3 p)).rules ?_
 walk_at "rd"
 refine AK6 (by rw[B3 y];exact g) ?_
 walk_at "rd"
 refine⟨fun j C F=>∃(bk:List Rl) (z:Int) (E s6 s7:Option D),C=[some (.lst (ns.map D.int)),some (.int i),some (.ref k),some (.lst (cs.map D.str)),E,some (.ref f),s6,s7]/\bk.length=j/\(∀x∈bk,rOk x)/\KR F k r B hs z/\F f=some (.lst (bk.map rD))/\∀a,a≠k->a≠r->a≠f->F a=M a,
  ⟨[],0,_,_,_,rfl,rfl,fun _ h=>(by cases h),⟨o.same (B3 p),by rw[B3 y];exact g,c,hF⟩,B0,fun a l t h3=>by rw[B3 h3];exact v a l t⟩,?_,?_⟩
 ·rintro j d C F hd ⟨bk,z,E,s6,s7,rfl,G,H,w,I,J⟩
  have hj:j<hs.length:=by simpa using(List.getElem?_eq_some_iff.mp hd).1
  obtain⟨h,hm,rfl⟩:=List.mem_map.mp (BV2 hd)
  obtain⟨hn1,hc0,hc3⟩:=u h hm
  refine J0 rfl ?_
  walk_at "rd"
  refine RL ?_
  walk_at "rd"
  refine N9 w fun K M8 _ _ hK8 e8=>?_
  walk_at "rd"
  refine F6 (by decide) ?_
  obtain⟨q0,q1⟩:=pm (n:=K) (m:=5)
  have L:∃T:Int,atI [D.int 3,.int 7,.int 12,.int 29,.int 7] (K % 5)=some (.int T)/\0<=T/\T<=29:=by
   have:K % 5=0\/K % 5=1\/K % 5=2\/K % 5=3\/K % 5=4:=by lia
   rcases this with e|e|e|e|e<;>rw[e]<;>exact⟨_,rfl,by decide,by decide⟩
  obtain⟨T,hz2,U,V⟩:=L
  refine S7 hz2 ?_
  walk_at "rd"
  refine HU hK8 fun M9 W e9=>?_
  walk_at "rd"
  have X:=e8.trans e9
  have Y:M9 f=some (.lst (bk.map rD)):=by rw[X f (Ne.symm p)];exact I
  refine⟨.inl ⟨rfl,_,Y⟩,?_⟩
  walk_at "rd"
  refine W.1.names ?_
  walk_at "rd"
  obtain⟨ps,eps⟩:=AC5 B none (some h.2)
  rw[eps]
  refine⟨k,r,B,hs,T,false,1,rfl,W,⟨U,V⟩,⟨by decide,by decide,by decide⟩,fun b z3 M10 b1 b2 b3 b4 b5 b6 s Z=>?_⟩
  walk_at "rd"
  have hf10:M10 f=some (.lst (bk.map rD)):=by rw[Z f (Ne.symm p)];exact Y
  refine L4 hf10 (by rw[BU2,BW2];lia) ?_
  refine⟨bk++[⟨h.1,ps,b⟩],z3,_,_,_,rfl,by simp[G],fun x hx=>?_,⟨s.1.same (B3 p),by rw[B3 y];exact s.2.1,s.2.2⟩,by rw[B0];simp[rD],fun a l t h3=>by rw[B3 h3,Z a l,X a l];exact J a l t h3⟩
  rcases List.mem_append.mp hx with h'|h'
  ·exact H x h'
  ·cases List.mem_singleton.mp h'
   exact⟨b1,b2,b3,b4,by show D5 b<=30;lia⟩
 ·rintro C F ⟨bk,z,E,s6,s7,rfl,G,H,w,I,J⟩
  walk_at "rd"
  refine WX I ?_
  have hbl2:bk.length=hs.length:=by simpa using G
  refine View.keep (M:=M) (fun a ha=>J a (fun e=>ha (by rw[e];exact hk)) (fun e=>ha (by rw[e];exact hr0)) fun e=>ha ?_) (q bk ⟨by lia,by lia⟩ H)
  have hf0:=hf
  rw[v f (Ne.symm p) (Ne.symm y)] at hf0
  rw[e];exact hf0
end TK
namespace CD
open PySem L2 L3 MK K11 K12 GO
def bhN (b:Blk)(p:List Int):C7 :=
 if (BW0 (nxt p) (prB b [] 0)).isSome=true then("deed",some (nxt p))
 else if h:1<p.length then
  if isW (dA b (G7 p))=true then("test",some (G7 p))
  else if hasL (dA b (G7 p))=true then(if NM p=(nC (dA b (G7 p)):Int)+1 then("resume",some (G7 p)) else("last",some (G7 p)))
  else bhN b (G7 p)
 else("end",none)
termination_by p.length
decreasing_by exact K3 h
theorem MM (b:Blk):∀(n:Nat) (p:List Int),p.length<=n->bhF b p=nkD (bhN b p)
 | 0,p,h=>by
  rw[bhF,bhN]
  split
  ·rfl
  ·rw[dif_neg (by lia),dif_neg (by lia)];rfl
 | n+1,p,h=>by
  rw[bhF,bhN]
  split
  ·rfl
  ·by_cases a:1<p.length
   ·rw[dif_pos a,dif_pos a]
    split
    ·rfl
    ·split
     ·split<;>rfl
     ·exact MM b n (G7 p) (by have:=K3 a;lia)
   ·rw[dif_neg a,dif_neg a];rfl
def whA (b:Blk)(p:List Int):Option (List Int):=((ar b p).find? fun x=>isW x.2.1).map (·.1)
def lfT (b:Blk)(p:List Int):Option C7:=(whA b p).map (bhN b)
inductive Row where
 | own (w:Str) (p:List Int)|test (p:List Int) (d:C7)|jump (d:C7)|lv (w:Str) (p:List Int) (d:Option C7)|done
def ldD:Option C7->D
 | none=>.int (-1)
 | some k=>nkD k
def J2:Row->D
 | .own w p=>.tup [.str w,plT p]
 | .test p d=>.tup [.str "test",plT p,nkD d]
 | .jump d=>.tup [.str "jump",nkD d]
 | .lv w p d=>.tup [.str w,plT p,ldD d]
 | .done=>.tup [.str "done"]
def K2 (h:Str):Str :=
 if h=="give" || h=="on" then "stand" else if h=="end" then "end" else if h=="fault" then "fault" else "deed"
def nth (ls:List (List Row))(j:Nat):List Row:=ls.getD j []
def E1:Blk->Bool
 | .nil=>true
 | _=>false
def rowsOf (b:Blk)(p:List Int)(h:Head)(bl:List Blk)(ls:List (List Row)):List Row:=match h with
 | .leaf w _=>if w=="leave" then[.lv "leave" p (lfT b p)] else[.own (K2 w) p]
 | .ife _=>if E1 (bl.getD 1 .nil) then .test p (bhN b p)::nth ls 0 else .test p ("deed",some (p++[1,0]))::(nth ls 0++.jump (bhN b p)::nth ls 1)
 | .whl _=>.test p (bhN b p)::(nth ls 0++[.jump ("test",some p)])
 | .tr cs =>
  let z:=E1 (bl.getD (cs.length+1) .nil)
  let af:C7:=if z then bhN b p else("last",some p)
  .own "open" p::(nth ls 0++((ls.drop 1).take cs.length).flatMap (fun l=>.jump af::l)++(if z then[] else .own "last" p::(nth ls (cs.length+1)++[.lv "resume" p (lfT b p)])))
mutual
def drB (b:Blk):Blk->List Int->Nat->List Row
 | .nil,_,_=>[]
 | .cons d r,ah,i=>drD b d (ah++[(i:Int)])++drB b r ah (i+1)
def drD (b:Blk):Deed->List Int->List Row
 | .mk h bs,p=>rowsOf b p h (C5 bs) (C9 b bs p 0)
def C9 (b:Blk):Bls->List Int->Nat->List (List Row)
 | .nil,_,_=>[]
 | .cons k r,p,j=>drB b k (p++[(j:Int)]) 0::C9 b r p (j+1)
end
def A9 (b:Blk):List Row:=drB b b [] 0++[.done]
def isJ:Row->Bool
 | .jump _=>true
 | _=>false
def C4:Row->C7
 | .own w p=>if w=="last" then("last",some p) else("deed",some p)
 | .test p _=>("deed",some p)
 | .jump d=>d
 | .lv w p _=>if w=="resume" then("resume",some p) else("deed",some p)
 | .done=>("end",none)
def J1 (k:C7):C7:=if k.1=="test" then("deed",k.2) else k
def C6 (n:Nat):List Row->List (C7×D)
 | []=>[]
 | r::l=>if isJ r then C6 (n+1) l else(C4 r,.int n)::C6 (n+1) l
def numOf (L:List Row)(k:C7):D:=(BW0 (J1 k) (C6 0 L)).getD (.int (-1))
def V8 (L:List Row):Row->D
 | .own w p=>.tup [.str w,plT p]
 | .test p d=>.tup [.str "test",plT p,numOf L d]
 | .jump d=>.tup [.str "jump",numOf L d]
 | .lv w p d=>.tup [.str w,plT p,(match d with|none=>.int (-1)|some k=>numOf L k)]
 | .done=>.tup [.str "done"]
abbrev kd (p:List Int):C7:=("deed",some p)
abbrev kt (p:List Int):C7:=("test",some p)
abbrev kl (p:List Int):C7:=("last",some p)
abbrev kr (p:List Int):C7:=("resume",some p)
abbrev ke:C7:=("end",none)
def AL5:Row->C7
 | .jump d=>J1 d
 | r=>C4 r
def At (L:List Row)(i:Nat)(k:C7):Prop:=∃r,L[i]?=some r/\AL5 r=J1 k
theorem W7 (b:Blk):∀(bs:Bls) (p:List Int) (j:Nat),(C9 b bs p j).length=bsl bs
 | .nil,_,_=>rfl
 | .cons k r,p,j=>by simp[C9,bsl,W7 b r]
theorem Q4 (b:Blk):∀(bs:Bls) (p:List Int) (j m:Nat) (bk:Blk),(C5 bs)[m]?=some bk->(C9 b bs p j)[m]?=some (drB b bk (p++[((j+m:Nat):Int)]) 0)
 | .nil,_,_,_,_,h=>by simp[C5] at h
 | .cons k r,p,j,0,bk,h=>by
  have e:k=bk:=by simpa[C5] using h
  subst e
  simp[C9]
 | .cons k r,p,j,m+1,bk,h=>by
  have:=Q4 b r p (j+1) m bk (by simpa[C5] using h)
  simp only[C9,BZ8]
  rw[this,show j+1+m=j+(m+1) by lia]
theorem K6 {b:Blk}{bs:Bls}{m:Nat}{bk:Blk}(h:(C5 bs)[m]?=some bk):nth (C9 b bs p 0) m=drB b bk (p++[(m:Int)]) 0:=by
 unfold nth
 have:=Q4 b bs p 0 m bk h
 rw[BW6] at this
 simp[CA8,this]
theorem BW (b:Blk)(d:Deed)(p:List Int):∃r l,drD b d p=r::l/\AL5 r=kd p/\isJ r=false:=by
 obtain⟨h,bs⟩:=d
 show∃r l,rowsOf b p h (C5 bs) (C9 b bs p 0)=r::l/\_
 cases h with
 | leaf w a =>
  simp only[rowsOf]
  split
  ·exact⟨_,_,rfl,rfl,rfl⟩
  ·refine⟨_,_,rfl,?_,rfl⟩
   simp only[AL5,C4]
   rw[if_neg]
   unfold K2
   split
   ·decide
   split
   ·decide
   split<;>decide
 | ife e=>simp only[rowsOf];split<;>exact⟨_,_,rfl,rfl,rfl⟩
 | whl e=>exact⟨_,_,rfl,rfl,rfl⟩
 | tr c=>exact⟨_,_,rfl,rfl,rfl⟩
def Sub (L:List Row)(s:Nat)(X:List Row):Prop:=∃rest,L.drop s=X++rest
theorem Sub.get {L X:List Row}{s:Nat}(h:Sub L s X){m:Nat}(b:m<X.length):L[s+m]?=X[m]?:=by
 obtain⟨a,e⟩:=h
 have:(L.drop s)[m]?=X[m]?:=by rw[e,BW7 b]
 rwa [CA7] at this
theorem Sub.left {L X Y:List Row}{s:Nat}(h:Sub L s (X++Y)):Sub L s X:=by
 obtain⟨a,e⟩:=h
 exact⟨Y++a,by rw[e,BX5]⟩
theorem Sub.right {L X Y:List Row}{s:Nat}(h:Sub L s (X++Y)):Sub L (s+X.length) Y:=by
 obtain⟨a,e⟩:=h
 refine⟨a,?_⟩
 rw[<-List.drop_drop,e,BX5,List.drop_left]
theorem Sub.tail {L Y:List Row}{r:Row}{s:Nat}(h:Sub L s (r::Y)):Sub L (s+1) Y:=Sub.right (X:=[r]) h
theorem Sub.head {L Y:List Row}{r:Row}{s:Nat}(h:Sub L s (r::Y)):L[s]?=some r:=by
 have:=h.get (m:=0) (by simp)
 simpa using this
theorem At.of {L:List Row}{r:Row}{k:C7}(h:L[i]?=some r)(e:AL5 r=J1 k):At L i k:=⟨r,h,e⟩
structure Seg (b:Blk)(L:List Row)(s:Nat)(d:Deed)(p:List Int):Prop where
 sub:Sub L s (drD b d p)
 nx:At L (s+(drD b d p).length) (bhN b p)
structure BSeg (b:Blk)(L:List Row)(s:Nat)(bk:Blk)(ah:List Int)(E:C7):Prop where
 sub:Sub L s (drB b bk ah 0)
 nx:At L (s+(drB b bk ah 0).length) E
theorem MR (b:Blk):∀(bk:Blk) (ah:List Int) (n i:Nat) (d:Deed),(toL bk)[i]?=some d->∃X Y,drB b bk ah n=X++(drD b d (ah++[((n+i:Nat):Int)])++Y)/\(i+1=(toL bk).length->Y=[])/\(∀d',(toL bk)[i+1]?=some d'->∃Z,Y=drD b d' (ah++[((n+i+1:Nat):Int)])++Z)
 | .nil,_,_,_,_,h=>by simp[toL] at h
 | .cons x r,ah,n,0,d,h=>by
  have e:x=d:=by simpa[toL] using h
  subst e
  refine⟨[],drB b r ah (n+1),by simp[drB],fun c=>?_,fun d' a=>?_⟩
  ·cases r with
   | nil=>rfl
   | cons y z=>simp[toL] at c
  ·cases r with
   | nil=>simp[toL] at a
   | cons y z =>
    have e:y=d':=by simpa[toL] using a
    subst e
    exact⟨drB b z ah (n+1+1),by simp[drB]⟩
 | .cons x r,ah,n,i+1,d,h=>by
  obtain⟨X,Y,e,f,g⟩:=MR b r ah (n+1) i d (by simpa[toL] using h)
  refine⟨drD b x (ah++[(n:Int)])++X,Y,?_,fun c=>f (by simpa[toL] using c),fun d' a=>?_⟩
  ·rw[drB,e,show n+1+i=n+(i+1) by lia];simp
  ·obtain⟨Z,j⟩:=g d' (by simpa[toL] using a)
   exact⟨Z,by rw[j,show n+1+i+1=n+(i+1)+1 by lia]⟩
theorem AP1 (p:List Int):J1 (kd p)=kd p:=rfl
theorem BSeg.deed {b:Blk}{L:List Row}{s:Nat}{bk:Blk}{E:C7}(x:BSeg b L s bk ah E)(h:(toL bk)[i]?=some d)
  (c:i+1=(toL bk).length->J1 (bhN b (ah++[(i:Int)]))=J1 E) (f:i+1<(toL bk).length->bhN b (ah++[(i:Int)])=kd (ah++[((i+1:Nat):Int)])) :
  ∃s',Seg b L s' d (ah++[(i:Int)]):=by
 obtain⟨X,Y,e,p,m⟩:=MR b bk ah 0 i d h
 rw[BW6] at e m
 have j:=x.sub
 rw[e] at j
 refine⟨s+X.length,j.right.left,?_⟩
 have q:i<(toL bk).length:=(List.getElem?_eq_some_iff.mp h).1
 by_cases n:i+1=(toL bk).length
 ·have t:=p n
  subst t
  obtain⟨r,o,k⟩:=x.nx
  refine⟨r,?_,by rw[k,c n]⟩
  rw[e] at o
  simpa[CA1] using o
 ·have a:i+1<(toL bk).length:=by lia
  obtain⟨Z,u⟩:=m _ (BV4 a)
  have g:=j.right.right
  rw[u] at g
  obtain⟨r,l,v,k,_⟩:=BW b (toL bk)[i+1] (ah++[((i+1:Nat):Int)])
  rw[v] at g
  exact⟨r,g.left.head,by rw[k,f a];rfl⟩
def inB (b:Blk)(q:List Int)(d:Deed)(j:Nat):C7 :=
 if isW d=true then kt q else if hasL d=true then(if (j:Int)=(nC d:Int)+1 then kr q else kl q) else bhN b q
theorem GG {b:Blk}:bhN b [(i:Int)]=if i+1<(toL b).length then kd [((i+1:Nat):Int)] else ke:=by
 have a:=(Inb.top (b:=b) (i:=i)).next
 rw[bhN,a]
 by_cases h:i+1<(toL b).length
 ·rw[decide_eq_true h,if_pos rfl,if_pos h]
  show kd (nxt [(i:Int)])=_
  simp[nxt]
 ·rw[decide_eq_false h,if_neg (by decide),if_neg h,dif_neg (by simp)]
theorem GF {b:Blk}{h:Head}{bs:Bls}{bk:Blk}(c:(q,.mk h bs)∈prB b [] 0)(h1:(C5 bs)[j]?=some bk) :
  bhN b (q++[(j:Int),(i:Int)])=if i+1<(toL bk).length then kd (q++[(j:Int),((i+1:Nat):Int)]) else inB b q (.mk h bs) j:=by
 have x:Inb b (q++[(j:Int),(i:Int)]) bk i:=.inner c h1
 rw[bhN,x.next]
 by_cases a:i+1<(toL bk).length
 ·rw[decide_eq_true a,if_pos rfl,if_pos a]
  have e:nxt (q++[(j:Int),(i:Int)])=q++[(j:Int),((i+1:Nat):Int)]:=by
   unfold nxt
   rw[x.last.1,show q++[(j:Int),(i:Int)]=(q++[(j:Int)])++[(i:Int)] by simp,List.dropLast_concat]
   simp
  rw[e]
 ·rw[decide_eq_false a,if_neg (by decide),if_neg a,dif_pos (by simp)]
  rw[(BV q j i).1,(BV q j i).2,GN c]
  rfl
theorem W8 (af:C7):∀(xs:List (List Row)) (m:Nat) (x:List Row),xs[m]?=some x->∃A B,xs.flatMap (fun l=>Row.jump af::l)=A++(.jump af::(x++B))/\(m+1=xs.length->B=[])/\(m+1<xs.length->∃b,B=.jump af::b)
 | [],_,_,h=>by simp at h
 | y::xs,0,x,h=>by
  have e:y=x:=by simpa using h
  subst e
  refine⟨[],xs.flatMap (fun l=>Row.jump af::l),by simp,fun a=>?_,fun a=>?_⟩
  ·have:xs=[]:=BY4 (by simpa using a.symm)
   subst this;rfl
  ·cases xs with
   | nil=>simp at a
   | cons z c=>exact⟨z++c.flatMap (fun l=>Row.jump af::l),by simp⟩
 | y::xs,m+1,x,h=>by
  obtain⟨A,B,e,d,f⟩:=W8 af xs m x (by simpa using h)
  exact⟨.jump af::(y++A),B,by simp[e],fun a=>d (by simpa using a),fun a=>f (by simpa using a)⟩
theorem HE {bk:Blk}(h:E1 bk=true):bk=.nil:=by cases bk<;>first|rfl|cases h
theorem AE {bs:Bls}{z:Blk}(h:(C5 bs)[cs.length+1]?=some z):hasL (.mk (.tr cs) bs)=!E1 z:=by
 show decide (0<nl ((dTs bs).getD (cs.length+1) (.tup [])))=_
 rw[O2]
 have:((C5 bs).map MK.tB).getD (cs.length+1) (.tup [])=MK.tB z:=by simp[CA8,h]
 rw[this]
 cases z with
 | nil=>rfl
 | cons d r=>simp[MK.tB,nl,dB,E1]
theorem Seg.block {b:Blk}{L:List Row}{s:Nat}{h:Head}{bs:Bls}(x:Seg b L s (.mk h bs) q)(ok:hOk h (bsl bs)){bk:Blk}(h1:(C5 bs)[j]?=some bk)(D:bk≠.nil) :
  ∃s' E,BSeg b L s' bk (q++[(j:Int)]) E/\J1 (inB b q (.mk h bs) j)=J1 E:=by
 have N:=K5 bs
 have P:j<(C5 bs).length:=(List.getElem?_eq_some_iff.mp h1).1
 have g:Sub L s (rowsOf b q h (C5 bs) (C9 b bs q 0)):=x.sub
 have o:At L (s+(rowsOf b q h (C5 bs) (C9 b bs q 0)).length) (bhN b q):=x.nx
 have d:=K6 (b:=b) (p:=q) h1
 cases h with
 | leaf w Z=>have:=ok.1;lia
 | ife e =>
  have O:bsl bs=2:=ok.1
  have F:inB b q (.mk (.ife e) bs) j=bhN b q:=rfl
  rw[F]
  simp only[rowsOf] at g o
  by_cases C:E1 ((C5 bs).getD 1 .nil)=true
  ·rw[if_pos C] at g o
   have hj0:j=0:=by
    rcases CD1 0 j with hj|hj
    ·have v:j=1:=by lia
     subst v
     simp only[CA8,h1,CF3] at C
     exact absurd (HE C) D
    ·lia
   subst hj0
   rw[d] at g o
   exact⟨s+1,_,⟨g.tail,by simpa[CA1,CB1,CC0] using o⟩,rfl⟩
  ·rw[if_neg C] at g o
   have hj:j=0\/j=1:=by lia
   rcases hj with rfl|rfl
   ·rw[d] at g
    exact⟨s+1,bhN b q,⟨g.tail.left,.of g.tail.right.head rfl⟩,rfl⟩
   ·rw[d] at g o
    refine⟨_,_,⟨g.tail.right.tail,?_⟩,rfl⟩
    simpa[CA1,CB1,CC0] using o
 | whl e =>
  have O:bsl bs=1:=ok.1
  have hj0:j=0:=by lia
  subst hj0
  have F:inB b q (.mk (.whl e) bs) 0=kt q:=rfl
  rw[F]
  simp only[rowsOf] at g
  rw[d] at g
  exact⟨s+1,kt q,⟨g.tail.left,.of g.tail.right.head rfl⟩,rfl⟩
 | tr f =>
  have O:bsl bs=f.length+2:=ok.1
  have I:f.length+1<(C5 bs).length:=by lia
  have k:=BV4 I
  generalize Q:(C5 bs)[f.length+1]=z at k
  have C:(C5 bs).getD (f.length+1) .nil=z:=by simp[CA8,k]
  have F:inB b q (.mk (.tr f) bs) j=if (!E1 z)=true then(if (j:Int)=(f.length:Int)+1 then kr q else kl q) else bhN b q:=by
   unfold inB
   rw[AE k]
   rfl
  rw[F]
  simp only[rowsOf,C] at g o
  generalize i:(if E1 z=true then bhN b q else kl q)=af
  have a:Sub L s (Row.own "open" q::(nth (C9 b bs q 0) 0++(CB9 (fun l=>Row.jump af::l) (CA6 f.length (BY9 1 (C9 b bs q 0)))++if E1 z=true then[] else Row.own "last" q::(nth (C9 b bs q 0) (f.length+1)++[Row.lv "resume" q (lfT b q)])))):=by
   rw[<-i,<-BX5];exact g
  have r:At L (s+(Row.own "open" q::(nth (C9 b bs q 0) 0++(CB9 (fun l=>Row.jump af::l) (CA6 f.length (BY9 1 (C9 b bs q 0)))++if E1 z=true then[] else Row.own "last" q::(nth (C9 b bs q 0) (f.length+1)++[Row.lv "resume" q (lfT b q)])))).length) (bhN b q):=by
   rw[<-i,<-BX5];exact o
  clear g o
  have J:(CA6 f.length (BY9 1 (C9 b bs q 0))).length=f.length:=by
   rw[BY1,CD5,W7];lia
  generalize G:nth (C9 b bs q 0) 0=R at a r
  have t:∀m,m<f.length->(CA6 f.length (BY9 1 (C9 b bs q 0)))[m]?=(C9 b bs q 0)[m+1]?:=fun m S=>by
   rw[BZ6 S,CA7,CB1]
  generalize T:CA6 f.length (BY9 1 (C9 b bs q 0))=H at a r J t
  have K:At L (s+1+R.length+(CB9 (fun l=>Row.jump af::l) H).length) af:=by
   by_cases c:E1 z=true
   ·rw[if_pos c] at r i
    rw[<-i]
    simpa[CA1,CB1,CC0] using r
   ·rw[if_neg c] at a i
    exact .of a.tail.right.right.head (by rw[<-i];rfl)
  have u:j<=f.length->(if (!E1 z)=true then(if (j:Int)=(f.length:Int)+1 then kr q else kl q) else bhN b q)=af:=by
   intro hj
   rw[<-i]
   by_cases c:E1 z=true
   ·rw[if_pos c,c];rfl
   ·rw[if_neg c,if_pos (by simpa using c),if_neg (by lia)]
  rcases CG0 j with hj0|hj0
  ·subst hj0
   rw[u (by lia)]
   rw[d] at G
   subst G
   refine⟨s+1,af,⟨a.tail.left,?_⟩,rfl⟩
   cases H with
   | nil=>simpa using K
   | cons y ys=>exact .of a.tail.right.left.left.head rfl
  by_cases M:j<=f.length
  ·rw[u M]
   obtain⟨m,rfl⟩:∃m,j=m+1:=⟨j-1,by lia⟩
   have U:H[m]?=some (drB b bk (q++[((m+1:Nat):Int)]) 0):=by
    rw[t m (by lia)]
    have:=Q4 b bs q 0 (m+1) bk h1
    rw[BW6] at this
    exact this
   obtain⟨A,B,e,V,W⟩:=W8 af H m _ U
   rw[e] at a K
   have n:=a.tail.right.left.right
   refine⟨_,af,⟨n.tail.left,?_⟩,rfl⟩
   by_cases X:m+1=H.length
   ·have Y:=V X
    subst Y
    simpa[CA1,CB1,CC0] using K
   ·obtain⟨B',rfl⟩:=W (by lia)
    exact .of n.tail.right.head rfl
  ·have v:j=f.length+1:=by lia
   subst v
   have:bk=z:=by rw[h1] at k;exact Option.some.inj k
   subst this
   have c:¬E1 bk=true:=fun h=>D (HE h)
   rw[if_pos (by simpa using c),if_pos (by lia)]
   rw[if_neg c,d] at a
   have n:=a.tail.right.right.tail
   exact⟨_,kr q,⟨n.left,.of n.right.head rfl⟩,rfl⟩
end CD
variable {L:List CD.Row}{row:CD.Row}
namespace CD
open PySem L2 L3 MK K11 K12 GO
open TK (neD neB L5 hNe)
def Fnd (L:List Row)(k:C7):Prop:=∃(j:Nat) (r:Row),L[j]?=some r/\isJ r=false/\C4 r=J1 k
inductive Right (b:Blk)(L:List Row)(i:Nat):Row->Prop
 | stop {h:Str} {rs:List D} {bs:Bls} {p:List Int}:(p,.mk (.leaf h rs) bs)∈prB b [] 0->(h="end"\/h="fault")->Right b L i (.own h p)
 | deed {h:Str} {rs:List D} {bs:Bls} {p:List Int}:(p,.mk (.leaf h rs) bs)∈prB b [] 0->FX h rs->h≠"leave"->h≠"end"->h≠"fault"->At L (i+1) (bhN b p)->Right b L i (.own (K2 h) p)
 | leave {rs:List D} {bs:Bls} {p:List Int}:(p,.mk (.leaf "leave" rs) bs)∈prB b [] 0->Right b L i (.lv "leave" p (lfT b p))
 | testE {e:D} {bs:Bls} {p:List Int} {z:Blk}:(p,.mk (.ife e) bs)∈prB b [] 0->(C5 bs)[1]?=some z->z≠.nil->At L (i+1) (kd (p++[0,0]))->Right b L i (.test p (kd (p++[1,0])))
 | testI {e:D} {bs:Bls} {p:List Int}:(p,.mk (.ife e) bs)∈prB b [] 0->(C5 bs)[1]?=some .nil->At L (i+1) (kd (p++[0,0]))->Right b L i (.test p (bhN b p))
 | testW {e:D} {bs:Bls} {p:List Int}:(p,.mk (.whl e) bs)∈prB b [] 0->At L (i+1) (kd (p++[0,0]))->Right b L i (.test p (bhN b p))
 | jmp {p:List Int} {d:Deed} {k:C7}:(p,d)∈prB b [] 0->(k=bhN b p\/(k=kt p)\/(k=kl p/\hasL d=true))->Right b L i (.jump k)
 | opn {cs:List (Str×Str)} {bs:Bls} {p:List Int}:(p,.mk (.tr cs) bs)∈prB b [] 0->At L (i+1) (kd (p++[0,0]))->Right b L i (.own "open" p)
 | lst {cs:List (Str×Str)} {bs:Bls} {p:List Int}:(p,.mk (.tr cs) bs)∈prB b [] 0->hasL (.mk (.tr cs) bs)=true->At L (i+1) (kd (p++[((1+cs.length:Nat):Int),0]))->Right b L i (.own "last" p)
 | res {cs:List (Str×Str)} {bs:Bls} {p:List Int}:(p,.mk (.tr cs) bs)∈prB b [] 0->hasL (.mk (.tr cs) bs)=true->At L (i+1) (bhN b p)->Right b L i (.lv "resume" p (lfT b p))
 | done:Right b L i .done
def AllR (b:Blk)(L:List Row)(s:Nat)(X:List Row):Prop:=∀m r,X[m]?=some r->Right b L (s+m) r
theorem AllR.nil {b:Blk}{s:Nat}:AllR b L s []:=fun m r h=>by simp at h
theorem AllR.cons {b:Blk}{L X:List Row}{s:Nat}{x:Row}(h:Right b L s x)(t:AllR b L (s+1) X):AllR b L s (x::X)
 | 0,r,e=>by have:x=r:=by simpa using e
             subst this;exact h
 | m+1,r,e=>by
  have:=t m r (by simpa using e)
  rwa [show s+1+m=s+(m+1) by lia] at this
theorem AllR.app {b:Blk}{X Y:List Row}{s:Nat}(h:AllR b L s X)(t:AllR b L (s+X.length) Y):AllR b L s (X++Y):=fun m r e=>by
 rcases CD1 m X.length with hm|hm
 ·rw[BW7 hm] at e;exact h m r e
 ·rw[BY0 hm] at e
  have:=t _ r e
  rwa [show s+X.length+(m-X.length)=s+m by lia] at this
theorem KG (b:Blk){bk:Blk}(h:bk≠.nil)(ah:List Int)(n:Nat):∃r l,drB b bk ah n=r::l/\AL5 r=kd (ah++[(n:Int)]):=by
 cases bk with
 | nil=>exact absurd rfl h
 | cons d x =>
  obtain⟨r,l,e,a,_⟩:=BW b d (ah++[(n:Int)])
  exact⟨r,l++drB b x ah (n+1),by rw[drB,e];rfl,a⟩
theorem Sub.first {b:Blk}{Y:List Row}{s:Nat}{bk:Blk}(hs:Sub L s (drB b bk ah 0++Y))(h:bk≠.nil):At L s (kd (ah++[0])):=by
 obtain⟨r,l,e,a⟩:=KG b h ah 0
 rw[e] at hs
 exact .of hs.left.head a
section
variable {b:Blk}{L:List Row}{n:Nat}(IH:∀d p s,G2 d<=n->(p,d)∈prB b [] 0->okD d->neD d->Seg b L s d p->AllR b L s (drD b d p))
include IH
theorem BC7 {ah:List Int}{E:C7}:∀(bk:Blk) (m s:Nat),D5 bk<=n->okB bk->neB bk->Sub L s (drB b bk ah m)->At L (s+(drB b bk ah m).length) E ->
  (∀i d,(toL bk)[i]?=some d->(ah++[((m+i:Nat):Int)],d)∈prB b [] 0/\(i+1<(toL bk).length->bhN b (ah++[((m+i:Nat):Int)])=kd (ah++[((m+i+1:Nat):Int)]))/\(i+1=(toL bk).length->J1 (bhN b (ah++[((m+i:Nat):Int)]))=J1 E))->AllR b L s (drB b bk ah m)
 | .nil,m,s,_,_,_,_,_,_=>.nil
 | .cons d r,m,s,u,⟨v,w⟩,⟨x,A⟩,c,e,H=>by
  simp only[D5] at u
  simp only[drB] at c e ⊢
  obtain⟨j,k,l⟩:=H 0 d (by simp[toL])
  simp only[Nat.add_zero,BW6] at j k l
  refine AllR.app (IH d _ s (by lia) j v x ⟨c.left,?_⟩) (BC7 (E:=E) r (m+1) _ (by lia) w A c.right ?_ fun i B C=>?_)
  ·cases r with
   | nil =>
    obtain⟨o,f,g⟩:=e
    exact⟨o,by simpa[drB] using f,by rw[g,l (by simp[toL])]⟩
   | cons y z =>
    obtain⟨o,G,D,F⟩:=KG b (bk:=.cons y z) (by simp) ah (m+1)
    have a:=c.right
    rw[D] at a
    exact .of a.head (by rw[F,k (by simp[toL])];rfl)
  ·simpa[CA1] using e
  ·obtain⟨p,q,t⟩:=H (i+1) B (by simpa[toL] using C)
   rw[show m+(i+1)=m+1+i by lia] at p q t
   refine⟨p,fun h=>?_,fun h=>?_⟩
   ·exact q (by simp only[toL,BU8];lia)
   ·exact t (by simp only[toL,BU8];lia)
theorem BS5 {h:Head}{bs:Bls}{bk:Blk}{E:C7}{s:Nat}(a:(q,.mk h bs)∈prB b [] 0)(h1:(C5 bs)[j]?=some bk)(f:D5 bk<=n)(o:okB bk)(ne:neB bk)
  (hs:Sub L s (drB b bk (q++[(j:Int)]) 0)) (g:At L (s+(drB b bk (q++[(j:Int)]) 0).length) E) (k:J1 (inB b q (.mk h bs) j)=J1 E):AllR b L s (drB b bk (q++[(j:Int)]) 0) :=
 BC7 IH bk 0 s f o ne hs g fun i d l=>by
  have e:∀x:Int,q++[(j:Int)]++[x]=q++[(j:Int),x]:=fun x=>by simp
  rw[e,e,BW6]
  refine⟨U5 a h1 l,fun c=>?_,fun c=>?_⟩
  ·rw[GF a h1,if_pos c]
  ·rw[GF a h1,if_neg (by lia)];exact k
end
theorem X5:∀(bs:Bls) (j:Nat) (bk:Blk),L5 bs->(C5 bs)[j]?=some bk->neB bk
 | .nil,_,_,_,h=>by simp[C5] at h
 | .cons k r,0,bk,⟨a,_⟩,h=>by
  have e:k=bk:=by simpa[C5] using h
  subst e;exact a
 | .cons k r,j+1,bk,⟨_,b⟩,h=>X5 r j bk b (by simpa[C5] using h)
theorem wordOf_end:K2 "end"="end"/\K2 "fault"="fault":=by decide
theorem JT {b:Blk}{L:List Row}{af:C7}(a:∀i,Right b L i (.jump af)):∀(xs:List (List Row)) (s:Nat),(∀(A x B:List Row),xs.flatMap (fun l=>Row.jump af::l)=A++(.jump af::(x++B))->x∈xs->(B=[]\/∃c,B=.jump af::c)->AllR b L (s+A.length+1) x)->AllR b L s (xs.flatMap fun l=>Row.jump af::l)
 | [],s,_=>by simpa using AllR.nil
 | y::xs,s,H=>by
  simp only[CB4]
  have d:=H [] y (xs.flatMap fun l=>Row.jump af::l) (by simp) BV7 (by
   cases xs with
   | nil=>exact .inl rfl
   | cons z f=>exact .inr ⟨z++f.flatMap (fun l=>Row.jump af::l),by simp⟩)
  refine AllR.app (AllR.cons (a s) (by simpa using d)) (JT a xs _ fun A x B e g h=>?_)
  have:=H (.jump af::(y++A)) x B (by simp[e]) (BV5 _ g) h
  rw[show s+(Row.jump af::y).length+A.length+1=s+(Row.jump af::(y++A)).length+1 by simp;lia]
  exact this
theorem BL3 {b:Blk}{L:List Row}:∀(n:Nat) (d:Deed) (p:List Int) (s:Nat),G2 d<=n->(p,d)∈prB b [] 0->okD d->neD d->Seg b L s d p->AllR b L s (drD b d p)
 | 0,d,p,s,hc,_,_,_,_=>by have:=T1 d;lia
 | n+1,.mk h bs,p,s,hc,hp,⟨ok,oks⟩,⟨hne,nes⟩,x=>by
  have IH:=BL3 (b:=b) (L:=L) n
  have hlen:=K5 bs
  have o:Sub L s (rowsOf b p h (C5 bs) (C9 b bs p 0)):=x.sub
  have v:At L (s+(rowsOf b p h (C5 bs) (C9 b bs p 0)).length) (bhN b p):=x.nx
  have g:∀{j:Nat} {bk:Blk} {E:C7} {s:Nat},(C5 bs)[j]?=some bk->Sub L s (drB b bk (p++[(j:Int)]) 0)->At L (s+(drB b bk (p++[(j:Int)]) 0).length) E->J1 (inB b p (.mk h bs) j)=J1 E->AllR b L s (drB b bk (p++[(j:Int)]) 0):=by
   intro j bk E s F o v V
   have P:=G8 bs bk (BV2 F)
   simp only[G2] at hc
   exact BS5 IH hp F (by lia) (P.2.2 oks) (X5 bs j bk nes F) o v V
  have e00:∀j:Nat,p++[(j:Int)]++[0]=p++[(j:Int),0]:=fun j=>by simp
  show AllR b L s (rowsOf b p h (C5 bs) (C9 b bs p 0))
  cases h with
  | leaf w rs =>
   simp only[rowsOf] at o v ⊢
   by_cases W:(w==("leave":Str))=true
   ·rw[if_pos W] at o v ⊢
    have e:w="leave":=eq_of_beq W
    subst e
    exact .cons (.leave hp) .nil
   ·rw[if_neg W] at o v ⊢
    have hw':w≠"leave":=fun e=>W (by rw[e];decide)
    by_cases F:w="end"
    ·subst F;rw[wordOf_end.1];exact .cons (.stop hp (.inl rfl)) .nil
    by_cases h2:w="fault"
    ·subst h2;rw[wordOf_end.2];exact .cons (.stop hp (.inr rfl)) .nil
    exact .cons (.deed hp ok.2 hw' F h2 (by simpa using v)) .nil
  | ife e =>
   obtain⟨a,z,H,Q⟩:=hne
   have I:(C5 bs)[0]?=some a:=by rw[H];rfl
   have F:(C5 bs)[1]?=some z:=by rw[H];rfl
   have S:=K6 (b:=b) (p:=p) I
   have n1:=K6 (b:=b) (p:=p) F
   have hz:(C5 bs).getD 1 .nil=z:=by rw[H];rfl
   simp only[rowsOf,hz,S,n1] at o v ⊢
   by_cases c:E1 z=true
   ·rw[if_pos c] at o v ⊢
    have:=HE c
    subst this
    have f:At L (s+1) (kd (p++[0,0])):=by
     have t:=Sub.first (Y:=[]) (by rw[CA9];exact o.tail) Q
     rw[BX5] at t
     exact t
    exact .cons (.testI hp F f) (g I o.tail (E:=bhN b p) (by simpa[CA1,CB1,CC0] using v) rfl)
   ·rw[if_neg c] at o v ⊢
    have N:z≠.nil:=fun e=>c (by rw[e];rfl)
    have f:At L (s+1) (kd (p++[0,0])):=by simpa using Sub.first o.tail Q
    refine .cons (.testE hp F N f) (.app (g I o.tail.left (E:=bhN b p) (.of o.tail.right.head rfl) rfl) (.cons (.jmp hp (.inl rfl)) (g F o.tail.right.tail (E:=bhN b p) ?_ rfl)))
    simpa[CA1,CB1,CC0] using v
  | whl e =>
   obtain⟨a,H,Q⟩:=hne
   have I:(C5 bs)[0]?=some a:=by rw[H];rfl
   have S:=K6 (b:=b) (p:=p) I
   simp only[rowsOf,S] at o v ⊢
   have f:At L (s+1) (kd (p++[0,0])):=by simpa using Sub.first o.tail Q
   exact .cons (.testW hp f) (.app (g I o.tail.left (E:=kt p) (.of o.tail.right.head rfl) rfl) (.cons (.jmp hp (.inr (.inl rfl))) .nil))
  | tr q =>
   obtain⟨a,ms,z,H,hml,Q,hms,hcz⟩:=hne
   have I:(C5 bs)[0]?=some a:=by rw[H];rfl
   have J:(C5 bs)[q.length+1]?=some z:=by rw[H,<-hml];simp
   have S:=K6 (b:=b) (p:=p) I
   have nz:=K6 (b:=b) (p:=p) J
   have hz:(C5 bs).getD (q.length+1) .nil=z:=by simp[CA8,J]
   have hL:=AE J
   have V:∀j:Nat,inB b p (.mk (.tr q) bs) j=if (!E1 z)=true then(if (j:Int)=(q.length:Int)+1 then kr p else kl p) else bhN b p:=fun j=>by
    unfold inB
    rw[hL]
    rfl
   simp only[rowsOf,hz,S,nz] at o v ⊢
   generalize u:(if E1 z=true then bhN b p else kl p)=af
   have k:Sub L s (Row.own "open" p::(drB b a (p++[((0:Nat):Int)]) 0++(CB9 (fun l=>Row.jump af::l) (CA6 q.length (BY9 1 (C9 b bs p 0)))++if E1 z=true then[] else Row.own "last" p::(drB b z (p++[((q.length+1:Nat):Int)]) 0++[Row.lv "resume" p (lfT b p)])))):=by
    rw[<-u,<-BX5];exact o
   have C:At L (s+(Row.own "open" p::(drB b a (p++[((0:Nat):Int)]) 0++(CB9 (fun l=>Row.jump af::l) (CA6 q.length (BY9 1 (C9 b bs p 0)))++if E1 z=true then[] else Row.own "last" p::(drB b z (p++[((q.length+1:Nat):Int)]) 0++[Row.lv "resume" p (lfT b p)])))).length) (bhN b p):=by
    rw[<-u,<-BX5];exact v
   have G:AllR b L s (Row.own "open" p::(drB b a (p++[((0:Nat):Int)]) 0++(CB9 (fun l=>Row.jump af::l) (CA6 q.length (BY9 1 (C9 b bs p 0)))++if E1 z=true then[] else Row.own "last" p::(drB b z (p++[((q.length+1:Nat):Int)]) 0++[Row.lv "resume" p (lfT b p)])))):=by
    have K:∀m x,(CA6 q.length (BY9 1 (C9 b bs p 0)))[m]?=some x->∃bk,(C5 bs)[m+1]?=some bk/\x=drB b bk (p++[((m+1:Nat):Int)]) 0/\m<q.length:=fun m x R=>by
     have P:m<q.length:=by
      have:=(List.getElem?_eq_some_iff.mp R).1
      rw[BY1] at this
      lia
     rw[BZ6 P,CA7,CB1] at R
     have hlt:m+1<(C5 bs).length:=by rw[H];simp;lia
     have hg:=BV4 hlt
     have:=Q4 b bs p 0 (m+1) _ hg
     rw[BW6] at this
     rw[this] at R
     exact⟨_,hg,(Option.some.inj R).symm,P⟩
    generalize CA6 q.length (BY9 1 (C9 b bs p 0))=X at k C K
    generalize O:drB b a (p++[((0:Nat):Int)]) 0=X0 at k C
    have Z:At L (s+1+X0.length+(CB9 (fun l=>Row.jump af::l) X).length) af:=by
     by_cases c:E1 z=true
     ·rw[if_pos c] at C u
      rw[<-u]
      simpa[CA1,CB1,CC0] using C
     ·rw[if_neg c] at k u
      exact .of k.tail.right.right.head (by rw[<-u];rfl)
    have M:∀j:Nat,j<=q.length->inB b p (.mk (.tr q) bs) j=af:=by
     intro j hj
     rw[V,<-u]
     by_cases c:E1 z=true
     ·rw[if_pos c,c];rfl
     ·rw[if_neg c,if_pos (by simpa using c),if_neg (by lia)]
    have T:∀i,Right b L i (.jump af):=fun i=>by
     refine .jmp hp ?_
     rw[<-u]
     by_cases c:E1 z=true
     ·rw[if_pos c];exact .inl rfl
     ·rw[if_neg c];exact .inr (.inr ⟨rfl,by rw[hL];simpa using c⟩)
    have f:At L (s+1) (kd (p++[0,0])):=by
     have:=k.tail
     rw[<-O] at this
     simpa using Sub.first this Q
    refine .cons (.opn hp f) (.app ?_ (.app (JT T X _ fun A x B e R hB=>?_) ?_))
    ·rw[<-O]
     rw[<-O] at k Z
     refine g I k.tail.left (E:=af) ?_ (by rw[M 0 (by lia)])
     cases X with
     | nil=>simpa using Z
     | cons y ys=>exact .of k.tail.right.left.left.head rfl
    ·obtain⟨m,P,ex⟩:=List.getElem_of_mem R
     obtain⟨bk,hbk,rfl,hmc⟩:=K m x (by rw[BV4 P,ex])
     rw[e] at k Z
     have D:=k.tail.right.left.right.tail
     refine g hbk D.left (E:=af) ?_ (by rw[M (m+1) (by lia)])
     rcases hB with rfl|⟨B',rfl⟩
     ·simpa[CA1,CB1,CC0] using Z
     ·exact .of D.right.head rfl
    ·by_cases c:E1 z=true
     ·rw[if_pos c];exact .nil
     ·rw[if_neg c] at k C ⊢
      have N:z≠.nil:=fun e=>c (by rw[e];rfl)
      have U:hasL (.mk (.tr q) bs)=true:=by rw[hL];simpa using c
      have D:=k.tail.right.right
      have f2:At L (s+1+X0.length+(CB9 (fun l=>Row.jump af::l) X).length+1) (kd (p++[((1+q.length:Nat):Int),0])):=by
       have:=Sub.first D.tail N
       rw[BX5,CB1 q.length 1] at this
       exact this
      refine .cons (.lst hp U f2) (.app (g J D.tail.left (E:=kr p) (.of D.tail.right.head rfl) ?_) (.cons (.res hp U ?_) .nil))
      ·rw[V,if_pos (by simpa using c),if_pos (by lia)]
      ·obtain⟨r,hr,er⟩:=C
       refine⟨r,?_,er⟩
       rw[<-hr]
       congr 1
       simp only[BU8,BU7,BX3]
       lia
   rw[<-BX5] at G
   exact G
section
variable {b:Blk}
theorem TZ (h:(toL b)[i]?=some d):([(i:Int)],d)∈prB b [] 0:=by
 have:=EA b [] 0 i [] d d h .nil
 rw[BW6] at this
 exact this
theorem KJ:Sub (A9 b) 0 (drB b b [] 0):=⟨[.done],rfl⟩
theorem KH:(A9 b)[(drB b b [] 0).length]?=some .done:=by unfold A9;simp
theorem YB:(A9 b).length=(drB b b [] 0).length+1:=by unfold A9;simp
theorem top_bseg:BSeg b (A9 b) 0 b [] ke:=⟨KJ,.of (by rw[BW6];exact KH) rfl⟩
theorem V1 (ok:okB b):∀(n:Nat) (p:List Int) (d:Deed),p.length<=n->(p,d)∈prB b [] 0->∃s,Seg b (A9 b) s d p
 | 0,p,d,hn,hp=>by
  obtain⟨bk,i,x,_⟩:=U4 hp
  exact absurd (BY4 (by lia)) x.last.2
 | n+1,p,d,hn,hp=>by
  obtain⟨bk,i,x,c⟩:=U4 hp
  rcases U0 x with⟨rfl,g⟩|⟨q,h,bs,j,rfl,f,k⟩
  ·rw[g] at c
   refine top_bseg.deed c (fun a=>?_) fun a=>?_
   ·show J1 (bhN b [(i:Int)])=_
    rw[GG,if_neg (by lia)]
   ·show bhN b [(i:Int)]=_
    rw[GG,if_pos a];rfl
  ·obtain⟨s,o⟩:=V1 ok n q (.mk h bs) (by simp at hn;lia) f
   have l:bk≠.nil:=by rintro rfl;simp[toL] at c
   obtain⟨t,E,m,r⟩:=o.block (Y0 ok f).1 k l
   have e:∀y:Int,q++[(j:Int)]++[y]=q++[(j:Int),y]:=fun y=>by simp
   have:=m.deed c (fun a=>by rw[e,GF f k,if_neg (by lia)];exact r) (fun a=>by rw[e,e,GF f k,if_pos a])
   rw[e] at this
   exact this
theorem Z9 (ok:okB b)(ne:neB b):∀i r,(A9 b)[i]?=some r->Right b (A9 b) i r:=by
 intro i r h
 have c:AllR b (A9 b) 0 (drB b b [] 0):=BC7 (n:=D5 b) (BL3 (D5 b)) (E:=ke) b 0 0 (BU4 _) ok ne KJ top_bseg.nx fun i d e=>by
  rw[BW6]
  refine⟨TZ e,fun a=>?_,fun a=>?_⟩
  ·show bhN b [(i:Int)]=_
   rw[GG,if_pos a];rfl
  ·show J1 (bhN b [(i:Int)])=_
   rw[GG,if_neg (by lia)]
 have:=(c.app (Y:=[.done]) (.cons .done .nil)) i r h
 rwa [BW6] at this
theorem T2 (ok:okB b)(f:(p,d)∈prB b [] 0):Fnd (A9 b) (kd p):=by
 obtain⟨s,g⟩:=V1 ok p.length p d (BU4 _) f
 obtain⟨r,l,e,h,a⟩:=BW b d p
 have c:=g.sub
 rw[e] at c
 refine⟨s,r,c.head,a,?_⟩
 rw[AP1,<-h]
 cases r<;>first|rfl|cases a
theorem AP5:Fnd (A9 b) ke:=⟨_,_,KH,rfl,rfl⟩
theorem W9 (ok:okB b)(j:(p,d)∈prB b [] 0)(c:hasL d=true):Fnd (A9 b) (kl p)/\Fnd (A9 b) (kr p):=by
 obtain⟨s,l⟩:=V1 ok p.length p d (BU4 _) j
 obtain⟨h,bs⟩:=d
 cases h with
 | leaf _ _=>cases c
 | ife _=>cases c
 | whl _=>cases c
 | tr a =>
  have n:bsl bs=a.length+2:=(Y0 ok j).1.1
  have g:a.length+1<(C5 bs).length:=by rw[K5];lia
  have e:=BV4 g
  rw[AE e] at c
  have m:(C5 bs).getD (a.length+1) .nil=(C5 bs)[a.length+1]:=by simp[CA8,e]
  have i:Sub (A9 b) s (rowsOf b p (.tr a) (C5 bs) (C9 b bs p 0)):=l.sub
  simp only[rowsOf,m] at i
  have f:¬E1 (C5 bs)[a.length+1]=true:=by simpa using c
  rw[if_neg f,if_neg f] at i
  have k:=i.tail.right
  exact⟨⟨_,_,k.head,rfl,rfl⟩,⟨_,_,k.tail.right.head,rfl,rfl⟩⟩
theorem AP4 {k:C7}(h:Fnd L (J1 k)):Fnd L k:=by
 obtain⟨j,r,a,b,c⟩:=h
 refine⟨j,r,a,b,c.trans ?_⟩
 unfold J1
 split
 ·rfl
 ·rfl
theorem GS (ok:okB b)(a:(p,d)∈prB b [] 0):Fnd (A9 b) (kt p):=AP4 (T2 ok a)
theorem DS (ok:okB b):∀(n:Nat) (p:List Int) (d:Deed),p.length<=n->(p,d)∈prB b [] 0->Fnd (A9 b) (bhN b p)
 | 0,p,d,hn,hp=>by
  obtain⟨bk,i,x,_⟩:=U4 hp
  exact absurd (BY4 (by lia)) x.last.2
 | n+1,p,d,hn,hp=>by
  obtain⟨bk,i,x,k⟩:=U4 hp
  rcases U0 x with⟨rfl,g⟩|⟨q,h,bs,j,rfl,a,e⟩
  ·rw[GG]
   split
   ·rename_i c
    exact T2 ok (TZ (BV4 c))
   ·exact AP5
  ·rw[GF a e]
   split
   ·rename_i c
    exact T2 ok (U5 a e (BV4 c))
   ·unfold inB
    split
    ·exact GS ok a
    ·split
     ·rename_i f
      split
      ·exact(W9 ok a f).2
      ·exact(W9 ok a f).1
     ·exact DS ok n q _ (by simp at hn;lia) a
theorem AE1 (ok:okB b)(a:(p,d)∈prB b [] 0){k:C7}(h:lfT b p=some k):Fnd (A9 b) k:=by
 unfold lfT whA at h
 rw[Option.map_map] at h
 obtain⟨x,c,rfl⟩:=Option.map_eq_some_iff.mp h
 have e:=BE p.length (BU4 _) a x (CF4 c)
 exact DS ok _ x.1 x.2.1 (BU4 _) e.at_
end
end CD
namespace CD
open PySem L2 L3 MK K11 K12 GO
def keys (X:List Row):List C7:=(X.filter fun r=>!isJ r).map C4
theorem K4 (X Y:List Row):keys (X++Y)=keys X++keys Y:=by simp[keys]
theorem L0 (r:Row)(X:List Row):keys (r::X)=if isJ r then keys X else C4 r::keys X:=by
 unfold keys
 cases h:isJ r<;>simp[h]
theorem X1:keys []=[]:=rfl
theorem DU (p:List Int)(d:C7)(X:List Row):keys (.test p d::X)=kd p::keys X:=by rw[L0];rfl
theorem GZ (w:Str)(p:List Int)(X:List Row):keys (.own w p::X)=C4 (.own w p)::keys X:=by rw[L0];rfl
theorem VW (w:Str)(p:List Int)(d:Option C7)(X:List Row):keys (.lv w p d::X)=C4 (.lv w p d)::keys X:=by rw[L0];rfl
theorem KQ (d:C7)(X:List Row):keys (.jump d::X)=keys X:=by rw[L0];rfl
theorem DT (af:C7):∀xs:List (List Row),keys (xs.flatMap fun l=>Row.jump af::l)=xs.flatMap keys
 | []=>rfl
 | x::xs=>by rw[CB4,CB4,K4,DT af xs,L0];rfl
def Ext (p:List Int)(ks:List C7):Prop:=∀k∈ks,∃r,k.2=some (p++r)
theorem O3 {l k:List α}(h1:l.Nodup)(h2:k.Nodup)(c:∀a∈l,a∉k):(l++k).Nodup :=
 List.nodup_append.mpr ⟨h1,h2,fun a d b f e=>c a d (by rw[e];exact f)⟩
theorem GQ {i j:Int}(a:i≠j){k:C7}(h1:∃r,k.2=some (p++[i]++r))(h2:∃r,k.2=some (p++[j]++r)):False:=by
 obtain⟨r,c⟩:=h1
 obtain⟨d,b⟩:=h2
 rw[c] at b
 simp at b
 exact a b.1
theorem J3 {j:Int}{k:C7}(h1:k.2=some p)(h2:∃r,k.2=some (p++[j]++r)):False:=by
 obtain⟨r,e⟩:=h2
 rw[h1] at e
 have:=congrArg CB7 (Option.some.inj e)
 simp at this
theorem flat_keys {p:List Int}:∀(xs:List (List Row)) (a:Nat),(∀m X,xs[m]?=some X->Ext (p++[((a+m:Nat):Int)]) (keys X)/\(keys X).Nodup)->(∀k∈xs.flatMap keys,∃m,m<xs.length/\∃r,k.2=some (p++[((a+m:Nat):Int)]++r))/\(xs.flatMap keys).Nodup
 | [],a,_=>⟨fun k h=>by simp at h,by simp⟩
 | x::xs,a,H=>by
  obtain⟨b,f⟩:=H 0 x (by simp)
  obtain⟨c,g⟩:=flat_keys xs (a+1) fun m X h=>by
   have:=H (m+1) X (by simpa using h)
   rwa [show a+(m+1)=a+1+m by lia] at this
  rw[CB4]
  refine⟨fun k i=>?_,O3 f g fun k j l=>?_⟩
  ·rcases List.mem_append.mp i with h|h
   ·exact⟨0,by simp,b k h⟩
   ·obtain⟨m,d,r,e⟩:=c k h
    exact⟨m+1,by simpa using d,r,by rw[e,show a+1+m=a+(m+1) by lia]⟩
  ·obtain⟨m,d,y⟩:=c k l
   exact GQ (show((a+0:Nat):Int)≠((a+1+m:Nat):Int) by lia) (b k j) y
theorem AR8 (w:Str)(p:List Int):(C4 (.own w p)).2=some p:=by simp only[C4];split<;>rfl
mutual
theorem VU (b:Blk):∀(bk:Blk) (ah:List Int) (n:Nat),(∀k∈keys (drB b bk ah n),∃m:Nat,n<=m/\∃r,k.2=some (ah++[(m:Int)]++r))/\(keys (drB b bk ah n)).Nodup
 | .nil,ah,n=>⟨fun k h=>by simp[drB,keys] at h,by simp[drB,keys]⟩
 | .cons d r,ah,n=>by
  obtain⟨a,e⟩:=BN0 b d (ah++[(n:Int)])
  obtain⟨c,f⟩:=VU b r ah (n+1)
  simp only[drB,K4]
  refine⟨fun k g=>?_,O3 e f fun k i j=>?_⟩
  ·rcases List.mem_append.mp g with h|h
   ·exact⟨n,BU4 _,a k h⟩
   ·obtain⟨m,l,x⟩:=c k h
    exact⟨m,by lia,x⟩
  ·obtain⟨m,l,x⟩:=c k j
   exact GQ (show(n:Int)≠m by lia) (a k i) x
termination_by structural bk=>bk
theorem BN0 (b:Blk):∀(d:Deed) (p:List Int),Ext p (keys (drD b d p))/\(keys (drD b d p)).Nodup
 | .mk h bs,p=>by
  have C:=AE9 b bs p 0
  have i:∀m:Nat,Ext (p++[(m:Int)]) (keys (nth (C9 b bs p 0) m))/\(keys (nth (C9 b bs p 0) m)).Nodup:=fun m=>by
   unfold nth
   cases h:(C9 b bs p 0)[m]? with
   | none=>simp[CA8,h,keys,Ext]
   | some X =>
    have:=C m X h
    rw[BW6] at this
    simpa[CA8,h] using this
  have l:∀{m:Nat} {k:C7},(∃r,k.2=some (p++[(m:Int)]++r))->∃r,k.2=some (p++r):=fun⟨r,e⟩=>⟨_,by rw[e,BX5]⟩
  have a:∀{k:C7},k.2=some p->∃r,k.2=some (p++r):=fun e=>⟨[],by rw[e,CA9]⟩
  show Ext p (keys (rowsOf b p h (C5 bs) (C9 b bs p 0)))/\(keys (rowsOf b p h (C5 bs) (C9 b bs p 0))).Nodup
  cases h with
  | leaf w K =>
   simp only[rowsOf]
   split
   ·rw[VW,X1]
    exact⟨fun k c=>by cases List.mem_singleton.mp c;exact a rfl,by simp⟩
   ·rw[GZ,X1]
    exact⟨fun k c=>by cases List.mem_singleton.mp c;exact a (AR8 _ _),by simp⟩
  | ife e =>
   obtain⟨g,q⟩:=i 0
   obtain⟨v,E⟩:=i 1
   simp only[rowsOf]
   split
   ·rw[DU]
    exact⟨fun k c=>(BZ3.mp c).elim (fun e=>by subst e;exact a rfl) fun h=>l (g k h),List.nodup_cons.mpr ⟨fun h=>J3 rfl (g _ h),q⟩⟩
   ·rw[DU,K4,KQ]
    refine⟨fun k c=>(BZ3.mp c).elim (fun e=>by subst e;exact a rfl) fun h=>(List.mem_append.mp h).elim (fun h=>l (g k h)) fun h=>l (v k h),List.nodup_cons.mpr ⟨fun h=>(List.mem_append.mp h).elim (fun h=>J3 rfl (g _ h)) fun h=>J3 rfl (v _ h),O3 q E fun k j n=>GQ (by decide) (g k j) (v k n)⟩⟩
  | whl e =>
   obtain⟨g,q⟩:=i 0
   simp only[rowsOf]
   rw[DU,K4,KQ,X1,CA9]
   exact⟨fun k c=>(BZ3.mp c).elim (fun e=>by subst e;exact a rfl) fun h=>l (g k h),List.nodup_cons.mpr ⟨fun h=>J3 rfl (g _ h),q⟩⟩
  | tr f =>
   obtain⟨g,q⟩:=i 0
   obtain⟨s,D⟩:=i (f.length+1)
   obtain⟨F,G⟩:=flat_keys (p:=p) ((BY9 1 (C9 b bs p 0)).take f.length) 1 fun m X h=>by
    have t:m<f.length:=by
     have:=(List.getElem?_eq_some_iff.mp h).1
     rw[BY1] at this
     lia
    rw[BZ6 t,CA7] at h
    have:=C (1+m) X h
    rwa [BW6] at this
   have x:∀k∈((BY9 1 (C9 b bs p 0)).take f.length).flatMap keys,∃m:Nat,1<=m/\m<=f.length/\∃r,k.2=some (p++[(m:Int)]++r):=fun k c=>by
    obtain⟨m,t,y⟩:=F k c
    rw[BY1] at t
    exact⟨1+m,by lia,by lia,y⟩
   simp only[rowsOf]
   rw[GZ,K4,K4,DT]
   have A:Ext p (keys (nth (C9 b bs p 0) 0)++((BY9 1 (C9 b bs p 0)).take f.length).flatMap keys)/\(keys (nth (C9 b bs p 0) 0)++((BY9 1 (C9 b bs p 0)).take f.length).flatMap keys).Nodup/\(∀k∈keys (nth (C9 b bs p 0) 0)++((BY9 1 (C9 b bs p 0)).take f.length).flatMap keys,∃m:Nat,m<=f.length/\∃r,k.2=some (p++[(m:Int)]++r)):=by
    refine⟨fun k c=>?_,O3 q G fun k j n=>?_,fun k c=>?_⟩
    ·rcases List.mem_append.mp c with h|h
     ·exact l (g k h)
     ·obtain⟨m,_,_,y⟩:=x k h;exact l y
    ·obtain⟨m,L,_,y⟩:=x k n
     exact GQ (show((0:Nat):Int)≠(m:Int) by lia) (g k j) y
    ·rcases List.mem_append.mp c with h|h
     ·exact⟨0,CD4 _,g k h⟩
     ·obtain⟨m,_,j,y⟩:=x k h;exact⟨m,j,y⟩
   obtain⟨z,B,u⟩:=A
   generalize keys (nth (C9 b bs p 0) 0)++((BY9 1 (C9 b bs p 0)).take f.length).flatMap keys=Y at z B u
   have H:C4 (.own "open" p)=kd p:=rfl
   rw[H]
   split
   ·rw[X1,CA9]
    exact⟨fun k c=>(BZ3.mp c).elim (fun e=>by subst e;exact a rfl) fun h=>z k h,List.nodup_cons.mpr ⟨fun h=>by obtain⟨m,_,y⟩:=u _ h;exact J3 rfl y,B⟩⟩
   ·have I:keys (Row.own "last" p::(nth (C9 b bs p 0) (f.length+1)++[Row.lv "resume" p (lfT b p)]))=kl p::(keys (nth (C9 b bs p 0) (f.length+1))++[kr p]):=by
     rw[GZ,K4,VW];rfl
    rw[I]
    generalize keys (nth (C9 b bs p 0) (f.length+1))=Z at s D
    have J:(kl p::(Z++[kr p])).Nodup:=by
     refine List.nodup_cons.mpr ⟨fun h=>?_,O3 D (by simp) fun k j n=>?_⟩
     ·rcases List.mem_append.mp h with h|h
      ·exact J3 rfl (s _ h)
      ·cases List.mem_singleton.mp h
     ·cases List.mem_singleton.mp n
      exact J3 rfl (s _ j)
    have o:∀k∈kl p::(Z++[kr p]),k=kl p\/k∈Z\/k=kr p:=fun k c=>by
     simpa[or_assoc] using c
    refine⟨fun k c=>?_,List.nodup_cons.mpr ⟨fun h=>?_,O3 B J fun k j n=>?_⟩⟩
    ·rcases BZ3.mp c with e|h
     ·subst e;exact a rfl
     rcases List.mem_append.mp h with h|h
     ·exact z k h
     ·rcases o k h with e|h|e
      ·subst e;exact a rfl
      ·exact l (s k h)
      ·subst e;exact a rfl
    ·rcases List.mem_append.mp h with h|h
     ·obtain⟨m,_,y⟩:=u _ h;exact J3 rfl y
     ·rcases o _ h with e|h|e
      ·cases e
      ·exact J3 rfl (s _ h)
      ·cases e
    ·obtain⟨m,t,y⟩:=u k j
     rcases o k n with e|h|e
     ·subst e;exact J3 rfl y
     ·exact GQ (show(m:Int)≠((f.length+1:Nat):Int) by lia) y (s k h)
     ·subst e;exact J3 rfl y
termination_by structural d=>d
theorem AE9 (b:Blk):∀(bs:Bls) (p:List Int) (j:Nat) (m:Nat) (X:List Row),(C9 b bs p j)[m]?=some X->Ext (p++[((j+m:Nat):Int)]) (keys X)/\(keys X).Nodup
 | .nil,p,j,m,X,h=>by simp[C9] at h
 | .cons k r,p,j,m,X,h=>by
  have a:=VU b k (p++[(j:Int)]) 0
  have c:=AE9 b r p (j+1)
  cases m with
  | zero =>
   have e:drB b k (p++[(j:Int)]) 0=X:=by simpa[C9] using h
   subst e
   refine⟨fun x d=>?_,a.2⟩
   obtain⟨m,_,f,e⟩:=a.1 x d
   exact⟨(m:Int)::f,by rw[e];simp⟩
  | succ m =>
   have:=c m X (by simpa[C9] using h)
   rwa [show j+1+m=j+(m+1) by lia] at this
termination_by structural bs=>bs
end
end CD
namespace CD
open PySem L2 L3 MK K11 K12 GO
open TK (neD neB L5 hNe)
theorem CJ:∀(L:List Row) (n:Nat),(C6 n L).map (·.1)=keys L
 | [],_=>rfl
 | r::L,n=>by
  have a:=CJ L (n+1)
  simp only[C6,L0]
  split
  ·exact a
  ·simp[a]
theorem T3:∀(L:List Row) (n j:Nat) (r:Row),(keys L).Nodup->L[j]?=some r->isJ r=false->BW0 (C4 r) (C6 n L)=some (.int ((n+j:Nat):Int))
 | [],_,_,_,_,h,_=>by simp at h
 | x::L,n,0,r,hn,h,hj=>by
  have e:x=r:=by simpa using h
  subst e
  simp only[C6]
  rw[if_neg (by rw[hj];decide)]
  simp[BW0]
 | x::L,n,j+1,r,hn,h,hj=>by
  have a:L[j]?=some r:=by simpa using h
  rw[L0] at hn
  simp only[C6]
  by_cases c:isJ x=true
  ·rw[if_pos c] at hn ⊢
   rw[T3 L (n+1) j r hn a hj]
   congr 3;lia
  ·rw[if_neg c] at hn ⊢
   obtain⟨f,g⟩:=List.nodup_cons.mp hn
   have d:C4 r∈keys L:=List.mem_map.mpr ⟨r,List.mem_filter.mpr ⟨BV2 a,by rw[hj];rfl⟩,rfl⟩
   have b:(C4 r==C4 x)=false:=by
    apply beq_eq_false_iff_ne.mpr
    intro e
    rw[e] at d
    exact f d
   simp only[BW0,b]
   rw[T3 L (n+1) j r g a hj]
   congr 3;lia
theorem G0 (b:Blk):(keys (A9 b)).Nodup:=by
 unfold A9
 rw[K4]
 obtain⟨c,d⟩:=VU b b [] 0
 refine O3 d (by simp[keys,isJ]) fun k f a=>?_
 have e:k=ke:=by simpa[keys,isJ,C4] using a
 subst e
 obtain⟨m,_,r,e⟩:=c _ f
 cases e
theorem NO {b:Blk}{k:C7}(h:Fnd (A9 b) k):∃(j:Nat) (r:Row),BW0 (J1 k) (C6 0 (A9 b))=some (.int (j:Int))/\numOf (A9 b) k=.int (j:Int)/\(A9 b)[j]?=some r/\isJ r=false/\C4 r=J1 k:=by
 obtain⟨j,r,a,c,d⟩:=h
 have:=T3 (A9 b) 0 j r (G0 b) a c
 rw[d,BW6] at this
 exact⟨j,r,this,by unfold numOf;rw[this];rfl,a,c,d⟩
theorem QD (af:C7):∀(xs:List (List Row)) (cs:List Nat),xs.length=cs.length->(∀(m:Nat) x c,xs[m]?=some x->cs[m]?=some c->x.length+2<=3*c)->(xs.flatMap fun l=>Row.jump af::l).length+xs.length<=3*cs.sum
 | [],[],_,_=>by simp
 | x::xs,c::cs,hl,H=>by
  have d:=QD af xs cs (by simpa using hl) fun m x c a b=>H (m+1) x c (by simpa using a) (by simpa using b)
  have:=H 0 x c (by simp) (by simp)
  simp only[CB4,BU7,BU8,List.sum_cons]
  lia
 | [],_::_,h,_=>by simp at h
 | _::_,[],h,_=>by simp at h
section
variable {b:Blk}{n:Nat}(IH:∀d p,G2 d<=n->okD d->neD d->(drD b d p).length+2<=3*G2 d)
include IH
theorem AQ2:∀(bk:Blk) (ah:List Int) (m:Nat),D5 bk<=n->okB bk->neB bk->(drB b bk ah m).length+2*BU bk<=3*D5 bk
 | .nil,_,_,_,_,_=>by simp[drB,BU,D5]
 | .cons d r,ah,m,a,⟨c,e⟩,⟨f,g⟩=>by
  simp only[D5] at a
  have h:=IH d (ah++[(m:Int)]) (by lia) c f
  have i:=AQ2 r ah (m+1) (by lia) e g
  simp only[drB,BU,D5,BU7]
  lia
theorem BN1 {bk:Blk}(a:bk≠.nil)(ah:List Int)(c:D5 bk<=n)(o:okB bk)(ne:neB bk):(drB b bk ah 0).length+2<=3*D5 bk:=by
 have:=AQ2 IH bk ah 0 c o ne
 have:1<=BU bk:=by cases bk with|nil=>exact absurd rfl a|cons d r=>simp[BU]
 lia
end
theorem KD:∀bs:Bls,K9 bs=((C5 bs).map D5).sum
 | .nil=>rfl
 | .cons b r=>by simp[K9,C5,KD r]
theorem AQ3 {b:Blk}:∀(n:Nat) (d:Deed) (p:List Int),G2 d<=n->okD d->neD d->(drD b d p).length+2<=3*G2 d
 | 0,d,p,hc,_,_=>by have:=T1 d;lia
 | n+1,.mk h bs,p,hc,⟨ok,oks⟩,⟨hne,nes⟩=>by
  have IH:=AQ3 (b:=b) n
  simp only[G2] at hc
  have f:∀{j:Nat} {bk:Blk},(C5 bs)[j]?=some bk->bk≠.nil->(nth (C9 b bs p 0) j).length+2<=3*D5 bk:=by
   intro j bk l F
   have r:=G8 bs bk (BV2 l)
   rw[K6 l]
   exact BN1 IH F _ (by lia) (r.2.2 oks) (X5 bs j bk nes l)
  have g:=KD bs
  show(rowsOf b p h (C5 bs) (C9 b bs p 0)).length+2<=3*G2 (.mk h bs)
  simp only[G2]
  cases h with
  | leaf w M=>simp only[rowsOf];split<;>simp<;>lia
  | ife e =>
   obtain⟨a,z,i,s⟩:=hne
   have C:=f (j:=0) (bk:=a) (by rw[i];rfl) s
   have y:(C5 bs).getD 1 .nil=z:=by rw[i];rfl
   rw[i] at g
   simp at g
   simp only[rowsOf,y]
   split
   ·simp only[BU8];lia
   ·rename_i k
    have N:=f (j:=1) (bk:=z) (by rw[i];rfl) fun e=>k (by rw[e];rfl)
    simp only[BU8,BU7];lia
  | whl e =>
   obtain⟨a,i,s⟩:=hne
   have C:=f (j:=0) (bk:=a) (by rw[i];rfl) s
   rw[i] at g
   simp at g
   simp only[rowsOf,BU8,BU7,BX3];lia
  | tr v =>
   obtain⟨a,t,z,i,A,s,B,G⟩:=hne
   have C:=f (j:=0) (bk:=a) (by rw[i];rfl) s
   have u:(C5 bs)[v.length+1]?=some z:=by rw[i,<-A];simp
   have y:(C5 bs).getD (v.length+1) .nil=z:=by simp[CA8,u]
   have o:(CA6 v.length (BY9 1 (C9 b bs p 0))).length=t.length:=by
    rw[BY1,CD5,W7,<-K5,i];simp;lia
   have H:=fun I=>QD I (CA6 v.length (BY9 1 (C9 b bs p 0))) (t.map D5) (by rw[o,BU2]) fun m x c l D=>by
    have r:m<t.length:=by rw[<-o];exact(List.getElem?_eq_some_iff.mp l).1
    have J:(C5 bs)[m+1]?=some t[m]:=by
     rw[i,BZ8,BW7 r,BV4 r]
    have K:c=D5 t[m]:=by
     rw[BV6,BV4 r] at D
     exact(Option.some.inj D).symm
    rw[BZ6 (by lia),CA7,CB1] at l
    have E:=f J (B _ (CC5 r))
    have L:nth (C9 b bs p 0) (m+1)=x:=by unfold nth;simp[CA8,l]
    rw[L] at E
    rw[K];exact E
   rw[i] at g
   simp only[BX1,BX0,CH1,List.sum_cons,List.sum_append,List.sum_nil] at g
   simp only[rowsOf,y]
   have q:=H (if E1 z=true then bhN b p else kl p)
   rw[o] at q
   split
   ·rename_i k
    rw[if_pos k] at q
    simp only[BU8,BU7,BX3];lia
   ·rename_i k
    rw[if_neg k] at q
    have O:=f u fun e=>k (by rw[e];rfl)
    simp only[BU8,BU7,BX3];lia
theorem KI {b:Blk}(ok:okB b)(ne:neB b):1<=(A9 b).length/\(A9 b).length<=3*D5 b+1:=by
 rw[YB]
 have:=AQ2 (AQ3 (b:=b) (D5 b)) b [] 0 (BU4 _) ok ne
 lia
end CD
namespace CH
open PySem L2 L3 MK K11 K12 GO CD
def tblW:List (Str×Str):=[("let","deed"),("note","deed"),("ask","deed"),("cast","deed"),("close","deed"),("give","stand"),("on","stand"),("if","test"),("while","test"),("try","open"),("end","end"),("fault","fault"),("leave","leave")]
def rFN (r:Rl):Prop:=U7 r/\TK.neB r.blk
def bkL (M:Mem)(Q:DK)(l:List D):Prop:=∀a M',M a=none->M' a=some (.lst l)->(∀x,x≠a->M' x=M x)->Q (.ref a) M'
def AG6 (w:Str):Prop:=w="deed"\/w="stand"\/w="end"\/w="fault"\/w="open"\/w="last"
def nOk (k:C7):Prop:=(k.1="deed"\/k.1="test"\/k.1="last"\/k.1="resume")/\k.2≠none\/k=ke
def rW:Row->Prop
 | .own w _=>AG6 w
 | .test _ d=>nOk d
 | .jump d=>nOk d
 | .lv w _ d=>(w="leave"\/w="resume")/\∀k∈d,nOk k
 | .done=>True
def tells:Row->Bool
 | .own _ _=>false
 | .done=>false
 | _=>true
def BL6:Row->Option C7
 | .test _ d=>some d
 | .jump d=>some d
 | .lv _ _ d=>d
 | _=>none
def AM4:Sp3:=fun ds M Q=>∃r p d,ds=[rD r,plT p]/\U7 r/\(p,d)∈prB r.blk [] 0/\Q (match whA r.blk p with|some q=>plT q|none=>.non) M
def XB:Sp3:=fun ds M Q=>∃row,ds=[J2 row]/\rW row/\Q (.bl (tells row)) M
def HZ:Sp3:=fun ds M Q=>∃row,ds=[J2 row]/\rW row/\isJ row=false/\Q (nkD (C4 row)) M
def AZ4:Sp3:=fun ds M Q=>∃k,ds=[nkD k]/\nOk k/\Q (nkD (J1 k)) M
def OM:Sp3:=fun ds M Q=>∃r p d,ds=[rD r,plT p]/\U7 r/\(p,d)∈prB r.blk [] 0/\Q (ldD (lfT r.blk p)) M
def JN (n:Nat):Sp3:=fun ds M Q=>∃r bk ah,ds=[rD r,.tup (dB bk),plT ah]/\rFN r/\ah.length<=20/\D5 bk<=100/\okB bk/\TK.neB bk/\(∀(k:Nat) (d:Deed),(toL bk)[k]?=some d->(ah++[(k:Int)],d)∈prB r.blk [] 0)/\4*dpB bk+2<=n/\bkL M Q ((drB r.blk bk ah 0).map J2)
def JO (n:Nat):Sp3:=fun ds M Q=>∃r p h bs j bk,ds=[rD r,plT p,.int ((j:Nat):Int)]/\rFN r/\(p,.mk h bs)∈prB r.blk [] 0/\(C5 bs)[j]?=some bk/\4*dpB bk+3<=n/\bkL M Q ((drB r.blk bk (p++[(j:Int)]) 0).map J2)
def CQ (n:Nat):Sp3:=fun ds M Q=>∃r p e bs,ds=[rD r,plT p,dD (.mk (.ife e) bs)]/\rFN r/\(p,.mk (.ife e) bs)∈prB r.blk [] 0/\4*W6 bs<=n/\bkL M Q ((drD r.blk (.mk (.ife e) bs) p).map J2)
def OK (n:Nat):Sp3:=fun ds M Q=>∃r p e bs,ds=[rD r,plT p]/\rFN r/\(p,.mk (.whl e) bs)∈prB r.blk [] 0/\4*W6 bs<=n/\bkL M Q ((drD r.blk (.mk (.whl e) bs) p).map J2)
def OJ (n:Nat):Sp3:=fun ds M Q=>∃r p cs bs,ds=[rD r,plT p,dD (.mk (.tr cs) bs)]/\rFN r/\(p,.mk (.tr cs) bs)∈prB r.blk [] 0/\4*W6 bs<=n/\bkL M Q ((drD r.blk (.mk (.tr cs) bs) p).map J2)
def OI (n:Nat):Sp3:=fun ds M Q=>∃r p d,ds=[rD r,plT p]/\rFN r/\(p,d)∈prB r.blk [] 0/\4*dpD d+1<=n/\bkL M Q ((drD r.blk d p).map J2)
def AM2:Sp3:=fun ds M Q=>∃L:List Row,ds=[.lst (L.map J2)]/\(∀x∈L,rW x)/\(keys L).Nodup/\L.length<=1000/\∀a M',M a=none->M' a=some (.dn (C6 0 L))->(∀x,x≠a->M' x=M x)->Q (.ref a) M'
def AM1:Sp3:=fun ds M Q=>∃(L:List Row) (row:Row) (a:Addr),ds=[J2 row,.ref a]/\M a=some (.dn (C6 0 L))/\rW row/\(∀k,BL6 row=some k->∃j:Int,BW0 (J1 k) (C6 0 L)=some (.int j))/\Q (V8 L row) M
def grd (L:List Row)(p:List Int)(n:Nat):List D :=
 let cat:=(BW8 n).map fun at_=>numOf L (kd (p++[((at_+1:Nat):Int),0]))
 let last:=numOf L (kl p)
 let first:=numOf L (kd (p++[0,0]))
 match cat with
 | []=>[.tup [first,last,plT p,.tup [],last]]
 | c::cs=>.tup [first,c,plT p,.tup (c::cs),last]::(if (BW0 (kl p) (C6 0 L)).isSome then[.tup [c,last,plT p,.tup [],last]] else[])
def GT (b:Blk):List D:=((prB b [] 0).reverse).flatMap fun x=>match x.2 with
 | .mk (.tr cs) _=>grd (A9 b) x.1 cs.length
 | _=>[]
def AZ6:Sp3:=fun ds M Q=>∃r p cs bs a,ds=[rD r,plT p,.ref a]/\U7 r/\TK.neB r.blk/\(p,.mk (.tr cs) bs)∈prB r.blk [] 0/\M a=some (.dn (C6 0 (A9 r.blk)))/\bkL M Q (grd (A9 r.blk) p cs.length)
def spCode:Sp3:=fun ds M Q=>∃r,ds=[rD r]/\TK.rOk r/\Q (.tup [.tup ((A9 r.blk).map (V8 (A9 r.blk))),.tup (GT r.blk)]) M
end CH
namespace L3
open PySem PySem.Spec PyProof.Rows L2
open Sem (wp)
abbrev NIt:=Str ⊕ List Int
def V7:C7->List NIt
 | (x,none)=>[.inl x]
 | (x,some p)=>[.inl x,.inr p]
theorem QT {a b:C7}(h:V7 a=V7 b):a=b:=by
 obtain⟨x,p⟩:=a
 obtain⟨y,q⟩:=b
 cases p<;>cases q<;>simp[V7] at h
 ·rw[h]
 ·rw[h.1,h.2]
section
variable {P:BY7}{w:World}
def nIs (P:BY7)(w:World)(h:Heap):NIt->Value->Prop
 | .inl x,v=>(E3 P w).is (.inr x) v=true
 | .inr p,v=>∃b,v=.ref b/\IsTupleKey (intKind P w) h p b
def BJ (w:World):NIt->Int
 | .inl x=>AQ1 w (.inr x)
 | .inr p=>reduceHash (BY3 (p.map hashInt))
def AQ5:NIt->Nat
 | .inl _=>1
 | .inr p=>p.length+1
theorem AQ6 {a b:NIt}{v:Value}(x:nIs P w h a v)(y:nIs P w h b v):a=b:=by
 cases a with
 | inl s =>
  rcases E8 (show EM (.inr s) v=true from x) with⟨i,t,e,_⟩|⟨z,t,e,rfl⟩
  ·cases e
  ·cases b with
   | inl c =>
    have:=(E3 P w).inj _ _ _ x y
    rw[Sum.inr.inj this]
   | inr p=>obtain⟨_,e,_⟩:=y;cases e
 | inr p =>
  obtain⟨f,rfl,x⟩:=x
  cases b with
  | inl c =>
   rcases E8 (show EM (.inr c) (.ref f)=true from y) with⟨i,t,e,d⟩|⟨z,t,e,d⟩<;>cases d
  | inr q =>
   obtain⟨_,e,y⟩:=y
   cases e
   rw[x.inj y]
inductive NItsAre (P:BY7)(w:World)(h:Heap):List NIt->List Value->Prop
 | nil:NItsAre P w h [] []
 | cons {k:NIt} {v:Value} {ks:List NIt} {vs:List Value}:nIs P w h k v->NItsAre P w h ks vs->NItsAre P w h (k::ks) (v::vs)
theorem NItsAre.inj {x y:List NIt}{vs:List Value}(b:NItsAre P w h x vs)(a:NItsAre P w h y vs):x=y:=by
 induction b generalizing y with
 | nil=>cases a;rfl
 | cons c _ d=>cases a with|cons e f=>rw[AQ6 c e,d f]
def IsN (P:BY7)(w:World)(h:Heap)(k:C7)(a:Addr):Prop:=∃o items n,h.get? a=some o/\o.cls=.type "tuple"/\o.data=.seq items n/\NItsAre P w h (V7 k) items.toList
theorem IsN.typeIs {k:C7}{a:Addr}(x:IsN P w s.heap k a):s.TypeIs (.ref a) "tuple":=let ⟨o,_,_,ho,hc,_⟩:=x;⟨o,ho,hc⟩
theorem IsN.inj {a:Addr}{x y:C7}(g:IsN P w h x a)(i:IsN P w h y a):x=y:=by
 obtain⟨o,d,n,j,_,k,l⟩:=g
 obtain⟨o',c,m,e,_,b,f⟩:=i
 obtain rfl:o=o':=Option.some.inj (j.symm.trans e)
 rw[k] at b
 injection b with h1 _
 subst h1
 exact QT (l.inj f)
theorem nIs.keeps {k:NIt}{v:Value}{d:Addr}{es ep}(x:nIs P w h k v)(ho:h.get? d=some o)(hd:o.data=.dict es ep)(hs:CD0 d h h'):nIs P w h' k v:=by
 cases k with
 | inl s=>exact x
 | inr p=>obtain⟨b,e,x⟩:=x;exact⟨b,e,x.keeps ho hd hs⟩
theorem NItsAre.keeps {ks:List NIt}{vs:List Value}{d:Addr}{es ep}(x:NItsAre P w h ks vs)(ho:h.get? d=some o)(hd:o.data=.dict es ep)(hs:CD0 d h h'):NItsAre P w h' ks vs:=by
 induction x with
 | nil=>exact .nil
 | cons a _ b=>exact .cons (a.keeps ho hd hs) b
theorem IsN.keeps {k:C7}{a d:Addr}{es ep}(x:IsN P w h k a)(ho:h.get? d=some o)(hd:o.data=.dict es ep)(hs:CD0 d h h'):IsN P w h' k a:=by
 obtain⟨g,b,n,e,i,c,j⟩:=x
 have f:a≠d:=by
  rintro rfl
  obtain rfl:g=o:=Option.some.inj (e.symm.trans ho)
  rw[hd] at c;exact nomatch c
 exact⟨g,b,n,(hs.2 a f).trans e,i,c,j.keeps ho hd hs⟩
variable {A:CE0}{E:Value->BV1->Prop}{s:BV1}
theorem nIs.pyHash {k:NIt}{v:Value}{Q:Int->BV1->Prop}(a:A.units<cLine)(x:nIs P w s.heap k v)(h:Q (BJ w k) {s with toks:=s.toks+AQ5 k}):wpAny (model P w) A (PySem.pyHash v) Q E s:=by
 cases k with
 | inl c=>exact(E3 P w).pyHash x h
 | inr p=>obtain⟨b,rfl,x⟩:=x;exact wpAny_pyHash_tuple a x h
def nDr (k:C7):Nat:=((V7 k).map AQ5).sum+1
theorem BF2 (k:C7):nHs w k=(V7 k).map (BJ w):=by
 obtain⟨x,p⟩:=k
 cases p<;>rfl
theorem DO {k:C7}{a:Addr}{Q:Int->BV1->Prop}(v:A.units+1<cLine)(u:IsN P w s.heap k a)(h:Q (WA w k) {s with toks:=s.toks+nDr k}) :
  wpAny (model P w) A (pyHash (.ref a)) Q E s:=by
 have j:=u.typeIs
 obtain⟨o,p,n,y,_,z,B⟩:=u
 unfold pyHash
 first|unfold pyHashByItsType|skip
 first|refine BU3 (wpAny_cRoomFor_or (.inr (by lia)) ?_)|skip
 refine BU3 (CG4 j F.slot_tuple_hash.lookup ?_)
 show wpAny _ _ (if (some (Value.builtin "tuple.__hash__")==some Value.none)=true then _ else _) Q E s
 rw[if_neg (by rw[beq_builtin_none];exact BU9)]
 refine BU3 (CG4 j F.slot_tuple_hash.lookup ?_)
 show wpAny _ _ (callSpecialIfBoundUnlessNone? (.ref a) "__hash__" _ >>= _) Q E s
 refine BU3 (wpAny_callSpecialIfBoundUnlessNone?_slot j F.slot_tuple_hash (CH8 F.slot_tuple_hash j F.entry_tuple_hash ?_ (F.args_tuple_hash_1 _)))
 show wpAny _ _ (CD8 (.ref a) >>= _) _ _ s
 refine BU3 (wpAny_tupleItemsOf y z ?_)
 refine BU3 ?_
 rw[<-Array.forIn_toList]
 have q:A.in1.units<cLine:=by simpa using v
 refine wpAny_forIn_list _
  (fun d (b:Array Int) r=>∃c left,V7 k=c++left/\NItsAre P w s.heap left d/\b.toList=c.map (BJ w)/\r={s with toks:=s.toks+(c.map AQ5).sum})
  _ ?_ ?_ _ _ ⟨[],V7 k,rfl,B,rfl,rfl⟩
 ·rintro x d b r ⟨c,left,e,t,l,rfl⟩
  cases t with
  | @cons i _ f _ C g =>
   refine BU3 (nIs.pyHash (s:={s with toks:=s.toks+(c.map AQ5).sum}) q C ?_)
   first
    | exact BV0 ⟨c++[i],f,by rw[e];simp,g,by simp[l],by simp[CA1]⟩
    | exact BU3 (BV0 (BV0 ⟨c++[i],f,by rw[e];simp,g,by simp[l],by simp[CA1]⟩))
 ·rintro b r ⟨c,left,e,t,l,rfl⟩
  cases t
  rw[CA9] at e
  show wpAny _ _ (retInt (BY3 b.toList)) _ _ _
  rw[l,<-e]
  refine wpAny_ret_mkInt ?_
  show wpAny _ _ (if (decide (-(2:Int)^63<=BY3 ((V7 k).map (BJ w))) && decide (BY3 ((V7 k).map (BJ w))<2^63))=true then _ else _) Q E _
  unfold WA reduceHash nDr at h
  rw[BF2] at h
  by_cases m:(decide (-(2:Int)^63<=BY3 ((V7 k).map (BJ w))) && decide (BY3 ((V7 k).map (BJ w))<2^63))=true
  ·rw[if_pos m]
   rw[if_pos m] at h
   exact BV0 (by simpa[CA1] using h)
  ·rw[if_neg m]
   rw[if_neg m] at h
   exact BU3 (wpAny_rule (BV0 (by simpa[CA1] using h)))
end
section
variable {P:BY7}{w:World}{A:CE0}{E:Value->BV1->Prop}{s:BV1}
inductive NAl:List NIt->List NIt->Prop
 | nl {y:List NIt}:NAl [] y
 | nr {x:List NIt}:NAl x []
 | l {a b:Str} {x y:List NIt}:NAl x y->NAl (.inl a::x) (.inl b::y)
 | r {a b:List Int} {x y:List NIt}:NAl x y->NAl (.inr a::x) (.inr b::y)
theorem AQ7 (a b:C7):NAl (V7 a) (V7 b):=by
 obtain⟨x,p⟩:=a
 obtain⟨y,q⟩:=b
 cases p<;>cases q<;>first|exact .l .nl|exact .l .nr|exact .l (.r .nl)
theorem NL {x y:C7}{a b:Addr}{R:Fin->BV1->Prop}(hu:A.units<cLine)(hx:IsN P w s.heap x a)(hy:IsN P w s.heap y b)(h:R (.done (.ret (.bool (decide (x=y))))) s) :
  wpAny (model P w) A (Builtin.«tuple.__eq__» ⟨[.ref a,.ref b],[]⟩) R E s:=by
 have S:=hy.typeIs
 obtain⟨oa,J,na,T,_,U,V⟩:=hx
 obtain⟨ob,K,nb,W,_,X,Y⟩:=hy
 have j:decide (V7 x=V7 y)=decide (x=y):=by
  by_cases e:x=y
  ·rw[e];simp
  ·rw[decide_eq_false e,decide_eq_false fun z=>e (QT z)]
 have Z:=AQ7 x y
 rw[<-j] at h
 generalize V7 x=L at *
 generalize V7 y=M at *
 show wpAny _ _ (isInstance (.ref b) (.type "tuple") >>= _) _ _ s
 refine BU3 (wpAny_isInstance S isSubtype_tuple_tuple ?_)
 simp only[CH5,CE3,if_false]
 refine BU3 (wpAny_tupleItemsOf T U ?_)
 refine BU3 (wpAny_tupleItemsOf W X ?_)
 refine BU3 ?_
 refine wpAny_forIn_list _
  (fun n r s'=>r.1=none/\s'=s/\∃B C d f,n=List.zip d f/\NItsAre P w s.heap B d/\NItsAre P w s.heap C f/\NAl B C/\decide (B=C)=decide (L=M)/\(d.length==f.length)=(J.size==K.size))
  _ ?_ ?_ _ _ ⟨rfl,rfl,L,M,J.toList,K.toList,rfl,V,Y,Z,rfl,by simp⟩
 ·rintro⟨u,v⟩ n r s' ⟨hr,rfl,B,C,d,f,t,p,k,g,c,i⟩
  cases p with
  | nil=>simp at t
  | @cons k1 u' m D N F =>
   cases k with
   | nil=>simp at t
   | @cons k2 v' y'' G O H =>
    simp only[List.zip_cons_cons,List.cons.injEq,Prod.mk.injEq] at t
    obtain⟨⟨rfl,rfl⟩,rfl⟩:=t
    have eqb:∀{Q:Bool->BV1->Prop},NAl m y''/\Q (decide (k1=k2)) s'->wpAny (model P w) A (PySem.eqBool u v) Q E s':=by
     rintro Q ⟨_,q⟩
     cases g with
     | @l a b _ _ _ =>
      have e:decide ((Sum.inr a:Key)=Sum.inr b)=decide ((Sum.inl a:NIt)=Sum.inl b):=by by_cases z:a=b<;>simp[z]
      refine(E3 P w).eqBool N O ?_
      rw[e];exact q
     | @r a b _ _ _ =>
      have e:decide (a=b)=decide ((Sum.inr a:NIt)=Sum.inr b):=by by_cases z:a=b<;>simp[z]
      obtain⟨b1,rfl,N⟩:=N
      obtain⟨b2,rfl,O⟩:=O
      refine wpAny_eqBool_tuple hu N O ?_
      rw[e];exact q
    have o:NAl m y'':=by cases g<;>assumption
    refine BU3 (eqb ⟨o,?_⟩)
    by_cases hk:k1=k2
    ·subst hk
     rw[decide_eq_true rfl]
     simp only[CH5,CE3,if_false]
     refine BV0 ⟨rfl,rfl,m,y'',D,G,rfl,F,H,o,?_,by simpa using i⟩
     rw[<-c]
     by_cases j:m=y''
     ·simp[j]
     ·simp[j]
    ·rw[decide_eq_false hk]
     simp only[Bool.not_false,if_true]
     have hf:decide (L=M)=false:=by rw[<-c];simp[hk]
     rw[hf] at h
     exact BU3 (BV0 (BV0 (BV0 h)))
 ·rintro⟨r1,r2⟩ s' ⟨hr,rfl,B,C,d,f,t,p,k,g,c,i⟩
  simp only at hr
  subst hr
  refine BV0 ?_
  have I:(J.size==K.size)=decide (L=M):=by
   rw[<-c,<-i]
   cases p with
   | nil =>
    cases k with
    | nil=>simp
    | cons _ _=>simp
   | cons _ _ =>
    cases k with
    | nil=>simp
    | cons _ _=>simp at t
  show R (.done (.ret (.bool (J.size==K.size)))) s'
  rw[I];exact h
theorem DN {x y:C7}{a b:Addr}{Q:Bool->BV1->Prop}(i:A.units+1<cLine)(d:IsN P w s.heap x a)(f:IsN P w s.heap y b)(h:Q (decide (x=y)) s) :
  wpAny (model P w) A (eqBool (.ref a) (.ref b)) Q E s:=by
 have g:A.in1.units<cLine:=by simpa using i
 unfold eqBool
 try with_reducible refine CA4 ?_
 show wpAny _ _ (if (Value.ref a==Value.ref b)=true then _ else _) Q E s
 by_cases c:(Value.ref a==Value.ref b)=true
 ·rw[if_pos c]
  have e:a=b:=by have:=eq_of_beq c;injection this
  subst e
  obtain rfl:=d.inj f
  exact BU3 (wpAny_rule (BV0 (by simpa using h)))
 ·rw[if_neg c]
  exact BU3 (wpAny_richCompare_same_room (op:=.Eq) d.typeIs f.typeIs F.slot_tuple_eq
   (CH8 F.slot_tuple_eq d.typeIs F.entry_tuple_eq (NL g d f ⟨_,rfl,(fun e=>nomatch e),CB5 h⟩) (F.args_tuple_eq_2 _ _)) (by lia))
end
section
variable {P:BY7}{w:World}{A:CE0}{E:Value->BV1->Prop}{s:BV1}
theorem V4 {n:Nat}{a:Addr}{Q:Bool->BV1->Prop}(i:IsTupleKey (intKind P w) s.heap ks a)(h:Q true s):wpAny (model P w) A (eqIsQuiet (n+1) (.ref a)) Q E s:=by
 have j:=i.typeIs
 obtain⟨o,d,_,k,_,l,m⟩:=i
 unfold eqIsQuiet
 refine BU3 (CG4 j F.slot_tuple_eq.lookup ?_)
 show wpAny _ _ (isInstance (.ref a) (.type "tuple") >>= _) _ _ s
 refine BU3 (wpAny_isInstance j isSubtype_tuple_tuple ?_)
 simp only[CH5,CE3,if_false]
 refine BU3 (wpAny_seqItems k l ?_)
 refine BU3 ?_
 show wpAny _ _ (forIn d _ _) _ _ s
 rw[<-Array.forIn_toList]
 refine wpAny_forIn_list _ (fun b r e=>r.1=none/\e=s/\∀v∈b,carriedByValue v=true) _ ?_ ?_ _ _ ⟨rfl,rfl,m.byValue⟩
 ·rintro v b r e ⟨f,rfl,c⟩
  rw[eqIsQuiet_byValue _ (c v BV7)]
  refine BU3 (BV0 ?_)
  simp only[CH5,CE3,if_false]
  exact BV0 ⟨rfl,rfl,fun u g=>c u (BV5 _ g)⟩
 ·rintro⟨p,q⟩ e ⟨f,rfl,_⟩
  simp only at f
  subst f
  exact BV0 h
theorem Z8 {k:C7}{a:Addr}{Q:Bool->BV1->Prop}(g:IsN P w s.heap k a)(h:Q true s):wpAny (model P w) A (eqIsQuiet 8 (.ref a)) Q E s:=by
 have j:=g.typeIs
 obtain⟨o,d,n,m,_,t,u⟩:=g
 unfold eqIsQuiet
 refine BU3 (CG4 j F.slot_tuple_eq.lookup ?_)
 show wpAny _ _ (isInstance (.ref a) (.type "tuple") >>= _) _ _ s
 refine BU3 (wpAny_isInstance j isSubtype_tuple_tuple ?_)
 simp only[CH5,CE3,if_false]
 refine BU3 (wpAny_seqItems m t ?_)
 refine BU3 ?_
 show wpAny _ _ (forIn d _ _) _ _ s
 rw[<-Array.forIn_toList]
 refine wpAny_forIn_list _ (fun c r s'=>r.1=none/\s'=s/\∃l,NItsAre P w s.heap l c) _ ?_ ?_ _ _ ⟨rfl,rfl,_,u⟩
 ·rintro v c r s' ⟨f,rfl,l,y⟩
  cases y with
  | @cons i _ z _ e B =>
   have q:∀{Q:Bool->BV1->Prop},Q true s'->wpAny (model P w) A (eqIsQuiet 7 v) Q E s':=by
    intro Q q
    cases i with
    | inl x=>rw[eqIsQuiet_byValue _ ((E3 P w).byValue _ _ e)];exact BV0 q
    | inr p=>obtain⟨b,rfl,e⟩:=e;exact V4 e q
   refine BU3 (q ?_)
   simp only[CH5,CE3,if_false]
   exact BV0 ⟨rfl,rfl,z,B⟩
 ·rintro⟨C,D⟩ s' ⟨f,rfl,_⟩
  simp only at f
  subst f
  exact BV0 h
end
def X6 (P:BY7)(w:World):HeapKind P w C7 where
 is:=IsN P w
 hash:=WA w
 draws:=nDr
 room:=fun A=>A.units+1<cLine
 inj:=fun hx hy=>hx.inj hy
 keeps:=fun x ho hd hs=>x.keeps ho hd hs
 pyHash:=fun hu hk h=>DO hu hk h
 eqBool:=fun hu hx hy h=>DN hu hx hy h
 quiet:=fun hk h=>Z8 hk h
end L3
namespace L3
open PySem PySem.Spec PyProof.Rows L2
section
variable {X:Cx}{pins:List (Addr×Obj)}{σv:L2.St}{H:Hp}{s:BV1}{M:Mem}
theorem WC (I:Inv X pins σv H s){k:C7}{b:Addr}(r:Rep X.K M H (nkD k) (.ref b)):IsN X.prog X.w s.heap k b:=by
 obtain⟨x,p⟩:=k
 cases p with
 | none =>
  cases r with
  | tup h r =>
   cases r with
   | cons d c =>
   cases c
   cases d
   obtain⟨e,a,⟨o,f,g,n,i⟩,l⟩:=I.tuple (SqT.of3 h)
   cases a with
   | cons j a =>
   cases a
   obtain⟨t,rfl⟩:=j
   exact⟨o,_,n,f,g,i,.cons (P2 _ _ _ _) .nil⟩
 | some p =>
  cases r with
  | tup h r =>
   cases r with
   | cons d c =>
   cases c with
   | @cons _ m _ _ c q =>
   cases q
   cases d
   obtain⟨kb,rfl⟩:∃kb,m=V.ref kb:=by cases c;exact⟨_,rfl⟩
   obtain⟨e,a,⟨o,f,g,n,i⟩,l⟩:=I.tuple (SqT.of3 h)
   cases a with
   | cons j a =>
   cases a with
   | cons u a =>
   cases a
   obtain⟨t,rfl⟩:=j
   obtain rfl:_=Value.ref kb:=u
   exact⟨o,_,n,f,g,i,.cons (P2 _ _ _ _) (.cons ⟨kb,rfl,BT5 I c⟩ .nil)⟩
theorem TH {k:C7}(r:Rep K M H (nkD k) v):∃b,v=.ref b:=by
 obtain⟨x,p⟩:=k
 cases p<;>(cases r;exact⟨_,rfl⟩)
theorem ZR (I:Inv X pins σv H s){ds:List (C7×D)}(r:RepN X.K M H ds xs):∀y∈xs,IsN X.prog X.w s.heap y.1 y.2.1:=by
 induction r with
 | nil=>intro y hy;cases hy
 | cons a b c _ d =>
  intro y hy
  rcases BZ3.mp hy with rfl|hy
  ·exact WC I a
  ·exact d y hy
theorem AK8 {ds:List (C7×D)}(r:RepN K M H ds xs):xs.map (·.1)=ds.map (·.1):=by
 induction r with
 | nil=>rfl
 | cons _ _ _ _ a=>simp[a]
theorem OE {ds:List (C7×D)}(r:RepN K M H ds xs)(k:C7) :
  match ds.lookup k with
  | none=>atKey xs k=none
  | some d=>∃b u v,atKey xs k=some (b,u)/\RelV v u/\Rep K M H d v:=by
 induction r with
 | nil=>rfl
 | @cons a b d v u ds xs j c f _ g =>
  by_cases e:k=a
  ·subst e
   simp only[BW0,beq_self_eq_true]
   exact⟨b,u,v,by simp[atKey],f,c⟩
  ·have h:(k==a)=false:=by simpa using e
   have i:atKey ((a,b,u)::xs) k=atKey xs k:=by simp[atKey,CE7,Ne.symm e]
   simp only[BW0,h]
   rw[i]
   exact g
theorem dn3 (I:Inv X pins σv H s)(m:MRel X.K M H){a:Addr}{ds:List (C7×D)}(h:M a=some (.dn ds)) :
  ∃xs,RepN X.K M H ds xs/\(a==CC2)=false/\s.heap.DictOfH (X6 X.prog X.w) a xs:=by
 obtain⟨b,c,r⟩:=m a _ h
 cases b<;>first|exact(r:False).elim|skip
 rename_i p
 obtain⟨xs,e,r⟩:=r
 subst e
 obtain⟨⟨d,o,f,g,i,j,k,l,n⟩,_⟩:=(show ObjOk X.prog X.w H s.heap a (.ext (dnφ xs)) from I.hok a _ c)
 exact⟨xs,r,d,o,f,g,i,j,k,l,ZR I r,n⟩
theorem LB (a:A.units+2<cLine):A.in1.units+1<cLine:=by
 have:A.in1.units=A.units+1:=by simp
 lia
end
section
variable {X:Cx}{a b e:Expr}{ta tb:TE3}{t:TA3}{pos p:Pos}
def HP:R3:=fun x y M Q=>∃a kvs k d,x=.ref a/\M a=some (.dn kvs)/\y=nkD k/\BW0 k kvs=some d/\Q d M
theorem AH1 (D:X.A.units+2<cLine)(E:PE3 X a ta)(G:PE3 X b tb)(hs:XS b):PE3 X (.Subscript a b pos) (A6 HP ta tb):=by
 intro e s f H t M Q I hS J h
 refine OR PySem.F.slot_dict_getitem.lookup hs (thn (E e s f H t M _ I hS J h) fun v K ⟨x,xv,L,N,O,g,P,i,R,S⟩ =>
  thn (G e K f N t L _ O (hS.mono g) P S) fun u s2 ⟨y,yv,T,U,j,m,z,n,B,V⟩=>?_)
 obtain⟨l,W,k,d,rfl,Y,rfl,Z,q⟩:=V
 cases R
 obtain rfl:v=Value.ref l:=i
 obtain⟨xs,r,hs',C⟩:=dn3 j z Y
 have c:=OE r k
 rw[Z] at c
 obtain⟨b',u',v',c,o,p⟩:=c
 obtain⟨kb,rfl⟩:=TH B
 obtain rfl:u=Value.ref kb:=n
 refine⟨C.typeIs,wpAny_getItem_heap (knd:=X6 X.prog X.w) (LB D) (WC j B) C c ?_⟩
 exact⟨d,v',T,U,j.tok _,g.trans m,z,o,p,q⟩
def NX:M3:=fun x xs M Q=>∃a kvs k d,x=.ref a/\M a=some (.dn kvs)/\xs=[nkD k,d]/\Q ((BW0 k kvs).getD d) M
theorem AF3 (y:X.A.units+2<cLine):MtR3 X "dict.get" NX:=by
 rintro o s z H M x p N B v O Q I m C b D c ⟨l,f,k,d,rfl,E,rfl,q⟩
 cases c with
 | cons t g=>cases g with
  | cons g G =>
   cases G
   cases b with
   | cons J h=>cases h with
    | cons h K =>
     cases K
     cases D
     obtain rfl:v=Value.ref l:=C
     obtain⟨kb,rfl⟩:=TH t
     obtain rfl:_=Value.ref kb:=J
     obtain⟨p,r,i,u⟩:=dn3 I m E
     refine call_meetsIn PySem.F.slot_dict_get u.typeIs PySem.F.entry_dict_get (PySem.F.args_dict_get_3 _ _ _) (meetsH_dict_get_default (X6 X.prog X.w) l kb i _) ⟨?_,k,p,WC I t,u,?_⟩
     ·first|exact LB y|(show Around.units _+1<_;simp;lia)
     have a:=OE r k
     cases e:BW0 k f with
     | none =>
      rw[e] at a q
      simp only at a
      rw[a]
      exact⟨_,_,M,H,I.tok _,.refl,m,h,g,q⟩
     | some P =>
      rw[e] at a q
      obtain⟨R,S,L,a,j,n⟩:=a
      rw[a]
      exact⟨_,L,M,H,I.tok _,.refl,m,j,n,q⟩
end
theorem RepN.snoc {ds:List (C7×D)}{k:C7}{b:Addr}{d:D}(r:RepN K M H ds xs)(h1:Rep K M H (nkD k) (.ref b))(h2:Rep K M H d v)(e:RelV v u):RepN K M H (ds++[(k,d)]) (xs++[(k,b,u)]):=by
 induction r with
 | nil=>exact .cons h1 h2 e .nil
 | cons a b c _ f=>exact .cons a b c f
theorem AK9 {ds:List (C7×D)}(r:RepN K M H ds xs):xs.length=ds.length:=by
 have:=congrArg CB7 (AK8 r)
 simpa using this
theorem AX5 {a:Addr}(hs:(a==CC2)=false)(f:h.DictOfH (X6 P w) a xs):ObjOk P w H h a (.ext (dnφ xs)):=by
 obtain⟨o,g,i,e,j,k,l,r,m⟩:=f
 exact⟨⟨hs,o,g,i,e,j,k,l,m⟩,⟨o,e⟩,fun s t ⟨z,n,b,c,p,q⟩ d=>⟨z,n,b,c,d _ p,q⟩⟩
section
variable {X:Cx}{tg iter elt kx vx:Expr}{ifs:List Expr}{scope:Scope}{N:List Str}{te tk tv:TE3}{pos:Pos}
def tbN (tk tv:TE3)(p:Addr)(acc:List (C7×D))(P:List (C7×D)->Mem->Prop)(σ:Lo)(M:Mem):Prop:=tk σ M fun e M2=>tv σ M2 fun f M3=>∃q:C7,e=nkD q/\BW0 q acc=none/\M3 p=some (.dn acc)/\acc.length<BV8/\P (acc++[(q,f)]) (D9 M3 p (.dn (acc++[(q,f)])))
theorem AO8 (hu:X.A.units+2<cLine)(he:∀cl s₀ H₀ ex,PE3 (F2 X scope cl s₀ H₀ ex N) kx tk)(hv:∀cl s₀ H₀ ex,PE3 (F2 X scope cl s₀ H₀ ex N) vx tv):CB X tg iter ifs scope N (.DictComp kx vx [⟨tg,iter,ifs,0⟩] scope pos) newDict "dict" (.dict #[]) (.ext (dnφ [])) [] .dn (tbN tk tv)
  (fun D env s R=>wpAny (model X.prog X.w) X.A (eval kx env) (fun x t=>wpAny (model X.prog X.w) X.A (eval vx env) (fun y u=>wpAny (model X.prog X.w) X.A (dictSet D x y) (fun _=>R) (fun _ _=>False) u) (fun _ _=>False) t) (fun _ _=>False) s) where
 cl:=rfl
 fr:=rfl
 new:=fun h=>BY5 h
 lay:=fun{c j H s} I=>I.laid (a:=s.heap.objs.size) (o:=.ext (dnφ [])) (h':=s.heap.push {cls:=.type "dict",data:=.dict #[]}) (t':=s.toks) (fun _ _ q=>BU6 _ q) (BU4 _) (AX5 (beq_eq_false_iff_ne.mpr (Ne.symm (BX7 I.big))) (Heap.DictOfH.new s.heap))
 r0:=⟨[],rfl,.nil⟩
 lp:=fun I v n h=>ST I v n h
 st:=codeAny_compStart_dict
 bd:=fun{cl s₀ H₀ ex c s j H σ M D F P R} I hS m q k=>by
  refine thn (he cl s₀ H₀ ex c s j H σ M _ I hS m q) fun xk G l=>?_
  obtain⟨ek,vk,J,K,L,g,O,Q,d,S⟩:=l
  refine thn (hv cl s₀ H₀ ex c G j K σ J _ L (hS.mono g) O S) fun xv T l=>?_
  obtain⟨ev,vv,M11,U,p,i,f,V,r,E,rfl,z,e,hlt2,W⟩:=l
  obtain⟨kb,rfl⟩:=TH d
  obtain rfl:_=Value.ref kb:=Q
  have b:=d.mono i
  obtain⟨xs,rO,Y,dd⟩:=dn3 p f e
  obtain⟨ho,B,_⟩:=f D _ e
  have C:=OE rO E
  rw[z] at C
  refine wpAny_dictSet_heap (knd:=X6 X.prog X.w) (hsz:=by rw[AK9 rO];lia) (by first|exact(show X.A.units+1<cLine by lia)|(show Around.units _+1<_;lia)) (WC p b) dd fun h' hD Z=>?_
  rw[storedH_new C] at hD
  have he':∃q,h'.get? D=some q:=let ⟨q,_,_,hq,_⟩:=hD;⟨q,hq⟩
  have I12:=FL (t':=T.toks+nDr E) p (by rw[B];have hr:=(f D _ e);obtain⟨ho2,e2,r2⟩:=hr;rw[B] at e2;cases e2;cases ho<;>first|exact(r2:False).elim|exact True.intro) Z he' (AX5 (H:=upd U D (.ext (dnφ (xs++[(E,kb,xv)])))) Y hD)
  exact k _ _ _ _ I12 (g.trans (i.trans (Step.put (.inr (by rw[e];simp))))) (f.put (.inr (by rw[e];simp)) (o:=.dn (F++[(E,ev)])) ⟨_,rfl,rO.snoc b r V⟩) W
end
def AW7 (r:M3)(to:TE3)(t:TA3):TE3:=fun σ M Q=>to σ M fun x M1=>∃a kvs,x=.ref a/\M1 a=some (.dn kvs)/\t σ M1 fun xs M2=>r x xs M2 Q
section
variable {X:Cx}{o e:Expr}{es:List Expr}{to:TE3}{t:TA3}{name:Str}{apos cpos:Pos}{id:String}{r:M3}
theorem BG7 (E:PlainAttrs "dict")(slot:Slot "dict" name id)(n:typeOf (.builtin id)=pure (.type "method_descriptor"))(F:MtR3 X id r)(ho:PE3 X o to)(G:PA3 X (e::es) t)
  (f:attributeBase o name X.env (eval o X.env)=eval o X.env:=by rfl)
  (j:((CI6 cpos (BX4 (e::es) X.env)).all (fun x=>!x.1) && (backToKw cpos (keywordEach [] X.env)).all (fun x=>x.1.isSome)
   && decide ((e::es).length+([]:List Keyword).length+(if ([]:List Keyword).isEmpty then 0 else 1)<30))=true:=by rfl)
  (g:(apos.endLine==cpos.line)=true:=by rfl) (hs:BX4 (e::es) X.env=(false,eval e X.env)::BX4 es X.env:=by rfl) (c:(CI6 cpos (BX4 es X.env)).any (·.1)=false:=by rfl) :
  PE3 X (.Call (.Attribute o name apos) (e::es) [] cpos) (AW7 r to t):=by
 intro a s i H w M Q I hS J h
 refine wpAny_Call_method_late f j g rfl (thn (ho a s i H w M _ I hS J h) fun v y ⟨d,xv,K,L,A,k,B,N,O,l,P,R,p,S⟩=>?_)
 subst R
 obtain⟨xs,rN,T,C⟩:=dn3 A B p
 cases O
 obtain rfl:v=Value.ref l:=N
 have U:∀b,Value.ref l=.ref b->∃m,y.heap.get? b=some m/\m.dict=none:=fun b e=>by
  injection e with e
  subst e
  obtain⟨m,_,_,g1,g2,_⟩:=C
  exact⟨m,g1,g2.2.1⟩
 refine⟨"dict",id,E,slot,n,C.typeIs,U,?_⟩
 have D:=G cpos a y i L w K _ A (hS.mono k) B S
 rw[hs] at D ⊢
 refine CJ6 (by show(false || (CI6 cpos (BX4 es X.env)).any (·.1))=false;rw[c]<;>rfl) (Calls.evalArgs_plain ?_)
 exact thn D fun V W ⟨Y,Z,M2,H2,I2,q,m2,u,p2,q2⟩=>thn (F a W i H2 M2 (.ref l) Y (.ref l) Z (.ref l) V Q I2 m2 rfl u .ref p2 q2) fun _ _ z=>z.trans (k.trans q)
instance rd_bn {σ:Lo}{M:Mem}{Q:DK}:RdC (AW7 r to t σ M Q) (to σ M fun x M1=>∃a kvs,x=.ref a/\M1 a=some (.dn kvs)/\t σ M1 fun xs M2=>r x xs M2 Q):=⟨fun h=>h⟩
end
def OU (ti:TI3)(n:Nat)(slots:List Nat)(g:TG3)(tt:TT3)(tk tv:TE3):TE3:=fun σ M Q=>tCG [] .dn (tbN tk tv) ti n slots g tt (fun p _ M=>Q (.ref p) M) σ M
def AQ9:Expr->Bool
 | .Slice ..=>false
 | _=>true
def nE (x:Ext)(R:Rc)(Γ:Ct)(e:Expr):Option TE3:=match e with
 | .DictComp k v gens scope p=>match rCp x R Γ gens scope p with
  | some c=>some (OU c.ti c.n c.sl (gD c.g) c.tt (R.E c.Γ k) (R.E c.Γ v))
  | none=>none
 | .Subscript a b pos=>match Γ.h pos,AQ9 b with
  | 4,true=>some (A6 HP (R.E Γ a) (R.E Γ b))
  | _,_=>none
 | _=>none
def BL8 (x:Ext):Ext:={AO with E:=nE x}
theorem AP2 {x:Ext}(r:ExtOk x):ExtOk (BL8 x):={G4 with
 E:=fun R d i X o e t h=>by
  have j:=(d i X o).1
  replace h:nE x R i e=some t:=h
  unfold nE at h
  split at h
  ·rename_i k v l f p
   split at h
   ·rename_i c s
    cases h
    obtain⟨z,A,u,w,m,q⟩:=AC2 r d o s
    cases q.eq
    rw[q.n]
    exact TQ (q.ch o.calm) (AO8 o.un (fun g a b ex=>(d _ _ (q.o g a b ex)).1 _) (fun g a b ex=>(d _ _ (q.o g a b ex)).1 _)) UP rfl
   ·cases h
  ·split at h
   ·rename_i _ y
    cases h
    exact AH1 o.un (j _) (j _) (AF7 fun _ _ _ _ e=>by subst e;cases y)
   ·cases h
  ·cases h}
def fE (R:Rc)(Γ:Ct)(e:Expr):Option TE3:=match e with
 | .Subscript a (.Slice none none (some s) _) pos=>match Γ.h pos with
  | 5=>some (LL (EF (R.E Γ a)) (J8 (R.E Γ s)))
  | _=>none
 | _=>none
def extF:Ext:={AO with E:=fE}
theorem extF_ok:ExtOk extF:={G4 with
 E:=fun R c a X o e t h=>by
  have b:=(c a X o).1
  replace h:fE R a e=some t:=h
  unfold fE at h
  split at h
  ·split at h
   ·cases h;exact WJ (QY (b _)) (HL (b _))
   ·cases h
  ·cases h}
def mE (R:Rc)(Γ:Ct)(e:Expr):Option TE3:=match e with
 | .Call (.Attribute ob m ap) (a::as) [] pos=>match Γ.h pos,(m=="get" && ap.endLine==pos.line && !(a::as).any isStar && WD ob && decide ((a::as).length<30)) with
  | 4,true=>some (AW7 NX (R.E Γ ob) (rA (R.E Γ) (a::as)))
  | _,_=>none
 | _=>none
def extM:Ext:={AO with E:=mE}
theorem extM_ok:ExtOk extM:={G4 with
 E:=fun R i c X o e t h=>by
  have d:=(i c X o).1
  replace h:mE R c e=some t:=h
  unfold mE at h
  split at h
  ·rename_i u m v a j k
   split at h
   ·rename_i _ f
    cases h
    rw[BV3,BV3,BV3,BV3,CA3] at f
    obtain⟨⟨⟨⟨l,n⟩,g⟩,p⟩,q⟩:=f
    have r:m="get":=eq_of_beq l
    subst r
    have s:=JD d (a::j)
    have b:=g
    rw[BZ0,CB0] at b
    refine BG7 PySem.F.plainAttrs_dict PySem.F.slot_dict_get PySem.F.type_dict_get (AF3 o.un) (d _) s (UK p) ?_ n (F1 b.1 _ _) (IB b.2)
    rw[BV3,BV3]
    exact⟨⟨LH g,rfl⟩,by simpa using q⟩
   ·cases h
  ·cases h}
end L3
namespace CH
open PySem L2 L3
abbrev GD:List Str:=["rule","place","outer","deed","number"]
def Z6:TS3 :=
  (A8 (N8 (K7 (A7 GO.spAround (A0 (A4 0) (A0 (A4 1) A5)))) (N1 [2,3,4]) (C2 (B1 (A6 D7 (A6 C1 (A4 3) (tC3 (.int 0))) (tC3 (.str "while")))) (B4 (A4 2)) B6))
  (B4 (tC3 .non)))
abbrev GC:List Str:=["row"]
def Z5:TS3 :=
  (B4 (A6 (FG false) (A6 C1 (A4 0) (tC3 (.int 0))) (B9 (A0 (tC3 (.str "test")) (A0 (tC3 (.str "jump")) (A0 (tC3 (.str "leave")) (A0 (tC3 (.str "resume")) A5)))))))
abbrev ME:List Str:=["row"]
def DM:TS3 :=
  (A8 (C2 (B1 (A6 D7 (A6 C1 (A4 0) (tC3 (.int 0))) (tC3 (.str "done")))) (B4 (B9 (A0 (tC3 (.str "end")) A5))) B6)
  (A8 (C2 (CY (B1 (A6 D7 (A6 C1 (A4 0) (tC3 (.int 0))) (tC3 (.str "last")))) (B1 (A6 D7 (A6 C1 (A4 0) (tC3 (.int 0))) (tC3 (.str "resume"))))) (B4 (Y7 (A4 0) F7 (J8 (tC3 (.int 2))))) B6)
  (B4 (B9 (A0 (tC3 (.str "deed")) (A0 (A6 C1 (A4 0) (tC3 (.int 1))) A5))))))
abbrev AA2:List Str:=["told"]
def RW:TS3 :=
  (B4 (UL (B1 (A6 D7 (A6 C1 (A4 0) (tC3 (.int 0))) (tC3 (.str "test")))) (B9 (A0 (tC3 (.str "deed")) (A0 (A6 C1 (A4 0) (tC3 (.int 1))) A5))) (A4 0)))
abbrev XR:List Str:=["rule","place","outer"]
def LO:TS3 :=
  (A8 (C0 2 (A7 AM4 (A0 (A4 0) (A0 (A4 1) A5))))
  (B4 (UL (B1 (A6 UB (A4 2) (tC3 .non))) (P9 K0 (tC3 (.int 1))) (A7 (GO.spBehind 20) (A0 (A4 0) (A0 (A4 2) A5))))))
abbrev IZ:List Str:=["rule","block","ahead","rows","at"]
def BA (q_draft_block q_draft_inner q_draft_if q_draft_while q_draft_try q_draft_deed:Sp3):TS3 :=
  (A8 (C0 3 (J7 A5))
  (A8 (N7 (P1 (A0 (F0 D8 (A0 (A4 1) A5)) A5)) 4 (F4 (R5 "list" HM (A4 3) (A0 (A7 q_draft_deed (A0 (A4 0) (A0 (A6 D0 (A4 2) (B9 (A0 (A4 4) A5))) A5))) A5))))
  (B4 (A4 3))))
abbrev JA:List Str:=["rule","place","number"]
def BB (q_draft_block q_draft_inner q_draft_if q_draft_while q_draft_try q_draft_deed:Sp3):TS3 :=
  (B4 (A7 q_draft_block (A0 (A4 0) (A0 (A6 C1 (A7 MK.CS (A0 (A7 K12.spDeedAt (A0 (A4 0) (A0 (A4 1) A5))) A5)) (A4 2)) (A0 (A6 D0 (A4 1) (B9 (A0 (A4 2) A5))) A5)))))
abbrev SK:List Str:=["rule","place","deed","thens"]
def IM (q_draft_block q_draft_inner q_draft_if q_draft_while q_draft_try q_draft_deed:Sp3):TS3 :=
  (A8 (C2 (B1 (A6 D7 (F0 D8 (A0 (A6 C1 (A4 2) (tC3 (.int 3))) A5)) (tC3 (.int 0)))) (B4 (A6 G9 (F9 (A0 (B9 (A0 (tC3 (.str "test")) (A0 (A4 1) (A0 (A7 (GO.spBehind 20) (A0 (A4 0) (A0 (A4 1) A5))) A5)))) A5)) (A7 q_draft_inner (A0 (A4 0) (A0 (A4 1) (A0 (tC3 (.int 0)) A5)))))) B6)
  (A8 (C0 3 (A6 G9 (F9 (A0 (B9 (A0 (tC3 (.str "test")) (A0 (A4 1) (A0 (B9 (A0 (tC3 (.str "deed")) (A0 (A6 D0 (A4 1) (B9 (A0 (tC3 (.int 1)) (A0 (tC3 (.int 0)) A5)))) A5))) A5)))) A5)) (A7 q_draft_inner (A0 (A4 0) (A0 (A4 1) (A0 (tC3 (.int 0)) A5))))))
  (B4 (A6 G9 (A6 G9 (A4 3) (F9 (A0 (B9 (A0 (tC3 (.str "jump")) (A0 (A7 (GO.spBehind 20) (A0 (A4 0) (A0 (A4 1) A5))) A5))) A5))) (A7 q_draft_inner (A0 (A4 0) (A0 (A4 1) (A0 (tC3 (.int 1)) A5))))))))
abbrev JB:List Str:=["rule","place"]
def BC (q_draft_block q_draft_inner q_draft_if q_draft_while q_draft_try q_draft_deed:Sp3):TS3 :=
  (B4 (A6 G9 (A6 G9 (F9 (A0 (B9 (A0 (tC3 (.str "test")) (A0 (A4 1) (A0 (A7 (GO.spBehind 20) (A0 (A4 0) (A0 (A4 1) A5))) A5)))) A5)) (A7 q_draft_inner (A0 (A4 0) (A0 (A4 1) (A0 (tC3 (.int 0)) A5))))) (F9 (A0 (B9 (A0 (tC3 (.str "jump")) (A0 (B9 (A0 (tC3 (.str "test")) (A0 (A4 1) A5))) A5))) A5))))
abbrev PJ:List Str:=["rule","place","deed","after","rows","number","lasts"]
def EY (q_draft_block q_draft_inner q_draft_if q_draft_while q_draft_try q_draft_deed:Sp3):TS3 :=
  (A8 (C0 3 (UL (B1 (A7 (K12.spTold K12.hasL) (A0 (A4 2) A5))) (B9 (A0 (tC3 (.str "last")) (A0 (A4 1) A5))) (A7 (GO.spBehind 20) (A0 (A4 0) (A0 (A4 1) A5)))))
  (A8 (C0 4 (A6 G9 (F9 (A0 (B9 (A0 (tC3 (.str "open")) (A0 (A4 1) A5))) A5)) (A7 q_draft_inner (A0 (A4 0) (A0 (A4 1) (A0 (tC3 (.int 0)) A5))))))
  (A8 (N7 (GV (A0 (tC3 (.int 1)) (A0 (A6 D0 (F0 D8 (A0 (A6 C1 (A4 2) (tC3 (.int 2))) A5)) (tC3 (.int 1))) A5))) 5 (A8 (F4 (R5 "list" E7 (A4 4) (A0 (B9 (A0 (tC3 (.str "jump")) (A0 (A4 3) A5))) A5)))
  (F4 (R5 "list" HM (A4 4) (A0 (A7 q_draft_inner (A0 (A4 0) (A0 (A4 1) (A0 (A4 5) A5)))) A5)))))
  (A8 (C2 (AX (B1 (A7 (K12.spTold K12.hasL) (A0 (A4 2) A5)))) (B4 (A4 4)) B6)
  (A8 (C0 6 (A7 q_draft_inner (A0 (A4 0) (A0 (A4 1) (A0 (A6 D0 (F0 D8 (A0 (A6 C1 (A4 2) (tC3 (.int 2))) A5)) (tC3 (.int 1))) A5)))))
  (B4 (A6 G9 (A6 G9 (A6 G9 (A4 4) (F9 (A0 (B9 (A0 (tC3 (.str "last")) (A0 (A4 1) A5))) A5))) (A4 6)) (F9 (A0 (B9 (A0 (tC3 (.str "resume")) (A0 (A4 1) (A0 (A7 OM (A0 (A4 0) (A0 (A4 1) A5))) A5)))) A5)))))))))
abbrev MC:List Str:=["rule","place","deed"]
def DH (q_draft_block q_draft_inner q_draft_if q_draft_while q_draft_try q_draft_deed:Sp3):TS3 :=
  (A8 (C0 2 (A7 K12.spDeedAt (A0 (A4 0) (A0 (A4 1) A5))))
  (A8 (C2 (B1 (A6 D7 (A6 C1 (A4 2) (tC3 (.int 0))) (tC3 (.str "if")))) (B4 (A7 q_draft_if (A0 (A4 0) (A0 (A4 1) (A0 (A4 2) A5))))) B6)
  (A8 (C2 (B1 (A6 D7 (A6 C1 (A4 2) (tC3 (.int 0))) (tC3 (.str "while")))) (B4 (A7 q_draft_while (A0 (A4 0) (A0 (A4 1) A5)))) B6)
  (A8 (C2 (B1 (A6 D7 (A6 C1 (A4 2) (tC3 (.int 0))) (tC3 (.str "try")))) (B4 (A7 q_draft_try (A0 (A4 0) (A0 (A4 1) (A0 (A4 2) A5))))) B6)
  (A8 (C2 (B1 (A6 D7 (A6 C1 (A4 2) (tC3 (.int 0))) (tC3 (.str "leave")))) (B4 (J7 (A0 (B9 (A0 (tC3 (.str "leave")) (A0 (A4 1) (A0 (A7 OM (A0 (A4 0) (A0 (A4 1) A5))) A5)))) A5))) B6)
  (B4 (J7 (A0 (B9 (A0 (AW8 tblW (A6 C1 (A4 2) (tC3 (.int 0)))) (A0 (A4 1) A5))) A5))))))))
abbrev MD:List Str:=["draft"]
def DL:TS3 :=
  (B4 (OU (BG (A4 0)) 2 [] (N1 [0,1]) (B1 (A6 CN (A6 C1 (A4 1) (tC3 (.int 0))) (tC3 (.str "jump")))) (A7 HZ (A0 (A4 1) A5)) (A4 0)))
abbrev SL:List Str:=["row","numbers"]
def IR:TS3 :=
  (A8 (C2 (CY (AX (B1 (A7 XB (A0 (A4 0) A5)))) (B1 (A6 D7 (A6 C1 (A4 0) (P9 K0 (tC3 (.int 1)))) (P9 K0 (tC3 (.int 1)))))) (B4 (A4 0)) B6)
  (B4 (A6 D0 (Y7 (A4 0) F7 (J8 (P9 K0 (tC3 (.int 1))))) (B9 (A0 (A6 HP (A4 1) (A7 AZ4 (A0 (A6 C1 (A4 0) (P9 K0 (tC3 (.int 1)))) A5))) A5)))))
abbrev PK:List Str:=["rule","place","numbers","catches","last","first","own"]
def EZ:TS3 :=
  (A8 (C0 3 (F0 J9 (A0 (R6 (P1 (A0 (F0 D8 (A0 (A6 C1 (A7 K12.spDeedAt (A0 (A4 0) (A0 (A4 1) A5))) (tC3 (.int 2))) A5)) A5)) 1 [2,1] (K1 0) P6 (A6 HP (A4 1) (B9 (A0 (tC3 (.str "deed")) (A0 (A6 D0 (A4 2) (B9 (A0 (A6 D0 (A4 0) (tC3 (.int 1))) (A0 (tC3 (.int 0)) A5)))) A5))))) A5)))
  (A8 (C0 4 (AW7 NX (A4 2) (A0 (B9 (A0 (tC3 (.str "last")) (A0 (A4 1) A5))) (A0 (P9 K0 (tC3 (.int 1))) A5))))
  (A8 (C0 5 (A6 HP (A4 2) (B9 (A0 (tC3 (.str "deed")) (A0 (A6 D0 (A4 1) (B9 (A0 (tC3 (.int 0)) (A0 (tC3 (.int 0)) A5)))) A5)))))
  (A8 (C2 (B1 (A6 D7 (F0 D8 (A0 (A4 3) A5)) (tC3 (.int 0)))) (B4 (J7 (A0 (B9 (A0 (A4 5) (A0 (A4 4) (A0 (A4 1) (A0 (B9 A5) (A0 (A4 4) A5)))))) A5))) B6)
  (A8 (C0 6 (B9 (A0 (A4 5) (A0 (A6 C1 (A4 3) (tC3 (.int 0))) (A0 (A4 1) (A0 (A4 3) (A0 (A4 4) A5)))))))
  (B4 (UL (B1 (A6 D7 (A4 4) (P9 K0 (tC3 (.int 1))))) (J7 (A0 (A4 6) A5)) (J7 (A0 (A4 6) (A0 (B9 (A0 (A6 C1 (A4 3) (tC3 (.int 0))) (A0 (A4 4) (A0 (A4 1) (A0 (B9 A5) (A0 (A4 4) A5)))))) A5))))))))))
abbrev XQ:List Str:=["rule","draft","numbers","guards","place"]
def LM:TS3 :=
  (A8 (C0 1 (A6 G9 (A7 (JN 24) (A0 (A4 0) (A0 (A6 C1 (A4 0) (tC3 (.int 2))) (A0 (B9 A5) A5)))) (F9 (A0 (B9 (A0 (tC3 (.str "done")) A5)) A5))))
  (XG 1 (A8 (C0 2 (A7 AM2 (A0 (A4 1) A5)))
  (A8 (C0 3 (J7 A5))
  (A8 (N7 (K7 (LL (EF (A7 K11.spPlacesR (A0 (A4 0) A5))) (J8 (P9 K0 (tC3 (.int 1)))))) 4 (C2 (B1 (A6 D7 (A6 C1 (A7 K12.spDeedAt (A0 (A4 0) (A0 (A4 4) A5))) (tC3 (.int 0))) (tC3 (.str "try")))) (F4 (R5 "list" HM (A4 3) (A0 (A7 AZ6 (A0 (A4 0) (A0 (A4 4) (A0 (A4 2) A5)))) A5))) B6))
  (B4 (B9 (A0 (F0 J9 (A0 (R6 (K7 (A4 1)) 1 [2] (K1 0) P6 (A7 AM1 (A0 (A4 0) (A0 (A4 1) A5)))) A5)) (A0 (F0 J9 (A0 (A4 3) A5)) A5)))))))))
end CH
open L3
namespace CH
open PySem L2 L3 MK K11 K12 GO CD
def wd:Row->Str
 | .own w _=>w
 | .test _ _=>"test"
 | .jump _=>"jump"
 | .lv w _ _=>w
 | .done=>"done"
theorem R0 {Q:DK}(q:Q (.str (wd row)) M):C1 (J2 row) (.int 0) M Q:=by
 cases row<;>exact B2 rfl q
theorem FS {w:Str}(h:AG6 w)(a:(x="test"\/x="jump"\/x="leave"\/x="resume"\/x="done")):(w==x)=false:=by
 rcases h with rfl|rfl|rfl|rfl|rfl|rfl<;>rcases a with rfl|rfl|rfl|rfl|rfl<;>decide
theorem rd_tells_number:∀ds M Q,XB ds M Q->Z5 {nx:=fun _ M'=>View Q .non M',rt:=View Q} (B8 GC ds) M:=by
 rintro _ M Q ⟨row,rfl,b,q⟩
 unfold Z5
 walk_at "rd"
 refine R0 ?_
 walk_at "rd"
 refine AK5 (ys:=["test","jump","leave","resume"]) rfl ?_
 have e:(["test","jump","leave","resume"]:List Str).any (·==wd row)=tells row:=by
  cases row with
  | own w p =>
   have h:=fun x a=>FS (x:=x) b a
   have c:∀x:Str,(x==w)=(w==x):=fun x=>by
    cases a:(w==x)
    ·exact beq_eq_false_iff_ne.mpr fun e=>by rw[e] at a;simp at a
    ·rw[eq_of_beq a];simp
   simp only[BZ0,List.any_nil,wd,tells,c]
   rw[h "test" (.inl rfl),h "jump" (.inr (.inl rfl)),h "leave" (.inr (.inr (.inl rfl))),h "resume" (.inr (.inr (.inr (.inl rfl))))]
   rfl
  | test p d=>simp only[wd,tells];decide +kernel
  | jump d=>simp only[wd,tells];decide +kernel
  | lv w p d=>rcases b.1 with rfl|rfl<;>simp only[wd,tells]<;>decide +kernel
  | done=>simp only[wd,tells];decide +kernel
 rw[e,CI4]
 exact View.of q
theorem rd_stands_for:∀ds M Q,HZ ds M Q->DM {nx:=fun _ M'=>View Q .non M',rt:=View Q} (B8 ME ds) M:=by
 rintro _ M Q ⟨b,rfl,c,g,q⟩
 unfold DM
 walk_at "rd"
 refine R0 ?_
 walk_at "rd"
 cases b with
 | jump d=>cases g
 | done =>
  refine C8 (by simp only[wd];decide +kernel) ?_
  walk_at "rd"
  exact View.of q
 | test p d =>
  refine B5 (by simp only[wd];decide +kernel) ?_
  walk_at "rd"
  refine R0 ?_
  walk_at "rd"
  refine B5 (by simp only[wd];decide +kernel) ?_
  walk_at "rd"
  refine R0 ?_
  walk_at "rd"
  refine B5 (by simp only[wd];decide +kernel) ?_
  walk_at "rd"
  refine B2 (d:=plT p) rfl ?_
  walk_at "rd"
  exact View.of q
 | lv w p d =>
  rcases c.1 with rfl|rfl
  ·refine B5 (by simp only[wd];decide +kernel) ?_
   walk_at "rd"
   refine R0 ?_
   walk_at "rd"
   refine B5 (by simp only[wd];decide +kernel) ?_
   walk_at "rd"
   refine R0 ?_
   walk_at "rd"
   refine B5 (by simp only[wd];decide +kernel) ?_
   walk_at "rd"
   refine B2 (d:=plT p) rfl ?_
   walk_at "rd"
   exact View.of q
  ·refine B5 (by simp only[wd];decide +kernel) ?_
   walk_at "rd"
   refine R0 ?_
   walk_at "rd"
   refine B5 (by simp only[wd];decide +kernel) ?_
   walk_at "rd"
   refine R0 ?_
   walk_at "rd"
   refine C8 (by simp only[wd];decide +kernel) ?_
   walk_at "rd"
   exact View.of q
 | own w p =>
  refine B5 (FS c (by simp)) ?_
  walk_at "rd"
  refine R0 ?_
  walk_at "rd"
  by_cases f:w="last"
  ·subst f
   refine C8 (by simp only[wd];decide +kernel) ?_
   walk_at "rd"
   exact View.of q
  ·have a:(w==("last":Str))=false:=beq_eq_false_iff_ne.mpr f
   refine B5 a ?_
   walk_at "rd"
   refine R0 ?_
   walk_at "rd"
   refine B5 (FS c (by simp)) ?_
   walk_at "rd"
   refine B2 (d:=plT p) rfl ?_
   walk_at "rd"
   have e:C4 (.own w p)=kd p:=by simp only[C4];rw[if_neg (by rw[a];decide)]
   rw[e] at q
   exact View.of q
theorem BN3 {k:C7}{Q:DK}(q:Q (.str k.1) M):C1 (nkD k) (.int 0) M Q:=by
 obtain⟨w,p⟩:=k
 cases p<;>exact B2 rfl q
theorem rd_due_of:∀ds M Q,AZ4 ds M Q->RW {nx:=fun _ M'=>View Q .non M',rt:=View Q} (B8 AA2 ds) M:=by
 rintro _ M Q ⟨k,rfl,hk,q⟩
 unfold RW
 walk_at "rd"
 refine BN3 ?_
 walk_at "rd"
 obtain⟨w,p⟩:=k
 by_cases a:(w==("test":Str))=true
 ·refine C8 a ?_
  have b:=eq_of_beq a
  subst b
  rcases hk with⟨_,f⟩|hk
  ·cases p with
   | none=>exact absurd rfl f
   | some p =>
    walk_at "rd"
    refine B2 (d:=plT p) rfl ?_
    walk_at "rd"
    exact View.of q
  ·cases hk
 ·have c:(w==("test":Str))=false:=by simpa using a
  refine B5 c ?_
  walk_at "rd"
  have e:J1 (w,p)=(w,p):=by simp only[J1];rw[if_neg a]
  rw[e] at q
  exact View.of q
end CH
open L3
namespace CH
open PySem L2 L3 MK K11 K12 GO CD
def whF (l:List (List Int×Deed×Int)):Option (List Int):=(l.find? fun x=>isW x.2.1).map (·.1)
theorem rd_while_around:∀ds M Q,AM4 ds M Q->Z6 {nx:=fun _ M'=>View Q .non M',rt:=View Q} (B8 GD ds) M:=by
 rintro _ M Q ⟨r,p,d,rfl,s,t,q⟩
 unfold Z6
 walk_at "rd"
 refine⟨r,p,d,rfl,s,t,?_⟩
 walk_at "rd"
 have w:=BE p.length (BU4 _) t
 have q:Q (match whF (ar r.blk p) with|some q=>plT q|none=>.non) M:=q
 generalize ar r.blk p=L at *
 refine⟨fun k f g=>g=M/\(∃i l m,f=[some (rD r),some (plT p),i,l,m])/\whF (L.drop k)=whF L,⟨rfl,⟨_,_,_,rfl⟩,rfl⟩,?_,?_⟩
 ·rintro k y f g x ⟨rfl,⟨i,l,m,rfl⟩,a⟩
  obtain⟨⟨q',b,j⟩,u,rfl⟩:=FQ x
  have n:=w _ (BV2 u)
  have o:=OX s n
  obtain⟨h,v,z,A,_⟩:=CC b
  rw[BY u] at a
  refine J0 rfl ?_
  walk_at "rd"
  show C1 (dD b) _ _ _
  rw[z]
  refine B2 (d:=.str h) (B7 (j:=0) rfl) ?_
  walk_at "rd"
  rw[A o]
  cases e:isW b with
  | true =>
   have c:whF ((q',b,j)::L.drop (k+1))=some q':=by simp[whF,e]
   rw[c] at a
   rw[<-a] at q
   walk_at "rd"
   exact View.of q
  | false =>
   have c:whF ((q',b,j)::L.drop (k+1))=whF (L.drop (k+1)):=by simp[whF,e]
   rw[c] at a
   walk_at "rd"
   exact⟨rfl,⟨_,_,_,rfl⟩,a⟩
 ·rintro f g ⟨rfl,⟨i,l,m,rfl⟩,a⟩
  rw[BU2,CJ5] at a
  have c:whF []=none:=rfl
  rw[c] at a
  rw[<-a] at q
  walk_at "rd"
  exact View.of q
theorem rd_left_to:∀ds M Q,OM ds M Q->LO {nx:=fun _ M'=>View Q .non M',rt:=View Q} (B8 XR ds) M:=by
 rintro _ M Q ⟨r,p,d,rfl,b,f,q⟩
 unfold LO
 walk_at "rd"
 refine⟨r,p,d,rfl,b,f,?_⟩
 cases hA:whA r.blk p with
 | none =>
  have e:lfT r.blk p=none:=by unfold lfT;rw[hA];rfl
  rw[e] at q
  walk_at "rd"
  exact View.of q
 | some o =>
  have e:lfT r.blk p=some (bhN r.blk o):=by unfold lfT;rw[hA];rfl
  rw[e] at q
  have g:∃c,(o,c)∈prB r.blk [] 0:=by
   unfold whA at hA
   obtain⟨x,h,rfl⟩:=Option.map_eq_some_iff.mp hA
   exact⟨_,(BE p.length (BU4 _) f x (CF4 h)).at_⟩
  obtain⟨c,a⟩:=g
  walk_at "rd"
  refine B5 rfl ?_
  walk_at "rd"
  refine⟨r,o,c,rfl,b,a,by have:=O4 b a;lia,?_⟩
  rw[MM r.blk o.length o (BU4 _)]
  exact View.of q
end CH
open L3
namespace CH
open PySem L2 L3 MK K11 K12 GO CD
open TK (neD neB L5)
def drL (b:Blk):List Deed->List Int->Nat->List Row
 | [],_,_=>[]
 | d::l,ah,n=>drD b d (ah++[(n:Int)])++drL b l ah (n+1)
theorem AD4 (b:Blk):∀(bk:Blk) (ah:List Int) (n:Nat),drB b bk ah n=drL b (toL bk) ah n
 | .nil,_,_=>rfl
 | .cons d r,ah,n=>by simp[drB,toL,drL,AD4 b r]
theorem PX (b:Blk):∀(l:List Deed) (d:Deed) (ah:List Int) (n:Nat),drL b (l++[d]) ah n=drL b l ah n++drD b d (ah++[((n+l.length:Nat):Int)])
 | [],d,ah,n=>by simp[drL]
 | x::l,d,ah,n=>by
  simp only[List.cons_append,drL,PX b l d ah (n+1),BX5,BU8]
  rw[show n+1+l.length=n+(l.length+1) by lia]
theorem VL (b:Blk):∀(l k:List Deed) (ah:List Int) (n:Nat),drL b (l++k) ah n=drL b l ah n++drL b k ah (n+l.length)
 | [],k,ah,n=>by simp[drL]
 | x::l,k,ah,n=>by
  simp only[List.cons_append,drL,VL b l k ah (n+1),BX5,BU8]
  rw[show n+1+l.length=n+(l.length+1) by lia]
theorem AH {es:List Int}{Q:DK}(h:ah.length+es.length<=100)(q:Q (plT (ah++es)) M):D0 (plT ah) (.tup (es.map D.int)) M Q:=by
 refine U8 (by rw[BU2,BU2,BW2];lia) ?_
 rw[<-BX0];exact q
theorem NJ:∀(bk:Blk) (i:Nat) (d':Deed),neB bk->(toL bk)[i]?=some d'->neD d'
 | .nil,i,d',_,h=>by simp[toL] at h
 | .cons x y,0,d',a,h=>by
  have e:x=d':=by simpa[toL] using h
  subst e;exact a.1
 | .cons x y,i+1,d',a,h=>NJ y i d' a.2 (by simpa[toL] using h)
theorem BM3 {d0:Deed}{r:List Int}(g:Go d0 r d):neD d0->neD d:=by
 induction g with
 | nil=>exact id
 | @cons h bs j i bk a d r b c _ e=>exact fun f=>e (NJ bk i a (X5 bs j bk f.2 b) c)
theorem X9 (a:rFN r)(h:(p,d)∈prB r.blk [] 0):neD d:=by
 obtain⟨k,c,e,_,b,g⟩:=X8 r.blk [] 0 p d h
 exact BM3 g (NJ _ _ _ a.2 b)
theorem EB (e:rFN r)(h:(p,d)∈prB r.blk [] 0):G2 d<=100/\okD d/\dpD d<=4:=by
 have ok:=Y0 e.1.1 h
 obtain⟨k,q,d0,_,f,g⟩:=X8 r.blk [] 0 p d h
 have s:=P8 r.blk d0 (BV2 f)
 have n:∀{d0 d:Deed} {r:List Int},Go d0 r d->G2 d<=G2 d0/\dpD d<=dpD d0:=by
  intro d0 d r g
  induction g with
  | nil=>exact⟨BU4 _,BU4 _⟩
  | @cons h bs j i bk l d r f o _ m =>
   have a:=G8 bs bk (BV2 f)
   have b:=P8 bk l (BV2 o)
   simp only[G2,dpD]
   constructor
   ·have:=m.1;lia
   ·have:=m.2;have:dpD l<=W6 bs:=by lia
    lia
 obtain⟨a,c⟩:=n g
 exact⟨by have:=e.1.2.2;lia,ok,by have:=e.1.2.1;lia⟩
theorem SV (e:rFN r)(h:(p,d)∈prB r.blk [] 0):(drD r.blk d p).length<=300:=by
 obtain⟨a,b,c⟩:=EB e h
 have:=AQ3 (b:=r.blk) (G2 d) d p (BU4 _) b (X9 e h)
 lia
theorem O9 {Q:DK}{f:Addr}{M1:Mem}{l:List D}(b:M f=none)(h1:M1 f=some (.lst l))(h:∀a,M a≠none->M1 a=M a)(q:bkL M Q l):View Q (.ref f) M1 :=
 View.onlyR (fun a _ c=>h a c) (q f _ b (by rw[if_pos rfl];exact h1) fun x d=>by rw[if_neg d])
theorem zero_draft_block:∀ds M Q,¬JN 0 ds M Q:=by rintro _ _ _ ⟨_,_,_,_,_,_,_,_,_,_,h,_⟩;lia
theorem rd_draft_block:∀n ds M Q,JN (n+1) ds M Q->BA (JN n) (JO n) (CQ n) (OK n) (OJ n) (OI n) {nx:=fun _ M'=>View Q .non M',rt:=View Q} (B8 IZ ds) M:=by
 rintro m _ M Q ⟨r,bk,g,rfl,I,J,T,ok,ne,s,U,q⟩
 unfold BA
 walk_at "rd"
 intro f t
 walk_at "rd"
 have u:(dB bk).length=(toL bk).length:=by rw[KE,BU2]
 have F:=XJ bk
 rw[u]
 refine⟨by lia,by lia,fun k v l=>∃w,v=[some (rD r),some (.tup (dB bk)),some (plT g),some (.ref f),w]/\l f=some (.lst ((drL r.blk ((toL bk).take k) g 0).map J2))/\∀a,M a≠none->l a=M a,⟨_,rfl,B0,fun a o=>B3 fun e=>o (by rw[e];exact t)⟩,?_,?_⟩
 ·rintro k d v l K ⟨w,rfl,c,h⟩
  obtain⟨rfl,y⟩:=TK.rng_at K
  have y:k<(toL bk).length:=by simpa using y
  have i:=BV4 y
  have L:=s k _ i
  have N:=P8 bk _ (BV2 i)
  walk_at "rd"
  refine⟨.inl ⟨rfl,_,c⟩,?_⟩
  walk_at "rd"
  refine AH (es:=[(k:Int)]) (by simp;lia) ?_
  walk_at "rd"
  refine⟨r,g++[(k:Int)],_,rfl,I,L,by lia,fun a O o P j=>?_⟩
  walk_at "rd"
  have z:f≠a:=fun e=>by rw[e,o] at c;cases c
  have A:O f=some (.lst ((drL r.blk ((toL bk).take k) g 0).map J2)):=by rw[j f z];exact c
  have R:(toL bk).take (k+1)=(toL bk).take k++[(toL bk)[k]]:=by rw[CD9,i];rfl
  have S:((toL bk).take k).length=k:=by rw[BY1];lia
  have G:drL r.blk ((toL bk).take (k+1)) g 0=drL r.blk ((toL bk).take k) g 0++drD r.blk (toL bk)[k] (g++[(k:Int)]):=by
   rw[R,PX,S,BW6]
  have H:=AQ2 (AQ3 (b:=r.blk) (D5 bk)) bk g 0 (BU4 _) ok ne
  have B:(drL r.blk ((toL bk).take (k+1)) g 0).length<=(drB r.blk bk g 0).length:=by
   have e:=VL r.blk ((toL bk).take (k+1)) ((toL bk).drop (k+1)) g 0
   rw[CH0,<-AD4] at e
   rw[e,BU7];lia
  rw[G,BU7] at B
  refine⟨f,a,_,_,rfl,rfl,A,P,by rw[BU2,BU2,BW2];lia,?_⟩
  refine⟨_,rfl,by rw[B0,G,BX0],fun x p=>?_⟩
  have C:x≠f:=fun e=>p (by rw[e];exact t)
  have E:x≠a:=fun e=>by
   have:=h x p
   rw[e,o] at this
   exact p (by rw[e];exact this.symm)
  rw[B3 C,j x E];exact h x p
 ·rintro v l ⟨w,rfl,c,h⟩
  have e:(drL r.blk ((toL bk).take (List.map (fun k:Nat=>D.int ↑k) (BW8 (Int.toNat ((toL bk).length:Nat)))).length) g 0)=drB r.blk bk g 0:=by
   rw[AD4];simp
  rw[e] at c
  walk_at "rd"
  exact O9 t c h q
end CH
open L3
namespace CH
open PySem L2 L3 MK K11 K12 GO CD
open TK (neD neB L5)
theorem zero_draft_inner:∀ds M Q,¬JO 0 ds M Q:=by rintro _ _ _ ⟨_,_,_,_,_,_,_,_,_,_,h,_⟩;lia
theorem rd_draft_inner:∀n ds M Q,JO (n+1) ds M Q->BB (JN n) (JO n) (CQ n) (OK n) (OJ n) (OI n) {nx:=fun _ M'=>View Q .non M',rt:=View Q} (B8 JA ds) M:=by
 rintro m _ M Q ⟨r,p,h,bs,j,bk,rfl,b,c,e,v,q⟩
 unfold BB
 walk_at "rd"
 refine⟨r,p,.mk h bs,rfl,b.1,c,?_⟩
 walk_at "rd"
 obtain⟨g,ok,i⟩:=EB b c
 refine⟨h,bs,rfl,ok.1,?_⟩
 walk_at "rd"
 have f:atI (dTs bs) ((j:Nat):Int)=some (.tup (dB bk)):=by
  refine B7 ?_
  rw[O2,BV6,e];rfl
 refine S7 f ?_
 walk_at "rd"
 have w:=O4 b.1 c
 refine AH (es:=[(j:Int)]) (by simp;lia) ?_
 walk_at "rd"
 have l:=G8 bs bk (BV2 e)
 simp only[G2] at g
 exact⟨r,bk,p++[(j:Int)],rfl,b,by simp;lia,by lia,l.2.2 ok.2,X5 bs j bk (X9 b c).2 e,fun k d o=>by have:=U5 c e o;rwa [show p++[(j:Int)]++[(k:Int)]=p++[(j:Int),(k:Int)] by simp],by lia,fun a M' s t u=>View.of (q a M' s t u)⟩
theorem Q5 {m:Nat}{h:Head}{bs:Bls}{bk:Blk}{Q:DK}(b:rFN r)(c:(p,.mk h bs)∈prB r.blk [] 0)(h1:(C5 bs)[j]?=some bk)(d:4*W6 bs<=m+1)
  (q:∀a M',M a=none->M' a=some (.lst ((nth (C9 r.blk bs p 0) j).map J2))->(∀x,x≠a->M' x=M x)->Q (.ref a) M'):JO m [rD r,plT p,.int ((j:Nat):Int)] M Q:=by
 have e:=G8 bs bk (BV2 h1)
 refine⟨r,p,h,bs,j,bk,rfl,b,c,h1,by lia,?_⟩
 rw[K6 h1] at q
 exact q
theorem AB {Q:DK}(a:rFN r)(b:(p,d)∈prB r.blk [] 0)(q:Q (nkD (bhN r.blk p)) M):spBehind 20 [rD r,plT p] M Q :=
 ⟨r,p,d,rfl,a.1,b,by have:=O4 a.1 b;lia,by rw[MM r.blk p.length p (BU4 _)];exact q⟩
theorem zero_draft_while:∀ds M Q,¬OK 0 ds M Q:=by
 rintro _ _ _ ⟨r,p,e,bs,_,b,c,h,_⟩
 obtain⟨a,d,f⟩:=(X9 b c).1
 have:=G8 bs a (by rw[d];exact BV7)
 lia
theorem rd_draft_while:∀n ds M Q,OK (n+1) ds M Q->BC (JN n) (JO n) (CQ n) (OK n) (OJ n) (OI n) {nx:=fun _ M'=>View Q .non M',rt:=View Q} (B8 JB ds) M:=by
 rintro m _ M Q ⟨r,p,e,bs,rfl,h,i,A,q⟩
 unfold BC
 obtain⟨a,B,J⟩:=(X9 h i).1
 have C:(C5 bs)[0]?=some a:=by rw[B];rfl
 have c:=SV h i
 have D:drD r.blk (.mk (.whl e) bs) p=.test p (bhN r.blk p)::(nth (C9 r.blk bs p 0) 0++[.jump (kt p)]):=rfl
 rw[D] at q c
 simp only[BU8,BU7,BX3] at c
 walk_at "rd"
 refine AB h i ?_
 walk_at "rd"
 refine Q5 (j:=0) h i C A fun x E F u d=>?_
 refine N2 (.inl rfl) (.inr ⟨x,rfl,u⟩) (by rw[BU2,BW2];simp;lia) fun y G=>?_
 walk_at "rd"
 refine N2 (.inr ⟨y,rfl,B0⟩) (.inl rfl) (by rw[BW2];simp;lia) fun z k=>?_
 have o:z≠y:=fun e=>by rw[e,B0] at k;cases k
 have b:E z=none:=by rw[B3 o] at k;exact k
 have s:z≠x:=fun e=>by rw[e,u] at b;cases b
 have g:M z=none:=by rw[<-d z s];exact b
 refine O9 (f:=z) g (l:=(Row.test p (bhN r.blk p)::(nth (C9 r.blk bs p 0) 0++[Row.jump (kt p)])).map J2) (by rw[B0];simp[J2];rfl) (fun w t=>?_) q
 have H:w≠z:=fun e=>t (by rw[e];exact g)
 have v:w≠x:=fun e=>t (by rw[e];exact F)
 have I:w≠y:=fun e=>t (by rw[<-d w v,e];exact G)
 rw[B3 H,B3 I];exact d w v
end CH
open L3
namespace CH
open PySem L2 L3 MK K11 K12 GO CD
open TK (neD neB L5)
def keepM (M M1:Mem):Prop:=∀w,M w≠none->M1 w=M w
theorem keepM.refl:keepM M M:=fun _ _=>rfl
theorem keepM.bk {M1 M2:Mem}{x:Addr}(k:keepM M M1)(c:M1 x=none)(hs:∀w,w≠x->M2 w=M1 w):keepM M M2:=fun w b=>by
 have a:=k w b
 have:w≠x:=fun e=>by rw[e,c] at a;exact b (by rw[e];exact a.symm)
 rw[hs w this];exact a
theorem keepM.put {M1:Mem}{x:Addr}{o:MO}(k:keepM M M1)(a:M1 x=none):keepM M (D9 M1 x o):=k.bk a fun w b=>B3 b
theorem keepM.no {M1:Mem}{x:Addr}(k:keepM M M1)(a:M1 x=none):M x=none:=by
 cases e:M x with
 | none=>rfl
 | some o=>have:=k x (by rw[e];simp);rw[a,e] at this;cases this
theorem zero_draft_if:∀ds M Q,¬CQ 0 ds M Q:=by
 rintro _ _ _ ⟨r,p,e,bs,_,b,c,h,_⟩
 obtain⟨a,z,d,f⟩:=(X9 b c).1
 have:=G8 bs a (by rw[d];exact BV7)
 lia
theorem rd_draft_if:∀n ds M Q,CQ (n+1) ds M Q->IM (JN n) (JO n) (CQ n) (OK n) (OJ n) (OI n) {nx:=fun _ M'=>View Q .non M',rt:=View Q} (B8 SK ds) M:=by
 rintro m _ M Q ⟨r,p,e,bs,rfl,f,g,B,q⟩
 unfold IM
 obtain⟨a,z,s,V⟩:=(X9 f g).1
 have J:(C5 bs)[0]?=some a:=by rw[s];rfl
 have N:(C5 bs)[1]?=some z:=by rw[s];rfl
 have b:=SV f g
 have O:=O4 f.1 g
 have hD:dD (.mk (.ife e) bs)=.tup [.str "if",e,.tup (dB a),.tup (dB z)]:=by
  show D.tup (.str "if"::e::dTs bs)=_
  rw[O2,s];rfl
 have P:(C5 bs).getD 1 .nil=z:=by rw[s];rfl
 have R:drD r.blk (.mk (.ife e) bs) p=if E1 z then .test p (bhN r.blk p)::nth (C9 r.blk bs p 0) 0 else .test p (kd (p++[1,0]))::(nth (C9 r.blk bs p 0) 0++.jump (bhN r.blk p)::nth (C9 r.blk bs p 0) 1):=by
  show rowsOf r.blk p (.ife e) (C5 bs) _=_
  simp only[rowsOf,P]
 rw[R] at q b
 rw[hD]
 walk_at "rd"
 refine B2 (d:=.tup (dB z)) rfl ?_
 walk_at "rd"
 by_cases c:E1 z=true
 ·rw[if_pos c] at q b
  have:=HE c
  subst this
  simp only[BU8] at b
  refine C8 rfl ?_
  walk_at "rd"
  refine AB f g ?_
  walk_at "rd"
  refine Q5 (j:=0) f g J B fun x S C i k=>?_
  refine N2 (.inl rfl) (.inr ⟨x,rfl,i⟩) (by rw[BU2,BW2];simp;lia) fun y t=>?_
  have A:=keepM.refl.bk C k
  exact O9 (A.no t) (by rw[B0];simp[J2]) (A.put t) q
 ·rw[if_neg c] at q b
  simp only[BU8,BU7] at b
  have E:¬(dB z).length=0:=fun h=>c (by cases z with|nil=>rfl|cons d r=>simp[dB] at h)
  refine B5 (by simp;intro h;exact E (by rw[h];rfl)) ?_
  walk_at "rd"
  refine AH (es:=[1,0]) (by simp;lia) ?_
  walk_at "rd"
  refine Q5 (j:=0) f g J B fun x S C i k=>?_
  refine N2 (.inl rfl) (.inr ⟨x,rfl,i⟩) (by rw[BU2,BW2];simp;lia) fun y t=>?_
  have A:=(keepM.refl.bk C k).put (o:=.lst ([D.tup [.str "test",plT p,.tup [.str "deed",plT (p++[1,0])]]]++(nth (C9 r.blk bs p 0) 0).map J2)) t
  walk_at "rd"
  refine AB f g ?_
  walk_at "rd"
  refine N2 (.inr ⟨y,rfl,B0⟩) (.inl rfl) (by rw[BW2];simp;lia) fun u T=>?_
  have U:=A.put (o:=.lst (([D.tup [.str "test",plT p,.tup [.str "deed",plT (p++[1,0])]]]++(nth (C9 r.blk bs p 0) 0).map J2)++[D.tup [.str "jump",nkD (bhN r.blk p)]])) T
  walk_at "rd"
  refine Q5 (j:=1) f g N B fun v M3 F G l=>?_
  have H:u≠v:=fun e=>by rw[e,B0] at F;cases F
  have I:=(l u H).trans B0
  refine N2 (.inr ⟨u,rfl,I⟩) (.inr ⟨v,rfl,G⟩) (by rw[BW2];simp;lia) fun w K=>?_
  have L:=U.bk F l
  exact O9 (L.no K) (by rw[B0];simp[J2];rfl) (L.put K) q
end CH
open L3
namespace CH
open PySem L2 L3 MK K11 K12 GO CD
open TK (neD neB L5)
theorem AL2 (w:Str)(h:w="let"\/w="give"\/w="on"\/w="note"\/w="close"\/w="end"\/w="ask"\/w="cast"\/w="fault"):BW0 w tblW=some (K2 w)/\(w==("leave":Str))=false:=by
 rcases h with rfl|rfl|rfl|rfl|rfl|rfl|rfl|rfl|rfl<;>decide +kernel
theorem TB {h:Str}{a:List D}(ok:FX h a):h="leave"\/(h="let"\/h="give"\/h="on"\/h="note"\/h="close"\/h="end"\/h="ask"\/h="cast"\/h="fault"):=by
 rcases ok with⟨h,_⟩|⟨h,_⟩|⟨h,_⟩|⟨h,_⟩|⟨h,_⟩|⟨h,_⟩
 ·rcases h with h|h|h<;>simp[h]
 ·rcases h with h|h|h<;>simp[h]
 ·simp[h]
 ·simp[h]
 ·exact .inl h
 ·simp[h]
theorem zero_draft_deed:∀ds M Q,¬OI 0 ds M Q:=by rintro _ _ _ ⟨_,_,_,_,_,_,h,_⟩;lia
theorem rd_draft_deed:∀n ds M Q,OI (n+1) ds M Q->DH (JN n) (JO n) (CQ n) (OK n) (OJ n) (OI n) {nx:=fun _ M'=>View Q .non M',rt:=View Q} (B8 MC ds) M:=by
 rintro m _ M Q ⟨r,p,d,rfl,c,f,y,q⟩
 unfold DH
 walk_at "rd"
 refine⟨r,p,d,rfl,c.1,f,?_⟩
 obtain⟨h,bs⟩:=d
 obtain⟨i,z⟩:=QI h (dTs bs)
 have A:dD (.mk h bs)=.tup (.str (O0 h)::i):=z
 have ok:=(EB c f).2.1
 simp only[dpD] at y
 have b:∀{M:Mem} {Q:DK},Q (.str (O0 h)) M->C1 (dD (.mk h bs)) (.int 0) M Q:=fun q=>by
  rw[A];exact B2 (B7 (j:=0) rfl) q
 walk_at "rd"
 refine b ?_
 walk_at "rd"
 cases h with
 | ife e =>
  refine C8 rfl ?_
  walk_at "rd"
  exact⟨r,p,e,bs,rfl,c,f,by lia,fun a M' k l o=>View.of (q a M' k l o)⟩
 | whl e =>
  refine B5 (by simp only[O0];decide +kernel) ?_
  walk_at "rd"
  refine b ?_
  walk_at "rd"
  refine C8 rfl ?_
  walk_at "rd"
  exact⟨r,p,e,bs,rfl,c,f,by lia,fun a M' k l o=>View.of (q a M' k l o)⟩
 | tr B =>
  refine B5 (by simp only[O0];decide +kernel) ?_
  walk_at "rd"
  refine b ?_
  walk_at "rd"
  refine B5 (by simp only[O0];decide +kernel) ?_
  walk_at "rd"
  refine b ?_
  walk_at "rd"
  refine C8 rfl ?_
  walk_at "rd"
  exact⟨r,p,B,bs,rfl,c,f,by lia,fun a M' k l o=>View.of (q a M' k l o)⟩
 | leaf w u =>
  obtain⟨C,D,E⟩:=U1 ok.1.2
  have s:∀(x:Row) (a:Addr),drD r.blk (.mk (.leaf w u) bs) p=[x]->M a=none->View Q (.ref a) (D9 M a (.lst [J2 x])):=fun x a ex g=>by
   rw[ex] at q
   exact O9 g B0 (keepM.refl.put g) q
  have t:drD r.blk (.mk (.leaf w u) bs) p=if w=="leave" then[.lv "leave" p (lfT r.blk p)] else[.own (K2 w) p]:=rfl
  refine B5 C ?_
  walk_at "rd"
  refine b ?_
  walk_at "rd"
  refine B5 D ?_
  walk_at "rd"
  refine b ?_
  walk_at "rd"
  refine B5 E ?_
  walk_at "rd"
  refine b ?_
  walk_at "rd"
  rcases TB ok.1.2 with rfl|hw
  ·refine C8 rfl ?_
   walk_at "rd"
   refine⟨r,p,_,rfl,c.1,f,?_⟩
   walk_at "rd"
   intro a g
   exact s (.lv "leave" p (lfT r.blk p)) a t g
  ·obtain⟨F,v⟩:=AL2 w hw
   rw[if_neg (by rw[v];decide)] at t
   refine B5 v ?_
   walk_at "rd"
   refine b ?_
   refine⟨w,K2 w,rfl,F,?_⟩
   walk_at "rd"
   intro a g
   exact s (.own (K2 w) p) a t g
end CH
open L3
namespace CH
open PySem L2 L3 MK K11 K12 GO CD
open TK (neD neB L5)
def IS (q_draft_block q_draft_inner q_draft_if q_draft_while q_draft_try q_draft_deed:Sp3):TS3 :=
  (A8 (C0 4 (A6 G9 (F9 (A0 (B9 (A0 (tC3 (.str "open")) (A0 (A4 1) A5))) A5)) (A7 q_draft_inner (A0 (A4 0) (A0 (A4 1) (A0 (tC3 (.int 0)) A5))))))
  (A8 (N7 (GV (A0 (tC3 (.int 1)) (A0 (A6 D0 (F0 D8 (A0 (A6 C1 (A4 2) (tC3 (.int 2))) A5)) (tC3 (.int 1))) A5))) 5 (A8 (F4 (R5 "list" E7 (A4 4) (A0 (B9 (A0 (tC3 (.str "jump")) (A0 (A4 3) A5))) A5)))
  (F4 (R5 "list" HM (A4 4) (A0 (A7 q_draft_inner (A0 (A4 0) (A0 (A4 1) (A0 (A4 5) A5)))) A5)))))
  (A8 (C2 (AX (B1 (A7 (K12.spTold K12.hasL) (A0 (A4 2) A5)))) (B4 (A4 4)) B6)
  (A8 (C0 6 (A7 q_draft_inner (A0 (A4 0) (A0 (A4 1) (A0 (A6 D0 (F0 D8 (A0 (A6 C1 (A4 2) (tC3 (.int 2))) A5)) (tC3 (.int 1))) A5)))))
  (B4 (A6 G9 (A6 G9 (A6 G9 (A4 4) (F9 (A0 (B9 (A0 (tC3 (.str "last")) (A0 (A4 1) A5))) A5))) (A4 6)) (F9 (A0 (B9 (A0 (tC3 (.str "resume")) (A0 (A4 1) (A0 (A7 OM (A0 (A4 0) (A0 (A4 1) A5))) A5)))) A5))))))))
theorem keepM.set {M1:Mem}{x:Addr}{o:MO}(k:keepM M M1)(b:M x=none):keepM M (D9 M1 x o):=fun w a=>by
 rw[B3 fun e=>a (by rw[e];exact b)];exact k w a
theorem YE {af:C7}(xs:List (List Row))(k:Nat):((xs.take k).flatMap (fun l=>Row.jump af::l)).length<=(xs.flatMap (fun l=>Row.jump af::l)).length:=by
 have e:xs.flatMap (fun l=>Row.jump af::l)=(xs.take k).flatMap (fun l=>Row.jump af::l)++(xs.drop k).flatMap (fun l=>Row.jump af::l):=by
  rw[<-CD3,CH0]
 rw[e,BU7];lia
theorem zero_draft_try:∀ds M Q,¬OJ 0 ds M Q:=by
 rintro _ _ _ ⟨r,p,e,bs,_,b,c,h,_⟩
 obtain⟨a,f,z,d,_⟩:=(X9 b c).1
 have:=G8 bs a (by rw[d];exact BV7)
 lia
theorem rd_draft_try:∀n ds M Q,OJ (n+1) ds M Q->EY (JN n) (JO n) (CQ n) (OK n) (OJ n) (OI n) {nx:=fun _ M'=>View Q .non M',rt:=View Q} (B8 PJ ds) M:=by
 rintro m _ M Q ⟨r,p,b,bs,rfl,t,u,S,q⟩
 unfold EY
 obtain⟨a,ms,z,J,T,ha,hms,hcz⟩:=(X9 t u).1
 have h0:(C5 bs)[0]?=some a:=by rw[J];rfl
 have C:(C5 bs)[b.length+1]?=some z:=by rw[J,<-T];simp
 have A:=SV t u
 have hpl:=O4 t.1 u
 have ok:=(EB t u).2.1
 have hcs3:b.length<=3:=ok.1.2.1
 have hL:=AE C
 have hz:(C5 bs).getD (b.length+1) .nil=z:=by simp[CA8,C]
 generalize o:(if E1 z=true then bhN r.blk p else kl p)=af
 have U:(CA6 b.length (BY9 1 (C9 r.blk bs p 0))).length=b.length:=by
  rw[BY1,CD5,W7,<-K5,J];simp;lia
 have V:∀k,k<b.length->(CA6 b.length (BY9 1 (C9 r.blk bs p 0)))[k]?=some (nth (C9 r.blk bs p 0) (k+1))/\∃bk,(C5 bs)[k+1]?=some bk:=fun k W=>by
  have Z:k+1<(C5 bs).length:=by rw[J];simp;lia
  have hg:=BV4 Z
  refine⟨?_,_,hg⟩
  rw[BZ6 W,CA7,CB1,K6 hg]
  have:=Q4 r.blk bs p 0 (k+1) _ hg
  rwa [BW6] at this
 have ed:drD r.blk (.mk (.tr b) bs) p=.own "open" p::(nth (C9 r.blk bs p 0) 0++(CA6 b.length (BY9 1 (C9 r.blk bs p 0))).flatMap (fun l=>.jump af::l)++(if E1 z=true then[] else .own "last" p::(nth (C9 r.blk bs p 0) (b.length+1)++[.lv "resume" p (lfT r.blk p)]))):=by
  rw[<-o]
  show rowsOf r.blk p (.tr b) (C5 bs) _=_
  simp only[rowsOf,hz]
 rw[ed] at q A
 generalize CA6 b.length (BY9 1 (C9 r.blk bs p 0))=xs at *
 have hD:∃t0 t3,dD (.mk (.tr b) bs)=.tup [.str "try",t0,.tup (E5 b (dTs bs).tail),t3]:=⟨_,_,rfl⟩
 obtain⟨t0,t3,hD⟩:=hD
 have K:(E5 b (dTs bs).tail).length=b.length:=by
  rw[O2,J]
  show(E5 b ((ms++[z]).map MK.tB)).length=_
  rw[BX0,W4 b (ms.map MK.tB) _ (by rw[BU2];lia),W3 b _ (by rw[BU2];lia)]
 have L:∀{M:Mem} {Q:DK},Q (.bl (hasL (.mk (.tr b) bs))) M->spTold hasL [dD (.mk (.tr b) bs)] M Q:=fun q=>⟨_,rfl,ok,q⟩
 have B:IS (JN m) (JO m) (CQ m) (OK m) (OJ m) (OI m) {nx:=fun _ M'=>View Q .non M',rt:=View Q} [some (rD r),some (plT p),some (dD (.mk (.tr b) bs)),some (nkD af),none,none,none] M:=by
  unfold IS
  walk_at "rd"
  refine Q5 (j:=0) t u h0 S fun x M1 hx hx1 hs1=>?_
  have c:=A
  simp only[BU8,BU7] at c
  refine N2 (.inl rfl) (.inr ⟨x,rfl,hx1⟩) (by rw[BU2,BW2];simp;lia) fun y hy=>?_
  have k1:=keepM.refl.bk hx hs1
  have E:=k1.no hy
  walk_at "rd"
  refine AW1 ?_
  walk_at "rd"
  rw[hD]
  refine B2 (d:=.tup (E5 b (dTs bs).tail)) rfl ?_
  walk_at "rd"
  rw[K]
  refine⟨1,(b.length:Int)+1,rfl,⟨by decide,by decide,by lia,by lia⟩,?_⟩
  refine⟨fun k σ P=>∃s5,σ=[some (rD r),some (plT p),some (.tup [.str "try",t0,.tup (E5 b (dTs bs).tail),t3]),some (nkD af),some (.ref y),s5,none]/\P y=some (.lst ((Row.own "open" p::(nth (C9 r.blk bs p 0) 0++(xs.take k).flatMap (fun l=>.jump af::l))).map J2))/\keepM M P,⟨_,rfl,by rw[B0];simp[J2],k1.put hy⟩,?_,?_⟩
  ·rintro k d σ P hd ⟨s5,rfl,i,v⟩
   have W:k<b.length:=by
    have:=(List.getElem?_eq_some_iff.mp hd).1
    simp at this
    lia
   have hdd:d=.int ((k+1:Nat):Int):=by
    have h2:=hd
    rw[BV6,CA2 (by lia)] at h2
    have I:=Option.some.inj h2
    rw[<-I];show D.int (1+(k:Int))=_;congr 1;lia
   subst hdd
   obtain⟨hx0,bk,hbk⟩:=V k W
   have et:xs.take (k+1)=xs.take k++[nth (C9 r.blk bs p 0) (k+1)]:=by rw[CD9,hx0];rfl
   have R:(xs.take (k+1)).flatMap (fun l=>Row.jump af::l)=(xs.take k).flatMap (fun l=>Row.jump af::l)++(.jump af::nth (C9 r.blk bs p 0) (k+1)):=by
    rw[et,CD3];simp
   have hle:=YE (af:=af) xs (k+1)
   rw[R,BU7,BU8] at hle
   walk_at "rd"
   refine⟨.inl ⟨rfl,_,i⟩,?_⟩
   walk_at "rd"
   refine L4 i (by rw[BU2,BU8,BU7,BW2];lia) ?_
   walk_at "rd"
   refine⟨.inl ⟨rfl,_,B0⟩,?_⟩
   walk_at "rd"
   refine Q5 (j:=k+1) t u hbk S fun a3 M3 F I s=>?_
   have hya:y≠a3:=fun e=>by rw[<-e,B0] at F;cases F
   have G:=(s y hya).trans B0
   walk_at "rd"
   refine⟨y,a3,_,_,rfl,rfl,G,I,by rw[BU7,BU2,BU2,BU8,BU7,BW2];simp only[BU8,BX3];lia,?_⟩
   refine⟨_,rfl,?_,((v.set E).bk F s).set E⟩
   rw[B0,R]
   simp[J2]
  ·rintro σ P ⟨s5,rfl,i,v⟩
   have R:xs.take (List.map (fun k:Nat=>D.int (1+(k:Int))) (BW8 ((b.length:Int)+1-1).toNat)).length=xs:=by
    rw[BU2,CG3,show((b.length:Int)+1-1).toNat=b.length by lia,<-U,CF7]
   rw[R] at i
   rw[<-hD]
   walk_at "rd"
   refine L ?_
   rw[hL]
   walk_at "rd"
   by_cases h:E1 z=true
   ·rw[if_pos h] at q c
    refine C8 (by simpa using h) ?_
    walk_at "rd"
    rw[CA9] at q
    exact O9 E i v q
   ·rw[if_neg h] at q c
    simp only[BU8,BU7,BX3] at c
    refine B5 (by simpa using h) ?_
    walk_at "rd"
    rw[hD]
    refine B2 (d:=.tup (E5 b (dTs bs).tail)) rfl ?_
    walk_at "rd"
    rw[K]
    refine Q5 (j:=b.length+1) t u C S fun b3 M3 H I s=>?_
    have hyb:y≠b3:=fun e=>by rw[<-e,i] at H;cases H
    have G:=(s y hyb).trans i
    have k3:=v.bk H s
    walk_at "rd"
    refine N2 (.inr ⟨y,rfl,G⟩) (.inl rfl) (by rw[BU2,BU8,BU7,BW2];simp only[BU8,BX3];lia) fun c4 w=>?_
    walk_at "rd"
    have hbc:b3≠c4:=fun e=>by rw[<-e,I] at w;cases w
    refine N2 (.inr ⟨c4,rfl,B0⟩) (.inr ⟨b3,rfl,by rw[B3 hbc];exact I⟩) (by rw[BU7,BU2,BU2,BU8,BU7,BW2];simp only[BU8,BX3];lia) fun c5 N=>?_
    walk_at "rd"
    refine⟨r,p,_,rfl,t.1,u,?_⟩
    walk_at "rd"
    refine N2 (.inr ⟨c5,rfl,B0⟩) (.inl rfl) (by rw[BU7,BU7,BU2,BU2,BU8,BU7,BW2];simp only[BU8,BX3];lia) fun c6 O=>?_
    refine O9 (f:=c6) (((k3.put w).put N).no O) B0 (((k3.put w).put N).put O) ?_
    have e9:∀X Y:List Row,((X.map J2++[D.tup [.str "last",plT p]])++Y.map J2)++[D.tup [.str "resume",plT p,ldD (lfT r.blk p)]]=(X++Row.own "last" p::(Y++[Row.lv "resume" p (lfT r.blk p)])).map J2:=fun X Y=>by simp[J2]
    rw[e9]
    simpa using q
 walk_at "rd"
 refine L ?_
 rw[hL]
 walk_at "rd"
 by_cases h:E1 z=true
 ·rw[h]
  refine B5 rfl ?_
  walk_at "rd"
  refine AB t u ?_
  rw[if_pos h] at o
  rw[o]
  exact B
 ·refine C8 (by simpa using h) ?_
  rw[if_neg h] at o
  subst o
  refine rd_tupE.g ?_
  refine rd_cons.g ?_
  refine rd_c.g ?_
  refine rd_cons.g ?_
  refine OC rfl ?_
  refine rd_nil.g ?_
  refine⟨by simp only[BU8,BX3];decide,?_⟩
  exact B
end CH
open L3
namespace CH
open PySem L2 L3 MK K11 K12 GO CD
theorem HH:∀(l:List Row) (r:Row) (n:Nat),C6 n (l++[r])=C6 n l++(if isJ r then[] else[(C4 r,.int ((n+l.length:Nat):Int))])
 | [],r,n=>by simp only[List.nil_append,C6];split<;>simp
 | x::l,r,n=>by
  have a:=HH l r (n+1)
  simp only[List.cons_append,C6,a,BU8]
  rw[show n+1+l.length=n+(l.length+1) by lia]
  split<;>simp
theorem DX:∀{l:List (C7×D)} {k:C7},k∉l.map (·.1)->BW0 k l=none
 | [],_,_=>rfl
 | (x,d)::l,k,h=>by
  simp only[BX1,BZ3,not_or] at h
  have:(k==x)=false:=beq_eq_false_iff_ne.mpr h.1
  simp only[BW0,this]
  exact DX h.2
theorem RO (a:rW row):(wd row==("jump":Str))=isJ row:=by
 cases row with
 | own w p=>exact FS a (by simp)
 | test p d=>simp only[wd,isJ];decide +kernel
 | jump d=>simp only[wd,isJ];decide +kernel
 | lv w p d=>rcases a.1 with rfl|rfl<;>simp only[wd,isJ]<;>decide +kernel
 | done=>simp only[wd,isJ];decide +kernel
theorem RF:∀(l:List D) (i k:Nat) (d:D),(prs i l)[k]?=some d->∃x,l[k]?=some x/\d=.tup [.int ((i+k:Nat):Int),x]
 | [],i,k,d,h=>by simp[prs] at h
 | x::l,i,0,d,h=>⟨x,rfl,by simpa[prs] using h.symm⟩
 | x::l,i,k+1,d,h=>by
  obtain⟨y,a,b⟩:=RF l (i+1) k d (by simpa[prs] using h)
  exact⟨y,by simpa using a,by rw[b,show i+1+k=i+(k+1) by lia]⟩
theorem RG:∀(l:List D) (i:Nat),(prs i l).length=l.length
 | [],_=>rfl
 | x::l,i=>by simp[prs,RG l (i+1)]
theorem AK7 {ti:TI3}{n:Nat}{slots:List Nat}{g:TG3}{tk tv:TE3}{Q:DK}(h:ti σ M fun ds M1=>∀p,M1 p=none->∃Pv:Nat->List (C7×D)->Mem->Prop,Pv 0 [] (D9 M1 p (.dn [])) /\
 (∀k d a M,ds[k]?=some d->Pv k a M->g d (BX2 n none++slots.map fun j=>(σ[j]?).getD none) M fun c e=>tt c e fun b M'=>if b=true then tbN tk tv p a (Pv (k+1)) c M' else Pv (k+1) a M') /\
 ∀a M,Pv ds.length a M->M p=some (.dn a)/\Q (.ref p) M):OU ti n slots g tt tk tv σ M Q:=h
theorem rd_numbers_of:∀ds M Q,AM2 ds M Q->DL {nx:=fun _ M'=>View Q .non M',rt:=View Q} (B8 MD ds) M:=by
 rintro _ M Q ⟨L,rfl,s,f,m,q⟩
 unfold DL
 walk_at "rd"
 refine AK7 ?_
 walk_at "rd"
 intro p t
 refine⟨fun k c i=>c=C6 0 (L.take k)/\i=D9 M p (.dn c),⟨rfl,rfl⟩,?_,?_⟩
 ·rintro k d c i n ⟨rfl,rfl⟩
  obtain⟨x,h,rfl⟩:=RF _ 0 k d n
  rw[BW6] at n ⊢
  rw[BV6] at h
  obtain⟨a,b,rfl⟩:=Option.map_eq_some_iff.mp h
  have u:k<L.length:=(List.getElem?_eq_some_iff.mp b).1
  have o:=s a (BV2 b)
  have j:L.take (k+1)=L.take k++[a]:=by rw[CD9,b];rfl
  have v:(L.take k).length=k:=by rw[BY1];lia
  refine J0 rfl ?_
  walk_at "rd"
  show C1 (J2 a) (.int 0) _ _
  refine R0 ?_
  walk_at "rd"
  rw[RO o]
  cases hj:isJ a with
  | true =>
   refine B5 rfl ?_
   exact⟨by rw[j,HH,hj];simp,rfl⟩
  | false =>
   refine C8 rfl ?_
   have w:C6 0 (L.take (k+1))=C6 0 (L.take k)++[(C4 a,.int (k:Int))]:=by
    rw[j,HH,hj,v,BW6];rfl
   have g:BW0 (C4 a) (C6 0 (L.take k))=none:=by
    refine DX ?_
    rw[CJ]
    intro y
    have e:=K4 (L.take (k+1)) (L.drop (k+1))
    rw[CH0,j,K4] at e
    rw[e] at f
    have z:=(List.nodup_append.mp f).1
    have A:=(List.nodup_append.mp z).2.2 _ y (C4 a) (by rw[L0,hj];simp[X1])
    exact A rfl
   show A7 HZ _ _ _ _
   walk_at "rd"
   refine⟨a,rfl,o,hj,?_⟩
   walk_at "rd"
   have l:(C6 0 (L.take k)).length<BV8:=by
    have:=congrArg CB7 (CJ (L.take k) 0)
    rw[BU2] at this
    rw[this,BW2]
    unfold keys
    rw[BU2]
    have:=CJ9 (fun r=>!isJ r) (L.take k)
    lia
   refine⟨C4 a,rfl,g,B0,l,?_⟩
   rw[YS]
   exact⟨w.symm,rfl⟩
 ·rintro c i ⟨rfl,rfl⟩
  refine⟨B0,?_⟩
  rw[RG,BU2,CF7]
  exact View.of (q p _ t B0 fun x h=>B3 h)
theorem TF {k:C7}(h:nOk k):dOk (nkD k)/\∀i:Int,CB2 (pyD (nkD k)) (pyD (.int i))=false:=by
 rcases h with⟨a,b⟩|rfl
 ·obtain⟨w,p⟩:=k
  cases p with
  | none=>exact absurd rfl b
  | some p =>
   obtain⟨c,d,e⟩:=NB p
   have f:PyData.strOk w=true:=by
    have a:w="deed"\/w="test"\/w="last"\/w="resume":=a
    rcases a with rfl|rfl|rfl|rfl<;>decide +kernel
   refine⟨⟨by simpa[nkD,L3.plain,X7] using c,by simpa[nkD,pyD,AR,PyData.canLay0,PyData.canLayAll0,f] using d,?_⟩,fun i=>by simp[nkD,pyD,CB2]⟩
   simp[nkD,pyD,AR,PyData.depth,PyData.depthAll,e]
 ·exact⟨⟨rfl,by decide +kernel,by decide +kernel⟩,fun i=>by simp[nkD,pyD,CB2]⟩
theorem rd_numbered:∀ds M Q,AM1 ds M Q->IR {nx:=fun _ M'=>View Q .non M',rt:=View Q} (B8 SL ds) M:=by
 rintro _ M Q ⟨L,h,a,rfl,o,f,b,q⟩
 unfold IR
 walk_at "rd"
 refine⟨h,rfl,f,?_⟩
 walk_at "rd"
 cases h with
 | own w p=>exact C8 rfl (by walk_at "rd";exact View.of q)
 | done=>exact C8 rfl (by walk_at "rd";exact View.of q)
 | test p k =>
  obtain⟨j,c⟩:=b k rfl
  obtain⟨i,l⟩:=TF (show nOk k from f)
  have m:Q (.tup [.str "test",plT p,.int j]) M:=by
   have e:numOf L k=.int j:=by unfold numOf;rw[c];rfl
   have n:Q (.tup [.str "test",plT p,numOf L k]) M:=q
   rwa [e] at n
  refine B5 rfl ?_
  walk_at "rd"
  refine B2 (d:=nkD k) rfl ?_
  walk_at "rd"
  refine HR i BH (l _) ?_
  walk_at "rd"
  show Y1 (.tup [.str "test",plT p,nkD k]) none (some (-1)) M _
  refine rd_slWT.g ?_
  rw[show cutD [.str "test",plT p,nkD k] none (some (-1))=[.str "test",plT p] from rfl]
  walk_at "rd"
  refine B2 (d:=nkD k) rfl ?_
  walk_at "rd"
  refine⟨k,rfl,f,?_⟩
  refine⟨a,_,J1 k,_,rfl,o,rfl,c,?_⟩
  walk_at "rd"
  refine U8 (by simp only[BU8,BX3];decide) ?_
  exact View.of m
 | jump k =>
  obtain⟨j,c⟩:=b k rfl
  obtain⟨i,l⟩:=TF (show nOk k from f)
  have m:Q (.tup [.str "jump",.int j]) M:=by
   have e:numOf L k=.int j:=by unfold numOf;rw[c];rfl
   have n:Q (.tup [.str "jump",numOf L k]) M:=q
   rwa [e] at n
  refine B5 rfl ?_
  walk_at "rd"
  refine B2 (d:=nkD k) rfl ?_
  walk_at "rd"
  refine HR i BH (l _) ?_
  walk_at "rd"
  show Y1 (.tup [.str "jump",nkD k]) none (some (-1)) M _
  refine rd_slWT.g ?_
  rw[show cutD [.str "jump",nkD k] none (some (-1))=[.str "jump"] from rfl]
  walk_at "rd"
  refine B2 (d:=nkD k) rfl ?_
  walk_at "rd"
  refine⟨k,rfl,f,?_⟩
  refine⟨a,_,J1 k,_,rfl,o,rfl,c,?_⟩
  walk_at "rd"
  refine U8 (by simp only[BU8,BX3];decide) ?_
  exact View.of m
 | lv w p k =>
  refine B5 rfl ?_
  cases k with
  | none =>
   walk_at "rd"
   refine B2 (d:=.int (-1)) rfl ?_
   walk_at "rd"
   exact View.of q
  | some k =>
   obtain⟨j,c⟩:=b k rfl
   obtain⟨i,l⟩:=TF (f.2 k rfl)
   have m:Q (.tup [.str w,plT p,.int j]) M:=by
    have e:numOf L k=.int j:=by unfold numOf;rw[c];rfl
    have n:Q (.tup [.str w,plT p,numOf L k]) M:=q
    rwa [e] at n
   walk_at "rd"
   refine B2 (d:=nkD k) rfl ?_
   walk_at "rd"
   refine HR i BH (l _) ?_
   walk_at "rd"
   show Y1 (.tup [.str w,plT p,nkD k]) none (some (-1)) M _
   refine rd_slWT.g ?_
   rw[show cutD [.str w,plT p,nkD k] none (some (-1))=[.str w,plT p] from rfl]
   walk_at "rd"
   refine B2 (d:=nkD k) rfl ?_
   walk_at "rd"
   refine⟨k,rfl,f.2 k rfl,?_⟩
   refine⟨a,_,J1 k,_,rfl,o,rfl,c,?_⟩
   walk_at "rd"
   refine U8 (by simp only[BU8,BX3];decide) ?_
   exact View.of m
end CH
open L3
namespace CH
open PySem L2 L3 MK K11 K12 GO CD
open TK (neD neB L5)
theorem FR:∀(L:List Row) (n:Nat) (k:C7) (d:D),BW0 k (C6 n L)=some d->∃j:Nat,d=.int (j:Int)
 | [],n,k,d,h=>by simp[C6] at h
 | r::L,n,k,d,h=>by
  simp only[C6] at h
  split at h
  ·exact FR L (n+1) k d h
  ·simp only[BW0] at h
   split at h
   ·cases h;exact⟨n,rfl⟩
   ·exact FR L (n+1) k d h
theorem KA {b:Blk}(ok:okB b){h:Head}{bs:Bls}(c:(p,.mk h bs)∈prB b [] 0){bk:Blk}(h1:(C5 bs)[j]?=some bk)(a:bk≠.nil) :
  ∃n:Nat,BW0 (kd (p++[(j:Int),0])) (C6 0 (A9 b))=some (.int (n:Int))/\numOf (A9 b) (kd (p++[(j:Int),0]))=.int (n:Int):=by
 cases bk with
 | nil=>exact absurd rfl a
 | cons d r =>
  obtain⟨n,_,e,f,_⟩:=NO (T2 ok (U5 c h1 (i:=0) (d:=d) rfl))
  exact⟨n,e,f⟩
theorem rd_guards_of:∀ds M Q,AZ6 ds M Q->EZ {nx:=fun _ M'=>View Q .non M',rt:=View Q} (B8 PK ds) M:=by
 rintro _ M Q ⟨r,p,b,bs,a,rfl,i,u,l,m,q⟩
 have v:rFN r:=⟨i,u⟩
 unfold EZ
 obtain⟨b0,w,z,t,S,T,x,U⟩:=(X9 v l).1
 have ok:=(EB v l).2.1
 have G:b.length<=3:=ok.1.2.1
 have V:=O4 v.1 l
 have y:(E5 b (dTs bs).tail).length=b.length:=by
  rw[O2,t]
  show(E5 b ((w++[z]).map MK.tB)).length=_
  rw[BX0,W4 b (w.map MK.tB) _ (by rw[BU2];lia),W3 b _ (by rw[BU2];lia)]
 have hD:∃H I,dD (.mk (.tr b) bs)=.tup [.str "try",H,.tup (E5 b (dTs bs).tail),I]:=⟨_,_,rfl⟩
 obtain⟨H,I,hD⟩:=hD
 walk_at "rd"
 refine⟨r,p,_,rfl,i,l,?_⟩
 walk_at "rd"
 rw[hD]
 refine B2 (d:=.tup (E5 b (dTs bs).tail)) rfl ?_
 walk_at "rd"
 rw[y]
 refine⟨by lia,by lia,?_⟩
 refine Q1 (BW8 (b.length:Int).toNat) (fun k=>D.int (k:Nat)) (fun k=>numOf (A9 r.blk) (kd (p++[((k+1:Nat):Int),0]))) (fun _=>true) (by rw[CG3,BW2];lia) ?_ ?_
 ·intro k J M2 R F W X hF
  have J:k<b.length:=by simpa using J
  have A:k+1<(C5 bs).length:=by rw[t];simp;lia
  have K:=BV4 A
  have B:(C5 bs)[k+1]≠.nil:=by
   have e:(C5 bs)[k+1]?=some w[k]:=by rw[t,BZ8,BW7 (by lia),BV4 (by lia)]
   rw[K] at e
   rw[Option.some.inj e]
   exact x _ (CC5 _)
  obtain⟨n,L,N⟩:=KA i.1 l K B
  walk_at "rd"
  have O:((k+1:Nat):Int)=(k:Int)+1:=by lia
  rw[O] at L N
  refine AH (es:=[(k:Int)+1,0]) (by simp;lia) ?_
  walk_at "rd"
  refine⟨a,_,kd (p++[(k:Int)+1,0]),_,rfl,(W a (by rw[m];simp)).trans m,rfl,L,?_⟩
  rw[<-N,<-O]
  exact X rfl
 have h:(BW8 (b.length:Int).toNat).filter (fun _=>true)=BW8 b.length:=by rw[List.filter_eq_self.2 fun _ _=>rfl,Int.toNat_natCast]
 rw[h]
 generalize P:(BW8 b.length).map (fun k=>numOf (A9 r.blk) (kd (p++[((k+1:Nat):Int),0])))=C
 have Y:C.length=b.length:=by rw[<-P];simp
 walk_at "rd"
 refine⟨a,_,rfl,m,?_⟩
 walk_at "rd"
 refine⟨a,_,kl p,_,rfl,m,rfl,?_⟩
 walk_at "rd"
 refine AH (es:=[0,0]) (by simp;lia) ?_
 walk_at "rd"
 have Z:(C5 bs)[0]?=some b0:=by rw[t];rfl
 obtain⟨n0,f1,f2⟩:=KA i.1 l Z T
 refine⟨a,_,kd (p++[0,0]),_,rfl,m,rfl,f1,?_⟩
 walk_at "rd"
 have E:numOf (A9 r.blk) (kd (p++[0,0]))=D.int (n0:Int):=f2
 generalize g:(BW0 (kl p) (C6 0 (A9 r.blk))).getD (D.int (-1))=la
 have o:numOf (A9 r.blk) (kl p)=la:=g
 unfold grd at q
 rw[P,o,E] at q
 cases C with
 | nil =>
  refine C8 rfl ?_
  walk_at "rd"
  intro f h
  walk_at "rd"
  exact O9 h (by rw[B0]) (keepM.refl.put h) q
 | cons c C' =>
  refine B5 (by simp;lia) ?_
  walk_at "rd"
  have s:atI (c::C') 0=some c:=B7 (j:=0) rfl
  refine B2 (d:=c) s ?_
  walk_at "rd"
  cases hlk:BW0 (kl p) (C6 0 (A9 r.blk)) with
  | none =>
   rw[hlk] at g q
   obtain rfl:la=D.int (-1):=g.symm
   walk_at "rd"
   refine C8 rfl ?_
   walk_at "rd"
   intro f h
   exact O9 h (by rw[B0];rfl) (keepM.refl.put h) q
  | some d =>
   obtain⟨j,rfl⟩:=FR _ _ _ _ hlk
   rw[hlk] at g q
   obtain rfl:la=D.int (j:Int):=g.symm
   walk_at "rd"
   refine B5 (by simp) ?_
   walk_at "rd"
   refine B2 (d:=c) s ?_
   walk_at "rd"
   intro f h
   exact O9 h (by rw[B0];rfl) (keepM.refl.put h) q
end CH
open L3
namespace CH
open PySem L2 L3 MK K11 K12 GO CD
open TK (neD neB L5)
theorem AB0 (b:Blk):∀(n:Nat) (p:List Int),p.length<=n->nOk (bhN b p)
 | 0,p,h=>by
  rw[bhN]
  split
  ·exact .inl ⟨.inl rfl,by simp⟩
  ·rw[dif_neg (by lia)];exact .inr rfl
 | n+1,p,h=>by
  rw[bhN]
  split
  ·exact .inl ⟨.inl rfl,by simp⟩
  ·by_cases a:1<p.length
   ·rw[dif_pos a]
    split
    ·exact .inl ⟨.inr (.inl rfl),by simp⟩
    ·split
     ·split
      ·exact .inl ⟨.inr (.inr (.inr rfl)),by simp⟩
      ·exact .inl ⟨.inr (.inr (.inl rfl)),by simp⟩
     ·exact AB0 b n (G7 p) (by have:=K3 a;lia)
   ·rw[dif_neg a];exact .inr rfl
theorem bhK (b:Blk)(p:List Int):nOk (bhN b p):=AB0 b _ p (BU4 _)
theorem AF1 (b:Blk)(p:List Int):∀k∈lfT b p,nOk k:=by
 intro k a
 unfold lfT at a
 obtain⟨q,_,rfl⟩:=Option.map_eq_some_iff.mp a
 exact bhK b q
theorem AN5 (w:Str):AG6 (K2 w):=by
 unfold K2 AG6
 split
 ·exact .inr (.inl rfl)
 ·split
  ·exact .inr (.inr (.inl rfl))
  ·split
   ·exact .inr (.inr (.inr (.inl rfl)))
   ·exact .inl rfl
theorem DZ {b:List (List Row)}(h:∀l∈b,∀x∈l,rW x)(j:Nat):∀x∈nth b j,rW x:=by
 intro x a
 unfold nth at a
 rw[CI0] at a
 cases e:b[j]? with
 | none=>rw[e] at a;cases a
 | some l=>rw[e] at a;exact h l (BV2 e) x a
theorem AW4 (b:Blk)(p:List Int)(h:Head)(d:List Blk)(c:List (List Row))(a:∀l∈c,∀x∈l,rW x):∀x∈rowsOf b p h d c,rW x:=by
 intro x hx
 cases h with
 | leaf w g =>
  simp only[rowsOf] at hx
  split at hx
  ·rw[List.mem_singleton.mp hx];exact⟨.inl rfl,AF1 b p⟩
  ·rw[List.mem_singleton.mp hx];exact AN5 w
 | ife e =>
  simp only[rowsOf] at hx
  split at hx
  ·rcases BZ3.mp hx with rfl|hx
   ·exact bhK b p
   ·exact DZ a 0 x hx
  ·rcases BZ3.mp hx with rfl|hx
   ·exact .inl ⟨.inl rfl,by simp⟩
   ·rcases List.mem_append.mp hx with hx|hx
    ·exact DZ a 0 x hx
    ·rcases BZ3.mp hx with rfl|hx
     ·exact bhK b p
     ·exact DZ a 1 x hx
 | whl e =>
  simp only[rowsOf] at hx
  rcases BZ3.mp hx with rfl|hx
  ·exact bhK b p
  ·rcases List.mem_append.mp hx with hx|hx
   ·exact DZ a 0 x hx
   ·rw[List.mem_singleton.mp hx];exact .inl ⟨.inr (.inl rfl),by simp⟩
 | tr i =>
  simp only[rowsOf] at hx
  rcases BZ3.mp hx with rfl|hx
  ·exact .inr (.inr (.inr (.inr (.inl rfl))))
  ·rcases List.mem_append.mp hx with hx|hx
   ·rcases List.mem_append.mp hx with hx|hx
    ·exact DZ a 0 x hx
    ·obtain⟨l,f,h2⟩:=List.mem_flatMap.mp hx
     rcases BZ3.mp h2 with rfl|h2
     ·show nOk _
      split
      ·exact bhK b p
      ·exact .inl ⟨.inr (.inr (.inl rfl)),by simp⟩
     ·exact a l (List.mem_of_mem_drop (List.mem_of_mem_take f)) x h2
   ·split at hx
    ·cases hx
    ·rcases BZ3.mp hx with rfl|hx
     ·exact .inr (.inr (.inr (.inr (.inr rfl))))
     ·rcases List.mem_append.mp hx with hx|hx
      ·exact DZ a _ x hx
      ·rw[List.mem_singleton.mp hx];exact⟨.inr rfl,AF1 b p⟩
mutual
theorem SU (b:Blk):∀(k:Blk) (ah:List Int) (i:Nat),∀x∈drB b k ah i,rW x
 | .nil,_,_,x,hx=>by simp[drB] at hx
 | .cons d r,ah,i,x,hx=>by
  rw[drB] at hx
  rcases List.mem_append.mp hx with hx|hx
  ·exact BC9 b d _ x hx
  ·exact SU b r ah (i+1) x hx
theorem BC9 (b:Blk):∀(d:Deed) (p:List Int),∀x∈drD b d p,rW x
 | .mk h bs,p,x,a=>by
  rw[drD] at a
  exact AW4 b p h _ _ (VJ b bs p 0) x a
theorem VJ (b:Blk):∀(bs:Bls) (p:List Int) (j:Nat),∀l∈C9 b bs p j,∀x∈l,rW x
 | .nil,_,_,l,hl=>by simp[C9] at hl
 | .cons k r,p,j,l,hl=>by
  rw[C9] at hl
  rcases BZ3.mp hl with rfl|hl
  ·exact SU b k _ 0
  ·exact VJ b r p (j+1) l hl
end
theorem BX (b:Blk):∀x∈A9 b,rW x:=by
 intro x hx
 rcases List.mem_append.mp hx with hx|hx
 ·exact SU b b [] 0 x hx
 ·rw[List.mem_singleton.mp hx];trivial
end CH
open L3
namespace CH
open PySem L2 L3 MK K11 K12 GO CD
open TK (neD neB L5)
theorem YC {b:Blk}(ok:okB b)(ne:neB b)(f:row∈A9 b):∀k,BL6 row=some k->∃j:Int,BW0 (J1 k) (C6 0 (A9 b))=some (.int j):=by
 intro k c
 suffices h:Fnd (A9 b) k by
  obtain⟨j,_,e,_⟩:=NO h
  exact⟨j,e⟩
 obtain⟨i,g⟩:=CC8 f
 cases Z9 ok ne i row g with
 | stop _ _=>cases c
 | deed _ _ _ _ _ _=>cases c
 | leave a=>exact AE1 ok a c
 | testE a l m _ =>
  cases c
  rename_i e bs p z _
  cases z with
  | nil=>exact absurd rfl m
  | cons d r=>exact T2 ok (U5 a l (i:=0) (d:=d) rfl)
 | testI a _ _=>cases c;exact DS ok _ _ _ (BU4 _) a
 | testW a _=>cases c;exact DS ok _ _ _ (BU4 _) a
 | jmp a h =>
  cases c
  rcases h with rfl|rfl|⟨rfl,n⟩
  ·exact DS ok _ _ _ (BU4 _) a
  ·exact GS ok a
  ·exact(W9 ok a n).1
 | opn _ _=>cases c
 | lst _ _ _=>cases c
 | res a _ _=>exact AE1 ok a c
 | done=>cases c
def gr (b:Blk)(x:List Int×Deed):List D:=match x.2 with
 | .mk (.tr cs) _=>grd (A9 b) x.1 cs.length
 | _=>[]
theorem MX (b:Blk):GT b=((prB b [] 0).reverse).flatMap (gr b):=rfl
theorem VR (L:List Row)(p:List Int)(n:Nat):(grd L p n).length<=2:=by
 simp only[grd]
 split
 ·simp
 ·split<;>simp
theorem BD5 (b:Blk)(x:List Int×Deed):(gr b x).length<=2:=by
 unfold gr
 split
 ·exact VR _ _ _
 ·simp
theorem MY (b:Blk):∀l:List (List Int×Deed),(l.flatMap (gr b)).length<=2*l.length
 | []=>by simp
 | x::l=>by
  have:=MY b l
  have:=BD5 b x
  rw[CB4,BU7,BU8]
  lia
theorem rd_code_of:∀ds M Q,spCode ds M Q->LM {nx:=fun _ M'=>View Q .non M',rt:=View Q} (B8 XQ ds) M:=by
 rintro _ M Q ⟨r,rfl,⟨ok,ne,nn,E,G⟩,q⟩
 unfold LM
 have v:=KI ok ne
 walk_at "rd"
 refine B2 (d:=.tup (dB r.blk)) rfl ?_
 walk_at "rd"
 have l:U7 r:=⟨ok,E,by lia⟩
 refine⟨r,r.blk,[],rfl,⟨l,ne⟩,by simp,by lia,ok,ne,?_,by lia,fun a M1 ha h1 H=>?_⟩
 ·intro k d T
  exact TZ T
 walk_at "rd"
 have I:(A9 r.blk).map J2=(drB r.blk r.blk [] 0).map J2++[J2 .done]:=by unfold A9;rw[BX0];rfl
 refine N2 (.inr ⟨a,rfl,h1⟩) (.inl rfl) (by unfold A9 at v;rw[BU7] at v;rw[BU2,BW2];simp at v ⊢;lia) fun y hy=>?_
 with_reducible refine BJ6 rfl B0 ?_
 walk_at "rd"
 refine⟨A9 r.blk,by rw[I];rfl,BX r.blk,G0 r.blk,by lia,fun n M2 W z s=>?_⟩
 walk_at "rd"
 intro g X
 walk_at "rd"
 refine⟨r,rfl,ok,E,by lia,fun c M3 Y h3 A=>?_⟩
 refine⟨c,_,rfl,h3,?_⟩
 walk_at "rd"
 have ed:(List.map J2 (drB r.blk r.blk [] 0)++[D.tup [D.str "done"]])=(A9 r.blk).map J2:=I.symm
 have B:g≠c:=fun e=>by rw[e,B0] at Y;cases Y
 have J:n≠g:=fun e=>by rw[e] at z;rw[X] at z;cases z
 have K:M2 c=none:=by rwa [B3 (fun e=>B e.symm)] at Y
 have L:n≠c:=fun e=>by rw[e] at z;rw[K] at z;cases z
 rw[QQ hy] at W
 have s:∀x,x≠n->M2 x=M1 x:=fun x i=>(s x i).trans (by rw[QQ hy])
 have N:∀x,M x≠none->x≠g:=by
  intro x i
  have C:=H x fun e=>i (by rw[e];exact ha)
  have O:=s x fun e=>i (by rw[<-C,e];exact W)
  exact fun e=>i (by rw[<-C,<-O,e];exact X)
 have Z:∀x,M x≠none->J4 M3 c x=M x:=by
  intro x i
  have C:=H x fun e=>i (by rw[e];exact ha)
  have O:=s x fun e=>i (by rw[<-C,e];exact W)
  have xg:x≠g:=fun e=>i (by rw[<-C,<-O,e];exact X)
  have xc:x≠c:=fun e=>i (by rw[<-C,<-O,e];exact K)
  rw[I0 xc,A x xc,B3 xg,O,C]
 have eW:(List.map plT (plB r.blk [] 0)).reverse=((prB r.blk [] 0).reverse).map fun x=>plT x.1:=by rw[<-S2,CC6,<-List.map_reverse];rfl
 rw[eW]
 have hWl:((prB r.blk [] 0).reverse).length<=30:=by rw[CF9,FT];exact G
 refine⟨fun k σ M'=>∃s4,σ=[some (rD r),some (.lst ((A9 r.blk).map J2)),some (.ref n),some (.ref g),s4]/\M' g=some (.lst ((((prB r.blk [] 0).reverse).take k).flatMap (gr r.blk)))/\M' n=some (.dn (C6 0 (A9 r.blk)))/\∀x,M x≠none->M' x=M x,⟨none,by rw[ed];rfl,?_,?_,Z⟩,?_,?_⟩
 ·rw[I0 B,A g B,B0];rfl
 ·rw[I0 L,A n L,B3 J,z]
 ·rintro k d σ M4 T ⟨s4,rfl,b,f,m⟩
  rw[BV6] at T
  obtain⟨⟨p,U⟩,i,rfl⟩:=Option.map_eq_some_iff.mp T
  have hp:(p,U)∈prB r.blk [] 0:=List.mem_reverse.mp (BV2 i)
  have hkl:k<((prB r.blk [] 0).reverse).length:=(List.getElem?_eq_some_iff.mp i).1
  have V:((prB r.blk [] 0).reverse).take (k+1)=((prB r.blk [] 0).reverse).take k++[(p,U)]:=by rw[CD9,i];rfl
  walk_at "rd"
  refine⟨r,p,U,rfl,l,hp,?_⟩
  obtain⟨h,bs⟩:=U
  obtain⟨P,eh⟩:=QI h (dTs bs)
  have e':dD (.mk h bs)=.tup (.str (O0 h)::P):=eh
  have okd:=(EB ⟨l,ne⟩ hp).2.1
  have ix:∀{M:Mem} {Q:DK},Q (.str (O0 h)) M->C1 (dD (.mk h bs)) (.int 0) M Q:=fun q=>by
   rw[e'];exact B2 (B7 (j:=0) rfl) q
  walk_at "rd"
  refine ix ?_
  walk_at "rd"
  cases h with
  | tr cs =>
   refine C8 rfl ?_
   walk_at "rd"
   refine⟨.inl ⟨rfl,_,b⟩,?_⟩
   walk_at "rd"
   refine⟨r,p,cs,bs,n,rfl,l,ne,hp,f,fun u M5 S h5 o=>?_⟩
   walk_at "rd"
   have hgu:g≠u:=fun e=>by rw[<-e,b] at S;cases S
   have hnu:n≠u:=fun e=>by rw[<-e,f] at S;cases S
   have l1:=MY r.blk (((prB r.blk [] 0).reverse).take k)
   have l2:=VR (A9 r.blk) p cs.length
   have l3:(((prB r.blk [] 0).reverse).take k).length<=30:=by rw[BY1];lia
   refine⟨g,u,_,_,rfl,rfl,(o g hgu).trans b,h5,by rw[BW2];lia,?_⟩
   refine⟨_,rfl,by rw[B0,V,CD3];simp[gr],by rw[B3 J,o n hnu,f],fun x i=>?_⟩
   have e4:=m x i
   have hxg:x≠g:=N x i
   have hxu:x≠u:=fun e=>i (by rw[<-e4,e];exact S)
   rw[B3 hxg,o x hxu,e4]
  | ife e =>
   refine B5 (by simp only[O0];decide +kernel) ?_
   walk_at "rd"
   exact⟨_,rfl,by rw[V,CD3];simpa[gr] using b,f,m⟩
  | whl e =>
   refine B5 (by simp only[O0];decide +kernel) ?_
   walk_at "rd"
   exact⟨_,rfl,by rw[V,CD3];simpa[gr] using b,f,m⟩
  | leaf w rs =>
   obtain⟨n1,n2,n3⟩:=U1 okd.1.2
   refine B5 n3 ?_
   walk_at "rd"
   exact⟨_,rfl,by rw[V,CD3];simpa[gr] using b,f,m⟩
 ·rintro σ M4 ⟨s4,rfl,b,f,m⟩
  rw[BU2,CF7,<-MX] at b
  walk_at "rd"
  refine Q1 (A9 r.blk) J2 (V8 (A9 r.blk)) (fun _=>true) (by rw[BW2];lia) ?_ ?_
  ·intro row t M5 R F o hR hF
   walk_at "rd"
   refine⟨A9 r.blk,row,n,rfl,(o n (by rw[f];simp)).trans f,BX _ _ t,YC ok ne t,?_⟩
   exact hR rfl
  rw[List.filter_eq_self.2 fun _ _=>rfl]
  walk_at "rd"
  refine⟨_,b,?_⟩
  walk_at "rd"
  exact View.keep m q
end CH
namespace GU
open PySem L2 L3 MK K11 K12 GO CD CH
open TK (neD neB L5)
theorem GY (nd:(keys L).Nodup){r r':Row}(hi:L[i]?=some r)(b:L[j]?=some r')(c:isJ r=false)(d:isJ r'=false)(e:C4 r=C4 r'):i=j:=by
 have a:=T3 L 0 i r nd hi c
 have f:=T3 L 0 j r' nd b d
 rw[e,f] at a
 injection a with a
 injection a with a
 lia
theorem DR (b:Blk)(d:Deed)(p:List Int):∃r l,drD b d p=r::l/\C4 r=kd p/\isJ r=false:=by
 obtain⟨r,l,e,c,a⟩:=BW b d p
 refine⟨r,l,e,?_,a⟩
 rw[<-c]
 cases r<;>first|rfl|cases a
theorem AM6 {b:Blk}{s s':Nat}(x:Sub (A9 b) s (drD b d p))(y:Sub (A9 b) s' (drD b d p)):s=s':=by
 obtain⟨r,l,e,c,a⟩:=DR b d p
 rw[e] at x y
 exact GY (G0 b) x.head y.head a a rfl
theorem XN (b:Blk){bs:Bls}{a z:Blk}{e:List Blk}(f:C5 bs=a::(e++[z]))(c:e.length=cs.length) :
  drD b (.mk (.tr cs) bs) q=.own "open" q::(drB b a (q++[0]) 0++((((C9 b bs q 0).drop 1).take cs.length).flatMap (fun l=>Row.jump (if E1 z then bhN b q else kl q)::l)++(if E1 z then[] else .own "last" q::(drB b z (q++[((cs.length+1:Nat):Int)]) 0++[.lv "resume" q (lfT b q)])))):=by
 have h:(C5 bs)[0]?=some a:=by rw[f];rfl
 have g:(C5 bs)[cs.length+1]?=some z:=by rw[f];simp[c]
 have d:(C5 bs).getD (cs.length+1) .nil=z:=by simp[CA8,g]
 show rowsOf b q (.tr cs) (C5 bs) (C9 b bs q 0)=_
 simp only[rowsOf,d]
 rw[K6 h,K6 g,BX5]
 rfl
theorem AO5 (b:Blk){h:Head}{bs:Bls}(ok:hOk h (bsl bs)){bk:Blk}(h1:(C5 bs)[j]?=some bk)(g:bk≠.nil) :
  ∃A B,drD b (.mk h bs) q=A++(drB b bk (q++[(j:Int)]) 0++B)/\1<=A.length:=by
 have m:=K5 bs
 have r:j<(C5 bs).length:=(List.getElem?_eq_some_iff.mp h1).1
 have a:=K6 (b:=b) (p:=q) h1
 show∃A B,rowsOf b q h (C5 bs) (C9 b bs q 0)=_/\_
 cases h with
 | leaf w u=>have:=ok.1;lia
 | ife e =>
  have n:bsl bs=2:=ok.1
  simp only[rowsOf]
  by_cases f:E1 ((C5 bs).getD 1 .nil)=true
  ·rw[if_pos f]
   have c:j=0:=by
    rcases CD1 0 j with hj|hj
    ·have i:j=1:=by lia
     subst i
     simp only[CA8,h1,CF3] at f
     exact absurd (HE f) g
    ·lia
   subst c
   exact⟨[.test q (bhN b q)],[],by rw[a];simp,by simp⟩
  ·rw[if_neg f]
   have hj:j=0\/j=1:=by lia
   rcases hj with rfl|rfl
   ·rw[a];exact⟨[.test q ("deed",some (q++[1,0]))],_,rfl,by simp⟩
   ·rw[a];exact⟨.test q ("deed",some (q++[1,0]))::(nth (C9 b bs q 0) 0++[.jump (bhN b q)]),[],by simp,by simp⟩
 | whl e =>
  have n:bsl bs=1:=ok.1
  have c:j=0:=by lia
  subst c
  simp only[rowsOf]
  rw[a]
  exact⟨[.test q (bhN b q)],_,rfl,by simp⟩
 | tr d =>
  have n:bsl bs=d.length+2:=ok.1
  simp only[rowsOf]
  generalize f:E1 ((C5 bs).getD (d.length+1) .nil)=k
  generalize s:(if k=true then bhN b q else("last",some q))=af
  by_cases c:j=0
  ·subst c
   rw[a,BX5]
   exact⟨[.own "open" q],_,rfl,by simp⟩
  by_cases o:j<=d.length
  ·have t:(CA6 d.length (BY9 1 (C9 b bs q 0)))[j-1]?=some (drB b bk (q++[(j:Int)]) 0):=by
    rw[BZ6 (by lia),CA7,show 1+(j-1)=j by lia,Q4 b bs q 0 j bk h1,BW6]
   obtain⟨A,B,e,_,_⟩:=W8 af _ _ _ t
   rw[e]
   exact⟨.own "open" q::(nth (C9 b bs q 0) 0++(A++[.jump af])),B++(if k=true then[] else .own "last" q::(nth (C9 b bs q 0) (d.length+1)++[.lv "resume" q (lfT b q)])),by simp,by simp⟩
  ·have hj:j=d.length+1:=by lia
   subst hj
   have:k=false:=by
    rw[<-f];simp only[CA8,h1,CF3]
    cases bk with
    | nil=>exact absurd rfl g
    | cons _ _=>rfl
   subst this
   rw[a]
   exact⟨.own "open" q::(nth (C9 b bs q 0) 0++(CB9 (fun l=>Row.jump af::l) (CA6 d.length (BY9 1 (C9 b bs q 0)))++[.own "last" q])),[.lv "resume" q (lfT b q)],by simp,by simp⟩
theorem AC9 {b bk:Blk}(h:(toL bk)[i]?=some d):∃A B,drB b bk ah 0=A++(drD b d (ah++[(i:Int)])++B):=by
 obtain⟨X,Y,e,_,_⟩:=MR b bk ah 0 i d h
 rw[BW6] at e
 exact⟨X,Y,e⟩
def OY (b:Blk)(n:Nat)(q:List Int)(d:Deed)(j:Int):Prop:=∃(j':Nat) (bk:Blk) (t:Nat),j=(j':Int)/\(match d with|.mk _ bs=>(C5 bs)[j']?=some bk)/\Sub (A9 b) t (drB b bk (q++[(j':Int)]) 0)/\t<=n/\n<t+(drB b bk (q++[(j':Int)]) 0).length
theorem AA5 {b:Blk}(ok:okB b):∀(m:Nat) {p:List Int} {d:Deed} {s n:Nat},p.length<=m->(p,d)∈prB b [] 0->Sub (A9 b) s (drD b d p)->s<=n->n<s+(drD b d p).length->∀x∈ar b p,OY b n x.1 x.2.1 x.2.2
 | 0,p,d,s,n,hm,hp,hs,e,f,x,hx=>by rw[P4 (by lia)] at hx;cases hx
 | m+1,p,d,s,n,hm,hp,hs,hn1,hn2,x,hx=>by
  by_cases h:1<p.length
  ·obtain⟨q,j,i,v,bs,bk,w,o,y,g,z,e,f⟩:=Q7 hp h
   rw[R7 h,o,y,z] at hx
   have C:=K3 h
   rw[o] at C
   obtain⟨D,r⟩:=V1 ok q.length q _ (BU4 _) g
   have k:bk≠.nil:=by rintro rfl;simp[toL] at f
   obtain⟨A,B,t,H⟩:=AO5 b (q:=q) (Y0 ok g).1 e k
   have a:=r.sub
   rw[t] at a
   have u:=a.right.left
   obtain⟨X,Y,l⟩:=AC9 (b:=b) (ah:=q++[(j:Int)]) f
   have E:q++[(j:Int)]++[(i:Int)]=p:=by rw[w];simp
   rw[E] at l
   have c:=u
   rw[l] at c
   have I:=AM6 c.right.left hs
   have F:(drB b bk (q++[(j:Int)]) 0).length=X.length+(drD b d p).length+Y.length:=by rw[l];simp;lia
   rcases BZ3.mp hx with rfl|hx
   ·exact⟨j,bk,D+A.length,rfl,e,u,by lia,by lia⟩
   ·have G:(drD b (.mk v bs) q).length=A.length+(drB b bk (q++[(j:Int)]) 0).length+B.length:=by rw[t];simp;lia
    exact AA5 ok m (by lia) g r.sub (by lia) (by lia) x hx
  ·rw[P4 h] at hx;cases hx
theorem TL {b:Blk}:∀(m:Nat) {p:List Int} {d:Deed},p.length<=m->(p,d)∈prB b [] 0->p.length % 2=1
 | 0,p,d,hm,hp=>by
  obtain⟨bk,i,x,_⟩:=U4 hp
  exact absurd (BY4 (by lia)) x.last.2
 | m+1,p,d,hm,hp=>by
  by_cases h:1<p.length
  ·obtain⟨q,j,i,f,bs,bk,a,g,k,c,l,n,o⟩:=Q7 hp h
   have r:p.length=q.length+2:=by rw[a];simp
   have:=TL m (p:=q) (by lia) c
   lia
  ·obtain⟨bk,i,x,_⟩:=U4 hp
   have:p≠[]:=x.last.2
   have:p.length≠0:=fun e=>this (BY4 e)
   lia
theorem AX1 {b:Blk}:∀(m:Nat) {p q:List Int} {d d':Deed} {j:Int} {r:List Int},p.length<=m->(p,d)∈prB b [] 0->(q,d')∈prB b [] 0->p=q++j::r->(q,d',j)∈ar b p
 | 0,p,q,d,d',j,r,hm,hp,hq,e=>by rw[e] at hm;simp at hm
 | m+1,p,q,d,d',j,r,hm,hp,hq,e=>by
  have z:=TL _ (BU4 _) hp
  have A:=TL _ (BU4 _) hq
  have B:p.length=q.length+1+r.length:=by rw[e];simp;lia
  have h:1<p.length:=by lia
  obtain⟨a,n,i,s,bs,bk,c,t,u,f,o,C,D⟩:=Q7 hp h
  have v:p.length=a.length+2:=by rw[c];simp
  rw[R7 h,t,u,o]
  by_cases w:r.length=1
  ·obtain⟨x,rfl⟩:=List.length_eq_one_iff.mp w
   have g:q++[j,x]=a++[(n:Int),(i:Int)]:=by rw[<-c,e]
   obtain⟨k,l⟩:=List.append_inj g (by lia)
   subst k
   injection l with l _
   subst l
   have y:d'=.mk s bs:=by rw[<-o];exact(GN hq).symm
   rw[y]
   exact BV7
  ·refine BV5 _ ?_
   have E:r=r.take (r.length-2)++r.drop (r.length-2):=(CH0 _ _).symm
   have g:(q++j::r.take (r.length-2))++r.drop (r.length-2)=a++[(n:Int),(i:Int)]:=by
    rw[<-c,e];simp
   obtain⟨k,_⟩:=List.append_inj g (by simp;lia)
   exact AX1 m (by lia) f hq k.symm
theorem SW {b:Blk}{n:Nat}{j:Int}(h:OY b n q d j)(c:(A9 b)[n]?=some row)(f:isJ row=false)(g:(C4 row).2=some p):∃m r,p=q++j::m::r:=by
 obtain⟨i,bk,t,rfl,_,k,o,s⟩:=h
 have a:=k.get (m:=n-t) (by lia)
 rw[show t+(n-t)=n by lia,c] at a
 have l:C4 row∈keys (drB b bk (q++[(i:Int)]) 0):=List.mem_map.mpr ⟨row,List.mem_filter.mpr ⟨BV2 a.symm,by rw[f];rfl⟩,rfl⟩
 obtain⟨m,_,r,e⟩:=(VU b bk _ 0).1 _ l
 rw[g] at e
 injection e with e
 exact⟨m,r,by rw[e];simp⟩
theorem DV:∀(p q:List Int),HT.lexLt p q=true->HT.lexLt q p=true->False
 | [],[],h,_=>by simp[HT.lexLt] at h
 | [],_::_,_,h=>by simp[HT.lexLt] at h
 | _::_,[],h,_=>by simp[HT.lexLt] at h
 | a::p,c::q,b,d=>by
  rw[HT.lexLt] at b d
  by_cases e:a=c
  ·subst e
   rw[if_pos rfl] at b d
   exact DV p q b d
  ·rw[if_neg e] at b
   rw[if_neg (fun z=>e z.symm)] at d
   have b:a<c:=by simpa using b
   have d:c<a:=by simpa using d
   lia
theorem BM {α:Type}{lt:α->α->Prop}(b:∀a c,lt a c->lt c a->False):∀(l M:List α),l.Pairwise lt->M.Pairwise lt->(∀x∈M,x∈l)->M.Sublist l
 | [],M,_,_,h=>by
  cases M with
  | nil=>exact .slnil
  | cons c M=>exact absurd (h c BV7) BX6
 | a::l,[],_,_,_=>List.nil_sublist _
 | a::l,c::M,hl,hM,h=>by
  obtain⟨f,e⟩:=List.pairwise_cons.mp hl
  obtain⟨d,g⟩:=List.pairwise_cons.mp hM
  have i:=h c BV7
  rcases BZ3.mp i with rfl|hcl
  ·refine .cons₂ _ (BM b l M e g fun x hx=>?_)
   rcases BZ3.mp (h x (BV5 _ hx)) with rfl|hx'
   ·exact(b _ _ (d _ hx) (d _ hx)).elim
   ·exact hx'
  ·refine .cons _ (BM b l (c::M) e hM fun x hx=>?_)
   rcases BZ3.mp (h x hx) with rfl|hx'
   ·rcases BZ3.mp hx with rfl|hx
    ·exact hcl
    ·exact(b _ _ (d _ hx) (f _ hcl)).elim
   ·exact hx'
theorem GR {α g:Type}{S:α->Option g}:∀{M l:List α},M.Sublist l->l.Nodup->(∀x∈l,x∉M->S x=none)->l.findSome? S=M.findSome? S
 | _,_,.slnil,_,_=>rfl
 | M,a::l,.cons _ s,nd,h=>by
  obtain⟨c,d⟩:=List.nodup_cons.mp nd
  have i:S a=none:=h a BV7 fun e=>c (s.subset e)
  rw[BW5,i]
  exact GR s d fun x b f=>h x (BV5 _ b) f
 | a::M,_::l,.cons₂ _ s,nd,h=>by
  obtain⟨c,d⟩:=List.nodup_cons.mp nd
  rw[BW5,BW5]
  cases S a with
  | some _=>rfl
  | none =>
   refine GR s d fun x b f=>h x (BV5 _ b) fun e=>?_
   rcases BZ3.mp e with rfl|e
   ·exact c b
   ·exact f e
def pd (x:List Int×Deed×Int):List Int×Deed:=(x.1,x.2.1)
theorem W2 {b:Blk}:∀(m:Nat) {p:List Int} {d:Deed},p.length<=m->(p,d)∈prB b [] 0->∀x∈ar b p,(∃t y,p=x.1++y::t)/\pd x∈prB b [] 0
 | 0,p,d,hm,hp,x,hx=>by rw[P4 (by lia)] at hx;cases hx
 | m+1,p,d,hm,hp,x,hx=>by
  by_cases h:1<p.length
  ·obtain⟨q,j,i,o,bs,bk,a,c,k,f,l,r,s⟩:=Q7 hp h
   rw[R7 h,c,k,l] at hx
   have n:=K3 h
   rw[c] at n
   rcases BZ3.mp hx with rfl|hx
   ·exact⟨⟨[(i:Int)],(j:Int),by rw[a]⟩,f⟩
   ·obtain⟨⟨t,y,e⟩,g⟩:=W2 m (by lia) f x hx
    exact⟨⟨t++[(j:Int),(i:Int)],y,by rw[a,e];simp⟩,g⟩
  ·rw[P4 h] at hx;cases hx
theorem UT {b:Blk}:∀(m:Nat) {p:List Int} {d:Deed},p.length<=m->(p,d)∈prB b [] 0->(ar b p).Pairwise fun x y=>HT.lexLt y.1 x.1=true
 | 0,p,d,hm,hp=>by rw[P4 (by lia)];exact .nil
 | m+1,p,d,hm,hp=>by
  by_cases h:1<p.length
  ·obtain⟨q,j,i,n,bs,bk,o,a,f,c,g,r,s⟩:=Q7 hp h
   rw[R7 h,a,f,g]
   have k:=K3 h
   rw[a] at k
   refine List.pairwise_cons.mpr ⟨fun y l=>?_,UT m (by lia) c⟩
   obtain⟨⟨t,z,e⟩,_⟩:=W2 q.length (BU4 _) c y l
   show HT.lexLt y.1 q=true
   rw[e];exact NH _ _ _
  ·rw[P4 h];exact .nil
theorem UU {b:Blk}{l:Type}{S:List Int×Deed->Option l}(k:(p,d)∈prB b [] 0)(h:∀x∈prB b [] 0,(∀j,(x.1,x.2,j)∉ar b p)->S x=none) :
  (prB b [] 0).reverse.findSome? S=((ar b p).map pd).findSome? S:=by
 have f:(prB b [] 0).Pairwise fun x y=>HT.lexLt x.1 y.1=true:=by
  have:=(NU b [] 0).2
  rw[<-S2] at this
  exact List.pairwise_map.mp this
 have g:∀a c:List Int×Deed,HT.lexLt c.1 a.1=true->HT.lexLt a.1 c.1=true->False:=fun a c m n=>DV _ _ m n
 refine GR (BM (lt:=fun x y=>HT.lexLt y.1 x.1=true) g _ _ (List.pairwise_reverse.mpr f) (List.pairwise_map.mpr (UT _ (BU4 _) k)) ?_) ?_ ?_
 ·intro x i
  obtain⟨y,o,rfl⟩:=List.mem_map.mp i
  exact List.mem_reverse.mpr (W2 _ (BU4 _) k y o).2
 ·exact List.pairwise_reverse.mpr (f.imp fun{x y} h e=>by subst e;exact DV _ _ h h)
 ·intro x i q
  refine h x (List.mem_reverse.mp i) fun j r=>q ?_
  exact List.mem_map.mpr ⟨_,r,rfl⟩
end GU
namespace LW
open PySem L2 L3 MK K11 K12 GO CD CH
open TK (neD neB L5)
inductive Lead (L:List Row)(i:Nat):Nat->Row->Prop
 | self {r:Row}:L[i]?=some r->isJ r=false->Lead L i i r
 | jump {k:C7} {j:Nat} {r:Row}:L[i]?=some (.jump k)->numOf L k=.int (j:Int)->L[j]?=some r->isJ r=false->C4 r=J1 k->Lead L i j r
theorem AE8 {b:Blk}(ok:okB b)(ne:neB b){k:C7}(h:(A9 b)[i]?=some (.jump k)):Fnd (A9 b) k:=by
 cases Z9 ok ne i _ h with
 | jmp a h =>
  rcases h with rfl|rfl|⟨rfl,c⟩
  ·exact DS ok _ _ _ (BU4 _) a
  ·exact GS ok a
  ·exact(W9 ok a c).1
theorem L1 {b:Blk}(ok:okB b)(ne:neB b)(hi:i<(A9 b).length):∃j r,Lead (A9 b) i j r:=by
 have h:=BV4 hi
 generalize (A9 b)[i]=a at h
 cases hj:isJ a with
 | false=>exact⟨i,a,.self h hj⟩
 | true =>
  cases a with
  | jump k =>
   obtain⟨j,r,_,c,d,e,f⟩:=NO (AE8 ok ne h)
   exact⟨j,r,.jump h c d e f⟩
  | _=>simp[isJ] at hj
theorem S0 {r:Row}{k:C7}(h:Lead L i j r)(a:At L i k):L[j]?=some r/\isJ r=false/\C4 r=J1 k:=by
 obtain⟨m,e,s⟩:=a
 cases h with
 | self b c =>
  rw[b] at e
  cases e
  refine⟨b,c,?_⟩
  cases r with
  | jump d=>cases c
  | _=>exact s
 | jump b c f g l =>
  rw[b] at e
  cases e
  exact⟨f,g,l.trans s⟩
def N3 (b:Blk):D:=.tup ((A9 b).map (V8 (A9 b)))
def spLead:Sp3:=fun ds M Q=>∃(b:Blk) (i j:Nat) (r:Row),ds=[N3 b,.int (i:Int)]/\okB b/\neB b/\(A9 b).length<=100/\Lead (A9 b) i j r/\Q (.int (j:Int)) M
def spWhile:Sp3:=AM4
def spIsDeed:Sp3:=fun ds M Q=>∃(b:Blk) (i:Nat) (p:List Int),ds=[N3 b,.int (i:Int),plT p]/\okB b/\neB b/\(A9 b).length<=100/\At (A9 b) i (kd p)/\Q (.bl true) M
end LW
namespace LW
open PySem L2 L3
abbrev PB:List Str:=["_law_rows","_law_number","_law_count"]
def EU:TS3 :=
  (A8 (N7 (P1 (A0 (F0 D8 (A0 (A4 0) A5)) A5)) 2 (A8 (C2 (B1 (A6 CN (A6 C1 (A6 C1 (A4 0) (A4 1)) (tC3 (.int 0))) (tC3 (.str "jump")))) (B4 (A4 1)) B6)
  (C0 1 (A6 C1 (A6 C1 (A4 0) (A4 1)) (tC3 (.int 1))))))
  (B4 (tC3 .non)))
abbrev MA:List Str:=["_law_rule","_law_place"]
def DF:TS3 :=
  (A8 (CZ (B1 (A6 CL (F0 D8 (A0 (A4 1) A5)) (tC3 (.int 1)))) (A8 (C0 1 (Y7 (A4 1) F7 (J8 (P9 K0 (tC3 (.int 2))))))
  (C2 (B1 (A6 D7 (A6 C1 (A7 K12.spDeedAt (A0 (A4 0) (A0 (A4 1) A5))) (tC3 (.int 0))) (tC3 (.str "while")))) (B4 (A4 1)) B6)))
  (B4 (tC3 .non)))
abbrev FZ:List Str:=["_law_rows","_law_number","_law_place","_law_at"]
def Y9:TS3 :=
  (A8 (C0 3 (A7 spLead (A0 (A4 0) (A0 (A4 1) A5))))
  (A8 (C2 (CY (B1 (A6 UB (A4 3) (tC3 .non))) (B1 (A6 (FG false) (A6 C1 (A6 C1 (A4 0) (A4 3)) (tC3 (.int 0))) (B9 (A0 (tC3 (.str "done")) (A0 (tC3 (.str "last")) (A0 (tC3 (.str "resume")) A5))))))) (B4 (tC3 (.bl false))) B6)
  (B4 (A6 D7 (A6 C1 (A6 C1 (A4 0) (A4 3)) (tC3 (.int 1))) (A4 2)))))
end LW
open L3
namespace LW
open PySem L2 L3 MK K11 K12 GO CD CH
open TK (neD neB L5)
theorem rowN_0 (L:List Row)(row:Row):∃rest,V8 L row=.tup (.str (wd row)::rest):=by
 cases row<;>exact⟨_,rfl⟩
theorem O7 {b:Blk}(h:(A9 b)[i]?=some row):atI ((A9 b).map (V8 (A9 b))) (i:Int)=some (V8 (A9 b) row):=B7 (by rw[BV6,h];rfl)
theorem rd__law_lead:∀ds M Q,spLead ds M Q->EU {nx:=fun _ M'=>View Q .non M',rt:=View Q} (B8 PB ds) M:=by
 rintro _ M Q ⟨b,i,j,r,rfl,ok,ne,z,t,q⟩
 unfold EU N3
 have u:∀{k:Nat} {c:Row} {M:Mem} {Q:DK},(A9 b)[k]?=some c->Q (V8 (A9 b) c) M->C1 (.tup ((A9 b).map (V8 (A9 b)))) (.int (k:Int)) M Q:=fun h q=>B2 (O7 h) q
 have o:∀{c:Row} {M:Mem} {Q:DK},Q (.str (wd c)) M->C1 (V8 (A9 b) c) (.int 0) M Q:=fun{c} {M} {Q} q=>by
  obtain⟨A,e⟩:=rowN_0 (A9 b) c
  rw[e];exact B2 (B7 (j:=0) rfl) q
 walk_at "rd"
 rw[BU2]
 have f:(A9 b)[j]?=some r/\isJ r=false:=by cases t with
  | self g m=>exact⟨g,m⟩
  | jump g m p B C=>exact⟨p,B⟩
 have D:=BX b r (BV2 f.1)
 have v:(wd r==("jump":Str))=false:=(RO D).trans f.2
 have w:i≠j->2<=(A9 b).length:=fun h=>by
  have g:=(List.getElem?_eq_some_iff.mp f.1).1
  have m:i<(A9 b).length:=by cases t with
   | self a _=>exact g
   | jump a _ _ _ _=>exact(List.getElem?_eq_some_iff.mp a).1
  lia
 refine⟨by lia,by lia,fun k x M'=>M'=M/\∃y n,x=[some (.tup ((A9 b).map (V8 (A9 b)))),some (.int ((n:Nat):Int)),y]/\((k=0/\n=i)\/(k=1/\n=j/\i≠j)),⟨rfl,none,i,rfl,.inl ⟨rfl,rfl⟩⟩,?_,?_⟩
 ·rintro k d x E H ⟨rfl,y,n,rfl,s⟩
  have F:(A9 b)[n]?=some r->n=j->True:=fun _ _=>trivial
  by_cases l:n=j
  ·subst l
   walk_at "rd"
   refine u f.1 ?_
   walk_at "rd"
   refine o ?_
   walk_at "rd"
   refine C8 (by rw[v];rfl) ?_
   walk_at "rd"
   exact View.of q
  ·have G:k=0/\n=i:=by rcases s with h|⟨_,h,_⟩;exact h;exact absurd h l
   obtain⟨rfl,rfl⟩:=G
   cases t with
   | self g m=>exact absurd rfl l
   | jump g m p B C =>
    walk_at "rd"
    refine u g ?_
    walk_at "rd"
    refine o ?_
    walk_at "rd"
    refine B5 (by simp only[wd];decide +kernel) ?_
    walk_at "rd"
    refine u g ?_
    walk_at "rd"
    refine B2 (d:=.int (j:Int)) (by rw[<-m];rfl) ?_
    walk_at "rd"
    exact⟨rfl,_,j,rfl,.inr ⟨rfl,rfl,l⟩⟩
 ·rintro x E ⟨rfl,y,n,rfl,s⟩
  exfalso
  have g:=(List.getElem?_eq_some_iff.mp f.1).1
  rw[BU2,CG3] at s
  rcases s with⟨h,_⟩|⟨h,_,p⟩
  ·lia
  ·have:=w p;lia
end LW
open L3
namespace LW
open PySem L2 L3 MK K11 K12 GO CD CH
open TK (neD neB L5)
theorem AL1 {r:Row}(a:rW r)(c:isJ r=false)(h:C4 r=kd p) :
  (["done","last","resume"]:List Str).any (·==wd r)=false/\∃rest,V8 L r=.tup (.str (wd r)::plT p::rest):=by
 cases r with
 | own w q =>
  have b:(w==("last":Str))=false:=by
   cases e:(w==("last":Str)) with
   | false=>rfl
   | true =>
    exfalso
    simp only[C4] at h
    rw[if_pos e] at h
    injection h with h _
    exact absurd h (by decide +kernel)
  have e:q=p:=by
   simp only[C4] at h
   rw[b,if_neg BU9] at h
   injection h with _ h
   injection h
  subst e
  refine⟨?_,_,rfl⟩
  have a:AG6 w:=a
  rcases a with rfl|rfl|rfl|rfl|rfl|rfl<;>first|(simp only[wd];decide +kernel)|exact absurd b (by decide +kernel)
 | test q d =>
  have e:q=p:=by simpa[C4,kd] using h
  subst e
  exact⟨by simp only[wd];decide +kernel,_,rfl⟩
 | jump d=>cases c
 | lv w q d =>
  rcases a.1 with rfl|rfl
  ·have e:q=p:=by
    simp only[C4] at h
    rw[if_neg (by decide +kernel)] at h
    injection h with _ h
    injection h
   subst e
   exact⟨by simp only[wd];decide +kernel,_,rfl⟩
  ·exfalso
   simp only[C4] at h
   rw[if_pos (by decide +kernel)] at h
   injection h with h _
   exact absurd h (by decide +kernel)
 | done=>exfalso;revert h;simp[C4,kd]
theorem J6 (p:List Int):dOk (plT p):=by
 obtain⟨a,b,c⟩:=NB p
 exact⟨by simpa[plT,L3.plain] using a,by simpa[plT,pyD,PyData.canLay0] using b,by simp[plT,pyD,PyData.depth,c]⟩
theorem QJ:∀p:List Int,CI9 (AR (p.map D.int)) (AR (p.map D.int))=true
 | []=>rfl
 | n::p=>by simp[AR,pyD,CI9,CB2,QJ p]
theorem O6 (p:List Int):CB2 (pyD (plT p)) (pyD (plT p))=true:=by
 simp[plT,pyD,CB2,QJ p]
theorem rd__law_is_deed:∀ds M Q,spIsDeed ds M Q->Y9 {nx:=fun _ M'=>View Q .non M',rt:=View Q} (B8 FZ ds) M:=by
 rintro _ M Q ⟨b,i,p,rfl,ok,ne,a,c,q⟩
 unfold Y9
 have m:i<(A9 b).length:=by obtain⟨_,e,_⟩:=c;exact(List.getElem?_eq_some_iff.mp e).1
 obtain⟨j,r,g⟩:=L1 ok ne m
 obtain⟨g1,g2,g3⟩:=S0 g c
 have n:=BX b r (BV2 g1)
 obtain⟨f,h,k⟩:=AL1 (L:=A9 b) n g2 g3
 walk_at "rd"
 refine⟨b,i,j,r,rfl,ok,ne,a,g,?_⟩
 walk_at "rd"
 have l:∀{M:Mem} {Q:DK},Q (V8 (A9 b) r) M->C1 (N3 b) (.int (j:Int)) M Q:=fun q=>B2 (O7 g1) q
 refine l ?_
 rw[k]
 walk_at "rd"
 refine B2 (d:=.str (wd r)) (B7 (j:=0) rfl) ?_
 walk_at "rd"
 refine .inr ⟨wd r,["done","last","resume"],rfl,rfl,?_⟩
 rw[f]
 refine⟨false,rfl,?_⟩
 refine B5 rfl ?_
 walk_at "rd"
 refine l ?_
 rw[k]
 walk_at "rd"
 refine B2 (d:=plT p) (B7 (j:=1) rfl) ?_
 walk_at "rd"
 exact AZ2 (J6 p) (J6 p) (by rw[O6];exact View.of q)
end LW
open L3
namespace LW
open PySem L2 L3 MK K11 K12 GO CD CH
open TK (neD neB L5)
theorem R1 {r:Row}(b:x="last"\/x="resume")(c:isJ r=false)(h:C4 r=(x,some p)) :
  ∃rest,V8 L r=.tup (.str x::plT p::rest):=by
 have nd:x≠("deed":Str):=by rcases b with rfl|rfl<;>decide +kernel
 cases r with
 | own w q =>
  simp only[C4] at h
  split at h
  ·rename_i a
   injection h with h1 h2
   injection h2 with h2
   subst h1 h2
   rw[eq_of_beq a]
   exact⟨_,rfl⟩
  ·injection h with h1 _
   exact absurd h1.symm nd
 | test q d=>injection h with h1 _;exact absurd h1.symm nd
 | jump d=>cases c
 | lv w q d =>
  simp only[C4] at h
  split at h
  ·rename_i a
   injection h with h1 h2
   injection h2 with h2
   subst h1 h2
   rw[eq_of_beq a]
   exact⟨_,rfl⟩
  ·injection h with h1 _
   exact absurd h1.symm nd
 | done=>injection h with _ h2;cases h2
end LW
open L3
namespace LW
open PySem L2 L3 MK K11 K12 GO CD CH
open TK (neD neB L5)
theorem rd__law_while:∀ds M Q,spWhile ds M Q->DF {nx:=fun _ M'=>View Q .non M',rt:=View Q} (B8 MA ds) M:=by
 rintro _ M Q ⟨r,p,d,rfl,o,w,q⟩
 unfold DF
 have q:Q (match whF (ar r.blk p) with|some q=>plT q|none=>.non) M:=q
 walk_at "rd"
 refine RM ⟨fun m s t=>t=M/\∃(a:List Int) (u:Deed),s=[some (rD r),some (plT a)]/\(a,u)∈prB r.blk [] 0/\m=a.length/\whF (ar r.blk a)=whF (ar r.blk p),⟨_,rfl,p,d,rfl,w,rfl,rfl⟩,?_⟩
 rintro m s t ⟨rfl,a,u,rfl,k,rfl,b⟩
 walk_at "rd"
 refine CP ?_
 walk_at "rd"
 by_cases h:1<a.length
 ·rw[decide_eq_true (show(1:Int)<(a.length:Nat) by lia)]
  obtain⟨q',j,i,f,bs,bk,l,c,x,n,y,B,C⟩:=Q7 k h
  rw[R7 h,c,x,y] at b
  have D:q'.length+2=a.length:=by rw[l];simp
  obtain⟨h,v,z,A,_⟩:=CC (.mk f bs)
  walk_at "rd"
  rw[l]
  show Y1 (plT _) none (some (-2)) _ _
  refine rd_slWT.g ?_
  rw[AC4]
  walk_at "rd"
  refine⟨r,q',.mk f bs,rfl,o,n,?_⟩
  walk_at "rd"
  rw[z]
  refine B2 (d:=.str h) (B7 (j:=0) rfl) ?_
  walk_at "rd"
  rw[A (Y0 o.1 n)]
  cases e:isW (.mk f bs) with
  | true =>
   have c:whF ((q',.mk f bs,(j:Int))::ar r.blk q')=some q':=by simp[whF,e]
   rw[c] at b
   rw[<-b] at q
   walk_at "rd"
   exact View.of q
  | false =>
   have c:whF ((q',.mk f bs,(j:Int))::ar r.blk q')=whF (ar r.blk q'):=by simp[whF,e]
   rw[c] at b
   walk_at "rd"
   exact⟨q'.length,by rw[<-l];lia,rfl,q',_,rfl,n,rfl,b⟩
 ·rw[decide_eq_false (show¬(1:Int)<(a.length:Nat) by lia)]
  rw[P4 h] at b
  have c:whF []=none:=rfl
  rw[c] at b
  rw[<-b] at q
  walk_at "rd"
  exact View.of q
theorem BB6 {b:Blk}{k:C7}{r:Row}(a:(A9 b)[j]?=some r)(c:isJ r=false)(e:C4 r=J1 k):At (A9 b) j k:=by
 refine⟨r,a,?_⟩
 cases r with
 | jump d=>cases c
 | _=>exact e
end LW
open L3
namespace LW
open PySem L2 L3 MK K11 K12 GO CD CH
open TK (neD neB L5)
def pOf:Row->List Int
 | .own _ p=>p
 | .test p _=>p
 | .lv _ p _=>p
 | _=>[]
theorem word_two {h:Str}(h2:h≠"end")(a:h≠"fault"):K2 h="stand"\/K2 h="deed":=by
 unfold K2
 split
 ·exact .inl rfl
 ·rw[if_neg (by simpa using h2),if_neg (by simpa using a)];exact .inr rfl
theorem num_at {b:Blk}{k:C7}(f:Fnd (A9 b) k):∃j:Nat,numOf (A9 b) k=.int (j:Int)/\At (A9 b) j k:=by
 obtain⟨j,a,_,c,d,e,g⟩:=NO f
 exact⟨j,c,BB6 d e g⟩
end LW
namespace GU
open PySem L2 L3 MK K11 K12 GO CD CH
open TK (neD neB L5)
theorem TJ {b:Blk}{r:Row}{k:C7}(h:(A9 b)[i]?=some r)(a:isJ r=false)(e:C4 r=k)(hd:J1 k=k):BW0 k (C6 0 (A9 b))=some (.int (i:Int))/\numOf (A9 b) k=.int (i:Int):=by
 have:=T3 (A9 b) 0 i r (G0 b) h a
 rw[e,BW6] at this
 refine⟨this,?_⟩
 unfold numOf
 rw[hd,this];rfl
theorem SO (b:Blk){bk:Blk}(h:bk≠.nil)(ah:List Int):∃r l,drB b bk ah 0=r::l/\C4 r=kd (ah++[0])/\isJ r=false:=by
 cases bk with
 | nil=>exact absurd rfl h
 | cons d x =>
  obtain⟨r,l,e,a,c⟩:=DR b d (ah++[((0:Nat):Int)])
  exact⟨r,l++drB b x ah (0+1),by rw[drB,e];rfl,a,c⟩
theorem KB {b:Blk}{s s':Nat}{bk:Blk}(h:bk≠.nil)(x:Sub (A9 b) s (drB b bk ah 0))(y:Sub (A9 b) s' (drB b bk ah 0)):s=s':=by
 obtain⟨r,l,e,c,a⟩:=SO b h ah
 rw[e] at x y
 exact GY (G0 b) x.head y.head a a rfl
theorem YM {b:Blk}(ok:okB b)(ne:neB b)(g:(q,d)∈prB b [] 0)(j:hasL d=false):BW0 (kl q) (C6 0 (A9 b))=none:=by
 refine DX ?_
 rw[CJ]
 intro k
 obtain⟨c,f,e⟩:=List.mem_map.mp k
 obtain⟨f,l⟩:=List.mem_filter.mp f
 obtain⟨i,m⟩:=CC8 f
 have nd:∀{x:List Int},(("deed",some x):C7)=kl q->False:=fun h=>by injection h with h _;exact absurd h (by decide +kernel)
 cases Z9 ok ne i c m with
 | stop a h=>rcases h with rfl|rfl<;>exact nd e
 | deed a n o p r _ =>
  have s:=LW.word_two p r
  generalize K2 _=w at *
  rcases s with rfl|rfl<;>exact nd e
 | leave a=>exact nd e
 | testE a o t _=>exact nd e
 | testI a _ _=>exact nd e
 | testW a _=>exact nd e
 | jmp a h=>simp[isJ] at l
 | opn _ _=>exact nd e
 | lst a h _ =>
  injection e with _ e
  injection e with e
  subst e
  have:=(GN a).symm.trans (GN g)
  rw[this,j] at h;cases h
 | res a _ _=>injection e with e _;exact absurd e (by decide +kernel)
 | done=>injection e with e _;exact absurd e (by decide +kernel)
structure Lie (b:Blk)(q:List Int)(cs:List (Str×Str))(bs:Bls)(s l0 lf:Nat):Prop where
 f:numOf (A9 b) (kd (q++[0,0]))=.int ((s+1:Nat):Int)
 c:cs≠[]->numOf (A9 b) (kd (q++[1,0]))=.int ((s+l0+2:Nat):Int)
 l:hasL (.mk (.tr cs) bs)=true->(BW0 (kl q) (C6 0 (A9 b))).isSome=true/\numOf (A9 b) (kl q)=.int ((s+1+l0+lf:Nat):Int)
 n:hasL (.mk (.tr cs) bs)=false->(BW0 (kl q) (C6 0 (A9 b))).isSome=false/\numOf (A9 b) (kl q)=.int (-1)
 e:cs=[]->lf=0/\hasL (.mk (.tr cs) bs)=true
 r0:∀n row,(A9 b)[n]?=some row->isJ row=false->(OY b n q (.mk (.tr cs) bs) 0↔s+1<=n/\n<s+1+l0+(if cs=[] then 0 else 1))
 r1:∀n row,(A9 b)[n]?=some row->isJ row=false->((∃j:Nat,1<=j/\j<=cs.length/\OY b n q (.mk (.tr cs) bs) (j:Int))↔s+l0+2<=n/\n<s+1+l0+lf)
theorem BE9 {b:Blk}(ok:okB b)(ne:neB b){bs:Bls}(hq:(q,.mk (.tr cs) bs)∈prB b [] 0)(R:neD (.mk (.tr cs) bs)):∃s l0 lf,Lie b q cs bs s l0 lf:=by
 obtain⟨s,sg⟩:=V1 ok q.length q _ (BU4 _) hq
 obtain⟨a,ms,z,E,F,ha,S,T⟩:=R.1
 have x:=sg.sub
 rw[XN b E F] at x
 have h0:(C5 bs)[0]?=some a:=by rw[E];rfl
 have hz:(C5 bs)[cs.length+1]?=some z:=by rw[E];simp[F]
 have G:=AE hz
 generalize haf:(if E1 z=true then bhN b q else kl q)=af at x
 have h:∀m,m<cs.length->∃bk,(C5 bs)[m+1]?=some bk/\bk≠.nil/\(CA6 cs.length (BY9 1 (C9 b bs q 0)))[m]?=some (drB b bk (q++[((m+1:Nat):Int)]) 0):=fun m o=>by
  have e:(C5 bs)[m+1]?=some ms[m]:=by rw[E,BZ8,BW7 (by lia),BV4 (by lia)]
  refine⟨ms[m],e,S _ (CC5 _),?_⟩
  rw[BZ6 o,CA7,CB1 1 m,Q4 b bs q 0 (m+1) _ e,BW6]
 have i:(CA6 cs.length (BY9 1 (C9 b bs q 0))).length=cs.length:=by
  rw[BY1,CD5,W7]
  have:=K5 bs
  rw[E] at this
  simp at this
  lia
 generalize CA6 cs.length (BY9 1 (C9 b bs q 0))=N at x h i
 have k0:q++[(0:Int)]++[0]=q++[0,0]:=by simp
 have U:=x.tail.left
 have g:=x.tail.right.left
 have hR:=x.tail.right.right
 obtain⟨r,l,e0,e1,e2⟩:=SO b ha (q++[0])
 refine⟨s,(drB b a (q++[0]) 0).length,(CB9 (fun l=>Row.jump af::l) N).length,?_,?_,?_,?_,?_,?_,?_⟩
 ·have H:=U
  rw[e0] at H
  exact(TJ H.head e2 (e1.trans (by rw[k0])) rfl).2
 ·intro I
  cases cs with
  | nil=>exact absurd rfl I
  | cons c cs' =>
   obtain⟨bk,g1,g2,g3⟩:=h 0 (by simp)
   cases N with
   | nil=>simp at g3
   | cons y ys =>
    have ey:y=drB b bk (q++[((0+1:Nat):Int)]) 0:=by simpa using g3
    subst ey
    rw[CB4] at g
    obtain⟨r',l',f0,f1,f2⟩:=SO b g2 (q++[((0+1:Nat):Int)])
    rw[f0] at g
    have C:=(Sub.tail g.left).head
    have:=(TJ C f2 f1 rfl).2
    rw[show q++[((0+1:Nat):Int)]++[0]=q++[1,0] by simp] at this
    rw[this]
    congr 2
    lia
 ·intro O
  rw[G] at O
  have V:E1 z=false:=by simpa using O
  rw[V,if_neg BU9] at hR
  have:=TJ (k:=kl q) hR.head rfl rfl rfl
  exact⟨by rw[this.1];rfl,this.2⟩
 ·intro O
  have:=YM ok ne hq O
  refine⟨by rw[this];rfl,?_⟩
  unfold numOf
  rw[show J1 (kl q)=kl q from rfl,this];rfl
 ·intro I
  subst I
  refine⟨by rw[BY4 i];rfl,?_⟩
  rw[G]
  have:=T rfl
  cases z with
  | nil=>exact absurd rfl this
  | cons _ _=>rfl
 ·intro n p P Q
  constructor
  ·rintro⟨u,bk,t,ej,f,d,J,D⟩
   have W:u=0:=by lia
   subst W
   have v:bk=a:=by
    have f:(C5 bs)[0]?=some bk:=f
    rw[h0] at f;injection f with f;exact f.symm
   subst v
   have d:Sub (A9 b) t (drB b bk (q++[0]) 0):=d
   have D:n<t+(drB b bk (q++[0]) 0).length:=D
   have:=KB ha d U
   subst this
   exact⟨J,by split<;>lia⟩
  ·rintro⟨J,D⟩
   by_cases Y:n<s+1+(drB b a (q++[0]) 0).length
   ·exact⟨0,a,s+1,rfl,h0,U,J,Y⟩
   ·exfalso
    split at D
    ·lia
    ·rename_i I
     have Z:n=s+1+(drB b a (q++[0]) 0).length:=by lia
     cases N with
     | nil=>exact I (BY4 i.symm)
     | cons y ys =>
      rw[CB4] at g
      have C:=g.left.head
      rw[<-Z,P] at C
      injection C with C
      subst C
      cases Q
 ·intro n p P Q
  constructor
  ·rintro⟨j,hj1,hj2,u,bk,t,ej,f,d,J,D⟩
   have ejj:u=j:=by lia
   subst ejj
   obtain⟨bk',g1,g2,g3⟩:=h (u-1) (by lia)
   rw[show u-1+1=u by lia] at g1 g3
   have v:bk=bk':=by
    have f:(C5 bs)[u]?=some bk:=f
    rw[g1] at f;injection f with f;exact f.symm
   subst v
   obtain⟨A,B,e,_,_⟩:=W8 af _ _ _ g3
   rw[e] at g ⊢
   have:=KB g2 d g.right.tail.left
   subst this
   simp only[BU7,BU8]
   exact⟨by lia,by lia⟩
  ·rintro⟨J,D⟩
   have hg:=g.get (m:=n-(s+1+(drB b a (q++[0]) 0).length)) (by lia)
   rw[show s+1+(drB b a (q++[0]) 0).length+(n-(s+1+(drB b a (q++[0]) 0).length))=n by lia,P] at hg
   have o:C4 p∈keys (CB9 (fun l=>Row.jump af::l) N):=List.mem_map.mpr ⟨p,List.mem_filter.mpr ⟨BV2 hg.symm,by rw[Q];rfl⟩,rfl⟩
   rw[DT] at o
   obtain⟨X,hX1,hX2⟩:=List.mem_flatMap.mp o
   obtain⟨m,o⟩:=CC8 hX1
   have K:m<cs.length:=by rw[<-i];exact(List.getElem?_eq_some_iff.mp o).1
   obtain⟨bk,g1,g2,g3⟩:=h m K
   have eX:X=drB b bk (q++[((m+1:Nat):Int)]) 0:=by rw[o] at g3;injection g3
   subst eX
   obtain⟨A,B,e,_,_⟩:=W8 af _ _ _ g3
   rw[e] at g
   have d:=g.right.tail.left
   obtain⟨row',w,er'⟩:=List.mem_map.mp hX2
   obtain⟨w,hj'⟩:=List.mem_filter.mp w
   obtain⟨i',L⟩:=CC8 w
   have hil:=(List.getElem?_eq_some_iff.mp L).1
   have M:=d.get hil
   rw[L] at M
   have hni:=GY (G0 b) P M Q (by simpa using hj') er'.symm
   exact⟨m+1,by lia,by lia,m+1,bk,_,rfl,g1,d,by lia,by lia⟩
structure G where
 f:Int
 e:Int
 q:List Int
 cat:List Int
 la:Int
def gT (g:G):D:=.tup [.int g.f,.int g.e,plT g.q,.tup (g.cat.map D.int),.int g.la]
def J5 (L:List Row)(k:C7):Int:=match numOf L k with
 | .int i=>i
 | _=>-1
theorem NN (L:List Row)(k:C7):numOf L k=.int (J5 L k):=by
 unfold J5
 have:∃i,numOf L k=.int i:=by
  unfold numOf
  cases h:BW0 (J1 k) (C6 0 L) with
  | none=>exact⟨-1,rfl⟩
  | some d=>obtain⟨j,rfl⟩:=FR _ _ _ _ h;exact⟨j,rfl⟩
 obtain⟨i,e⟩:=this
 rw[e]
theorem S1 {k:C7}{i:Int}(h:numOf L k=.int i):J5 L k=i:=by unfold J5;rw[h]
def gsT (L:List Row)(q:List Int)(n:Nat):List G :=
 match (BW8 n).map fun a=>J5 L (kd (q++[((a+1:Nat):Int),0])) with
 | []=>[⟨J5 L (kd (q++[0,0])),J5 L (kl q),q,[],J5 L (kl q)⟩]
 | c::cs=>⟨J5 L (kd (q++[0,0])),c,q,c::cs,J5 L (kl q)⟩::(if (BW0 (kl q) (C6 0 L)).isSome then[⟨c,J5 L (kl q),q,[],J5 L (kl q)⟩] else[])
theorem BD6 (L:List Row)(q:List Int)(n:Nat):grd L q n=(gsT L q n).map gT:=by
 have e:(BW8 n).map (fun a=>numOf L (kd (q++[((a+1:Nat):Int),0])))=((BW8 n).map fun a=>J5 L (kd (q++[((a+1:Nat):Int),0]))).map D.int:=by
  rw[CC6]
  exact List.map_congr_left fun a _=>NN L _
 unfold grd gsT
 simp only[e,NN L (kl q),NN L (kd (q++[0,0]))]
 cases(BW8 n).map fun a=>J5 L (kd (q++[((a+1:Nat):Int),0])) with
 | nil=>rfl
 | cons c b =>
  cases(BW0 (kl q) (C6 0 L)).isSome<;>rfl
def gsX (b:Blk)(x:List Int×Deed):List G:=match x.2 with
 | .mk (.tr cs) _=>gsT (A9 b) x.1 cs.length
 | _=>[]
def gs (b:Blk):List G:=(prB b [] 0).reverse.flatMap (gsX b)
theorem FO (b:Blk):GT b=(gs b).map gT:=by
 rw[MX,gs,List.map_flatMap]
 congr 1
 funext x
 obtain⟨q,h,bs⟩:=x
 cases h with
 | tr a=>exact BD6 _ _ _
 | _=>rfl
inductive Res where
 | catch (q:List Int) (c:Nat) (n:Int)
 | last (q:List Int) (n:Int)
def BL2 (w:Str)(d:Deed):Option Nat:=match d with
 | .mk (.tr cs) _=>cs.findIdx? (takes w)
 | _=>none
def hit (n:Nat)(g:G):Bool:=decide (g.f<=(n:Int)) && decide ((n:Int)<g.e)
def F5 (b:Blk)(w:Str)(n:Nat)(g:G):Option Res:=if hit n g=true then(match (if g.cat.isEmpty then none else BL2 w (dA b g.q)) with
 | some c=>some (.catch g.q c (g.cat.getD c 0))
 | none=>if g.la = -1 then none else some (.last g.q g.la)) else none
def within (o:Option (List Int))(q:List Int):Bool:=match o with
 | none=>true
 | some p=>decide (p.length<q.length) && decide (q.take p.length=p)
def G1 (n:Nat)(o:Option (List Int))(g:G):Option Res:=if hit n g=true/\g.la≠-1/\within o g.q=true then some (.last g.q g.la) else none
def V5 (b:Blk)(w:Str)(x:List Int×Deed×Int):Option Res:=match W5 w x.2.1 x.2.2 with
 | some c=>some (.catch x.1 c (J5 (A9 b) (kd (x.1++[((c+1:Nat):Int),0]))))
 | none=>if E2 x.2.1 x.2.2=true then some (.last x.1 (J5 (A9 b) (kl x.1))) else none
def L9 (b:Blk)(o:Option (List Int))(x:List Int×Deed×Int):Option Res:=if E2 x.2.1 x.2.2=true/\within o x.1=true then some (.last x.1 (J5 (A9 b) (kl x.1))) else none
theorem RZ {b:Blk}(ok:okB b)(ne:neB b){bs:Bls}(A:(q,.mk (.tr cs) bs)∈prB b [] 0)(u:neD (.mk (.tr cs) bs)){n:Nat}(B:(A9 b)[n]?=some row)(C:isJ row=false)
  (hin:∀j,(q,.mk (.tr cs) bs,j)∈ar b p↔OY b n q (.mk (.tr cs) bs) j) (hex:∀j,OY b n q (.mk (.tr cs) bs) j->∃m r,p=q++j::m::r) :
  ∃g1 l,gsX b (q,.mk (.tr cs) bs)=g1::l/\g1.q=q/\g1.cat=(BW8 cs.length).map (fun a=>J5 (A9 b) (kd (q++[((a+1:Nat):Int),0])))/\g1.la=J5 (A9 b) (kl q)/\(hasL (.mk (.tr cs) bs)=true↔J5 (A9 b) (kl q)≠-1) /\
   (hit n g1=true↔(q,.mk (.tr cs) bs,(0:Int))∈ar b p) /\
   ((l=[]/\(cs=[]\/hasL (.mk (.tr cs) bs)=false))\/∃g2,l=[g2]/\g2.q=q/\g2.cat=[]/\g2.la=J5 (A9 b) (kl q)/\hasL (.mk (.tr cs) bs)=true/\(hit n g2=true↔∃j:Nat,1<=j/\j<=cs.length/\(q,.mk (.tr cs) bs,(j:Int))∈ar b p)) /\
   (∀j,(q,.mk (.tr cs) bs,j)∈ar b p->∃j':Nat,j=(j':Int)/\j'<=cs.length+1)/\(∀j j',(q,.mk (.tr cs) bs,j)∈ar b p->(q,.mk (.tr cs) bs,j')∈ar b p->j=j'):=by
 obtain⟨s,L,M,y⟩:=BE9 ok ne A u
 have D:=S1 y.f
 have E:hasL (.mk (.tr cs) bs)=true↔J5 (A9 b) (kl q)≠-1:=by
  cases h:hasL (.mk (.tr cs) bs) with
  | true=>have:=S1 (y.l h).2;rw[this];simp;lia
  | false=>have:=S1 (y.n h).2;rw[this];simp
 have i:∀j,(q,.mk (.tr cs) bs,j)∈ar b p->∃j':Nat,j=(j':Int)/\j'<=cs.length+1:=fun j h=>by
  obtain⟨j',bk,t,e,v,_⟩:=(hin j).mp h
  refine⟨j',e,?_⟩
  have v:(C5 bs)[j']?=some bk:=v
  have H:=(List.getElem?_eq_some_iff.mp v).1
  have N:bsl bs=cs.length+2:=(Y0 ok A).1.1
  rw[K5] at H
  lia
 have k:∀j j',(q,.mk (.tr cs) bs,j)∈ar b p->(q,.mk (.tr cs) bs,j')∈ar b p->j=j':=fun j j' h I=>by
  obtain⟨m,r,e⟩:=hex _ ((hin j).mp h)
  obtain⟨O,P,F⟩:=hex _ ((hin j').mp I)
  rw[e] at F
  have:=List.append_cancel_left F
  injection this
 have o:=y.r0 n row B C
 have w:=y.r1 n row B C
 have Q:(A9 b)=(A9 b):=rfl
 show∃g1 l,gsT (A9 b) q cs.length=g1::l/\_
 unfold gsT
 cases cs with
 | nil =>
  obtain⟨J,x⟩:=y.e rfl
  refine⟨_,[],rfl,rfl,rfl,rfl,E,?_,.inl ⟨rfl,.inl rfl⟩,i,k⟩
  rw[hin,o]
  have z:=S1 (y.l x).2
  unfold hit
  rw[D,z]
  simp only[BV3,decide_eq_true_eq,if_true]
  lia
 | cons g d =>
  have G:=S1 (y.c (by simp))
  have K:(BW8 (g::d).length).map (fun a=>J5 (A9 b) (kd (q++[((a+1:Nat):Int),0])))=J5 (A9 b) (kd (q++[1,0]))::((BW8 d.length).map fun a=>J5 (A9 b) (kd (q++[((a+1+1:Nat):Int),0]))):=by
   rw[BU8,List.range_succ_eq_map,BX1,CC6];rfl
  rw[K]
  refine⟨_,_,rfl,rfl,rfl,rfl,E,?_,?_,i,k⟩
  ·rw[hin,o]
   unfold hit
   rw[D,G]
   simp only[BV3,decide_eq_true_eq,reduceCtorEq,if_false]
   lia
  ·cases h:hasL (.mk (.tr (g::d)) bs) with
   | false =>
    left
    rw[(y.n h).1]
    exact⟨rfl,.inr rfl⟩
   | true =>
    right
    rw[(y.l h).1]
    refine⟨_,rfl,rfl,rfl,rfl,rfl,?_⟩
    have z:=S1 (y.l h).2
    have:(∃j:Nat,1<=j/\j<=(g::d).length/\(q,Deed.mk (.tr (g::d)) bs,(j:Int))∈ar b p)↔∃j:Nat,1<=j/\j<=(g::d).length/\OY b n q (.mk (.tr (g::d)) bs) (j:Int):=by
     simp only[hin]
    rw[this,w]
    unfold hit
    rw[G,z]
    simp only[BV3,decide_eq_true_eq]
    lia
theorem MT {α b c:Type}{f:α->List b}{g:b->Option c}:∀l:List α,(l.flatMap f).findSome? g=l.findSome? fun x=>(f x).findSome? g
 | []=>rfl
 | a::l=>by
  rw[CB4,List.findSome?_append,BW5,MT l]
  cases(f a).findSome? g<;>rfl
structure Rw (b:Blk)(n:Nat)(row:Row)(p:List Int)(d:Deed):Prop where
 hn:(A9 b)[n]?=some row
 hj:isJ row=false
 hk:(C4 row).2=some p
 hp:(p,d)∈prB b [] 0
 hs:∃s,Sub (A9 b) s (drD b d p)/\s<=n/\n<s+(drD b d p).length
section
variable {b:Blk}(ok:okB b)(ne:neB b)(hnn:∀q d,(q,d)∈prB b [] 0->neD d){n:Nat}{row:Row}{p:List Int}{dp:Deed}(R:Rw b n row p dp)
include ok R
theorem Rw.hin (a:(q,d)∈prB b [] 0)(j:Int):(q,d,j)∈ar b p↔OY b n q d j:=by
 constructor
 ·intro h
  obtain⟨s,c,f,g⟩:=R.hs
  exact AA5 ok _ (BU4 _) R.hp c f g _ h
 ·intro h
  obtain⟨m,r,e⟩:=SW h R.hn R.hj R.hk
  exact AX1 _ (BU4 _) R.hp a e
include ne hnn
theorem AD9 (w:Str)(B:(q,d)∈prB b [] 0):((∀j,(q,d,j)∉ar b p)->(gsX b (q,d)).findSome? (F5 b w n)=none)/\∀j,(q,d,j)∈ar b p->(gsX b (q,d)).findSome? (F5 b w n)=V5 b w (q,d,j):=by
 obtain⟨h,bs⟩:=d
 cases h with
 | leaf _ _=>exact⟨fun _=>rfl,fun _ _=>rfl⟩
 | ife _=>exact⟨fun _=>rfl,fun _ _=>rfl⟩
 | whl _=>exact⟨fun _=>rfl,fun _ _=>rfl⟩
 | tr f =>
  obtain⟨g1,l,e,C,D,E,F,o,H,G,r⟩:=RZ ok ne B (hnn _ _ B) R.hn R.hj (R.hin ok B) (fun j h=>SW h R.hn R.hj R.hk)
  have s:¬(∃j:Nat,1<=j/\j<=f.length/\(q,Deed.mk (.tr f) bs,(j:Int))∈ar b p)->l.findSome? (F5 b w n)=none:=fun i=>by
   rcases H with⟨rfl,_⟩|⟨g2,rfl,_,_,_,_,t⟩
   ·rfl
   ·have:hit n g2=false:=by
     cases h:hit n g2 with
     | false=>rfl
     | true=>exact absurd (t.mp h) i
    rw[BW5,F5,this,if_neg BU9];rfl
  have y:hit n g1=false->F5 b w n g1=none:=fun h=>by rw[F5,h,if_neg BU9]
  rw[e,BW5]
  constructor
  ·intro i
   have z:hit n g1=false:=by
    cases h:hit n g1 with
    | false=>rfl
    | true=>exact absurd (o.mp h) (i 0)
   rw[y z]
   exact s fun⟨j,_,_,h⟩=>i _ h
  ·intro j x
   obtain⟨m,rfl,M⟩:=G j x
   by_cases I:m=0
   ·subst I
    have z:=o.mpr x
    have g:E2 (.mk (.tr f) bs) ((0:Nat):Int)=hasL (.mk (.tr f) bs):=by
     unfold E2 nC
     rw[decide_eq_false (by lia)];simp
    have i:¬(∃j:Nat,1<=j/\j<=f.length/\(q,Deed.mk (.tr f) bs,(j:Int))∈ar b p):=fun⟨j,J,_,A⟩=>by
     have:=r _ _ x A
     lia
    rw[s i]
    have N:(if ((BW8 f.length).map fun a=>J5 (A9 b) (kd (q++[((a+1:Nat):Int),0]))).isEmpty then none else BL2 w (.mk (.tr f) bs))=f.findIdx? (takes w):=by
     cases f with
     | nil=>rfl
     | cons T O=>rw[if_neg (by simp)];rfl
    have P:F5 b w n g1=match f.findIdx? (takes w) with
     | some c=>some (.catch q c (((BW8 f.length).map fun a=>J5 (A9 b) (kd (q++[((a+1:Nat):Int),0]))).getD c 0))
     | none=>if J5 (A9 b) (kl q) = -1 then none else some (.last q (J5 (A9 b) (kl q))):=by
     unfold F5
     rw[if_pos z,C,E,D,GN B,N]
     try (cases f.findIdx? (takes w)<;>rfl)
    have Q:V5 b w (q,.mk (.tr f) bs,((0:Nat):Int))=match f.findIdx? (takes w) with
     | some c=>some (.catch q c (J5 (A9 b) (kd (q++[((c+1:Nat):Int),0]))))
     | none=>if hasL (.mk (.tr f) bs)=true then some (.last q (J5 (A9 b) (kl q))) else none:=by
     unfold V5
     have u:W5 w (.mk (.tr f) bs) ((0:Nat):Int)=f.findIdx? (takes w):=rfl
     simp only[u,g]
     try (cases f.findIdx? (takes w)<;>rfl)
    rw[P,Q]
    cases hf:f.findIdx? (takes w) with
    | some c =>
     have hc:c<f.length:=(List.findIdx?_eq_some_iff_getElem.mp hf).1
     simp only[CI0,BV6,CA2 hc,CE4,CF3]
    | none =>
     by_cases k:hasL (.mk (.tr f) bs)=true
     ·simp only[if_pos k,if_neg (F.mp k)]
     ·have:J5 (A9 b) (kl q) = -1:=by
       apply Classical.byContradiction;intro h;exact k (F.mpr h)
      simp only[if_neg k,if_pos this]
   ·have z:hit n g1=false:=by
     cases h:hit n g1 with
     | false=>rfl
     | true=>have:=r _ _ x (o.mp h);lia
    rw[y z]
    show l.findSome? _=V5 b w (q,.mk (.tr f) bs,(m:Int))
    have u:W5 w (.mk (.tr f) bs) (m:Int)=none:=by
     show(if (m:Int)=0 then f.findIdx? (takes w) else none)=none
     rw[if_neg (by lia)]
    unfold V5
    simp only[u]
    by_cases v:m<=f.length
    ·have g:E2 (.mk (.tr f) bs) (m:Int)=hasL (.mk (.tr f) bs):=by
      unfold E2 nC
      rw[decide_eq_false (by lia)];simp
     rw[g]
     rcases H with⟨rfl,hc⟩|⟨g2,rfl,J,K,A,L,t⟩
     ·have:hasL (.mk (.tr f) bs)=false:=by
       rcases hc with rfl|hc
       ·simp at v;exact absurd v I
       ·exact hc
      rw[this];rfl
     ·have S:=t.mpr ⟨m,by lia,v,x⟩
      rw[L,if_pos rfl,BW5,F5,if_pos S,K,A,J]
      simp only[List.isEmpty_nil,if_true,if_neg (F.mp L)]
    ·have g:E2 (.mk (.tr f) bs) (m:Int)=false:=by
      unfold E2 nC
      rw[decide_eq_true (by lia)];simp
     rw[g,if_neg BU9]
     refine s fun⟨j,_,K,A⟩=>?_
     have:=r _ _ x A
     lia
theorem AX8 (w:Str):(gs b).findSome? (F5 b w n)=(ar b p).findSome? (V5 b w):=by
 unfold gs
 rw[MT,UU (S:=fun x=>(gsX b x).findSome? (F5 b w n)) R.hp fun x a c=>(AD9 ok ne hnn R w a).1 c,List.findSome?_map]
 have:∀l:List (List Int×Deed×Int),(∀x∈l,x∈ar b p)->l.findSome? ((fun x=>(gsX b x).findSome? (F5 b w n)) ∘ pd)=l.findSome? (V5 b w):=fun l=>by
  induction l with
  | nil=>intro _;rfl
  | cons x l d =>
   intro h
   have a:=h x BV7
   rw[BW5,BW5,d fun y e=>h y (BV5 _ e)]
   have:=(AD9 ok ne hnn R w (W2 _ (BU4 _) R.hp x a).2).2 x.2.2 a
   have f:((fun x=>(gsX b x).findSome? (F5 b w n)) ∘ pd) x=V5 b w x:=this
   rw[f]
 exact this _ fun _ h=>h
end
section
variable {b:Blk}(ok:okB b)(ne:neB b)(hnn:∀q d,(q,d)∈prB b [] 0->neD d){n:Nat}{row:Row}{p:List Int}{dp:Deed}(R:Rw b n row p dp)
include ok R ne hnn
theorem AN3 (o:Option (List Int))(B:(q,d)∈prB b [] 0):((∀j,(q,d,j)∉ar b p)->(gsX b (q,d)).findSome? (G1 n o)=none)/\∀j,(q,d,j)∈ar b p->(gsX b (q,d)).findSome? (G1 n o)=L9 b o (q,d,j):=by
 obtain⟨h,bs⟩:=d
 have c:∀{h:Head} {bs:Bls} {j:Int},hasL (.mk h bs)=false->L9 b o (q,.mk h bs,j)=none:=fun y=>by
  unfold L9 E2
  rw[if_neg]
  simp[y]
 cases h with
 | leaf _ _=>exact⟨fun _=>rfl,fun _ _=>(c rfl).symm⟩
 | ife _=>exact⟨fun _=>rfl,fun _ _=>(c rfl).symm⟩
 | whl _=>exact⟨fun _=>rfl,fun _ _=>(c rfl).symm⟩
 | tr f =>
  obtain⟨g1,l,e,C,J,D,y,r,F,E,s⟩:=RZ ok ne B (hnn _ _ B) R.hn R.hj (R.hin ok B) (fun j h=>SW h R.hn R.hj R.hk)
  have k:∀g,hit n g=false->G1 n o g=none:=fun g h=>by
   unfold G1
   rw[if_neg]
   simp[h]
  have t:¬(∃j:Nat,1<=j/\j<=f.length/\(q,Deed.mk (.tr f) bs,(j:Int))∈ar b p)->l.findSome? (G1 n o)=none:=fun i=>by
   rcases F with⟨rfl,_⟩|⟨g2,rfl,_,_,_,_,u⟩
   ·rfl
   ·have:hit n g2=false:=by
     cases h:hit n g2 with
     | false=>rfl
     | true=>exact absurd (u.mp h) i
    rw[BW5,k g2 this];rfl
  rw[e,BW5]
  constructor
  ·intro i
   have z:hit n g1=false:=by
    cases h:hit n g1 with
    | false=>rfl
    | true=>exact absurd (r.mp h) (i 0)
   rw[k g1 z]
   exact t fun⟨j,_,_,h⟩=>i _ h
  ·intro j w
   obtain⟨x,rfl,K⟩:=E j w
   by_cases G:x=0
   ·subst G
    have z:=r.mpr w
    have a:E2 (.mk (.tr f) bs) ((0:Nat):Int)=hasL (.mk (.tr f) bs):=by
     unfold E2 nC
     rw[decide_eq_false (by lia)];simp
    have i:¬(∃j:Nat,1<=j/\j<=f.length/\(q,Deed.mk (.tr f) bs,(j:Int))∈ar b p):=fun⟨j,H,_,A⟩=>by
     have:=s _ _ w A
     lia
    rw[t i]
    unfold G1 L9
    simp only[a,C,D,z,true_and]
    by_cases m:hasL (.mk (.tr f) bs)=true/\within o q=true
    ·rw[if_pos m,if_pos ⟨y.mp m.1,m.2⟩]
    ·rw[if_neg m,if_neg fun h=>m ⟨y.mpr h.1,h.2⟩]
   ·have z:hit n g1=false:=by
     cases h:hit n g1 with
     | false=>rfl
     | true=>have:=s _ _ w (r.mp h);lia
    rw[k g1 z]
    show l.findSome? _=L9 b o (q,.mk (.tr f) bs,(x:Int))
    by_cases v:x<=f.length
    ·have a:E2 (.mk (.tr f) bs) (x:Int)=hasL (.mk (.tr f) bs):=by
      unfold E2 nC
      rw[decide_eq_false (by lia)];simp
     rcases F with⟨rfl,hc⟩|⟨g2,rfl,H,L,A,I,u⟩
     ·have:hasL (.mk (.tr f) bs)=false:=by
       rcases hc with rfl|hc
       ·simp at v;exact absurd v G
       ·exact hc
      rw[c this];rfl
     ·have M:=u.mpr ⟨x,by lia,v,w⟩
      rw[BW5]
      unfold G1 L9
      simp only[a,H,A,M,I,true_and]
      by_cases m:within o q=true
      ·rw[if_pos m,if_pos ⟨y.mp I,m⟩]
      ·rw[if_neg m,if_neg fun h=>m h.2];rfl
    ·have a:E2 (.mk (.tr f) bs) (x:Int)=false:=by
      unfold E2 nC
      rw[decide_eq_true (by lia)];simp
     rw[t fun⟨j,_,L,A⟩=>by have:=s _ _ w A;lia]
     unfold L9
     rw[if_neg]
     simp[a]
theorem w_all (o:Option (List Int)):(gs b).findSome? (G1 n o)=(ar b p).findSome? (L9 b o):=by
 unfold gs
 rw[MT,UU (S:=fun x=>(gsX b x).findSome? (G1 n o)) R.hp fun x a c=>(AN3 ok ne hnn R o a).1 c,List.findSome?_map]
 have:∀l:List (List Int×Deed×Int),(∀x∈l,x∈ar b p)->l.findSome? ((fun x=>(gsX b x).findSome? (G1 n o)) ∘ pd)=l.findSome? (L9 b o):=fun l=>by
  induction l with
  | nil=>intro _;rfl
  | cons x l d =>
   intro h
   have a:=h x BV7
   rw[BW5,BW5,d fun y e=>h y (BV5 _ e)]
   have:=(AN3 ok ne hnn R o (W2 _ (BU4 _) R.hp x a).2).2 x.2.2 a
   have f:((fun x=>(gsX b x).findSome? (G1 n o)) ∘ pd) x=L9 b o x:=this
   rw[f]
 exact this _ fun _ h=>h
end
inductive Lso (b:Blk):Option Res->D->Prop
 | out:Lso b none (.tup [.str "out"])
 | beh (q:List Int):Lso b none (.tup [.str "behind",plT q])
 | last {q:List Int} {j:Nat} {i:Int}:i=(j:Int)->At (A9 b) j (kl q)->Lso b (some (.last q i)) (.tup [.str "last",plT q])
 | catch {q:List Int} {c j:Nat} {i:Int}:i=(j:Int)->At (A9 b) j (kd (q++[((c+1:Nat):Int),0]))->Lso b (some (.catch q c i)) (.tup [.str "catch",plT q,.int (c:Nat)])
theorem ND {b:Blk}(ok:okB b)(a:(q,d)∈prB b [] 0)(c:hasL d=true):∃j:Nat,J5 (A9 b) (kl q)=(j:Int)/\At (A9 b) j (kl q):=by
 obtain⟨j,e,h⟩:=LW.num_at (W9 ok a c).1
 exact⟨j,S1 e,h⟩
theorem NF {j:Int}(h:E2 d j=true):hasL d=true:=by
 unfold E2 at h;rw[BV3] at h;exact h.1
theorem KU {b:Blk}(ok:okB b)(hnn:∀q d,(q,d)∈prB b [] 0->neD d)(w:Str):∀l:List (List Int×Deed×Int),(∀x∈l,(x.1,x.2.1)∈prB b [] 0)->Lso b (l.findSome? (V5 b w)) (S5 w l)
 | [],_=>.out
 | (q,d,j)::l,h=>by
  have k:=h _ BV7
  have k:(q,d)∈prB b [] 0:=k
  have u:=KU ok hnn w l fun x v=>h x (BV5 _ v)
  rw[BW5]
  unfold V5 S5
  cases f:W5 w d j with
  | some c =>
   simp only[f]
   obtain⟨y,bs⟩:=d
   cases y with
   | leaf _ _=>cases f
   | ife _=>cases f
   | whl _=>cases f
   | tr t =>
    have f:(if j=0 then t.findIdx? (takes w) else none)=some c:=f
    split at f
    ·have A:c<t.length:=(List.findIdx?_eq_some_iff_getElem.mp f).1
     obtain⟨a,o,z,g,B,D,p,C⟩:=(hnn _ _ k).1
     have e:(C5 bs)[c+1]?=some o[c]:=by rw[g,BZ8,BW7 (by lia),BV4 (by lia)]
     have m:=p _ (CC5 (l:=o) (n:=c) (by lia))
     have:∃j:Nat,numOf (A9 b) (kd (q++[((c+1:Nat):Int),0]))=.int (j:Int)/\At (A9 b) j (kd (q++[((c+1:Nat):Int),0])):=by
      generalize o[c]=bk at e m
      cases bk with
      | nil=>exact absurd rfl m
      | cons d x=>exact LW.num_at (T2 ok (U5 k e (i:=0) (d:=d) rfl))
     obtain⟨i,r,s⟩:=this
     exact .catch (S1 r) s
    ·cases f
  | none =>
   simp only[f]
   by_cases g:E2 d j=true
   ·rw[if_pos g,if_pos g]
    obtain⟨i,r,s⟩:=ND ok k (NF g)
    exact .last r s
   ·rw[if_neg g,if_neg g]
    exact u
theorem VY {b:Blk}(ok:okB b):∀l:List (List Int×Deed×Int),(∀x∈l,(x.1,x.2.1)∈prB b [] 0)->Lso b (l.findSome? (L9 b none)) (PY l)
 | [],_=>.out
 | (q,d,j)::l,h=>by
  have c:(q,d)∈prB b [] 0:=h _ BV7
  have e:=VY ok l fun x f=>h x (BV5 _ f)
  rw[BW5]
  unfold L9 PY
  by_cases a:E2 d j=true
  ·rw[if_pos (show E2 d j=true/\within none q=true from ⟨a,rfl⟩),if_pos a]
   obtain⟨i,g,k⟩:=ND ok c (NF a)
   exact .last g k
  ·rw[if_neg (show¬(E2 d j=true/\within none q=true) from fun h=>a h.1),if_neg a]
   exact e
theorem KW {b:Blk}(ok:okB b)(o:List Int):∀(m:Nat) {p:List Int} {d:Deed},p.length<=m->(p,d)∈prB b [] 0->whA b p=some o->Lso b ((ar b p).findSome? (L9 b (some o))) (X2 (ar b p))
 | 0,p,d,hm,hp,a=>by unfold whA at a;rw[P4 (by lia)] at a;cases a
 | m+1,p,d,hm,hp,a=>by
  by_cases h:1<p.length
  ·obtain⟨q,j,i,g,bs,bk,s,k,u,l,v,A,B⟩:=Q7 hp h
   have w:=K3 h
   rw[k] at w
   have r:ar b p=(q,.mk g bs,(j:Int))::ar b q:=by rw[R7 h,k,u,v]
   unfold whA at a
   rw[r] at a ⊢
   rw[BW5,X2]
   cases hw:isW (.mk g bs) with
   | true =>
    rw[List.find?_cons_of_pos (by exact hw)] at a
    have a:some q=some o:=a
    injection a with a
    subst a
    have no:∀x:List Int×Deed×Int,x.1.length<=q.length->L9 b (some q) x=none:=fun x n=>by
     unfold L9 within
     rw[if_neg]
     intro z
     have:=z.2
     rw[BV3,decide_eq_true_eq] at this
     lia
    rw[no _ (BU4 _)]
    have:(ar b q).findSome? (L9 b (some q))=none:=by
     rw[List.findSome?_eq_none_iff]
     intro x n
     obtain⟨⟨t,y,e⟩,_⟩:=W2 _ (BU4 _) l x n
     exact no x (by rw[e];simp)
    simp only[this,if_true]
    exact .beh q
   | false =>
    rw[List.find?_cons_of_neg (by show¬isW (.mk g bs)=true;rw[hw];exact BU9)] at a
    have f:whA b q=some o:=a
    have hin:within (some o) q=true:=by
     unfold whA at f
     obtain⟨x,n,rfl⟩:=Option.map_eq_some_iff.mp f
     obtain⟨⟨t,y,e⟩,_⟩:=W2 _ (BU4 _) l x (CF4 n)
     unfold within
     rw[BV3,decide_eq_true_eq,decide_eq_true_eq]
     exact⟨by rw[e];simp,by rw[e];simp⟩
    rw[if_neg BU9]
    unfold L9
    by_cases c:E2 (.mk g bs) (j:Int)=true
    ·rw[if_pos (show E2 (.mk g bs) (j:Int)=true/\within (some o) q=true from ⟨c,hin⟩),if_pos c]
     obtain⟨i,s,k⟩:=ND ok l (NF c)
     exact .last s k
    ·rw[if_neg (show¬(E2 (.mk g bs) (j:Int)=true/\within (some o) q=true) from fun h=>c h.1),if_neg c]
     exact KW ok o m (by lia) l f
  ·unfold whA at a;rw[P4 h] at a;cases a
end GU
open L3
namespace LW
open PySem L2 L3 MK K11 K12 GO CD CH
open TK (neD neB L5)
theorem rl {Q:DK}(q:Q (.int ((A9 r.blk).length:Int)) M):D8 [N3 r.blk] M Q:=by
 have:D8 [.tup ((A9 r.blk).map (V8 (A9 r.blk)))] M Q:=by walk_at "rd";rw[BU2];exact q
 exact this
end LW
namespace GW
open PySem L2 L3 MK K11 K12 GO CD CH GU LW
open TK (neD neB L5)
def BJ7:Option Res->D
 | none=>.tup [.str "out"]
 | some (.last q n)=>.tup [.str "last",plT q,.int n]
 | some (.catch q c n)=>.tup [.str "catch",plT q,.int (c:Nat),.int n]
def oD:Option (List Int)->D
 | none=>.non
 | some p=>plT p
def AL9:Sp3:=fun ds M Q=>∃(b:Blk) (j:Nat) (q:List Int),ds=[N3 b,.int (j:Int),.tup [.str "last",plT q]]/\okB b/\neB b/\(A9 b).length<=100/\At (A9 b) j (kl q)/\Q (.bl true) M
def AL8:Sp3:=fun ds M Q=>∃cs bs,∃w:Str,ds=[dD (.mk (.tr cs) bs),.str w]/\okD (.mk (.tr cs) bs)/\neD (.mk (.tr cs) bs)/\Q (match cs.findIdx? (takes w) with|some c=>.int (c:Nat)|none=>.non) M
def AZ5:Sp3:=fun ds M Q=>∃(r:Rl) (n:Nat) (w:Str),ds=[rD r,.tup (GT r.blk),.int (n:Int),.str w]/\TK.rOk r/\Q (BJ7 ((gs r.blk).findSome? (F5 r.blk w n))) M
def AM3:Sp3:=fun ds M Q=>∃(b:Blk) (n:Nat) (o:Option (List Int)),ds=[.tup (GT b),.int (n:Int),oD o]/\(∀p∈o,p.length<=100)/\(∀g∈gs b,g.q.length<=100)/\Q (BJ7 ((gs b).findSome? (G1 n o))) M
def XA:Sp3:=fun ds M Q=>∃(b:Blk) (f:Option Res) (d:D),ds=[N3 b,BJ7 f,d]/\okB b/\neB b/\(A9 b).length<=100/\Lso b f d/\(∀q c n,f=some (.catch q c n)->q.length<=90)/\Q (.bl true) M
def XC:Sp3:=fun ds M Q=>∃r:Rl,ds=[rD r]/\TK.rOk r/\∀ws:List Str,ws.length<=200->Q (.lst (ws.map D.str)) M
def BQ7:Sp3:=fun ds M Q=>∃r:Rl,ds=[rD r,N3 r.blk,.tup (GT r.blk)]/\TK.rOk r/\Q (.bl true) M
end GW
namespace GW
open PySem L2 L3
abbrev FY:List Str:=["_law_rows","_law_number","_law_told","_law_at"]
def Y8:TS3 :=
  (A8 (C0 3 (A7 LW.spLead (A0 (A4 0) (A0 (A4 1) A5))))
  (B4 (R4 (A6 HN (A4 3) (tC3 .non)) (R4 (A6 D7 (A6 C1 (A6 C1 (A4 0) (A4 3)) (tC3 (.int 0))) (A6 C1 (A4 2) (tC3 (.int 0)))) (A6 D7 (A6 C1 (A6 C1 (A4 0) (A4 3)) (tC3 (.int 1))) (A6 C1 (A4 2) (tC3 (.int 1))))))))
abbrev LV:List Str:=["_law_deed","_law_word","_law_k"]
def DB:TS3 :=
  (A8 (N7 (P1 (A0 (F0 D8 (A0 (A6 C1 (A4 0) (tC3 (.int 2))) A5)) A5)) 2 (C2 (B1 (A6 (FG false) (A6 C1 (A6 C1 (A6 C1 (A4 0) (tC3 (.int 2))) (A4 2)) (tC3 (.int 0))) (B9 (A0 (A4 1) (A0 (tC3 (.str "any")) A5))))) (B4 (A4 2)) B6))
  (B4 (tC3 .non)))
abbrev LX:List Str:=["_law_rule","_law_guards","_law_number","_law_word","_law_first","_law_beyond","_law_place","_law_catches","_law_last","_law_at"]
def DC:TS3 :=
  (A8 (N8 (CF (A4 1)) (N1 [4,5,6,7,8]) (C2 (B1 (O8 UC S6 (A4 4) (A4 2) (A4 5))) (A8 (C0 9 (tC3 .non))
  (A8 (C2 (B1 (A6 CN (A4 7) (B9 A5))) (C0 9 (A7 AL8 (A0 (A7 K12.spDeedAt (A0 (A4 0) (A0 (A4 6) A5))) (A0 (A4 3) A5)))) B6)
  (A8 (C2 (B1 (A6 HN (A4 9) (tC3 .non))) (B4 (B9 (A0 (tC3 (.str "catch")) (A0 (A4 6) (A0 (A4 9) (A0 (A6 C1 (A4 7) (A4 9)) A5)))))) B6)
  (C2 (B1 (A6 CN (A4 8) (P9 K0 (tC3 (.int 1))))) (B4 (B9 (A0 (tC3 (.str "last")) (A0 (A4 6) (A0 (A4 8) A5))))) B6)))) B6))
  (B4 (B9 (A0 (tC3 (.str "out")) A5))))
abbrev SJ:List Str:=["_law_guards","_law_number","_law_outer","_law_first","_law_beyond","_law_place","_law_catches","_law_last","_law_within"]
def IJ:TS3 :=
  (A8 (N8 (CF (A4 0)) (N1 [3,4,5,6,7]) (A8 (C0 8 (LJ (A6 UB (A4 2) (tC3 .non)) (R4 (A6 CL (F0 D8 (A0 (A4 5) A5)) (F0 D8 (A0 (A4 2) A5))) (A6 D7 (Y7 (A4 5) F7 (J8 (F0 D8 (A0 (A4 2) A5)))) (A4 2)))))
  (C2 (ID (B1 (O8 UC S6 (A4 3) (A4 1) (A4 4))) (ID (B1 (A6 CN (A4 7) (P9 K0 (tC3 (.int 1))))) (B1 (A4 8)))) (B4 (B9 (A0 (tC3 (.str "last")) (A0 (A4 5) (A0 (A4 7) A5))))) B6)))
  (B4 (B9 (A0 (tC3 (.str "out")) A5))))
abbrev FD:List Str:=["_law_rows","_law_found","_law_owed"]
def V6:TS3 :=
  (A8 (C2 (B1 (A6 (FG false) (A6 C1 (A4 2) (tC3 (.int 0))) (B9 (A0 (tC3 (.str "out")) (A0 (tC3 (.str "behind")) A5))))) (B4 (A6 D7 (A6 C1 (A4 1) (tC3 (.int 0))) (tC3 (.str "out")))) B6)
  (A8 (C2 (CY (B1 (A6 CN (A6 C1 (A4 1) (tC3 (.int 0))) (A6 C1 (A4 2) (tC3 (.int 0))))) (B1 (A6 CN (A6 C1 (A4 1) (tC3 (.int 1))) (A6 C1 (A4 2) (tC3 (.int 1)))))) (B4 (tC3 (.bl false))) B6)
  (A8 (C2 (B1 (A6 D7 (A6 C1 (A4 2) (tC3 (.int 0))) (tC3 (.str "last")))) (B4 (A7 AL9 (A0 (A4 0) (A0 (A6 C1 (A4 1) (tC3 (.int 2))) (A0 (B9 (A0 (tC3 (.str "last")) (A0 (A6 C1 (A4 2) (tC3 (.int 1))) A5))) A5))))) B6)
  (B4 (R4 (A6 D7 (A6 C1 (A4 1) (tC3 (.int 2))) (A6 C1 (A4 2) (tC3 (.int 2)))) (A7 LW.spIsDeed (A0 (A4 0) (A0 (A6 C1 (A4 1) (tC3 (.int 3))) (A0 (A6 D0 (A6 C1 (A4 2) (tC3 (.int 1))) (B9 (A0 (A6 D0 (tC3 (.int 1)) (A6 C1 (A4 2) (tC3 (.int 2)))) (A0 (tC3 (.int 0)) A5)))) A5)))))))))
abbrev MB:List Str:=["_law_rule","_law_found","_law_place","_law_deed"]
def DG:TS3 :=
  (A8 (C0 1 (F9 (A0 (tC3 (.str "kind")) (A0 (tC3 (.str "close")) (A0 (tC3 (.str "zzzzzzzz")) A5)))))
  (A8 (N7 (K7 (EF (A7 K11.spPlacesR (A0 (A4 0) A5)))) 2 (A8 (C0 3 (A7 K12.spDeedAt (A0 (A4 0) (A0 (A4 2) A5))))
  (C2 (B1 (A6 D7 (A6 C1 (A4 3) (tC3 (.int 0))) (tC3 (.str "try")))) (C0 1 (A6 D0 (A4 1) (R6 (CF (A6 C1 (A4 3) (tC3 (.int 2)))) 1 [1] (K1 0) (B1 (A6 (FG true) (A6 C1 (A4 0) (tC3 (.int 0))) (A6 D0 (A4 1) (F9 (A0 (tC3 (.str "any")) A5))))) (A6 C1 (A4 0) (tC3 (.int 0)))))) B6)))
  (B4 (A4 1))))
abbrev AM:List Str:=["_law_rule","_law_rows","_law_guards","_law_words_here","_law_number","_law_place","_law_word","_law_outer"]
def P7:TS3 :=
  (A8 (C0 3 (A7 XC (A0 (A4 0) A5)))
  (A8 (N7 (P1 (A0 (F0 D8 (A0 (A4 1) A5)) A5)) 4 (C2 (B1 (A6 (FG true) (A6 C1 (A6 C1 (A4 1) (A4 4)) (tC3 (.int 0))) (B9 (A0 (tC3 (.str "jump")) (A0 (tC3 (.str "done")) (A0 (tC3 (.str "last")) A5)))))) (A8 (C0 5 (A6 C1 (A6 C1 (A4 1) (A4 4)) (tC3 (.int 1))))
  (A8 (N7 (K7 (A4 3)) 6 (C2 (AX (B1 (A7 XA (A0 (A4 1) (A0 (A7 AZ5 (A0 (A4 0) (A0 (A4 2) (A0 (A4 4) (A0 (A4 6) A5))))) (A0 (A7 GO.spFault (A0 (A4 0) (A0 (A4 5) (A0 (A4 6) A5)))) A5)))))) (B4 (tC3 (.bl false))) B6))
  (A8 (C2 (AX (B1 (A7 XA (A0 (A4 1) (A0 (A7 AM3 (A0 (A4 2) (A0 (A4 4) (A0 (tC3 .non) A5)))) (A0 (A7 GO.spEnd (A0 (A4 0) (A0 (A4 5) A5))) A5)))))) (B4 (tC3 (.bl false))) B6)
  (A8 (C0 7 (A7 LW.spWhile (A0 (A4 0) (A0 (A4 5) A5))))
  (C2 (B1 (A6 HN (A4 7) (tC3 .non))) (C2 (AX (B1 (A7 XA (A0 (A4 1) (A0 (A7 AM3 (A0 (A4 2) (A0 (A4 4) (A0 (A4 7) A5)))) (A0 (A7 GO.spLeave (A0 (A4 0) (A0 (A4 5) A5))) A5)))))) (B4 (tC3 (.bl false))) B6) B6))))) B6))
  (B4 (tC3 (.bl true)))))
abbrev BK7:List Str:=["_law_script","_law_rule","_law_rows","_law_guards"]
def BA1:TS3 :=
  (A8 (N7 (CF (A7 TK.spBook (A0 (A4 0) (A0 (tC3 (.int 2)) A5)))) 1 (A8 (RT (N1 [2,3]) (A7 CH.spCode (A0 (A4 1) A5)))
  (C2 (CY (B1 (A6 CL (F0 D8 (A0 (A4 3) A5)) (tC3 (.int 100)))) (AX (B1 (A7 BQ7 (A0 (A4 1) (A0 (A4 2) (A0 (A4 3) A5))))))) (B4 (tC3 (.bl false))) B6)))
  (B4 (tC3 (.bl true))))
end GW
open L3
namespace GW
open PySem L2 L3 MK K11 K12 GO CD CH GU
open LW (N3 O7 L1 S0 R1 J6 O6 spLead spIsDeed spWhile pOf)
open TK (neD neB L5)
theorem rd__law_follows:∀ds M Q,AL9 ds M Q->Y8 {nx:=fun _ M'=>View Q .non M',rt:=View Q} (B8 FY ds) M:=by
 rintro _ M Q ⟨b,i,p,rfl,ok,ne,a,c,q⟩
 unfold Y8
 have l:i<(A9 b).length:=by obtain⟨_,e,_⟩:=c;exact(List.getElem?_eq_some_iff.mp e).1
 obtain⟨j,r,f⟩:=L1 ok ne l
 obtain⟨g1,g2,g3⟩:=S0 f c
 have g:∀{M:Mem} {Q:DK},Q (V8 (A9 b) r) M->C1 (N3 b) (.int (j:Int)) M Q:=fun q=>B2 (O7 g1) q
 obtain⟨h,k⟩:=R1 (L:=A9 b) (x:="last") (.inl rfl) g2 g3
 walk_at "rd"
 refine⟨b,i,j,r,rfl,ok,ne,a,f,?_⟩
 walk_at "rd"
 refine g ?_
 rw[k]
 walk_at "rd"
 refine B2 (d:=.str "last") (B7 (j:=0) rfl) ?_
 walk_at "rd"
 refine B2 (d:=.str "last") (B7 (j:=0) rfl) ?_
 walk_at "rd"
 refine C8 (beq_self_eq_true _) ?_
 walk_at "rd"
 refine g ?_
 rw[k]
 walk_at "rd"
 refine B2 (d:=plT p) (B7 (j:=1) rfl) ?_
 walk_at "rd"
 refine B2 (d:=plT p) (B7 (j:=1) rfl) ?_
 exact AZ2 (J6 p) (J6 p) (by rw[O6];exact View.of q)
theorem AB3:∀(cs:List (Str×Str)) (ts:List D) (k:Nat) (c:Str×Str),cs.length<=ts.length->cs[k]?=some c->∃t,(E5 cs ts)[k]?=some (.tup [.str c.1,.str c.2,t])
 | [],_,_,_,_,h=>by simp at h
 | (w,x)::cs,[],_,_,hl,_=>by simp at hl
 | (w,x)::cs,t::ts,0,c,hl,h=>by
  have:(w,x)=c:=by simpa using h
  subst this
  exact⟨t,rfl⟩
 | (w,x)::cs,t::ts,k+1,c,hl,h=>AB3 cs ts k c (by simpa using hl) (by simpa using h)
theorem idx_none {f:α->Bool}:∀{l:List α},l.findIdx? f=none↔∀(k:Nat) (a:α),l[k]?=some a->f a=false:=by
 intro l
 rw[List.findIdx?_eq_none_iff]
 exact⟨fun h k a e=>by simpa using h a (BV2 e),fun h a b=>by obtain⟨k,e⟩:=CC8 b;simpa using h k a e⟩
theorem rd__law_catch:∀ds M Q,AL8 ds M Q->DB {nx:=fun _ M'=>View Q .non M',rt:=View Q} (B8 LV ds) M:=by
 rintro _ M Q ⟨b,bs,w,rfl,ok,o,q⟩
 unfold DB
 obtain⟨K,y,z,A,C,L,D,E⟩:=o.1
 have B:b.length<=3:=ok.1.2.1
 have p:b.length<=(dTs bs).tail.length:=by rw[O2,A];simp;lia
 have r:(E5 b (dTs bs).tail).length=b.length:=by
  rw[O2,A]
  show(E5 b ((y++[z]).map MK.tB)).length=_
  rw[BX0,W4 b (y.map MK.tB) _ (by rw[BU2];lia),W3 b _ (by rw[BU2];lia)]
 have hD:∃s u,dD (.mk (.tr b) bs)=.tup [.str "try",s,.tup (E5 b (dTs bs).tail),u]:=⟨_,_,rfl⟩
 obtain⟨s,u,hD⟩:=hD
 rw[hD]
 walk_at "rd"
 refine B2 (d:=.tup (E5 b (dTs bs).tail)) rfl ?_
 walk_at "rd"
 rw[r]
 refine⟨by lia,by lia,fun k v M'=>M'=M/\(∀i,i<k->∀c,b[i]?=some c->takes w c=false)/\∃x,v=[some (.tup [.str "try",s,.tup (E5 b (dTs bs).tail),u]),some (.str w),x],⟨rfl,fun i h=>absurd h (Nat.not_lt_zero _),none,rfl⟩,?_,?_⟩
 ·rintro k d v F m ⟨rfl,n,x,rfl⟩
  have l:k<b.length:=by
   have:=(List.getElem?_eq_some_iff.mp m).1
   simpa using this
  obtain rfl:d=.int (k:Int):=by
   rw[BV6,CA2 (by simpa using l)] at m
   injection m with m;exact m.symm
  have f:=BV4 l
  generalize b[k]=c at f
  obtain⟨t,G⟩:=AB3 b _ k c p f
  walk_at "rd"
  refine B2 (d:=.tup (E5 b (dTs bs).tail)) rfl ?_
  walk_at "rd"
  refine B2 (d:=.tup [.str c.1,.str c.2,t]) (B7 G) ?_
  walk_at "rd"
  refine B2 (d:=.str c.1) (B7 (j:=0) rfl) ?_
  walk_at "rd"
  refine .inr ⟨c.1,[w,"any"],rfl,rfl,?_⟩
  have H:([w,"any"]:List Str).any (·==c.1)=takes w c:=by
   unfold takes
   simp only[BZ0,List.any_nil,Bool.or_false]
   rw[show(w==c.1)=(c.1==w) by rw[CE8,beq_iff_eq,beq_iff_eq];exact eq_comm,show(("any":Str)==c.1)=(c.1==("any":Str)) by rw[CE8,beq_iff_eq,beq_iff_eq];exact eq_comm]
  rw[H]
  cases hh:takes w c with
  | true =>
   refine⟨true,rfl,C8 rfl ?_⟩
   have e:b.findIdx? (takes w)=some k:=by
    rw[List.findIdx?_eq_some_iff_getElem]
    refine⟨l,?_,fun j I=>?_⟩
    ·rw[BV4 l] at f;injection f with f;rw[f];exact hh
    ·have:=n j I b[j] (BV4 (by lia));rw[this];exact BU9
   rw[e] at q
   walk_at "rd"
   exact View.of q
  | false =>
   refine⟨false,rfl,B5 rfl ?_⟩
   walk_at "rd"
   refine⟨rfl,fun i N J g=>?_,_,rfl⟩
   rcases CD1 i k with h|h
   ·exact n i h J g
   ·have:i=k:=by lia
    subst this
    rw[f] at g;injection g with g;subst g;exact hh
 ·rintro v F ⟨rfl,n,x,rfl⟩
  have e:b.findIdx? (takes w)=none:=idx_none.mpr fun k a h=>n k (by have:=(List.getElem?_eq_some_iff.mp h).1;simp;lia) a h
  rw[e] at q
  walk_at "rd"
  exact View.of q
end GW
open L3
namespace GW
open PySem L2 L3 MK K11 K12 GO CD CH GU
open LW (N3 O7 L1 S0 R1 J6 O6 spLead spIsDeed spWhile pOf)
open TK (neD neB L5)
theorem QE {α b:Type}{f:α->Option b}:∀{l:List α} {k:Nat} {g:α} {x:b},(∀i,i<k->∀a,l[i]?=some a->f a=none)->l[k]?=some g->f g=some x->l.findSome? f=some x
 | [],k,g,x,_,h,_=>by simp at h
 | a::l,0,g,x,_,h,e=>by
  have:a=g:=by simpa using h
  subst this
  rw[BW5,e]
 | a::l,k+1,g,x,hk,h,e=>by
  rw[BW5,hk 0 (by lia) a rfl]
  exact QE (k:=k) (fun i d a c=>hk (i+1) (by lia) a (by simpa using c)) (by simpa using h) e
theorem VQ {b:Type}{f:α->Option b}{l:List α}(h:∀i,i<l.length->∀a,l[i]?=some a->f a=none):l.findSome? f=none:=by
 rw[List.findSome?_eq_none_iff]
 intro x c
 obtain⟨i,e⟩:=CC8 c
 exact h i (List.getElem?_eq_some_iff.mp e).1 x e
theorem AE3 {b:Blk}{g:G}(h:g∈gs b):∃cs bs,(g.q,Deed.mk (.tr cs) bs)∈prB b [] 0/\(g.cat=[]\/g.cat.length=cs.length):=by
 obtain⟨⟨q,f,bs⟩,e,hg⟩:=List.mem_flatMap.mp h
 have e:=List.mem_reverse.mp e
 cases f with
 | leaf _ _=>cases hg
 | ife _=>cases hg
 | whl _=>cases hg
 | tr cs =>
  have hg:g∈gsT (A9 b) q cs.length:=hg
  unfold gsT at hg
  have d:((BW8 cs.length).map fun a=>J5 (A9 b) (kd (q++[((a+1:Nat):Int),0]))).length=cs.length:=by simp
  generalize (BW8 cs.length).map (fun a=>J5 (A9 b) (kd (q++[((a+1:Nat):Int),0])))=C at hg d
  cases C with
  | nil =>
   have hg:=List.mem_singleton.mp hg
   subst hg
   exact⟨cs,bs,e,.inl rfl⟩
  | cons c C =>
   rcases BZ3.mp hg with rfl|hg
   ·exact⟨cs,bs,e,.inr d⟩
   ·split at hg
    ·have hg:=List.mem_singleton.mp hg
     subst hg
     exact⟨cs,bs,e,.inl rfl⟩
    ·cases hg
theorem BD7 (b:Blk):(gs b).length<=2*D5 b:=by
 have h:=MY b (prB b [] 0).reverse
 rw[<-MX,FO,BU2,CF9,FT] at h
 exact h
set_option maxHeartbeats 2000000 in
theorem rd__law_fault:∀ds M Q,AZ5 ds M Q->DC {nx:=fun _ M'=>View Q .non M',rt:=View Q} (B8 LX ds) M:=by
 rintro _ M Q ⟨r,n,w,rfl,⟨ok,ne,X,E,S⟩,q⟩
 have T:U7 r:=⟨ok,E,by lia⟩
 have F:rFN r:=⟨T,ne⟩
 unfold DC
 walk_at "rd"
 rw[FO]
 refine⟨fun k G M'=>M'=M/\(∀i,i<k->∀a,(gs r.blk)[i]?=some a->F5 r.blk w n a=none)/\∃H I J K L N,G=[some (rD r),some (.tup ((gs r.blk).map gT)),some (.int (n:Int)),some (.str w),H,I,J,K,L,N],⟨rfl,fun i h=>absurd h (Nat.not_lt_zero _),_,_,_,_,_,_,rfl⟩,?_,?_⟩
 ·rintro k d G V U ⟨rfl,s,H,I,J,K,L,N,rfl⟩
  rw[BV6] at U
  obtain⟨g,y,rfl⟩:=Option.map_eq_some_iff.mp U
  obtain⟨t,bs,C,z⟩:=AE3 (BV2 y)
  have next:F5 r.blk w n g=none->∀i,i<k+1->∀a,(gs r.blk)[i]?=some a->F5 r.blk w n a=none:=fun h i Y a A=>by
   rcases CD1 i k with h'|h'
   ·exact s i h' a A
   ·have:i=k:=by lia
    subst this
    rw[y] at A;injection A with A;subst A;exact h
  have O:=GN C
  refine J0 (ds:=[.int g.f,.int g.e,plT g.q,.tup (g.cat.map D.int),.int g.la]) rfl ?_
  walk_at "rd"
  by_cases v:¬g.f<=(n:Int)
  ·have o:F5 r.blk w n g=none:=by unfold F5 hit;rw[if_neg];simp[v]
   rw[decide_eq_false v]
   walk_at "rd"
   exact⟨rfl,next o,_,_,_,_,_,_,rfl⟩
  have v:g.f<=(n:Int):=Classical.not_not.mp v
  rw[decide_eq_true v]
  walk_at "rd"
  by_cases x:¬(n:Int)<g.e
  ·have o:F5 r.blk w n g=none:=by unfold F5 hit;rw[if_neg];simp[x]
   rw[decide_eq_false x]
   walk_at "rd"
   exact⟨rfl,next o,_,_,_,_,_,_,rfl⟩
  have x:(n:Int)<g.e:=Classical.not_not.mp x
  rw[decide_eq_true x]
  have W:hit n g=true:=by unfold hit;rw[decide_eq_true v,decide_eq_true x];rfl
  walk_at "rd"
  refine OA (J6 g.cat) AQ8 AD8 ?_
  have B:F5 r.blk w n g=match (if g.cat.isEmpty then none else t.findIdx? (takes w)) with
   | some c=>some (.catch g.q c (g.cat.getD c 0))
   | none=>if g.la = -1 then none else some (.last g.q g.la):=by
   unfold F5
   rw[if_pos W,O]
   rfl
  by_cases b:g.cat.isEmpty=true
  ·have p:(if g.cat.isEmpty then none else t.findIdx? (takes w))=none:=by rw[if_pos b]
   have u:(List.map D.int g.cat).isEmpty=true:=by rw[List.isEmpty_iff] at b ⊢;rw[b];rfl
   rw[u]
   refine⟨false,rfl,B5 rfl ?_⟩
   walk_at "rd"
   by_cases l:g.la = -1
   ·have o:F5 r.blk w n g=none:=by rw[B,p];simp only[if_pos l]
    refine B5 (by simp[l]) ?_
    walk_at "rd"
    exact⟨rfl,next o,_,_,_,_,_,_,rfl⟩
   ·have m:F5 r.blk w n g=some (.last g.q g.la):=by rw[B,p];simp only[if_neg l]
    refine C8 (by simp[l]) ?_
    walk_at "rd"
    rw[QE s y m] at q
    exact View.of q
  ·have u:(List.map D.int g.cat).isEmpty=false:=by
    cases P:g.cat with
    | nil=>rw[P] at b;exact absurd rfl b
    | cons _ _=>rfl
   have R:g.cat.length=t.length:=by
    rcases z with h|h
    ·rw[h] at b;exact absurd rfl b
    ·exact h
   rw[u]
   refine⟨true,rfl,C8 rfl ?_⟩
   walk_at "rd"
   refine⟨r,g.q,_,rfl,T,C,?_⟩
   walk_at "rd"
   refine⟨t,bs,w,rfl,Y0 ok C,X9 F C,?_⟩
   cases hf:t.findIdx? (takes w) with
   | some c =>
    have p:(if g.cat.isEmpty then none else t.findIdx? (takes w))=some c:=by rw[if_neg b,hf]
    have P:c<g.cat.length:=by rw[R];exact(List.findIdx?_eq_some_iff_getElem.mp hf).1
    have m:F5 r.blk w n g=some (.catch g.q c (g.cat.getD c 0)):=by rw[B,p]
    rw[QE s y m] at q
    walk_at "rd"
    refine B2 (d:=.int (g.cat.getD c 0)) (B7 (j:=c) (by rw[BV6,CI0,BV4 P];rfl)) ?_
    walk_at "rd"
    exact View.of q
   | none =>
    have p:(if g.cat.isEmpty then none else t.findIdx? (takes w))=none:=by rw[if_neg b,hf]
    walk_at "rd"
    by_cases l:g.la = -1
    ·have o:F5 r.blk w n g=none:=by rw[B,p];simp only[if_pos l]
     refine B5 (by simp[l]) ?_
     walk_at "rd"
     exact⟨rfl,next o,_,_,_,_,_,_,rfl⟩
    ·have m:F5 r.blk w n g=some (.last g.q g.la):=by rw[B,p];simp only[if_neg l]
     refine C8 (by simp[l]) ?_
     walk_at "rd"
     rw[QE s y m] at q
     exact View.of q
 ·rintro G V ⟨rfl,s,H,I,J,K,L,N,rfl⟩
  rw[BU2] at s
  rw[VQ s] at q
  walk_at "rd"
  exact View.of q
end GW
open L3
namespace GW
open PySem L2 L3 MK K11 K12 GO CD CH GU
open LW (N3 O7 L1 S0 R1 J6 O6 spLead spIsDeed spWhile pOf)
open TK (neD neB L5)
theorem PZ:∀a c:List Int,CI9 (AR (a.map D.int)) (AR (c.map D.int))=decide (a=c)
 | [],[]=>rfl
 | [],_::_=>rfl
 | _::_,[]=>rfl
 | x::a,y::c=>by
  simp only[BX1,AR,pyD,CI9,CB2,PZ a c]
  rw[CE8]
  simp
theorem BD1 (a c:List Int):CB2 (pyD (plT a)) (pyD (plT c))=decide (a=c):=by
 simp only[plT,pyD,CB2]
 exact PZ a c
set_option maxHeartbeats 2000000 in
theorem rd__law_way:∀ds M Q,AM3 ds M Q->IJ {nx:=fun _ M'=>View Q .non M',rt:=View Q} (B8 SJ ds) M:=by
 rintro _ M Q ⟨b,n,o,rfl,O,A,q⟩
 unfold IJ
 walk_at "rd"
 rw[FO]
 refine⟨fun k B M'=>M'=M/\(∀i,i<k->∀a,(gs b)[i]?=some a->G1 n o a=none)/\∃C E F G H z,B=[some (.tup ((gs b).map gT)),some (.int (n:Int)),some (oD o),C,E,F,G,H,z],⟨rfl,fun i h=>absurd h (Nat.not_lt_zero _),_,_,_,_,_,_,rfl⟩,?_,?_⟩
 ·rintro k d B M4 J ⟨rfl,s,C,E,F,G,H,z,rfl⟩
  rw[BV6] at J
  obtain⟨g,I,rfl⟩:=Option.map_eq_some_iff.mp J
  have L:=A g (BV2 I)
  have next:G1 n o g=none->∀i,i<k+1->∀a,(gs b)[i]?=some a->G1 n o a=none:=fun h i P a t=>by
   rcases CD1 i k with h'|h'
   ·exact s i h' a t
   ·have:i=k:=by lia
    subst this
    rw[I] at t;injection t with t;subst t;exact h
  refine J0 (ds:=[.int g.f,.int g.e,plT g.q,.tup (g.cat.map D.int),.int g.la]) rfl ?_
  have u:∀T:L6,T.nx [some (.tup ((gs b).map gT)),some (.int (n:Int)),some (oD o),some (.int g.f),some (.int g.e),some (plT g.q),some (.tup (g.cat.map D.int)),some (.int g.la),some (.bl (within o g.q))] M4 ->
    (C0 8 (LJ (A6 UB (A4 2) (tC3 .non)) (R4 (A6 CL (F0 D8 (A0 (A4 5) A5)) (F0 D8 (A0 (A4 2) A5))) (A6 D7 (Y7 (A4 5) F7 (J8 (F0 D8 (A0 (A4 2) A5)))) (A4 2))))) T [some (.tup ((gs b).map gT)),some (.int (n:Int)),some (oD o),some (.int g.f),some (.int g.e),some (plT g.q),some (.tup (g.cat.map D.int)),some (.int g.la),z] M4:=by
   intro T v
   cases o with
   | none =>
    walk_at "rd"
    exact v
   | some p =>
    walk_at "rd"
    by_cases K:p.length<g.q.length
    ·refine⟨true,congrArg D.bl (decide_eq_true (by simp;lia)),C8 rfl ?_⟩
     walk_at "rd"
     refine CP (p:=p) ?_
     have w:cutD (g.q.map D.int) none (some (p.length:Int))=(g.q.take p.length).map D.int:=by
      unfold cutD
      rw[BU2,HT.AW5,HT.HX,Nat.min_eq_left (by lia)]
      simp
     show Y1 (.tup (g.q.map D.int)) none (some (p.length:Int)) _ _
     refine rd_slWT.g ?_
     rw[w]
     walk_at "rd"
     have l:within (some p) g.q=decide (g.q.take p.length=p):=by show(decide (p.length<g.q.length) && decide (g.q.take p.length=p))=_;rw[decide_eq_true K];rfl
     rw[l] at v
     exact HR (x:=plT (g.q.take p.length)) (J6 _) (J6 _) (BD1 _ _) v
    ·refine⟨false,congrArg D.bl (decide_eq_false (by simp;lia)),B5 rfl ?_⟩
     have l:within (some p) g.q=false:=by show(decide (p.length<g.q.length) && decide (g.q.take p.length=p))=false;rw[decide_eq_false K];rfl
     rw[l] at v
     walk_at "rd"
     exact v
  refine rd_seq.g ?_
  refine u _ ?_
  walk_at "rd"
  by_cases m:¬g.f<=(n:Int)
  ·have c:G1 n o g=none:=by unfold G1 hit;rw[if_neg];simp[m]
   rw[decide_eq_false m]
   walk_at "rd"
   exact⟨rfl,next c,_,_,_,_,_,_,rfl⟩
  have m:g.f<=(n:Int):=Classical.not_not.mp m
  rw[decide_eq_true m]
  walk_at "rd"
  by_cases r:¬(n:Int)<g.e
  ·have c:G1 n o g=none:=by unfold G1 hit;rw[if_neg];simp[r]
   rw[decide_eq_false r]
   walk_at "rd"
   exact⟨rfl,next c,_,_,_,_,_,_,rfl⟩
  have r:(n:Int)<g.e:=Classical.not_not.mp r
  rw[decide_eq_true r]
  have N:hit n g=true:=by unfold hit;rw[decide_eq_true m,decide_eq_true r];rfl
  walk_at "rd"
  by_cases j:g.la = -1
  ·have c:G1 n o g=none:=by unfold G1;rw[if_neg];simp[j]
   refine B5 (by simp[j]) ?_
   walk_at "rd"
   exact⟨rfl,next c,_,_,_,_,_,_,rfl⟩
  refine C8 (by simp[j]) ?_
  walk_at "rd"
  cases l:within o g.q with
  | false =>
   have c:G1 n o g=none:=by unfold G1;rw[if_neg];simp[l]
   walk_at "rd"
   exact⟨rfl,next c,_,_,_,_,_,_,rfl⟩
  | true =>
   have y:G1 n o g=some (.last g.q g.la):=by unfold G1;rw[if_pos ⟨N,j,l⟩]
   walk_at "rd"
   rw[QE s I y] at q
   exact View.of q
 ·rintro B M4 ⟨rfl,s,C,E,F,G,H,z,rfl⟩
  rw[BU2] at s
  rw[VQ s] at q
  walk_at "rd"
  exact View.of q
end GW
open L3
namespace GW
open PySem L2 L3 MK K11 K12 GO CD CH GU
open LW (N3 O7 L1 S0 R1 J6 O6 spLead spIsDeed spWhile pOf)
open TK (neD neB L5)
theorem rd__law_leads_so:∀ds M Q,XA ds M Q->V6 {nx:=fun _ M'=>View Q .non M',rt:=View Q} (B8 FD ds) M:=by
 rintro _ M Q ⟨b,f,d,rfl,ok,ne,a,k,g,q⟩
 unfold V6
 cases k with
 | out =>
  walk_at "rd"
  refine B2 (d:=.str "out") (B7 (j:=0) rfl) ?_
  walk_at "rd"
  refine .inr ⟨"out",["out","behind"],rfl,rfl,?_⟩
  refine⟨true,congrArg D.bl (by decide +kernel),C8 rfl ?_⟩
  walk_at "rd"
  refine B2 (d:=.str "out") (B7 (j:=0) rfl) ?_
  walk_at "rd"
  exact View.of q
 | beh m =>
  walk_at "rd"
  refine B2 (d:=.str "behind") (B7 (j:=0) rfl) ?_
  walk_at "rd"
  refine .inr ⟨"behind",["out","behind"],rfl,rfl,?_⟩
  refine⟨true,congrArg D.bl (by decide +kernel),C8 rfl ?_⟩
  walk_at "rd"
  refine B2 (d:=.str "out") (B7 (j:=0) rfl) ?_
  walk_at "rd"
  exact View.of q
 | @last p j i h e =>
  subst h
  walk_at "rd"
  refine B2 (d:=.str "last") (B7 (j:=0) rfl) ?_
  walk_at "rd"
  refine .inr ⟨"last",["out","behind"],rfl,rfl,?_⟩
  refine⟨false,congrArg D.bl (by decide +kernel),B5 rfl ?_⟩
  walk_at "rd"
  refine B2 (d:=.str "last") (B7 (j:=0) rfl) ?_
  walk_at "rd"
  refine B2 (d:=.str "last") (B7 (j:=0) rfl) ?_
  walk_at "rd"
  refine B5 (by decide +kernel) ?_
  walk_at "rd"
  refine B2 (d:=plT p) (B7 (j:=1) rfl) ?_
  walk_at "rd"
  refine B2 (d:=plT p) (B7 (j:=1) rfl) ?_
  refine OA (J6 p) (J6 p) (O6 p) ?_
  walk_at "rd"
  refine B2 (d:=.str "last") (B7 (j:=0) rfl) ?_
  walk_at "rd"
  refine C8 (by decide +kernel) ?_
  walk_at "rd"
  refine B2 (d:=.int (j:Int)) (B7 (j:=2) rfl) ?_
  walk_at "rd"
  refine B2 (d:=plT p) (B7 (j:=1) rfl) ?_
  walk_at "rd"
  exact⟨b,j,p,rfl,ok,ne,a,e,View.of q⟩
 | @«catch» p c j i h e =>
  subst h
  have l:=g p c _ rfl
  walk_at "rd"
  refine B2 (d:=.str "catch") (B7 (j:=0) rfl) ?_
  walk_at "rd"
  refine .inr ⟨"catch",["out","behind"],rfl,rfl,?_⟩
  refine⟨false,congrArg D.bl (by decide +kernel),B5 rfl ?_⟩
  walk_at "rd"
  refine B2 (d:=.str "catch") (B7 (j:=0) rfl) ?_
  walk_at "rd"
  refine B2 (d:=.str "catch") (B7 (j:=0) rfl) ?_
  walk_at "rd"
  refine B5 (by decide +kernel) ?_
  walk_at "rd"
  refine B2 (d:=plT p) (B7 (j:=1) rfl) ?_
  walk_at "rd"
  refine B2 (d:=plT p) (B7 (j:=1) rfl) ?_
  refine OA (J6 p) (J6 p) (O6 p) ?_
  walk_at "rd"
  refine B2 (d:=.str "catch") (B7 (j:=0) rfl) ?_
  walk_at "rd"
  refine B5 (by decide +kernel) ?_
  walk_at "rd"
  refine B2 (d:=.int (c:Int)) (B7 (j:=2) rfl) ?_
  walk_at "rd"
  refine B2 (d:=.int (c:Int)) (B7 (j:=2) rfl) ?_
  walk_at "rd"
  refine C8 (beq_self_eq_true _) ?_
  walk_at "rd"
  refine B2 (d:=.int (j:Int)) (B7 (j:=3) rfl) ?_
  walk_at "rd"
  refine B2 (d:=plT p) (B7 (j:=1) rfl) ?_
  walk_at "rd"
  refine B2 (d:=.int (c:Int)) (B7 (j:=2) rfl) ?_
  walk_at "rd"
  refine AH (es:=[1+(c:Int),0]) (by simp;lia) ?_
  walk_at "rd"
  exact⟨b,j,p++[1+(c:Int),0],rfl,ok,ne,a,by rw[show(1:Int)+(c:Int)=((c+1:Nat):Int) by lia];exact e,View.of q⟩
theorem VA:∀(cs:List (Str×Str)) (ts:List D),E5 cs ts=(cs.zip ts).map fun x=>D.tup [.str x.1.1,.str x.1.2,x.2]
 | [],_=>rfl
 | (w,x)::cs,[]=>rfl
 | (w,x)::cs,t::ts=>by rw[E5,VA cs ts];rfl
theorem rd__law_words:∀ds M Q,XC ds M Q->DG {nx:=fun _ M'=>View Q .non M',rt:=View Q} (B8 MB ds) M:=by
 rintro _ M Q ⟨r,rfl,⟨ok,ne,X,i,z⟩,q⟩
 have A:U7 r:=⟨ok,i,by lia⟩
 have J:rFN r:=⟨A,ne⟩
 unfold DG
 walk_at "rd"
 refine⟨r,rfl,ok,i,by lia,fun a K L N n=>?_⟩
 refine⟨a,_,rfl,N,?_⟩
 have o:J4 K a=M:=by
  funext x
  by_cases g:x=a
  ·subst g;rw[Q0,L]
  ·rw[I0 g,n x g]
 rw[o]
 walk_at "rd"
 have O:(plB r.blk [] 0).map plT=(prB r.blk [] 0).map fun x=>plT x.1:=by rw[<-S2,CC6];rfl
 rw[O]
 refine⟨fun k s M'=>M'=M/\∃(b:List Str) (t u:Option D),s=[some (rD r),some (.lst (b.map D.str)),t,u]/\b.length<=3+3*k,⟨rfl,["kind","close","zzzzzzzz"],_,_,rfl,by simp⟩,?_,?_⟩
 ·rintro k d s P B ⟨rfl,b,t,u,rfl,l⟩
  rw[BV6] at B
  obtain⟨⟨p,v⟩,g,rfl⟩:=Option.map_eq_some_iff.mp B
  have C:(p,v)∈prB r.blk [] 0:=BV2 g
  have S:k<30:=by
   have:=(List.getElem?_eq_some_iff.mp g).1
   rw[FT] at this;lia
  walk_at "rd"
  refine⟨r,p,v,rfl,A,C,?_⟩
  obtain⟨h,bs⟩:=v
  obtain⟨f,T⟩:=QI h (dTs bs)
  have E:dD (.mk h bs)=.tup (.str (O0 h)::f):=T
  have m:=Y0 ok C
  walk_at "rd"
  rw[E]
  refine B2 (d:=.str (O0 h)) (B7 (j:=0) rfl) ?_
  walk_at "rd"
  cases h with
  | tr c =>
   refine C8 rfl ?_
   have hD:∃G H,f=[G,.tup (E5 c (dTs bs).tail),H]:=by
    have:dD (.mk (.tr c) bs)=.tup [.str "try",_,.tup (E5 c (dTs bs).tail),_]:=rfl
    rw[E] at this
    injection this with this
    injection this with _ this
    exact⟨_,_,this⟩
   obtain⟨G,H,rfl⟩:=hD
   have I:c.length<=3:=m.1.2.1
   have U:(c.zip (dTs bs).tail).length<=3:=by rw[List.length_zip];lia
   walk_at "rd"
   refine B2 (d:=.tup (E5 c (dTs bs).tail)) rfl ?_
   walk_at "rd"
   rw[VA]
   refine Q1 (c.zip (dTs bs).tail) (fun x=>D.tup [.str x.1.1,.str x.1.2,x.2]) (fun x=>.str x.1.1) (fun x=>!(b++[("any":Str)]).any (·==x.1.1)) (by rw[BW2];lia) ?_ ?_
   ·intro x g Z R F hs V W
    walk_at "rd"
    refine B2 (d:=.str x.1.1) (B7 (j:=0) rfl) ?_
    walk_at "rd"
    refine CO (by rw[BU2,BW2];simp;lia) ?_
    refine .inr ⟨x.1.1,b++[("any":Str)],rfl,by rw[BX0];rfl,?_⟩
    cases hh:(b++[("any":Str)]).any (·==x.1.1) with
    | true =>
     refine⟨false,rfl,B5 rfl ?_⟩
     exact W (by rw[hh];rfl)
    | false =>
     refine⟨true,rfl,C8 rfl ?_⟩
     walk_at "rd"
     refine B2 (d:=.str x.1.1) (B7 (j:=0) rfl) ?_
     exact V (by rw[hh];rfl)
   have y:=CJ9 (fun x:(Str×Str)×D=>!(b++[("any":Str)]).any (·==x.1.1)) (c.zip (dTs bs).tail)
   generalize (c.zip (dTs bs).tail).filter (fun x:(Str×Str)×D=>!(b++[("any":Str)]).any (·==x.1.1))=Y at y
   refine CO (by rw[BU2,BU2,BW2];lia) ?_
   refine⟨rfl,b++Y.map (·.1.1),_,_,by rw[BX0,CC6];rfl,by rw[BU7,BU2];lia⟩
  | ife e =>
   refine B5 (by simp only[O0];decide +kernel) ?_
   walk_at "rd"
   exact⟨rfl,b,_,_,rfl,by lia⟩
  | whl e =>
   refine B5 (by simp only[O0];decide +kernel) ?_
   walk_at "rd"
   exact⟨rfl,b,_,_,rfl,by lia⟩
  | leaf w rs =>
   refine B5 (U1 m.1.2).2.2 ?_
   walk_at "rd"
   exact⟨rfl,b,_,_,rfl,by lia⟩
 ·rintro s P ⟨rfl,b,t,u,rfl,l⟩
  rw[BU2,FT] at l
  walk_at "rd"
  exact View.of (q b (by lia))
end GW
open L3
namespace GW
open PySem L2 L3 MK K11 K12 GO CD CH GU
open LW (N3 O7 L1 S0 R1 J6 O6 spLead spIsDeed spWhile pOf)
open TK (neD neB L5)
theorem HW {b:Blk}(ok:okB b){n:Nat}(c:(A9 b)[n]?=some row)(f:isJ row=false)(g:C4 row=kd p)(h:(p,d)∈prB b [] 0):Rw b n row p d:=by
 refine⟨c,f,by rw[g],h,?_⟩
 obtain⟨s,j⟩:=V1 ok p.length p d (BU4 _) h
 obtain⟨r,l,e,k,m⟩:=DR b d p
 have i:=j.sub
 refine⟨s,i,?_⟩
 have a:=i
 rw[e] at a
 have:=GY (G0 b) c a.head f m (g.trans k.symm)
 rw[e]
 simp only[BU8]
 exact⟨by lia,by lia⟩
theorem BQ3 {b:Blk}(ok:okB b){n:Nat}{bs:Bls}(h:(A9 b)[n]?=some row)(i:isJ row=false)(j:C4 row=kr p)(k:(p,.mk (.tr cs) bs)∈prB b [] 0)(f:neD (.mk (.tr cs) bs))(r:hasL (.mk (.tr cs) bs)=true):Rw b n row p (.mk (.tr cs) bs):=by
 refine⟨h,i,by rw[j],k,?_⟩
 obtain⟨s,t⟩:=V1 ok p.length p _ (BU4 _) k
 obtain⟨a,A,z,l,c,B,u,v⟩:=f.1
 have w:(C5 bs)[cs.length+1]?=some z:=by rw[l];simp[c]
 have g:E1 z=false:=by
  have:=AE w
  rw[r] at this
  simpa using this.symm
 have m:=t.sub
 refine⟨s,m,?_⟩
 have e:=XN b (q:=p) l c
 rw[g,if_neg BU9] at e
 have x:∃X,drD b (.mk (.tr cs) bs) p=X++[.lv "resume" p (lfT b p)]:=by
  rw[e]
  generalize drB b a (p++[0]) 0=y
  generalize drB b z (p++[((cs.length+1:Nat):Int)]) 0=Z
  generalize CB9 _ _=F
  exact⟨.own "open" p::(y++(F++.own "last" p::Z)),by simp⟩
 obtain⟨X,o⟩:=x
 have d:=m
 rw[o] at d
 have:=GY (G0 b) h d.right.head i rfl (j.trans rfl)
 rw[o,BU7,List.length_singleton]
 exact⟨by lia,by lia⟩
theorem BQ4 {b:Blk}(ok:okB b)(ne:neB b)(hnn:∀q d,(q,d)∈prB b [] 0->neD d){n:Nat}(c:(A9 b)[n]?=some row)(e:(["jump","done","last"]:List Str).any (·==wd row)=false) :
  (∃d,Rw b n row (pOf row) d)/\∃rest,V8 (A9 b) row=.tup (.str (wd row)::plT (pOf row)::rest):=by
 cases Z9 ok ne n row c with
 | stop a h=>rcases h with rfl|rfl<;>exact⟨⟨_,HW ok c rfl rfl a⟩,_,rfl⟩
 | deed a f g i j _ =>
  have k:=LW.word_two i j
  generalize K2 _=w at *
  rcases k with rfl|rfl<;>exact⟨⟨_,HW ok c rfl rfl a⟩,_,rfl⟩
 | leave a=>exact⟨⟨_,HW ok c rfl rfl a⟩,_,rfl⟩
 | testE a g m _=>exact⟨⟨_,HW ok c rfl rfl a⟩,_,rfl⟩
 | testI a _ _=>exact⟨⟨_,HW ok c rfl rfl a⟩,_,rfl⟩
 | testW a _=>exact⟨⟨_,HW ok c rfl rfl a⟩,_,rfl⟩
 | jmp a h=>exact absurd e (by simp only[wd];decide +kernel)
 | opn a _=>exact⟨⟨_,HW ok c rfl rfl a⟩,_,rfl⟩
 | lst a h _=>exact absurd e (by simp only[wd];decide +kernel)
 | res a l _=>exact⟨⟨_,BQ3 ok c rfl rfl a (hnn _ _ a) l⟩,_,rfl⟩
 | done=>exact absurd e (by simp only[wd];decide +kernel)
theorem AY2 {b:Blk}(a:r.blk=b)(c:U7 r){g:G}(h:g∈gs b):g.q.length<=100:=by
 subst a
 obtain⟨e,bs,d,_⟩:=AE3 h
 have:=O4 c d
 lia
theorem AO2 {b:Blk}{w:Str}{x:List Int×Deed×Int}{c:Nat}{n:Int}(h:V5 b w x=some (.catch q c n)):q=x.1:=by
 unfold V5 at h
 split at h
 ·injection h with h;injection h with h;exact h.symm
 ·split at h
  ·injection h with h;cases h
  ·cases h
theorem AO6 {b:Blk}{o:Option (List Int)}{x:List Int×Deed×Int}{c:Nat}{n:Int}(h:L9 b o x=some (.catch q c n)):False:=by
 unfold L9 at h
 split at h
 ·injection h with h;cases h
 ·cases h
set_option maxHeartbeats 2000000 in
theorem rd__law_guards_right:∀ds M Q,BQ7 ds M Q->P7 {nx:=fun _ M'=>View Q .non M',rt:=View Q} (B8 AM ds) M:=by
 rintro _ M Q ⟨r,rfl,f,q⟩
 have m:=f
 obtain⟨ok,ne,nn,F,O⟩:=m
 have V:=KI ok ne
 have l:U7 r:=⟨ok,F,by lia⟩
 have G:rFN r:=⟨l,ne⟩
 have i:(A9 r.blk).length<=100:=by lia
 have hnn:∀q d,(q,d)∈prB r.blk [] 0->neD d:=fun q d h=>X9 G h
 unfold P7
 walk_at "rd"
 refine⟨r,rfl,f,fun P W=>?_⟩
 walk_at "rd"
 refine LW.rl (r:=r) ?_
 refine⟨by lia,by lia,fun k s M'=>M'=M/\∃H I t E,s=[some (rD r),some (N3 r.blk),some (.tup (GT r.blk)),some (.lst (P.map D.str)),H,I,t,E],⟨rfl,_,_,_,_,rfl⟩,?_,?_⟩
 ·rintro k d s S y ⟨rfl,H,I,t,E,rfl⟩
  have z:k<(A9 r.blk).length:=by
   have:=(List.getElem?_eq_some_iff.mp y).1
   simpa using this
  obtain rfl:d=.int (k:Int):=by
   rw[BV6,CA2 (by simpa using z)] at y
   injection y with y;exact y.symm
  have u:=BV4 z
  generalize (A9 r.blk)[k]=a at u
  have T:∀{M:Mem} {Q:DK},Q (V8 (A9 r.blk) a) M->C1 (N3 r.blk) (.int (k:Int)) M Q:=fun q=>B2 (O7 u) q
  obtain⟨J,K⟩:=LW.rowN_0 (A9 r.blk) a
  walk_at "rd"
  refine T ?_
  rw[K]
  walk_at "rd"
  refine B2 (d:=.str (wd a)) (B7 (j:=0) rfl) ?_
  walk_at "rd"
  refine .inr ⟨wd a,["jump","done","last"],rfl,rfl,?_⟩
  cases hno:(["jump","done","last"]:List Str).any (·==wd a) with
  | true =>
   refine⟨false,rfl,B5 rfl ?_⟩
   walk_at "rd"
   exact⟨rfl,_,_,_,_,rfl⟩
  | false =>
   refine⟨true,rfl,C8 rfl ?_⟩
   obtain⟨⟨dp,R⟩,U,X⟩:=BQ4 ok ne hnn u hno
   have Y:=O4 l R.hp
   have b:∀x∈ar r.blk (pOf a),(x.1,x.2.1)∈prB r.blk [] 0:=fun x v=>(W2 _ (BU4 _) R.hp x v).2
   walk_at "rd"
   refine T ?_
   rw[X]
   walk_at "rd"
   refine B2 (d:=plT (pOf a)) (B7 (j:=1) rfl) ?_
   walk_at "rd"
   have L:∀(w:Str) q c n,(gs r.blk).findSome? (F5 r.blk w k)=some (.catch q c n)->q.length<=90:=fun w q c n h=>by
    rw[AX8 ok ne hnn R w] at h
    obtain⟨x,v,e⟩:=List.exists_of_findSome?_eq_some h
    have:=O4 l (b x v)
    rw[AO2 e];lia
   have A:∀(o:Option (List Int)) q c n,(gs r.blk).findSome? (G1 k o)=some (.catch q c n)->q.length<=90:=fun o q c n h=>by
    rw[w_all ok ne hnn R o] at h
    obtain⟨x,v,e⟩:=List.exists_of_findSome?_eq_some h
    exact(AO6 e).elim
   refine⟨fun Z s M'=>M'=S/\∃t,s=[some (rD r),some (N3 r.blk),some (.tup (GT r.blk)),some (.lst (P.map D.str)),some (.int (k:Int)),some (plT (pOf a)),t,E],⟨rfl,_,rfl⟩,?_,?_⟩
   ·rintro Z d s M5 B ⟨rfl,t,rfl⟩
    rw[BV6] at B
    obtain⟨w,_,rfl⟩:=Option.map_eq_some_iff.mp B
    walk_at "rd"
    refine⟨r,k,w,rfl,f,?_⟩
    walk_at "rd"
    refine⟨r,pOf a,dp,w,rfl,l,R.hp,?_⟩
    walk_at "rd"
    refine⟨r.blk,_,_,rfl,ok,ne,i,by rw[AX8 ok ne hnn R w];exact KU ok hnn w _ b,L w,?_⟩
    walk_at "rd"
    exact⟨rfl,_,rfl⟩
   ·rintro s M5 ⟨rfl,t,rfl⟩
    walk_at "rd"
    refine⟨r.blk,k,none,rfl,by simp,fun g u=>AY2 rfl l u,?_⟩
    walk_at "rd"
    refine⟨r,pOf a,dp,rfl,l,R.hp,?_⟩
    walk_at "rd"
    refine⟨r.blk,_,_,rfl,ok,ne,i,by rw[w_all ok ne hnn R none];exact VY ok _ b,A none,?_⟩
    walk_at "rd"
    refine⟨r,pOf a,dp,rfl,l,R.hp,?_⟩
    cases ho:whA r.blk (pOf a) with
    | none =>
     walk_at "rd"
     exact⟨rfl,_,_,_,_,rfl⟩
    | some o =>
     walk_at "rd"
     have N:o.length<=100:=by
      have C:=ho
      unfold whA at C
      obtain⟨x,v,rfl⟩:=Option.map_eq_some_iff.mp C
      have:=O4 l (b x (CF4 v))
      lia
     refine⟨r.blk,k,some o,rfl,fun p hp=>by cases hp;exact N,fun g u=>AY2 rfl l u,?_⟩
     walk_at "rd"
     refine⟨r,pOf a,dp,rfl,l,R.hp,?_⟩
     walk_at "rd"
     refine⟨r.blk,_,_,rfl,ok,ne,i,by rw[w_all ok ne hnn R (some o)];exact KW ok o _ (BU4 _) R.hp ho,A (some o),?_⟩
     walk_at "rd"
     exact⟨rfl,_,_,_,_,rfl⟩
 ·rintro s S ⟨rfl,H,I,t,E,rfl⟩
  walk_at "rd"
  exact View.of q
end GW
open L3
namespace GW
open PySem L2 L3 MK K11 K12 GO CD CH GU
open LW (N3 O7 L1 S0 R1 J6 O6 spLead spIsDeed spWhile pOf)
open TK (neD neB L5)
theorem rd_law:∀ds M Q,L3.OL ds M Q->BA1 {nx:=fun _ M'=>View Q .non M',rt:=View Q} (B8 BK7 ds) M:=by
 rintro _ M Q ⟨j,rfl,n,u,q⟩
 unfold BA1
 walk_at "rd"
 refine⟨j,2,rfl,by simpa using n,by lia,fun bk v c=>?_⟩
 refine rd_onTup.g ?_
 refine⟨fun k e M'=>∃f h i,e=[some (.lst (j.map D.int)),f,h,i],⟨_,_,_,rfl⟩,?_,?_⟩
 ·rintro k d e o l ⟨f,h,i,rfl⟩
  rw[BV6] at l
  obtain⟨r,p,rfl⟩:=Option.map_eq_some_iff.mp l
  have a:=c r (BV2 p)
  have b:=a
  obtain⟨ok,ne,w,s,m⟩:=b
  have t:(GT r.blk).length<=60:=by
   rw[FO,BU2]
   have:=BD7 r.blk
   lia
  walk_at "rd"
  refine⟨r,rfl,a,?_⟩
  walk_at "rd"
  refine J0 (ds:=[N3 r.blk,.tup (GT r.blk)]) rfl ?_
  walk_at "rd"
  rw[decide_eq_false (show¬(100:Int)<(GT r.blk).length by lia)]
  walk_at "rd"
  refine⟨r,rfl,a,?_⟩
  walk_at "rd"
  exact⟨_,_,_,rfl⟩
 ·rintro e o ⟨f,h,i,rfl⟩
  walk_at "rd"
  exact View.of (q _)
abbrev T8:List Str:=["_law_script","_law_cells","_law_found","_law_k","_law_cell","_law_left","_law_j"]
def t__law_draws:TS3:=TK.t__law_draws
theorem rd__law_draws:∀ds M Q,TK.spDraws ds M Q->t__law_draws {nx:=fun _ M'=>View Q .non M',rt:=View Q} (B8 T8 ds) M:=TK.rd__law_draws
end GW
namespace L3
open PySem PySem.Spec PyProof.Rows L2
def pms (st:Stmt):List Str:=(N0 st).args.map Arg.arg
theorem lnX {p:α->Prop}{q:Prop}(h:∀a,p a->q):(∃a,p a)->q:=fun z=>z.elim h
theorem lnA {a b q:Prop}(h:a->q):a/\b->q:=fun z=>h z.1
theorem lnE {l:List D}{n:Nat}(h:l.length=n):ds=l->ds.length=n:=fun e=>e ▸ h
def Ln (sp:Sp3)(st:Stmt):Prop:=∀ds M Q,sp ds M Q->ds.length=(pms st).length
structure En (e:Ext)(g:Gd)(P:BY7)(w:World)(K:BU5)(mg:Str->Option Value)(base h:Heap):Prop where
 he:ExtOk e
 hG:AN7 g w K mg
 X:K.In h
 G:h.Ns BY2 mg
section
variable {e:Ext}{g:Gd}{P:BY7}{w:World}{K:BU5}{mg:Str->Option Value}{base h:Heap}
theorem Cs.k {r k:Nat}{x:Str}{sp:Sp3}{L:List (Str×Sp3)}(f:F P w K mg base k x sp)(h:Cs P w K mg base r L)(a:k<=r:=by walk_at "k"):Cs P w K mg base r ((x,sp)::L):=.c f a h
variable (E:En e g P w K mg base h)
include E
theorem En.f (k:Nat){sp:Sp3}(a:Fg K x st){L:List (Str×Sp3)}(b:Cs P w K mg base k L)(s:Hs){t:TS3}(c:∀ds M Q,sp ds M Q->t {nx:=fun _ M'=>View Q .non M',rt:=View Q} (B8 N ds) M)
  (len:Ln sp st:=by walk_at "l") (S:T7 N (pms st) (D3 st):=by walk_at "s") (d:Bd x st (pms st):=by walk_at "b")
  (h:rb e (rc e 40) 60 (ct g N (D3 st) L s) (G3 st)=t:=by kernel_rfl):F P w K mg base (k+1) x sp:=okR E.he E.hG (a.at E.X E.G d) S len b s c h
theorem En.g1 (r:Nat)(a:Fg K x st)(z:∀ds M Q,¬sp 0 ds M Q)(s:∀k n,r<=k->F P w K mg base k x (sp n)->F P w K mg base (k+1) x (sp (n+1)))(n:Nat)
  (len:∀n,Ln (sp n) st:=by intro n;walk_at "l") (b:Bd x st (pms st):=by walk_at "b"):F P w K mg base (r+n) x (sp n):=by
 induction n with
 | zero=>exact P5 (a.at E.X E.G b) len z
 | succ n c=>exact s _ n (CF8 _ _) c
theorem En.g2 (r:Nat){y:Str}{st':Stmt}{c:Nat->Sp3}(a:Fg K x st)(b:Fg K y st')(z:∀ds M Q,¬sp 0 ds M Q)(z':∀ds M Q,¬c 0 ds M Q)
  (s:∀k n,r<=k->F P w K mg base k x (sp n)->F P w K mg base k y (c n)->F P w K mg base (k+1) x (sp (n+1))/\F P w K mg base (k+1) y (c (n+1))) (n:Nat)
  (len:∀n,Ln (sp n) st:=by intro n;walk_at "l") (d:∀n,Ln (c n) st':=by intro n;walk_at "l") (g:Bd x st (pms st):=by walk_at "b") (e:Bd y st' (pms st'):=by walk_at "b"):F P w K mg base (r+n) x (sp n)/\F P w K mg base (r+n) y (c n):=by
 induction n with
 | zero=>exact⟨P5 (a.at E.X E.G g) len z,P5 (b.at E.X E.G e) d z'⟩
 | succ n f=>exact s _ n (CF8 _ _) f.1 f.2
theorem En.g3 (r:Nat){y v:Str}{st' su:Stmt}{d e:Nat->Sp3}(a:Fg K x st)(b:Fg K y st')(c:Fg K v su)(z:∀ds M Q,¬sp 0 ds M Q)(z':∀ds M Q,¬d 0 ds M Q)(l:∀ds M Q,¬e 0 ds M Q)
  (s:∀k n,r<=k->F P w K mg base k x (sp n)->F P w K mg base k y (d n)->F P w K mg base k v (e n)->F P w K mg base (k+1) x (sp (n+1))/\F P w K mg base (k+1) y (d (n+1))/\F P w K mg base (k+1) v (e (n+1))) (n:Nat)
  (len:∀n,Ln (sp n) st:=by intro n;walk_at "l") (f:∀n,Ln (d n) st':=by intro n;walk_at "l") (g:∀n,Ln (e n) su:=by intro n;walk_at "l") (m:Bd x st (pms st):=by walk_at "b") (h:Bd y st' (pms st'):=by walk_at "b") (i:Bd v su (pms su):=by walk_at "b") :
  F P w K mg base (r+n) x (sp n)/\F P w K mg base (r+n) y (d n)/\F P w K mg base (r+n) v (e n):=by
 induction n with
 | zero=>exact⟨P5 (a.at E.X E.G m) len z,P5 (b.at E.X E.G h) f z',P5 (c.at E.X E.G i) g l⟩
 | succ n j=>exact s _ n (CF8 _ _) j.1 j.2.1 j.2.2
theorem En.g6 (r:Nat){y v b c d:Str}{st2 st3 st4 st5 st6:Stmt}{s1 e f g h s6:Nat->Sp3}(i:Fg K x st)(j:Fg K y st2)(a3:Fg K v st3)(l:Fg K b st4)(m:Fg K c st5)(o:Fg K d st6)(p:∀ds M Q,¬s1 0 ds M Q)(z2:∀ds M Q,¬e 0 ds M Q)(z3:∀ds M Q,¬f 0 ds M Q)(q:∀ds M Q,¬g 0 ds M Q)(t:∀ds M Q,¬h 0 ds M Q)(u:∀ds M Q,¬s6 0 ds M Q)
  (s:∀k n,r<=k->F P w K mg base k x (s1 n)->F P w K mg base k y (e n)->F P w K mg base k v (f n)->F P w K mg base k b (g n)->F P w K mg base k c (h n)->F P w K mg base k d (s6 n)->F P w K mg base (k+1) x (s1 (n+1))/\F P w K mg base (k+1) y (e (n+1))/\F P w K mg base (k+1) v (f (n+1))/\F P w K mg base (k+1) b (g (n+1))/\F P w K mg base (k+1) c (h (n+1))/\F P w K mg base (k+1) d (s6 (n+1))) (n:Nat)
  (z:∀n,Ln (s1 n) st:=by intro n;walk_at "l") (A:∀n,Ln (e n) st2:=by intro n;walk_at "l") (B:∀n,Ln (f n) st3:=by intro n;walk_at "l") (C:∀n,Ln (g n) st4:=by intro n;walk_at "l") (D:∀n,Ln (h n) st5:=by intro n;walk_at "l") (H:∀n,Ln (s6 n) st6:=by intro n;walk_at "l") (b0:Bd x st (pms st):=by walk_at "b") (I:Bd y st2 (pms st2):=by walk_at "b") (J:Bd v st3 (pms st3):=by walk_at "b") (b3:Bd b st4 (pms st4):=by walk_at "b") (L:Bd c st5 (pms st5):=by walk_at "b") (N:Bd d st6 (pms st6):=by walk_at "b") :
  F P w K mg base (r+n) x (s1 n)/\F P w K mg base (r+n) y (e n)/\F P w K mg base (r+n) v (f n)/\F P w K mg base (r+n) b (g n)/\F P w K mg base (r+n) c (h n)/\F P w K mg base (r+n) d (s6 n):=by
 induction n with
 | zero=>exact⟨P5 (i.at E.X E.G b0) z p,P5 (j.at E.X E.G I) A z2,P5 (a3.at E.X E.G J) B z3,P5 (l.at E.X E.G b3) C q,P5 (m.at E.X E.G L) D t,P5 (o.at E.X E.G N) H u⟩
 | succ n a=>exact s _ n (CF8 _ _) a.1 a.2.1 a.2.2.1 a.2.2.2.1 a.2.2.2.2.1 a.2.2.2.2.2
end
def wE (R:Rc)(Γ:Ct)(e:Expr):Option TE3:=match e with
 | .Subscript (.Name x _) i _=>match gl Γ x && !BM9 i,Γ.ts x with
  | true,some l=>some (AW8 l (R.E Γ i))
  | _,_=>none
 | _=>none
def extW:Ext:={AO with E:=wE}
theorem extW_ok:ExtOk extW:={G4 with
 E:=fun R c b X o e t h=>by
  have d:=(c b X o).1
  replace h:wE R b e=some t:=h
  unfold wE at h
  split at h
  ·split at h
   ·rename_i a f
    cases h
    rw[BV3,CA3] at a
    obtain⟨g1,g2,_⟩:=QF o a.1
    exact BG8 g1 (o.ts _ _ f) (d _) (AF7 fun l u s p e=>by rw[e] at a;cases a.2) g2
   ·cases h
  ·cases h}
def uJ (R:Rc)(Γ:Ct)(g i:Expr):Option TI3:=match g,i with
 | .Tuple ..,.Call (.Name x _) [a] [] _=>match x=="enumerate" && fr Γ "enumerate" && !isStar a with
  | true=>some (BG (R.E Γ a))
  | false=>none
 | _,_=>none
def extU:Ext:={AO with J:=uJ}
theorem extU_ok:ExtOk extU:={G4 with
 J:=fun R c a X o g i t h=>by
  have d:=(c a X o).1
  replace h:uJ R a g i=some t:=h
  unfold uJ at h
  split at h
  ·split at h
   ·rename_i b
    cases h
    rw[BV3,BV3,CA3] at b
    obtain⟨⟨e,f⟩,j⟩:=b
    cases eq_of_beq e
    obtain⟨g1,g2⟩:=AX9 o f
    exact AH7 g1 g2 (d _) (BQ9 j) rfl
   ·cases h
  ·cases h}
def r3I (R:Rc)(Γ:Ct)(_ i:Expr):Option TI3:=match i with
 | .Call (.Name x _) [a,b,c] [] _=>match x=="range" && fr Γ "range" && !isStar a && !isStar b && !isStar c with
  | true=>some (NA (rA (R.E Γ) [a,b,c]))
  | false=>none
 | _=>none
def extO:Ext:={AO with I:=r3I}
theorem extO_ok:ExtOk extO:={G4 with
 I:=fun R c a X o g i t h=>by
  have d:=(c a X o).1
  replace h:r3I R a g i=some t:=h
  unfold r3I at h
  split at h
  ·split at h
   ·rename_i b
    cases h
    rw[BV3,BV3,BV3,BV3,CA3,CA3,CA3] at b
    obtain⟨⟨⟨⟨e,f⟩,j⟩,k⟩,l⟩:=b
    cases eq_of_beq e
    obtain⟨g1,g2⟩:=AX9 o f
    exact TV g1 g2 (JD d _) (F1 j _ _) (IB (by rw[BZ0,BZ0,k,l];rfl))
   ·cases h
  ·cases h}
def AL3 (es:Array DictEntry):List (Str×Tok×Str×Tok):=es.toList.map fun e=>match e.key,e.val with
 | .str x t,.str y u=>(x,t,y,u)
 | _,_=>("",0,"",0)
theorem BM4 {P:Params}{a:Addr}{tbl:List (Str×Str)}{es:Array DictEntry}{b:Nat}(l:K.lookup a=some ⟨.type "dict",none,.dict es b,#[]⟩)(c:es=((AL3 es).map (AD6 P)).toArray)
  (v:(AL3 es).map (fun r=>(r.1,r.2.2.1))=tbl) (n:(tbl.map Prod.fst).Nodup):LT K P a tbl:=⟨AL3 es,b,c ▸ l,by
  rw[<-v,CC6] at n;exact n,v⟩
def hS (x:Ext)(R:Rc)(b:Ct->List Stmt->TS3)(Γ:Ct)(s:Stmt):Option TS3:=match s with
 | .For (.Tuple [.Name y p1,.Tuple es k2 p2] k p) it body [] _=>match NK it,lc Γ y,rG Γ (.Tuple es k2 p2),rJ x R Γ (.Tuple [.Name y p1,.Tuple es k2 p2] k p) it with
  | true,some i,some g,some ti=>some (N8 ti (MW 2 (AD (K1 i) (AD (gD g) MV))) (b Γ body))
  | _,_,_,_=>none
 | _=>none
def BD2 (x:Ext):Ext:={AO with S:=hS x}
theorem VM {x:Ext}(d:ExtOk x):ExtOk (BD2 x):={G4 with
 S:=fun R e b f a X o c s t h=>by
  replace h:hS x R b a s=some t:=h
  unfold hS at h
  split at h
  ·split at h
   ·rename_i g i j k
    cases h
    obtain⟨l,m,n,p⟩:=KS o i
    exact RH c o.calm (BE5 d e o k) (AH4 o.calm (HJ (RA l m n p) (HJ (AP6 o j) ZF rfl) rfl) rfl rfl) (f a X o c _) (AF g)
   ·cases h
  ·cases h}
end L3
namespace K55Z
open PySem PySem.Spec PyProof.Rows L2 L3
def top (i:Nat):Stmt:=PySem.Challenge.pw_handedon_k55_guards_lead.main.body.getD i (.Pass ⟨0,0,0,0⟩)
theorem noC {X:Cx}:CallR3 X u (fun _ _ _=>False):=by
 intro a s b H M
 intros
 rename_i h
 exact h.elim
def bk:Book:=((((((((((((((bk0.a 0 "append" "list" "list.append" E7).a 0 "extend" "list" "list.extend" HM).c 0 "len" (.builtin "len") D8).b 1 .Add G9).c 0 "tuple" (.type "tuple") J9).c 0 "max" (.builtin "max") WR).a 2 "join" "str" "str.join" NW).m 11 .In (AK1 false)).a 1 "split" "str" "str.split" HQ).c 0 "int" (.type "int") EO).c 2 "list" (.type "list") FU).c 0 "enumerate" (.type "enumerate") fun _ _ _=>False).c 0 "list" (.type "list") fun _ _ _=>False).c 0 "range" (.type "range") fun _ _ _=>False)
def gd:Gd:=⟨[("int",.ty "int"),("list",.ty "list"),("tuple",.ty "tuple")],[],[("ROW_WORDS",CH.tblW)],bk⟩
def ex:Ext:=((BL8 ((BD2 (extD.or (extF.or (extM.or (extO.or (extQ.or (extS.or (extU.or (extV.or (extW.or AO)))))))))).or (extD.or (extF.or (extM.or (extO.or (extQ.or (extS.or (extU.or (extV.or (extW.or AO))))))))))).or ((BD2 (extD.or (extF.or (extM.or (extO.or (extQ.or (extS.or (extU.or (extV.or (extW.or AO)))))))))).or (extD.or (extF.or (extM.or (extO.or (extQ.or (extS.or (extU.or (extV.or (extW.or AO)))))))))))
theorem AX7:ExtOk ex:=((AP2 ((VM (extD_ok.or (extF_ok.or (extM_ok.or (extO_ok.or (extQ_ok.or (extS_ok.or (extU_ok.or (extV_ok.or (extW_ok.or G4)))))))))).or (extD_ok.or (extF_ok.or (extM_ok.or (extO_ok.or (extQ_ok.or (extS_ok.or (extU_ok.or (extV_ok.or (extW_ok.or G4))))))))))).or ((VM (extD_ok.or (extF_ok.or (extM_ok.or (extO_ok.or (extQ_ok.or (extS_ok.or (extU_ok.or (extV_ok.or (extW_ok.or G4)))))))))).or (extD_ok.or (extF_ok.or (extM_ok.or (extO_ok.or (extQ_ok.or (extS_ok.or (extU_ok.or (extV_ok.or (extW_ok.or G4)))))))))))
structure Blt (mg:Str->Option Value):Prop where
 enumerate_:mg "enumerate"=none
 int_:mg "int"=none
 len_:mg "len"=none
 list_:mg "list"=none
 max_:mg "max"=none
 range_:mg "range"=none
 tuple_:mg "tuple"=none
theorem BL1 (Z:Blt mg)(Y:Cx)(e:Y.mg=mg)(d:∃k,Room k Y.A)(f:Y.calm=true):BookOk bk Y:=by
 obtain⟨k,d⟩:=d
 have z:∀x,mg x=none->Y.mg x=none:=fun x h=>by rw[e];exact h
 exact(((((((((((((((BC2 d).a F.plainAttrs_list F.slot_list_append F.type_list_append YN).a F.plainAttrs_list F.slot_list_extend F.type_list_extend YO).c (z "len" Z.len_) BB7 (.inl ⟨_,rfl⟩) BC4).b AR1).c (z "tuple" Z.tuple_) PM (.inr ⟨_,rfl⟩) AB2).c (z "max" Z.max_) BB8 (.inl ⟨_,rfl⟩) (BC5 f)).a F.plainAttrs_str F.slot_str_join F.type_str_join AF2).m BF4).a F.plainAttrs_str F.slot_str_split F.type_str_split YQ).c (z "int" Z.int_) AA6 (.inr ⟨_,rfl⟩) BC3).c (z "list" Z.list_) MI (.inr ⟨_,rfl⟩) AB1).c (z "enumerate" Z.enumerate_) BR (.inr ⟨_,rfl⟩) noC).c (z "list" Z.list_) MI (.inr ⟨_,rfl⟩) noC).c (z "range" Z.range_) AA7 (.inr ⟨_,rfl⟩) noC)
local macro_rules | `(tactic| walk_at "s")=>`(tactic| exact⟨rfl,rfl,rfl,by decide +kernel,rfl,by decide +kernel,by decide +kernel⟩)
local macro_rules | `(tactic| walk_at "b")=>`(tactic| exact fun _ _ _ _ _ _ us hl=>by first|(obtain⟨_,e⟩:=us1 hl;cases e;rfl)|(obtain⟨_,_,e⟩:=us2 hl;cases e;rfl)|(obtain⟨_,_,_,e⟩:=us3 hl;cases e;rfl)|(obtain⟨_,_,_,_,e⟩:=us4 hl;cases e;rfl))
local macro_rules | `(tactic| walk_at "k")=>`(tactic| first|decide|lia)
local macro_rules | `(tactic| walk_at "l")=>`(tactic| (intro _ _ _;(repeat' (first|refine lnE ?_|(refine lnX ?_;intro _)|refine lnA ?_));all_goals rfl))
local macro_rules | `(tactic| walk_at "v")=>`(tactic| repeat (first|exact .nil|refine .cons ⟨_,rfl⟩ ?_))
set_option maxHeartbeats 4000000 in
theorem all_mk {l:PySem.W.OpenLaw}{fa:Addr}(X:K.In h)(G:h.Ns BY2 mg)(hfa:mg "law"=some (.ref fa))
  {V:Addr} {o t x z C D F H I J L M N O P Q R S T U b c d g i j:Tok} {ec0:Nat}
  (a0:Fg K "blocks_of" (top 1))
  (a1:Fg K "places_in" (top 3))
  (a2:Fg K "places" (top 4))
  (a3:Fg K "deed_at" (top 5))
  (a4:Fg K "has_lasts" (top 6))
  (a5:Fg K "around" (top 8))
  (a6:Fg K "lasts_number" (top 9))
  (a7:Fg K "is_in_lasts" (top 10))
  (a8:Fg K "leads_to_lasts" (top 11))
  (a9:Fg K "while_around" (top 12))
  (a10:Fg K "catch_of" (top 13))
  (a11:Fg K "fault_goes" (top 14))
  (a12:Fg K "end_goes" (top 15))
  (a13:Fg K "leave_goes" (top 16))
  (a14:Fg K "block_around" (top 17))
  (Y:Fg K "behind_block" (top 18))
  (a16:Fg K "behind" (top 19))
  (a17:Fg K "tells_number" (top 22))
  (a18:Fg K "stands_for" (top 23))
  (a19:Fg K "due_of" (top 24))
  (a20:Fg K "left_to" (top 25))
  (a21:Fg K "draft_block" (top 27))
  (a22:Fg K "draft_inner" (top 28))
  (a23:Fg K "draft_if" (top 29))
  (a24:Fg K "draft_while" (top 30))
  (a25:Fg K "draft_try" (top 31))
  (a26:Fg K "draft_deed" (top 32))
  (a27:Fg K "numbers_of" (top 33))
  (a28:Fg K "numbered" (top 34))
  (a29:Fg K "guards_of" (top 35))
  (a30:Fg K "code_of" (top 36))
  (a31:Fg K "_law_mix" (top 38))
  (a32:Fg K "_law_draws" (top 39))
  (a33:Fg K "_law_take" (top 40))
  (a34:Fg K "_law_names" (top 41))
  (a35:Fg K "_law_leaf" (top 42))
  (a36:Fg K "_law_two" (top 43))
  (a37:Fg K "_law_expression" (top 44))
  (a38:Fg K "_law_plain" (top 45))
  (a39:Fg K "_law_caught" (top 46))
  (a40:Fg K "_law_nested" (top 47))
  (a41:Fg K "_law_block" (top 48))
  (a42:Fg K "_law_book" (top 49))
  (a43:Fg K "_law_lead" (top 50))
  (a44:Fg K "_law_while" (top 51))
  (a45:Fg K "_law_is_deed" (top 52))
  (a46:Fg K "_law_follows" (top 53))
  (a47:Fg K "_law_catch" (top 54))
  (a48:Fg K "_law_fault" (top 55))
  (a49:Fg K "_law_way" (top 56))
  (a50:Fg K "_law_leads_so" (top 57))
  (a51:Fg K "_law_words" (top 58))
  (a52:Fg K "_law_guards_right" (top 59))
  (a53:Fg K "law" (top 60))
  (z0:CC3 K BY2 "enumerate"=some none)
  (z1:CC3 K BY2 "int"=some none)
  (z2:CC3 K BY2 "len"=some none)
  (z3:CC3 K BY2 "list"=some none)
  (z4:CC3 K BY2 "max"=some none)
  (z5:CC3 K BY2 "range"=some none)
  (z6:CC3 K BY2 "tuple"=some none)
  (uc0:CC3 K BY2 "ROW_WORDS"=some (some (.ref V)))
  (lc0:K.lookup V=some ⟨.type "dict",none,.dict #[⟨BZ1 w.params "let",.str "let" o,.str "deed" t⟩,⟨BZ1 w.params "note",.str "note" x,.str "deed" z⟩,⟨BZ1 w.params "ask",.str "ask" C,.str "deed" D⟩,⟨BZ1 w.params "cast",.str "cast" F,.str "deed" H⟩,⟨BZ1 w.params "close",.str "close" I,.str "deed" J⟩,⟨BZ1 w.params "give",.str "give" L,.str "stand" M⟩,⟨BZ1 w.params "on",.str "on" N,.str "stand" O⟩,⟨BZ1 w.params "if",.str "if" P,.str "test" Q⟩,⟨BZ1 w.params "while",.str "while" R,.str "test" S⟩,⟨BZ1 w.params "try",.str "try" T,.str "open" U⟩,⟨BZ1 w.params "end",.str "end" b,.str "end" c⟩,⟨BZ1 w.params "fault",.str "fault" d,.str "fault" g⟩,⟨BZ1 w.params "leave",.str "leave" i,.str "leave" j⟩] ec0,#[]⟩) :
  ∃fd:CI3,(∀(s:BV1) (v:Value),BindsTo s fd ⟨[v],[]⟩ [("_law_script",v)])/\∀base:Heap,K.In base->base.Ns BY2 mg->AL l.prog w K mg base CX0 61 fa fd ["_law_script"] (GP K L3.OL):=by
 have B:Blt mg:=⟨CC4 X G z0,CC4 X G z1,CC4 X G z2,CC4 X G z3,CC4 X G z4,CC4 X G z5,CC4 X G z6⟩
 have Z:AN7 gd w K mg:=⟨(AO1 (.inr ⟨_,rfl,B.int_,AA6⟩) (AO1 (.inr ⟨_,rfl,B.list_,MI⟩) (AO1 (.inr ⟨_,rfl,B.tuple_,PM⟩) BB1))),BB1,(AO1 ⟨_,PySem.W.mg_of X G uc0,BM4 lc0 rfl rfl (by decide +kernel)⟩ BB1),BL1 B⟩
 obtain⟨f,A,e⟩:=a53.law X G hfa (by walk_at "b")
 refine⟨_,e,fun base _ _=>?_⟩
 have E:En ex gd l.prog w K mg base h:=⟨AX7,Z,X,G⟩
 have g0:=E.f 0 a0 .n {hi:=[(8061068,1)]} K11.rd_blocks_of
 obtain g1:=E.g1 2 a1 K11.zero_places_in (fun k l _ p=>E.f k a1 (.k g0 (.k p .n)) {h:=[(12012014,1)]} (K11.rd_places_in l)) 8
 have g2:=E.f 10 a2 (.k g1 .n) {} K11.rd_places
 have g3:=E.f 1 a3 (.k g0 .n) {} K12.rd_deed_at
 have g4:=E.f 0 a4 .n {} K12.rd_has_lasts
 have g5:=E.f 2 a5 (.k g3 .n) {h:=[(30012014,1),(33016026,2)]} GO.rd_around
 have g6:=E.f 0 a6 .n {} GO.rd_lasts_number
 have g7:=E.f 1 a7 (.k g6 .n) {} GO.rd_is_in_lasts
 have g8:=E.f 2 a8 (.k g4 (.k g7 .n)) {} GO.rd_leads_to_lasts
 have g9:=E.f 3 a9 (.k g5 .n) {} CH.rd_while_around
 have g10:=E.f 0 a10 .n {} GO.rd_catch_of
 have g11:=E.f 3 a11 (.k g5 (.k g10 (.k g8 .n))) {} GO.rd_fault_goes
 have g12:=E.f 3 a12 (.k g5 (.k g8 .n)) {} GO.rd_end_goes
 have g13:=E.f 3 a13 (.k g5 (.k g8 .n)) {} GO.rd_leave_goes
 have g14:=E.f 2 a14 (.k g3 (.k g0 .n)) {h:=[(77035045,2)]} GO.rd_block_around
 obtain⟨g15,m⟩:=E.g2 4 Y a16 GO.zero_behind_block GO.zero_behind (fun k l _ p q=>⟨E.f k Y (.k g3 (.k g8 (.k g7 (.k q .n)))) {} (GO.rd_behind_block l),E.f k a16 (.k g14 (.k p .n)) {h:=[(89024034,2),(92030040,2)]} (GO.rd_behind l)⟩) 20
 have g17:=E.f 0 a17 .n {} CH.rd_tells_number
 have g18:=E.f 0 a18 .n {} CH.rd_stands_for
 have g19:=E.f 0 a19 .n {} CH.rd_due_of
 have g20:=E.f 25 a20 (.k g9 (.k m .n)) {} CH.rd_left_to
 obtain⟨g21,g22,g23,g24,g25,g26⟩:=E.g6 27 a21 a22 a23 a24 a25 a26 CH.zero_draft_block CH.zero_draft_inner CH.zero_draft_if CH.zero_draft_while CH.zero_draft_try CH.zero_draft_deed (fun k l _ p q r u v y=>⟨E.f k a21 (.k y .n) {h:=[(110011013,1)]} (CH.rd_draft_block l),E.f k a22 (.k g3 (.k g0 (.k p .n))) {} (CH.rd_draft_inner l),E.f k a23 (.k m (.k q .n)) {h:=[(118015083,1),(119012085,1),(120011080,1),(120011050,1)]} (CH.rd_draft_if l),E.f k a24 (.k m (.k q .n)) {h:=[(122011109,1),(122011079,1)]} (CH.rd_draft_while l),E.f k a25 (.k g4 (.k m (.k q (.k g20 .n)))) {h:=[(125011058,1),(132011087,1),(132011043,1),(132011035,1)]} (CH.rd_draft_try l),E.f k a26 (.k g3 (.k r (.k u (.k v (.k g20 .n))))) {h:=[(142015055,1),(143011040,1)]} (CH.rd_draft_deed l)⟩) 24
 have g27:=E.f 1 a27 (.k g18 .n) {} CH.rd_numbers_of
 have g28:=E.f 1 a28 (.k g17 (.k g19 .n)) {h:=[(149023047,4)]} CH.rd_numbered
 have g29:=E.f 2 a29 (.k g3 .n) {h:=[(151021057,4),(152011043,4),(153012043,4),(155015047,1),(157011016,1),(157036078,1)],cp:=[(151020104,["numbers","place"])]} CH.rd_guards_of
 have g30:=E.f 59 a30 (.k g21 (.k g27 (.k g2 (.k g3 (.k g29 (.k g28 .n)))))) {h:=[(159012056,1),(161013015,1),(162017035,5)],cp:=[(165018059,["numbers"])],fz:=[(160,[1])]} CH.rd_code_of
 have g31:=E.f 0 a31 .n {} TK.rd__law_mix
 have g32:=E.f 1 a32 (.k g31 .n) {h:=[(172017019,1)]} GW.rd__law_draws
 have a:=E.f 0 a33 .n {} TK.rd__law_take
 have g34:=E.f 1 a34 (.k a .n) {h:=[(189016087,1),(191017019,1),(193008026,1),(194026044,2),(196007075,11),(196057074,1)],cp:=[(189016087,["_law_letters","_law_kit"]),(196015075,["_law_found"])]} TK.rd__law_names
 have g35:=E.f 1 a35 (.k a .n) {} TK.rd__law_leaf
 have g36:=E.f 1 a36 (.k a .n) {} TK.rd__law_two
 have g37:=E.f 2 a37 (.k a (.k g35 (.k g36 .n))) {cp:=[(221037090,["_law_kit"])]} TK.rd__law_expression
 have g38:=E.f 3 a38 (.k a (.k g37 (.k g35 .n))) {} TK.rd__law_plain
 obtain⟨g39,g40,g41⟩:=E.g3 5 a39 a40 a41 TK.zero__law_caught TK.zero__law_nested TK.zero__law_block (fun k l _ p q r=>⟨E.f k a39 (.k a (.k r .n)) {} (TK.rd__law_caught l),E.f k a40 (.k a (.k g38 (.k g37 (.k r (.k p .n))))) {cp:=[(265025105,["_law_kit","_law_loop","_law_deep"])]} (TK.rd__law_nested l),E.f k a41 (.k a (.k g38 (.k q .n))) {h:=[(273022024,1)]} (TK.rd__law_block l)⟩) 20
 have g42:=E.f 25 a42 (.k g32 (.k g34 (.k a (.k g41 .n)))) {h:=[(284081083,1),(289021023,1),(290033056,2)]} TK.rd__law_book
 have g43:=E.f 0 a43 .n {} LW.rd__law_lead
 have g44:=E.f 2 a44 (.k g3 .n) {} LW.rd__law_while
 have g45:=E.f 1 a45 (.k g43 .n) {} LW.rd__law_is_deed
 have g46:=E.f 1 a46 (.k g43 .n) {} GW.rd__law_follows
 have g47:=E.f 0 a47 .n {} GW.rd__law_catch
 have g48:=E.f 2 a48 (.k g3 (.k g47 .n)) {hi:=[(320072083,1)]} GW.rd__law_fault
 have g49:=E.f 0 a49 .n {hi:=[(331072083,1)]} GW.rd__law_way
 have g50:=E.f 2 a50 (.k g46 (.k g45 .n)) {} GW.rd__law_leads_so
 have g51:=E.f 11 a51 (.k g2 (.k g3 .n)) {hi:=[(346022039,4),(349083095,1)],cp:=[(349038147,["_law_found"])]} GW.rd__law_words
 have g52:=E.f 12 a52 (.k g51 (.k g48 (.k g11 (.k g50 (.k g49 (.k g12 (.k g44 (.k g13 .n)))))))) {} GW.rd__law_guards_right
 exact BO4 AX7 Z A (by walk_at "s") (by walk_at "l") (.k g42 (.k g30 (.k g52 .n))) {hi:=[(367021046,1)]} GW.rd_law (by kernel_rfl)
end K55Z
local macro_rules | `(tactic| walk_at "kf")=>`(tactic| (refine' L3.Fg.of ?a ?l ?c ?k;(case a=>k_is);(case l=>k_is);(case c=>k_is);(case k=>k_is)))
local macro_rules | `(tactic| walk_at "kk")=>`(tactic| (refine' L3.Kc.of ?a;(case a=>k_is)))
open PySem PySem.W PyProof.Rows
set_option maxRecDepth 100000 in
set_option maxHeartbeats 0 in
theorem PySem.Challenge.cw_handedon_k55_guards_lead_holds : PySem.Challenge.rw_handedon_k55_guards_lead.Holds := by
 w_on;o_law;k_head;(case hw=>w_witness2)
 k_fill
 refine L3.BS0 (l:=PySem.Challenge.rw_handedon_k55_guards_lead) (k:=61) (x:="_law_script") rfl rfl ⟨rfl,by decide,by decide,rfl⟩ (fun w h Y=>PySem.W.kIn_of Y) ?F
 case F =>
  intro w mg fa h KX G hmg
  refine' K55Z.all_mk KX G hmg ?_ ?_ ?_ ?_ ?_ ?_ ?_ ?_ ?_ ?_ ?_ ?_ ?_ ?_ ?_ ?_ ?_ ?_ ?_ ?_ ?_ ?_ ?_ ?_ ?_ ?_ ?_ ?_ ?_ ?_ ?_ ?_ ?_ ?_ ?_ ?_ ?_ ?_ ?_ ?_ ?_ ?_ ?_ ?_ ?_ ?_ ?_ ?_ ?_ ?_ ?_ ?_ ?_ ?_ ?_ ?_ ?_ ?_ ?_ ?_ ?_ ?_ ?_
  all_goals try first|walk_at "kf"|walk_at "kk"|k_is|rfl
