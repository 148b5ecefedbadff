import PyProof.Rows.All
import Wide.All
import OpenK.AllK
import Wide.FinOn
import PyProof.EqAt
import PyProof.EqKinds
import PyProof.TupleCall
import PyProof.NeData
import PyProof.ReprRoads
import PyProof.ZipIter
import PyProof.ExcArgsOwn
import PyProof.ExcAttrAll.ValueError
import PyProof.SetRoads
import PyProof.Rows.SetFrom
import PyProof.Rows.SortStr
import PyProof.WalksMore
import PyProof.TupleIter
import PyProof.FactsAll.set_1
import PyProof.CollectWalk
import PyProof.Rows.SortStrRead
import PyProof.Tail
import PyProof.FactsAll.set_2
import PyProof.Rows.StrCase
import PyProof.DictCompW
import PyProof.Rows.ListMul
import PyProof.Rows.ListMulArg
import PyProof.FactsAll.tuple
import PySem.Challenge.RW_handedon_k09_makes_and_leaves
def PySem.W.Fast.tw12734607112073783448 := 0
def PySem.W.Fast.tw4332408983232805181 := 0
def PySem.W.Fast.tw5335920783197903538 := 0
def PySem.W.Fast.tw8547276405792928429 := 0
def PySem.W.Fast.tw2076134239959719572 := 0
def PySem.W.Fast.tw12037843614813236952 := 0
def PySem.W.Fast.tw7366406032291996494 := 0
def PySem.W.Fast.tw10298442953010499035 := 0
def PySem.W.Fast.tw14612012288974042502 := 0
def PySem.W.Fast.tw966839613311059698 := 0
open PySem renaming wpAny_bind → CD4, wpAny_pure → CD6, Shared → CD9, sizeLine → CE1, sizeLine_eq → CF8, mainGlobals → CG1, wpAny_newObj_type → CG4, foldedSetIterable → CG6, FuncData → CH0, wpAny_setState_of → CH1, wpAny_holding → CH3, starEach → CH7, Program → CI2, Spec → CI3, mem_of_lookup → CI7, wpAny_callSpecial?_slot → CI8, bootBuiltins → CJ4, compareOp → CJ5, wpAny_mono → CJ8, Value → CK0, wpAny_setField → CK2, wpAny_askSetting → CK4, wpAny_call_entry → CL0, Around → CL2, wpAny_truthy_bool → CL6, wpAny_field → CL7, Addr → CL8, scanBound → CM3, wpAny_seqItems → CM6, wpAny_setEntries_of → CM9, Str → CN0, Builtin → CN1, assignEach → CN3, wpAny_Call_Name_kw → CN5, wpAny_of_eq → CN8, wpAny_storeSet_of → CO3, sysModules → CO4, fits_of_scanBound → CO5, binaryOp → CO9, wpAny_rule → CP3, call_meets → CP4, IsPair → CQ2, wpAny_setEpoch_of → CQ5, SetTable → CQ6, NameKind → CQ7, wpAny_isInstance → CR7, wpAny_standAt → CS8, letOwnedTupleGo → CS9, codeAny_builtin → CT0, Expr → CT8, swapsWith → CT9, rawInt → CU0, codeAny_mono → CU1, wpAny_attempt → CU4, setsByText → CU9, wpAny_passesOwn → CV1, sliceBounds → CV3, pickOrder → CV4, backTo → CV5, wpAny_typeOf → CW6, wpAny_pyIter_tuple → CW7, pyNext → CW8, valueAt → CX1, isSubtype_type → CX2, wpAny_pyIter_list → CX7
open PySem.Heap renaming get?_push_of_some → CD5, lt_size → CE2, get?_push_size → CE4, get?_update_other → CG7, get?_update_self → CI0, get?_none_of_le → CI9, SameBut → CK3, size_push → CL4, ExtBut → CS7
open List renaming replicate → CD7, length_map → CD8, length_append → CE6, length_cons → CE7, getElem?_eq_getElem → CE8, mem_append_right → CF0, getElem?_map → CF1, mem_cons_of_mem → CF2, mem_cons_self → CF3, size_toArray → CF4, mem_of_getElem? → CF5, all_eq_true → CF7, mem_cons → CF9, getElem?_append_right → CG0, map_append → CG3, not_mem_nil → CG5, getElem?_append_left → CG8, map_cons → CG9, length_replicate → CH6, range → CH8, Nodup → CI4, length_nil → CI5, take_length → CJ0, mem_append → CJ1, Perm → CJ3, getElem?_replicate → CJ9, find?_cons → CK5, mem_append_left → CK8, length_take → CK9, length_range → CL1, map_map → CL5, take_succ → CM1, append_nil → CM4, forIn_cons → CN6, take_of_length_le → CO8, mem_singleton → CP0, any_cons → CP8, length_eraseIdx_of_lt → CQ1, lookup_cons → CQ8, getElem_mem → CQ9, replicate_succ → CR1, length → CR2, getElem_of_mem → CR3, zip_cons_cons → CR8, map_replicate → CR9, flatten_cons → CS5, append_assoc → CS6, map_nil → CT3, length_singleton → CT4, mem_map_of_mem → CU2, zip_nil_right → CU6, filter_append → CU7, eq_of_mem_replicate → CV9, sum_replicate_nat → CX5, nodup_cons → CX8, length_filter_le → CX9, getElem?_eq_none → CY0, all_map → CY1
open PySem.W renaming Frag → CE0, mg_none_of → CH9, nsIn → CI1, fnOf → CM0, keepIn → CP9, mg_of → CR4, codeIn → CS0
open Bool renaming false_ne_true → CE3, and_eq_true → CH5, eq_iff_iff → CN7, and_false → CQ4, true_and → CW9
open Array renaming length_toList → CE5, getElem?_eq_getElem → CQ3, getElem?_eq_none → CS1, getElem?_toList → CT2, size_map → CU8
open Nat renaming le_refl → CE9, ne_of_lt → CF6, lt_of_lt_of_le → CH4, le_trans → CI6, zero_le → CK6, lt_irrefl → CK7, le_add_right → CO6, lt_or_ge → CP6, ne_of_gt → CR6, lt_succ_of_lt → CW5
open PySem.SetTable renaming sizeAbove → CG2, grown → CL9, eraseAt → CM5, fresh → CO0, fill → CP2, fits → CR0
open PySem.Obj renaming mapFields → CH2, mapSeq → CQ0
open PySem.Heap.SameBut renaming update → CJ2
open PySem.Builtin.SmallTypes renaming nextOf → CJ6
open PySem.PyData renaming keyHash → CJ7, eqv → CN4, strOk → CX3, depth → CX4
open PySem.PassesOwn renaming never → CK1
open Int renaming toNat_natCast → CL3, emod_lt_of_pos → CN2, emod_nonneg → CP7
open Option renaming map_some → CM2, getD_some → CW4
open PyProof.Rows renaming slot_tuple_getitem → CM7, callWith_type1 → CO2, callWith_builtin1 → CR5, slot_tupleiter_next → CV2
open PySem.Builtin.List renaming listTooLong → CM8
open PySem.Value renaming isStrOf_shape → CN9, isStrOf → CT7
open PySem.F renaming plainAttrs_list → CO1, slot_int_rmul → CS2, slot_dict_get → CS3, slot_list_extend → CS4, args_tuple_add_2 → CU5, entry_tuple_add → CV6, args_dict_get_2 → CV7, type_list_extend → CW0, slot_list_append → CW1, slot_tuple_add → CW2, entry_dict_get → CW3
open PyProof.Rows.F renaming plain_set_update_loop → CO7, entry_set_update_loop → CV8
open PySem.Builtin.Slice renaming slicePlaces → CP1, sliceAdjust → CT5
open PySem.Builtin.Tuple renaming tupleExact → CP5
open PySem.Builtin.Int renaming intBits → CT1
open PySem.Around renaming under_plainId → CT6
open PySem.Builtin.Str renaming occurrences → CU3
open PySem.Str renaming ofString → CV0
open PySem.Builtin.Frozenset renaming updateFrom → CX6
set_option Elab.async false
set_option linter.all false
set_option maxRecDepth 100000
variable {us : List CK0} {u : CK0} {a : CL8} {b : CL8} {α : Type} {P : PySem.Program} {w : PySem.World} {h : PySem.Heap} {o : PySem.Obj} {t' : Nat} {ch : List CL8} {N : List CN0} {i : Nat} {j : Nat} {x : CN0} {A : PySem.Around} {E : CK0 → PySem.Shared → Prop} {Q : CK0 → PySem.Shared → Prop} {s' : PySem.Shared} {s : PySem.Shared} {pos : PySem.Pos} {pins : List (CL8 × PySem.Obj)} {y : CN0} {e : CT8} {es : List CT8} {k : Nat} {n : Nat} {tg : CT8} {K : CE0} {fp : List CL8} {iter : CT8} {body : List PySem.Stmt} {f : CK0 → CK0 → PySem.Sem CK0} {op : PySem.CmpOp} {mg : CN0 → Option CK0} {base : PySem.Heap} {fd : PySem.FuncData} {ps : List CN0} {qual : CN0} {scope : PySem.Scope} {doc : CK0} {pm : CK0} {cdv : CK0} {ct : CK0} {oc : CK0} {an : Option CL8} {od : Option CL8} {osl : Array (Option CK0)} {lo : Option Int} {hi : Option Int} {t : PySem.SetTable} {items : Array CK0} {p : CL8} {its : List CK0} {loose : List CN0} {ns : List Int} {st : PySem.Stmt} {h' : PySem.Heap} {prog : PySem.Program} {env : PySem.Env} {z : CN0} {c : CN0 → CL8} {elt : CT8} {ifs : List CT8} {is : List Nat} {tns : List CN0} {caps : List CN0} {slots : List Nat} {q : CL8} {i1 : CL8} {i2 : CL8} {l1 : CL8} {l2 : CL8} {ys : Array CK0} {py : PySem.Pos} {spos : PySem.Pos} {rows : List (CN0 × PySem.Tok × CL8)} {tbl : List (CN0 × List CN0)} {zs : List CN0} {mask : Nat} {kx : CT8} {vx : CT8} {sh : List CN0} {kr : Nat} {lv : Nat}
namespace L2
open PySem PySem.Spec PyProof.Rows
abbrev Key := Sum Int Str
def MT : Key → Value → Bool
 | .inl k, v => Value.isInt k v
 | .inr x, v => CT7 x v
def CA8 (w : World) : Key → Int
 | .inl k => hashInt k
 | .inr x => hashStr w x
theorem F4 : ∀ {k : Key} {v : Value}, MT k v = true → (∃ i t, k = Sum.inl i ∧ v = Value.int i t) ∨ (∃ x t, k = Sum.inr x ∧ v = Value.str x t)
 | .inl i, v, h => by
  obtain ⟨t, e⟩ := Value.isInt_shape (k := i) (v := v) h
  exact .inl ⟨i, t, rfl, e⟩
 | .inr x, v, h => by
  obtain ⟨t, e⟩ := CN9 (x := x) (v := v) h
  exact .inr ⟨x, t, rfl, e⟩
theorem ZN (i : Int) (t : Tok) : MT (.inl i) (.int i t) = true := by simp [MT, Value.isInt]
theorem ZO (x : Str) (t : Tok) : MT (.inr x) (.str x t) = true := by simp [MT, CT7]
theorem BE7 (a b : Int) : decide ((Sum.inl a : Key) = Sum.inl b) = (a == b) := by
 by_cases e : a = b
 ·subst e; simp
 ·have h : ¬ (Sum.inl a : Key) = Sum.inl b := fun q => e (Sum.inl.inj q)
  rw [decide_eq_false h]
  exact (beq_eq_false_iff_ne.mpr e).symm
theorem BF0 (a b : Str) : decide ((Sum.inr a : Key) = Sum.inr b) = decide (a = b) := by
 by_cases e : a = b
 ·subst e; simp
 ·have h : ¬ (Sum.inr a : Key) = Sum.inr b := fun q => e (Sum.inr.inj q)
  rw [decide_eq_false h, decide_eq_false e]
theorem BE8 (a : Int) (b : Str) : decide ((Sum.inl a : Key) = Sum.inr b) = false := decide_eq_false (fun q => nomatch q)
theorem BE9 (a : Str) (b : Int) : decide ((Sum.inr a : Key) = Sum.inl b) = false := decide_eq_false (fun q => nomatch q)
def D9 (prog : CI2) (w : World) : PySem.KeyKind prog w Key where
 is := MT
 hash := CA8 w
 inj := fun v a b ha hb => by
  rcases F4 ha with ⟨i, t, rfl, rfl⟩ | ⟨x, t, rfl, rfl⟩
  ·rcases F4 hb with ⟨j, u, rfl, e⟩ | ⟨y, u, rfl, e⟩
   ·injection e with e1 _; rw [e1]
   ·exact nomatch e
  ·rcases F4 hb with ⟨j, u, rfl, e⟩ | ⟨y, u, rfl, e⟩
   ·exact nomatch e
   ·injection e with e1 _; rw [e1]
 byValue := fun k v h => by
  rcases F4 h with ⟨i, t, rfl, rfl⟩ | ⟨x, t, rfl, rfl⟩ <;> rfl
 pyHash := fun hv h => by
  rcases F4 hv with ⟨i, t, rfl, rfl⟩ | ⟨x, t, rfl, rfl⟩
  ·exact wpAny_pyHash_int h
  ·exact wpAny_pyHash_str h
 eqBool := fun hu hv h => by
  rcases F4 hu with ⟨i, t, rfl, rfl⟩ | ⟨x, t, rfl, rfl⟩
  ·rcases F4 hv with ⟨j, u, rfl, rfl⟩ | ⟨y, u, rfl, rfl⟩
   ·rw [BE7] at h; exact wpAny_eqBool_int h
   ·rw [BE8] at h; exact SeqAt.EqAt.int_str i t y u _ _ _ _ h
  ·rcases F4 hv with ⟨j, u, rfl, rfl⟩ | ⟨y, u, rfl, rfl⟩
   ·rw [BE9] at h; exact SeqAt.EqAt.str_int x t j u _ _ _ _ h
   ·rw [BF0] at h; exact wpAny_eqBool_str h
 «strs» := fun k x t v h => by
  rcases F4 h with ⟨i, u, rfl, e⟩ | ⟨y, u, rfl, e⟩
  ·exact nomatch e
  ·injection e with e1 _
   subst e1
   cases v <;> rfl
theorem RK (prog : CI2) (w : World) (i : Int) (t : Tok) : (D9 prog w).is (.inl i) (.int i t) = true := ZN i t
theorem BA (prog : CI2) (w : World) (x : Str) (t : Tok) : (D9 prog w).is (.inr x) (.str x t) = true := ZO x t
inductive V where
 | non | bl (b : Bool) | int (i : Int) | str (x : Str) | byt (b : Array UInt8) | flt (b : UInt64) | ref (a : Addr) | ty (n : String)
 deriving DecidableEq
def RelV : V → Value → Prop
 | .non, u => u = Value.none
 | .bl b, u => u = Value.bool b
 | .int i, u => ∃ t, u = Value.int i t
 | .str x, u => ∃ t, u = Value.str x t
 | .byt b, u => ∃ t, u = Value.bytes b t
 | .flt b, u => ∃ t, u = Value.float b t
 | .ref a, u => u = Value.ref a
 | .ty n, u => u = Value.type n
abbrev Vals : List V → List Value → Prop := Paired RelV
theorem Vals.length {xs : List V} (r : Vals xs us) : xs.length = us.length := Paired.length r
theorem Vals.get : ∀ {xs : List V} {us : List Value} {i : Nat} {x : V}, Vals xs us → xs[i]? = some x → ∃ u, us[i]? = some u ∧ RelV x u
 | _, _, _, _, .nil, e => by simp at e
 | _, _, 0, _, .cons r _, e => by simp at e; subst e; exact ⟨_, rfl, r⟩
 | _, _, i + 1, x, .cons _ t, e => by
  obtain ⟨u, h1, h2⟩ := Vals.get (i := i) (x := x) t (by simpa using e)
  exact ⟨u, by simpa using h1, h2⟩
theorem Vals.set {x : V} (r : RelV x u) : ∀ {xs : List V} {us : List Value} (i : Nat), Vals xs us → Vals (xs.set i x) (us.set i u)
 | _, _, _, .nil => .nil
 | _, _, 0, .cons _ t => .cons r t
 | _, _, i + 1, .cons q t => .cons q (Vals.set r i t)
theorem Vals.append : ∀ {xs ys : List V} {us ws : List Value}, Vals xs us → Vals ys ws → Vals (xs ++ ys) (us ++ ws)
 | _, _, _, _, .nil, s => s
 | _, _, _, _, .cons r t, s => .cons r (Vals.append t s)
theorem Vals.take : ∀ {xs : List V} {us : List Value} (n : Nat), Vals xs us → Vals (xs.take n) (us.take n)
 | _, _, 0, _ => .nil
 | _, _, _ + 1, .nil => .nil
 | _, _, n + 1, .cons r t => .cons r (Vals.take n t)
theorem Vals.drop : ∀ {xs : List V} {us : List Value} (n : Nat), Vals xs us → Vals (xs.drop n) (us.drop n)
 | _, _, 0, r => r
 | _, _, _ + 1, .nil => .nil
 | _, _, n + 1, .cons _ t => Vals.drop n t
def RelO : Option V → Option Value → Prop
 | some v, some u => RelV v u
 | none, none => True
 | _, _ => False
def KV {κ : Type} : List (κ × V) → List (κ × Value) → Prop := Paired fun (p : κ × V) (q : κ × Value) => p.1 = q.1 ∧ RelV p.2 q.2
def kV : Key → V
 | .inl i => .int i
 | .inr x => .str x
inductive HO where
 | lst (xs : List V)
 | tup (xs : List V)
 | dK (kvs : List (Key × V)) | dT (kvs : List (List Key × V))
 | set (S : Int → Bool) (n : Nat)
 | ins (C dx : Addr) (fs : List (Str × V))
 | own (x : Addr)
 | xd (fs : List (Str × V))
 | met (f x : Addr)
 | rng (lo hi : Int)
 | frz (o : Obj) (u : HO)
 | tbl (ps : Array Value)
 | ext (φ : Heap → Prop)
abbrev Hp := Addr → Option HO
def upd (H : Hp) (a : Addr) (o : HO) : Hp := fun b => if b = a then some o else H b
theorem D4 {H : Hp} {o : HO} : upd H a o a = some o := by unfold upd; rw [if_pos rfl]
theorem D1 {H : Hp} {o : HO} (h : b ≠ a) : upd H a o b = H b := by unfold upd; rw [if_neg h]
theorem BQ7 {H : Hp} {o u : HO} (h : H a = some o) (h' : H b = some u) (d : o ≠ u) : a ≠ b := by
 intro e; subst e; rw [h] at h'; exact d (Option.some.inj h')
theorem E6 {H : Hp} {o : HO} (h : H a = some o) (h' : H b = none) : a ≠ b := by
 intro e; subst e; rw [h] at h'; cases h'
section
variable (P : CI2) (w : World)
def ObjOk (H : Hp) (h : Heap) (a : Addr) : HO → Prop
 | .lst xs => xs.length ≤ CE1 ∧ ∃ (its : List Value) (n : Nat), Vals xs its ∧ h.get? a = some { cls := .type "list", data := .seq its.toArray n }
 | .tup xs => xs.length ≤ CE1 ∧ ∃ its : List Value, Vals xs its ∧ IsTup h a its.toArray
 | .dK kvs => kvs.length ≤ CE1 ∧ (a == CO4) = false ∧ ∃ vs, KV kvs vs ∧ h.DictOf (D9 P w) a vs
 | .dT kvs => kvs.length ≤ CE1 ∧ (a == CO4) = false ∧ ∃ xs : List (List Key × Addr × Value),
   Paired (fun (p : List Key × V) (q : List Key × Addr × Value) => p.1 = q.1 ∧ H q.2.1 = some (.tup (p.1.map kV)) ∧ RelV p.2 q.2.2) kvs xs ∧
   ∃ o es ep, h.get? a = some o ∧ o.ExactDict ∧ o.data = .dict es ep ∧ es.toList = xs.map (entryOfKey (tupleKind (D9 P w))) ∧ (xs.map (·.1)).Nodup
 | .set S n => h.SetOf (intKind P w) a S n
 | .ins C dx fs => H dx = some (.own a) ∧ fs.length ≤ 1000 ∧ dx ≠ a ∧ h.get? a = some (PySem.W.instObj C dx) ∧
   ∃ mA, h.Ns1 dx mA ∧ (∀ f, RelO (fs.lookup f) (mA f)) ∧ PySem.Within mA (fs.map (·.1))
 | .own _ => ∃ o, h.get? a = some o
 | .xd fs => ∃ mA, h.Ns1 a mA ∧ ∀ f, RelO (fs.lookup f) (mA f)
 | .rng lo hi => ∃ t u v, h.get? a = some { cls := .type "range", data := .fields #[.int lo t, .int hi u, .int 1 v] }
 | .frz o u => h.get? a = some o ∧ ObjOk H h a u
 | .tbl ps => h.get? a = some { cls := .none, data := .fields ps }
 | .met f x => h.get? a = some (PySem.W.methodObj (.ref f) (.ref x))
 | .ext φ => φ h ∧ (∃ o, h.get? a = some o) ∧ ∀ h1 h2 : Heap, φ h1 → (∀ o, h1.get? a = some o → h2.get? a = some o) → φ h2
def HOk (H : Hp) (h : Heap) : Prop := ∀ a o, H a = some o → ObjOk P w H h a o
end
section
variable {P : CI2} {w : World} {H H' : Hp} {h h' : Heap} {a : Addr} {o : HO}
theorem ObjOk.lt (x : ObjOk P w H h a o) : a < h.objs.size := by
 cases o with
 | lst xs => obtain ⟨_, _, _, _, e⟩ := x; exact CE2 e
 | tup xs => obtain ⟨_, _, _, p⟩ := x; exact p.lt
 | dK kvs => obtain ⟨_, _, _, _, o, _, _, e, _⟩ := x; exact CE2 e
 | dT kvs => obtain ⟨_, _, _, _, o, _, _, e, _⟩ := x; exact CE2 e
 | set S n => obtain ⟨o, _, _, _, e, _⟩ := x; exact CE2 e
 | ins C dx fs => obtain ⟨_, _, _, e, _⟩ := x; exact CE2 e
 | own y => obtain ⟨_, e⟩ := x; exact CE2 e
 | xd fs => obtain ⟨_, ⟨_, _, _, e, _⟩, _⟩ := x; exact CE2 e
 | rng lo hi => obtain ⟨_, _, _, e⟩ := x; exact CE2 e
 | frz ob u => obtain ⟨e, _⟩ := x; exact CE2 e
 | tbl ps => exact CE2 (show h.get? a = some _ from x)
 | met f y => exact CE2 (show h.get? a = some _ from x)
 | ext φ => obtain ⟨_, ⟨_, e⟩, _⟩ := x; exact CE2 e
theorem Paired.mapP {β : Type} {F G : α → β → Prop} : ∀ {l₁ : List α} {l₂ : List β}, Paired F l₁ l₂ → (∀ a b, F a b → G a b) → Paired G l₁ l₂
 | _, _, .nil, _ => .nil
 | _, _, .cons r t, f => .cons (f _ _ r) (Paired.mapP t f)
theorem ObjOk.stay (x : ObjOk P w H h a o) (k : ∀ b u, (b = a ∨ H b = some (.own a)) → h.get? b = some u → h'.get? b = some u)
  (ho : ∀ b, H b = some (.own a) → H' b = some (.own a)) (ht : ∀ b xs, H b = some (.tup xs) → H' b = some (.tup xs)) : ObjOk P w H' h' a o := by
 induction o with
 | lst xs => obtain ⟨z, its, n, r, e⟩ := x; exact ⟨z, its, n, r, k _ _ (.inl rfl) e⟩
 | tup xs => obtain ⟨z, its, r, ob, e, c⟩ := x; exact ⟨z, its, r, ob, k _ _ (.inl rfl) e, c⟩
 | dK kvs => obtain ⟨z, y, vs, r, ob, es, ep, e, c⟩ := x; exact ⟨z, y, vs, r, ob, es, ep, k _ _ (.inl rfl) e, c⟩
 | dT kvs =>
  obtain ⟨z, y, xs, r, ob, es, ep, e, c⟩ := x
  exact ⟨z, y, xs, Paired.mapP r fun p q z => ⟨z.1, ht _ _ z.2.1, z.2.2⟩, ob, es, ep, k _ _ (.inl rfl) e, c⟩
 | set S n => obtain ⟨ob, es, ep, t, e, c⟩ := x; exact ⟨ob, es, ep, t, k _ _ (.inl rfl) e, c⟩
 | ins C dx fs =>
  obtain ⟨d, z, ne, e, mA, ⟨od, es, ep, e2, c⟩, r⟩ := x
  exact ⟨ho _ d, z, ne, k _ _ (.inl rfl) e, mA, ⟨od, es, ep, k _ _ (.inr d) e2, c⟩, r⟩
 | own y => obtain ⟨ob, e⟩ := x; exact ⟨ob, k _ _ (.inl rfl) e⟩
 | xd fs => obtain ⟨mA, ⟨od, es, ep, e, c⟩, r⟩ := x; exact ⟨mA, ⟨od, es, ep, k _ _ (.inl rfl) e, c⟩, r⟩
 | rng lo hi => obtain ⟨t, u, v, e⟩ := x; exact ⟨t, u, v, k _ _ (.inl rfl) e⟩
 | frz ob u ih => obtain ⟨e, q⟩ := x; exact ⟨k _ _ (.inl rfl) e, ih q⟩
 | tbl ps =>
  have e : h.get? a = some { cls := .none, data := .fields ps } := x
  show h'.get? a = some { cls := .none, data := .fields ps }
  exact k a _ (.inl rfl) e
 | met f y =>
  have e : h.get? a = some (PySem.W.methodObj (.ref f) (.ref y)) := x
  show h'.get? a = some (PySem.W.methodObj (.ref f) (.ref y))
  exact k a _ (.inl rfl) e
 | ext φ => obtain ⟨p, ⟨o, e⟩, st⟩ := x; exact ⟨st _ _ p fun o q => k _ _ (.inl rfl) q, ⟨o, k _ _ (.inl rfl) e⟩, st⟩
theorem HOk.lt (x : HOk P w H h) (e : H a = some o) : a < h.objs.size := (x a o e).lt
theorem HOk.fresh (x : HOk P w H h) (e : h.objs.size ≤ a) : H a = none := by
 cases q : H a with
 | none => rfl
 | some u => exact absurd (CH4 (x.lt q) e) (CK7 _)
theorem HOk.kept (x : HOk P w H h) (k : ∀ b u, h.get? b = some u → h'.get? b = some u) : HOk P w H h' := fun a o e =>
 (x a o e).stay (fun b u _ q => k b u q) (fun _ q => q) fun _ _ q => q
theorem HOk.laid (x : HOk P w H h) (k : ∀ b u, h.get? b = some u → h'.get? b = some u) (hp : h.objs.size ≤ a) (new : ObjOk P w (upd H a o) h' a o) : HOk P w (upd H a o) h' := fun b u e => by
 have hn := x.fresh hp
 by_cases hb : b = a
 ·subst hb; rw [D4] at e; cases e; exact new
 ·rw [D1 hb] at e
  exact (x b u e).stay (fun c v _ q => k c v q) (fun c q => by rw [D1 (E6 q hn)]; exact q) fun c xs q => by rw [D1 (E6 q hn)]; exact q
end
def Rd (H : Hp) (a : Addr) (u : HO) : Prop := H a = some u ∨ ∃ o, H a = some (.frz o u)
theorem Rd.ok {H : Hp} {u : HO} (r : Rd H a u) (x : HOk P w H h) : ObjOk P w H h a u := by
 rcases r with r | ⟨o, r⟩
 ·exact x a u r
 ·obtain ⟨_, q⟩ := x a _ r
  exact q
def Mut : Option HO → Prop
 | some (.lst _) => True
 | some (.dK _) => True
 | some (.dT _) => True
 | some (.set _ _) => True
 | some (.ins _ _ _) => True
 | some (.ext _) => True
 | _ => False
section
variable {P : CI2} {w : World} {H : Hp} {h h' : Heap} {x e : Addr} {o' : HO}
theorem HOk.write (ok : HOk P w H h) (mu : Mut (H x)) (he : e = x ∨ H e = some (.own x)) (k : ∀ b u, b ≠ e → h.get? b = some u → h'.get? b = some u) (heo : ∃ u, h'.get? e = some u)
  (new : ObjOk P w (upd H x o') h' x o') : HOk P w (upd H x o') h' := fun b u q => by
 have nown : ∀ c y, H c = some (.own y) → c ≠ x := fun c y r z => by subst z; rw [r] at mu; exact mu
 have ntup : ∀ c xs, H c = some (.tup xs) → c ≠ x := fun c xs r z => by subst z; rw [r] at mu; exact mu
 by_cases hb : b = x
 ·subst hb; rw [D4] at q; cases q; exact new
 ·rw [D1 hb] at q
  by_cases hbe : b = e
  ·have q' : H b = some (.own x) := by
    rcases he with z | z
    ·exact absurd (hbe.trans z) hb
    ·rw [hbe]; exact z
   rw [q] at q'; cases q'
   obtain ⟨v, hv⟩ := heo
   exact ⟨v, by rw [hbe]; exact hv⟩
  ·refine (ok b u q).stay (fun c v hc r => k c v ?_ r) (fun c r => by rw [D1 (nown c b r)]; exact r) fun c xs r => by rw [D1 (ntup c xs r)]; exact r
   rcases hc with rfl | hc
   ·exact hbe
   ·rintro rfl
    rcases he with z | z
    ·exact nown c b hc z
    ·rw [hc] at z; cases z; exact hb rfl
end
structure Un (fs ex : List Addr) (H H' : Hp) (h h' : Heap) : Prop where
 keep : ∀ b o, h.get? b = some o → H b = none → b ∉ fs → b ∉ ex → h'.get? b = some o
 slot : ∀ b o, h.get? b = some o → H b = none → b ∈ fs → b ∉ ex → ∃ sl, h'.get? b = some { o with slots := sl }
 free : ∀ b o, h.get? b = some o → H b = none → b ∉ ex → H' b = none
 there : ∀ b o, h.get? b = some o → b ∉ ex → ∃ o', h'.get? b = some o'
 tups : ∀ b xs, H b = some (.tup xs) → H' b = some (.tup xs)
 frzs : ∀ b o u, H b = some (.frz o u) → H' b = some (.frz o u)
 tbls : ∀ b ps, H b = some (.tbl ps) → ∃ more, H' b = some (.tbl (ps ++ more))
section
variable {fs fs' ex ex' : List Addr} {H H1 H2 : Hp} {h h1 h2 h' : Heap} {a x e : Addr} {o : HO}
theorem Un.any (u : Un fs ex H H1 h h1) {ob : Obj} (q : h.get? b = some ob) (n : H b = none) (hx : b ∉ ex) : ∃ sl, h1.get? b = some { ob with slots := sl } := by
 by_cases hb : b ∈ fs
 ·exact u.slot b ob q n hb hx
 ·exact ⟨ob.slots, u.keep b ob q n hb hx⟩
theorem Un.kept (k : ∀ b u, h.get? b = some u → h'.get? b = some u) : Un fs ex H H h h' :=
 ⟨fun b ob q _ _ _ => k b ob q, fun b ob q _ _ _ => ⟨ob.slots, k b ob q⟩, fun _ _ _ n _ => n, fun b ob q _ => ⟨ob, k b ob q⟩, fun _ _ q => q, fun _ _ _ q => q, fun _ ps q => ⟨#[], by rw [q]; simp⟩⟩
theorem Un.refl : Un fs ex H H h h := Un.kept fun _ _ q => q
theorem Un.laid (k : ∀ b u, h.get? b = some u → h'.get? b = some u) (hp : h.objs.size ≤ a) (hn : H a = none) : Un fs ex H (upd H a o) h h' where
 keep := fun b u q _ _ _ => k b u q
 slot := fun b u q _ _ _ => ⟨u.slots, k b u q⟩
 free := fun b u q n _ => by rw [D1 (CF6 (CH4 (CE2 q) hp))]; exact n
 there := fun b u q _ => ⟨u, k b u q⟩
 tups := fun b xs q => by rw [D1 (E6 q hn)]; exact q
 frzs := fun b u xs q => by rw [D1 (E6 q hn)]; exact q
 tbls := fun b ps q => ⟨#[], by rw [D1 (E6 q hn), q]; simp⟩
theorem Un.write (mu : Mut (H x)) (he : e = x ∨ H e = some (.own x)) (k : ∀ b u, b ≠ e → h.get? b = some u → h'.get? b = some u) (heo : ∃ u, h'.get? e = some u) : Un fs ex H (upd H x o) h h' := by
 have hx : ∀ b, H b = none → b ≠ x := fun b n z => by subst z; rw [n] at mu; exact mu
 have hb : ∀ b, H b = none → b ≠ e := fun b n z => by
  subst z
  rcases he with r | r
  ·exact hx b n r
  ·rw [n] at r; cases r
 have hm : ∀ b u, H b = some u → ¬ Mut (some u) → b ≠ x := fun b u q nm z => by subst z; rw [q] at mu; exact nm mu
 refine ⟨fun b u q n _ _ => k b u (hb b n) q, fun b u q n _ _ => ⟨u.slots, k b u (hb b n) q⟩, fun b u q n _ => by rw [D1 (hx b n)]; exact n, fun b u q _ => ?_,
  fun b xs q => by rw [D1 (hm b _ q fun z => z)]; exact q, fun b u xs q => by rw [D1 (hm b _ q fun z => z)]; exact q, fun b ps q => ⟨#[], by rw [D1 (hm b _ q fun z => z), q]; simp⟩⟩
 by_cases hbe : b = e
 ·subst hbe; exact heo
 ·exact ⟨u, k b u hbe q⟩
end
def trk (h : Heap) (H : Hp) : List Addr := (CH8 h.objs.size).filter fun a => (H a).isSome
def OH (h : Heap) (H : Hp) : Heap := PySem.W.hideAll h (trk h H)
theorem ZJ (h : Heap) (H : Hp) : (OH h H).objs.size = h.objs.size := PySem.W.hideAll_size _ _
theorem AG9 {H : Hp} (e : h.get? b = some o) (n : H b = none) : (OH h H).get? b = some o :=
 PySem.W.hideAll_get _ e fun hm => by
  have q : (H b).isSome = true := (List.mem_filter.mp hm).2
  rw [n] at q; simp at q
theorem AT9 {H : Hp} (e : (OH h H).get? b = some o) : h.get? b = some o ∧ H b = none := by
 have e' : h.get? b = some o := PySem.W.of_hideAll (trk h H) e
 refine ⟨e', ?_⟩
 cases q : H b with
 | none => rfl
 | some x =>
  have hm : b ∈ trk h H := List.mem_filter.mpr ⟨List.mem_range.mpr (CE2 e'), by simp [q]⟩
  have z : (OH h H).get? b = none := PySem.W.hideAll_none (trk h H) hm
  rw [z] at e; cases e
structure Mod (K : CE0) (mg : Str → Option Value) (base : Heap) : Prop where
 kin : K.In base
 glob : base.Ns CG1 mg
 blt : ∃ mb, base.Ns builtinsNs mb ∧ ∀ x : Str, x ≠ "__name__" → mb x = CJ4 x
 nolimit : base.NoLimit
structure Cx where
 prog : CI2
 w : World
 K : CE0
 mg : Str → Option Value
 base : Heap
 A : CL2
 N : List Str
 s₀ : CD9
 H₀ : Hp
 env : Env
 outer : List Env
 stack : List Env
 ex : List Addr
 fn : Str → Bool
 calm : Bool
 pn : List (Addr × Obj)
 xe : Value → CD9 → Prop
def frs (l : List Env) : List Addr := l.filterMap (·.frame)
abbrev Cx.fs (X : Cx) : List Addr := frs X.outer
def Vis (sc : Scope) (x : Str) : Prop := sc.names.lookup x = some .local ∨ sc.names.lookup x = some .cell ∨ sc.names.lookup x = some .free
def Loc (sc : Scope) (x : Str) : Prop := sc.names.lookup x = some .local ∨ sc.names.lookup x = some .cell
def BZ8 (env : Env) (h : Heap) (m : Str → Option Value) (x : Str) (u : Value) : Prop :=
 (env.kindOf x = some .local ∧ m x = some u) ∨ ((env.kindOf x = some .cell ∨ env.kindOf x = some .free) ∧ ∃ c, env.cells.lookup x = some c ∧ h.IsCell c (some u))
structure Cx.Ok (X : Cx) : Prop where
 mod : Mod X.K X.mg X.base
 kind : X.env.scope.kind = .function
 glob : X.env.globals = CG1
 blt : X.env.builtins = builtinsNs
 above : X.s₀.heap.objs.size ≤ X.env.locals
 inj : ∀ x y c, X.env.cells.lookup x = some c → X.env.cells.lookup y = some c → x = y
 has : ∀ x, (X.env.kindOf x = some .cell ∨ X.env.kindOf x = some .free) → ∃ c, X.env.cells.lookup x = some c
 cab : ∀ x c, X.fn x = true → X.env.cells.lookup x = some c → X.s₀.heap.objs.size ≤ c
 hd : X.calm = true → X.A.handled = none
 frames : X.A.frames = some X.stack
 stk : X.stack = X.outer ∨ (X.stack = X.env :: X.outer ∧ X.env.frame = some X.env.locals)
 exf : ∀ b ∈ X.ex, b ≠ X.env.locals ∧ ∀ x c, X.env.cells.lookup x = some c → c ≠ b
 bs : ∀ b o, X.base.get? b = some o → X.s₀.heap.get? b = some o ∧ X.H₀ b = none
 bsz : X.base.objs.size ≤ X.s₀.heap.objs.size
 noex : ∀ b o, X.base.get? b = some o → b ∉ X.ex
 exfs : ∀ b ∈ X.ex, b ∉ X.fs
 funs : X.s₀.heap.FunFrames X.base X.outer
 frf : ∀ b ∈ X.fs, X.H₀ b = none
structure Inv (X : Cx) (pins : List (Addr × Obj)) (σ : List (Option V)) (H : Hp) (s : CD9) : Prop where
 ok : X.Ok
 os : s.os = X.s₀.os
 bare : AllBare s.gens
 base : Un X.fs X.ex X.H₀ H X.s₀.heap s.heap
 loc : ∃ m, s.heap.Ns X.env.locals m ∧ ∀ (i : Nat) (x : Str) (v : V), X.N[i]? = some x → σ[i]? = some (some v) → Vis X.env.scope x → ∃ u, RelV v u ∧ BZ8 X.env s.heap m x u
 cell : ∀ x c, X.env.cells.lookup x = some c → ∃ v, s.heap.IsCell c v
 free : H X.env.locals = none
 freeC : ∀ x c, X.env.cells.lookup x = some c → H c = none
 pin : ∀ p ∈ X.pn ++ pins, s.heap.get? p.1 = some p.2 ∧ H p.1 = none ∧ p.1 ≠ X.env.locals ∧ p.1 ∉ X.fs ∧ ∀ v, p.2.data ≠ .cell v
 hok : HOk X.prog X.w H s.heap
 len : σ.length = X.N.length
section
variable {X : Cx} {pins : List (Addr × Obj)} {σ : List (Option V)} {H H' : Hp} {s : CD9} {h' : Heap}
theorem Cx.Ok.nofr (ok : X.Ok) (e : X.base.get? b = some o) : b ∉ X.fs := fun hb => by
 have := (ok.funs.mem hb).1
 rw [e] at this; cases this
theorem Inv.bs (I : Inv X pins σ H s) : ∀ b o, X.base.get? b = some o → s.heap.get? b = some o ∧ H b = none := fun b o e =>
 ⟨I.base.keep b o (I.ok.bs b o e).1 (I.ok.bs b o e).2 (I.ok.nofr e) (I.ok.noex b o e), I.base.free b o (I.ok.bs b o e).1 (I.ok.bs b o e).2 (I.ok.noex b o e)⟩
theorem Inv.bk (I : Inv X pins σ H s) : ∀ b o, X.base.get? b = some o → s.heap.get? b = some o := fun b o e => (I.bs b o e).1
theorem Inv.mod (I : Inv X pins σ H s) : Mod X.K X.mg X.base := I.ok.mod
theorem Inv.kIn (I : Inv X pins σ H s) : X.K.In s.heap := I.ok.mod.kin.keeps I.bk
theorem Inv.lt (I : Inv X pins σ H s) : X.env.locals < s.heap.objs.size := let ⟨_, hn, _⟩ := I.loc; hn.lt
theorem Inv.sz (I : Inv X pins σ H s) : X.s₀.heap.objs.size ≤ s.heap.objs.size := CI6 I.ok.above (Nat.le_of_lt I.lt)
theorem Inv.nofs (I : Inv X pins σ H s) (h : s.heap.objs.size ≤ a) : a ∉ X.fs := fun hb => by
 obtain ⟨_, o, ho, _⟩ := I.ok.funs.mem hb
 exact absurd (CH4 (CE2 ho) (CI6 I.sz h)) (CK7 _)
theorem Inv.cne (I : Inv X pins σ H s) : ∀ x c, X.env.cells.lookup x = some c → c ≠ X.env.locals := fun x c e z => by
 obtain ⟨v, o, ho, hd⟩ := I.cell x c e
 obtain ⟨m, ⟨o', es, ep, ho', hd', _⟩, _⟩ := I.loc
 rw [z, ho'] at ho; cases ho; rw [hd'] at hd; cases hd
theorem Inv.funs (I : Inv X pins σ H s) : s.heap.FunFrames X.base X.outer := by
 have all : ∀ (l : List Env), (∀ b ∈ frs l, b ∈ X.fs) → X.s₀.heap.FunFrames X.base l → s.heap.FunFrames X.base l := by
  intro l
  induction l with
  | nil => intro _ _; trivial
  | cons env r ih =>
   intro hs hl
   obtain ⟨hk, ⟨L, o, hf, hn, ho, hd⟩, hr⟩ := hl
   have hL : L ∈ X.fs := hs L (by unfold frs; rw [List.filterMap_cons, hf]; exact CF3)
   obtain ⟨sl, e⟩ := I.base.slot L o ho (I.ok.frf L hL) hL fun z => I.ok.exfs L z hL
   exact ⟨hk, ⟨L, _, hf, hn, e, hd⟩, ih (fun b hb => hs b (by unfold frs; rw [List.filterMap_cons, hf]; exact CF2 _ hb)) hr⟩
 exact all X.outer (fun _ hb => hb) I.ok.funs
theorem Inv.stack (I : Inv X pins σ H s) : s.heap.FunFrames X.base X.stack := by
 rcases I.ok.stk with e | ⟨e, hf⟩
 ·rw [e]; exact I.funs
 ·rw [e]
  obtain ⟨m, hn, _⟩ := I.loc
  refine .cons (by rw [I.ok.kind]; decide) hf hn ?_ I.funs
  exact CI9 (CI6 I.ok.bsz I.ok.above)
theorem Inv.stkSub (I : Inv X pins σ H s) : ∀ b ∈ frs X.stack, b ∈ X.env.locals :: X.fs := fun b hb => by
 rcases I.ok.stk with e | ⟨e, hf⟩
 ·rw [e] at hb; exact CF2 _ hb
 ·rw [e] at hb
  unfold frs at hb
  rw [List.filterMap_cons, hf] at hb
  exact hb
theorem Inv.stkFree (I : Inv X pins σ H s) : ∀ b ∈ frs X.stack, H b = none := fun b hb => by
 rcases CF9.mp (I.stkSub b hb) with e | hb
 ·rw [e]; exact I.free
 ·obtain ⟨_, o, ho, _⟩ := I.ok.funs.mem hb
  exact I.base.free b o ho (I.ok.frf b hb) fun z => I.ok.exfs b z hb
theorem Inv.step {g' : Array GenState} {t' : Nat} {d' : Drawn} (I : Inv X pins σ H s)
  (hch : ∀ b ∈ ch, (b ∈ X.ex ∨ X.s₀.heap.objs.size ≤ b) ∧ b ≠ X.env.locals ∧ (∀ x c, X.env.cells.lookup x = some c → c ≠ b) ∧ ∀ p ∈ X.pn ++ pins, p.1 ≠ b)
  (keep : ∀ b o, b ≠ X.env.locals → b ∉ X.fs → b ∉ ch → s.heap.get? b = some o → H b = none → h'.get? b = some o)
  (slot : ∀ b o, b ≠ X.env.locals → b ∈ X.fs → b ∉ ch → s.heap.get? b = some o → H b = none → ∃ sl, h'.get? b = some { o with slots := sl }) (free : ∀ b o, b ∉ ch → s.heap.get? b = some o → H b = none → H' b = none)
  (there : ∀ b o, b ∉ ch → s.heap.get? b = some o → ∃ o', h'.get? b = some o')
  (tups : ∀ b xs, H b = some (.tup xs) → H' b = some (.tup xs)) (frzs : ∀ b o u, H b = some (.frz o u) → H' b = some (.frz o u)) (tbls : ∀ b ps, H b = some (.tbl ps) → ∃ more, H' b = some (.tbl (ps ++ more)))
  (ns : ∀ m, s.heap.Ns X.env.locals m → h'.Ns X.env.locals m) (hok : HOk X.prog X.w H' h') (hg : AllBare g') :
  Inv X pins σ H' { s with heap := h', gens := g', drawn := d', toks := t' } := by
 have neL : ∀ b o, X.s₀.heap.get? b = some o → b ≠ X.env.locals := fun b o e => CF6 (CH4 (CE2 e) I.ok.above)
 have neC : ∀ b o, X.s₀.heap.get? b = some o → b ∉ X.ex → b ∉ ch := fun b o e hx hb => by
  rcases (hch b hb).1 with z | z
  ·exact hx z
  ·exact absurd (CH4 (CE2 e) z) (CK7 _)
 have cellK : ∀ x c, X.env.cells.lookup x = some c → ∀ v, s.heap.IsCell c v → h'.IsCell c v := fun x c e v ⟨o, ho, hd⟩ => by
  have nch : c ∉ ch := fun z => (hch c z).2.2.1 x c e rfl
  by_cases hc : c ∈ X.fs
  ·obtain ⟨sl, q⟩ := slot c o (I.cne x c e) hc nch ho (I.freeC x c e)
   exact ⟨_, q, hd⟩
  ·exact ⟨o, keep c o (I.cne x c e) hc nch ho (I.freeC x c e), hd⟩
 refine ⟨I.ok, I.os, hg, ⟨fun b o e n hb hx => ?_, fun b o e n hb hx => ?_, fun b o e n hx => ?_, fun b o e hx => ?_, fun b xs e => tups b xs (I.base.tups b xs e), fun b o xs e => frzs b o xs (I.base.frzs b o xs e), fun b ps e => ?_⟩, ?_, fun x c e => ?_, ?_, fun x c e => ?_, fun p hp => ?_, hok, I.len⟩
 ·exact keep b o (neL b o e) hb (neC b o e hx) (I.base.keep b o e n hb hx) (I.base.free b o e n hx)
 ·obtain ⟨sl, e1⟩ := I.base.slot b o e n hb hx
  obtain ⟨sl', e2⟩ := slot b _ (neL b o e) hb (neC b o e hx) e1 (I.base.free b o e n hx)
  exact ⟨sl', e2⟩
 ·obtain ⟨o', e1⟩ := I.base.there b o e hx
  exact free b o' (neC b o e hx) e1 (I.base.free b o e n hx)
 ·obtain ⟨o', e1⟩ := I.base.there b o e hx
  exact there b o' (neC b o e hx) e1
 ·obtain ⟨m1, e1⟩ := I.base.tbls b ps e
  obtain ⟨m2, e2⟩ := tbls b _ e1
  exact ⟨m1 ++ m2, by rw [e2, Array.append_assoc]⟩
 ·obtain ⟨m, hn, hl⟩ := I.loc
  refine ⟨m, ns m hn, fun i x v e1 e2 e3 => ?_⟩
  obtain ⟨u, r, l⟩ := hl i x v e1 e2 e3
  refine ⟨u, r, ?_⟩
  rcases l with l | ⟨k, c, e, z⟩
  ·exact .inl l
  ·exact .inr ⟨k, c, e, cellK x c e _ z⟩
 ·obtain ⟨v, z⟩ := I.cell x c e
  exact ⟨v, cellK x c e v z⟩
 ·obtain ⟨m, ⟨o, _, _, ho, _⟩, _⟩ := I.loc
  exact free _ o (fun z => (hch _ z).2.1 rfl) ho I.free
 ·obtain ⟨v, o, ho, hd⟩ := I.cell x c e
  exact free c o (fun z => (hch c z).2.2.1 x c e rfl) ho (I.freeC x c e)
 ·obtain ⟨e, n, ne, nf, d⟩ := I.pin p hp
  have nch : p.1 ∉ ch := fun z => (hch p.1 z).2.2.2 p hp rfl
  exact ⟨keep p.1 p.2 ne nf nch e n, free p.1 p.2 nch e n, ne, nf, d⟩
theorem Inv.un {t' : Nat} (I : Inv X pins σ H s) (u : Un X.fs [] H H' s.heap h') (hok : HOk X.prog X.w H' h') : Inv X pins σ H' { s with heap := h', toks := t' } := by
 obtain ⟨m, ⟨o, es, ep, ho, r⟩, _⟩ := id I.loc
 obtain ⟨sl, hL⟩ := u.any ho I.free (by simp)
 exact I.step (g' := s.gens) (d' := s.drawn) (ch := []) (fun _ z => nomatch z) (fun b o _ hb _ e n => u.keep b o e n hb (by simp)) (fun b o _ hb _ e n => u.slot b o e n hb (by simp)) (fun b o _ e n => u.free b o e n (by simp)) (fun b o _ e => u.there b o e (by simp)) u.tups u.frzs u.tbls (fun m' hm => by
  obtain ⟨o', es', ep', ho', r'⟩ := hm
  rw [ho] at ho'; cases ho'
  exact ⟨_, es', ep', hL, r'⟩) hok I.bare
theorem Inv.call {g' : Array GenState} {t' : Nat} {d' : Drawn} (I : Inv X pins σ H s) (u : Un (frs X.stack) ch H H' s.heap h') (hok : HOk X.prog X.w H' h') (hg : AllBare g')
  (hch : ∀ b ∈ ch, (b ∈ X.ex ∨ X.s₀.heap.objs.size ≤ b) ∧ b ≠ X.env.locals ∧ (∀ x c, X.env.cells.lookup x = some c → c ≠ b) ∧ ∀ p ∈ X.pn ++ pins, p.1 ≠ b) :
  Inv X pins σ H' { s with heap := h', gens := g', drawn := d', toks := t' } := by
 obtain ⟨m, ⟨o, es, ep, ho, r⟩, _⟩ := id I.loc
 obtain ⟨sl, hL⟩ := u.any ho I.free fun z => (hch _ z).2.1 rfl
 exact I.step (ch := ch) hch (fun b o hL hb hc e n => u.keep b o e n (fun z => (CF9.mp (I.stkSub b z)).elim hL hb) hc) (fun b o _ _ hc e n => u.any e n hc) (fun b o hc e n => u.free b o e n hc) (fun b o hc e => u.there b o e hc) u.tups u.frzs u.tbls (fun m' hm => by
  obtain ⟨o', es', ep', ho', r'⟩ := hm
  rw [ho] at ho'; cases ho'
  exact ⟨_, es', ep', hL, r'⟩) hok hg
theorem Inv.turned {t' : Nat} {it : Addr} (I : Inv X pins σ H s) (k : ∀ b o, b ≠ it → s.heap.get? b = some o → h'.get? b = some o) (hn : H it = none) (hL : it ≠ X.env.locals)
  (h1 : it ∈ X.ex ∨ X.s₀.heap.objs.size ≤ it) (h2 : ∀ x c, X.env.cells.lookup x = some c → c ≠ it) (h3 : ∀ p ∈ X.pn ++ pins, p.1 ≠ it) : Inv X pins σ H { s with heap := h', toks := t' } := by
 have nit : ∀ b u, H b = some u → b ≠ it := fun b u e z => by rw [z, hn] at e; cases e
 refine I.step (g' := s.gens) (d' := s.drawn) (ch := [it]) (fun b hb => ?_) (fun b o _ _ hc e _ => k b o (fun z => hc (by simp [z])) e) (fun b o _ _ hc e _ => ⟨o.slots, k b o (fun z => hc (by simp [z])) e⟩) (fun _ _ _ _ n => n)
  (fun b o hc e => ⟨o, k b o (fun z => hc (by simp [z])) e⟩) (fun _ _ e => e) (fun _ _ _ e => e) (fun b ps e => ⟨#[], by rw [e]; simp⟩) (fun m hm => ?_) (fun b u e => ?_) I.bare
 ·have e : b = it := by simpa using hb
  subst e
  exact ⟨h1, hL, h2, h3⟩
 ·obtain ⟨o, es, ep, ho, r⟩ := hm
  exact ⟨o, es, ep, k _ o (Ne.symm hL) ho, r⟩
 ·refine (I.hok b u e).stay (fun c v hc q => k c v ?_ q) (fun _ q => q) fun _ _ q => q
  rcases hc with z | z
  ·rw [z]; exact nit b u e
  ·exact nit c _ z
theorem Inv.tok (I : Inv X pins σ H s) (t : Nat) : Inv X pins σ H { s with toks := t } := I.un (h' := s.heap) (t' := t) Un.refl I.hok
theorem Inv.kept {t' : Nat} (I : Inv X pins σ H s) (k : ∀ b u, s.heap.get? b = some u → h'.get? b = some u) : Inv X pins σ H { s with heap := h', toks := t' } := I.un (Un.kept k) (I.hok.kept k)
theorem Inv.laid {o : HO} {t' : Nat} (I : Inv X pins σ H s) (k : ∀ b u, s.heap.get? b = some u → h'.get? b = some u) (hp : s.heap.objs.size ≤ a) (new : ObjOk X.prog X.w (upd H a o) h' a o) :
  Inv X pins σ (upd H a o) { s with heap := h', toks := t' } := I.un (Un.laid k hp (I.hok.fresh hp)) (I.hok.laid k hp new)
theorem Inv.write {x e : Addr} {o : HO} {t' : Nat} (I : Inv X pins σ H s) (mu : Mut (H x)) (he : e = x ∨ H e = some (.own x)) (k : ∀ b u, b ≠ e → s.heap.get? b = some u → h'.get? b = some u) (heo : ∃ u, h'.get? e = some u)
  (new : ObjOk X.prog X.w (upd H x o) h' x o) : Inv X pins σ (upd H x o) { s with heap := h', toks := t' } := I.un (Un.write mu he k heo) (I.hok.write mu he k heo new)
theorem Inv.pins_of {pins' : List (Addr × Obj)} (I : Inv X pins σ H s) (h : ∀ p ∈ pins', s.heap.get? p.1 = some p.2 ∧ H p.1 = none ∧ p.1 ≠ X.env.locals ∧ p.1 ∉ X.fs ∧ ∀ v, p.2.data ≠ .cell v) : Inv X pins' σ H s :=
 ⟨I.ok, I.os, I.bare, I.base, I.loc, I.cell, I.free, I.freeC, fun p hp => (CJ1.mp hp).elim (fun z => I.pin p (CK8 _ z)) (h p), I.hok, I.len⟩
theorem RM (hN : N.Nodup) (a : N[i]? = some x) (b : N[j]? = some x) : i = j := by
 obtain ⟨h1, e1⟩ := List.getElem?_eq_some_iff.mp a
 obtain ⟨h2, e2⟩ := List.getElem?_eq_some_iff.mp b
 exact (List.getElem_inj hN).mp (e1.trans e2.symm)
theorem AC5 {M : Model} {v : V} {Q : Unit → CD9 → Prop} (I : Inv X pins σ H s) (hN : X.N.Nodup) (hi : X.N[i]? = some x) (hx : Loc X.env.scope x) (r : RelV v u)
  (h : ∀ s', Inv X pins (σ.set i (some v)) H s' → (∃ a, CK3 a s.heap s'.heap ∧ (a = X.env.locals ∨ X.env.cells.lookup x = some a)) → Q () s') (hf : X.fn x = true ∨ X.env.scope.names.lookup x = some .local := by first | exact .inl rfl | exact .inr rfl | assumption) : wpAny M A (storeName X.env x u) Q E s := by
 obtain ⟨m, hn, hl⟩ := id I.loc
 have hcls : (X.env.scope.kind == .class || (X.env.scope.kind == .module && X.env.locals != X.env.globals)) = false := by rw [I.ok.kind]; rfl
 have hiσ : i < σ.length := by rw [I.len]; exact (List.getElem?_eq_some_iff.mp hi).1
 have cne := I.cne
 have tracked : ∀ {a : Addr} {h' : Heap}, (∃ o, s.heap.get? a = some o ∧ H a = none) → CK3 a s.heap h' → HOk X.prog X.w H h' := fun {a h'} ha hs b ob e => by
  obtain ⟨_, _, hfree⟩ := ha
  refine (I.hok b ob e).stay (fun c w' hc q => (hs.2 c ?_).trans q) (fun _ q => q) fun _ _ q => q
  rintro rfl
  rcases hc with rfl | hc
  ·rw [hfree] at e; cases e
  ·rw [hfree] at hc; cases hc
 rcases hx with hk | hk
 ·refine wpAny_storeName_local hk hn (fun h' hn' hs => ?_) hcls
  obtain ⟨oL, _, _, hoL, _⟩ := id hn
  refine h _ ⟨I.ok, I.os, I.bare, ⟨fun b o e n hb hx => ?_, fun b o e n hb hx => ?_, I.base.free, fun b o e hx => ?_, I.base.tups, I.base.frzs, I.base.tbls⟩, ⟨_, hn', fun j y v' e1 e2 e3 => ?_⟩, fun y c e => ?_, I.free, I.freeC, fun p hp => ?_, tracked ⟨oL, hoL, I.free⟩ hs, by simpa using I.len⟩ ⟨_, hs, .inl rfl⟩
  ·exact (hs.2 b (CF6 (CH4 (CE2 e) I.ok.above))).trans (I.base.keep b o e n hb hx)
  ·obtain ⟨sl, e1⟩ := I.base.slot b o e n hb hx
   exact ⟨sl, (hs.2 b (CF6 (CH4 (CE2 e) I.ok.above))).trans e1⟩
  ·obtain ⟨o', e1⟩ := I.base.there b o e hx
   exact ⟨o', (hs.2 b (CF6 (CH4 (CE2 e) I.ok.above))).trans e1⟩
  ·by_cases hj : j = i
   ·subst hj
    rw [hi] at e1; cases e1
    rw [List.getElem?_set_self hiσ] at e2
    cases e2
    exact ⟨u, r, .inl ⟨hk, by simp⟩⟩
   ·rw [List.getElem?_set_ne (Ne.symm hj)] at e2
    obtain ⟨u', r', q⟩ := hl j y v' e1 e2 e3
    refine ⟨u', r', ?_⟩
    rcases q with ⟨k, e⟩ | ⟨k, c, e, z⟩
    ·refine .inl ⟨k, ?_⟩
     have : y ≠ x := fun e => hj (RM hN e1 (e ▸ hi))
     simp [this, e]
    ·exact .inr ⟨k, c, e, z.sameBut hs (cne y c e)⟩
  ·obtain ⟨w', z⟩ := I.cell y c e
   exact ⟨w', z.sameBut hs (cne y c e)⟩
  ·obtain ⟨e, n, ne, nf, d⟩ := I.pin p hp
   exact ⟨(hs.2 p.1 ne).trans e, n, ne, nf, d⟩
 ·have hfn : X.fn x = true := by
   rcases hf with z | z
   ·exact z
   ·rw [z] at hk; cases hk
  obtain ⟨c, hc⟩ := I.ok.has x (.inl hk)
  obtain ⟨w', z⟩ := I.cell x c hc
  refine wpAny_storeName_cell I.ok.kind hk hc z (fun h' hc' hs => ?_)
  obtain ⟨oc, hoc, hocd⟩ := id z
  refine h { s with heap := h' } ⟨I.ok, I.os, I.bare, ⟨fun b o e n hb hx => ?_, fun b o e n hb hx => ?_, I.base.free, fun b o e hx => ?_, I.base.tups, I.base.frzs, I.base.tbls⟩, ⟨m, hn.sameBut hs (Ne.symm (cne x c hc)), fun j y v' e1 e2 e3 => ?_⟩, fun y c' e => ?_, I.free, I.freeC, fun p hp => ?_, tracked ⟨oc, hoc, I.freeC x c hc⟩ hs, by simpa using I.len⟩ ⟨c, hs, .inr hc⟩
  ·exact (hs.2 b (CF6 (CH4 (CE2 e) (I.ok.cab x c hfn hc)))).trans (I.base.keep b o e n hb hx)
  ·obtain ⟨sl, e1⟩ := I.base.slot b o e n hb hx
   exact ⟨sl, (hs.2 b (CF6 (CH4 (CE2 e) (I.ok.cab x c hfn hc)))).trans e1⟩
  ·obtain ⟨o', e1⟩ := I.base.there b o e hx
   exact ⟨o', (hs.2 b (CF6 (CH4 (CE2 e) (I.ok.cab x c hfn hc)))).trans e1⟩
  ·by_cases hj : j = i
   ·subst hj
    rw [hi] at e1; cases e1
    rw [List.getElem?_set_self hiσ] at e2
    cases e2
    exact ⟨u, r, .inr ⟨.inl hk, c, hc, hc'⟩⟩
   ·rw [List.getElem?_set_ne (Ne.symm hj)] at e2
    obtain ⟨u', r', q⟩ := hl j y v' e1 e2 e3
    refine ⟨u', r', ?_⟩
    rcases q with q | ⟨k, c', e, z'⟩
    ·exact .inl q
    ·refine .inr ⟨k, c', e, z'.sameBut hs ?_⟩
     rintro rfl
     exact hj (RM hN e1 (I.ok.inj _ _ _ e hc ▸ hi))
  ·by_cases hcc : c' = c
   ·subst hcc; exact ⟨_, hc'⟩
   ·obtain ⟨w2, z2⟩ := I.cell y c' e
    exact ⟨w2, z2.sameBut hs hcc⟩
  ·obtain ⟨e, n, ne, nf, d⟩ := I.pin p hp
   refine ⟨(hs.2 p.1 ?_).trans e, n, ne, nf, d⟩
   intro q
   rw [q, hoc] at e
   have q' : oc = p.2 := Option.some.inj e
   exact d w' (by rw [← q']; exact hocd)
theorem FZ {M : Model} {v : V} {Q : Unit → CD9 → Prop} (I : Inv X pins σ H s) (hN : X.N.Nodup) (hi : X.N[i]? = some x) (hx : Loc X.env.scope x) (r : RelV v u)
  (h : ∀ s', Inv X pins (σ.set i (some v)) H s' → Q () s') (hf : X.fn x = true ∨ X.env.scope.names.lookup x = some .local := by first | exact .inl rfl | exact .inr rfl | assumption) : wpAny M A (storeName X.env x u) Q E s :=
 AC5 I hN hi hx r (fun s' I' _ => h s' I') hf
theorem Inv.call' (I : Inv X pins σ H s) (ho : s'.os = s.os) (u : Un (frs X.stack) ch H H' s.heap s'.heap) (hok : HOk X.prog X.w H' s'.heap) (hg : AllBare s'.gens)
  (hch : ∀ b ∈ ch, (b ∈ X.ex ∨ X.s₀.heap.objs.size ≤ b) ∧ b ≠ X.env.locals ∧ (∀ x c, X.env.cells.lookup x = some c → c ≠ b) ∧ ∀ p ∈ X.pn ++ pins, p.1 ≠ b) : Inv X pins σ H' s' := by
 obtain ⟨h', g', d', t', o'⟩ := s'
 have e : o' = s.os := ho
 subst e
 exact I.call (g' := g') (t' := t') (d' := d') u hok hg hch
end
abbrev XK := Value → Option Addr → Hp → Prop
abbrev St := List (Option V)
abbrev VK := V → Hp → Prop
abbrev TE := St → Hp → VK → Prop
abbrev TA := St → Hp → (List V → Hp → Prop) → Prop
structure Ends where
 nx : St → Hp → Prop
 rt : VK
 bk : St → Hp → Prop := fun _ _ => False
 ct : St → Hp → Prop := fun _ _ => False
abbrev TS := Ends → St → Hp → Prop
def EP (X : Cx) (pins : List (Addr × Obj)) (σ : St) (Q : VK) (u : Value) (s' : CD9) : Prop := ∃ v H', Inv X pins σ H' s' ∧ RelV v u ∧ Q v H'
def AP (X : Cx) (pins : List (Addr × Obj)) (σ : St) (Q : List V → Hp → Prop) (us : List Value) (s' : CD9) : Prop := ∃ vs H', Inv X pins σ H' s' ∧ Vals vs us ∧ Q vs H'
def SP (X : Cx) (pins : List (Addr × Obj)) (D : Ends) (f : Flow) (s' : CD9) : Prop :=
 match f with
 | .next => ∃ σ' H', Inv X pins σ' H' s' ∧ D.nx σ' H'
 | .brk => ∃ σ' H', Inv X pins σ' H' s' ∧ D.bk σ' H'
 | .cont => ∃ σ' H', Inv X pins σ' H' s' ∧ D.ct σ' H'
 | .ret u => ∃ v σ' H', Inv X pins σ' H' s' ∧ RelV v u ∧ D.rt v H'
def PE (X : Cx) (e : Expr) (t : TE) : Prop :=
 ∀ (pins : List (Addr × Obj)) (s : CD9) (σ : St) (H : Hp) (Q : VK), Inv X pins σ H s → t σ H Q → wpAny (model X.prog X.w) X.A (eval e X.env) (EP X pins σ Q) X.xe s
def PA (X : Cx) (es : List Expr) (t : TA) : Prop :=
 ∀ (pos : Pos) (pins : List (Addr × Obj)) (s : CD9) (σ : St) (H : Hp) (Q : List V → Hp → Prop), Inv X pins σ H s → t σ H Q → wpAny (model X.prog X.w) X.A (spliced (CV5 pos (CH7 es X.env))) (AP X pins σ Q) X.xe s
def PS (X : Cx) (st : Stmt) (t : TS) : Prop :=
 ∀ (pins : List (Addr × Obj)) (s : CD9) (σ : St) (H : Hp) (D : Ends), Inv X pins σ H s → t D σ H → wpAny (model X.prog X.w) X.A (exec st X.env) (SP X pins D) X.xe s
def PSs (X : Cx) (st : List Stmt) (t : TS) : Prop :=
 ∀ (pins : List (Addr × Obj)) (s : CD9) (σ : St) (H : Hp) (D : Ends), Inv X pins σ H s → t D σ H → wpAny (model X.prog X.w) X.A (execs st X.env) (SP X pins D) X.xe s
theorem thn {t : Sem α} {Q Q' : α → CD9 → Prop} {M : Model} (h : wpAny M A t Q E s) (hQ : ∀ a s, Q a s → Q' a s) : wpAny M A t Q' E s := CJ8 h hQ fun _ _ x => x
section
variable {X : Cx}
def BY9 (i : Nat) : TE := fun σ H Q => ∃ v, σ[i]? = some (some v) ∧ Q v H
def tC (v : V) : TE := fun _ H Q => Q v H
theorem BI2 (hN : X.N[i]? = some x) (hv : Vis X.env.scope x) (hd : (x == ("__debug__" : Str)) = false := by decide) (hcd : (x == ("__classdict__" : Str)) = false := by decide) : PE X (.Name x pos) (BY9 i) := by
 intro pins s σ H Q I h
 obtain ⟨v, e, h⟩ := h
 obtain ⟨m, hn, hl⟩ := I.loc
 obtain ⟨u, r, l⟩ := hl i x v hN e hv
 have fin : EP X pins σ Q u s := ⟨v, H, I, r, h⟩
 rcases l with ⟨hk, hm⟩ | ⟨hk, c, hc, hcell⟩
 ·exact wpAny_Name (wpAny_loadName_local I.ok.kind hk hn hm fin) hd
 ·rcases hk with hk | hk
  ·exact wpAny_Name (wpAny_loadName_cell I.ok.kind hk hc hcell fin) hd
  ·exact wpAny_Name (wpAny_loadName_free I.ok.kind hk hc hcell fin hcd) hd
theorem BH8 {i j pos} : PE X (.Constant (.int i) j pos) (tC (.int i)) := fun _ _ _ H _ I h => wpAny_Constant_int ⟨.int i, H, I.tok _, ⟨_, rfl⟩, h⟩
theorem BV4 {b j pos} : PE X (.Constant (.bool b) j pos) (tC (.bl b)) := fun _ _ _ H _ I h => Constant_bool ⟨.bl b, H, I, rfl, h⟩
theorem BH9 {j pos} : PE X (.Constant .none j pos) (tC .non) := fun _ _ _ H _ I h => Constant_none ⟨.non, H, I, rfl, h⟩
theorem BI0 {x j pos} : PE X (.Constant (.str x) j pos) (tC (.str x)) := fun _ _ _ H _ I h => Calls.Constant_str ⟨.str x, H, I.tok _, ⟨_, rfl⟩, h⟩
def Gl (X : Cx) (x : Str) : Prop := X.env.kindOf x = some .globalImplicit
theorem XR {σ : St} {H : Hp} (I : Inv X pins σ H s) (hg : Gl X x) (hm : X.mg x = some u) (h : Q u s)
  (hd : (x == ("__debug__" : Str)) = false := by decide) : wpAny (model X.prog X.w) X.A (eval (.Name x pos) X.env) Q E s :=
 Calls.Name_function_global I.ok.kind hg (Calls.loadGlobal_global (by rw [I.ok.glob]; exact I.mod.glob.keeps I.bk) hm h) hd
theorem AY {σ : St} {H : Hp} (I : Inv X pins σ H s) (hg : Gl X x) (hm : X.mg x = none) (hv : CJ4 x = some u) (h : Q u s)
  (hn : x ≠ "__name__" := by decide) (hd : (x == ("__debug__" : Str)) = false := by decide) : wpAny (model X.prog X.w) X.A (eval (.Name x pos) X.env) Q E s := by
 obtain ⟨mb, h1, h2⟩ := I.mod.blt
 exact Calls.Name_function_global I.ok.kind hg (Calls.loadGlobal_builtin (by rw [I.ok.glob]; exact I.mod.glob.keeps I.bk) hm (by rw [I.ok.blt]; exact h1.keeps I.bk) ((h2 x hn).trans hv) h) hd
theorem AW7 {v : V} (hg : Gl X x) (hm : X.mg x = some u) (r : RelV v u) (hd : (x == ("__debug__" : Str)) = false := by decide) : PE X (.Name x pos) (tC v) :=
 fun _ _ _ H _ I h => XR I hg hm ⟨v, H, I, r, h⟩ hd
theorem AW3 {v : V} (hg : Gl X x) (hm : X.mg x = none) (hv : CJ4 x = some u) (r : RelV v u) (hn : x ≠ "__name__" := by decide) (hd : (x == ("__debug__" : Str)) = false := by decide) : PE X (.Name x pos) (tC v) :=
 fun _ _ _ H _ I h => AY I hg hm hv ⟨v, H, I, r, h⟩ hn hd
variable {a b : Expr} {ta tb : TE} {pos : Pos}
variable {tA tB' : TT} {rest : List Expr}
end
def SqL (K : CE0) (H : Hp) (a : Addr) (xs : List V) : Prop :=
 Rd H a (.lst xs) ∨
  ∃ (o : Obj) (its : Array Value) (n : Nat), K.lookup a = some o ∧ o.cls = .type "list" ∧ o.dict = none ∧ o.data = .seq its n ∧ its.size ≤ CE1 ∧ Vals xs its.toList
def SqT (K : CE0) (H : Hp) (a : Addr) (xs : List V) : Prop :=
 Rd H a (.tup xs) ∨
  ∃ (o : Obj) (its : Array Value) (n : Nat), K.lookup a = some o ∧ o.cls = .type "tuple" ∧ o.data = .seq its n ∧ its.size ≤ CE1 ∧ Vals xs its.toList
def BZ9 : Value → Option V
 | .none => some .non
 | .bool b => some (.bl b)
 | .int i _ => some (.int i)
 | .str x _ => some (.str x)
 | .bytes b _ => some (.byt b)
 | .float b _ => some (.flt b)
 | .ref a => some (.ref a)
 | .type n => some (.ty n)
 | _ => none
theorem RelV.abs {x : V} (r : RelV x u) : BZ9 u = some x := by
 cases x with
 | non => cases r; rfl
 | bl _ => cases r; rfl
 | int _ => obtain ⟨t, rfl⟩ := r; rfl
 | str _ => obtain ⟨t, rfl⟩ := r; rfl
 | byt _ => obtain ⟨t, rfl⟩ := r; rfl
 | flt _ => obtain ⟨t, rfl⟩ := r; rfl
 | ref _ => cases r; rfl
 | ty _ => cases r; rfl
theorem RelV.inj {x y : V} (r : RelV x u) (q : RelV y u) : x = y := Option.some.inj (r.abs.symm.trans q.abs)
theorem Vals.inj : ∀ {xs ys : List V} {us : List Value}, Vals xs us → Vals ys us → xs = ys
 | _, _, _, .nil, .nil => rfl
 | _, _, _, .cons r t, .cons r' t' => by rw [r.inj r', Vals.inj t t']
section
variable {X : Cx} {pins : List (Addr × Obj)} {σ : St} {H : Hp} {s : CD9} {a : Addr} {xs ys : List V}
theorem Inv.list (I : Inv X pins σ H s) (h : SqL X.K H a xs) : ∃ its : List Value, Vals xs its ∧ PlainL s.heap a its.toArray ∧ xs.length ≤ CE1 := by
 rcases h with h | ⟨o, its, n, hk, hc, hd, hs, hz, r⟩
 ·obtain ⟨z, its, n, r, e⟩ := h.ok I.hok
  exact ⟨its, r, ⟨_, n, e, rfl, rfl, rfl⟩, z⟩
 ·refine ⟨its.toList, r, ⟨o, n, I.kIn a o hk, hc, hd, by simpa using hs⟩, ?_⟩
  have e := r.length
  simp only [CE5] at e
  lia
theorem Inv.tuple (I : Inv X pins σ H s) (h : SqT X.K H a xs) : ∃ its : List Value, Vals xs its ∧ IsTup s.heap a its.toArray ∧ xs.length ≤ CE1 := by
 rcases h with h | ⟨o, its, n, hk, hc, hs, hz, r⟩
 ·obtain ⟨z, its, r, p⟩ := h.ok I.hok
  exact ⟨its, r, p, z⟩
 ·refine ⟨its.toList, r, ⟨o, I.kIn a o hk, hc, n, by simpa using hs⟩, ?_⟩
  have e := r.length
  simp only [CE5] at e
  lia
theorem Inv.list_inj (I : Inv X pins σ H s) (h : SqL X.K H a xs) (h' : SqL X.K H a ys) : xs = ys := by
 obtain ⟨its, r, ⟨o, n, e, _, _, d⟩, _⟩ := I.list h
 obtain ⟨its', r', ⟨o', n', e', _, _, d'⟩, _⟩ := I.list h'
 rw [e] at e'; cases e'
 rw [d] at d'
 injection d' with d1 _
 have : its = its' := by simpa using congrArg Array.toList d1
 subst this
 exact r.inj r'
theorem Inv.tuple_inj (I : Inv X pins σ H s) (h : SqT X.K H a xs) (h' : SqT X.K H a ys) : xs = ys := by
 obtain ⟨its, r, ⟨o, e, _, n, d⟩, _⟩ := I.tuple h
 obtain ⟨its', r', ⟨o', e', _, n', d'⟩, _⟩ := I.tuple h'
 rw [e] at e'; cases e'
 rw [d] at d'
 injection d' with d1 _
 have : its = its' := by simpa using congrArg Array.toList d1
 subst this
 exact r.inj r'
end
abbrev Cx.wish (X : Cx) (E : Value → CD9 → Prop) : Cx := { X with xe := E }
abbrev Cx.nox (X : Cx) : Cx := X.wish fun _ _ => False
theorem Cx.Ok.wish {X : Cx} (ok : X.Ok) (E : Value → CD9 → Prop) : (X.wish E).Ok :=
 ⟨ok.mod, ok.kind, ok.glob, ok.blt, ok.above, ok.inj, ok.has, ok.cab, ok.hd, ok.frames, ok.stk, ok.exf, ok.bs, ok.bsz, ok.noex, ok.exfs, ok.funs, ok.frf⟩
theorem Cx.Ok.unwish {X : Cx} (ok : (X.wish E).Ok) : X.Ok :=
 ⟨ok.mod, ok.kind, ok.glob, ok.blt, ok.above, ok.inj, ok.has, ok.cab, ok.hd, ok.frames, ok.stk, ok.exf, ok.bs, ok.bsz, ok.noex, ok.exfs, ok.funs, ok.frf⟩
section
variable {X : Cx} {pins : List (Addr × Obj)} {σ : St} {H : Hp} {s : CD9} {E : Value → CD9 → Prop}
theorem Inv.wish (I : Inv X pins σ H s) (E : Value → CD9 → Prop) : Inv (X.wish E) pins σ H s := ⟨I.ok.wish E, I.os, I.bare, I.base, I.loc, I.cell, I.free, I.freeC, I.pin, I.hok, I.len⟩
theorem Inv.unwish (I : Inv (X.wish E) pins σ H s) : Inv X pins σ H s := ⟨I.ok.unwish, I.os, I.bare, I.base, I.loc, I.cell, I.free, I.freeC, I.pin, I.hok, I.len⟩
theorem SP.unwish {D : Ends} {f : Flow} (h : SP (X.wish E) pins D f s') : SP X pins D f s' := by
 cases f with
 | next => obtain ⟨σ', H', I, q⟩ := h; exact ⟨σ', H', I.unwish, q⟩
 | brk => obtain ⟨σ', H', I, q⟩ := h; exact ⟨σ', H', I.unwish, q⟩
 | cont => obtain ⟨σ', H', I, q⟩ := h; exact ⟨σ', H', I.unwish, q⟩
 | ret u => obtain ⟨v, σ', H', I, r, q⟩ := h; exact ⟨v, σ', H', I.unwish, r, q⟩
theorem PSs.nox {st : List Stmt} {t : TS} (h : PSs X.nox st t) : PSs X st t := fun pins s σ H D I hw =>
 CJ8 (h pins s σ H D (I.wish _) hw) (fun _ _ q => q.unwish) fun _ _ z => False.elim z
end
section
variable {X : Cx} {st : Stmt} {rest : List Stmt} {t u : TS} {e : Expr} {te : TE} {pos : Pos}
theorem Inv.quiet {σ : St} {H : Hp} (I : Inv X pins σ H s) : interactive X.env = false := by simp [interactive, I.ok.kind]
end
abbrev TG := V → St → Hp → (St → Hp → Prop) → Prop
abbrev TGs := List V → St → Hp → (St → Hp → Prop) → Prop
def PG (X : Cx) (target : Expr) (t : TG) : Prop :=
 ∀ (pins : List (Addr × Obj)) (s : CD9) (σ : St) (H : Hp) (v : V) (u : Value) (Q : St → Hp → Prop), Inv X pins σ H s → RelV v u → t v σ H Q →
  wpAny (model X.prog X.w) X.A (assign target X.env u) (fun _ s' => ∃ σ' H', Inv X pins σ' H' s' ∧ Q σ' H') X.xe s
def PGs (X : Cx) (ts : List Expr) (t : TGs) : Prop :=
 ∀ (pins : List (Addr × Obj)) (s : CD9) (σ : St) (H : Hp) (vs : List V) (us : List Value) (Q : St → Hp → Prop), Inv X pins σ H s → Vals vs us → t vs σ H Q →
  wpAny (model X.prog X.w) X.A (assignInOrder ((CN3 ts X.env).map (·.2)) us) (fun _ s' => ∃ σ' H', Inv X pins σ' H' s' ∧ Q σ' H') X.xe s
abbrev TSet := V → V → V → Hp → (Hp → Prop) → Prop
def BP0 (X : Cx) (t : TSet) : Prop :=
 ∀ (pins : List (Addr × Obj)) (s : CD9) (σ : St) (H : Hp) (o i v : V) (ov iv u : Value) (Q : Hp → Prop), Inv X pins σ H s → RelV o ov → RelV i iv → RelV v u → t o i v H Q →
  wpAny (model X.prog X.w) X.A (setItem ov iv u) (fun _ s' => ∃ H', Inv X pins σ H' s' ∧ Q H') X.xe s
section
variable {X : Cx} {pos : Pos}
def BB0 (i : Nat) : TG := fun v σ H Q => Q (σ.set i (some v)) H
theorem PC (hN : X.N.Nodup) (hi : X.N[i]? = some x) (hx : Loc X.env.scope x) (hf : X.fn x = true ∨ X.env.scope.names.lookup x = some .local := by first | exact .inl rfl | exact .inr rfl | assumption) : PG X (.Name x pos) (BB0 i) := by
 intro pins s σ H v u Q I r h
 exact wpAny_assign_Name (FZ I hN hi hx r (fun s' I' => ⟨_, H, I', h⟩) hf)
def CA3 : TGs := fun vs σ H Q => vs = [] ∧ Q σ H
def BP8 (t : TG) (u : TGs) : TGs := fun vs σ H Q => ∃ v r, vs = v :: r ∧ t v σ H fun σ' H' => u r σ' H' Q
theorem AX0 : PGs X [] CA3 := by
 intro pins s σ H vs us Q I r h
 obtain ⟨e, h⟩ := h
 subst e
 cases r
 exact assignInOrder_nil ⟨σ, H, I, h⟩
theorem AL8 {t : TG} {u : TGs} (h1 : PG X e t) (h2 : PGs X es u)
  (hs : (CN3 (e :: es) X.env).map (·.2) = assign e X.env :: (CN3 es X.env).map (·.2) := by rfl) : PGs X (e :: es) (BP8 t u) := by
 intro pins s σ H vs us Q I r h
 obtain ⟨v, vr, e1, h⟩ := h
 subst e1
 cases r with
 | cons r rr =>
  rw [hs]
  refine assignInOrder_cons (thn (h1 pins s σ H _ _ _ I r h) fun _ s1 ⟨σ1, H1, I1, q1⟩ => ?_)
  exact h2 pins s1 σ1 H1 _ _ Q I1 rr q1
def CA5 (K : CE0) (n : Nat) (t : TGs) : TG := fun v σ H Q => ∃ a xs, v = .ref a ∧ SqT K H a xs ∧ xs.length = n ∧ t xs σ H Q
theorem BI4 {t : TGs} (hc : X.calm = true) (h : PGs X es t)
  (hn : (CN3 es X.env).length = n := by rfl) (hst : (CN3 es X.env).findIdx? (·.1) = none := by rfl) : PG X (.Tuple es k pos) (CA5 X.K n t) := by
 intro pins s σ H v u Q I r hw
 obtain ⟨a, xs, e1, hq, hl, hw⟩ := hw
 subst e1
 cases r
 obtain ⟨its, rv, ht, hz⟩ := I.tuple hq
 refine assign_Tuple_tuple (I.ok.hd hc) ht (by simp [hn, ← hl, rv.length]) hst fun h' hx => ?_
 have I1 : Inv X pins σ H { s with heap := h' } := I.kept (t' := s.toks) fun b o e => hx b o (CF6 (CE2 e)) e
 exact h pins _ σ H xs _ Q I1 (by simpa using rv) hw
def CA4 (to ti : TE) (t : TSet) : TG := fun v σ H Q => to σ H fun o H1 => ti σ H1 fun i H2 => t o i v H2 fun H3 => Q σ H3
theorem BI3 {o i : Expr} {to ti : TE} {t : TSet} (ho : PE X o to) (hi : PE X i ti) (hs : BP0 X t)
  (ha : ∀ v, assign (.Subscript o i pos) X.env v = (do
   let ov ← holding [v] (eval o X.env)
   let iv ← holding [v, ov] (eval i X.env)
   standAt pos
   holding [v, ov, iv] (setItem ov iv v)
   release [v, ov, iv] []) := by intro _; rfl) : PG X (.Subscript o i pos) (CA4 to ti t) := by
 intro pins s σ H v u Q I r h
 rw [ha]
 refine CD4 (CH3 (thn (ho pins s σ H _ I h) fun ov s1 ⟨x, H1, I1, r1, q1⟩ => ?_))
 refine CD4 (CH3 (thn (hi pins s1 σ H1 _ I1 q1) fun iv s2 ⟨y, H2, I2, r2, q2⟩ => ?_))
 refine CD4 (CS8 (CD4 (CH3 (thn (hs pins s2 σ H2 x y v ov iv u _ I2 r1 r2 r q2) fun _ s3 ⟨H3, I3, q3⟩ => ?_))))
 exact wpAny_release ⟨σ, H3, I3, q3⟩
def BY5 (te : TE) (g : TG) : TS := fun D σ H => te σ H fun x H1 => g x σ H1 D.nx
theorem AN1 {te : TE} {g : TG} (he : PE X e te) (hg : PG X tg g) (hs : swapsWithSole [tg] e pos.line X.env = pure false := by rfl) (hw : swappedStores [tg] e X.env = pure none := by rfl)
  (h1 : (CN3 [tg] X.env).map (·.2) = [assign tg X.env] := by rfl) : PS X (.Assign [tg] e pos) (BY5 te g) := by
 intro pins s σ H D I h
 refine wpAny_Assign_stores (thn (he pins s σ H _ I h) fun v s1 ⟨x, H1, I1, r1, q1⟩ => ?_) hs hw
 rw [h1]
 exact thn (hg pins s1 σ H1 x v _ I1 r1 q1) fun _ s2 q => q
theorem BI9 {te : TE} {pos' : Pos} (hN : X.N.Nodup) (hi : X.N[i]? = some x) (hx : Loc X.env.scope x) (he : PE X e te) (hs : CT9 e (some (.Name x pos')) pos.line X.env = pure false := by rfl) (hf : X.fn x = true ∨ X.env.scope.names.lookup x = some .local := by first | exact .inl rfl | exact .inr rfl | assumption) :
  PS X (.Assign [.Name x pos'] e pos) (BY5 te (BB0 i)) := by
 intro pins s σ H D I h
 refine wpAny_Assign_Name (thn (he pins s σ H _ I h) fun v s1 ⟨y, H1, I1, r1, q1⟩ => ?_) hs
 exact FZ I1 hN hi hx r1 (fun s2 I2 => ⟨_, H1, I2, q1⟩) hf
end
section
variable {X : Cx} {pos : Pos}
end
structure It where
 go : Nat → Hp → Prop
 yld : Nat → Hp → V → Hp → Prop
 stop : Nat → Hp → Prop
def KY (X : Cx) (pins : List (Addr × Obj)) (H : Hp) (b : Addr) : Prop :=
 H b = none ∧ b ≠ X.env.locals ∧ b ∉ X.fs ∧ (b ∈ X.ex ∨ X.s₀.heap.objs.size ≤ b) ∧ (∀ x c, X.env.cells.lookup x = some c → c ≠ b) ∧ ∀ p ∈ X.pn ++ pins, p.1 ≠ b
theorem Inv.fpOk {X : Cx} {σ : St} {H H' : Hp} (I : Inv X pins σ H s) (hb : s.heap.objs.size ≤ b) (hn : H' b = none) : KY X pins H' b := by
 refine ⟨hn, CR6 (CH4 I.lt hb), I.nofs hb, .inr (CI6 I.sz hb), fun x c e z => ?_, fun p hp z => ?_⟩
 ·obtain ⟨v, q⟩ := I.cell x c e
  exact absurd (CH4 q.lt (by rw [z]; exact hb)) (CK7 _)
 ·exact absurd (CH4 (CE2 (I.pin p hp).1) (by rw [z]; exact hb)) (CK7 _)
structure Turn (P : CI2) (w : World) (K : CE0) (tg : Expr) (J : It) (fp : List Addr) (it : Addr) (tn : Nat → Heap → Prop) : Prop where
 mem : it ∈ fp
 obj : ∀ i h, tn i h → ∀ b ∈ fp, ∃ o, h.get? b = some o ∧ ∀ v, o.data ≠ .cell v
 keep : ∀ i h h', tn i h → (∀ b ∈ fp, ∀ o, h.get? b = some o → h'.get? b = some o) → tn i h'
 item : ∀ (X : Cx), X.prog = P → X.w = w → X.K = K → X.calm = true → ∀ (i : Nat) (pins : List (Addr × Obj)) (s : CD9) (σ : St) (H : Hp) (E : Value → CD9 → Prop), Inv X pins σ H s → (∀ b ∈ fp, KY X pins H b) → tn i s.heap → J.go i H →
  wpAny (model P w) X.A (CW8 (.ref it)) (fun r s1 => ∃ u, r = some u ∧
   wpAny (model P w) X.A (CS9 tg (.ref it) u) (fun _ s2 => ∃ x H', Inv X pins σ H' s2 ∧ RelV x u ∧ J.yld i H x H' ∧ tn (i + 1) s2.heap ∧ ∀ b ∈ fp, H' b = none) E s1) E s
 done : ∀ (X : Cx), X.prog = P → X.w = w → X.K = K → X.calm = true → ∀ (i : Nat) (pins : List (Addr × Obj)) (s : CD9) (σ : St) (H : Hp) (E : Value → CD9 → Prop), Inv X pins σ H s → (∀ b ∈ fp, KY X pins H b) → tn i s.heap → J.stop i H →
  wpAny (model P w) X.A (CW8 (.ref it)) (fun r s1 => r = none ∧ Inv X pins σ H s1) E s
 self : ∀ (A : CL2) (i : Nat) (s : CD9) (Q : Value → CD9 → Prop) (E : Value → CD9 → Prop), tn i s.heap → Q (.ref it) s → wpAny (model P w) A (pyIter (.ref it)) Q E s
abbrev TI := St → Hp → (It → Hp → Prop) → Prop
def PIE (X : Cx) (pins : List (Addr × Obj)) (σ : St) (tg : Expr) (R : It → Hp → Prop) (itv : Value) (s2 : CD9) : Prop :=
 ∃ (it : Addr) (fp : List Addr) (tn : Nat → Heap → Prop) (J : It) (H' : Hp), itv = .ref it ∧ Inv X pins σ H' s2 ∧ Turn X.prog X.w X.K tg J fp it tn ∧ tn 0 s2.heap ∧ (∀ b ∈ fp, KY X pins H' b) ∧ R J H'
def PI (X : Cx) (tg iter : Expr) (wi : TI) : Prop :=
 ∀ (pins : List (Addr × Obj)) (s : CD9) (σ : St) (H : Hp) (R : It → Hp → Prop), Inv X pins σ H s → wi σ H R →
  wpAny (model X.prog X.w) X.A (eval iter X.env) (fun v s1 => wpAny (model X.prog X.w) X.A (pyIter v) (PIE X pins σ tg R) X.xe s1) X.xe s
theorem XI {M : Model} {it : Addr} {n : String} {vs : Array Value} {Q : Unit → CD9 → Prop} (ho : s.heap.get? it = some o) (hc : o.cls = .type n) (hd : o.data = .fields vs)
  (hn : ["enumerate", "zip", "dict_itemiterator", "dict_reverseitemiterator", "odict_iterator", "itertools.zip_longest", "itertools.pairwise"].contains n = false) (hQ : Q () s) : wpAny M A (CS9 tg (.ref it) u) Q E s := by
 unfold CS9
 cases tg <;> first
  | exact CD6 hQ
  | (cases u <;> first
    | exact CD6 hQ
    | (refine CD4 (wpAny_load ho ?_)
       rw [hc, hd]
       show wpAny M A (if (["enumerate", "zip", "dict_itemiterator", "dict_reverseitemiterator", "odict_iterator", "itertools.zip_longest", "itertools.pairwise"].contains n && vs[0]? == some (CU0 _)) = true then _ else _) Q E s
       rw [if_neg (by intro h; rw [hn, Bool.false_and] at h; cases h)]
       exact CD6 hQ))
def Itl (K : CE0) (a : Addr) : It :=
 ⟨fun i H => ∃ xs x, SqL K H a xs ∧ xs[i]? = some x, fun i H x H' => H' = H ∧ ∀ xs, SqL K H a xs → xs[i]? = some x, fun i H => ∃ xs, SqL K H a xs ∧ xs.length ≤ i⟩
def Itt (K : CE0) (a : Addr) : It :=
 ⟨fun i H => ∃ xs x, SqT K H a xs ∧ xs[i]? = some x, fun i H x H' => H' = H ∧ ∀ xs, SqT K H a xs → xs[i]? = some x, fun i H => ∃ xs, SqT K H a xs ∧ xs.length ≤ i⟩
def Itr (lo : Int) (n : Nat) : It := ⟨fun i _ => i < n, fun i H x H' => H' = H ∧ x = .int (lo + i), fun i _ => n ≤ i⟩
theorem AC6 (a it : Addr) : Turn P w K tg (Itl K a) [it] it (fun i h => h.IsListIter it a i) where
 mem := by simp
 obj := fun i h st b hb => by
  have e : b = it := by simpa using hb
  subst e
  obtain ⟨o, e, c, d⟩ := st
  exact ⟨o, e, fun v z => by rw [d] at z; cases z⟩
 keep := fun i h h' st k => st.at fun o e => k it (by simp) o e
 item := by
  intro X hP hw hK hc i pins s σ H E I hf st hg
  subst hP hw hK
  obtain ⟨xs, x, hq, hx⟩ := hg
  obtain ⟨its, rv, p, hz⟩ := I.list hq
  obtain ⟨u, hu, ru⟩ := rv.get hx
  obtain ⟨f0, f1, f2, f3, f4, f5⟩ := hf it (by simp)
  refine wpAny_pyNext_list_item st p.isList (x := u) (by simpa using hu) fun h' st' sb => ?_
  have I1 : Inv X pins σ H { s with heap := h' } := I.turned (t' := s.toks) (fun b o hb e => (sb.2 b hb).trans e) f0 f1 f3 f4 f5
  obtain ⟨o, e, c, d⟩ := id st'
  exact ⟨u, rfl, XI (s := { s with heap := h' }) e c d (by decide) ⟨x, H, I1, ru, ⟨rfl, fun ys hy => by rw [I.list_inj hy hq]; exact hx⟩, st', fun b hb => (hf b hb).1⟩⟩
 done := by
  intro X hP hw hK hc i pins s σ H E I hf st hg
  subst hP hw hK
  obtain ⟨xs, hq, hx⟩ := hg
  obtain ⟨its, rv, p, hz⟩ := I.list hq
  obtain ⟨f0, f1, f2, f3, f4, f5⟩ := hf it (by simp)
  have hl := rv.length
  exact wpAny_pyNext_list_end (I.ok.hd hc) st p.isList (by simp; lia) fun h' eb => ⟨rfl, I.turned (t' := s.toks) (fun b o hb e => eb b o hb e) f0 f1 f3 f4 f5⟩
 self := fun _ _ _ _ _ st h => wpAny_pyIter_listiter st h
theorem WN (a it : Addr) : Turn P w K tg (Itt K a) [it] it (fun i h => h.IsTupleIter it a i) where
 mem := by simp
 obj := fun i h st b hb => by
  have e : b = it := by simpa using hb
  subst e
  obtain ⟨o, e, c, d⟩ := st
  exact ⟨o, e, fun v z => by rw [d] at z; cases z⟩
 keep := fun i h h' st k => st.at fun o e => k it (by simp) o e
 item := by
  intro X hP hw hK hc i pins s σ H E I hf st hg
  subst hP hw hK
  obtain ⟨xs, x, hq, hx⟩ := hg
  obtain ⟨its, rv, p, hz⟩ := I.tuple hq
  obtain ⟨u, hu, ru⟩ := rv.get hx
  obtain ⟨f0, f1, f2, f3, f4, f5⟩ := hf it (by simp)
  refine wpAny_pyNext_tuple_item st (show s.heap.IsTuple a its.toArray from p) (x := u) (by simpa using hu) fun h' st' sb => ?_
  have I1 : Inv X pins σ H { s with heap := h' } := I.turned (t' := s.toks) (fun b o hb e => (sb.2 b hb).trans e) f0 f1 f3 f4 f5
  obtain ⟨o, e, c, d⟩ := id st'
  exact ⟨u, rfl, XI (s := { s with heap := h' }) e c d (by decide) ⟨x, H, I1, ru, ⟨rfl, fun ys hy => by rw [I.tuple_inj hy hq]; exact hx⟩, st', fun b hb => (hf b hb).1⟩⟩
 done := by
  intro X hP hw hK hc i pins s σ H E I hf st hg
  subst hP hw hK
  obtain ⟨xs, hq, hx⟩ := hg
  obtain ⟨its, rv, p, hz⟩ := I.tuple hq
  obtain ⟨f0, f1, f2, f3, f4, f5⟩ := hf it (by simp)
  have hl := rv.length
  exact wpAny_pyNext_tuple_end (I.ok.hd hc) st (show s.heap.IsTuple a its.toArray from p) (by simp; lia) fun h' eb => ⟨rfl, I.turned (t' := s.toks) (fun b o hb e => eb b o hb e) f0 f1 f3 f4 f5⟩
 self := fun _ _ _ _ _ st h => wpAny_pyIter_tupleiter st h
theorem WM (it : Addr) (lo : Int) (n : Nat) : Turn P w K tg (Itr lo n) [it] it (fun i h => IsRangeIter h it (lo + (i : Nat) * 1) ((n : Int) - (i : Nat)) 1) where
 mem := by simp
 obj := fun i h st b hb => by
  have e : b = it := by simpa using hb
  subst e
  exact ⟨_, st, fun v z => by
   have z' : Data.fields _ = Data.cell v := z
   cases z'⟩
 keep := fun i h h' st k => k it (by simp) _ st
 item := by
  intro X hP hw hK hc i pins s σ H E I hf st hg
  subst hP hw hK
  obtain ⟨f0, f1, f2, f3, f4, f5⟩ := hf it (by simp)
  have W := Walks.range (prog := X.prog) (w := X.w) (I.ok.hd hc) it lo 1 n
  refine W.item i s _ _ hg st fun v h' tk hv st' kk => ?_
  obtain ⟨t, rfl⟩ := hv
  have I1 : Inv X pins σ H { s with heap := h', toks := tk } := I.turned (fun b o hb e => kk b o (by simpa using hb) e) f0 f1 f3 f4 f5
  refine ⟨_, rfl, XI (s := { s with heap := h', toks := tk }) (n := "range_iterator") st' rfl rfl (by decide) ⟨.int (lo + i), H, I1, ⟨t, ?_⟩, ⟨rfl, rfl⟩, st', fun b hb => (hf b hb).1⟩⟩
  rw [Int.mul_one]
 done := by
  intro X hP hw hK hc i pins s σ H E I hf st hg
  subst hP hw hK
  obtain ⟨f0, f1, f2, f3, f4, f5⟩ := hf it (by simp)
  exact wpAny_pyNext_range_end (I.ok.hd hc) st (by have : n ≤ i := hg; lia) fun h' eb => ⟨rfl, I.turned (t' := s.toks) (fun b o hb e => eb b o hb e) f0 f1 f3 f4 f5⟩
 self := fun _ _ _ _ _ st h => wpAny_pyIter_rangeiter st h
section
variable {X : Cx} {tg : Expr}
def BQ0 (K : CE0) (tl : TE) : TI := fun σ H R => tl σ H fun x H1 => ∃ a, x = .ref a ∧ (∃ xs, SqL K H1 a xs) ∧ R (Itl K a) H1
def CA6 (K : CE0) (tl : TE) : TI := fun σ H R => tl σ H fun x H1 => ∃ a, x = .ref a ∧ (∃ xs, SqT K H1 a xs) ∧ R (Itt K a) H1
theorem AX3 {l : Expr} {tl : TE} (hl : PE X l tl) : PI X tg l (BQ0 X.K tl) := by
 intro pins s σ H R I h
 refine thn (hl pins s σ H _ I h) fun v s1 ⟨x, H1, I1, r1, q1⟩ => ?_
 obtain ⟨a, e, ⟨xs, hq⟩, q⟩ := q1
 subst e
 cases r1
 obtain ⟨its, rv, p, hz⟩ := I1.list hq
 refine CX7 p.isList ?_
 refine ⟨s1.heap.objs.size, [s1.heap.objs.size], _, _, H1, rfl, I1.kept (t' := s1.toks) fun b o e => CD5 _ e, AC6 a _, ⟨_, CE4 _ rfl, rfl, rfl⟩, fun b hb => ?_, q⟩
 have e : b = s1.heap.objs.size := by simpa using hb
 subst e
 exact I1.fpOk (CE9 _) (I1.hok.fresh (CE9 _))
theorem BI6 {l : Expr} {tl : TE} (hl : PE X l tl) : PI X tg l (CA6 X.K tl) := by
 intro pins s σ H R I h
 refine thn (hl pins s σ H _ I h) fun v s1 ⟨x, H1, I1, r1, q1⟩ => ?_
 obtain ⟨a, e, ⟨xs, hq⟩, q⟩ := q1
 subst e
 cases r1
 obtain ⟨its, rv, p, hz⟩ := I1.tuple hq
 refine CW7 (show s1.heap.IsTuple a its.toArray from p) ?_
 refine ⟨s1.heap.objs.size, [s1.heap.objs.size], _, _, H1, rfl, I1.kept (t' := s1.toks) fun b o e => CD5 _ e, WN a _, ⟨_, CE4 _ rfl, rfl, rfl⟩, fun b hb => ?_, q⟩
 have e : b = s1.heap.objs.size := by simpa using hb
 subst e
 exact I1.fpOk (CE9 _) (I1.hok.fresh (CE9 _))
theorem AN8 {σ : St} {H : Hp} {R : It → Hp → Prop} {lo hi : Int} {t u v : Tok} {tk : Nat} (I : Inv X pins σ H s) (h1 : -(2 ^ 62) ≤ lo) (h2 : lo < 2 ^ 62) (h3 : -(2 ^ 62) ≤ hi) (h4 : hi < 2 ^ 62)
  (q : R (Itr lo (hi - lo).toNat) H) : wpAny (model X.prog X.w) X.A (pyIter (.ref s.heap.objs.size)) (PIE X pins σ tg R) E { s with heap := s.heap.push { cls := .type "range", data := .fields #[.int lo t, .int hi u, .int 1 v] }, toks := tk } := by
 refine wpAny_pyIter_range (IsRange.new ..) (small_one h1 h2 h3 h4) ?_
 have I1 : Inv X pins σ H { s with heap := s.heap.push { cls := .type "range", data := .fields #[.int lo t, .int hi u, .int 1 v] }, toks := tk } := I.kept fun b o e => CD5 _ e
 refine ⟨(s.heap.push { cls := .type "range", data := .fields #[.int lo t, .int hi u, .int 1 v] }).objs.size, [(s.heap.push { cls := .type "range", data := .fields #[.int lo t, .int hi u, .int 1 v] }).objs.size], _, _, H, rfl,
  I1.kept (t' := tk) fun b o e => CD5 _ e, WM _ lo (hi - lo).toNat, ?_, fun b hb => ?_, q⟩
 ·have e1 : lo + ((0 : Nat) : Int) * 1 = lo := by simp
  have e2 : (((hi - lo).toNat : Nat) : Int) - ((0 : Nat) : Int) = Builtin.Range.rangeSize lo hi 1 := by rw [rangeSize_one]; split <;> lia
  show IsRangeIter _ _ (lo + ((0 : Nat) : Int) * 1) ((((hi - lo).toNat : Nat) : Int) - ((0 : Nat) : Int)) 1
  rw [e1, e2]
  exact CE4 _ rfl
 ·have e : b = (s.heap.push { cls := .type "range", data := .fields #[.int lo t, .int hi u, .int 1 v] }).objs.size := by simpa using hb
  subst e
  exact I1.fpOk (CE9 _) (I1.hok.fresh (CE9 _))
def BQ1 (ta : TA) : TI := fun σ H R => ta σ H fun vs H1 => ∃ j : Int, vs = [.int j] ∧ -(2 ^ 62) ≤ j ∧ j < 2 ^ 62 ∧ R (Itr 0 j.toNat) H1
theorem AB1 {a : Expr} {ta : TA} {p : Pos} (hg : Gl X "range") (hm : X.mg "range" = none) (ha : PA X [a] ta) (hs : CH7 [a] X.env = [(false, eval a X.env)] := by rfl) : PI X tg (.Call (.Name "range" p) [a] [] pos) (BQ1 ta) := by
 intro pins s σ H R I h
 refine Call_ (AY I hg hm boot_range (CO2 (thn (ha pos pins s σ H _ I h) fun us s1 ⟨vs, H1, I1, r1, q1⟩ => ?_) hs rfl))
 obtain ⟨j, e, q1, q2, q⟩ := q1
 subst e
 cases r1 with
 | cons r rr =>
  cases rr
  obtain ⟨t, rfl⟩ := r
  exact call_range_1 (AN8 I1 (by lia) (by lia) q1 q2 (by simpa using q))
def CD0 (wi : TI) (g : TG) (tb : TS) : TS := fun D σ H => wi σ H fun J H1 => ∃ W : Nat → Nat → St → Hp → Prop, (∃ m, W 0 m σ H1) ∧ ∀ i m σ H, W i m σ H →
 (J.stop i H ∧ D.nx σ H) ∨ (J.go i H ∧ ∃ N : St → Hp → Prop, (∀ σ' H', N σ' H' → ∃ m', m' < m ∧ W (i + 1) m' σ' H') ∧ ∀ x H', J.yld i H x H' → g x σ H' fun σ2 H2 => tb { D with nx := N, ct := N, bk := D.nx } σ2 H2)
def GT (fp : List Addr) (h : Heap) : List (Addr × Obj) := fp.filterMap fun b => (h.get? b).map fun o => (b, o)
theorem L9 (hb : b ∈ fp) (e : h.get? b = some o) : (b, o) ∈ GT fp h := List.mem_filterMap.mpr ⟨b, hb, by rw [e]; rfl⟩
theorem ZW {p : Addr × Obj} (hp : p ∈ GT fp h) : p.1 ∈ fp ∧ h.get? p.1 = some p.2 := by
 obtain ⟨b, hb, e⟩ := List.mem_filterMap.mp hp
 cases q : h.get? b with
 | none => rw [q] at e; cases e
 | some o =>
  rw [q] at e
  have e' : (b, o) = p := Option.some.inj e
  subst e'
  exact ⟨hb, q⟩
theorem Inv.pinned {σ : St} {H : Hp} (I : Inv X pins σ H s) (hf : ∀ b ∈ fp, KY X pins H b) (ho : ∀ b ∈ fp, ∃ o, s.heap.get? b = some o ∧ ∀ v, o.data ≠ .cell v) : Inv X (pins ++ GT fp s.heap) σ H s :=
 I.pins_of fun p hp => (CJ1.mp hp).elim (fun z => I.pin p (CF0 _ z)) fun z => by
  obtain ⟨hb, e⟩ := ZW z
  obtain ⟨f0, f1, f2, _⟩ := hf p.1 hb
  obtain ⟨o, e', d⟩ := ho p.1 hb
  rw [e] at e'; cases e'
  exact ⟨e, f0, f1, f2, d⟩
theorem Inv.unpinned {pl : List (Addr × Obj)} {σ : St} {H : Hp} (I : Inv X (pins ++ pl) σ H s) : Inv X pins σ H s := I.pins_of fun p hp => I.pin p (CF0 _ (CK8 _ hp))
theorem BI8 {wi : TI} {g : TG} {tb : TS} (hp : PassesOwn (model X.prog X.w) X.A X.env X.xe) (hc : X.calm = true) (hi : PI X tg iter wi) (hg : PG X tg g) (hb : PSs X body tb)
  (hs : ∀ x, CG6 iter X.env x = pure x := by intro _; rfl) : PS X (.For tg iter body [] pos) (CD0 wi g tb) := by
 intro pins s σ H D I h
 refine wpAny_For (thn (hi pins s σ H _ I h) fun v s1 h1 => thn h1 fun itv s2 h2 => ?_) hs
 obtain ⟨it, fp, tn, J, H2, e, I2, T, st2, f2, W, ⟨m0, w0⟩, turn⟩ := h2
 subst e
 have stat : ∀ {H' : Hp}, (∀ b ∈ fp, H' b = none) → ∀ b ∈ fp, KY X pins H' b := fun hn b hb => ⟨hn b hb, (f2 b hb).2⟩
 refine codeAny_forLoop_any (fun n s' => ∃ i σ' H', Inv X pins σ' H' s' ∧ tn i s'.heap ∧ (∀ b ∈ fp, H' b = none) ∧ W i n σ' H') ?_ m0 ⟨0, σ, H2, I2, st2, fun b hb => (f2 b hb).1, w0⟩
 rintro n s3 ⟨i, σ3, H3, I3, st3, fr3, w3⟩
 rcases turn i n σ3 H3 w3 with ⟨stop, qn⟩ | ⟨go, N, hN, step⟩
 ·refine CV1 hp (thn (T.done X rfl rfl rfl hc i pins s3 σ3 H3 X.xe I3 (stat fr3) st3 stop) fun r s4 ⟨hr, I4⟩ => ?_)
  subst hr
  exact wpAny_execs_nil ⟨σ3, H3, I4, qn⟩
 ·refine CV1 hp (thn (T.item X rfl rfl rfl hc i pins s3 σ3 H3 X.xe I3 (stat fr3) st3 go) fun r s4 ⟨u, hr, h4⟩ => ?_)
  subst hr
  refine CV1 hp (thn h4 fun _ s5 ⟨x, H5, I5, r5, y5, st5, fr5⟩ => ?_)
  have I5' := I5.pinned (stat fr5) (T.obj _ _ st5)
  refine CV1 hp (thn (hg _ s5 σ3 H5 x u _ I5' r5 (step x H5 y5)) fun _ s6 ⟨σ6, H6, I6, q6⟩ => ?_)
  refine CV1 hp (thn (hb _ s6 σ6 H6 _ I6 q6) fun f s7 q7 => ?_)
  have again : ∀ {σ7 : St} {H7 : Hp}, Inv X (pins ++ GT fp s5.heap) σ7 H7 s7 → N σ7 H7 → ∃ m, m < n ∧ ∃ i σ' H', Inv X pins σ' H' s7 ∧ tn i s7.heap ∧ (∀ b ∈ fp, H' b = none) ∧ W i m σ' H' := fun {σ7 H7} I7 n7 => by
   obtain ⟨m', hm, w7⟩ := hN σ7 H7 n7
   refine ⟨m', hm, i + 1, σ7, H7, I7.unpinned, T.keep _ _ _ st5 fun b hb o e => (I7.pin (b, o) (CF0 _ (CF0 _ (L9 hb e)))).1, fun b hb => ?_, w7⟩
   obtain ⟨o, e, d⟩ := T.obj _ _ st5 b hb
   exact (I7.pin (b, o) (CF0 _ (CF0 _ (L9 hb e)))).2.1
  cases f with
  | next => obtain ⟨σ7, H7, I7, n7⟩ := q7; exact again I7 n7
  | cont => obtain ⟨σ7, H7, I7, n7⟩ := q7; exact again I7 n7
  | brk => obtain ⟨σ7, H7, I7, q7⟩ := q7; exact ⟨σ7, H7, I7.unpinned, q7⟩
  | ret v => obtain ⟨x7, σ7, H7, I7, r7, q7⟩ := q7; exact ⟨x7, σ7, H7, I7.unpinned, r7, q7⟩
end
abbrev R2 := V → V → Hp → VK → Prop
def OpR (X : Cx) (f : Value → Value → Sem Value) (r : R2) : Prop :=
 ∀ (pins : List (Addr × Obj)) (s : CD9) (σ : St) (H : Hp) (x y : V) (v u : Value) (Q : VK), Inv X pins σ H s → RelV x v → RelV y u → r x y H Q →
  wpAny (model X.prog X.w) X.A (f v u) (EP X pins σ Q) X.xe s
def UnR (X : Cx) (f : Value → Sem Value) (r : V → Hp → VK → Prop) : Prop :=
 ∀ (pins : List (Addr × Obj)) (s : CD9) (σ : St) (H : Hp) (x : V) (v : Value) (Q : VK), Inv X pins σ H s → RelV x v → r x H Q →
  wpAny (model X.prog X.w) X.A (f v) (EP X pins σ Q) X.xe s
def CallR (X : Cx) (f : Value) (r : List V → Hp → VK → Prop) : Prop :=
 ∀ (pins : List (Addr × Obj)) (s : CD9) (σ : St) (H : Hp) (xs : List V) (us : List Value) (Q : VK), Inv X pins σ H s → Vals xs us → r xs H Q →
  wpAny (model X.prog X.w) X.A (call f us) (EP X pins σ Q) X.xe s
def rI (C : Int → Int → Prop) (g : Int → Int → V) : R2 := fun x y H Q => ∃ i j, x = .int i ∧ y = .int j ∧ C i j ∧ Q (g i j) H
def rI0 (g : Int → Int → V) : R2 := fun x y H Q => ∃ i j, x = .int i ∧ y = .int j ∧ Q (g i j) H
def rU (g : Int → V) : V → Hp → VK → Prop := fun x H Q => ∃ i, x = .int i ∧ Q (g i) H
section
variable {X : Cx} {a b c : Expr} {ta tb tc : TE} {pos : Pos}
theorem opI {C : Int → Int → Prop} {g : Int → Int → Int}
  (rule : ∀ (i j : Int) (t u : Tok) (s : CD9) (Q : Value → CD9 → Prop) (E : Value → CD9 → Prop), C i j → Q (.int (g i j) s.toks) { s with toks := s.toks + 1 } → wpAny (model X.prog X.w) X.A (f (.int i t) (.int j u)) Q E s) :
  OpR X f (rI C fun i j => .int (g i j)) := by
 intro pins s σ H x y v u Q I rx ry h
 obtain ⟨i, j, rfl, rfl, hc, q⟩ := h
 obtain ⟨t, rfl⟩ := rx
 obtain ⟨t', rfl⟩ := ry
 exact rule i j t t' s _ _ hc ⟨.int (g i j), H, I.tok _, ⟨_, rfl⟩, q⟩
theorem BU3 {g : Int → Int → Int}
  (rule : ∀ (i j : Int) (t u : Tok) (s : CD9) (Q : Value → CD9 → Prop) (E : Value → CD9 → Prop), Q (.int (g i j) s.toks) { s with toks := s.toks + 1 } → wpAny (model X.prog X.w) X.A (f (.int i t) (.int j u)) Q E s) :
  OpR X f (rI0 fun i j => .int (g i j)) := by
 intro pins s σ H x y v u Q I rx ry h
 obtain ⟨i, j, rfl, rfl, q⟩ := h
 obtain ⟨t, rfl⟩ := rx
 obtain ⟨t', rfl⟩ := ry
 exact rule i j t t' s _ _ ⟨.int (g i j), H, I.tok _, ⟨_, rfl⟩, q⟩
theorem AU2 {g : Int → Int → Bool}
  (rule : ∀ (i j : Int) (t u : Tok) (s : CD9) (Q : Value → CD9 → Prop) (E : Value → CD9 → Prop), Q (.bool (g i j)) s → wpAny (model X.prog X.w) X.A (f (.int i t) (.int j u)) Q E s) :
  OpR X f (rI0 fun i j => .bl (g i j)) := by
 intro pins s σ H x y v u Q I rx ry h
 obtain ⟨i, j, rfl, rfl, q⟩ := h
 obtain ⟨t, rfl⟩ := rx
 obtain ⟨t', rfl⟩ := ry
 exact rule i j t t' s _ _ ⟨.bl (g i j), H, I, rfl, q⟩
def AD2 (i j : Int) : Prop := 0 ≤ j ∧ j ≤ 1000000 ∧ i.natAbs < 2 ^ 64
def CMul (i j : Int) : Prop := (-(2 ^ 64) < i ∧ i < 2 ^ 64) ∨ (-(2 ^ 64) < j ∧ j < 2 ^ 64)
theorem CMul.ok {i j : Int} (h : CMul i j) : IntMulOk i j := by
 rcases h with ⟨h1, h2⟩ | ⟨h1, h2⟩
 ·exact .of_left (intBits_le_64 h1 h2)
 ·exact .of_right (intBits_le_64 h1 h2)
theorem BG5 : OpR X (CO9 .Add) (rI0 fun i j => .int (i + j)) := BU3 fun _ _ _ _ _ _ _ q => add_int q
theorem BG9 : OpR X (CO9 .Sub) (rI0 fun i j => .int (i - j)) := BU3 fun _ _ _ _ _ _ _ q => sub_int q
theorem BG7 : OpR X (CO9 .Mod) (rI (fun _ j => 0 < j) fun i j => .int (i % j)) := opI fun i j _ _ _ _ _ hc q => by
 have h1 : (0 : Int) < j := hc
 exact mod_int' (by lia) (by rw [Int.fmod_eq_emod_of_nonneg i (by lia)]; exact q)
theorem BG8 : OpR X (CO9 .Pow) (rI AD2 fun i j => .int (i ^ j.toNat)) := opI fun _ _ _ _ _ _ _ hc q => pow_int_small hc.1 hc.2.1 hc.2.2 q
theorem unI {f : Value → Sem Value} {g : Int → Int}
  (rule : ∀ (i : Int) (t : Tok) (s : CD9) (Q : Value → CD9 → Prop) (E : Value → CD9 → Prop), Q (.int (g i) s.toks) { s with toks := s.toks + 1 } → wpAny (model X.prog X.w) X.A (f (.int i t)) Q E s) :
  UnR X f (rU fun i => .int (g i)) := by
 intro pins s σ H x v Q I rx h
 obtain ⟨i, rfl, q⟩ := h
 obtain ⟨t, rfl⟩ := rx
 exact rule i t s _ _ ⟨.int (g i), H, I.tok _, ⟨_, rfl⟩, q⟩
theorem BO4 : UnR X (unaryOp .USub) (rU fun i => .int (-i)) := unI fun _ _ _ _ _ q => neg_int q
end
def BY3 : V → V → Bool
 | .non, .non => true | .non, .int _ => true | .int _, .non => true | .non, .bl _ => true | .bl _, .non => true | .non, .str _ => true | .str _, .non => true
 | .int _, .int _ => true | .bl _, .bl _ => true | .str _, .str _ => true | .byt _, .byt _ => true
 | .int _, .str _ => true | .str _, .int _ => true | .bl _, .str _ => true | .str _, .bl _ => true
 | _, _ => false
def rEq : R2 := fun x y H Q => BY3 x y = true ∧ Q (.bl (decide (x = y))) H
def rNe : R2 := fun x y H Q => BY3 x y = true ∧ Q (.bl (!decide (x = y))) H
theorem WZ {i j : Int} : decide (V.int i = V.int j) = (i == j) := by
 rw [CN7]
 simp
theorem AF4 {i j : Bool} : decide (V.bl i = V.bl j) = (i == j) := by
 rw [CN7]
 simp
theorem IA {i j : Str} : decide (V.str i = V.str j) = (i == j) := by
 rw [CN7]
 simp
theorem WY {i j : Array UInt8} : decide (V.byt i = V.byt j) = (i.toList == j.toList) := by
 rw [CN7]
 cases i
 cases j
 simp
section
variable {X : Cx} {a b c : Expr} {ta tb tc : TE} {pos : Pos}
theorem D6 {σ : St} {H : Hp} {Q : VK} {k k' : Bool} (I : Inv X pins σ H s) (q : Q (.bl k) H) (e : k = k') : EP X pins σ Q (.bool k') s := by
 subst e
 exact ⟨.bl k, H, I, rfl, q⟩
theorem BU4 : OpR X (CJ5 .Eq) rEq := by
 intro pins s σ H x y v u Q I rx ry h
 obtain ⟨hs, q⟩ := h
 cases x with
 | non =>
  cases rx
  cases y with
  | non => cases ry; exact PySem.EqNone.eq_none_none (D6 I q (by simp))
  | bl j => cases ry; exact PySem.EqNone.eq_none_bool (D6 I q (by simp))
  | int j => obtain ⟨t', rfl⟩ := ry; exact PySem.EqNone.eq_none_int (D6 I q (by simp))
  | str j => obtain ⟨t', rfl⟩ := ry; exact PySem.EqNone.eq_none_str (D6 I q (by simp))
  | _ => exact absurd (show false = true from hs) CE3
 | bl i =>
  cases rx
  cases y with
  | non => cases ry; exact PySem.EqNone.eq_bool_none (D6 I q (by simp))
  | bl j => cases ry; exact eq_bool (D6 I q AF4)
  | str j => obtain ⟨t', rfl⟩ := ry; exact PySem.EqMixed.eq_bool_str (D6 I q (by simp))
  | _ => exact absurd (show false = true from hs) CE3
 | int i =>
  obtain ⟨t, rfl⟩ := rx
  cases y with
  | non => cases ry; exact PySem.EqNone.eq_int_none (D6 I q (by simp))
  | int j => obtain ⟨t', rfl⟩ := ry; exact eq_int (D6 I q WZ)
  | str j => obtain ⟨t', rfl⟩ := ry; exact PySem.EqMixed.eq_int_str (D6 I q (by simp))
  | _ => exact absurd (show false = true from hs) CE3
 | str i =>
  obtain ⟨t, rfl⟩ := rx
  cases y with
  | non => cases ry; exact PySem.EqNone.eq_str_none (D6 I q (by simp))
  | bl j => cases ry; exact PySem.EqMixed.eq_str_bool (D6 I q (by simp))
  | int j => obtain ⟨t', rfl⟩ := ry; exact PySem.EqMixed.eq_str_int (D6 I q (by simp))
  | str j => obtain ⟨t', rfl⟩ := ry; exact eq_str (D6 I q IA)
  | _ => exact absurd (show false = true from hs) CE3
 | byt i =>
  obtain ⟨t, rfl⟩ := rx
  cases y with
  | byt j => obtain ⟨t', rfl⟩ := ry; exact PySem.W.eq_bytes (D6 I q WY)
  | _ => exact absurd (show false = true from hs) CE3
 | _ => cases y <;> exact absurd (show false = true from hs) CE3
theorem BU9 : OpR X (CJ5 .NotEq) rNe := by
 intro pins s σ H x y v u Q I rx ry h
 obtain ⟨hs, q⟩ := h
 cases x with
 | non =>
  cases rx
  cases y with
  | non => cases ry; exact PySem.EqNone.ne_none_none (D6 I q (by simp))
  | bl j => cases ry; exact PySem.EqNone.ne_none_bool (D6 I q (by simp))
  | int j => obtain ⟨t', rfl⟩ := ry; exact PySem.EqNone.ne_none_int (D6 I q (by simp))
  | str j => obtain ⟨t', rfl⟩ := ry; exact PySem.EqNone.ne_none_str (D6 I q (by simp))
  | _ => exact absurd (show false = true from hs) CE3
 | bl i =>
  cases rx
  cases y with
  | non => cases ry; exact PySem.EqNone.ne_bool_none (D6 I q (by simp))
  | bl j => cases ry; exact ne_bool (D6 I q (congrArg not AF4))
  | str j => obtain ⟨t', rfl⟩ := ry; exact PySem.EqMixed.ne_bool_str (D6 I q (by simp))
  | _ => exact absurd (show false = true from hs) CE3
 | int i =>
  obtain ⟨t, rfl⟩ := rx
  cases y with
  | non => cases ry; exact PySem.EqNone.ne_int_none (D6 I q (by simp))
  | int j => obtain ⟨t', rfl⟩ := ry; exact ne_int (D6 I q (congrArg not WZ))
  | str j => obtain ⟨t', rfl⟩ := ry; exact PySem.EqMixed.ne_int_str (D6 I q (by simp))
  | _ => exact absurd (show false = true from hs) CE3
 | str i =>
  obtain ⟨t, rfl⟩ := rx
  cases y with
  | non => cases ry; exact PySem.EqNone.ne_str_none (D6 I q (by simp))
  | bl j => cases ry; exact PySem.EqMixed.ne_str_bool (D6 I q (by simp))
  | int j => obtain ⟨t', rfl⟩ := ry; exact PySem.EqMixed.ne_str_int (D6 I q (by simp))
  | str j => obtain ⟨t', rfl⟩ := ry; exact ne_str (D6 I q (congrArg not IA))
  | _ => exact absurd (show false = true from hs) CE3
 | byt i =>
  obtain ⟨t, rfl⟩ := rx
  cases y with
  | byt j => obtain ⟨t', rfl⟩ := ry; exact PySem.W.ne_bytes (D6 I q (congrArg not WY))
  | _ => exact absurd (show false = true from hs) CE3
 | _ => cases y <;> exact absurd (show false = true from hs) CE3
theorem BU8 : OpR X (CJ5 .Lt) (rI0 fun i j => .bl (decide (i < j))) := AU2 fun _ _ _ _ _ _ _ q => lt_int q
theorem BU7 : OpR X (CJ5 .LtE) (rI0 fun i j => .bl (decide (i ≤ j))) := AU2 fun _ _ _ _ _ _ _ q => le_int q
theorem BU6 : OpR X (CJ5 .Gt) (rI0 fun i j => .bl (decide (j < i))) := AU2 fun _ _ _ _ _ _ _ q => gt_int q
theorem BU5 : OpR X (CJ5 .GtE) (rI0 fun i j => .bl (decide (j ≤ i))) := AU2 fun _ _ _ _ _ _ _ q => ge_int q
theorem ZY : OpR X (CJ5 .In) (fun x y H Q => ∃ i j, x = .str i ∧ y = .str j ∧ Q (.bl (!(CU3 j i 0 j.length 1).isEmpty)) H) := by
 intro pins s σ H x y v u Q I rx ry h
 obtain ⟨i, j, rfl, rfl, q⟩ := h
 obtain ⟨t, rfl⟩ := rx
 obtain ⟨t', rfl⟩ := ry
 exact in_str (D6 I q rfl)
theorem BG6 : OpR X (CJ5 .Is) (fun x y H Q => y = .non ∧ Q (.bl (decide (x = .non))) H) := by
 intro pins s σ H x y v u Q I rx ry h
 obtain ⟨rfl, q⟩ := h
 cases ry
 refine is_none_gen (D6 I q ?_)
 cases x <;> first
  | (cases rx; rfl)
  | (obtain ⟨t, rfl⟩ := rx; rfl)
theorem OY : OpR X (CJ5 .NotIn) (fun x y H Q => ∃ i j, x = .str i ∧ y = .str j ∧ Q (.bl (!(!(CU3 j i 0 j.length 1).isEmpty))) H) := by
 intro pins s σ H x y v u Q I rx ry h
 obtain ⟨i, j, rfl, rfl, q⟩ := h
 obtain ⟨t, rfl⟩ := rx
 obtain ⟨t', rfl⟩ := ry
 exact notIn_str (D6 I q rfl)
theorem B6 (b : Expr) (h : op ≠ .In := by decide) (h2 : op ≠ .NotIn := by decide) : behindInMarks op b = false := by
 have e1 : (op == CmpOp.In) = false := by cases op <;> first | rfl | exact absurd rfl h
 have e2 : (op == CmpOp.NotIn) = false := by cases op <;> first | rfl | exact absurd rfl h2
 cases b <;> simp [behindInMarks, e1, e2]
theorem GP : (CE1 : Nat) < 2 ^ 63 := by rw [CF8]; decide
theorem UY : OpR X (CO9 .Add) (fun x y H Q => ∃ i j, x = .str i ∧ y = .str j ∧ i.length + j.length ≤ CE1 ∧ Q (.str (i ++ j)) H) := by
 intro pins s σ H x y v u Q I rx ry h
 obtain ⟨i, j, rfl, rfl, hz, q⟩ := h
 obtain ⟨t, rfl⟩ := rx
 obtain ⟨t', rfl⟩ := ry
 exact add_str (fun t' tk => ⟨.str (i ++ j), H, I.tok _, ⟨_, rfl⟩, q⟩) hz
theorem vals1 {x : V} (r : Vals [x] us) : ∃ u, us = [u] ∧ RelV x u := by
 cases r with
 | cons r1 r2 => cases r2; exact ⟨_, rfl, r1⟩
theorem vals2 {x y : V} (r : Vals [x, y] us) : ∃ u w', us = [u, w'] ∧ RelV x u ∧ RelV y w' := by
 cases r with
 | cons r1 r2 =>
  cases r2 with
  | cons r3 r4 => cases r4; exact ⟨_, _, rfl, r1, r3⟩
theorem AE1 : CallR X (.builtin "abs") (fun xs H Q => ∃ i, xs = [.int i] ∧ Q (.int (if i < 0 then -i else i)) H) := by
 intro pins s σ H xs us Q I r h
 obtain ⟨i, rfl, q⟩ := h
 obtain ⟨u, rfl, t, rfl⟩ := vals1 r
 exact call_abs_int fun u tk => ⟨.int (if i < 0 then -i else i), H, I.tok _, ⟨_, rfl⟩, q⟩
theorem YW (hc : X.calm = true) : CallR X (.builtin "min") (fun xs H Q => ∃ i j, xs = [.int i, .int j] ∧ Q (.int (if j < i then j else i)) H) := by
 intro pins s σ H xs us Q I r h
 obtain ⟨i, j, rfl, q⟩ := h
 obtain ⟨u, w', rfl, ⟨t, rfl⟩, ⟨t', rfl⟩⟩ := vals2 r
 refine min_two_ints (I.ok.hd hc) fun h' tk k => ⟨_, H, I.kept k, ?_, q⟩
 by_cases hj : j < i
 ·rw [if_pos hj, if_pos hj]; exact ⟨_, rfl⟩
 ·rw [if_neg hj, if_neg hj]; exact ⟨_, rfl⟩
theorem YV : CallR X (.type "int") (fun xs H Q => (∃ i, xs = [.int i] ∧ Q (.int i) H) ∨ ∃ k, xs = [.bl k] ∧ Q (.int (if k then 1 else 0)) H) := by
 intro pins s σ H xs us Q I r h
 rcases h with ⟨i, rfl, q⟩ | ⟨k, rfl, q⟩
 ·obtain ⟨u, rfl, t, rfl⟩ := vals1 r
  exact call_int_int ⟨.int i, H, I, ⟨_, rfl⟩, q⟩
 ·obtain ⟨u, rfl, r1⟩ := vals1 r
  cases r1
  exact call_int_bool ⟨.int (if k then 1 else 0), H, I.tok _, ⟨_, rfl⟩, q⟩
end
section
variable {prog : CI2} {w : World} {A : CL2} {E : Value → CD9 → Prop} {s : CD9} {K : CE0} {x dx C f : Addr} {mA : Str → Option Value} {name : Str} {v : Value}
end
theorem RelO.some_of {v : V} {o : Option Value} (r : RelO (some v) o) : ∃ u, o = some u ∧ RelV v u := by
 cases o with
 | none => exact (show False from r).elim
 | some u => exact ⟨u, rfl, r⟩
section
variable {P : CI2} {w : World} {H H' : Hp} {h h' : Heap} {a C dx : Addr} {fs fs' : List (Str × V)}
end
section
variable {X : Cx} {pins : List (Addr × Obj)} {σ : St} {H : Hp} {s : CD9} {a C dx : Addr} {fs : List (Str × V)} {f : Str} {v : V} {A : CL2} {E : Value → CD9 → Prop}
end
section
variable {X : Cx} {o e value : Expr} {f : Str} {pos pos' tpos : Pos} {ta tv : TE}
end
section
variable {X : Cx} {pins : List (Addr × Obj)} {σ : St} {H : Hp} {s : CD9} {A : CL2} {E : Value → CD9 → Prop} {Q : Value → CD9 → Prop} {c : Value} {b : Bool}
end
structure Room (k : Nat) (A : CL2) : Prop where
 hd : A.handled = none
 dp : A.depth + 3 * k + 5 < recursionLimit
 un : A.units + 16 * k + 200 < cLine
 gd : A.guards = some []
theorem Room.mono (r : Room k A) (h : j ≤ k) : Room j A := ⟨r.hd, by have := r.dp; lia, by have := r.un; lia, r.gd⟩
theorem Room.deeper (r : Room (k + 1) A) (env : Env) : Room k (A.deeper env) :=
 ⟨r.hd, by have := r.dp; show A.depth + 1 + 3 * k + 5 < _; lia, by have := r.un; show A.units + 3 + 16 * k + 200 < _; lia, r.gd⟩
theorem Room.depth (r : Room k A) : A.depth < recursionLimit := by have := r.dp; lia
theorem Room.units (r : Room k A) : A.units + 64 < cLine := by have := r.un; lia
section
variable {X : Cx} {e : Expr} {es : List Expr} {te : TE} {t : TA} {pos : Pos}
def CD2 (t : TA) : TE := fun σ H Q => t σ H fun xs H1 => xs.length ≤ CE1 ∧ ∀ p, H1 p = none → Q (.ref p) (upd H1 p (.tup xs))
def CD1 (t : TA) : TE := fun σ H Q => t σ H fun xs H1 => xs.length ≤ CE1 ∧ ∀ p, H1 p = none → Q (.ref p) (upd H1 p (.lst xs))
theorem BI1 {x1} (h : PA X es t) : PE X (.Tuple es x1 pos) (CD2 t) := by
 intro pins s σ H Q I hq
 refine wpAny_Tuple_spliced (thn (h pos pins s σ H _ I hq) fun us s1 ⟨xs, H1, I1, r, z, q⟩ => ⟨by rw [← r.length]; exact z, ?_⟩)
 have hf : H1 s1.heap.objs.size = none := I1.hok.fresh (CE9 _)
 refine ⟨.ref s1.heap.objs.size, upd H1 s1.heap.objs.size (.tup xs), I1.laid (t' := s1.toks) (fun b u e => CD5 _ e) (CE9 _) ?_, rfl, q _ hf⟩
 exact ⟨z, us, r, ⟨_, CE4 _ rfl, rfl, _, rfl⟩⟩
theorem AL5 (h : PA X es t) : PE X (.List es pos) (CD1 t) := by
 intro pins s σ H Q I hq
 refine wpAny_List_spliced (thn (h pos pins s σ H _ I hq) fun us s1 ⟨xs, H1, I1, r, z, q⟩ => ⟨by rw [← r.length]; exact z, ?_⟩)
 have hf : H1 s1.heap.objs.size = none := I1.hok.fresh (CE9 _)
 refine ⟨.ref s1.heap.objs.size, upd H1 s1.heap.objs.size (.lst xs), I1.laid (t' := s1.toks) (fun b u e => CD5 _ e) (CE9 _) ?_, rfl, q _ hf⟩
 exact ⟨z, us, 0, r, CE4 _ rfl⟩
end
abbrev Sp := List V → Hp → VK → XK → Prop
abbrev CXT := List Env → Hp → CD9 → XK → Value → CD9 → Prop
structure AQ6 (P : CI2) (w : World) (K : CE0) (mg : Str → Option Value) (base : Heap) (A : CL2) (outer : List Env) (s : CD9) (H : Hp) : Prop where
 frames : A.frames = some outer
 mod : Mod K mg base
 bs : ∀ b o, base.get? b = some o → s.heap.get? b = some o ∧ H b = none
 bsz : base.objs.size ≤ s.heap.objs.size
 funs : s.heap.FunFrames base outer
 frf : ∀ b ∈ frs outer, H b = none
 hok : HOk P w H s.heap
 bare : AllBare s.gens
def CE (outer : List Env) (P : CI2) (w : World) (H : Hp) (s : CD9) (Q : VK) (u : Value) (s' : CD9) : Prop :=
 ∃ v H', s'.os = s.os ∧ AllBare s'.gens ∧ Un (frs outer) [] H H' s.heap s'.heap ∧ HOk P w H' s'.heap ∧ RelV v u ∧ Q v H'
def CR (CX : CXT) (outer : List Env) (P : CI2) (w : World) (H : Hp) (s : CD9) (Q : VK) (E : XK) (r : Result) (s' : CD9) : Prop :=
 match r with
 | .ok (.ret u) => CE outer P w H s Q u s'
 | .ok _ => False
 | .error e => CX outer H s E e s'
structure FnOk (P : CI2) (w : World) (K : CE0) (mg : Str → Option Value) (base : Heap) (CX : CXT) (k : Nat) (f : Addr) (fd : CH0) (ps : List Str) (sp : Sp) : Prop where
 len : ∀ vs H Q E, sp vs H Q E → vs.length = ps.length
 run : ∀ (A : CL2) (outer : List Env) (s : CD9) (H : Hp) (args : Args) (us : List Value) (vs : List V) (Q : VK) (E : XK), Room k A → AQ6 P w K mg base A outer s H → BindsTo s fd args (ps.zip us) → Vals vs us → sp vs H Q E →
  codeAny (model P w) A (.call (.ref f) args) (CR CX outer P w H s Q E) s
theorem FnOk.imp {CX : CXT} {f : Addr} {sp sp' : Sp} (F : FnOk P w K mg base CX k f fd ps sp)
  (h : ∀ vs H Q E, sp' vs H Q E → sp vs H Q E) : FnOk P w K mg base CX k f fd ps sp' :=
 ⟨fun vs H Q E q => F.len vs H Q E (h _ _ _ _ q), fun A outer s H args us vs Q E hr he hb hv hs => F.run A outer s H args us vs Q E hr he hb hv (h _ _ _ _ hs)⟩
section
variable {X : Cx} {pins : List (Addr × Obj)} {σ : St} {H : Hp} {s s' : CD9}
theorem Inv.env0 (I : Inv X pins σ H s) : AQ6 X.prog X.w X.K X.mg X.base X.A X.stack s H :=
 ⟨I.ok.frames, I.ok.mod, I.bs, CI6 I.ok.bsz I.sz, I.stack, I.stkFree, I.hok, I.bare⟩
theorem Inv.after {Q : VK} (I : Inv X pins σ H s) (h : CE X.stack X.prog X.w H s Q u s') : EP X pins σ Q u s' := by
 obtain ⟨v, H', os, bare, un, hok, r, q⟩ := h
 obtain ⟨hh, g, d, t, os'⟩ := s'
 obtain rfl : os' = s.os := os
 exact ⟨v, H', I.call (h' := hh) (g' := g) (d' := d) (t' := t) (ch := []) un hok bare (fun b z => absurd z (by simp)), r, q⟩
end
def BY6 (sp : Sp) (dvs : List V) (E : XK) (t : TA) : TE := fun σ H Q => t σ H fun vs H1 => sp (vs ++ dvs) H1 Q E
def Binds (K : CE0) (fd : CH0) (ps : List Str) (ds : List Value) : Prop :=
 ∀ (s : CD9) (us : List Value), K.In s.heap → (us ++ ds).length = ps.length → BindsTo s fd ⟨us, []⟩ (ps.zip (us ++ ds))
theorem Binds.all (h : ∀ us : List Value, us.length = ps.length → bindArgs fd ⟨us, []⟩ = pure (ps.zip us)) : Binds K fd ps [] := fun s us _ hl => by
 rw [CM4] at hl ⊢
 exact .of_eq (h us hl)
def UG (CX : CXT) (X : Cx) (E : XK) : Prop := ∀ (pins : List (Addr × Obj)) (σ : St) (H : Hp) (s : CD9) (e : Value) (s' : CD9), Inv X pins σ H s → CX X.stack H s E e s' → X.xe e s'
section
variable {X : Cx} {CX : CXT} {k : Nat} {f C : Addr} {fd : CH0} {ps : List Str} {sp : Sp} {dvs : List V} {ds : List Value} {E : XK} {x m : Str} {p pos apos : Pos} {e o : Expr} {es : List Expr} {ta : TE} {t : TA}
theorem BK2 {σ : St} {H : Hp} {Q : VK} {vs : List V} (F : FnOk X.prog X.w X.K X.mg X.base CX k f fd ps sp) (hr : Room k X.A) (hb : Binds X.K fd ps ds) (hd : Vals dvs ds) (hx : UG CX X E)
  (I : Inv X pins σ H s) (r : Vals vs us) (h : sp (vs ++ dvs) H Q E) : wpAny (model X.prog X.w) X.A (call (.ref f) us) (EP X pins σ Q) X.xe s := by
 have r2 : Vals (vs ++ dvs) (us ++ ds) := r.append hd
 have hl : (us ++ ds).length = ps.length := by rw [← r2.length]; exact F.len _ _ _ _ h
 refine wpAny_call (CU1 (F.run X.A X.stack s H ⟨us, []⟩ (us ++ ds) (vs ++ dvs) Q E hr I.env0 (hb s us I.kIn hl) r2 h) fun r s' hq => ?_)
 cases r with
 | error e => exact hx pins σ H s e s' I hq
 | ok fl =>
  cases fl with
  | ret u => exact I.after hq
  | next => exact False.elim hq
  | brk => exact False.elim hq
  | cont => exact False.elim hq
theorem AW4 (F : FnOk X.prog X.w X.K X.mg X.base CX k f fd ps sp) (hr : Room k X.A) (hg : Gl X x) (hm : X.mg x = some (.ref f)) (hk : CP9 X.K (.ref f) = true) (hb : Binds X.K fd ps ds) (hd : Vals dvs ds) (hx : UG CX X E)
  (ha : PA X (e :: es) t) (hdb : (x == ("__debug__" : Str)) = false := by decide) (he : CH7 (e :: es) X.env = (false, eval e X.env) :: CH7 es X.env := by rfl) (hpl : (CV5 pos (CH7 es X.env)).any (·.1) = false := by rfl) :
  PE X (.Call (.Name x p) (e :: es) [] pos) (BY6 sp dvs E t) := by
 intro pins s σ H Q I h
 refine CN5 (XR I hg hm ?_ hdb)
 refine PySem.W.callWith_K (h₀ := X.base) I.ok.mod.kin hk (thn (ha pos pins s σ H _ I h) fun us s1 ⟨vs, H1, I1, r, q⟩ => ⟨I1.kIn, ?_⟩) he hpl
 exact BK2 F hr hb hd hx I1 r q
end
section
variable {X : Cx} {CX : CXT} {k : Nat} {f C : Addr} {fd : CH0} {ps ks : List Str} {sp : Sp} {E : XK} {x m : Str} {p pos apos kpos : Pos} {e o : Expr} {es : List Expr} {kws : List Keyword} {te ta : TE} {t tk : TA} {nm : Option Str}
variable {g : List Value → List Value → List Value} {gV : List V → List V → List V}
end
structure C0 (N P : List Str) (sc : Scope) : Prop where
 kind : sc.kind = .function
 co : sc.isCoroutine = false
 gen : sc.isGenerator = false
 nd : N.Nodup
 pre : N.take P.length = P
 par : ∀ x ∈ P, sc.names.lookup x = some .local ∨ sc.names.lookup x = some .cell
 nofree : ∀ y ∈ sc.names, y.2 ≠ .free
theorem MB {kindOf : Str → Option CQ7} {x : Str} : ∀ {binds : List (Str × Value)} {m : Str → Option Value}, (∀ v, (x, v) ∉ binds) → bindL kindOf binds m x = m x
 | [], _, _ => rfl
 | (n, v) :: r, m, h => by
  unfold bindL
  rw [MB fun w hw => h w (CF2 _ hw)]
  split
  ·have : x ≠ n := by rintro rfl; exact h v CF3
   simp [this]
  ·rfl
theorem LZ {kindOf : Str → Option CQ7} {x : Str} : ∀ {binds : List (Str × Value)} {m : Str → Option Value}, (∀ v, (x, v) ∉ binds) → bindC kindOf binds m x = m x
 | [], _, _ => rfl
 | (n, v) :: r, m, h => by
  unfold bindC
  rw [LZ fun w hw => h w (CF2 _ hw)]
  split
  ·rfl
  ·have : x ≠ n := by rintro rfl; exact h v CF3
   simp [this]
theorem MA {kindOf : Str → Option CQ7} {x : Str} {v : Value} : ∀ {P : List Str} {vs : List Value} {i : Nat} {m : Str → Option Value}, P.Nodup → P[i]? = some x → vs[i]? = some v → kindOf x = some .local →
  bindL kindOf (P.zip vs) m x = some v
 | [], _, _, _, _, h, _, _ => by simp at h
 | _ :: _, [], _, _, _, _, h, _ => by simp at h
 | p :: P, w :: vs, 0, m, nd, h1, h2, hk => by
  simp at h1 h2; subst h1; subst h2
  show bindL kindOf ((p, w) :: P.zip vs) m p = _
  unfold bindL
  rw [MB fun v hv => (CX8.mp nd).1 (List.of_mem_zip hv).1, if_pos hk]
  simp
 | p :: P, w :: vs, i + 1, m, nd, h1, h2, hk => by
  show bindL kindOf ((p, w) :: P.zip vs) m x = _
  unfold bindL
  exact MA (i := i) (CX8.mp nd).2 (by simpa using h1) (by simpa using h2) hk
theorem LY {kindOf : Str → Option CQ7} {x : Str} {v : Value} : ∀ {P : List Str} {vs : List Value} {i : Nat} {m : Str → Option Value}, P.Nodup → P[i]? = some x → vs[i]? = some v → kindOf x ≠ some .local →
  bindC kindOf (P.zip vs) m x = some v
 | [], _, _, _, _, h, _, _ => by simp at h
 | _ :: _, [], _, _, _, _, h, _ => by simp at h
 | p :: P, w :: vs, 0, m, nd, h1, h2, hk => by
  simp at h1 h2; subst h1; subst h2
  show bindC kindOf ((p, w) :: P.zip vs) m p = _
  unfold bindC
  rw [LZ fun v hv => (CX8.mp nd).1 (List.of_mem_zip hv).1, if_neg hk]
  simp
 | p :: P, w :: vs, i + 1, m, nd, h1, h2, hk => by
  show bindC kindOf ((p, w) :: P.zip vs) m x = _
  unfold bindC
  exact LY (i := i) (CX8.mp nd).2 (by simpa using h1) (by simpa using h2) hk
def start (N : List Str) (vs : List V) : St := vs.map some ++ CD7 (N.length - vs.length) none
def UK (CX : CXT) (P : CI2) (w : World) (K : CE0) (mg : Str → Option Value) (base : Heap) (N : List Str) (qual : Str) (scope : Scope) (f : Addr) (cd : Value) (A : CL2) (outer : List Env) (s : CD9) (H : Hp) (E : XK) : Cx where
 prog := P
 w := w
 K := K
 mg := mg
 base := base
 A := A.deeper (envOfC qual scope s.heap.objs.size f cd)
 N := N
 s₀ := s
 H₀ := H
 env := envOfC qual scope s.heap.objs.size f cd
 outer := outer
 stack := envOfC qual scope s.heap.objs.size f cd :: outer
 ex := []
 calm := true
 fn := fun _ => true
 pn := []
 xe := fun e s' => wpAny (model P w) (A.deeper (envOfC qual scope s.heap.objs.size f cd)) (leaving (envOfC qual scope s.heap.objs.size f cd) e) (fun _ s'' => CX outer H s E e s'') (fun e' s'' => CX outer H s E e' s'') s'
theorem QT {sc : Scope} (h : sc.names.lookup x = some .cell) : ∃ c, (cellsFrom n sc.names []).lookup x = some c := by
 have q := PySem.W.cellsFrom_some sc.names n [] (.inl h)
 exact Option.isSome_iff_exists.mp q
theorem ZK {CX : CXT} {f : Addr} {cd : Value} {outer : List Env} {s1 : CD9} {H : Hp} {E : XK} {vs : List V}
  (S : C0 N ps scope) (hd : A.handled = none) (e0 : AQ6 P w K mg base A outer s H) (hl : vs.length = ps.length) (r : Vals vs us)
  (x : InCallC s s.heap.objs.size (bindL (envOfC qual scope s.heap.objs.size f cd).kindOf (ps.zip us) fun _ => none) (cellsFrom (s.heap.objs.size + 1) scope.names []) (bindC (envOfC qual scope s.heap.objs.size f cd).kindOf (ps.zip us) fun _ => none) s1) :
  Inv (UK CX P w K mg base N qual scope f cd A outer s H E) [] (start N vs) H s1 := by
 have hpl : ps.length ≤ N.length := by have := congrArg CR2 S.pre; rw [CK9] at this; lia
 obtain ⟨h1, tk, rfl, hk⟩ := x.done
 have noA : ∀ b : Addr, b ∉ (UK CX P w K mg base N qual scope f cd A outer s H E).ex := fun b z => absurd (show b ∈ ([] : List Addr) from z) (by simp)
 refine ⟨⟨e0.mod, S.kind, rfl, rfl, CE9 _, fun y z c h1 h2 => ?_, fun y hy => ?_, fun y c _ h => ?_, fun _ => hd, Around.frames_deeper e0.frames, .inr ⟨rfl, rfl⟩, fun b z => absurd z (noA b), e0.bs, e0.bsz, fun b _ _ => noA b, fun b z => absurd z (noA b), e0.funs, e0.frf⟩,
  rfl, e0.bare, Un.kept hk, ⟨_, x.toInCall.ns, fun i y v h1 h2 h3 => ?_⟩, fun y c h => ⟨_, x.cell y c h⟩, e0.hok.fresh (CE9 _), fun y c h => ?_, fun p hp => absurd (show p ∈ ([] : List (Addr × Obj)) from hp) (by simp), e0.hok.kept hk, ?_⟩
 ·exact name_of_addr x.apart (CI7 h1) (CI7 h2)
 ·have hy : scope.names.lookup y = some .cell ∨ scope.names.lookup y = some .free := hy
  rcases hy with hy | hy
  ·exact QT hy
  ·exact absurd rfl (S.nofree _ (CI7 hy))
 ·exact Nat.le_of_lt (x.above y c (CI7 h))
 ·have hi : i < vs.length := by
   unfold start at h2
   by_cases hi : i < vs.length
   ·exact hi
   ·rw [CG0 (by simpa using hi)] at h2
    rw [CJ9] at h2
    split at h2 <;> cases h2
  have ha : vs[i]? = some v := by
   unfold start at h2
   rw [CG8 (by simpa using hi), CF1] at h2
   cases e : vs[i]? with
   | none => rw [e] at h2; cases h2
   | some a => rw [e] at h2; cases h2; rfl
  obtain ⟨u, hu, rv⟩ := r.get ha
  have hp : ps[i]? = some y := by
   rw [← S.pre, List.getElem?_take_of_lt (by lia)]; exact h1
  have ndP : ps.Nodup := by rw [← S.pre]; exact S.nd.sublist (List.take_sublist _ _)
  refine ⟨u, rv, ?_⟩
  rcases S.par y (CF5 hp) with k | k
  ·exact .inl ⟨k, MA ndP hp hu k⟩
  ·obtain ⟨c, e⟩ := QT (n := s.heap.objs.size + 1) k
   refine .inr ⟨.inl k, c, e, ?_⟩
   have q := x.cell y c e
   rw [LY ndP hp hu (by show scope.names.lookup y ≠ _; rw [k]; decide)] at q
   exact q
 ·exact e0.hok.fresh (Nat.le_of_lt (x.above y c (CI7 h)))
 ·unfold start
  show _ = N.length
  rw [CE6, CD8, CH6]
  lia
theorem BP7 {CX : CXT} {f : Addr} {name : Str} {params : Arguments} {dV kV : Value}
  {sp : Sp} (lk : K.lookup f = some ⟨oc, od, .func (CM0 name qual params body scope dV kV doc pm an cdv ct), osl⟩) (hcd : CS0 K cdv qual = true) (S : C0 N ps scope)
  (len : ∀ vs H Q E, sp vs H Q E → vs.length = ps.length)
  (hbody : ∀ (A : CL2) (outer : List Env) (s : CD9) (H : Hp) (vs : List V) (Q : VK) (E : XK), Room k (A.deeper (envOfC qual scope s.heap.objs.size f cdv)) → sp vs H Q E →
   ∃ t, PSs (UK CX P w K mg base N qual scope f cdv A outer s H E) body t ∧ t { nx := fun _ H' => Q .non H', rt := Q } (start N vs) H) :
  FnOk P w K mg base CX (k + 1) f (CM0 name qual params body scope dV kV doc pm an cdv ct) ps sp := by
 refine ⟨len, fun A outer s H args us vs Q E hr e0 hb r hsp => ?_⟩
 have hl := len _ _ _ _ hsp
 have KX : K.In s.heap := e0.mod.kin.keeps fun b o e => (e0.bs b o e).1
 have lim : s.heap.NoLimit := e0.mod.nolimit.keeps fun b o e => (e0.bs b o e).1
 have hkind : ∀ y ∈ ps.zip us, scope.names.lookup y.1 = some .local ∨ (scope.names.lookup y.1 = some .cell ∧ ((cellsFrom (s.heap.objs.size + 1) scope.names []).lookup y.1).isSome = true) := fun ⟨n, v⟩ hy => by
  rcases S.par n (List.of_mem_zip hy).1 with q | q
  ·exact .inl q
  ·exact .inr ⟨q, PySem.W.cellsFrom_some _ _ _ (.inl q)⟩
 refine codeAny_call_function hr.depth (KX _ _ lk) rfl S.co S.gen rfl (PySem.W.codeRec_of KX hcd) (hb _ _ _ _ ?_)
 refine wpAny_newFunctionEnv_cells S.kind hkind fun env he s1 x => ?_
 subst he
 refine ⟨lim.keeps x.toInCall.keep, codeAny_func ?_⟩
 obtain ⟨t, ht, hq⟩ := hbody A outer s H vs Q E (hr.deeper _) hsp
 have I : Inv (UK CX P w K mg base N qual scope f cdv A outer s H E) [] (start N vs) H s1 := ZK S hr.hd e0 hl r x
 refine CJ8 (ht [] s1 (start N vs) H _ I hq) (fun fl s' hs => ?_) fun e s' hs => hs
 have fin : ∀ {σ' : St} {H' : Hp} {v : V} {u : Value}, Inv (UK CX P w K mg base N qual scope f cdv A outer s H E) [] σ' H' s' → RelV v u → Q v H' → CE outer P w H s Q u s' :=
  fun {σ' H' v u} J rv q => ⟨v, H', J.os, J.bare, J.base, J.hok, rv, q⟩
 cases fl with
 | ret u =>
  obtain ⟨v, σ', H', J, rv, q⟩ := hs
  exact fin J rv q
 | next =>
  obtain ⟨σ', H', J, q⟩ := hs
  exact fin (v := V.non) (u := Value.none) J rfl q
 | brk =>
  obtain ⟨_, _, _, q⟩ := hs
  exact False.elim q
 | cont =>
  obtain ⟨_, _, _, q⟩ := hs
  exact False.elim q
section
variable {X : Cx} {x : Str} {p pos : Pos} {e : Expr} {es : List Expr} {t : TA} {id T : String} {r : List V → Hp → VK → Prop}
end
end L2
variable {H : L2.Hp} {v : L2.V} {vs : List L2.V} {kvs : List (L2.Key × L2.V)} {xs : List (List L2.Key × CL8 × CK0)}
namespace HT
open PySem PyProof.Rows
section
open PySem.SeqAt
open PySem.AutoSeq1 (wpAny_loadPart')
open PySem.MeetsSeq PySem.MeetsSeq2 PySem.MeetsSeq3
end
section
variable {prog : CI2} {w : World} {A : CL2} {E : Value → CD9 → Prop} {s : CD9}
def sIx (n d : Nat) : Option Int → Nat
 | none => d
 | some v => if v < 0 then (v + (n : Int)).toNat else min v.toNat n
theorem AO7 (n d : Nat) : sIx n d none = d := rfl
theorem BA0 (n d k : Nat) : sIx n d (some (k : Int)) = min k n := by
 show (if (k : Int) < 0 then ((k : Int) + (n : Int)).toNat else min (k : Int).toNat n) = min k n
 rw [if_neg (by lia), CL3]
theorem BN0 (n d : Nat) (hd : d ≤ n) (o : Option Int) : sIx n d o ≤ n := by
 cases o with
 | none => exact hd
 | some v =>
  show (if v < 0 then (v + (n : Int)).toNat else min v.toNat n) ≤ n
  by_cases hv : v < 0
  ·rw [if_pos hv]; lia
  ·rw [if_neg hv]; exact Nat.min_le_right _ _
theorem WW (v : Int) (n d : Nat) : (if v < 0 then max (v + (n : Int)) 0 else min v (n : Int)) = ((sIx n d (some v) : Nat) : Int) := by
 show (if v < 0 then max (v + (n : Int)) 0 else min v (n : Int)) = (((if v < 0 then (v + (n : Int)).toNat else min v.toNat n) : Nat) : Int)
 by_cases hv : v < 0
 ·simp only [if_pos hv]; lia
 ·simp only [if_neg hv]; lia
theorem UH (lo hi : Option Int) (n : Nat) : CT5 lo hi 1 (n : Int) = (((sIx n 0 lo : Nat) : Int), ((sIx n n hi : Nat) : Int)) := by
 have h1 : ¬ ((1 : Int) < 0) := by lia
 unfold CT5
 simp only [h1, if_false]
 refine Prod.ext ?_ ?_
 ·cases lo with
  | none => rfl
  | some v => exact WW v n 0
 ·cases hi with
  | none => rfl
  | some v => exact WW v n n
theorem VG (i j : Nat) : CP1 (i : Int) (j : Int) 1 = j - i := by
 unfold CP1
 have h1 : (1 : Int) > 0 := by lia
 simp only [h1, if_true, Int.ediv_one]
 split <;> lia
theorem KD {v : Value} {o : Option Int} {Q : Option Int → CD9 → Prop} (p : IsPart v o) (h : Q o s) : wpAny (model prog w) A (Builtin.Slice.slicePartIndex v) Q E s := by
 cases p with
 | none => exact slicePart_none h
 | int i t => exact slicePart_int h
theorem V4 {sl : Addr} {vl vu : Value} {Q : Int × Int × Nat → CD9 → Prop} (hs : s.heap.IsSliceOf sl vl vu .none) (pl : IsPart vl lo) (pu : IsPart vu hi)
  (h : Q (((sIx n 0 lo : Nat) : Int), 1, sIx n n hi - sIx n 0 lo) s) : wpAny (model prog w) A (Builtin.Slice.sliceApplied (.ref sl) (pure (n : Int))) Q E s := by
 obtain ⟨os, hos, hcs, hds⟩ := id hs
 unfold Builtin.Slice.sliceApplied Builtin.Slice.sliceFields
 refine CD4 (CD4 (CL7 hos hds (x := vl) rfl (CD4 (CL7 hos hds (x := vu) rfl (CD4 (CL7 hos hds (x := .none) rfl (CD6 ?_)))))))
 refine CD4 (slicePart_none ?_)
 show wpAny _ _ (if ((1 : Int) == 0) = true then _ else _) _ _ s
 rw [if_neg (by decide)]
 refine CD4 (KD pl (CD4 (KD pu (CD4 (CD6 ?_)))))
 show wpAny _ _ (match CT5 lo hi 1 (n : Int) with | (lo, hi) => pure (lo, (1 : Int), CP1 lo hi 1)) _ _ s
 rw [UH lo hi n]
 show wpAny _ _ (pure (((sIx n 0 lo : Nat) : Int), (1 : Int), CP1 ((sIx n 0 lo : Nat) : Int) ((sIx n n hi : Nat) : Int) 1)) _ _ s
 rw [VG]
 exact CD6 h
theorem AM0 (xs : Array Value) (i k : Nat) : ((CH8 k).filterMap fun (m : Nat) => xs[((i : Int) + (m : Int) * 1).toNat]?).toArray = ((xs.toList.drop i).take k).toArray := by
 have e : (fun (m : Nat) => xs[((i : Int) + (m : Int) * 1).toNat]?) = fun m => xs[i + m]? := by
  funext m
  have : ((i : Int) + (m : Int) * 1).toNat = i + m := by lia
  rw [this]
 rw [e]
 have := pick_run xs i k
 rw [List.filterMap_map] at this
 have e2 : ((fun x => xs[x]?) ∘ fun x => i + x) = fun m => xs[i + m]? := rfl
 rw [e2] at this
 rw [this]
theorem FD {t sl : Addr} {vl vu : Value} (ht : IsTup s.heap t items) (hs : s.heap.IsSliceOf sl vl vu .none) (pl : IsPart vl lo) (pu : IsPart vu hi)
  (hw : ¬ (sIx items.size 0 lo = 0 ∧ sIx items.size items.size hi = items.size))
  (h : Q (.ref s.heap.objs.size) { s with heap := s.heap.push { cls := .type "tuple", data := .seq ((items.toList.drop (sIx items.size 0 lo)).take (sIx items.size items.size hi - sIx items.size 0 lo)).toArray } })
  (hsz : items.size ≤ CE1) : wpAny (model prog w) A (getItem (.ref t) (.ref sl)) Q E s := by
 have htake : sizeOk (.seq ((items.toList.drop (sIx items.size 0 lo)).take (sIx items.size items.size hi - sIx items.size 0 lo)).toArray) := by
  show ((items.toList.drop (sIx items.size 0 lo)).take (sIx items.size items.size hi - sIx items.size 0 lo)).toArray.size ≤ CE1
  rw [CF4, CK9, List.length_drop, CE5]
  lia
 have hj : sIx items.size items.size hi ≤ items.size := BN0 _ _ (CE9 _) hi
 obtain ⟨os, hos, hcs, hds⟩ := id hs
 have hTs : s.TypeIs (.ref sl) "slice" := ⟨os, hos, hcs⟩
 unfold getItem
 try with_reducible refine CH3 ?_
 first | refine CD4 (CD6 ?_) | skip
 refine CD4 (wpAny_sequenceKey ht.typeIs (by decide) ?_)
 refine CD4 (CI8 (name := CV0 "__getitem__") ht.typeIs CM7
  (CL0 CM7 ht.typeIs entry_tuple_getitem ?_ (args_tuple_getitem _ _)))
 show wpAny _ _ (Builtin.Tuple.tupleItemsOf (.ref t) >>= _) _ _ s
 refine CD4 (tupleItemsOf_ ht ?_)
 refine CD4 (CW6 hTs ?_)
 rw [if_pos (by decide)]
 refine CD4 (V4 hs pl pu ?_)
 have hno : ¬ ((((sIx items.size 0 lo : Nat) : Int) == 0 && (1 : Int) == 1 && (sIx items.size items.size hi - sIx items.size 0 lo) == items.size) = true) := by
  intro q
  rw [CH5, CH5] at q
  have q1 : ((sIx items.size 0 lo : Nat) : Int) = 0 := eq_of_beq q.1.1
  have q2 : sIx items.size items.size hi - sIx items.size 0 lo = items.size := eq_of_beq q.2
  exact hw ⟨by lia, by lia⟩
 show wpAny _ _ (if (((sIx items.size 0 lo : Nat) : Int) == 0 && (1 : Int) == 1 && (sIx items.size items.size hi - sIx items.size 0 lo) == items.size) = true then _ else _) _ _ s
 rw [if_neg hno, AM0]
 first
  | exact CD4 (m := CP5 _) (CG4 (CD6 ⟨_, rfl, CD6 h⟩) htake)
  | exact CD4 (m := CP5 _) (CG4 (CD4 (CD6 (CD6 ⟨_, rfl, CD6 h⟩))) htake)
  | exact CD4 (CD4 (m := CP5 _) (CG4 (CD6 (CD6 ⟨_, rfl, CD6 h⟩)) htake))
  | exact CD4 (CD4 (m := CP5 _) (CG4 (CD6 ⟨_, rfl, CD6 h⟩) htake))
end
end HT
namespace L2
open PySem PySem.Spec PyProof.Rows
section
variable {X : Cx} {e : Expr} {te : TE} {lo hi : Option Expr} {tl th : TO} {pos p2 : Pos}
def SlR (X : Cx) (r : V → Option Int → Option Int → Hp → VK → Prop) : Prop :=
 ∀ (pins : List (Addr × Obj)) (s : CD9) (σ : St) (H : Hp) (x : V) (v vl vu : Value) (lo hi : Option Int) (sl : Addr) (Q : VK), Inv X pins σ H s → RelV x v → s.heap.IsSliceOf sl vl vu .none → IsPart vl lo → IsPart vu hi → r x lo hi H Q →
  ∃ T id, typeLookup (.type T) "__getitem__" = pure (some (.builtin id)) ∧ s.TypeIs v T ∧ wpAny (model X.prog X.w) X.A (getItem v (.ref sl)) (EP X pins σ Q) X.xe s
theorem SlR.or {r r' : V → Option Int → Option Int → Hp → VK → Prop} (h : SlR X r) (h' : SlR X r') : SlR X (fun x lo hi H Q => r x lo hi H Q ∨ r' x lo hi H Q) := by
 intro pins s σ H x v vl vu lo hi sl Q I rx hs pl pu q
 rcases q with q | q
 ·exact h pins s σ H x v vl vu lo hi sl Q I rx hs pl pu q
 ·exact h' pins s σ H x v vl vu lo hi sl Q I rx hs pl pu q
def QW (xs : List V) (lo hi : Option Int) : List V := (xs.drop (HT.sIx xs.length 0 lo)).take (HT.sIx xs.length xs.length hi - HT.sIx xs.length 0 lo)
theorem HH (xs : List V) (lo hi : Option Int) : (QW xs lo hi).length ≤ xs.length := by
 unfold QW
 rw [CK9, List.length_drop]
 lia
def BJ6 (K : CE0) : V → Option Int → Option Int → Hp → VK → Prop := fun x lo hi H Q => ∃ a xs, x = .ref a ∧ SqT K H a xs ∧
 ¬ (HT.sIx xs.length 0 lo = 0 ∧ HT.sIx xs.length xs.length hi = xs.length) ∧ ∀ p, H p = none → Q (.ref p) (upd H p (.tup (QW xs lo hi)))
theorem AP0 : SlR X (BJ6 X.K) := by
 intro pins s σ H x v vl vu lo hi sl Q I rx hs pl pu h
 obtain ⟨a, xs, rfl, hx, hw, q⟩ := h
 cases rx
 obtain ⟨its, r, ht, hz⟩ := I.tuple hx
 have hlen : its.toArray.size = xs.length := by rw [CF4]; exact r.length.symm
 refine ⟨"tuple", _, PyProof.Rows.slot_tuple_getitem.lookup, ht.typeIs, ?_⟩
 refine HT.FD ht hs pl pu (by rw [hlen]; exact hw) ?_ (by rw [hlen]; exact hz)
 rw [hlen]
 refine ⟨.ref s.heap.objs.size, _, I.laid (t' := s.toks) (o := .tup (QW xs lo hi)) (fun b ob q => CD5 _ q) (CE9 _) ?_, rfl, q _ (I.hok.fresh (CE9 _))⟩
 exact ⟨CI6 (HH xs lo hi) hz, _, (r.drop (HT.sIx xs.length 0 lo)).take (HT.sIx xs.length xs.length hi - HT.sIx xs.length 0 lo), IsTup.new _ _⟩
end
def ixN (n : Nat) (i : Int) : Option Nat := if 0 ≤ i then (if i < n then some i.toNat else none) else if -(n : Int) ≤ i then some (i + n).toNat else none
def atI {α : Type} (xs : List α) (i : Int) : Option α := (ixN xs.length i).bind fun j => xs[j]?
theorem XQ {i : Int} (h : ixN n i = some j) : seqIndex? i n = some j ∧ j < n ∧ -(n : Int) ≤ i ∧ i < n := by
 unfold ixN at h
 by_cases h0 : 0 ≤ i
 ·rw [if_pos h0] at h
  by_cases h1 : i < n
  ·rw [if_pos h1] at h
   have e : i.toNat = j := Option.some.inj h
   exact ⟨by rw [seqIndex_of h0 h1, e], by lia, by lia, h1⟩
  ·rw [if_neg h1] at h; cases h
 ·rw [if_neg h0] at h
  by_cases h1 : -(n : Int) ≤ i
  ·rw [if_pos h1] at h
   have e : (i + n).toNat = j := Option.some.inj h
   exact ⟨by rw [seqIndex_neg (by lia) h1, e], by lia, h1, by lia⟩
  ·rw [if_neg h1] at h; cases h
theorem NQ {xs : List α} {i : Int} {v : α} (h : atI xs i = some v) : ∃ j, seqIndex? i xs.length = some j ∧ xs[j]? = some v ∧ j < xs.length ∧ -(xs.length : Int) ≤ i ∧ i < xs.length := by
 unfold atI at h
 cases e : ixN xs.length i with
 | none => rw [e] at h; cases h
 | some j =>
  rw [e] at h
  obtain ⟨h1, h2, h3, h4⟩ := XQ e
  exact ⟨j, h1, h, h2, h3, h4⟩
theorem F1 {xs : List α} {v : α} (h : xs[j]? = some v) : atI xs (j : Int) = some v := by
 have hj : j < xs.length := (List.getElem?_eq_some_iff.mp h).1
 have e : ixN xs.length (j : Int) = some j := by
  unfold ixN
  rw [if_pos (by lia), if_pos (by lia)]; simp
 unfold atI; rw [e]; exact h
def AQ9 (b : Expr) : Prop := ∀ o i, subscripted b false o i = operate [o, i] (getItem o i)
def IxR (X : Cx) (r : R2) : Prop :=
 ∀ (value slice : Expr) (pins : List (Addr × Obj)) (s : CD9) (σ : St) (H : Hp) (x y : V) (v u : Value) (Q : VK), Inv X pins σ H s → RelV x v → RelV y u → r x y H Q →
  subscripted slice false v u = operate [v, u] (getItem v u) → wpAny (model X.prog X.w) X.A (subscriptTail value slice v u) (EP X pins σ Q) X.xe s
section
variable {X : Cx} {a b : Expr} {ta tb : TE} {pos : Pos}
theorem IxR.or {r r' : R2} (h : IxR X r) (h' : IxR X r') : IxR X (fun x y H Q => r x y H Q ∨ r' x y H Q) := by
 intro value slice pins s σ H x y v u Q I rx ry q hs
 rcases q with q | q
 ·exact h value slice pins s σ H x y v u Q I rx ry q hs
 ·exact h' value slice pins s σ H x y v u Q I rx ry q hs
def BV8 (K : CE0) : R2 := fun x y H Q => ∃ p xs i v, x = .ref p ∧ y = .int i ∧ SqL K H p xs ∧ atI xs i = some v ∧ Q v H
def BW0 (K : CE0) : R2 := fun x y H Q => ∃ p xs i v, x = .ref p ∧ y = .int i ∧ SqT K H p xs ∧ atI xs i = some v ∧ Q v H
def BV9 : R2 := fun x y H Q => ∃ z i c, x = .str z ∧ y = .int i ∧ z.length ≤ CE1 ∧ atI z.cps.toList i = some c ∧ Q (.str ⟨#[c]⟩) H
theorem ix_list : IxR X (BV8 X.K) := by
 intro value slice pins s σ H x y v u Q I rx ry h hs
 obtain ⟨p, xs, i, z, rfl, rfl, hq, he, q⟩ := h
 cases rx
 obtain ⟨t, rfl⟩ := ry
 obtain ⟨its, r, pl, hz⟩ := I.list hq
 obtain ⟨j, h1, h2, h3, h4, h5⟩ := NQ he
 obtain ⟨w, ew, rw'⟩ := r.get h2
 have hl := r.length
 have hn := GP
 have fin : EP X pins σ Q w s := ⟨z, H, I, rw', q⟩
 by_cases h0 : 0 ≤ i
 ·have hj : i.toNat = j := by
   rw [seqIndex_of h0 h5] at h1
   exact Option.some.inj h1
  exact item_listR pl.isList h0 (by lia) (by rw [hj]; simpa using ew) fin hs
 ·have hj : (i + (its.toArray.size : Int)).toNat = j := by
   rw [seqIndex_neg (by lia) h4] at h1
   rw [CF4, ← hl]
   exact Option.some.inj h1
  exact subscriptTail_builtinR (x := w) pl.isList.typeIs slot_list_getitem.lookup
   (wpAny_getItem_list_neg (Q := fun r s' => r = w ∧ EP X pins σ Q r s') pl.isList (by lia) (by rw [CF4] <;> lia) (by lia) (by rw [hj]; simpa using ew) ⟨rfl, fin⟩) hs
theorem ix_tup : IxR X (BW0 X.K) := by
 intro value slice pins s σ H x y v u Q I rx ry h hs
 obtain ⟨p, xs, i, z, rfl, rfl, hq, he, q⟩ := h
 cases rx
 obtain ⟨t, rfl⟩ := ry
 obtain ⟨its, r, pl, hz⟩ := I.tuple hq
 obtain ⟨j, h1, h2, h3, h4, h5⟩ := NQ he
 obtain ⟨w, ew, rw'⟩ := r.get h2
 have hl := r.length
 have hn := GP
 have fin : EP X pins σ Q w s := ⟨z, H, I, rw', q⟩
 exact subscriptTail_builtinR (x := w) pl.typeIs slot_tuple_getitem.lookup
  (getItem_tuple (j := j) (Q := fun r s' => r = w ∧ EP X pins σ Q r s') pl (by lia) (by lia) (by rw [CF4, ← hl]; exact h1) (by simpa using ew) ⟨rfl, fin⟩) hs
theorem BE5 : IxR X BV9 := by
 intro value slice pins s σ H x y v u Q I rx ry h hs
 obtain ⟨z, i, c, rfl, rfl, hz, he, q⟩ := h
 obtain ⟨t, rfl⟩ := rx
 obtain ⟨t', rfl⟩ := ry
 obtain ⟨j, h1, h2, h3, h4, h5⟩ := NQ he
 have hl : z.cps.toList.length = z.length := by simp [Str.length]
 rw [hl] at h1 h4 h5
 have hn := GP
 exact tail_any (typeIs_str s z t) slot_str_getitem.lookup (getItem_str (c := c) (by
  have e1 : decide (i < -(2 ^ 63 : Int)) = false := decide_eq_false (by lia)
  have e2 : decide (i ≥ 2 ^ 63) = false := decide_eq_false (by lia)
  rw [e1, e2, Bool.or_false]) (by rw [h1]; simpa using h2) ⟨.str ⟨#[c]⟩, H, I.tok _, ⟨_, rfl⟩, q⟩) hs
def rIx (K : CE0) : R2 := fun x y H Q => BV8 K x y H Q ∨ BW0 K x y H Q ∨ BV9 x y H Q
theorem BE4 : IxR X (rIx X.K) := ix_list.or (ix_tup.or BE5)
theorem US (its : List Value) (n j : Nat) (u : Value) : CQ0 (·.setIfInBounds j u) { cls := .type "list", data := .seq its.toArray n } = { cls := .type "list", data := .seq (its.set j u).toArray n } := by
 simp [CQ0]
theorem Inv.lst {pins : List (Addr × Obj)} {σ : St} {H : Hp} {s : CD9} {p : Addr} {xs : List V} (I : Inv X pins σ H s) (h : H p = some (.lst xs)) :
  ∃ (its : List Value) (n : Nat), Vals xs its ∧ s.heap.get? p = some { cls := .type "list", data := .seq its.toArray n } ∧ xs.length ≤ CE1 := by
 obtain ⟨z, its, n, r, e⟩ := I.hok p _ h
 exact ⟨its, n, r, e, z⟩
theorem Inv.lstUpd {σ : St} {xs ys : List V} {its' : List Value} {n' : Nat} {f : Obj → Obj} (I : Inv X pins σ H s) (h : H p = some (.lst xs))
  (ho : s.heap.get? p = some { cls := .type "list", data := .seq its.toArray n }) (hf : f { cls := .type "list", data := .seq its.toArray n } = { cls := .type "list", data := .seq its'.toArray n' }) (r : Vals ys its') (hz : ys.length ≤ CE1) (t : Nat) :
  Inv X pins σ (upd H p (.lst ys)) { s with heap := s.heap.update p f, toks := t } := by
 have e : (s.heap.update p f).get? p = some { cls := .type "list", data := .seq its'.toArray n' } := by
  rw [CI0 f ho (by rw [hf] <;> rfl), hf]
 refine I.write (x := p) (e := p) (by rw [h]; trivial) (.inl rfl) (fun b u hb q => (CG7 _ _ (Ne.symm hb)).trans q) ⟨_, e⟩ ?_
 exact ⟨hz, its', n', r, e⟩
def BW2 : V → V → V → Hp → (Hp → Prop) → Prop := fun o i v H Q => ∃ p xs k j, o = .ref p ∧ i = .int k ∧ H p = some (.lst xs) ∧ ixN xs.length k = some j ∧ Q (upd H p (.lst (xs.set j v)))
theorem set_list : BP0 X BW2 := by
 intro pins s σ H o i v ov iv u Q I ro ri rv h
 obtain ⟨p, xs, k, j, rfl, rfl, hp, hj, q⟩ := h
 cases ro
 obtain ⟨t, rfl⟩ := ri
 obtain ⟨its, n, r, ho, hz⟩ := I.lst hp
 obtain ⟨h1, h2, h3, h4⟩ := XQ hj
 have hl := r.length
 have hn := GP
 have I' : Inv X pins σ (upd H p (.lst (xs.set j v))) { s with heap := s.heap.update p (CQ0 (·.setIfInBounds j u)) } :=
  I.lstUpd hp ho (US its n j u) (r.set rv j) (by rw [List.length_set]; exact hz) s.toks
 by_cases h0 : 0 ≤ k
 ·have hk : k.toNat = j := by
   rw [seqIndex_of h0 h4] at h1
   exact Option.some.inj h1
  exact PySem.W.ki_setAt ho h0 (by lia) (by rw [CF4, ← hl]; exact h4) (by rw [hk]; exact ⟨_, I', q⟩)
 ·have hk : (k + (its.toArray.size : Int)).toNat = j := by
   rw [seqIndex_neg (by lia) h3] at h1
   rw [CF4, ← hl]
   exact Option.some.inj h1
  exact PySem.W.ki_setBack ho (by lia) (by rw [CF4, ← hl]; exact h3) (by lia) (by rw [hk]; exact ⟨_, I', q⟩)
theorem PW (lo hi : Option Int) (n : Nat) : (CV3 lo hi none n).1 = ((HT.sIx n 0 lo : Nat) : Int) ∧ (CV3 lo hi none n).2.1 = ((HT.sIx n n hi : Nat) : Int) ∧ (CV3 lo hi none n).2.2 = 1 := by
 refine ⟨?_, ?_, rfl⟩
 ·cases lo with
  | none => simp [CV3, HT.sIx]
  | some i =>
   simp only [CV3, HT.sIx, Option.getD_none, show (1 : Int) > 0 by decide, if_true]
   by_cases h : i < 0
   ·simp only [h, if_true] <;> lia
   ·simp only [h, if_false] <;> lia
 ·cases hi with
  | none => simp [CV3, HT.sIx]
  | some i =>
   simp only [CV3, HT.sIx, Option.getD_none, show (1 : Int) > 0 by decide, if_true]
   by_cases h : i < 0
   ·simp only [h, if_true] <;> lia
   ·simp only [h, if_false] <;> lia
theorem LP (its : List Value) (lo hi : Option Int) : slicePick its.toArray lo hi none = ((its.drop (HT.sIx its.length 0 lo)).take (HT.sIx its.length its.length hi - HT.sIx its.length 0 lo)).toArray := by
 obtain ⟨h1, h2, h3⟩ := PW lo hi its.toArray.size
 unfold slicePick
 rw [h1, h2, h3]
 simp only [sliceRange_one, pick_run, CF4] <;> rfl
def BJ5 (K : CE0) : V → Option Int → Option Int → Hp → VK → Prop := fun x lo hi H Q => ∃ a xs, x = .ref a ∧ SqL K H a xs ∧ ∀ p, H p = none → Q (.ref p) (upd H p (.lst (QW xs lo hi)))
theorem sl_list : SlR X (BJ5 X.K) := by
 intro pins s σ H x v vl vu lo hi sl Q I rx hs pl pu h
 obtain ⟨a, xs, rfl, hx, q⟩ := h
 cases rx
 obtain ⟨its, r, ht, hz⟩ := I.list hx
 have hlen := r.length
 refine ⟨"list", _, slot_list_getitem.lookup, ht.isList.typeIs, ?_⟩
 refine wpAny_getItem_list_slice ht.isList hs pl pu .none (by simp) ?_ (by rw [CF4] <;> lia)
 rw [LP, ← hlen]
 refine ⟨.ref s.heap.objs.size, _, I.laid (t' := s.toks) (o := .lst (QW xs lo hi)) (fun b ob q => CD5 _ q) (CE9 _) ?_, rfl, q _ (I.hok.fresh (CE9 _))⟩
 exact ⟨CI6 (HH xs lo hi) hz, _, 0, (r.drop (HT.sIx xs.length 0 lo)).take (HT.sIx xs.length xs.length hi - HT.sIx xs.length 0 lo), CE4 _ rfl⟩
def FC : V → Bool
 | .non => true
 | .bl _ => true
 | .int _ => true
 | .str _ => true
 | _ => false
def eqV : V → V → Bool
 | .non, .non => true
 | .bl a, .bl b => a == b
 | .bl a, .int b => (if a then 1 else 0) == b
 | .int a, .bl b => a == (if b then 1 else 0)
 | .int a, .int b => a == b
 | .str a, .str b => a == b
 | _, _ => false
theorem BE0 {y x : V} {v : Value} (ry : RelV y u) (rx : RelV x v) (fy : FC y = true) (fx : FC x = true) : SeqAt.EqAt A s u v (eqV y x) := by
 cases y with
 | non =>
  cases ry
  cases x with
  | non => cases rx; exact SeqAt.EqAt.same _
  | bl b => cases rx; exact SeqAt.EqAt.none_bool b
  | int b => obtain ⟨t, rfl⟩ := rx; exact SeqAt.EqAt.none_int b t
  | str b => obtain ⟨t, rfl⟩ := rx; exact SeqAt.EqAt.none_str b t
  | _ => exact absurd (show false = true from fx) CE3
 | bl a =>
  cases ry
  cases x with
  | non => cases rx; exact SeqAt.EqAt.bool_none a
  | bl b => cases rx; exact SeqAt.EqAt.bool_bool a b
  | int b => obtain ⟨t, rfl⟩ := rx; exact SeqAt.EqAt.bool_int a b t
  | str b => obtain ⟨t, rfl⟩ := rx; exact SeqAt.EqAt.bool_str a b t
  | _ => exact absurd (show false = true from fx) CE3
 | int a =>
  obtain ⟨t', rfl⟩ := ry
  cases x with
  | non => cases rx; exact SeqAt.EqAt.int_none a t'
  | bl b => cases rx; exact SeqAt.EqAt.int_bool a t' b
  | int b => obtain ⟨t, rfl⟩ := rx; exact SeqAt.EqAt.int_int a t' b t
  | str b => obtain ⟨t, rfl⟩ := rx; exact SeqAt.EqAt.int_str a t' b t
  | _ => exact absurd (show false = true from fx) CE3
 | str a =>
  obtain ⟨t', rfl⟩ := ry
  cases x with
  | non => cases rx; exact SeqAt.EqAt.str_none a t'
  | bl b => cases rx; exact SeqAt.EqAt.str_bool a t' b
  | int b => obtain ⟨t, rfl⟩ := rx; exact SeqAt.EqAt.str_int a t' b t
  | str b => obtain ⟨t, rfl⟩ := rx; exact SeqAt.EqAt.str_str a t' b t
  | _ => exact absurd (show false = true from fx) CE3
 | _ => exact absurd (show false = true from fy) CE3
def eqU (x : V) (u : Value) : Bool := match u with
 | .none => eqV .non x
 | .bool b => eqV (.bl b) x
 | .int i _ => eqV (.int i) x
 | .str z _ => eqV (.str z) x
 | _ => false
theorem AF9 {x y : V} (r : RelV y u) (f : FC y = true) : eqU x u = eqV y x := by
 cases y with
 | non => cases r; rfl
 | bl b => cases r; rfl
 | int i => obtain ⟨t, rfl⟩ := r; rfl
 | str z => obtain ⟨t, rfl⟩ := r; rfl
 | _ => exact absurd (show false = true from f) CE3
theorem EV {x : V} : ∀ {xs : List V} {us : List Value}, Vals xs us → xs.all FC = true → us.any (eqU x) = xs.any fun y => eqV y x
 | _, _, .nil, _ => rfl
 | y :: xs, u :: us, .cons r t, f => by
  rw [List.all_cons, CH5] at f
  rw [CP8, CP8, AF9 r f.1, EV t f.2]
theorem AZ {A : CL2} {s : CD9} {x : V} {v : Value} (rx : RelV x v) (fx : FC x = true) : ∀ {xs : List V} {us : List Value}, Vals xs us → xs.all FC = true → ∀ u ∈ us, SeqAt.EqAt A s u v (eqU x u)
 | _, _, .nil, _ => fun u hu => by cases hu
 | y :: xs, u :: us, .cons r t, f => fun u' hu => by
  rw [List.all_cons, CH5] at f
  rcases CF9.mp hu with rfl | hu
  ·rw [AF9 r f.1]; exact BE0 r rx f.1 fx
  ·exact AZ rx fx t f.2 u' hu
def inV (x : V) (xs : List V) : Bool := xs.any fun y => eqV y x
def rIn (K : CE0) (neg : Bool) : R2 := fun x y H Q => ∃ p xs, y = .ref p ∧ (SqL K H p xs ∨ SqT K H p xs) ∧ FC x = true ∧ xs.all FC = true ∧ Q (.bl (if neg then !inV x xs else inV x xs)) H
theorem ZX : OpR X (CJ5 .In) (rIn X.K false) := by
 intro pins s σ H x y v u Q I rx ry h
 obtain ⟨p, xs, rfl, hq, fx, fs, q⟩ := h
 cases ry
 rcases hq with hq | hq
 ·obtain ⟨its, r, pl, hz⟩ := I.list hq
  refine SeqAt.in_listAt (eqU x) pl.isList (fun w hw => AZ rx fx r fs w (by simpa using hw)) ⟨.bl _, H, I, rfl, ?_⟩
  rw [show its.toArray.any (eqU x) = its.any (eqU x) by simp, EV r fs]
  exact q
 ·obtain ⟨its, r, pl, hz⟩ := I.tuple hq
  refine SeqAt.in_tupleAt (eqU x) pl (fun w hw => AZ rx fx r fs w (by simpa using hw)) ⟨.bl _, H, I, rfl, ?_⟩
  rw [show its.toArray.any (eqU x) = its.any (eqU x) by simp, EV r fs]
  exact q
theorem OX : OpR X (CJ5 .NotIn) (rIn X.K true) := by
 intro pins s σ H x y v u Q I rx ry h
 obtain ⟨p, xs, rfl, hq, fx, fs, q⟩ := h
 cases ry
 rcases hq with hq | hq
 ·obtain ⟨its, r, pl, hz⟩ := I.list hq
  refine SeqAt.notIn_listAt (eqU x) pl.isList (fun w hw => AZ rx fx r fs w (by simpa using hw)) ⟨.bl _, H, I, rfl, ?_⟩
  rw [show its.toArray.any (eqU x) = its.any (eqU x) by simp, EV r fs]
  exact q
 ·obtain ⟨its, r, pl, hz⟩ := I.tuple hq
  refine SeqAt.notIn_tupleAt (eqU x) pl (fun w hw => AZ rx fx r fs w (by simpa using hw)) ⟨.bl _, H, I, rfl, ?_⟩
  rw [show its.toArray.any (eqU x) = its.any (eqU x) by simp, EV r fs]
  exact q
theorem call_len_seq : CallR X (.builtin "len") (fun xs H Q => ∃ p ys, xs = [.ref p] ∧ (SqL X.K H p ys ∨ SqT X.K H p ys) ∧ Q (.int ys.length) H) := by
 intro pins s σ H xs us Q I r h
 obtain ⟨p, ys, rfl, hq, q⟩ := h
 obtain ⟨u, rfl, rx⟩ := vals1 r
 cases rx
 have hn := GP
 rcases hq with hq | hq
 ·obtain ⟨its, r', pl, hz⟩ := I.list hq
  have hlen := r'.length
  exact Calls.call_len_list pl.isList (by simp only [CF4] <;> lia) ⟨.int ys.length, H, I.tok _, ⟨s.toks + 1, by rw [CF4, hlen]⟩, q⟩
 ·obtain ⟨its, r', pl, hz⟩ := I.tuple hq
  have hlen := r'.length
  exact len_tuple pl (by simp only [CF4] <;> lia) ⟨.int ys.length, H, I.tok _, ⟨s.toks + 1, by rw [CF4, hlen]⟩, q⟩
theorem NT : CallR X (.builtin "len") (fun xs H Q => ∃ z, xs = [.str z] ∧ z.length ≤ CE1 ∧ Q (.int z.length) H) := by
 intro pins s σ H xs us Q I r h
 obtain ⟨z, rfl, hz, q⟩ := h
 obtain ⟨u, rfl, t, rfl⟩ := vals1 r
 have hn := GP
 exact len_str (by lia) ⟨.int z.length, H, I.tok _, ⟨_, rfl⟩, q⟩
theorem CallR.or {f : Value} {r r' : List V → Hp → VK → Prop} (h : CallR X f r) (h' : CallR X f r') : CallR X f (fun xs H Q => r xs H Q ∨ r' xs H Q) := by
 intro pins s σ H xs us Q I rs q
 rcases q with q | q
 ·exact h pins s σ H xs us Q I rs q
 ·exact h' pins s σ H xs us Q I rs q
theorem NV : CallR X (.type "list") (fun xs H Q => ∃ p ys, xs = [.ref p] ∧ (SqL X.K H p ys ∨ SqT X.K H p ys) ∧ ∀ l, H l = none → Q (.ref l) (upd H l (.lst ys))) := by
 intro pins s σ H xs us Q I r h
 obtain ⟨p, ys, rfl, hq, q⟩ := h
 obtain ⟨u, rfl, rx⟩ := vals1 r
 cases rx
 have fin : ∀ (its : List Value), Vals ys its → ys.length ≤ CE1 → ∀ (h' : Heap) (c' : Nat), (∀ b o', s.heap.get? b = some o' → h'.get? b = some o') →
   h'.get? s.heap.objs.size = some { cls := .type "list", dict := none, data := .seq its.toArray c', slots := #[] } → EP X pins σ Q (.ref s.heap.objs.size) { s with heap := h' } := fun its r' hz h' c' kp e =>
  ⟨.ref s.heap.objs.size, _, I.laid (t' := s.toks) kp (CE9 _) (show ObjOk X.prog X.w _ h' _ (.lst ys) from ⟨hz, its, c', r', e⟩), rfl, q _ (I.hok.fresh (CE9 _))⟩
 rcases hq with hq | hq
 ·obtain ⟨its, r', pl, hz⟩ := I.list hq
  have hlen := r'.length
  obtain ⟨o, ho, hc, n, hd⟩ := pl.isList
  exact call_list_seq p (.inl rfl) ho hc hd (fun h' c' kp e => fin its r' hz h' c' kp e) (by simp only [CF4] <;> lia)
 ·obtain ⟨its, r', pl, hz⟩ := I.tuple hq
  have hlen := r'.length
  obtain ⟨o, ho, hc, n, hd⟩ := pl
  exact call_list_seq p (.inr rfl) ho hc hd (fun h' c' kp e => fin its r' hz h' c' kp e) (by simp only [CF4] <;> lia)
theorem KZ : CallR X (.type "tuple") (fun xs H Q => ∃ p ys, xs = [.ref p] ∧ ((SqL X.K H p ys ∧ ∀ l, H l = none → Q (.ref l) (upd H l (.tup ys))) ∨ (SqT X.K H p ys ∧ Q (.ref p) H))) := by
 intro pins s σ H xs us Q I r h
 obtain ⟨p, ys, rfl, h⟩ := h
 obtain ⟨u, rfl, rx⟩ := vals1 r
 cases rx
 rcases h with ⟨hq, q⟩ | ⟨hq, q⟩
 ·obtain ⟨its, r', pl, hz⟩ := I.list hq
  have hlen := r'.length
  refine call_tuple_list pl.isList (fun h' kp => ?_) (by simp only [CF4] <;> lia)
  have I1 : Inv X pins σ H { s with heap := h' } := I.kept (t' := s.toks) kp
  have I2 : Inv X pins σ (upd H h'.objs.size (.tup ys)) { s with heap := h'.push { cls := .type "tuple", data := .seq its.toArray } } :=
   I1.laid (t' := s.toks) (fun b o e => CD5 _ e) (CE9 _) (show ObjOk X.prog X.w _ _ _ (.tup ys) from ⟨hz, its, r', IsTup.new _ _⟩)
  exact ⟨.ref h'.objs.size, _, I2, rfl, q _ (I1.hok.fresh (CE9 _))⟩
 ·obtain ⟨its, r', pl, hz⟩ := I.tuple hq
  exact call_tuple_same pl ⟨.ref p, H, I, rfl, q⟩
def tyV (K : CE0) (T : String) (x : V) (H : Hp) : Prop := match x with
 | .str _ => T = "str"
 | .int _ => T = "int"
 | .ref p => (T = "list" ∧ ∃ xs, SqL K H p xs) ∨ (T = "tuple" ∧ ∃ o, K.lookup p = some o ∧ o.cls = .type "tuple" ∧ o.dict = none) ∨
   (T = "dict" ∧ ((∃ kvs, H p = some (.dK kvs)) ∨ ∃ kvs, H p = some (.dT kvs))) ∨ (T = "set" ∧ ∃ S n, H p = some (.set S n))
 | _ => False
theorem BO2 {σ : St} {T : String} {x : V} {v : Value} (I : Inv X pins σ H s) (r : RelV x v) (ty : tyV X.K T x H) :
  s.TypeIs v T ∧ ∀ a, v = .ref a → ∃ ob, s.heap.get? a = some ob ∧ ob.dict = none := by
 cases x with
 | str z =>
  obtain ⟨t, rfl⟩ := r
  cases (show T = "str" from ty)
  exact ⟨typeIs_str s z t, fun _ e => nomatch e⟩
 | int i =>
  obtain ⟨t, rfl⟩ := r
  cases (show T = "int" from ty)
  exact ⟨typeIs_int s i t, fun _ e => nomatch e⟩
 | ref p =>
  cases r
  rcases ty with ⟨rfl, xs, hq⟩ | ⟨rfl, o, hk, hc, hd⟩ | ⟨rfl, hk⟩ | ⟨rfl, S, n, hk⟩
  ·obtain ⟨its, _, pl, _⟩ := I.list hq
   refine ⟨pl.isList.typeIs, fun a e => ?_⟩
   cases e
   obtain ⟨o, n, e, c, hd, _⟩ := pl
   exact ⟨o, e, hd⟩
  ·refine ⟨⟨o, I.kIn p o hk, hc⟩, fun a e => ?_⟩
   cases e
   exact ⟨o, I.kIn _ o hk, hd⟩
  ·have z : ∃ o, s.heap.get? p = some o ∧ o.ExactDict := by
    rcases hk with ⟨kvs, hk⟩ | ⟨kvs, hk⟩
    ·obtain ⟨_, _, _, _, o, _, _, e, ex, _⟩ := I.hok p _ hk
     exact ⟨o, e, ex⟩
    ·obtain ⟨_, _, _, _, o, _, _, e, ex, _⟩ := I.hok p _ hk
     exact ⟨o, e, ex⟩
   obtain ⟨o, e, ex⟩ := z
   refine ⟨⟨o, e, ex.1⟩, fun a e2 => ?_⟩
   cases e2
   exact ⟨o, e, ex.2.1⟩
  ·obtain ⟨o, _, _, _, e, ex, _⟩ := I.hok p _ hk
   refine ⟨⟨o, e, ex.1⟩, fun a e2 => ?_⟩
   cases e2
   exact ⟨o, e, ex.2.1⟩
 | _ => exact False.elim ty
variable {o e : Expr} {es : List Expr} {to : TE} {t : TA} {name : Str} {apos cpos : Pos} {T id : String} {r : V → List V → Hp → VK → Prop}
end
def MtM (X : Cx) (id : String) (r : V → List V → Hp → VK → Prop) : Prop :=
 ∀ (pins : List (Addr × Obj)) (s : CD9) (σ : St) (H : Hp) (x : V) (xs : List V) (v : Value) (us : List Value) (Q : VK), Inv X pins σ H s → RelV x v → Vals xs us → r x xs H Q →
  wpAny (model X.prog X.w) X.A (call (.builtin id) (v :: us)) (EP X pins σ Q) X.xe s
theorem Vals.one : ∀ {x : V} {us : List Value}, Vals [x] us → ∃ u, us = [u] ∧ RelV x u
 | _, _, .cons r .nil => ⟨_, rfl, r⟩
section
variable {X : Cx} {pins : List (Addr × Obj)} {σ : St} {H : Hp} {s : CD9} {l b : Addr} {xs ys zs : List V}
theorem Inv.lset {its' : List Value} {f : Array Value → Array Value} {t' : Nat} (I : Inv X pins σ H s) (hH : H l = some (.lst xs))
  (e : s.heap.get? l = some { cls := .type "list", data := .seq its.toArray n }) (hf : f its.toArray = its'.toArray) (hv : Vals ys its') (hz : ys.length ≤ CE1) :
  Inv X pins σ (upd H l (.lst ys)) { s with heap := s.heap.update l (CQ0 f), toks := t' } := by
 have q := PySem.IsL.update e f
 rw [hf] at q
 refine I.write (x := l) (e := l) (by rw [hH]; exact trivial) (.inl rfl) (fun b' u hb hu => (CG7 s.heap (CQ0 f) (Ne.symm hb)).trans hu) ⟨_, q⟩ ?_
 exact ⟨hz, its', _, hv, q⟩
theorem Inv.lnew {t' : Nat} (I : Inv X pins σ H s) (hv : Vals ys its) (hz : ys.length ≤ CE1) :
  Inv X pins σ (upd H s.heap.objs.size (.lst ys)) { s with heap := s.heap.push { cls := .type "list", data := .seq its.toArray }, toks := t' } :=
 I.laid (fun _ _ q => CD5 _ q) (CE9 _) ⟨hz, its, 0, hv, CE4 _ rfl⟩
theorem Inv.fresh (I : Inv X pins σ H s) : H s.heap.objs.size = none := I.hok.fresh (CE9 _)
theorem Inv.lstM (I : Inv X pins σ H s) (hH : H l = some (.lst xs)) : xs.length ≤ CE1 ∧ ∃ (its : List Value) (n : Nat), Vals xs its ∧ xs.length = its.length ∧ s.heap.get? l = some { cls := .type "list", data := .seq its.toArray n } := by
 obtain ⟨z, its, n, r, e⟩ := I.hok l _ hH
 exact ⟨z, its, n, r, r.length, e⟩
theorem AJ3 (h : n ≤ CE1) : CM8 n = false := by
 unfold CM8
 exact decide_eq_false (by lia)
end
section
variable {X : Cx}
def AY7 : V → List V → Hp → VK → Prop := fun x vs H Q => ∃ l xs y, x = .ref l ∧ vs = [y] ∧ H l = some (.lst xs) ∧ xs.length < CE1 ∧ Q .non (upd H l (.lst (xs ++ [y])))
theorem MV : MtM X "list.append" AY7 := by
 intro pins s σ H x vs v us Q I rx rv h
 obtain ⟨l, xs, y, rfl, rfl, hH, hz, q⟩ := h
 cases rx
 obtain ⟨u, rfl, ru⟩ := rv.one
 obtain ⟨z, its, n, r, hl, e⟩ := I.lstM hH
 refine CP4 CW1 ⟨_, e, rfl⟩ F.entry_list_append (F.args_list_append_2 _ _) (PySem.list_append l its.toArray n u (by rw [CF4]; lia)) ⟨e, ?_⟩
 refine ⟨.non, _, I.lset (its' := its ++ [u]) hH e (by simp) (r.append (.cons ru .nil)) ?_, rfl, q⟩
 rw [CE6, CT4]
 lia
def AY8 : V → List V → Hp → VK → Prop := fun x vs H Q => ∃ l b xs zs, x = .ref l ∧ vs = [.ref b] ∧ H l = some (.lst xs) ∧ H b = some (.lst zs) ∧ xs.length + zs.length ≤ CE1 ∧ Q .non (upd H l (.lst (xs ++ zs)))
theorem ZV : MtM X "list.extend" AY8 := by
 intro pins s σ H x vs v us Q I rx rv h
 obtain ⟨l, b, xs, zs, rfl, rfl, hH, hB, hz, q⟩ := h
 cases rx
 obtain ⟨u, rfl, ru⟩ := rv.one
 cases ru
 obtain ⟨z, its, n, r, hl, e⟩ := I.lstM hH
 obtain ⟨z2, its2, n2, r2, hl2, e2⟩ := I.lstM hB
 have hsz : its.toArray.size + its2.toArray.size ≤ CE1 := by rw [CF4, CF4]; lia
 have hlong : ¬ (!its.toArray.isEmpty && CM8 (its.toArray.size + its2.toArray.size)) = true := by
  rw [AJ3 hsz, CQ4]
  exact CE3
 refine CP4 CS4 ⟨_, e, rfl⟩ F.entry_list_extend (F.args_list_extend_2 _ _)
  (AutoSeq1.list_extend_list_list_0 l its.toArray n b its2.toArray n2 hlong (by rw [CF4]; lia) (by lia)) ⟨e, e2, ?_⟩
 refine ⟨.non, _, I.lset (its' := its ++ its2) hH e (by simp) (r.append r2) ?_, rfl, q⟩
 rw [CE6]
 lia
end
section
variable {prog : CI2} {w : World} {A : CL2} {E : Value → CD9 → Prop} {s : CD9}
end
section
variable {X : Cx}
end
end L2
namespace Att
open PySem PySem.W PySem.Calls PyProof.Rows
theorem HQ {P : Params} : ∀ (ns : List Int) (vs : List Value), WellAll P h vs (ns.map WData.int) → IntsAre vs ns := by
 intro ns
 induction ns with
 | nil =>
  intro vs w
  rw [CT3] at w
  cases w
  exact .nil
 | cons n ns ih =>
  intro vs w
  rw [CG9] at w
  cases w with
  | cons a b =>
   cases a
   exact .cons _ _ (ih _ b)
theorem AC1 {l : OpenLaw} (hn : l.most = some n) {P : Params} {args : List WData} {vals : List Value}
  (hpre : l.row.toRowW.claim.pre args = true) (hwl : WellAll P h vals args) :
  ∃ a vs ns, vals = [Value.ref a] ∧ args = [WData.list (ns.map WData.int)] ∧ h.get? a = some { cls := .type "list", data := .seq vs.toArray } ∧ IntsAre vs ns ∧ ns.length ≤ n := by
 have hsh : WShape.hasAll [] args [.list .int] = true := (pre_splitW hpre).1
 have hc : l.pre.holds [] { args := args } = true := (pre_splitW hpre).2
 obtain ⟨d, r, rfl, h1, h2⟩ := hasAllW_cons hsh
 obtain rfl := hasAllW_nil h2
 obtain ⟨xs, rfl, h3⟩ := hasW_list h1
 obtain ⟨ns, rfl⟩ := items_int h3
 have hlen : ns.length ≤ n := by
  unfold OpenLaw.pre at hc
  have h4 : (WTm.not (.lt (.lit (.int (n : Int))) (.len (.arg 0)))).holds [] { args := [.list (ns.map .int)] } = true := by
   have h4 := (holds_andW hc).1
   rw [hn] at h4
   exact h4
  have h5 := condW_of h4 (w_not (w_lt w_lit (w_len_list (w_arg rfl))))
  rw [CD8] at h5
  refine Nat.le_of_not_lt fun q => ?_
  have q' : (n : Int) < ((ns.length : Nat) : Int) := by lia
  first
   | (rw [decide_eq_true q'] at h5; exact absurd h5 (by decide))
   | (simp at h5; lia)
 cases hwl with
 | cons w1 w2 =>
  cases w2
  cases w1 with
  | list ho hall => exact ⟨_, _, ns, rfl, rfl, ho, HQ ns _ hall, hlen⟩
theorem AB2 (l : OpenLaw) (args : List WData) : l.row.toRowW.claim.post args (.bool true) args = true :=
 postW_of (r := l.row.toRowW) (X := (true == true))
  (show WShape.has [] (.bool true) .bool = true by first | rfl | decide | simp [WShape.has, WShape.arms, WShape.armsAll])
  (show (WTm.eq .res (.lit (.bool true))).value [] { args := args, res := some (.bool true), after := args } = some (.bool (true == true)) from w_eq_bool (w_res rfl) w_lit) rfl
theorem attach_call {l : OpenLaw} {q : CI2} {XP : (Str → Option Value) → Heap → Prop} {YP : World → Heap → Prop} {d : DefRec}
  (hn : l.most = some n) (hdf : d.params.defaults = [])
  (call : ∀ (w : World) (s₀ s₁ : CD9) (mg mb : Str → Option Value) (fa : Addr) (o : Obj) (pm cd doc : Value) (a : Addr) (vs : List Value) (ns : List Int),
   Ground q loose [] XP w s₀ mg mb s₁.heap → YP w s₁.heap →
   s₁.heap.get? fa = some o → o.data = .func (docDef d.name d.params d.body d.scope pm cd doc) → s₁.heap.CodeRec cd d.name → mg d.name = some (.ref fa) →
   s₁.heap.get? a = some { cls := .type "list", data := .seq vs.toArray } → IntsAre vs ns → ns.length ≤ n → s₁.gens = #[] →
   codeAny (model l.prog w) callerA (.call (.ref fa) ⟨[.ref a], []⟩) (fun r s' => r = .ok (.ret (.bool true)) ∧ OldK s₁.heap s'.heap ∧ s'.os = s₁.os ∧ AllBare s'.gens) s₁) :
  WalkO q loose XP YP l.row.toRowW d [] (fun f vs => PySem.call f vs) := by
 intro w s₀ s₁ mg mb G Y fa o pm cd doc dV kV ho hd hcd hD hmg hg args vals as hpre hlay hrd hwl hlo
 obtain rfl : dV = .none := Dflts.none hD hdf
 obtain rfl : kV = .none := Dflts.noKw hD
 obtain ⟨a, vs, ns, rfl, rfl, hobj, hints, hlen⟩ := AC1 hn hpre hwl
 refine enter_call (CU1 (call w s₀ s₁ mg mb fa o pm cd doc a vs ns G Y ho (fd_plain hd) hcd hmg hobj hints hlen hg) fun r s' hq => ?_)
 obtain ⟨rfl, h2, h3, h4⟩ := hq
 exact ⟨.inl ⟨.bool true, .bool true, [], rfl, fun _ => rfl, .bool true, AB2 l _, fun _ => ⟨List.Pairwise.nil, fun _ hm => (nomatch hm)⟩⟩, h2, h3, h4⟩
section
variable {prog : CI2} {w : World} {A : CL2} {E : Value → CD9 → Prop} {s : CD9} {K : Frag}
end
end Att
namespace L2
open PySem PySem.Spec PyProof.Rows
theorem NN : ∀ {vs : List Value} {ns : List Int}, IntsAre vs ns → Vals (ns.map V.int) vs
 | _, _, .nil => .nil
 | _, _, .cons n t h => .cons ⟨t, rfl⟩ (NN h)
def BC6 (H : Hp) : Prop := ∀ b, H b = none ∨ ∃ o xs, H b = some (.frz o (.lst xs))
theorem AI0 {mb : Str → Option Value} {CX : CXT} {fa : Addr} {sp : Sp} {s₁ : CD9} {vs : List Value}
  (KX : K.In s₁.heap) (hns : s₁.heap.Ns CG1 mg) (hb : s₁.heap.Ns builtinsNs mb) (hbb : ∀ x : Str, x ≠ "__name__" → mb x = CJ4 x) (hlim : s₁.heap.NoLimit) (hg : s₁.gens = #[])
  (ha : s₁.heap.get? a = some { cls := .type "list", data := .seq vs.toArray }) (hi : IntsAre vs ns) (hl : ns.length ≤ CE1) (hr : Room k callerA)
  (F : ∀ base : Heap, K.In base → base.Ns CG1 mg → FnOk P w K mg base CX k fa fd [x] sp) (hbind : ∀ (s : CD9) (u : Value), BindsTo s fd ⟨[u], []⟩ [(x, u)])
  (hsp : ∀ H : Hp, BC6 H → SqL K H a (ns.map V.int) → sp [.ref a] H (fun v _ => v = .bl true) fun _ _ _ => False)
  (hCX : ∀ H e s', CX [] H s₁ (fun _ _ _ => False) e s' → False) :
  codeAny (model P w) callerA (.call (.ref fa) ⟨[.ref a], []⟩) (fun r s' => r = .ok (.ret (.bool true)) ∧ OldK s₁.heap s'.heap ∧ s'.os = s₁.os ∧ AllBare s'.gens) s₁ := by
 have rv := NN hi
 have lenV := hi.length
 have core : ∀ H : Hp, BC6 H → SqL K H a (ns.map V.int) → HOk P w H s₁.heap → (∀ b, H b ≠ none → b = a) → (H a ≠ none → K.lookup a = none) →
   codeAny (model P w) callerA (.call (.ref fa) ⟨[.ref a], []⟩) (fun r s' => r = .ok (.ret (.bool true)) ∧ OldK s₁.heap s'.heap ∧ s'.os = s₁.os ∧ AllBare s'.gens) s₁ := by
  intro H hO hS hok hA hK
  have base_of : ∀ {b : Addr} {o : Obj}, s₁.heap.get? b = some o → H b = none → (OH s₁.heap H).get? b = some o := fun e n => AG9 e n
  have noA : ∀ {b : Addr} {o : Obj} {es : Array DictEntry} {ep : Nat}, s₁.heap.get? b = some o → o.data = .dict es ep → H b = none := fun {b o es ep} e d => by
   cases q : H b with
   | none => rfl
   | some u =>
    have e' : b = a := hA b (by rw [q]; simp)
    subst e'
    rw [ha] at e; cases e
    have d' : Data.seq vs.toArray _ = Data.dict es ep := d
    cases d'
  have nsK : ∀ {b : Addr} {m : Str → Option Value}, s₁.heap.Ns b m → (OH s₁.heap H).Ns b m := fun {b m} ⟨o, es, ep, e, d, r⟩ => ⟨o, es, ep, base_of e (noA e d), d, r⟩
  have hKb : K.In (OH s₁.heap H) := fun b o e => base_of (KX b o e) (by
   cases q : H b with
   | none => rfl
   | some u =>
    have e' : b = a := hA b (by rw [q]; simp)
    subst e'
    rw [hK (by rw [q]; simp)] at e; cases e)
  have hM : Mod K mg (OH s₁.heap H) := ⟨hKb, nsK hns, ⟨mb, nsK hb, hbb⟩, let ⟨mc, h1, h2⟩ := hlim; ⟨mc, nsK h1, h2⟩⟩
  have e0 : AQ6 P w K mg (OH s₁.heap H) callerA [] s₁ H := ⟨rfl, hM, fun b o e => AT9 e, Nat.le_of_eq (ZJ _ _), trivial, fun b hb => absurd (show b ∈ ([] : List Addr) from hb) (by simp), hok, .of_eq hg⟩
  refine CU1 ((F _ hKb (nsK hns)).run callerA [] s₁ H ⟨[.ref a], []⟩ [.ref a] [.ref a] _ _ hr e0 (hbind s₁ (.ref a)) (.cons rfl .nil) (hsp H hO hS)) fun r s' h => ?_
  cases r with
  | error e => exact (hCX H e s' h).elim
  | ok fl =>
   cases fl with
   | next => exact False.elim h
   | brk => exact False.elim h
   | cont => exact False.elim h
   | ret u =>
    obtain ⟨v, H', os, bare, un, hok', r', q⟩ := h
    have q' : v = .bl true := q
    subst q'
    obtain rfl : u = Value.bool true := r'
    refine ⟨rfl, OldK.of_keep fun b o e => ?_, os, bare⟩
    cases q : H b with
    | none => exact un.keep b o e q (by intro z; exact absurd (show b ∈ ([] : List Addr) from z) (by simp)) (by simp)
    | some u =>
     rcases hO b with z | ⟨ob, xs, z⟩
     ·rw [q] at z; cases z
     ·have z2 := un.frzs b ob _ z
      obtain ⟨e1, _⟩ := hok b _ z
      obtain ⟨e2, _⟩ := hok' b _ z2
      rw [e] at e1; cases e1
      exact e2
 cases hk : K.lookup a with
 | some o =>
  have e := KX a o hk
  rw [ha] at e
  cases e
  refine core (fun _ => none) (fun _ => .inl rfl) (.inr ⟨_, vs.toArray, _, hk, rfl, rfl, rfl, by rw [CF4, lenV]; exact hl, by simpa using rv⟩) (fun b u z => by have z' : (none : Option HO) = some u := z; cases z') (fun b z => absurd rfl z) fun z => absurd rfl z
 | none =>
  refine core (fun b => if b = a then some (.frz { cls := .type "list", data := .seq vs.toArray } (.lst (ns.map V.int))) else none) (fun b => ?_) (.inl (.inr ⟨{ cls := .type "list", data := .seq vs.toArray }, if_pos rfl⟩)) (fun b u z => ?_) (fun b z => ?_) fun _ => hk
  ·by_cases hb : b = a
   ·exact .inr ⟨_, _, if_pos hb⟩
   ·exact .inl (if_neg hb)
  ·by_cases hb : b = a
   ·have z' := (if_pos hb).symm.trans z
    cases z'
    subst hb
    exact ⟨ha, by rw [CD8]; exact hl, vs, _, rv, ha⟩
   ·have z' := (if_neg hb).symm.trans z
    cases z'
  ·by_cases hb : b = a
   ·exact hb
   ·exact absurd (if_neg hb) z
theorem BA5 {l : PySem.W.OpenLaw} {q : CI2} {XP : (Str → Option Value) → Heap → Prop} {YP : World → Heap → Prop} {d : DefRec} {K : Params → CE0} {CX : World → CXT} {sp : World → Sp}
  (hn : l.most = some n) (hn2 : n ≤ CE1) (hdf : d.params.defaults = []) (hr : Room k callerA)
  (hY : ∀ (w : World) (h : Heap), YP w h → (K w.params).In h)
  (F : ∀ (w : World) (mg : Str → Option Value) (fa : Addr) (h : Heap), (K w.params).In h → h.Ns CG1 mg → mg d.name = some (.ref fa) →
   ∃ fd : CH0, (∀ (s : CD9) (u : Value), BindsTo s fd ⟨[u], []⟩ [(x, u)]) ∧
    ∀ base : Heap, (K w.params).In base → base.Ns CG1 mg → FnOk l.prog w (K w.params) mg base (CX w) k fa fd [x] (sp w))
  (hsp : ∀ (w : World) (H : Hp) (a : Addr) (ns : List Int), ns.length ≤ n → BC6 H → SqL (K w.params) H a (ns.map V.int) → sp w [.ref a] H (fun v _ => v = .bl true) fun _ _ _ => False)
  (hCX : ∀ (w : World) (H : Hp) (s : CD9) (e : Value) (s' : CD9), CX w [] H s (fun _ _ _ => False) e s' → False) :
  PySem.W.WalkO q loose XP YP l.row.toRowW d [] (fun f vs => PySem.call f vs) := by
 refine Att.attach_call hn hdf fun w s₀ s₁ mg mb fa o pm cd doc a vs ns G Y ho hd hcd hmg hobj hints hlen hg => ?_
 have KX := hY w _ Y
 obtain ⟨fd, hb, hF⟩ := F w mg fa _ KX G.T.g hmg
 exact AI0 KX G.T.g G.T.b G.T.builtins G.T.nolimit hg hobj hints (CI6 hlen hn2) hr hF hb (fun H hO hS => hsp w H a ns hlen hO hS) fun H e s' => hCX w H s₁ e s'
def N4 (s : Stmt) : Arguments := match s with
 | .FunctionDef _ a _ _ _ _ _ _ _ _ => a
 | _ => { posonlyargs := [], args := [], vararg := none, kwonlyargs := [], kw_defaults := [], kwarg := none, defaults := [] }
def I0 (s : Stmt) : List Stmt := match s with
 | .FunctionDef _ _ b _ _ _ _ _ _ _ => b
 | _ => []
def A9 (s : Stmt) : Scope := match s with
 | .FunctionDef _ _ _ _ _ _ sc _ _ _ => sc
 | _ => { kind := .function, names := [], isGenerator := false, isCoroutine := false }
abbrev CX0 : CXT := fun _ _ _ _ _ _ => False
abbrev E0 : XK := fun _ _ _ => False
theorem BV3 {X : Cx} : UG CX0 X E0 := fun _ _ _ _ _ _ _ h => h.elim
structure Fun (K : CE0) (x qual : Str) (st : Stmt) (f : Addr) (fd : CH0) : Prop where
 ex : ∃ (oc : Value) (od : Option Addr) (kV doc pm : Value) (an : Option Addr) (cdv ct : Value) (osl : Array (Option Value)),
  fd = CM0 x qual (N4 st) (I0 st) (A9 st) .none kV doc pm an cdv ct ∧ K.lookup f = some ⟨oc, od, .func fd, osl⟩ ∧ CS0 K cdv qual = true
 kp : CP9 K (.ref f) = true
section
variable {P : CI2} {w : World} {K : CE0} {mg : Str → Option Value} {base : Heap}
theorem Fun.ok {f : Addr} {sp : Sp} (F : Fun K x qual st f fd) (S : C0 N ps (A9 st)) (len : ∀ vs H Q E, sp vs H Q E → vs.length = ps.length)
  (hbody : ∀ (cdv : Value) (A : CL2) (outer : List Env) (s : CD9) (H : Hp) (vs : List V) (Q : VK) (E : XK), Room k (A.deeper (envOfC qual (A9 st) s.heap.objs.size f cdv)) → sp vs H Q E →
   ∃ t, PSs (UK CX0 P w K mg base N qual (A9 st) f cdv A outer s H E).nox (I0 st) t ∧ t { nx := fun _ H' => Q .non H', rt := Q } (start N vs) H) : FnOk P w K mg base CX0 (k + 1) f fd ps sp := by
 obtain ⟨oc, od, kV, doc, pm, an, cdv, ct, osl, rfl, lk, hcd⟩ := F.ex
 refine BP7 lk hcd S len fun A outer s H vs Q E hr hsp => ?_
 obtain ⟨t, h, q⟩ := hbody cdv A outer s H vs Q E hr hsp
 exact ⟨t, h.nox, q⟩
theorem Fun.binds {f : Addr} (F : Fun K x qual st f fd)
  (h : ∀ (kV doc pm : Value) (an : Option Addr) (cdv ct : Value) (us : List Value), us.length = ps.length → bindArgs (CM0 x qual (N4 st) (I0 st) (A9 st) .none kV doc pm an cdv ct) ⟨us, []⟩ = pure (ps.zip us)) : Binds K fd ps [] := by
 obtain ⟨oc, od, kV, doc, pm, an, cdv, ct, osl, rfl, lk, hcd⟩ := F.ex
 exact .all (h kV doc pm an cdv ct)
theorem AG5 {f : Addr} {kV : Value} (l : K.lookup f = some ⟨oc, od, .func (CM0 x qual (N4 st) (I0 st) (A9 st) .none kV doc pm an cdv ct), osl⟩)
  (c : CS0 K cdv qual = true) (k : CP9 K (.ref f) = true) : Fun K x qual st f (CM0 x qual (N4 st) (I0 st) (A9 st) .none kV doc pm an cdv ct) := ⟨⟨oc, od, kV, doc, pm, an, cdv, ct, osl, rfl, l, c⟩, k⟩
end
section
variable {X : Cx}
end
section
variable {κ : Type} [DecidableEq κ]
def BT (kvs : List (κ × V)) (k : κ) : Option V := (kvs.find? fun kv => decide (kv.1 = k)).map (·.2)
def putK (kvs : List (κ × V)) (k : κ) (v : V) : List (κ × V) :=
 if (kvs.any fun kv => decide (kv.1 = k)) = true then kvs.map (fun kv => if kv.1 = k then (kv.1, v) else kv) else kvs ++ [(k, v)]
theorem KS {p : κ × V} {r : List (κ × V)} {k : κ} (e : p.1 = k) : BT (p :: r) k = some p.2 := by simp [BT, CK5, e]
theorem KR {p : κ × V} {r : List (κ × V)} {k : κ} (e : ¬ p.1 = k) : BT (p :: r) k = BT r k := by simp [BT, CK5, e]
theorem TX (k : κ) : ∀ kvs : List (κ × V), (kvs.any fun kv => decide (kv.1 = k)) = (BT kvs k).isSome
 | [] => rfl
 | p :: r => by
  rw [CP8]
  by_cases e : p.1 = k
  ·simp only [KS e, decide_eq_true e, Bool.true_or, Option.isSome_some]
  ·rw [KR e, decide_eq_false e, Bool.false_or]; exact TX k r
theorem S1 (kvs : List (κ × V)) (k : κ) (v : V) : (putK kvs k v).length ≤ kvs.length + 1 := by
 unfold putK
 split
 ·rw [CD8]; lia
 ·rw [CE6, CE7, CI5]; lia
theorem RelO.isSome_eq {o : Option V} {u : Option Value} (r : RelO o u) : o.isSome = u.isSome := by
 cases o with
 | none => cases u with
  | none => rfl
  | some _ => exact (show False from r).elim
 | some _ => cases u with
  | none => exact (show False from r).elim
  | some _ => rfl
theorem RelO.getD {o : Option V} {u : Option Value} {d : V} {d' : Value} (r : RelO o u) (rd : RelV d d') : RelV (o.getD d) (u.getD d') := by
 cases o with
 | none => cases u with
  | none => exact rd
  | some _ => exact (show False from r).elim
 | some _ => cases u with
  | none => exact (show False from r).elim
  | some _ => exact r
theorem KV.val {kvs : List (κ × V)} {vs : List (κ × Value)} (r : KV kvs vs) (k : κ) : RelO (BT kvs k) (CX1 vs k) := by
 unfold KV at r
 induction r with
 | nil => exact True.intro
 | @cons p q ps qs h t ih =>
  obtain ⟨h1, h2⟩ := h
  by_cases e : p.1 = k
  ·have e' : q.1 = k := h1.symm.trans e
   have b : CX1 (q :: qs) k = some q.2 := by simp [CX1, CK5, e']
   rw [KS e, b]; exact h2
  ·have e' : ¬ q.1 = k := fun z => e (h1.trans z)
   have b : CX1 (q :: qs) k = CX1 qs k := by simp [CX1, CK5, e']
   rw [KR e, b]; exact ih
theorem KV.any {kvs : List (κ × V)} {vs : List (κ × Value)} (r : KV kvs vs) (k : κ) : (kvs.any fun kv => decide (kv.1 = k)) = vs.any fun kv => decide (kv.1 = k) := by
 unfold KV at r
 induction r with
 | nil => rfl
 | cons h t ih => rw [CP8, CP8, ih, h.1]
theorem KV.repl {kvs : List (κ × V)} {vs : List (κ × Value)} (r : KV kvs vs) (k : κ) {y : V} (ry : RelV y u) :
  KV (kvs.map fun kv => if kv.1 = k then (kv.1, y) else kv) (vs.map fun kv => if kv.1 = k then (kv.1, u) else kv) := by
 unfold KV at r ⊢
 induction r with
 | nil => exact .nil
 | @cons p q ps qs h t ih =>
  rw [CG9, CG9]
  refine .cons ?_ ih
  obtain ⟨h1, h2⟩ := h
  by_cases e : p.1 = k
  ·rw [if_pos e, if_pos (h1.symm.trans e)]; exact ⟨h1, ry⟩
  ·rw [if_neg e, if_neg (fun z => e (h1.trans z))]; exact ⟨h1, h2⟩
theorem KV.put {kvs : List (κ × V)} {vs : List (κ × Value)} (r : KV kvs vs) (k : κ) {y : V} (ry : RelV y u) : KV (putK kvs k y) (stored vs k u) := by
 unfold putK stored
 rw [r.any k]
 by_cases e : (vs.any fun kv => decide (kv.1 = k)) = true
 ·rw [if_pos e, if_pos e]; exact r.repl k ry
 ·rw [if_neg e, if_neg e]; exact Paired.snoc r ⟨rfl, ry⟩
theorem KV.length {kvs : List (κ × V)} {vs : List (κ × Value)} (r : KV kvs vs) : kvs.length = vs.length := Paired.length r
end
theorem HI {k : Key} (r : RelV (kV k) u) : (D9 P w).is k u = true := by
 cases k with
 | inl i => obtain ⟨t, e⟩ := (show ∃ t, u = Value.int i t from r); subst e; exact RK P w i t
 | inr x => obtain ⟨t, e⟩ := (show ∃ t, u = Value.str x t from r); subst e; exact BA P w x t
theorem MS {P : CI2} {w : World} : ∀ {ks : List Key} {us : List Value}, Vals (ks.map kV) us → ItemsAre (D9 P w) ks us
 | [], _, r => by rw [CT3] at r; cases r; exact .nil
 | k :: ks, _, r => by
  rw [CG9] at r
  cases r with
  | cons h t => exact .cons (HI h) (MS t)
abbrev KT (H : Hp) : List (List Key × V) → List (List Key × Addr × Value) → Prop := Paired fun p q => p.1 = q.1 ∧ H q.2.1 = some (.tup (p.1.map kV)) ∧ RelV p.2 q.2.2
theorem KT.val {kvs : List (List Key × V)} (r : KT H kvs xs) (k : List Key) : RelO (BT kvs k) ((atKey xs k).map (·.2)) := by
 induction r with
 | nil => exact True.intro
 | @cons p q ps qs h t ih =>
  obtain ⟨h1, _, h2⟩ := h
  by_cases e : p.1 = k
  ·have e' : q.1 = k := h1.symm.trans e
   have b : atKey (q :: qs) k = some q.2 := by simp [atKey, CK5, e']
   rw [KS e, b]; exact h2
  ·have e' : ¬ q.1 = k := fun z => e (h1.trans z)
   have b : atKey (q :: qs) k = atKey qs k := by simp [atKey, CK5, e']
   rw [KR e, b]; exact ih
theorem KT.repl {kvs : List (List Key × V)} (r : KT H kvs xs) (k : List Key) {y : V} (ry : RelV y u) :
  KT H (kvs.map fun kv => if kv.1 = k then (kv.1, y) else kv) (xs.map (putAt k u)) := by
 induction r with
 | nil => exact .nil
 | @cons p q ps qs h t ih =>
  rw [CG9, CG9]
  refine .cons ?_ ih
  obtain ⟨h1, h2, h3⟩ := h
  unfold putAt
  by_cases e : p.1 = k
  ·rw [if_pos e, if_pos (h1.symm.trans e)]; exact ⟨h1, h2, ry⟩
  ·rw [if_neg e, if_neg (fun z => e (h1.trans z))]; exact ⟨h1, h2, h3⟩
theorem KT.put {kvs : List (List Key × V)} (r : KT H kvs xs) (k : List Key) {y : V} (hb : H b = some (.tup (k.map kV))) (ry : RelV y u) :
  KT H (putK kvs k y) (storedH xs k b u) := by
 have e : (kvs.any fun kv => decide (kv.1 = k)) = (atKey xs k).isSome := by
  rw [TX, (r.val k).isSome_eq, Option.isSome_map]
 unfold putK storedH
 rw [e]
 by_cases q : (atKey xs k).isSome = true
 ·rw [if_pos q, if_pos q]; exact r.repl k ry
 ·rw [if_neg q, if_neg q]; exact Paired.snoc r ⟨rfl, hb, ry⟩
theorem KT.keeps {H' : Hp} {kvs : List (List Key × V)} (r : KT H kvs xs) (ht : ∀ b ys, H b = some (.tup ys) → H' b = some (.tup ys)) : KT H' kvs xs :=
 Paired.mapP r fun _ _ z => ⟨z.1, ht _ _ z.2.1, z.2.2⟩
section
variable {P : CI2} {w : World} {H : Hp} {h : Heap} {a : Addr}
theorem BC2 {u : HO} (ok : HOk P w H h) (e : Rd H a u) : ObjOk P w H h a u := e.ok ok
theorem ME (ok : HOk P w H h) (e : Rd H a (.dK kvs)) : kvs.length ≤ CE1 ∧ (a == CO4) = false ∧ ∃ vs, KV kvs vs ∧ h.DictOf (D9 P w) a vs :=
 show ObjOk P w H h a (.dK kvs) from BC2 ok e
theorem XA (ok : HOk P w H h) (e : H a = some (.dK kvs)) : kvs.length ≤ CE1 ∧ (a == CO4) = false ∧ ∃ vs, KV kvs vs ∧ h.DictOf (D9 P w) a vs := ME ok (.inl e)
theorem OI {ks : List Key} (ok : HOk P w H h) (e : H a = some (.tup (ks.map kV))) : (tupleKind (D9 P w)).is h ks a := by
 obtain ⟨_, its, r, o, h1, h2, n, h3⟩ := (show ObjOk P w H h a (.tup (ks.map kV)) from ok a _ e)
 exact ⟨o, its.toArray, n, h1, h2, h3, by simpa using MS r⟩
theorem XC {kvs : List (List Key × V)} (ok : HOk P w H h) (e : Rd H a (.dT kvs)) : kvs.length ≤ CE1 ∧ (a == CO4) = false ∧
  ∃ xs, KT H kvs xs ∧ h.DictOfH (tupleKind (D9 P w)) a xs := by
 obtain ⟨z, y, xs, r, o, es, ep, h1, h2, h3, h4, h5⟩ := (show ObjOk P w H h a (.dT kvs) from BC2 ok e)
 refine ⟨z, y, xs, r, o, es, ep, h1, h2, h3, h4, fun x hx => ?_, h5⟩
 have all : ∀ {l : List (List Key × V)} {m : List (List Key × Addr × Value)}, KT H l m → ∀ x ∈ m, (tupleKind (D9 P w)).is h x.1 x.2.1 := by
  intro l m q
  induction q with
  | nil => intro x hx; exact nomatch hx
  | @cons p q ps qs hq t ih =>
   intro x hx
   rcases CF9.mp hx with e | hx
   ·subst e
    exact OI ok (by rw [← hq.1]; exact hq.2.1)
   ·exact ih x hx
 exact all r x hx
theorem BP2 {kvs : List (List Key × V)} (ok : HOk P w H h) (e : H a = some (.dT kvs)) : kvs.length ≤ CE1 ∧ (a == CO4) = false ∧
  ∃ xs, KT H kvs xs ∧ h.DictOfH (tupleKind (D9 P w)) a xs := XC ok (.inl e)
end
def AQ5 (H : Hp) (a : Addr) (y : V) (r : Option V) : Prop :=
 (∃ kvs k, Rd H a (.dK kvs) ∧ y = kV k ∧ r = BT kvs k) ∨ ∃ kvs k b, Rd H a (.dT kvs) ∧ y = .ref b ∧ H b = some (.tup (k.map kV)) ∧ r = BT kvs k
def BO8 (H : Hp) (a : Addr) (y v : V) (H' : Hp) : Prop :=
 (∃ kvs k, H a = some (.dK kvs) ∧ y = kV k ∧ kvs.length < CE1 ∧ H' = upd H a (.dK (putK kvs k v))) ∨
 ∃ kvs k b, H a = some (.dT kvs) ∧ y = .ref b ∧ H b = some (.tup (k.map kV)) ∧ kvs.length < CE1 ∧ H' = upd H a (.dT (putK kvs k v))
section
variable {X : Cx} {pins : List (Addr × Obj)} {σ : St} {H : Hp} {s : CD9} {a : Addr} {y v : V} {u r : Value} {o : Option V} {A : CL2} {E : Value → CD9 → Prop}
theorem Inv.big (I : Inv X pins σ H s) : CO4 < s.heap.objs.size := by
 have h : CG1 < s.heap.objs.size := (I.mod.glob.keeps I.bk).lt
 exact Nat.lt_trans (by decide) h
theorem ZE (hu : A.units + 1 < cLine) (I : Inv X pins σ H s) (g : AQ5 H a y (some v)) (ry : RelV y u) (h : ∀ w' s', Inv X pins σ H s' → RelV v w' → Q w' s') :
  wpAny (model X.prog X.w) A (getItem (.ref a) u) Q E s := by
 rcases g with ⟨kvs, k, e, ey, l⟩ | ⟨kvs, k, b, e, ey, eb, l⟩
 ·subst ey
  obtain ⟨z, hd, vs, rel, dd⟩ := ME I.hok e
  obtain ⟨w', hw, rw'⟩ := RelO.some_of (v := v) (o := CX1 vs k) (by rw [l]; exact rel.val k)
  exact wpAny_getItem_of (HI ry) dd.mapOf hw (h w' _ (I.tok _) rw')
 ·subst ey
  cases (show u = Value.ref b from ry)
  obtain ⟨z, hd, xs, rel, dd⟩ := XC I.hok e
  obtain ⟨w', hw, rw'⟩ := RelO.some_of (v := v) (o := (atKey xs k).map (·.2)) (by rw [l]; exact rel.val k)
  obtain ⟨p, hp, hp2⟩ := Option.map_eq_some_iff.mp hw
  refine wpAny_getItem_heap (tupleKind_room_in1 hu) (OI I.hok eb) dd hp ?_
  rw [hp2]
  exact h w' _ (I.tok _) rw'
theorem HZ {t' : Nat} {ob : HO} (I : Inv X pins σ H s) (mu : Mut (H a)) (hs : CK3 a s.heap h') (he : ∃ q, h'.get? a = some q) (new : ObjOk X.prog X.w (upd H a ob) h' a ob) :
  Inv X pins σ (upd H a ob) { s with heap := h', toks := t' } :=
 I.write (x := a) (e := a) mu (.inl rfl) (fun b q hb z => (hs.2 b hb).trans z) he new
theorem UN {H' : Hp} {vs : List (Key × Value)} (z : kvs.length ≤ CE1) (hd : (a == CO4) = false) (rel : KV kvs vs) (dd : h'.DictOf (D9 P w) a vs) :
  ObjOk P w H' h' a (.dK kvs) := ⟨z, hd, vs, rel, dd⟩
theorem ZF {H' : Hp} {Q : Unit → CD9 → Prop} (hu : A.units + 1 < cLine) (I : Inv X pins σ H s) (g : BO8 H a y v H') (ry : RelV y u) (rv : RelV v r) (h : ∀ s', Inv X pins σ H' s' → Q () s') :
  wpAny (model X.prog X.w) A (setItem (.ref a) u r) Q E s := by
 rcases g with ⟨kvs, k, e, ey, l, eH⟩ | ⟨kvs, k, b, e, ey, eb, l, eH⟩
 ·subst ey eH
  obtain ⟨z, hd, vs, rel, dd⟩ := XA I.hok e
  have hz : vs.length ≤ CE1 := by rw [← rel.length]; exact z
  have hl : (putK kvs k v).length ≤ CE1 := by have := S1 kvs k v; lia
  refine wpAny_setItem_pairs (hsz := hz) (HI ry) dd fun h' dd' hs => h _ ?_
  have he : ∃ q, h'.get? a = some q := let ⟨q, _, _, hq, _⟩ := dd'; ⟨q, hq⟩
  exact HZ I (by rw [e]; exact True.intro) hs he (UN hl hd (rel.put k rv) dd')
 ·subst ey eH
  cases (show u = Value.ref b from ry)
  obtain ⟨z, hd, xs, rel, dd⟩ := BP2 I.hok e
  have hz : xs.length ≤ CE1 := by rw [← Paired.length rel]; exact z
  have hl : (putK kvs k v).length ≤ CE1 := by have := S1 kvs k v; lia
  refine wpAny_setItem_heap (hsz := hz) (tupleKind_room_in1 hu) (OI I.hok eb) dd fun h' dd' hs => h _ ?_
  obtain ⟨q, es, ep, hq, h2, h3, h4, _, h5⟩ := dd'
  refine HZ I (by rw [e]; exact True.intro) hs ⟨q, hq⟩ ⟨hl, hd, _, (rel.put k eb rv).keeps fun c ys ec => ?_, q, es, ep, hq, h2, h3, h4, h5⟩
  rw [D1 (BQ7 ec e (fun z => nomatch z))]
  exact ec
end
section
variable {X : Cx} {pins : List (Addr × Obj)} {σ : St} {H : Hp} {s : CD9} {a : Addr} {kvs : List (Key × V)} {k : Key} {u : Value} {A : CL2} {E : Value → CD9 → Prop}
end
def AQ7 (i : Expr) : Prop := ∀ ov iv, subscripted i false ov iv = operate [ov, iv] (getItem ov iv)
theorem YR {value slice : Expr} {T id : String}
  (hl : typeLookup (.type T) "__getitem__" = pure (some (.builtin id))) (hs : AQ7 slice)
  (h : wpAny (model prog w) A (eval value env) (fun o s₁ => wpAny (model prog w) A (eval slice env) (fun i s₂ => s₂.TypeIs o T ∧ wpAny (model prog w) A (getItem o i) Q E s₂) E s₁) E s) :
  wpAny (model prog w) A (eval (.Subscript value slice pos) env) Q E s := by
 refine Subscript_ (CJ8 h (fun o s₁ h₁ => CJ8 h₁ (fun i s₂ h₂ => ?_) fun _ _ x => x) fun _ _ x => x)
 obtain ⟨hT, h₂⟩ := h₂
 unfold subscriptTail
 refine CD4 ?_
 rw [getitemInPython_of_ne hT.not_modules]
 refine CD4 (wpAny_specialOf hT hl ?_)
 have fin : wpAny (model prog w) A (subscripted slice false o i) (fun r s₃ => wpAny (model prog w) A (letTemporaryGo value o r >>= fun _ => pure r) Q E s₃) E s₂ := by
  rw [hs o i]
  exact wpAny_operating (CJ8 h₂ (fun r s₃ h₃ => CD4 (wpAny_letTemporaryGo (CD6 h₃))) fun _ _ x => x)
 first
  | exact CD6 (CD4 fin)
  | exact CD4 (CD6 (CD4 fin))
  | exact CD4 fin
theorem QX {X : Cx} {σ : St} {y : V} {o : Option V} (I : Inv X pins σ H s) (g : AQ5 H a y o) : s.TypeIs (.ref a) "dict" := by
 rcases g with ⟨kvs, k, e, _, _⟩ | ⟨kvs, k, b, e, _, _, _⟩
 ·obtain ⟨_, _, vs, _, dd⟩ := ME I.hok e
  exact dd.typeIs
 ·obtain ⟨_, _, xs, _, dd⟩ := XC I.hok e
  exact dd.typeIs
def BY7 (td ty : TE) : TE := fun σ H Q => td σ H fun x H1 => ty σ H1 fun y H2 => ∃ a v, x = .ref a ∧ AQ5 H2 a y (some v) ∧ Q v H2
def BW7 (td ty tv : TE) : TS := fun D σ H => tv σ H fun v H1 => td σ H1 fun x H2 => ty σ H2 fun y H3 => ∃ a H4, x = .ref a ∧ BO8 H3 a y v H4 ∧ D.nx σ H4
section
variable {X : Cx} {o i e value : Expr} {pos pos' tpos : Pos} {td ty tv : TE}
theorem AW5 (hu : X.A.units + 1 < cLine) (ho : PE X o td) (hi : PE X i ty) (hs : AQ7 i) : PE X (.Subscript o i pos) (BY7 td ty) := by
 intro pins s σ H Q I h
 refine YR PySem.F.slot_dict_getitem.lookup hs (thn (ho pins s σ H _ I h) fun u s1 ⟨x, H1, I1, rx, q1⟩ => thn (hi pins s1 σ H1 _ I1 q1) fun iv s2 ⟨y, H2, I2, ry, a, v, ex, g, q2⟩ => ?_)
 subst ex
 obtain rfl : u = Value.ref a := rx
 exact ⟨QX I2 g, ZE hu I2 g ry fun w' s3 I3 rw' => ⟨v, H2, I3, rw', q2⟩⟩
theorem AX8 (hu : X.A.units + 1 < cLine) (ho : PE X o td) (hi : PE X i ty) (hv : PE X value tv) (hs : CT9 value (some (.Subscript o i pos')) pos.line X.env = pure false) :
  PS X (.Assign [.Subscript o i pos'] value pos) (BW7 td ty tv) := by
 intro pins s σ H D I h
 refine wpAny_Assign_Subscript (thn (hv pins s σ H _ I h) fun r s1 ⟨v, H1, I1, rv, q1⟩ => thn (ho pins s1 σ H1 _ I1 q1) fun u s2 ⟨x, H2, I2, rx, q2⟩ => thn (hi pins s2 σ H2 _ I2 q2) fun iv s3 ⟨y, H3, I3, ry, a, H4, ex, g, q3⟩ => ?_) hs
 subst ex
 obtain rfl : u = Value.ref a := rx
 exact ZF hu I3 g ry rv fun s4 I4 => ⟨σ, H4, I4, q3⟩
end
theorem QY (h : Heap) (hb : CO4 < h.objs.size) : ObjOk P w H (h.push { cls := .type "dict", data := .dict #[] }) h.objs.size (.dK []) :=
 ⟨CK6 _, beq_eq_false_iff_ne.mpr (Ne.symm (CF6 hb)), [], .nil, Heap.DictOf.new h⟩
section
variable {X : Cx} {pos : Pos}
end
def QH : List (TE × TE) → St → Hp → (List (V × V) → Hp → Prop) → Prop
 | [], _, H, Q => Q [] H
 | (tk, tv) :: r, σ, H, Q => tk σ H fun x H1 => tv σ H1 fun y H2 => QH r σ H2 fun ps H3 => Q ((x, y) :: ps) H3
abbrev VV : List (V × V) → List (Value × Value) → Prop := Paired fun p q => RelV p.1 q.1 ∧ RelV p.2 q.2
def PPs (X : Cx) (pos : Pos) (keys : List (Option Expr)) (values : List Expr) (trs : List (TE × TE)) : Prop :=
 ∀ (pins : List (Addr × Obj)) (s : CD9) (σ : St) (H : Hp) (Q : List (V × V) → Hp → Prop), Inv X pins σ H s → QH trs σ H Q →
  wpAny (model X.prog X.w) X.A (evalPairs (pairTrees keys values X.env pos)) (fun vs s' => ∃ ps H', Inv X pins σ H' s' ∧ VV ps vs ∧ Q ps H') X.xe s
theorem AX4 {X : Cx} : PPs X pos [] [] [] := fun pins s σ H Q I h => pairTrees_nil_walk ⟨[], H, I, .nil, h⟩
theorem AM6 {X : Cx} {k v : Expr} {ks : List (Option Expr)} {vs : List Expr} {tk tv : TE} {trs : List (TE × TE)} (hk : PE X k tk) (hv : PE X v tv) (hr : PPs X pos ks vs trs) :
  PPs X pos (some k :: ks) (v :: vs) ((tk, tv) :: trs) := fun pins s σ H Q I h =>
 pairTrees_cons_walk (thn (hk pins s σ H _ I h) fun u s1 ⟨x, H1, I1, rx, q1⟩ => thn (hv pins s1 σ H1 _ I1 q1) fun w2 s2 ⟨y, H2, I2, ry, q2⟩ =>
  thn (hr pins s2 σ H2 _ I2 q2) fun ws s3 ⟨ps, H3, I3, rel, q3⟩ => ⟨(x, y) :: ps, H3, I3, .cons ⟨rx, ry⟩ rel, q3⟩)
def GQ (kvs more : List (Key × V)) : List (Key × V) := more.foldl (fun acc kv => putK acc kv.1 kv.2) kvs
theorem KV.merge : ∀ {more : List (Key × V)} {rs : List (Key × Value)} {kvs : List (Key × V)} {vs : List (Key × Value)}, KV more rs → KV kvs vs → KV (GQ kvs more) (merged vs rs) := by
 intro more rs kvs vs r
 unfold KV at r
 induction r generalizing kvs vs with
 | nil => intro q; exact q
 | @cons p q ps qs h t ih =>
  intro r0
  have e : KV (putK kvs p.1 p.2) (stored vs q.1 q.2) := by
   have := r0.put p.1 h.2
   rw [← h.1]; exact this
  exact ih e
theorem DD : ∀ (more kvs : List (Key × V)), (GQ kvs more).length ≤ kvs.length + more.length
 | [], kvs => by show kvs.length ≤ kvs.length + 0; lia
 | p :: r, kvs => by
  have h1 := DD r (putK kvs p.1 p.2)
  have h2 := S1 kvs p.1 p.2
  show (GQ (putK kvs p.1 p.2) r).length ≤ _
  rw [CE7]; lia
theorem IL {P : CI2} {w : World} : ∀ {kvs : List (Key × V)} {ws : List (Value × Value)}, VV (kvs.map fun kv => (kV kv.1, kv.2)) ws → ∃ rs, Carries (D9 P w) ws rs ∧ KV kvs rs
 | [], _, r => by rw [CT3] at r; cases r; exact ⟨[], True.intro, .nil⟩
 | p :: kvs, _, r => by
  rw [CG9] at r
  cases r with
  | @cons a b as bs h t =>
   obtain ⟨rs, c, q⟩ := IL (P := P) (w := w) t
   obtain ⟨b1, b2⟩ := b
   exact ⟨(p.1, b2) :: rs, ⟨HI h.1, rfl, c⟩, .cons ⟨rfl, h.2⟩ q⟩
def BY8 (trs : List (TE × TE)) : TE := fun σ H Q => ∀ p, H p = none → QH trs σ (upd H p (.dK [])) fun ps H2 => H2 p = some (.dK []) ∧ ∃ kvs : List (Key × V), ps = kvs.map (fun kv => (kV kv.1, kv.2)) ∧ kvs.length ≤ 15 ∧ Q (.ref p) (upd H2 p (.dK (GQ [] kvs)))
theorem AW6 {X : Cx} {keys : List (Option Expr)} {values : List Expr} {trs : List (TE × TE)} (h : PPs X pos keys values trs) (hall : keys.all (·.isSome) = true) (hl : keys.length = values.length) (h0 : keys ≠ [])
  (h15 : keys.length ≤ 15) : PE X (.Dict keys values pos) (BY8 trs) := by
 intro pins s σ H Q I q
 have hn := I.hok.fresh (CE9 s.heap.objs.size)
 have I1 := I.laid (a := s.heap.objs.size) (o := .dK []) (h' := s.heap.push { cls := .type "dict", data := .dict #[] }) (t' := s.toks) (fun _ _ q => CD5 _ q) (CE9 _) (QY s.heap I.big)
 refine wpAny_Dict_walk (knd := D9 X.prog X.w) hall hl h0 h15 (thn (h pins _ σ _ _ I1 (q _ hn)) fun ws s2 ⟨ps, H2, I2, rel, e, kvs, ep, lk, q2⟩ => ?_)
 subst ep
 obtain ⟨rs, c, rk⟩ := IL (P := X.prog) (w := X.w) rel
 obtain ⟨z, hd, vs0, r0, dd⟩ := XA I2.hok e
 cases r0
 refine ⟨rs, c, dd, fun h' dd' hs => ⟨.ref s.heap.objs.size, _, ?_, rfl, q2⟩⟩
 have hz : (GQ [] kvs).length ≤ CE1 := by
  have h1 := DD kvs []
  rw [CI5] at h1
  rw [CF8]; lia
 have he : ∃ q, h'.get? s.heap.objs.size = some q := let ⟨q, _, _, hq, _⟩ := dd'; ⟨q, hq⟩
 exact HZ I2 (by rw [e]; exact True.intro) hs he (UN hz hd (rk.merge .nil) dd')
section
variable {X : Cx} {pins : List (Addr × Obj)} {σ : St} {H : Hp} {s : CD9} {a : Addr} {y d : V} {u r : Value} {o : Option V} {A : CL2} {E : Value → CD9 → Prop}
theorem BD8 (hu : A.units + 1 < cLine) (I : Inv X pins σ H s) (g : AQ5 H a y o) (ry : RelV y u) (h : ∀ w' s', Inv X pins σ H s' → RelV (o.getD .non) w' → Q w' s') :
  wpAny (model X.prog X.w) A (call (.builtin "dict.get") [.ref a, u]) Q E s := by
 rcases g with ⟨kvs, k, e, ey, l⟩ | ⟨kvs, k, b, e, ey, eb, l⟩
 ·subst ey
  obtain ⟨z, hd, vs, rel, dd⟩ := ME I.hok e
  refine call_meetsIn CS3 dd.typeIs CW3 (CV7 _ _) (meets_dict_get (D9 X.prog X.w) a (HI ry) hd) ⟨_, dd.mapOf, h _ _ (I.tok _) ?_⟩
  rw [l]
  exact (rel.val k).getD rfl
 ·subst ey
  cases (show u = Value.ref b from ry)
  obtain ⟨z, hd, xs, rel, dd⟩ := XC I.hok e
  refine call_meetsIn CS3 dd.typeIs CW3 (CV7 _ _) (meetsH_dict_get (tupleKind (D9 X.prog X.w)) a b hd) ⟨tupleKind_room_in1 hu, k, xs, OI I.hok eb, dd, h _ _ (I.tok _) ?_⟩
  rw [l]
  exact (rel.val k).getD rfl
end
section
variable {X : Cx} {o e f : Expr} {apos cpos : Pos} {td ty tx : TE}
end
section
variable {X : Cx} {pins : List (Addr × Obj)} {σ : St} {H : Hp} {s : CD9} {a : Addr} {kvs : List (Key × V)} {A : CL2} {E : Value → CD9 → Prop}
end
section
variable {X : Cx} {pins : List (Addr × Obj)} {σ : St} {H : Hp} {s : CD9} {a : Addr} {y : V} {u : Value} {A : CL2} {E : Value → CD9 → Prop}
end
section
variable {X : Cx}
end
section
variable {κ : Type} [DecidableEq κ]
end
end L2
namespace L3
open PySem PySem.Spec PyProof.Rows L2
inductive D where
 | non | bl (b : Bool) | int (i : Int) | str (x : Str) | ty (n : String) | ref (a : Addr)
 | tup (xs : List D) | lst (xs : List D) | dct (kvs : List (Key × D))
inductive MO where
 | lst (xs : List D) | dct (kvs : List (Key × D)) | dt (kvs : List (List Int × D))
abbrev Mem := Addr → Option MO
def C7 (M : Mem) (a : Addr) (o : MO) : Mem := fun b => if b = a then some o else M b
def K4 (M : Mem) (a : Addr) : Mem := fun b => if b = a then none else M b
theorem B5 {M : Mem} {o : MO} : C7 M a o a = some o := by unfold C7; rw [if_pos rfl]
theorem C6 {M : Mem} {o : MO} (h : b ≠ a) : C7 M a o b = M b := by unfold C7; rw [if_neg h]
theorem MU {M : Mem} {o u : MO} : C7 (C7 M a o) a u = C7 M a u := by
 funext b; unfold C7; split <;> rfl
def BO9 (K : CE0) (a : Addr) (xs : List V) : Prop :=
 ∃ (o : Obj) (its : Array Value) (n : Nat), K.lookup a = some o ∧ o.cls = .type "list" ∧ o.dict = none ∧ o.data = .seq its n ∧ its.size ≤ CE1 ∧ Vals xs its.toList
def UE (K : CE0) (a : Addr) (xs : List V) : Prop :=
 ∃ (o : Obj) (its : Array Value) (n : Nat), K.lookup a = some o ∧ o.cls = .type "tuple" ∧ o.data = .seq its n ∧ its.size ≤ CE1 ∧ Vals xs its.toList
def Fix (M : Mem) (H : Hp) (a : Addr) (o : HO) : Prop := Rd H a o ∧ M a = none
mutual
inductive Rep (K : CE0) (M : Mem) (H : Hp) : D → V → Prop
 | non : Rep K M H .non .non
 | bl {b : Bool} : Rep K M H (.bl b) (.bl b)
 | int {i : Int} : Rep K M H (.int i) (.int i)
 | str {x : Str} : Rep K M H (.str x) (.str x)
 | ty {n : String} : Rep K M H (.ty n) (.ty n)
 | ref {a : Addr} : Rep K M H (.ref a) (.ref a)
 | tup {a : Addr} {ds : List D} {vs : List V} : (Fix M H a (.tup vs) ∨ UE K a vs) → Reps K M H ds vs → Rep K M H (.tup ds) (.ref a)
 | lst {a : Addr} {ds : List D} {vs : List V} : (Fix M H a (.lst vs) ∨ BO9 K a vs) → Reps K M H ds vs → Rep K M H (.lst ds) (.ref a)
 | dct {a : Addr} {ds : List (Key × D)} {vs : List (Key × V)} : Fix M H a (.dK vs) → RepK K M H ds vs → Rep K M H (.dct ds) (.ref a)
inductive Reps (K : CE0) (M : Mem) (H : Hp) : List D → List V → Prop
 | nil : Reps K M H [] []
 | cons {d : D} {v : V} {ds : List D} {vs : List V} : Rep K M H d v → Reps K M H ds vs → Reps K M H (d :: ds) (v :: vs)
inductive RepK (K : CE0) (M : Mem) (H : Hp) : List (Key × D) → List (Key × V) → Prop
 | nil : RepK K M H [] []
 | cons {k : Key} {d : D} {v : V} {ds : List (Key × D)} {vs : List (Key × V)} : Rep K M H d v → RepK K M H ds vs → RepK K M H ((k, d) :: ds) ((k, v) :: vs)
end
def CA1 (x : List Int × Addr × Value) : DictEntry := ⟨reduceHash (Builtin.Tuple.tupleHashOf (x.1.map hashInt)), .ref x.2.1, x.2.2⟩
def dtφ (a : Addr) (xs : List (List Int × Addr × Value)) : Heap → Prop := fun h => (a == CO4) = false ∧ ∃ o es ep, h.get? a = some o ∧ o.ExactDict ∧ o.data = .dict es ep ∧ es.toList = xs.map CA1 ∧ (xs.map (·.1)).Nodup
inductive RepT (K : CE0) (M : Mem) (H : Hp) : List (List Int × D) → List (List Int × Addr × Value) → Prop
 | nil : RepT K M H [] []
 | cons {k : List Int} {b : Addr} {d : D} {v : V} {u : Value} {ds : List (List Int × D)} {xs : List (List Int × Addr × Value)} : Rep K M H (.tup (k.map D.int)) (.ref b) → Rep K M H d v → RelV v u → RepT K M H ds xs → RepT K M H ((k, d) :: ds) ((k, b, u) :: xs)
def RepO (K : CE0) (M : Mem) (H : Hp) (a : Addr) : MO → HO → Prop
 | .lst ds, .lst vs => Reps K M H ds vs
 | .dct ds, .dK vs => RepK K M H ds vs
 | .dt ds, .ext φ => ∃ xs, φ = dtφ a xs ∧ RepT K M H ds xs
 | _, _ => False
def MRel (K : CE0) (M : Mem) (H : Hp) : Prop := ∀ a o, M a = some o → ∃ ho, H a = some ho ∧ RepO K M H a o ho
structure Step (M : Mem) (H : Hp) (M' : Mem) (H' : Hp) : Prop where
 keep : ∀ a o, H a = some o → M a = none → H' a = some o
 dom : ∀ a, M' a ≠ none → M a ≠ none ∨ H a = none
theorem Step.refl {M : Mem} : Step M H M H := ⟨fun _ _ h _ => h, fun _ h => .inl h⟩
theorem Step.gone {M M' : Mem} {H' : Hp} (s : Step M H M' H') {o : HO} (h : H a = some o) (hm : M a = none) : M' a = none := by
 cases e : M' a with
 | none => rfl
 | some u =>
  rcases s.dom a (by rw [e]; intro z; cases z) with z | z
  ·exact absurd hm z
  ·rw [h] at z; cases z
theorem Step.trans {M M1 M2 : Mem} {H1 H2 : Hp} (a : Step M H M1 H1) (b : Step M1 H1 M2 H2) : Step M H M2 H2 where
 keep := fun c o h hm => b.keep c o (a.keep c o h hm) (a.gone h hm)
 dom := fun c h => by
  rcases b.dom c h with z | z
  ·exact a.dom c z
  ·cases e : H c with
   | none => exact .inr rfl
   | some o =>
    refine .inl fun hm => ?_
    rw [a.keep c o e hm] at z; cases z
theorem Fix.mono {M M' : Mem} {H' : Hp} {o : HO} (s : Step M H M' H') (f : Fix M H a o) : Fix M' H' a o := by
 obtain ⟨r, hm⟩ := f
 rcases r with r | ⟨ob, r⟩
 ·exact ⟨.inl (s.keep _ _ r hm), s.gone r hm⟩
 ·exact ⟨.inr ⟨ob, s.keep _ _ r hm⟩, s.gone r hm⟩
section
variable {K : CE0} {M M' : Mem} {H H' : Hp}
theorem Rep.mono {d : D} (s : Step M H M' H') (r : Rep K M H d v) : Rep K M' H' d v :=
 Rep.rec (motive_1 := fun d v _ => Rep K M' H' d v) (motive_2 := fun ds vs _ => Reps K M' H' ds vs) (motive_3 := fun ds vs _ => RepK K M' H' ds vs)
  .non .bl .int .str .ty .ref (fun h _ ih => .tup (h.imp (Fix.mono s) id) ih) (fun h _ ih => .lst (h.imp (Fix.mono s) id) ih) (fun h _ ih => .dct (h.mono s) ih)
  .nil (fun _ _ a b => .cons a b) .nil (fun _ _ a b => .cons a b) r
theorem Reps.mono {ds : List D} (s : Step M H M' H') (r : Reps K M H ds vs) : Reps K M' H' ds vs := by
 induction ds generalizing vs with
 | nil => cases r; exact .nil
 | cons d ds ih => cases r with | cons a b => exact .cons (a.mono s) (ih b)
theorem RepK.mono {ds : List (Key × D)} {vs : List (Key × V)} (s : Step M H M' H') (r : RepK K M H ds vs) : RepK K M' H' ds vs := by
 induction ds generalizing vs with
 | nil => cases r; exact .nil
 | cons d ds ih => cases r with | cons a b => exact .cons (a.mono s) (ih b)
theorem RepT.mono {ds : List (List Int × D)} {xs : List (List Int × Addr × Value)} (s : Step M H M' H') (r : RepT K M H ds xs) : RepT K M' H' ds xs := by
 induction r with
 | nil => exact .nil
 | cons a b c _ ih => exact .cons (a.mono s) (b.mono s) c ih
theorem Reps.length {ds : List D} (r : Reps K M H ds vs) : ds.length = vs.length := by
 induction ds generalizing vs with
 | nil => cases r; rfl
 | cons d ds ih => cases r with | cons a b => rw [CE7, CE7, ih b]
theorem Reps.get {ds : List D} (r : Reps K M H ds vs) {d : D} (h : ds[i]? = some d) : ∃ v, vs[i]? = some v ∧ Rep K M H d v := by
 induction ds generalizing vs i with
 | nil => simp at h
 | cons d' ds ih =>
  cases r with
  | cons a b =>
   cases i with
   | zero => simp at h; subst h; exact ⟨_, rfl, a⟩
   | succ i => simpa using ih b (by simpa using h)
theorem Reps.append {ds es : List D} {us : List V} (r : Reps K M H ds vs) (q : Reps K M H es us) : Reps K M H (ds ++ es) (vs ++ us) := by
 induction ds generalizing vs with
 | nil => cases r; exact q
 | cons d ds ih => cases r with | cons a b => exact .cons a (ih b)
theorem Reps.take {ds : List D} (r : Reps K M H ds vs) (n : Nat) : Reps K M H (ds.take n) (vs.take n) := by
 induction ds generalizing vs n with
 | nil => cases r; simp; exact .nil
 | cons d ds ih => cases r with | cons a b => cases n with
  | zero => simp; exact .nil
  | succ n => simpa using Reps.cons a (ih b n)
theorem Reps.drop {ds : List D} (r : Reps K M H ds vs) (n : Nat) : Reps K M H (ds.drop n) (vs.drop n) := by
 induction ds generalizing vs n with
 | nil => cases r; simp; exact .nil
 | cons d ds ih => cases r with | cons a b => cases n with
  | zero => exact .cons a b
  | succ n => simpa using ih b n
theorem Reps.set {ds : List D} {d : D} (r : Reps K M H ds vs) (q : Rep K M H d v) (i : Nat) : Reps K M H (ds.set i d) (vs.set i v) := by
 induction ds generalizing vs i with
 | nil => cases r; exact .nil
 | cons d ds ih => cases r with | cons a b => cases i with
  | zero => exact .cons q b
  | succ i => exact .cons a (ih b i)
theorem Reps.ints : Reps K M H (ns.map D.int) (ns.map V.int) := by
 induction ns with
 | nil => exact .nil
 | cons n ns ih => exact .cons .int ih
theorem MRel.free (m : MRel K M H) (h : H a = none) : M a = none := by
 cases e : M a with
 | none => rfl
 | some o => obtain ⟨ho, z, _⟩ := m a o e; rw [h] at z; cases z
end
abbrev Lo := List (Option D)
structure SRel (K : CE0) (M : Mem) (H : Hp) (σ : Lo) (σv : L2.St) : Prop where
 len : σ.length = σv.length
 get : ∀ (i : Nat) (d : D), σ[i]? = some (some d) → ∃ v, σv[i]? = some (some v) ∧ Rep K M H d v
theorem SRel.mono {M M' : Mem} {H' : Hp} {σ : Lo} {σv : L2.St} (s : Step M H M' H') (r : SRel K M H σ σv) : SRel K M' H' σ σv :=
 ⟨r.len, fun i d h => let ⟨v, e, q⟩ := r.get i d h; ⟨v, e, q.mono s⟩⟩
theorem SRel.set {M : Mem} {σ : Lo} {σv : L2.St} (r : SRel K M H σ σv) {d : D} (q : Rep K M H d v) (i : Nat) : SRel K M H (σ.set i (some d)) (σv.set i (some v)) := by
 refine ⟨by simp [r.len], fun j e h => ?_⟩
 rw [List.getElem?_set] at h
 rw [List.getElem?_set, ← r.len]
 by_cases hij : i = j
 ·rw [if_pos hij] at h ⊢
  by_cases hl : j < σ.length
  ·rw [hij, if_pos hl] at h
   rw [hij, if_pos hl]
   cases h
   exact ⟨v, rfl, q⟩
  ·rw [hij, if_neg hl] at h; cases h
 ·rw [if_neg hij] at h ⊢
  exact r.get j e h
abbrev DK := D → Mem → Prop
abbrev TE3 := Lo → Mem → DK → Prop
abbrev TT3 := Lo → Mem → (Bool → Mem → Prop) → Prop
abbrev TA3 := Lo → Mem → (List D → Mem → Prop) → Prop
structure L1 where
 nx : Lo → Mem → Prop
 rt : DK
 bk : Lo → Mem → Prop := fun _ _ => False
 ct : Lo → Mem → Prop := fun _ _ => False
abbrev TS3 := L1 → Lo → Mem → Prop
def EP3 (X : Cx) (pins : List (Addr × Obj)) (σv : L2.St) (M : Mem) (H : Hp) (Q : DK) (u : Value) (s' : CD9) : Prop :=
 ∃ d v M' H', Inv X pins σv H' s' ∧ Step M H M' H' ∧ MRel X.K M' H' ∧ RelV v u ∧ Rep X.K M' H' d v ∧ Q d M'
def TP3 (X : Cx) (pins : List (Addr × Obj)) (σv : L2.St) (M : Mem) (H : Hp) (Q : Bool → Mem → Prop) (b : Bool) (s' : CD9) : Prop :=
 ∃ M' H', Inv X pins σv H' s' ∧ Step M H M' H' ∧ MRel X.K M' H' ∧ Q b M'
def AP3 (X : Cx) (pins : List (Addr × Obj)) (σv : L2.St) (M : Mem) (H : Hp) (Q : List D → Mem → Prop) (us : List Value) (s' : CD9) : Prop :=
 ∃ ds vs M' H', Inv X pins σv H' s' ∧ Step M H M' H' ∧ MRel X.K M' H' ∧ Vals vs us ∧ Reps X.K M' H' ds vs ∧ Q ds M'
def SP3 (X : Cx) (pins : List (Addr × Obj)) (M : Mem) (H : Hp) (T : L1) (f : Flow) (s' : CD9) : Prop :=
 match f with
 | .next => ∃ σ' σv' M' H', Inv X pins σv' H' s' ∧ Step M H M' H' ∧ MRel X.K M' H' ∧ SRel X.K M' H' σ' σv' ∧ T.nx σ' M'
 | .brk => ∃ σ' σv' M' H', Inv X pins σv' H' s' ∧ Step M H M' H' ∧ MRel X.K M' H' ∧ SRel X.K M' H' σ' σv' ∧ T.bk σ' M'
 | .cont => ∃ σ' σv' M' H', Inv X pins σv' H' s' ∧ Step M H M' H' ∧ MRel X.K M' H' ∧ SRel X.K M' H' σ' σv' ∧ T.ct σ' M'
 | .ret u => ∃ d v σv' M' H', Inv X pins σv' H' s' ∧ Step M H M' H' ∧ MRel X.K M' H' ∧ RelV v u ∧ Rep X.K M' H' d v ∧ T.rt d M'
def PE3 (X : Cx) (e : Expr) (t : TE3) : Prop :=
 ∀ (pins : List (Addr × Obj)) (s : CD9) (σv : L2.St) (H : Hp) (σ : Lo) (M : Mem) (Q : DK), Inv X pins σv H s → SRel X.K M H σ σv → MRel X.K M H → t σ M Q →
  wpAny (model X.prog X.w) X.A (eval e X.env) (EP3 X pins σv M H Q) X.xe s
def PT3 (X : Cx) (e : Expr) (t : TT3) : Prop :=
 ∀ (pins : List (Addr × Obj)) (s : CD9) (σv : L2.St) (H : Hp) (σ : Lo) (M : Mem) (Q : Bool → Mem → Prop), Inv X pins σv H s → SRel X.K M H σ σv → MRel X.K M H → t σ M Q →
  wpAny (model X.prog X.w) X.A (isTrue e X.env (eval e X.env)) (TP3 X pins σv M H Q) X.xe s
def PA3 (X : Cx) (es : List Expr) (t : TA3) : Prop :=
 ∀ (pos : Pos) (pins : List (Addr × Obj)) (s : CD9) (σv : L2.St) (H : Hp) (σ : Lo) (M : Mem) (Q : List D → Mem → Prop), Inv X pins σv H s → SRel X.K M H σ σv → MRel X.K M H → t σ M Q →
  wpAny (model X.prog X.w) X.A (spliced (CV5 pos (CH7 es X.env))) (AP3 X pins σv M H Q) X.xe s
def PS3 (X : Cx) (st : Stmt) (t : TS3) : Prop :=
 ∀ (pins : List (Addr × Obj)) (s : CD9) (σv : L2.St) (H : Hp) (σ : Lo) (M : Mem) (T : L1), Inv X pins σv H s → SRel X.K M H σ σv → MRel X.K M H → t T σ M →
  wpAny (model X.prog X.w) X.A (exec st X.env) (SP3 X pins M H T) X.xe s
def PSs3 (X : Cx) (st : List Stmt) (t : TS3) : Prop :=
 ∀ (pins : List (Addr × Obj)) (s : CD9) (σv : L2.St) (H : Hp) (σ : Lo) (M : Mem) (T : L1), Inv X pins σv H s → SRel X.K M H σ σv → MRel X.K M H → t T σ M →
  wpAny (model X.prog X.w) X.A (execs st X.env) (SP3 X pins M H T) X.xe s
def dnE (K : CE0) (t : TE3) : TE := fun σv H Q2 => ∃ σ M Q, SRel K M H σ σv ∧ MRel K M H ∧ t σ M Q ∧ ∀ d v M' H', Step M H M' H' → MRel K M' H' → Rep K M' H' d v → Q d M' → Q2 v H'
def dnA (K : CE0) (t : TA3) : TA := fun σv H Q2 => ∃ σ M Q, SRel K M H σ σv ∧ MRel K M H ∧ t σ M Q ∧ ∀ ds vs M' H', Step M H M' H' → MRel K M' H' → Reps K M' H' ds vs → Q ds M' → Q2 vs H'
structure AD4 (K : CE0) (M : Mem) (H : Hp) (T : L1) (D2 : Ends) : Prop where
 nx : ∀ σ' σv' M' H', Step M H M' H' → MRel K M' H' → SRel K M' H' σ' σv' → T.nx σ' M' → D2.nx σv' H'
 bk : ∀ σ' σv' M' H', Step M H M' H' → MRel K M' H' → SRel K M' H' σ' σv' → T.bk σ' M' → D2.bk σv' H'
 ct : ∀ σ' σv' M' H', Step M H M' H' → MRel K M' H' → SRel K M' H' σ' σv' → T.ct σ' M' → D2.ct σv' H'
 rt : ∀ d v M' H', Step M H M' H' → MRel K M' H' → Rep K M' H' d v → T.rt d M' → D2.rt v H'
def dnS (K : CE0) (t : TS3) : TS := fun D2 σv H => ∃ σ M T, SRel K M H σ σv ∧ MRel K M H ∧ t T σ M ∧ AD4 K M H T D2
section
variable {X : Cx} {e : Expr} {es : List Expr} {st : Stmt} {sts : List Stmt}
theorem PE3.dn {t : TE3} (h : PE3 X e t) : PE X e (dnE X.K t) := by
 rintro pins s σv H Q2 I ⟨σ, M, Q, hS, hM, ht, hq⟩
 exact thn (h pins s σv H σ M Q I hS hM ht) fun u s' ⟨d, v, M', H', I', st, m', r, rep, q⟩ => ⟨v, H', I', r, hq d v M' H' st m' rep q⟩
theorem PA3.dn {t : TA3} (h : PA3 X es t) : PA X es (dnA X.K t) := by
 rintro pos pins s σv H Q2 I ⟨σ, M, Q, hS, hM, ht, hq⟩
 exact thn (h pos pins s σv H σ M Q I hS hM ht) fun u s' ⟨d, v, M', H', I', st, m', r, rep, q⟩ => ⟨v, H', I', r, hq d v M' H' st m' rep q⟩
theorem BY4 {M : Mem} {T : L1} {D2 : Ends} (h : AD4 X.K M H T D2) {f : Flow} (q : SP3 X pins M H T f s') : SP X pins D2 f s' := by
 cases f with
 | next => obtain ⟨σ', σv', M', H', I, st, m, r, q⟩ := q; exact ⟨σv', H', I, h.nx _ _ _ _ st m r q⟩
 | brk => obtain ⟨σ', σv', M', H', I, st, m, r, q⟩ := q; exact ⟨σv', H', I, h.bk _ _ _ _ st m r q⟩
 | cont => obtain ⟨σ', σv', M', H', I, st, m, r, q⟩ := q; exact ⟨σv', H', I, h.ct _ _ _ _ st m r q⟩
 | ret u => obtain ⟨d, v, σv', M', H', I, st, m, rv, r, q⟩ := q; exact ⟨v, σv', H', I, rv, h.rt _ _ _ _ st m r q⟩
theorem PSs3.dn {t : TS3} (h : PSs3 X sts t) : PSs X sts (dnS X.K t) := by
 rintro pins s σv H D2 I ⟨σ, M, T, hS, hM, ht, hq⟩
 exact thn (h pins s σv H σ M T I hS hM ht) fun f s' q => BY4 hq q
abbrev Up (K : CE0) (M : Mem) (H : Hp) (Q : DK) : VK := fun v H' => ∃ d M', Step M H M' H' ∧ MRel K M' H' ∧ Rep K M' H' d v ∧ Q d M'
theorem PE3.of {t : TE3} {t2 : TE} (h : PE X e t2) (hr : ∀ pins s σv H σ M Q, Inv X pins σv H s → SRel X.K M H σ σv → MRel X.K M H → t σ M Q → t2 σv H (Up X.K M H Q)) : PE3 X e t := by
 intro pins s σv H σ M Q I hS hM ht
 exact thn (h pins s σv H _ I (hr pins s σv H σ M Q I hS hM ht)) fun u s' ⟨v, H', I', r, d, M', st, m', rep, q⟩ => ⟨d, v, M', H', I', st, m', r, rep, q⟩
abbrev UpE (K : CE0) (M : Mem) (H : Hp) (T : L1) : Ends where
 nx := fun σv' H' => ∃ σ' M', Step M H M' H' ∧ MRel K M' H' ∧ SRel K M' H' σ' σv' ∧ T.nx σ' M'
 rt := fun v H' => ∃ d M', Step M H M' H' ∧ MRel K M' H' ∧ Rep K M' H' d v ∧ T.rt d M'
 bk := fun σv' H' => ∃ σ' M', Step M H M' H' ∧ MRel K M' H' ∧ SRel K M' H' σ' σv' ∧ T.bk σ' M'
 ct := fun σv' H' => ∃ σ' M', Step M H M' H' ∧ MRel K M' H' ∧ SRel K M' H' σ' σv' ∧ T.ct σ' M'
theorem PS3.of {t : TS3} {t2 : TS} (h : PS X st t2) (hr : ∀ pins s σv H σ M T, Inv X pins σv H s → SRel X.K M H σ σv → MRel X.K M H → t T σ M → t2 (UpE X.K M H T) σv H) : PS3 X st t := by
 intro pins s σv H σ M T I hS hM ht
 refine thn (h pins s σv H _ I (hr pins s σv H σ M T I hS hM ht)) fun f s' q => ?_
 cases f with
 | next => obtain ⟨σv', H', I, σ', M', st, m, r, q⟩ := q; exact ⟨σ', σv', M', H', I, st, m, r, q⟩
 | brk => obtain ⟨σv', H', I, σ', M', st, m, r, q⟩ := q; exact ⟨σ', σv', M', H', I, st, m, r, q⟩
 | cont => obtain ⟨σv', H', I, σ', M', st, m, r, q⟩ := q; exact ⟨σ', σv', M', H', I, st, m, r, q⟩
 | ret u => obtain ⟨v, σv', H', I, rv, d, M', st, m, r, q⟩ := q; exact ⟨d, v, σv', M', H', I, st, m, rv, r, q⟩
end
section
variable {K : CE0} {M : Mem} {H : Hp} {p : Addr} {ho : HO} {o : MO}
theorem Step.lay (hp : H p = none) : Step M H M (upd H p ho) :=
 ⟨fun a u h _ => by rw [D1 (E6 h hp)]; exact h, fun _ h => .inl h⟩
theorem MRel.lay (m : MRel K M H) (hp : H p = none) : MRel K M (upd H p ho) := fun a u e => by
 obtain ⟨hu, e1, r⟩ := m a u e
 refine ⟨hu, by rw [D1 (E6 e1 hp)]; exact e1, ?_⟩
 cases u <;> cases hu <;> first | exact r.elim | exact Reps.mono (Step.lay hp) r | exact RepK.mono (Step.lay hp) r | (obtain ⟨xs, e, r⟩ := r; exact ⟨xs, e, r.mono (Step.lay hp)⟩)
theorem Step.put (h : H p = none ∨ M p ≠ none) : Step M H (C7 M p o) (upd H p ho) := by
 refine ⟨fun a u e hm => ?_, fun a e => ?_⟩
 ·have : a ≠ p := by
   rintro rfl
   rcases h with h | h
   ·rw [h] at e; cases e
   ·exact h hm
  rw [D1 this]; exact e
 ·by_cases ha : a = p
  ·subst ha; exact h.elim .inr .inl
  ·rw [C6 ha] at e; exact .inl e
theorem RepO.mono {M' : Mem} {H' : Hp} (s : Step M H M' H') (r : RepO K M H p o ho) : RepO K M' H' p o ho := by
 cases o <;> cases ho <;> first | exact r.elim | exact Reps.mono s r | exact RepK.mono s r | (obtain ⟨xs, e, r⟩ := r; exact ⟨xs, e, r.mono s⟩)
theorem MRel.put (m : MRel K M H) (h : H p = none ∨ M p ≠ none) (r : RepO K M H p o ho) : MRel K (C7 M p o) (upd H p ho) := fun a u e => by
 by_cases ha : a = p
 ·subst ha
  rw [B5] at e; cases e
  exact ⟨ho, D4, r.mono (Step.put h)⟩
 ·rw [C6 ha] at e
  obtain ⟨hu, e1, r1⟩ := m a u e
  exact ⟨hu, by rw [D1 ha]; exact e1, r1.mono (Step.put h)⟩
end
mutual
def pyD : D → PyData
 | .non => .none | .bl b => .bool b | .int i => .int i | .str x => .str x
 | .tup xs => .tuple (RX xs) | .lst xs => .list (RX xs)
 | .dct _ => .none | .ty _ => .none | .ref _ => .none
def RX : List D → List PyData
 | [] => [] | d :: ds => pyD d :: RX ds
end
mutual
def plain : D → Bool
 | .non | .bl _ | .int _ | .str _ => true
 | .tup xs | .lst xs => DW xs
 | .dct _ | .ty _ | .ref _ => false
def DW : List D → Bool
 | [] => true | d :: ds => plain d && DW ds
end
section
variable {X : Cx} {pins : List (Addr × Obj)} {σv : L2.St} {M : Mem} {H : Hp} {s : CD9}
theorem SqT.of3 (h : Fix M H a (.tup vs) ∨ UE K a vs) : SqT K H a vs := h.imp (·.1) id
theorem SqL.of3 (h : Fix M H a (.lst vs) ∨ BO9 K a vs) : SqL K H a vs := h.imp (·.1) id
mutual
theorem KB (I : Inv X pins σv H s) (d : D) {v : V} {u : Value} (hp : plain d = true) (p : Rep X.K M H d v) (r : RelV v u) : ∃ as, Reads s.heap u (pyD d) as := by
 cases d with
 | non => cases p; cases r; exact ⟨[], .none⟩
 | bl b => cases p; cases r; exact ⟨[], .bool b⟩
 | int i => cases p; obtain ⟨t, rfl⟩ := r; exact ⟨[], .int i t⟩
 | str x => cases p; obtain ⟨t, rfl⟩ := r; exact ⟨[], .str x t⟩
 | tup xs =>
  cases p with
  | tup h q =>
  cases r
  obtain ⟨its, rv, ⟨o, e1, e2, n, e3⟩, _⟩ := I.tuple (SqT.of3 h)
  obtain ⟨as, ra⟩ := Y7 I xs (by simpa [plain] using hp) q rv
  exact ⟨as, by rw [pyD]; exact .tuple e1 e2 e3 (by simpa using ra)⟩
 | lst xs =>
  cases p with
  | @lst a _ _ h q =>
  cases r
  obtain ⟨its, rv, ⟨o, n, e1, e2, _, e3⟩, _⟩ := I.list (SqL.of3 h)
  obtain ⟨as, ra⟩ := Y7 I xs (by simpa [plain] using hp) q rv
  exact ⟨a :: as, by rw [pyD]; exact .list e1 e2 e3 (by simpa using ra)⟩
 | dct _ => cases hp
 | ty _ => cases hp
 | ref _ => cases hp
theorem Y7 (I : Inv X pins σv H s) (ds : List D) {vs : List V} {us : List Value} (hp : DW ds = true) (p : Reps X.K M H ds vs) (r : Vals vs us) : ∃ as, ReadsAll s.heap us (RX ds) as := by
 cases ds with
 | nil => cases p; cases r; exact ⟨[], .nil⟩
 | cons d ds =>
  cases p with
  | cons q qs =>
  cases r with
  | cons r rs =>
   have hp' : plain d = true ∧ DW ds = true := by simpa [DW] using hp
   obtain ⟨as, h1⟩ := KB I d hp'.1 q r
   obtain ⟨bs, h2⟩ := Y7 I ds hp'.2 qs rs
   exact ⟨as ++ bs, by rw [RX]; exact .cons h1 h2⟩
end
end
theorem CI {X : Cx} {σv : L2.St} {M : Mem} (I : Inv X pins σv H s) {d : D} (hp : plain d = true) (p : Rep X.K M H d v) (r : RelV v u) : ∃ as, Reads s.heap u (pyD d) as := KB I d hp p r
abbrev R3 := D → D → Mem → DK → Prop
abbrev U3 := D → Mem → DK → Prop
abbrev C3 := List D → Mem → DK → Prop
def OpR3 (X : Cx) (f : Value → Value → Sem Value) (r : R3) : Prop :=
 ∀ (pins : List (Addr × Obj)) (s : CD9) (σv : L2.St) (H : Hp) (M : Mem) (x y : D) (xv yv : V) (v u : Value) (Q : DK), Inv X pins σv H s → MRel X.K M H → RelV xv v → RelV yv u → Rep X.K M H x xv → Rep X.K M H y yv → r x y M Q →
  wpAny (model X.prog X.w) X.A (f v u) (EP3 X pins σv M H Q) X.xe s
def UnR3 (X : Cx) (f : Value → Sem Value) (r : U3) : Prop :=
 ∀ (pins : List (Addr × Obj)) (s : CD9) (σv : L2.St) (H : Hp) (M : Mem) (x : D) (xv : V) (v : Value) (Q : DK), Inv X pins σv H s → MRel X.K M H → RelV xv v → Rep X.K M H x xv → r x M Q →
  wpAny (model X.prog X.w) X.A (f v) (EP3 X pins σv M H Q) X.xe s
def CallR3 (X : Cx) (f : Value) (r : C3) : Prop :=
 ∀ (pins : List (Addr × Obj)) (s : CD9) (σv : L2.St) (H : Hp) (M : Mem) (xs : List D) (xvs : List V) (us : List Value) (Q : DK), Inv X pins σv H s → MRel X.K M H → Vals xvs us → Reps X.K M H xs xvs → r xs M Q →
  wpAny (model X.prog X.w) X.A (call f us) (EP3 X pins σv M H Q) X.xe s
section
variable {X : Cx}
theorem Q7 {σv : L2.St} {M : Mem} {Q : DK} (h : EP X pins σv (Up X.K M H Q) u s') : EP3 X pins σv M H Q u s' := by
 obtain ⟨v, H', I', r, d, M', st, m', rep, q⟩ := h
 exact ⟨d, v, M', H', I', st, m', r, rep, q⟩
theorem OpR3.of {r : R2} {r3 : R3} (h : OpR X f r)
  (hr : ∀ (H : Hp) (M : Mem) (x y : D) (xv yv : V) (Q : DK), MRel X.K M H → Rep X.K M H x xv → Rep X.K M H y yv → r3 x y M Q → r xv yv H (Up X.K M H Q)) : OpR3 X f r3 :=
 fun pins s σv H M x y xv yv v u Q I m rx ry px py q => thn (h pins s σv H xv yv v u _ I rx ry (hr H M x y xv yv Q m px py q)) fun _ _ z => Q7 z
theorem UnR3.of {f : Value → Sem Value} {r : V → Hp → VK → Prop} {r3 : U3} (h : UnR X f r)
  (hr : ∀ (H : Hp) (M : Mem) (x : D) (xv : V) (Q : DK), MRel X.K M H → Rep X.K M H x xv → r3 x M Q → r xv H (Up X.K M H Q)) : UnR3 X f r3 :=
 fun pins s σv H M x xv v Q I m rx px q => thn (h pins s σv H xv v _ I rx (hr H M x xv Q m px q)) fun _ _ z => Q7 z
theorem CallR3.of {f : Value} {r : List V → Hp → VK → Prop} {r3 : C3} (h : CallR X f r)
  (hr : ∀ (H : Hp) (M : Mem) (xs : List D) (xvs : List V) (Q : DK), MRel X.K M H → Reps X.K M H xs xvs → r3 xs M Q → r xvs H (Up X.K M H Q)) : CallR3 X f r3 :=
 fun pins s σv H M xs xvs us Q I m rv px q => thn (h pins s σv H xvs us _ I rv (hr H M xs xvs Q m px q)) fun _ _ z => Q7 z
theorem up0 {M : Mem} {Q : DK} {d : D} (m : MRel K M H) (r : Rep K M H d v) (q : Q d M) : Up K M H Q v H := ⟨d, M, .refl, m, r, q⟩
def A3 (r : R3) (ta tb : TE3) : TE3 := fun σ M Q => ta σ M fun x M1 => tb σ M1 fun y M2 => r x y M2 Q
def BN9 (r : U3) (ta : TE3) : TE3 := fun σ M Q => ta σ M fun x M1 => r x M1 Q
variable {a b c e : Expr} {es : List Expr} {ta tb tc te : TE3} {t : TA3} {pos : Pos}
theorem EP3.trans {σv : L2.St} {M M1 : Mem} {H1 : Hp} {Q : DK} (st : Step M H M1 H1) (h : EP3 X pins σv M1 H1 Q u s') : EP3 X pins σv M H Q u s' := by
 obtain ⟨d, v, M', H', I', st', m', r, rep, q⟩ := h
 exact ⟨d, v, M', H', I', st.trans st', m', r, rep, q⟩
theorem BD0 (ha : PE3 X a ta) (hb : PE3 X b tb) {r : R3} (ho : OpR3 X f r) {σv : L2.St} {σ : Lo} {M : Mem} {Q : DK}
  (I : Inv X pins σv H s) (hS : SRel X.K M H σ σv) (hM : MRel X.K M H) (h : A3 r ta tb σ M Q) :
  wpAny (model X.prog X.w) X.A (eval a X.env) (fun v s₁ => wpAny (model X.prog X.w) X.A (eval b X.env) (fun u s₂ => wpAny (model X.prog X.w) X.A (f v u) (EP3 X pins σv M H Q) X.xe s₂) X.xe s₁) X.xe s := by
 refine thn (ha pins s σv H σ M _ I hS hM h) fun v s1 hx0 => ?_
 obtain ⟨x, xv, M1, H1, I1, st1, m1, rv1, p1, q1⟩ := hx0
 refine thn (hb pins s1 σv H1 σ M1 _ I1 (hS.mono st1) m1 q1) fun u s2 hx0 => ?_
 obtain ⟨y, yv, M2, H2, I2, st2, m2, rv2, p2, q2⟩ := hx0
 exact thn (ho pins s2 σv H2 M2 x y xv yv v u Q I2 m2 rv1 rv2 (p1.mono st2) p2 q2) fun _ _ z => z.trans (st1.trans st2)
theorem BH5 {op : Operator} {r : R3} (ho : OpR3 X (CO9 op) r) (ha : PE3 X a ta) (hb : PE3 X b tb) : PE3 X (.BinOp a op b pos) (A3 r ta tb) :=
 fun pins s σv H σ M Q I hS hM h => wpAny_BinOp (BD0 ha hb ho I hS hM h)
theorem BH7 {op : UnaryOp} {r : U3} (ho : UnR3 X (unaryOp op) r) (ha : PE3 X a ta) : PE3 X (.UnaryOp op a pos) (BN9 r ta) :=
 fun pins s σv H σ M Q I hS hM h => UnaryOp_ (thn (ha pins s σv H σ M _ I hS hM h) fun v s1 ⟨x, xv, M1, H1, I1, st1, m1, rv1, p1, q1⟩ =>
  thn (ho pins s1 σv H1 M1 x xv v Q I1 m1 rv1 p1 q1) fun _ _ z => z.trans st1)
theorem AV5 {r : R3} (ho : OpR3 X (CJ5 op) r) (ha : PE3 X a ta) (hb : PE3 X b tb) (hm : behindInMarks op b = false) : PE3 X (.Compare a [op] [b] pos) (A3 r ta tb) :=
 fun pins s σv H σ M Q I hS hM h => wpAny_Compare1 (BD0 ha hb ho I hS hM h) hm
def A7 (t : TE3) : TT3 := fun σ M Q => t σ M fun x M' => ∃ k, x = .bl k ∧ Q k M'
theorem AX9 {r : R3} (ho : OpR3 X (CJ5 op) r) (ha : PE3 X a ta) (hb : PE3 X b tb) (hm : behindInMarks op b = false) : PT3 X (.Compare a [op] [b] pos) (A7 (A3 r ta tb)) := by
 intro pins s σv H σ M Q I hS hM h
 refine wpAny_isTrue_Compare1 (thn (BD0 (Q := fun x M' => ∃ k, x = .bl k ∧ Q k M') ha hb ho I hS hM h) fun v s1 h1 => thn h1 fun u s2 h2 => thn h2 fun d s3 ⟨x, xv, M1, H1, I1, st1, m1, rv1, p1, k, e, q1⟩ => ?_) hm
 subst e
 cases p1
 cases rv1
 exact CL6 ⟨M1, H1, I1, st1, m1, q1⟩
theorem AY1 (h : PE3 X e te) (he : ∀ whole, isTrue e X.env whole = (do let v ← whole; standAt e.pos; holding [v] (truthy v)) := by intro _; rfl) : PT3 X e (A7 te) := by
 intro pins s σv H σ M Q I hS hM hw
 refine isTrue_plain (thn (h pins s σv H σ M _ I hS hM hw) fun v s1 ⟨x, xv, M1, H1, I1, st1, m1, rv1, p1, k, e, q1⟩ => ?_) (he _)
 subst e
 cases p1
 cases rv1
 exact CL6 ⟨M1, H1, I1, st1, m1, q1⟩
def Z0 (r r' : R3) (ta tb tc : TE3) : TE3 := fun σ M Q => ta σ M fun x M1 => tb σ M1 fun y M2 => r x y M2 fun z M3 => ∃ k, z = .bl k ∧ if k = true then tc σ M3 fun w M4 => r' y w M4 Q else Q (.bl false) M3
theorem MX {op' : CmpOp} {r r' : R3} (ho : OpR3 X (CJ5 op) r) (ho' : OpR3 X (CJ5 op') r') (ha : PE3 X a ta) (hb : PE3 X b tb) (hc : PE3 X c tc)
  (hm : lastMarks [op, op'] [b, c] = false := by with_unfolding_all rfl) : PE3 X (.Compare a [op, op'] [b, c] pos) (Z0 r r' ta tb tc) := by
 intro pins s σv H σ M Q I hS hM h
 refine Compare_chain (thn (ha pins s σv H σ M _ I hS hM h) fun v s1 ⟨x, xv, M1, H1, I1, st1, m1, rv1, p1, q1⟩ => chain_link (thn (hb pins s1 σv H1 σ M1 _ I1 (hS.mono st1) m1 q1) fun u s2 ⟨y, yv, M2, H2, I2, st2, m2, rv2, p2, q2⟩ =>
  thn (ho pins s2 σv H2 M2 x y xv yv v u _ I2 m2 rv1 rv2 (p1.mono st2) p2 q2) fun d s3 ⟨z, zv, M3, H3, I3, st3, m3, rv3, p3, k, e, q3⟩ => ?_)) hm
 subst e
 cases p3
 cases rv3
 refine CL6 ?_
 have st := (st1.trans st2).trans st3
 cases k with
 | false => exact ite_ff ⟨.bl false, .bl false, M3, H3, I3, st, m3, rfl, .bl, q3⟩
 | true => exact ite_tt (chain_last (thn (hc pins s3 σv H3 σ M3 _ I3 (hS.mono st) m3 q3) fun w' s4 ⟨z', zv', M4, H4, I4, st4, m4, rv4, p4, q4⟩ =>
   thn (ho' pins s4 σv H4 M4 y z' yv zv' u w' Q I4 m4 rv2 rv4 (p2.mono (st3.trans st4)) p4 q4) fun _ _ z => z.trans (st.trans st4)))
theorem AB6 {op' : CmpOp} {r r' : R3} (ho : OpR3 X (CJ5 op) r) (ho' : OpR3 X (CJ5 op') r') (ha : PE3 X a ta) (hb : PE3 X b tb) (hc : PE3 X c tc)
  (hm : lastMarks [op, op'] [b, c] = false := by with_unfolding_all rfl) : PT3 X (.Compare a [op, op'] [b, c] pos) (A7 (Z0 r r' ta tb tc)) := by
 intro pins s σv H σ M Q I hS hM h
 refine isTrue_chain (thn (ha pins s σv H σ M _ I hS hM h) fun v s1 ⟨x, xv, M1, H1, I1, st1, m1, rv1, p1, q1⟩ => test_link (thn (hb pins s1 σv H1 σ M1 _ I1 (hS.mono st1) m1 q1) fun u s2 ⟨y, yv, M2, H2, I2, st2, m2, rv2, p2, q2⟩ =>
  thn (ho pins s2 σv H2 M2 x y xv yv v u _ I2 m2 rv1 rv2 (p1.mono st2) p2 q2) fun d s3 ⟨z, zv, M3, H3, I3, st3, m3, rv3, p3, k, e, q3⟩ => ?_)) hm
 subst e
 cases p3
 cases rv3
 refine CL6 ?_
 have st := (st1.trans st2).trans st3
 cases k with
 | false =>
  obtain ⟨k', e', q'⟩ := q3
  cases e'
  exact ite_ff ⟨M3, H3, I3, st, m3, q'⟩
 | true =>
  refine ite_tt (test_last (thn (hc pins s3 σv H3 σ M3 _ I3 (hS.mono st) m3 q3) fun w' s4 ⟨z', zv', M4, H4, I4, st4, m4, rv4, p4, q4⟩ =>
   thn (ho' pins s4 σv H4 M4 y z' yv zv' u w' _ I4 m4 rv2 rv4 (p2.mono (st3.trans st4)) p4 q4) fun d' s5 ⟨z2, zv2, M5, H5, I5, st5, m5, rv5, p5, k2, e2, q5⟩ => ?_))
  subst e2
  cases p5
  cases rv5
  exact CL6 ⟨M5, H5, I5, (st.trans st4).trans st5, m5, q5⟩
def PW3 (X : Cx) (e : Expr) (t : TT3) : Prop :=
 ∀ (whole : Sem Value) (pins : List (Addr × Obj)) (s : CD9) (σv : L2.St) (H : Hp) (σ : Lo) (M : Mem) (Q : Bool → Mem → Prop), Inv X pins σv H s → SRel X.K M H σ σv → MRel X.K M H → t σ M Q →
  wpAny (model X.prog X.w) X.A (isTrue e X.env whole) (TP3 X pins σv M H Q) X.xe s
theorem PW3.pt {t : TT3} (h : PW3 X e t) : PT3 X e t := h _
variable {tA tB' : TT3} {rest : List Expr}
def HN (t u : TT3) : TT3 := fun σ M Q => t σ M fun c M1 => if c = true then u σ M1 Q else Q false M1
def O5 (t u : TT3) : TT3 := fun σ M Q => t σ M fun c M1 => if c = true then Q true M1 else u σ M1 Q
def F3 (t : TT3) : TT3 := fun σ M Q => t σ M fun c M1 => Q (!c) M1
theorem TP3.trans {σv : L2.St} {M M1 : Mem} {H1 : Hp} {Q : Bool → Mem → Prop} {u : Bool} (st : Step M H M1 H1) (h : TP3 X pins σv M1 H1 Q u s') : TP3 X pins σv M H Q u s' := by
 obtain ⟨M', H', I', st', m', q⟩ := h
 exact ⟨M', H', I', st.trans st', m', q⟩
theorem AN5 (ha : PT3 X a tA) : PW3 X (.BoolOp .And [a] pos) tA := by
 intro wh pins s σv H σ M Q I hS hM h
 refine isTrue_and (thn (ha pins s σv H σ M Q I hS hM h) fun c s1 e => ?_)
 cases c with
 | true => exact isTrue_and_nil e
 | false => exact e
theorem AY5 (ha : PT3 X a tA) : PW3 X (.BoolOp .Or [a] pos) tA := by
 intro wh pins s σv H σ M Q I hS hM h
 refine isTrue_or (thn (ha pins s σv H σ M Q I hS hM h) fun c s1 e => ?_)
 cases c with
 | false => exact isTrue_or_nil e
 | true => exact e
theorem AY4 (ha : PT3 X a tA) (hb : PW3 X (.BoolOp .And (b :: rest) pos) tB') : PW3 X (.BoolOp .And (a :: b :: rest) pos) (HN tA tB') := by
 intro wh pins s σv H σ M Q I hS hM h
 refine isTrue_and (thn (ha pins s σv H σ M _ I hS hM h) fun c s1 ⟨M1, H1, I1, st1, m1, q1⟩ => ?_)
 cases c with
 | true => exact thn (hb wh pins s1 σv H1 σ M1 Q I1 (hS.mono st1) m1 q1) fun _ _ z => z.trans st1
 | false => exact ⟨M1, H1, I1, st1, m1, q1⟩
theorem BJ2 (ha : PT3 X a tA) (hb : PW3 X (.BoolOp .Or (b :: rest) pos) tB') : PW3 X (.BoolOp .Or (a :: b :: rest) pos) (O5 tA tB') := by
 intro wh pins s σv H σ M Q I hS hM h
 refine isTrue_or (thn (ha pins s σv H σ M _ I hS hM h) fun c s1 ⟨M1, H1, I1, st1, m1, q1⟩ => ?_)
 cases c with
 | false => exact thn (hb wh pins s1 σv H1 σ M1 Q I1 (hS.mono st1) m1 q1) fun _ _ z => z.trans st1
 | true => exact ⟨M1, H1, I1, st1, m1, q1⟩
theorem AY0 (ha : PT3 X a tA) : PT3 X (.UnaryOp .Not a pos) (F3 tA) := fun pins s σv H σ M Q I hS hM h =>
 isTrue_not (ha pins s σv H σ M (fun c M1 => Q (!c) M1) I hS hM h)
def C9 (ta tb : TE3) : TE3 := fun σ M Q => ta σ M fun x M1 => ∃ c, x = .bl c ∧ if c = true then tb σ M1 Q else Q (.bl false) M1
def NK (ta tb : TE3) : TE3 := fun σ M Q => ta σ M fun x M1 => ∃ c, x = .bl c ∧ if c = true then Q (.bl true) M1 else tb σ M1 Q
def WH (ta : TE3) : TE3 := fun σ M Q => ta σ M fun x M1 => ∃ c, x = .bl c ∧ Q (.bl (!c)) M1
theorem AV9 {op} (h : PE3 X a ta) : PE3 X (.BoolOp op [a] pos) ta := fun pins s σv H σ M Q I hS hM hw => BoolOp_one (h pins s σv H σ M Q I hS hM hw)
theorem AV4 (ha : PE3 X a ta) (hb : PE3 X (.BoolOp .And (b :: rest) pos) tb) : PE3 X (.BoolOp .And (a :: b :: rest) pos) (C9 ta tb) := by
 intro pins s σv H σ M Q I hS hM h
 refine BoolOp_and (thn (ha pins s σv H σ M _ I hS hM h) fun v s1 ⟨x, xv, M1, H1, I1, st1, m1, rv1, p1, c, e, q1⟩ => ?_)
 subst e
 cases p1
 cases rv1
 refine CL6 ?_
 cases c with
 | true => exact thn (hb pins s1 σv H1 σ M1 Q I1 (hS.mono st1) m1 q1) fun _ _ z => z.trans st1
 | false => exact ⟨.bl false, .bl false, M1, H1, I1, st1, m1, rfl, .bl, q1⟩
theorem VE (ha : PE3 X a ta) (hb : PE3 X (.BoolOp .Or (b :: rest) pos) tb) : PE3 X (.BoolOp .Or (a :: b :: rest) pos) (NK ta tb) := by
 intro pins s σv H σ M Q I hS hM h
 refine BoolOp_or (thn (ha pins s σv H σ M _ I hS hM h) fun v s1 ⟨x, xv, M1, H1, I1, st1, m1, rv1, p1, c, e, q1⟩ => ?_)
 subst e
 cases p1
 cases rv1
 refine CL6 ?_
 cases c with
 | false => exact thn (hb pins s1 σv H1 σ M1 Q I1 (hS.mono st1) m1 q1) fun _ _ z => z.trans st1
 | true => exact ⟨.bl true, .bl true, M1, H1, I1, st1, m1, rfl, .bl, q1⟩
theorem AV8 (ha : PE3 X a ta) : PE3 X (.UnaryOp .Not a pos) (WH ta) := by
 intro pins s σv H σ M Q I hS hM h
 refine UnaryOp_ (thn (ha pins s σv H σ M _ I hS hM h) fun v s1 ⟨x, xv, M1, H1, I1, st1, m1, rv1, p1, c, e, q1⟩ => ?_)
 subst e
 cases p1
 cases rv1
 exact not_of (CL6 ⟨.bl (!c), .bl (!c), M1, H1, I1, st1, m1, rfl, .bl, q1⟩)
def A1 (i : Nat) : TE3 := fun σ M Q => match σ[i]? with
 | some (some d) => Q d M
 | _ => False
def tC3 (d : D) : TE3 := fun _ M Q => Q d M
theorem AW2 (h : PE X e (BY9 i)) : PE3 X e (A1 i) := PE3.of h fun pins s σv H σ M Q I hS hM q => by
 unfold A1 at q
 cases e : σ[i]? with
 | none => rw [e] at q; exact q.elim
 | some od =>
  rw [e] at q
  cases od with
  | none => exact q.elim
  | some d =>
   obtain ⟨v, hv, r⟩ := hS.get i d e
   exact ⟨v, hv, up0 hM r q⟩
theorem pv3 (i : Nat) {pos : Pos} (hN : X.N[i]? = some x := by rfl) (hv : Vis X.env.scope x := by first | exact Or.inl rfl | exact Or.inr (Or.inl rfl) | exact Or.inr (Or.inr rfl)) (hd : (x == ("__debug__" : Str)) = false := by decide)
  (hcd : (x == ("__classdict__" : Str)) = false := by decide) : PE3 X (.Name x pos) (A1 i) := AW2 (BI2 hN hv hd hcd)
theorem RS {d : D} (h : PE X e (tC v)) (hr : ∀ K M H, Rep K M H d v) : PE3 X e (tC3 d) := PE3.of h fun pins s σv H σ M Q I hS hM q => up0 hM (hr _ _ _) q
theorem YA {i j pos} : PE3 X (.Constant (.int i) j pos) (tC3 (.int i)) := RS BH8 fun _ _ _ => .int
theorem BH1 {b j pos} : PE3 X (.Constant (.bool b) j pos) (tC3 (.bl b)) := RS BV4 fun _ _ _ => .bl
theorem AV7 {j pos} : PE3 X (.Constant .none j pos) (tC3 .non) := RS BH9 fun _ _ _ => .non
theorem YB {x j pos} : PE3 X (.Constant (.str x) j pos) (tC3 (.str x)) := RS BI0 fun _ _ _ => .str
theorem BF {d : D} {pos : Pos} (hg : Gl X x) (hm : X.mg x = some u) (r : RelV v u) (hr : ∀ M H, Rep X.K M H d v) (hd : (x == ("__debug__" : Str)) = false := by decide) : PE3 X (.Name x pos) (tC3 d) :=
 PE3.of (AW7 hg hm r hd) fun pins s σv H σ M Q I hS hM q => up0 hM (hr _ _) q
def A2 : TA3 := fun _ M Q => Q [] M
def A0 (ta : TE3) (tr : TA3) : TA3 := fun σ M Q => ta σ M fun x M1 => tr σ M1 fun xs M2 => Q (x :: xs) M2
theorem AV3 : PA3 X [] A2 := fun pos pins s σv H σ M Q I hS hM h => Calls.spliced_nil ⟨[], [], M, H, I, .refl, hM, .nil, .nil, h⟩
theorem AK6 (ha : PE3 X e te) (hr : PA3 X es t) (hs : CH7 (e :: es) X.env = (false, eval e X.env) :: CH7 es X.env := by rfl) : PA3 X (e :: es) (A0 te t) := by
 intro pos pins s σv H σ M Q I hS hM h
 rw [hs]
 show wpAny _ _ (spliced ((false, eval e X.env) :: CV5 pos (CH7 es X.env))) _ _ s
 refine Calls.spliced_cons (thn (ha pins s σv H σ M _ I hS hM h) fun u s1 ⟨x, xv, M1, H1, I1, st1, m1, rv1, p1, q1⟩ => ?_)
 exact thn (hr pos pins s1 σv H1 σ M1 _ I1 (hS.mono st1) m1 q1) fun us s2 ⟨xs, xvs, M2, H2, I2, st2, m2, rv2, p2, q2⟩ => ⟨x :: xs, xv :: xvs, M2, H2, I2, st1.trans st2, m2, .cons rv1 rv2, .cons (p1.mono st2) p2, q2⟩
def C2 (t : TA3) : TE3 := fun σ M Q => t σ M fun xs M1 => xs.length ≤ CE1 ∧ Q (.tup xs) M1
def D7 (t : TA3) : TE3 := fun σ M Q => t σ M fun xs M1 => xs.length ≤ CE1 ∧ Q (.lst xs) M1
def U1 (t : TA3) : TE3 := fun σ M Q => t σ M fun xs M1 => xs.length ≤ CE1 ∧ ∀ p, M1 p = none → Q (.ref p) (C7 M1 p (.lst xs))
theorem AW1 {x1} (h : PA3 X es t) : PE3 X (.Tuple es x1 pos) (C2 t) := PE3.of (BI1 h.dn) fun pins s σv H σ M Q I hS hM h => by
 refine ⟨σ, M, _, hS, hM, h, fun ds vs M' H' st m r ⟨hl, q⟩ => ⟨by rw [← r.length]; exact hl, fun p hp => ?_⟩⟩
 exact ⟨.tup ds, M', st.trans (Step.lay hp), m.lay hp, .tup (.inl ⟨.inl D4, m.free hp⟩) (r.mono (Step.lay hp)), q⟩
theorem AV6 (h : PA3 X es t) : PE3 X (.List es pos) (D7 t) := PE3.of (AL5 h.dn) fun pins s σv H σ M Q I hS hM h => by
 refine ⟨σ, M, _, hS, hM, h, fun ds vs M' H' st m r ⟨hl, q⟩ => ⟨by rw [← r.length]; exact hl, fun p hp => ?_⟩⟩
 exact ⟨.lst ds, M', st.trans (Step.lay hp), m.lay hp, .lst (.inl ⟨.inl D4, m.free hp⟩) (r.mono (Step.lay hp)), q⟩
theorem AL4 (h : PA3 X es t) : PE3 X (.List es pos) (U1 t) := PE3.of (AL5 h.dn) fun pins s σv H σ M Q I hS hM h => by
 refine ⟨σ, M, _, hS, hM, h, fun ds vs M' H' st m r ⟨hl, q⟩ => ⟨by rw [← r.length]; exact hl, fun p hp => ?_⟩⟩
 exact ⟨.ref p, C7 M' p (.lst ds), st.trans (Step.put (.inl hp)), m.put (.inl hp) r, .ref, q p (m.free hp)⟩
end
section
variable {X : Cx}
def rI3 (C : Int → Int → Prop) (g : Int → Int → D) : R3 := fun x y M Q => match x, y with
 | .int i, .int j => C i j ∧ Q (g i j) M
 | _, _ => False
def GU (g : Int → Int → D) : R3 := fun x y M Q => match x, y with
 | .int i, .int j => Q (g i j) M
 | _, _ => False
theorem XZ {C : Int → Int → Prop} {g : Int → Int → Int} (h : OpR X f (rI C fun i j => .int (g i j))) : OpR3 X f (rI3 C fun i j => .int (g i j)) :=
 OpR3.of h fun H M x y xv yv Q m px py q => by
  cases x <;> cases y <;> first | exact q.elim | skip
  cases px; cases py
  exact ⟨_, _, rfl, rfl, q.1, up0 m .int q.2⟩
theorem BG4 {g : Int → Int → Int} (h : OpR X f (rI0 fun i j => .int (g i j))) : OpR3 X f (GU fun i j => .int (g i j)) :=
 OpR3.of h fun H M x y xv yv Q m px py q => by
  cases x <;> cases y <;> first | exact q.elim | skip
  cases px; cases py
  exact ⟨_, _, rfl, rfl, up0 m .int q⟩
theorem OW {g : Int → Int → Bool} (h : OpR X f (rI0 fun i j => .bl (g i j))) : OpR3 X f (GU fun i j => .bl (g i j)) :=
 OpR3.of h fun H M x y xv yv Q m px py q => by
  cases x <;> cases y <;> first | exact q.elim | skip
  cases px; cases py
  exact ⟨_, _, rfl, rfl, up0 m .bl q⟩
def WQ (i j : Int) : Prop := CMul i j ∨ (i.natAbs < 2 ^ 4096 ∧ j.natAbs < 2 ^ 4096)
theorem bits_le {i : Int} (h : i.natAbs < 2 ^ 4096) : CT1 i ≤ 4096 := by
 unfold CT1
 split
 ·lia
 ·rename_i hi
  have h0 : i.natAbs ≠ 0 := by intro z; apply hi; have : i = 0 := by lia
                               subst this; rfl
  have := (Nat.log2_lt h0).mpr h
  lia
theorem BF4 {i j : Int} (h : WQ i j) : IntMulOk i j := by
 rcases h with h | ⟨h1, h2⟩
 ·exact h.ok
 ·have b1 := bits_le h1
  have b2 := bits_le h2
  unfold IntMulOk Builtin.Int.intTooBig
  have : decide (((CT1 i + CT1 j : Nat) : Int) > ((bitsLine : Nat) : Int)) = false := by
   refine decide_eq_false ?_
   have : bitsLine = 134217728 := rfl
   lia
  intro z
  simp only [CH5] at z
  have z2 := z.2
  simp only [Int.natCast_add] at this
  rw [this] at z2; cases z2
theorem AU3 : OpR X (CO9 .Mult) (rI WQ fun i j => .int (i * j)) := opI fun _ _ _ _ _ _ _ hc q => mul_int q (BF4 hc)
def QM (i j : Int) : Prop := 0 < j ∧ j.natAbs < 2 ^ 4096
theorem AK2 : OpR X (CO9 .FloorDiv) (rI QM fun i j => .int (i / j)) := opI fun i j _ _ _ _ _ hc q => by
 have h1 : (0 : Int) < j := hc.1
 refine floordiv_int (by lia) (by rw [Int.fdiv_eq_ediv_of_nonneg i (by lia)]; exact q) (.inl (PyProof.noPylong_of_log2 ?_))
 have h0 : j.natAbs ≠ 0 := by lia
 have := (Nat.log2_lt h0).mpr hc.2
 lia
theorem BG1 : OpR3 X (CO9 .Sub) (GU fun i j => .int (i - j)) := BG4 BG9
theorem BG0 : OpR3 X (CO9 .Mult) (rI3 WQ fun i j => .int (i * j)) := XZ AU3
theorem OU : OpR3 X (CO9 .FloorDiv) (rI3 QM fun i j => .int (i / j)) := XZ AK2
theorem BF9 : OpR3 X (CO9 .Mod) (rI3 (fun _ j => 0 < j) fun i j => .int (i % j)) := XZ BG7
theorem UW : OpR3 X (CO9 .Pow) (rI3 AD2 fun i j => .int (i ^ j.toNat)) := XZ BG8
theorem AJ6 : OpR3 X (CJ5 .Lt) (GU fun i j => .bl (decide (i < j))) := OW BU8
theorem BR3 : OpR3 X (CJ5 .LtE) (GU fun i j => .bl (decide (i ≤ j))) := OW BU7
theorem BR0 : OpR3 X (CJ5 .Gt) (GU fun i j => .bl (decide (j < i))) := OW BU6
theorem BQ9 : OpR3 X (CJ5 .GtE) (GU fun i j => .bl (decide (j ≤ i))) := OW BU5
def rU3 (g : Int → Int) : U3 := fun x M Q => match x with
 | .int i => Q (.int (g i)) M
 | _ => False
theorem BO3 : UnR3 X (unaryOp .USub) (rU3 fun i => -i) := UnR3.of BO4 fun H M x xv Q m px q => by
 cases x <;> first | exact q.elim | skip
 cases px
 exact ⟨_, rfl, up0 m .int q⟩
def C5 : R3 := fun x y M Q => match x, y with
 | .int i, .int j => Q (.int (i + j)) M
 | .str a, .str b => a.length + b.length ≤ CE1 ∧ Q (.str (a ++ b)) M
 | .lst a, .lst b => a.length + b.length ≤ CE1 ∧ Q (.lst (a ++ b)) M
 | .tup a, .tup b => a.length + b.length ≤ CE1 ∧ Q (.tup (a ++ b)) M
 | _, _ => False
theorem BF7 : OpR3 X (CO9 .Add) C5 := by
 intro pins s σv H M x y xv yv v u Q I m rx ry px py q
 cases x <;> cases y <;> first | exact q.elim | skip
 ·cases px; cases py
  exact thn (BG5 pins s σv H _ _ v u _ I rx ry ⟨_, _, rfl, rfl, up0 m .int q⟩) fun _ _ z => Q7 z
 ·cases px; cases py
  exact thn (UY pins s σv H _ _ v u _ I rx ry ⟨_, _, rfl, rfl, q.1, up0 m .str q.2⟩) fun _ _ z => Q7 z
 ·cases px with | tup h1 r1 => cases py with | tup h2 r2 =>
  cases rx; cases ry
  obtain ⟨its, e1, p1, z1⟩ := I.tuple (SqT.of3 h1)
  obtain ⟨its2, e2, p2, z2⟩ := I.tuple (SqT.of3 h2)
  obtain ⟨⟨cls, dd, data, sl⟩, ho, hc, n, hd⟩ := id p1
  obtain ⟨⟨cls2, dd2, data2, sl2⟩, ho2, hc2, n2, hd2⟩ := id p2
  simp only at hc hd hc2 hd2
  subst hc hd hc2 hd2
  have l1 := r1.length
  have l2 := r2.length
  have l3 := e1.length
  have l4 := e2.length
  obtain ⟨hz, q⟩ := q
  by_cases hA : its.toArray.isEmpty = true
  ·refine concat_meets ⟨_, ho, rfl⟩ ⟨_, ho2, rfl⟩ noFill_tuple_add seq_tuple_add CW2 CV6 (CU5 _ _) (tuple_addW0 _ _ _ _ n n2 dd dd2 sl sl2 hA) ⟨ho, ho2, ?_⟩
   have h0 : its = [] := by simpa using hA
   subst h0
   cases e1
   cases r1
   exact ⟨_, .ref _, M, H, I, .refl, m, rfl, .tup h2 r2, q⟩
  ·by_cases hB : its2.toArray.isEmpty = true
   ·refine concat_meets ⟨_, ho, rfl⟩ ⟨_, ho2, rfl⟩ noFill_tuple_add seq_tuple_add CW2 CV6 (CU5 _ _) (tuple_addW1 _ _ _ _ n n2 dd dd2 sl sl2 hA hB) ⟨ho, ho2, ?_⟩
    have h0 : its2 = [] := by simpa using hB
    subst h0
    cases e2
    cases r2
    rw [CM4] at q
    exact ⟨_, .ref _, M, H, I, .refl, m, rfl, .tup h1 r1, q⟩
   ·refine concat_meets ⟨_, ho, rfl⟩ ⟨_, ho2, rfl⟩ noFill_tuple_add seq_tuple_add CW2 CV6 (CU5 _ _) (tuple_addW2 _ _ _ _ n n2 dd dd2 sl sl2 hA hB (by simp; lia)) ⟨ho, ho2, ?_⟩
    have ea : its.toArray ++ its2.toArray = (its ++ its2).toArray := by simp
    rw [ea]
    have hf := I.fresh
    have rr := r1.append r2
    refine ⟨_, .ref s.heap.objs.size, M, _, I.laid (t' := s.toks) (o := .tup _) (fun b ob q => CD5 _ q) (CE9 _) ⟨by rw [CE6]; lia, _, e1.append e2, IsTup.new _ _⟩, Step.lay hf, m.lay hf, rfl, .tup (.inl ⟨.inl D4, m.free hf⟩) (rr.mono (Step.lay hf)), q⟩
 ·cases px with | lst h1 r1 => cases py with | lst h2 r2 =>
  cases rx; cases ry
  obtain ⟨its, e1, p1, z1⟩ := I.list (SqL.of3 h1)
  obtain ⟨its2, e2, p2, z2⟩ := I.list (SqL.of3 h2)
  obtain ⟨⟨cls, dd, data, sl⟩, ho, hc, n, hd⟩ := p1.isList
  obtain ⟨⟨cls2, dd2, data2, sl2⟩, ho2, hc2, n2, hd2⟩ := p2.isList
  simp only at hc hd hc2 hd2
  subst hc hd hc2 hd2
  have l1 := r1.length
  have l2 := r2.length
  have l3 := e1.length
  have l4 := e2.length
  obtain ⟨hz, q⟩ := q
  refine concat_meets ⟨_, ho, rfl⟩ ⟨_, ho2, rfl⟩ noFill_list_add seq_list_add PySem.F.slot_list_add PySem.F.entry_list_add (PySem.F.args_list_add_2 _ _) (list_addW _ _ _ _ n n2 dd dd2 sl sl2 (by simp; lia)) ⟨ho, ho2, ?_⟩
  have ea : its.toArray ++ its2.toArray = (its ++ its2).toArray := by simp
  rw [ea]
  have hf := I.fresh
  have rr := r1.append r2
  exact ⟨_, .ref s.heap.objs.size, M, _, I.lnew (t' := s.toks) (e1.append e2) (by rw [CE6]; lia), Step.lay hf, m.lay hf, rfl, .lst (.inl ⟨.inl D4, m.free hf⟩) (rr.mono (Step.lay hf)), q⟩
def dOk (d : D) : Prop := plain d = true ∧ (pyD d).canLay0 = true ∧ (pyD d).depth ≤ 60
def D8 : R3 := fun x y M Q => (dOk x ∧ dOk y ∧ Q (.bl (CN4 (pyD x) (pyD y))) M) ∨ ∃ a b, x = .str a ∧ y = .str b ∧ Q (.bl (a == b)) M
def N0 : R3 := fun x y M Q => (dOk x ∧ dOk y ∧ Q (.bl (!PyData.eqv (pyD x) (pyD y))) M) ∨ ∃ a b, x = .str a ∧ y = .str b ∧ Q (.bl (!(a == b))) M
theorem BB7 (hr : Room k X.A) : OpR3 X (CJ5 .Eq) D8 := by
 intro pins s σv H M x y xv yv v u Q I m rx ry px py h
 rcases h with ⟨dx, dy, q⟩ | ⟨a, b, rfl, rfl, q⟩
 rotate_left
 ·cases px; cases py
  exact thn (BU4 pins s σv H _ _ v u _ I rx ry ⟨rfl, up0 m .bl (by rw [IA]; exact q)⟩) fun _ _ z => Q7 z
 obtain ⟨as, r1⟩ := CI I dx.1 px rx
 obtain ⟨bs, r2⟩ := CI I dy.1 py ry
 exact SeqAt.compareEq_reads r1 r2 dx.2.1 dy.2.1 (by have := hr.units; have := dx.2.2; lia) ⟨_, .bl _, M, H, I, .refl, m, rfl, .bl, q⟩
theorem BR4 (hr : Room k X.A) : OpR3 X (CJ5 .NotEq) N0 := by
 intro pins s σv H M x y xv yv v u Q I m rx ry px py h
 rcases h with ⟨dx, dy, q⟩ | ⟨a, b, rfl, rfl, q⟩
 rotate_left
 ·cases px; cases py
  exact thn (BU9 pins s σv H _ _ v u _ I rx ry ⟨rfl, up0 m .bl (by rw [IA]; exact q)⟩) fun _ _ z => Q7 z
 obtain ⟨as, r1⟩ := CI I dx.1 px rx
 obtain ⟨bs, r2⟩ := CI I dy.1 py ry
 exact SeqAt.compareNe_reads r1 r2 dx.2.1 dy.2.1 (by have := hr.units; have := dx.2.2; lia) ⟨_, .bl _, M, H, I, .refl, m, rfl, .bl, q⟩
def BJ4 : R3 := fun x y M Q => y = .non ∧ Q (.bl (match x with | .non => true | _ => false)) M
theorem BR2 : OpR3 X (CJ5 .Is) BJ4 := OpR3.of BG6 fun H M x y xv yv Q m px py hx0 => by
 obtain ⟨e, q⟩ := hx0
 subst e; cases py
 refine ⟨rfl, ?_⟩
 cases px <;> exact up0 m .bl (by simpa using q)
variable {a b e : Expr} {ta tb te : TE3} {pos : Pos}
def C1 : R3 := fun x y M Q => match x, y with
 | .lst ds, .int i => ∃ d, atI ds i = some d ∧ Q d M
 | .tup ds, .int i => ∃ d, atI ds i = some d ∧ Q d M
 | .ref a, .int i => ∃ ds d, M a = some (.lst ds) ∧ atI ds i = some d ∧ Q d M
 | .str z, .int i => z.length ≤ CE1 ∧ ∃ c, atI z.cps.toList i = some c ∧ Q (.str ⟨#[c]⟩) M
 | _, _ => False
theorem Reps.atI {M : Mem} {ds : List D} (r : Reps K M H ds vs) {i : Int} {d : D} (h : L2.atI ds i = some d) : ∃ v, L2.atI vs i = some v ∧ Rep K M H d v := by
 unfold L2.atI at h ⊢
 rw [← r.length]
 cases e : ixN ds.length i with
 | none => rw [e] at h; cases h
 | some j =>
  rw [e] at h
  exact r.get (show ds[j]? = some d from h)
theorem BH4 (ha : PE3 X a ta) (hb : PE3 X b tb) (hs : AQ9 b) : PE3 X (.Subscript a b pos) (A3 C1 ta tb) := by
 intro pins s σv H σ M Q I hS hM h
 refine Subscript_ (thn (ha pins s σv H σ M _ I hS hM h) fun v s1 ⟨x, xv, M1, H1, I1, st1, m1, rv1, p1, q1⟩ =>
  thn (hb pins s1 σv H1 σ M1 _ I1 (hS.mono st1) m1 q1) fun u s2 ⟨y, yv, M2, H2, I2, st2, m2, rv2, p2, q2⟩ => ?_)
 have fin : rIx X.K xv yv H2 (Up X.K M2 H2 Q) := by
  have p1' := p1.mono st2
  cases x <;> cases y <;> first | exact q2.elim | skip
  ·cases p1'; cases p2
   obtain ⟨hz, c, hc, q⟩ := q2
   exact .inr (.inr ⟨_, _, c, rfl, rfl, hz, hc, up0 m2 .str q⟩)
  ·cases p1'; cases p2
   obtain ⟨ds, d, hm, hd, q⟩ := q2
   obtain ⟨ho, e1, r⟩ := m2 _ _ hm
   cases ho <;> first | exact r.elim | skip
   obtain ⟨v', hv, rv⟩ := Reps.atI r hd
   exact .inl ⟨_, _, _, v', rfl, rfl, .inl (.inl e1), hv, up0 m2 rv q⟩
  ·cases p1' with | tup h1 r => cases p2; obtain ⟨d, hd, q⟩ := q2; obtain ⟨v', hv, rv⟩ := Reps.atI r hd; exact .inr (.inl ⟨_, _, _, v', rfl, rfl, SqT.of3 h1, hv, up0 m2 rv q⟩)
  ·cases p1' with | lst h1 r => cases p2; obtain ⟨d, hd, q⟩ := q2; obtain ⟨v', hv, rv⟩ := Reps.atI r hd; exact .inl ⟨_, _, _, v', rfl, rfl, SqL.of3 h1, hv, up0 m2 rv q⟩
 exact thn (BE4 a b pins s2 σv H2 xv yv v u _ I2 rv1 rv2 fin (hs _ _)) fun _ _ z => (Q7 z).trans (st1.trans st2)
def E5 : Lo → Mem → (Option Int → Mem → Prop) → Prop := fun _ M Q => Q none M
def G3 (t : TE3) : Lo → Mem → (Option Int → Mem → Prop) → Prop := fun σ M Q => t σ M fun x M1 => match x with
 | .int i => Q (some i) M1
 | _ => False
abbrev TO3 := Lo → Mem → (Option Int → Mem → Prop) → Prop
def PO3 (X : Cx) (e : Option Expr) (t : TO3) : Prop :=
 ∀ (pins : List (Addr × Obj)) (s : CD9) (σv : L2.St) (H : Hp) (σ : Lo) (M : Mem) (Q : Option Int → Mem → Prop), Inv X pins σv H s → SRel X.K M H σ σv → MRel X.K M H → t σ M Q →
  wpAny (model X.prog X.w) X.A (evalPart e X.env) (fun v s' => ∃ o M' H', Inv X pins σv H' s' ∧ Step M H M' H' ∧ MRel X.K M' H' ∧ IsPart v o ∧ Q o M') X.xe s
theorem AM3 : PO3 X none E5 := by
 intro pins s σv H σ M Q I hS hM h
 rw [evalPart_none]
 exact CD6 ⟨none, M, H, I, .refl, hM, .none, h⟩
theorem AM4 (h : PE3 X e te) : PO3 X (some e) (G3 te) := by
 intro pins s σv H σ M Q I hS hM hw
 rw [evalPart_some]
 refine thn (h pins s σv H σ M _ I hS hM hw) fun u s1 hx0 => ?_
 obtain ⟨x, xv, M1, H1, I1, st1, m1, rv1, p1, q1⟩ := hx0
 cases x <;> first | exact q1.elim | skip
 cases p1
 obtain ⟨t, rfl⟩ := rv1
 exact ⟨some _, M1, H1, I1, st1, m1, .int _ t, q1⟩
def cutD (xs : List D) (lo hi : Option Int) : List D := (xs.drop (HT.sIx xs.length 0 lo)).take (HT.sIx xs.length xs.length hi - HT.sIx xs.length 0 lo)
theorem Reps.cut {M : Mem} {ds : List D} (r : Reps K M H ds vs) (lo hi : Option Int) : Reps K M H (cutD ds lo hi) (QW vs lo hi) := by
 unfold cutD QW
 rw [r.length]
 exact (r.drop _).take _
def AY9 : D → Option Int → Option Int → Mem → DK → Prop := fun x lo hi M Q => match x with
 | .lst ds => Q (.lst (cutD ds lo hi)) M
 | .tup ds => ¬ (HT.sIx ds.length 0 lo = 0 ∧ HT.sIx ds.length ds.length hi = ds.length) ∧ Q (.tup (cutD ds lo hi)) M
 | _ => False
theorem AA8 {lo hi : Option Expr} {tl th : TO3} {p2 : Pos} (he : PE3 X e te) (hl : PO3 X lo tl) (hu : PO3 X hi th) :
  PE3 X (.Subscript e (.Slice lo hi none p2) pos) (fun σ M Q => te σ M fun x M1 => tl σ M1 fun l M2 => th σ M2 fun u M3 => AY9 x l u M3 Q) := by
 intro pins s σv H σ M Q I hS hM h
 refine Subscript_ (thn (he pins s σv H σ M _ I hS hM h) fun v s1 ⟨x, xv, M1, H1, I1, st1, m1, rv1, p1, q1⟩ => ?_)
 refine wpAny_Slice (thn (hl pins s1 σv H1 σ M1 _ I1 (hS.mono st1) m1 q1) fun vl s2 ⟨l, M2, H2, I2, st2, m2, pl, q2⟩ => thn (hu pins s2 σv H2 σ M2 _ I2 (hS.mono (st1.trans st2)) m2 q2) fun vu s3 ⟨u, M3, H3, I3, st3, m3, pu, q3⟩ => ?_)
 rw [evalPart_none]
 refine CD6 ?_
 have I4 : Inv X pins σv H3 { s3 with heap := s3.heap.push { cls := .type "slice", data := .fields #[vl, vu, .none] } } := I3.kept (t' := s3.toks) fun b ob q => CD5 _ q
 have p3 := p1.mono (st2.trans st3)
 have fin : BJ5 X.K xv l u H3 (Up X.K M3 H3 Q) ∨ BJ6 X.K xv l u H3 (Up X.K M3 H3 Q) := by
  cases x <;> first | exact q3.elim | skip
  ·cases p3 with | tup h1 r =>
   obtain ⟨hw, q⟩ := q3
   rw [r.length] at hw
   exact .inr ⟨_, _, rfl, SqT.of3 h1, hw, fun p hp => ⟨_, M3, Step.lay hp, m3.lay hp, .tup (.inl ⟨.inl D4, m3.free hp⟩) ((r.cut l u).mono (Step.lay hp)), q⟩⟩
  ·cases p3 with | lst h1 r =>
   refine .inl ⟨_, _, rfl, SqL.of3 h1, fun p hp => ?_⟩
   exact ⟨_, M3, Step.lay hp, m3.lay hp, .lst (.inl ⟨.inl D4, m3.free hp⟩) ((r.cut l u).mono (Step.lay hp)), q3⟩
 obtain ⟨T, id, hT, ht, hg⟩ := (sl_list.or AP0) pins { s3 with heap := s3.heap.push { cls := .type "slice", data := .fields #[vl, vu, .none] } } σv H3 xv v vl vu l u s3.heap.objs.size _ I4 rv1 (Heap.IsSliceOf.new ..) pl pu fin
 show wpAny (model X.prog X.w) X.A (subscriptTail e (.Slice lo hi none p2) v (.ref s3.heap.objs.size)) (EP3 X pins σv M H Q) X.xe { s3 with heap := s3.heap.push { cls := .type "slice", data := .fields #[vl, vu, .none] } }
 exact tail_any (ops := [.ref s3.heap.objs.size, v]) ht hT (thn hg fun _ _ z => (Q7 z).trans ((st1.trans st2).trans st3)) (by with_unfolding_all rfl)
end
section
variable {X : Cx} {a b e o i value : Expr} {es : List Expr} {ta tb te td ty tv : TE3} {t : TA3} {pos p pos' : Pos} {x : Str} {id T : String} {r : C3}
def B8 (r : C3) (t : TA3) : TE3 := fun σ M Q => t σ M fun ds M1 => r ds M1 Q
theorem AA2 (hc : CallR3 X (.builtin id) r) (hg : Gl X x) (hm : X.mg x = none) (hv : CJ4 x = some (.builtin id)) (ha : PA3 X (e :: es) t) (hn : x ≠ "__name__" := by decide) (hdb : (x == ("__debug__" : Str)) = false := by decide)
  (he : CH7 (e :: es) X.env = (false, eval e X.env) :: CH7 es X.env := by rfl) (hpl : (CV5 pos (CH7 es X.env)).any (·.1) = false := by rfl) : PE3 X (.Call (.Name x p) (e :: es) [] pos) (B8 r t) := by
 intro pins s σv H σ M Q I hS hM h
 refine CN5 (AY I hg hm hv ?_ hn hdb)
 exact CR5 (thn (ha pos pins s σv H σ M _ I hS hM h) fun us s1 ⟨ds, vs, M1, H1, I1, st1, m1, rv1, p1, q1⟩ => thn (hc pins s1 σv H1 M1 ds vs us Q I1 m1 rv1 p1 q1) fun _ _ z => z.trans st1) he hpl
theorem UZ (hc : CallR3 X (.type T) r) (hg : Gl X x) (hm : X.mg x = none) (hv : CJ4 x = some (.type T)) (ha : PA3 X (e :: es) t) (hn : x ≠ "__name__" := by decide) (hdb : (x == ("__debug__" : Str)) = false := by decide)
  (he : CH7 (e :: es) X.env = (false, eval e X.env) :: CH7 es X.env := by rfl) (hpl : (CV5 pos (CH7 es X.env)).any (·.1) = false := by rfl) : PE3 X (.Call (.Name x p) (e :: es) [] pos) (B8 r t) := by
 intro pins s σv H σ M Q I hS hM h
 refine CN5 (AY I hg hm hv ?_ hn hdb)
 exact CO2 (thn (ha pos pins s σv H σ M _ I hS hM h) fun us s1 ⟨ds, vs, M1, H1, I1, st1, m1, rv1, p1, q1⟩ => thn (hc pins s1 σv H1 M1 ds vs us Q I1 m1 rv1 p1 q1) fun _ _ z => z.trans st1) he hpl
theorem AK8 {d : D} (hg : Gl X x) (hm : X.mg x = none) (hv : CJ4 x = some u) (r : RelV v u) (hr : ∀ K M H, Rep K M H d v) (hn : x ≠ "__name__" := by decide) (hd : (x == ("__debug__" : Str)) = false := by decide) : PE3 X (.Name x pos) (tC3 d) :=
 RS (AW3 hg hm hv r hn hd) hr
def D3 : C3 := fun ds M Q => match ds with
 | [.lst xs] => Q (.int xs.length) M
 | [.tup xs] => Q (.int xs.length) M
 | [.str z] => z.length ≤ CE1 ∧ Q (.int z.length) M
 | [.ref a] => ∃ xs, M a = some (.lst xs) ∧ Q (.int xs.length) M
 | _ => False
theorem BD5 : CallR3 X (.builtin "len") D3 := CallR3.of (call_len_seq.or NT) fun H M xs xvs Q m px q => by
 rcases px with _ | ⟨pd, ps⟩; (exact (q : False).elim); rcases ps with _ | ⟨p2, ps2⟩; rotate_left; (first | exact (q : False).elim | (cases pd <;> exact (q : False).elim))
 cases pd with
 | lst h r => exact .inl ⟨_, _, rfl, .inl (SqL.of3 h), by rw [← r.length]; exact up0 m .int q⟩
 | tup h r => exact .inl ⟨_, _, rfl, .inr (SqT.of3 h), by rw [← r.length]; exact up0 m .int q⟩
 | str => exact .inr ⟨_, rfl, q.1, up0 m .int q.2⟩
 | ref =>
  obtain ⟨ds, hm, q⟩ := q
  obtain ⟨ho, e1, r⟩ := m _ _ hm
  cases ho <;> first | exact r.elim | skip
  have r' : Reps X.K M H ds _ := r
  exact .inl ⟨_, _, rfl, .inl (.inl (.inl e1)), by rw [← r'.length]; exact up0 m .int q⟩
 | _ => exact (q : False).elim
def AE : C3 := fun ds M Q => match ds with
 | [.int i] => Q (.int (if i < 0 then -i else i)) M
 | _ => False
theorem BD1 : CallR3 X (.builtin "abs") AE := CallR3.of AE1 fun H M xs xvs Q m px q => by
 rcases px with _ | ⟨pd, ps⟩; (exact (q : False).elim); rcases ps with _ | ⟨p2, ps2⟩; rotate_left; (first | exact (q : False).elim | (cases pd <;> exact (q : False).elim))
 cases pd with
 | int => exact ⟨_, rfl, up0 m .int q⟩
 | _ => exact (q : False).elim
def YG : C3 := fun ds M Q => match ds with
 | [.int i] => Q (.int i) M
 | [.bl k] => Q (.int (if k then 1 else 0)) M
 | _ => False
theorem BD3 : CallR3 X (.type "int") YG := CallR3.of YV fun H M xs xvs Q m px q => by
 rcases px with _ | ⟨pd, ps⟩; (exact (q : False).elim); rcases ps with _ | ⟨p2, ps2⟩; rotate_left; (first | exact (q : False).elim | (cases pd <;> exact (q : False).elim))
 cases pd with
 | int => exact .inl ⟨_, rfl, up0 m .int q⟩
 | bl => exact .inr ⟨_, rfl, up0 m .int q⟩
 | _ => exact (q : False).elim
def GV : C3 := fun ds M Q => match ds with
 | [.lst xs] => Q (.lst xs) M
 | [.tup xs] => Q (.lst xs) M
 | _ => False
theorem WV : CallR3 X (.type "list") GV := CallR3.of NV fun H M xs xvs Q m px q => by
 rcases px with _ | ⟨pd, ps⟩; (exact (q : False).elim); rcases ps with _ | ⟨p2, ps2⟩; rotate_left; (first | exact (q : False).elim | (cases pd <;> exact (q : False).elim))
 cases pd with
 | lst h r => exact ⟨_, _, rfl, .inl (SqL.of3 h), fun l hl => ⟨_, M, Step.lay hl, m.lay hl, .lst (.inl ⟨.inl D4, m.free hl⟩) (r.mono (Step.lay hl)), q⟩⟩
 | tup h r => exact ⟨_, _, rfl, .inr (SqT.of3 h), fun l hl => ⟨_, M, Step.lay hl, m.lay hl, .lst (.inl ⟨.inl D4, m.free hl⟩) (r.mono (Step.lay hl)), q⟩⟩
 | _ => exact (q : False).elim
def tyN : D → String
 | .non => "NoneType" | .bl _ => "bool" | .int _ => "int" | .str _ => "str" | .tup _ => "tuple" | .lst _ => "list" | .dct _ => "dict" | .ty _ => "type" | .ref _ => ""
def isIn (n T : String) : Bool := n == T || (n == "bool" && T == "int")
def FM : D → Prop
 | .ref _ => False
 | .ty _ => False
 | _ => True
def F5 : C3 := fun ds M Q => match ds with
 | [d, .ty T] => FM d ∧ (T = "bool" ∨ T = "int" ∨ T = "str" ∨ T = "tuple" ∨ T = "list") ∧ Q (.bl (isIn (tyN d) T)) M
 | _ => False
theorem BF1 {n T : String} (hn : n = "NoneType" ∨ n = "bool" ∨ n = "int" ∨ n = "str" ∨ n = "tuple" ∨ n = "list" ∨ n = "dict") (hT : T = "bool" ∨ T = "int" ∨ T = "str" ∨ T = "tuple" ∨ T = "list") :
  PySem.W.kitOne K (.type n) (.type T) = some (isIn n T) := by
 rcases hn with rfl | rfl | rfl | rfl | rfl | rfl | rfl <;> rcases hT with rfl | rfl | rfl | rfl | rfl <;> kernel_rfl
end
section
variable {X : Cx} {a b e o i value : Expr} {es : List Expr} {ta tb te td ty tv : TE3} {t : TA3} {pos p pos' : Pos} {x : Str}
theorem BD4 : CallR3 X (.builtin "isinstance") F5 := by
 intro pins s σv H M xs xvs us Q I m rv px q
 have fin : ∀ (d : D) (T : String) (v : V) (u : Value) (n : String) (hn : n = "NoneType" ∨ n = "bool" ∨ n = "int" ∨ n = "str" ∨ n = "tuple" ∨ n = "list" ∨ n = "dict") (G : Heap → Prop), tyN d = n →
   PySem.W.KitX X.K u (.type n) G → G s.heap → u ≠ .builtin "__main__.__loader__#opaque" → (T = "bool" ∨ T = "int" ∨ T = "str" ∨ T = "tuple" ∨ T = "list") ∧ Q (.bl (isIn (tyN d) T)) M →
   wpAny (model X.prog X.w) X.A (call (.builtin "isinstance") [u, .type T]) (EP3 X pins σv M H Q) X.xe s := by
  intro d T v u n hn G e1 kx g hu ⟨hT, q⟩
  subst e1
  exact PySem.W.kia_one kx I.kIn g (BF1 hn hT) hu fun tk => ⟨_, .bl _, M, H, I.tok tk, .refl, m, rfl, .bl, q⟩
 match xs, px, q with
 | [d, .ty T], .cons pd (.cons .ty .nil), q =>
  obtain ⟨u, u', rfl, ru, ru'⟩ := vals2 rv
  cases ru'
  obtain ⟨hd, q⟩ := q
  cases pd with
  | non => cases ru; exact fin .non T .non _ _ (.inl rfl) _ rfl PySem.W.kitx_none True.intro (fun z => nomatch z) q
  | @bl k => cases ru; exact fin (.bl k) T .non _ _ (.inr (.inl rfl)) _ rfl PySem.W.kitx_bool True.intro (fun z => nomatch z) q
  | @int k => obtain ⟨t, rfl⟩ := ru; exact fin (.int k) T .non _ _ (.inr (.inr (.inl rfl))) _ rfl PySem.W.kitx_int True.intro (fun z => nomatch z) q
  | @str k => obtain ⟨t, rfl⟩ := ru; exact fin (.str k) T .non _ _ (.inr (.inr (.inr (.inl rfl)))) _ rfl PySem.W.kitx_str True.intro (fun z => nomatch z) q
  | @tup a k vs h r =>
   cases ru
   obtain ⟨its, _, ⟨ob, h1, h2, _⟩, _⟩ := I.tuple (SqT.of3 h)
   exact fin (.tup k) T .non _ _ (.inr (.inr (.inr (.inr (.inl rfl))))) _ rfl PySem.W.kitx_tuple ⟨ob, h1, h2⟩ (fun z => nomatch z) q
  | @lst a k vs h r =>
   cases ru
   obtain ⟨its, _, ⟨ob, n, h1, h2, _⟩, _⟩ := I.list (SqL.of3 h)
   exact fin (.lst k) T .non _ _ (.inr (.inr (.inr (.inr (.inr (.inl rfl)))))) _ rfl PySem.W.kitx_list ⟨ob, h1, h2⟩ (fun z => nomatch z) q
  | @dct a k vs h r =>
   cases ru
   obtain ⟨_, _, vs, _, ob, es, ep, h1, h2, _⟩ := ME I.hok h.1
   exact fin (.dct k) T .non _ _ (.inr (.inr (.inr (.inr (.inr (.inr rfl)))))) _ rfl PySem.W.kitx_dict ⟨ob, h1, h2.1⟩ (fun z => nomatch z) q
  | ty => exact hd.elim
  | ref => exact hd.elim
def F0 (kds : List (Key × D)) (k : Key) : Option D := (kds.find? fun kv => decide (kv.1 = k)).map (·.2)
def putD (kds : List (Key × D)) (k : Key) (d : D) : List (Key × D) :=
 if (kds.any fun kv => decide (kv.1 = k)) = true then kds.map (fun kv => if kv.1 = k then (kv.1, d) else kv) else kds ++ [(k, d)]
def JG (kds more : List (Key × D)) : List (Key × D) := more.foldl (fun acc kv => putD acc kv.1 kv.2) kds
def kD : Key → D
 | .inl i => .int i
 | .inr x => .str x
def dK? : D → Option Key
 | .int i => some (.inl i)
 | .str x => some (.inr x)
 | _ => none
section
variable {K : CE0} {M : Mem} {H : Hp}
theorem RepK.length {kds : List (Key × D)} (r : RepK K M H kds kvs) : kds.length = kvs.length := by
 induction kds generalizing kvs with
 | nil => cases r; rfl
 | cons d ds ih => cases r with | cons a b => rw [CE7, CE7, ih b]
theorem RepK.val {kds : List (Key × D)} (r : RepK K M H kds kvs) (k : Key) : (∃ d v, F0 kds k = some d ∧ BT kvs k = some v ∧ Rep K M H d v) ∨ (F0 kds k = none ∧ BT kvs k = none) := by
 induction kds generalizing kvs with
 | nil => cases r; exact .inr ⟨rfl, rfl⟩
 | cons d ds ih =>
  cases r with
  | @cons k' d v ds vs a b =>
   by_cases e : k' = k
   ·exact .inl ⟨d, v, by simp [F0, e], by simp [BT, e], a⟩
   ·have e1 : F0 ((k', d) :: ds) k = F0 ds k := by simp [F0, e]
    have e2 : BT ((k', v) :: vs) k = BT vs k := by simp [BT, e]
    rw [e1, e2]; exact ih b
theorem RepK.some {kds : List (Key × D)} (r : RepK K M H kds kvs) {k : Key} {d : D} (h : F0 kds k = Option.some d) : ∃ v, BT kvs k = Option.some v ∧ Rep K M H d v := by
 rcases r.val k with ⟨d', v, e1, e2, q⟩ | ⟨e1, _⟩
 ·rw [h] at e1; cases e1; exact ⟨v, e2, q⟩
 ·rw [h] at e1; cases e1
theorem RepK.anyK {kds : List (Key × D)} (r : RepK K M H kds kvs) (k : Key) : (kds.any fun kv => decide (kv.1 = k)) = kvs.any fun kv => decide (kv.1 = k) := by
 induction kds generalizing kvs with
 | nil => cases r; rfl
 | cons d ds ih => cases r with | cons a b => rw [CP8, CP8, ih b]
theorem RepK.repl {kds : List (Key × D)} (r : RepK K M H kds kvs) (k : Key) {d : D} (q : Rep K M H d v) : RepK K M H (kds.map (fun kv => if kv.1 = k then (kv.1, d) else kv)) (kvs.map (fun kv => if kv.1 = k then (kv.1, v) else kv)) := by
 induction kds generalizing kvs with
 | nil => cases r; exact .nil
 | cons d' ds ih =>
  cases r with
  | @cons k' d' v' ds vs a b =>
   rw [CG9, CG9]
   by_cases e : k' = k
   ·simp only [e, if_true]; exact .cons q (ih b)
   ·simp only [e, if_false]; exact .cons a (ih b)
theorem RepK.snoc {kds : List (Key × D)} (r : RepK K M H kds kvs) (k : Key) {d : D} (q : Rep K M H d v) : RepK K M H (kds ++ [(k, d)]) (kvs ++ [(k, v)]) := by
 induction kds generalizing kvs with
 | nil => cases r; exact .cons q .nil
 | cons d' ds ih => cases r with | cons a b => exact .cons a (ih b)
theorem RepK.put {kds : List (Key × D)} (r : RepK K M H kds kvs) (k : Key) {d : D} (q : Rep K M H d v) : RepK K M H (putD kds k d) (putK kvs k v) := by
 unfold putD putK
 rw [r.anyK]
 split
 ·exact r.repl k q
 ·exact r.snoc k q
theorem RepK.merge {more : List (Key × D)} {mv : List (Key × V)} (q : RepK K M H more mv) : ∀ {kds : List (Key × D)} {kvs : List (Key × V)}, RepK K M H kds kvs → RepK K M H (JG kds more) (GQ kvs mv) := by
 induction more generalizing mv with
 | nil => cases q; exact fun r => r
 | cons d ds ih => cases q with | cons a b => exact fun r => ih b (r.put _ a)
theorem IG {k : Key} (r : Rep K M H (kD k) v) : v = kV k := by
 cases k <;> (cases r; rfl)
theorem AF1 {d : D} {k : Key} (h : dK? d = Option.some k) : d = kD k := by
 cases d <;> first | (cases h; rfl) | cases h
end
def K5 : R3 := fun x y M Q => ∃ k d, dK? y = some k ∧ (match x with
 | .dct kds => F0 kds k = some d
 | .ref a => ∃ kds, M a = some (.dct kds) ∧ F0 kds k = some d
 | _ => False) ∧ Q d M
theorem AL1 (hu : X.A.units + 1 < cLine) (ho : PE3 X o td) (hi : PE3 X i ty) (hs : AQ7 i) : PE3 X (.Subscript o i pos) (A3 K5 td ty) := PE3.of (AW5 hu ho.dn hi.dn hs) fun pins s σv H σ M Q I hS hM h => by
 refine ⟨σ, M, _, hS, hM, h, fun x xv M1 H1 st1 m1 p1 q1 => ⟨σ, M1, _, hS.mono st1, m1, q1, fun y yv M2 H2 st2 m2 p2 q2 => ?_⟩⟩
 obtain ⟨k, d, hk, hx, q⟩ := q2
 have hy := AF1 hk
 subst hy
 have ey := IG p2
 subst ey
 have p1' := p1.mono st2
 cases x <;> first | exact hx.elim | skip
 ·cases p1'
  obtain ⟨kds, hm, hv⟩ := hx
  obtain ⟨ho, e1, r⟩ := m2 _ _ hm
  cases ho <;> first | exact r.elim | skip
  obtain ⟨v, hv', rv⟩ := RepK.some r hv
  exact ⟨_, v, rfl, .inl ⟨_, k, .inl e1, rfl, hv'.symm⟩, d, M2, st1.trans st2, m2, rv, q⟩
 ·cases p1' with
  | dct hf r =>
   obtain ⟨v, hv', rv⟩ := RepK.some r hx
   exact ⟨_, v, rfl, .inl ⟨_, k, hf.1, rfl, hv'.symm⟩, d, M2, st1.trans st2, m2, rv, q⟩
def Z1 (td ty tv : TE3) : TS3 := fun T σ M => tv σ M fun d M1 => td σ M1 fun x M2 => ty σ M2 fun y M3 => ∃ k a kds, dK? y = some k ∧ x = .ref a ∧ M3 a = some (.dct kds) ∧ kds.length < CE1 ∧ T.nx σ (C7 M3 a (.dct (putD kds k d)))
theorem AM7 (hu : X.A.units + 1 < cLine) (ho : PE3 X o td) (hi : PE3 X i ty) (hv : PE3 X value tv) (hs : CT9 value (some (.Subscript o i pos')) pos.line X.env = pure false) :
  PS3 X (.Assign [.Subscript o i pos'] value pos) (Z1 td ty tv) := PS3.of (AX8 hu ho.dn hi.dn hv.dn hs) fun pins s σv H σ M T I hS hM h => by
 refine ⟨σ, M, _, hS, hM, h, fun d v M1 H1 st1 m1 p1 q1 => ⟨σ, M1, _, hS.mono st1, m1, q1, fun x xv M2 H2 st2 m2 p2 q2 => ⟨σ, M2, _, hS.mono (st1.trans st2), m2, q2, fun y yv M3 H3 st3 m3 p3 q3 => ?_⟩⟩⟩
 obtain ⟨k, a, kds, hk, rfl, hm, hl, q⟩ := q3
 have hy := AF1 hk
 subst hy
 have ey := IG p3
 subst ey
 cases p2
 obtain ⟨ho, e1, r⟩ := m3 _ _ hm
 cases ho <;> first | exact r.elim | skip
 have r' : RepK X.K M3 H3 kds _ := r
 have hne : H3 a = none ∨ M3 a ≠ none := .inr (by rw [hm]; intro z; cases z)
 have pd := p1.mono (st2.trans st3)
 refine ⟨a, _, rfl, .inl ⟨_, k, e1, rfl, by rw [← r'.length]; exact hl, rfl⟩, σ, C7 M3 a (.dct (putD kds k d)), ((st1.trans st2).trans st3).trans (Step.put hne), m3.put hne (r'.put k pd), ?_, q⟩
 exact hS.mono (((st1.trans st2).trans st3).trans (Step.put hne))
def Z3 : List (TE3 × TE3) → Lo → Mem → (List (D × D) → Mem → Prop) → Prop
 | [], _, M, Q => Q [] M
 | (tk, tv) :: r, σ, M, Q => tk σ M fun x M1 => tv σ M1 fun y M2 => Z3 r σ M2 fun ps M3 => Q ((x, y) :: ps) M3
def AQ8 (X : Cx) (pos : Pos) (keys : List (Option Expr)) (values : List Expr) (trs : List (TE3 × TE3)) : Prop := PPs X pos keys values (trs.map fun z => (dnE X.K z.1, dnE X.K z.2))
theorem AM5 : AQ8 X pos [] [] [] := AX4
theorem AB3 {k v : Expr} {ks : List (Option Expr)} {vs : List Expr} {tk tv : TE3} {trs : List (TE3 × TE3)} (hk : PE3 X k tk) (hv : PE3 X v tv) (hr : AQ8 X pos ks vs trs) : AQ8 X pos (some k :: ks) (v :: vs) ((tk, tv) :: trs) := AM6 hk.dn hv.dn hr
inductive RepP (K : CE0) (M : Mem) (H : Hp) : List (D × D) → List (V × V) → Prop
 | nil : RepP K M H [] []
 | cons {d1 d2 : D} {v1 v2 : V} {ds : List (D × D)} {vs : List (V × V)} : Rep K M H d1 v1 → Rep K M H d2 v2 → RepP K M H ds vs → RepP K M H ((d1, d2) :: ds) ((v1, v2) :: vs)
theorem NL {K : CE0} : ∀ (trs : List (TE3 × TE3)) {σ : Lo} {σv : L2.St} {M : Mem} {H : Hp} {Q : List (D × D) → Mem → Prop} {Q2 : List (V × V) → Hp → Prop}, SRel K M H σ σv → MRel K M H → Z3 trs σ M Q →
  (∀ ps vs M' H', Step M H M' H' → MRel K M' H' → RepP K M' H' ps vs → Q ps M' → Q2 vs H') → QH (trs.map fun z => (dnE K z.1, dnE K z.2)) σv H Q2
 | [], σ, σv, M, H, Q, Q2, hS, hM, h, hq => hq [] [] M H .refl hM .nil h
 | (tk, tv) :: r, σ, σv, M, H, Q, Q2, hS, hM, h, hq => by
  refine ⟨σ, M, _, hS, hM, h, fun x xv M1 H1 st1 m1 p1 q1 => ⟨σ, M1, _, hS.mono st1, m1, q1, fun y yv M2 H2 st2 m2 p2 q2 => ?_⟩⟩
  refine NL r (hS.mono (st1.trans st2)) m2 q2 fun ps vs M3 H3 st3 m3 p3 q3 => ?_
  exact hq _ _ M3 H3 ((st1.trans st2).trans st3) m3 (.cons (p1.mono (st2.trans st3)) (p2.mono st3) p3) q3
def QF (trs : List (TE3 × TE3)) : TE3 := fun σ M Q => ∀ p, M p = none → Z3 trs σ (C7 M p (.dct [])) fun ps M1 => M1 p = some (.dct []) ∧
 ∃ kds : List (Key × D), ps = kds.map (fun kd => (kD kd.1, kd.2)) ∧ kds.length ≤ 15 ∧ Q (.ref p) (C7 M1 p (.dct (JG [] kds)))
theorem NE {K : CE0} {M : Mem} {H : Hp} : ∀ (kds : List (Key × D)) {vs : List (V × V)}, RepP K M H (kds.map (fun kd => (kD kd.1, kd.2))) vs → ∃ kvs : List (Key × V), vs = kvs.map (fun kv => (kV kv.1, kv.2)) ∧ RepK K M H kds kvs
 | [], vs, r => by cases r; exact ⟨[], rfl, .nil⟩
 | (k, d) :: kds, vs, r => by
  cases r with
  | cons a b c =>
   obtain ⟨kvs, e, q⟩ := NE kds c
   have ek := IG a
   subst ek e
   exact ⟨(k, _) :: kvs, rfl, .cons b q⟩
theorem AA5 {keys : List (Option Expr)} {values : List Expr} {trs : List (TE3 × TE3)} (h : AQ8 X pos keys values trs) (hall : keys.all (·.isSome) = true) (hl : keys.length = values.length) (h0 : keys ≠ []) (h15 : keys.length ≤ 15) :
  PE3 X (.Dict keys values pos) (QF trs) := PE3.of (AW6 h hall hl h0 h15) fun pins s σv H σ M Q I hS hM h => by
 intro p hp
 have st0 : Step M H (C7 M p (.dct [])) (upd H p (.dK [])) := Step.put (.inl hp)
 refine NL trs (hS.mono st0) (hM.put (.inl hp) (show RepK _ _ _ _ _ from .nil)) (h p (hM.free hp)) fun ps vs M1 H1 st1 m1 r1 hx0 => ?_
 obtain ⟨hm, kds, e, hl, q⟩ := hx0
 subst e
 obtain ⟨kvs, rfl, rk⟩ := NE kds r1
 obtain ⟨ho, e1, r⟩ := m1 _ _ hm
 cases ho <;> first | exact r.elim | skip
 have r' : RepK X.K M1 H1 [] _ := r
 cases r'
 have hne : H1 p = none ∨ M1 p ≠ none := .inr (by rw [hm]; intro z; cases z)
 exact ⟨e1, kvs, rfl, by rw [← rk.length]; exact hl, .ref p, C7 M1 p (.dct (JG [] kds)), (st0.trans st1).trans (Step.put hne), m1.put hne (rk.merge .nil), .ref, q⟩
end
def Vs (M : Mem) (d : D) (M' : Mem) (d' : D) : Prop := ∀ (K : CE0) (H : Hp) (v : V), MRel K M H → Rep K M H d v → MRel K M' H ∧ Rep K M' H d' v ∧ ∀ a, M' a ≠ none → M a ≠ none
section
variable {K : CE0} {M M' : Mem} {H : Hp}
theorem Rep.shrink {d : D} (s : ∀ a, M a = none → M' a = none) (r : Rep K M H d v) : Rep K M' H d v :=
 Rep.rec (motive_1 := fun d v _ => Rep K M' H d v) (motive_2 := fun ds vs _ => Reps K M' H ds vs) (motive_3 := fun ds vs _ => RepK K M' H ds vs)
  .non .bl .int .str .ty .ref (fun h _ ih => .tup (h.imp (fun z => ⟨z.1, s _ z.2⟩) id) ih) (fun h _ ih => .lst (h.imp (fun z => ⟨z.1, s _ z.2⟩) id) ih) (fun h _ ih => .dct ⟨h.1, s _ h.2⟩ ih)
  .nil (fun _ _ a b => .cons a b) .nil (fun _ _ a b => .cons a b) r
theorem Reps.shrink {ds : List D} (s : ∀ a, M a = none → M' a = none) (r : Reps K M H ds vs) : Reps K M' H ds vs := by
 induction ds generalizing vs with
 | nil => cases r; exact .nil
 | cons d ds ih => cases r with | cons a b => exact .cons (a.shrink s) (ih b)
theorem RepK.shrink {ds : List (Key × D)} {vs : List (Key × V)} (s : ∀ a, M a = none → M' a = none) (r : RepK K M H ds vs) : RepK K M' H ds vs := by
 induction ds generalizing vs with
 | nil => cases r; exact .nil
 | cons d ds ih => cases r with | cons a b => exact .cons (a.shrink s) (ih b)
theorem RepT.shrink {ds : List (List Int × D)} {xs : List (List Int × Addr × Value)} (s : ∀ a, M a = none → M' a = none) (r : RepT K M H ds xs) : RepT K M' H ds xs := by
 induction r with
 | nil => exact .nil
 | cons a b c _ ih => exact .cons (a.shrink s) (b.shrink s) c ih
def Sub (M' M : Mem) : Prop := ∀ a o, M' a = some o → M a = some o
theorem Sub.refl : Sub M M := fun _ _ h => h
theorem Sub.none {a : Addr} (s : Sub M' M) (h : M a = Option.none) : M' a = Option.none := by
 cases e : M' a with
 | none => rfl
 | some o => rw [s a o e] at h; cases h
theorem MRel.sub (s : Sub M' M) (m : MRel K M H) : MRel K M' H := fun a o e => by
 obtain ⟨ho, e1, r⟩ := m a o (s a o e)
 refine ⟨ho, e1, ?_⟩
 cases o <;> cases ho <;> first | exact r.elim | exact Reps.shrink (fun _ z => s.none z) r | exact RepK.shrink (fun _ z => s.none z) r | (obtain ⟨xs, e, r⟩ := r; exact ⟨xs, e, r.shrink fun _ z => s.none z⟩)
theorem Vs.sub (s : Sub M' M) (d : D) : Vs M d M' d := fun K H v m r => ⟨m.sub s, r.shrink fun _ z => s.none z, fun a h z => h (s.none z)⟩
theorem Vs.refl (d : D) : Vs M d M d := Vs.sub .refl d
theorem mdel_sub : Sub (K4 M a) M := fun b o h => by
 unfold K4 at h
 split at h
 ·cases h
 ·exact h
theorem ZS : K4 M a a = none := by unfold K4; rw [if_pos rfl]
theorem Vs.frzL {ds : List D} (h : M a = some (.lst ds)) : Vs M (.ref a) (K4 M a) (.lst ds) := fun K H v m r => by
 cases r
 obtain ⟨ho, e1, q⟩ := m a _ h
 cases ho <;> first | exact q.elim | skip
 exact ⟨m.sub mdel_sub, .lst (.inl ⟨.inl e1, ZS⟩) (Reps.shrink (fun _ z => mdel_sub.none z) q), fun b hb z => hb (mdel_sub.none z)⟩
theorem Step.less {M0 : Mem} {H0 : Hp} (s : Step M0 H0 M H) (h : ∀ a, M' a ≠ none → M a ≠ none) : Step M0 H0 M' H := ⟨s.keep, fun a z => s.dom a (h a z)⟩
end
section
variable {X : Cx} {a b e o i value : Expr} {es : List Expr} {ta tb te td ty tv : TE3} {t : TA3} {pos p pos' : Pos} {x : Str} {st : Stmt} {rest : List Stmt} {t1 t2 : TS3}
theorem SP3.trans {M M1 : Mem} {H1 : Hp} {T : L1} {f : Flow} (s : Step M H M1 H1) (h : SP3 X pins M1 H1 T f s') : SP3 X pins M H T f s' := by
 cases f with
 | next => obtain ⟨σ', σv', M', H', I, st, r⟩ := h; exact ⟨σ', σv', M', H', I, s.trans st, r⟩
 | brk => obtain ⟨σ', σv', M', H', I, st, r⟩ := h; exact ⟨σ', σv', M', H', I, s.trans st, r⟩
 | cont => obtain ⟨σ', σv', M', H', I, st, r⟩ := h; exact ⟨σ', σv', M', H', I, s.trans st, r⟩
 | ret u => obtain ⟨d, v, σv', M', H', I, st, r⟩ := h; exact ⟨d, v, σv', M', H', I, s.trans st, r⟩
def B3 : TS3 := fun T σ M => T.nx σ M
def A5 (t u : TS3) : TS3 := fun T σ M => t { T with nx := u T } σ M
theorem AN2 : PSs3 X [] B3 := fun _ _ σv H σ M T I hS hM h => wpAny_execs_nil ⟨σ, σv, M, H, I, .refl, hM, hS, h⟩
theorem AB5 (h1 : PS3 X st t1) (h2 : PSs3 X rest t2) : PSs3 X (st :: rest) (A5 t1 t2) := by
 intro pins s σv H σ M T I hS hM h
 refine wpAny_execs_cons (thn (h1 pins s σv H σ M { T with nx := t2 T } I hS hM h) fun f s1 q => ?_)
 cases f with
 | next =>
  obtain ⟨σ', σv', M', H', I', st, m', r', q⟩ := q
  exact thn (h2 pins s1 σv' H' σ' M' T I' r' m' q) fun _ _ z => z.trans st
 | ret v => exact q
 | brk => exact q
 | cont => exact q
theorem AN3 (h1 : PS3 X st t1) : PSs3 X [st] t1 := by
 intro pins s σv H σ M T I hS hM h
 refine wpAny_execs_cons (thn (h1 pins s σv H σ M T I hS hM h) fun f s1 q => ?_)
 cases f with
 | next => exact wpAny_execs_nil q
 | ret v => exact q
 | brk => exact q
 | cont => exact q
def R8 (te : TE3) : TS3 := fun T σ M => te σ M fun _ M1 => T.nx σ M1
theorem AM8 (he : PE3 X e te) (hs : CT9 e none pos.line X.env = pure false := by rfl) : PS3 X (.Expr e pos) (R8 te) := by
 intro pins s σv H σ M T I hS hM h
 exact wpAny_Expr_any (thn (he pins s σv H σ M _ I hS hM h) fun v s1 ⟨d, xv, M1, H1, I1, st1, m1, r1, p1, q1⟩ => ⟨σ, σv, M1, H1, I1, st1, m1, hS.mono st1, q1⟩) I.quiet hs
def B4 (te : TE3) : TS3 := fun T σ M => te σ M T.rt
theorem AX6 (he : PE3 X e te) : PS3 X (.Return (some e) pos) (B4 te) := by
 intro pins s σv H σ M T I hS hM h
 exact wpAny_Return_some (thn (he pins s σv H σ M _ I hS hM h) fun v s1 ⟨d, xv, M1, H1, I1, st1, m1, r1, p1, q1⟩ => ⟨d, xv, σv, M1, H1, I1, st1, m1, r1, p1, q1⟩)
def B9 (c : TT3) (t u : TS3) : TS3 := fun T σ M => c σ M fun b M1 => if b = true then t T σ M1 else u T σ M1
theorem BI7 {c : Expr} {a b : List Stmt} {tc : TT3} (hc : PT3 X c tc) (ha : PSs3 X a t1) (hb : PSs3 X b t2) : PS3 X (.If c a b pos) (B9 tc t1 t2) := by
 intro pins s σv H σ M T I hS hM h
 refine wpAny_If (thn (hc pins s σv H σ M _ I hS hM h) fun d s1 ⟨M1, H1, I1, st1, m1, q1⟩ => ?_)
 cases d with
 | true => exact thn (ha pins s1 σv H1 σ M1 T I1 (hS.mono st1) m1 q1) fun _ _ z => z.trans st1
 | false => exact thn (hb pins s1 σv H1 σ M1 T I1 (hS.mono st1) m1 q1) fun _ _ z => z.trans st1
def B1 (i : Nat) (te : TE3) : TS3 := fun T σ M => te σ M fun d M1 => T.nx (σ.set i (some d)) M1
theorem AX7 {i : Nat} (hN : X.N.Nodup) (hi : X.N[i]? = some x) (hx : Loc X.env.scope x) (he : PE3 X e te) (hs : CT9 e (some (.Name x pos')) pos.line X.env = pure false := by rfl) (hf : X.fn x = true ∨ X.env.scope.names.lookup x = some .local := by first | exact .inl rfl | exact .inr rfl | assumption) :
  PS3 X (.Assign [.Name x pos'] e pos) (B1 i te) := PS3.of (BI9 hN hi hx he.dn hs hf) fun pins s σv H σ M T I hS hM h =>
 ⟨σ, M, _, hS, hM, h, fun d v M' H' st m r q => ⟨σ.set i (some d), M', st, m, (hS.mono st).set r i, q⟩⟩
def Wk (K : CE0) (J : It) (ds : List D) (M : Mem) (H : Hp) : Prop := ∀ M' H', Step M H M' H' →
 (∀ i, i < ds.length → J.go i H') ∧ (∀ i d x H'', ds[i]? = some d → J.yld i H' x H'' → H'' = H' ∧ Rep K M' H' d x) ∧ ∀ i, ds.length ≤ i → J.stop i H'
abbrev TI3 := Lo → Mem → (List D → Mem → Prop) → Prop
def dnI (K : CE0) (t : TI3) : TI := fun σv H R2 => ∃ σ M R, SRel K M H σ σv ∧ MRel K M H ∧ t σ M R ∧ ∀ ds J M' H', Step M H M' H' → MRel K M' H' → Wk K J ds M' H' → R ds M' → R2 J H'
def PI3 (X : Cx) (tg iter : Expr) (t : TI3) : Prop := PI X tg iter (dnI X.K t)
theorem PI.weak {w1 w2 : TI} (h : PI X tg iter w1) (hw : ∀ σ H R, w2 σ H R → w1 σ H R) : PI X tg iter w2 := fun pins s σ H R I q => h pins s σ H R I (hw _ _ _ q)
def L5 (ti : TI3) (i : Nat) (tb : TS3) : TS3 := fun T σ M => ti σ M fun ds M1 => ∃ Pv : Nat → Lo → Mem → Prop, Pv 0 σ M1 ∧
 (∀ k d σ M, ds[k]? = some d → Pv k σ M → tb { T with nx := Pv (k + 1), ct := Pv (k + 1), bk := T.nx } (σ.set i (some d)) M) ∧ ∀ σ M, Pv ds.length σ M → T.nx σ M
theorem AX5 {ti : TI3} {tb : TS3} {i : Nat} {px : Pos} (hp : PassesOwn (model X.prog X.w) X.A X.env X.xe) (hc : X.calm = true) (hi : PI3 X (.Name x px) iter ti)
  (hN : X.N.Nodup) (hix : X.N[i]? = some x) (hx : Loc X.env.scope x) (hb : PSs3 X body tb)
  (hs : ∀ y, CG6 iter X.env y = pure y := by intro _; rfl) (hf : X.fn x = true ∨ X.env.scope.names.lookup x = some .local := by first | exact .inl rfl | exact .inr rfl | assumption) :
  PS3 X (.For (.Name x px) iter body [] pos) (L5 ti i tb) := PS3.of (BI8 hp hc hi (PC hN hix hx hf) hb.dn hs) fun pins s σv H σ M T I hS hM h => by
 refine ⟨σ, M, _, hS, hM, h, fun ds J M1 H1 st1 m1 wk ⟨Pv, p0, turn, done⟩ => ?_⟩
 refine ⟨fun k m σv' H' => m = ds.length - k ∧ k ≤ ds.length ∧ ∃ σ' M', Step M1 H1 M' H' ∧ MRel X.K M' H' ∧ SRel X.K M' H' σ' σv' ∧ Pv k σ' M', ⟨_, rfl, CK6 _, σ, M1, .refl, m1, hS.mono st1, p0⟩, ?_⟩
 rintro k m σv' H' ⟨rfl, hk, σ', M', st', m', hS', pk⟩
 obtain ⟨go, yld, stop⟩ := wk M' H' st'
 by_cases hlt : k < ds.length
 ·refine .inr ⟨go k hlt, fun σ2 H2 => ∃ σ'' M'', Step M1 H1 M'' H2 ∧ MRel X.K M'' H2 ∧ SRel X.K M'' H2 σ'' σ2 ∧ Pv (k + 1) σ'' M'', ?_, ?_⟩
  ·rintro σ2 H2 ⟨σ'', M'', q⟩
   exact ⟨ds.length - (k + 1), by lia, rfl, hlt, σ'', M'', q⟩
  ·intro y H'' hy
   obtain ⟨rfl, ry⟩ := yld k ds[k] y H'' (by simp [hlt]) hy
   refine ⟨σ'.set i (some ds[k]), M', _, hS'.set ry i, m', turn k ds[k] σ' M' (by simp [hlt]) pk, ?_⟩
   exact ⟨fun σ2 v2 M2 H2 s2 m2 r2 q2 => ⟨σ2, M2, st'.trans s2, m2, r2, q2⟩, fun σ2 v2 M2 H2 s2 m2 r2 q2 => ⟨σ2, M2, (st1.trans st').trans s2, m2, r2, q2⟩,
    fun σ2 v2 M2 H2 s2 m2 r2 q2 => ⟨σ2, M2, st'.trans s2, m2, r2, q2⟩, fun d v2 M2 H2 s2 m2 r2 q2 => ⟨d, M2, (st1.trans st').trans s2, m2, r2, q2⟩⟩
 ·have e : k = ds.length := by lia
  subst e
  exact .inl ⟨stop _ (CE9 _), σ', M', st1.trans st', m', hS', done σ' M' pk⟩
def AW (ta : TA3) : TI3 := fun σ M R => ta σ M fun ds M1 => match ds with
 | [.int j] => -(2 ^ 62) ≤ j ∧ j < 2 ^ 62 ∧ R ((CH8 j.toNat).map fun k => D.int (k : Nat)) M1
 | _ => False
theorem VF (hg : Gl X "range") (hm : X.mg "range" = none) (ha : PA3 X [a] t) (hs : CH7 [a] X.env = [(false, eval a X.env)] := by rfl) : PI3 X tg (.Call (.Name "range" p) [a] [] pos) (AW t) :=
 PI.weak (AB1 hg hm ha.dn hs) fun σv H R2 hx0 => by
  obtain ⟨σ, M, R, hS, hM, h, k⟩ := hx0
  refine ⟨σ, M, _, hS, hM, h, fun ds vs M' H' st m r q => ?_⟩
  have px := r
  clear r
  rcases px with _ | ⟨pd, ps⟩; (exact (q : False).elim); rcases ps with _ | ⟨p2, ps2⟩; rotate_left; (first | exact (q : False).elim | (cases pd <;> exact (q : False).elim))
  cases pd with
  | @int j =>
   obtain ⟨h1, h2, q⟩ := q
   refine ⟨j, rfl, h1, h2, k _ _ M' H' st m (fun M2 H2 s2 => ⟨fun i hi => ?_, fun i d x H3 hd hy => ?_, fun i hi => ?_⟩) q⟩
   ·show i < j.toNat
    simpa using hi
   ·obtain ⟨rfl, rfl⟩ := hy
    refine ⟨rfl, ?_⟩
    rw [CF1] at hd
    cases e : (CH8 j.toNat)[i]? with
    | none => rw [e] at hd; cases hd
    | some n =>
     rw [e] at hd
     have en : n = i := by
      rw [List.getElem?_range] at e
      ·exact (Option.some.inj e).symm
      ·have := (List.getElem?_eq_some_iff.mp e).1; simpa using this
     subst en
     cases hd
     have z : (0 : Int) + (n : Int) = (n : Int) := by lia
     rw [z]; exact .int
   ·show j.toNat ≤ i
    simpa using hi
  | _ => exact (q : False).elim
theorem AL9 {te' : TE3} (ha : PE3 X a te') (hte : te' = te) : PI3 X tg a (fun σ M R => te σ M fun d M1 => match d with | .lst ds => R ds M1 | _ => False) := by
 subst hte
 refine PI.weak (AX3 ha.dn) fun σv H R2 hx0 => ?_
 obtain ⟨σ, M, R, hS, hM, h, k⟩ := hx0
 refine ⟨σ, M, _, hS, hM, h, fun d v M' H' st m r q => ?_⟩
 cases r <;> first | exact q.elim | skip
 rename_i a' ds vs h1 rs
 refine ⟨a', rfl, ⟨vs, SqL.of3 h1⟩, k ds _ M' H' st m (fun M2 H2 s2 => ?_) q⟩
 have h2 : SqL X.K H2 a' vs := SqL.of3 (h1.imp (Fix.mono s2) id)
 have r2 := rs.mono s2
 refine ⟨fun i hi => ?_, fun i d x H3 hd hy => ?_, fun i hi => ?_⟩
 ·obtain ⟨v, hv, _⟩ := r2.get (i := i) (d := ds[i]) (by simp [hi])
  exact ⟨vs, v, h2, hv⟩
 ·obtain ⟨rfl, hy⟩ := hy
  obtain ⟨v, hv, rv⟩ := r2.get hd
  rw [hy vs h2] at hv
  cases hv
  exact ⟨rfl, rv⟩
 ·exact ⟨vs, h2, by rw [← r2.length]; exact hi⟩
theorem AX2 (ha : PE3 X a te) : PI3 X tg a (fun σ M R => te σ M fun d M1 => match d with | .tup ds => R ds M1 | _ => False) := by
 refine PI.weak (BI6 ha.dn) fun σv H R2 hx0 => ?_
 obtain ⟨σ, M, R, hS, hM, h, k⟩ := hx0
 refine ⟨σ, M, _, hS, hM, h, fun d v M' H' st m r q => ?_⟩
 cases r <;> first | exact q.elim | skip
 rename_i a' ds vs h1 rs
 refine ⟨a', rfl, ⟨vs, SqT.of3 h1⟩, k ds _ M' H' st m (fun M2 H2 s2 => ?_) q⟩
 have h2 : SqT X.K H2 a' vs := SqT.of3 (h1.imp (Fix.mono s2) id)
 have r2 := rs.mono s2
 refine ⟨fun i hi => ?_, fun i d x H3 hd hy => ?_, fun i hi => ?_⟩
 ·obtain ⟨v, hv, _⟩ := r2.get (i := i) (d := ds[i]) (by simp [hi])
  exact ⟨vs, v, h2, hv⟩
 ·obtain ⟨rfl, hy⟩ := hy
  obtain ⟨v, hv, rv⟩ := r2.get hd
  rw [hy vs h2] at hv
  cases hv
  exact ⟨rfl, rv⟩
 ·exact ⟨vs, h2, by rw [← r2.length]; exact hi⟩
def Its (z : Str) : It := ⟨fun i _ => i < z.cps.size, fun i H x H' => H' = H ∧ ∃ c, z.cps[i]? = some c ∧ x = .str ⟨#[c]⟩, fun i _ => z.cps.size ≤ i⟩
theorem AQ1 (z : Str) (tk : Tok) (it : Addr) (wide : Bool) : Turn P w K tg (Its z) [it] it (fun i h => h.IsStrIter it (if wide then "str_iterator" else "str_ascii_iterator") z tk i) where
 mem := by simp
 obj := fun i h st b hb => by
  have e : b = it := by simpa using hb
  subst e
  obtain ⟨o, e, c, d⟩ := st
  exact ⟨o, e, fun v z => by rw [d] at z; cases z⟩
 keep := fun i h h' st k => let ⟨o, ho, r⟩ := st; ⟨o, k it (by simp) o ho, r⟩
 item := by
  intro X hP hw hK hc i pins s σ H E I hf st hg
  subst hP hw hK
  obtain ⟨f0, f1, f2, f3, f4, f5⟩ := hf it (by simp)
  have hg' : i < z.cps.size := hg
  have fin : ∀ (h' : Heap), h'.IsStrIter it (if wide then "str_iterator" else "str_ascii_iterator") z tk (i + 1) → CK3 it s.heap h' → ∃ u, some (Value.str ⟨#[z.cps[i]]⟩ s.toks) = some u ∧
    wpAny (model X.prog X.w) X.A (CS9 tg (.ref it) u) (fun _ s2 => ∃ x H', Inv X pins σ H' s2 ∧ RelV x u ∧ (Its z).yld i H x H' ∧ s2.heap.IsStrIter it (if wide then "str_iterator" else "str_ascii_iterator") z tk (i + 1) ∧ ∀ b ∈ [it], H' b = none) E { s with heap := h', toks := s.toks + 1 } := by
   intro h' st' sb
   have I1 : Inv X pins σ H { s with heap := h', toks := s.toks + 1 } := I.turned (t' := s.toks + 1) (fun b o hb e => (sb.2 b hb).trans e) f0 f1 f3 f4 f5
   obtain ⟨o, e, c, d⟩ := id st'
   refine ⟨_, rfl, XI (s := { s with heap := h', toks := s.toks + 1 }) e c d (by cases wide <;> decide) ⟨.str ⟨#[z.cps[i]]⟩, H, I1, ⟨_, rfl⟩, ⟨rfl, _, by simp [hg'], rfl⟩, st', fun b hb => (hf b hb).1⟩⟩
  cases wide with
  | false => exact wpAny_pyNext_ascii_item st (c := z.cps[i]) (by simp [hg']) fun h' a b => fin h' a b
  | true => exact wpAny_pyNext_wide_item st (c := z.cps[i]) (by simp [hg']) fun h' a b => fin h' a b
 done := by
  intro X hP hw hK hc i pins s σ H E I hf st hg
  subst hP hw hK
  obtain ⟨f0, f1, f2, f3, f4, f5⟩ := hf it (by simp)
  have hg' : z.cps.size ≤ i := hg
  cases wide with
  | false => exact wpAny_pyNext_ascii_end (I.ok.hd hc) st (by simp [hg']) fun h' eb => ⟨rfl, I.turned (t' := s.toks) (fun b o hb e => eb b o hb e) f0 f1 f3 f4 f5⟩
  | true => exact wpAny_pyNext_wide_end (I.ok.hd hc) st (by simp [hg']) fun h' eb => ⟨rfl, I.turned (t' := s.toks) (fun b o hb e => eb b o hb e) f0 f1 f3 f4 f5⟩
 self := fun A i s Q E st h => by
  cases wide with
  | false => exact wpAny_pyIter_striter_ascii st h
  | true => exact wpAny_pyIter_striter_wide st h
theorem BI5 {l : Expr} {tl : TE} (hl : PE X l tl) : PI X tg l (fun σ H R => tl σ H fun x H1 => ∃ z, x = .str z ∧ R (Its z) H1) := by
 intro pins s σ H R I h
 refine thn (hl pins s σ H _ I h) fun v s1 hx0 => ?_
 obtain ⟨x, H1, I1, r1, q1⟩ := hx0
 obtain ⟨z, e, q⟩ := q1
 subst e
 obtain ⟨tk, rfl⟩ := r1
 have fin : ∀ wide : Bool, PIE X pins σ tg R (.ref s1.heap.objs.size) { s1 with heap := s1.heap.push { cls := .type (if wide then "str_iterator" else "str_ascii_iterator"), data := .fields #[.str z tk, .int 0 0] } } := fun wide => by
  refine ⟨s1.heap.objs.size, [s1.heap.objs.size], _, _, H1, rfl, I1.kept (t' := s1.toks) fun b o e => CD5 _ e, AQ1 z tk _ wide, ⟨_, CE4 _ rfl, rfl, rfl⟩, fun b hb => ?_, q⟩
  have e : b = s1.heap.objs.size := by simpa using hb
  subst e
  exact I1.fpOk (CE9 _) (I1.hok.fresh (CE9 _))
 cases ha : z.cps.all (· < 128)
 ·exact wpAny_pyIter_wide ha (fin true)
 ·exact wpAny_pyIter_ascii ha (fin false)
theorem AX1 (ha : PE3 X a te) : PI3 X tg a (fun σ M R => te σ M fun d M1 => match d with | .str z => R (z.cps.toList.map fun c => D.str ⟨#[c]⟩) M1 | _ => False) := by
 refine PI.weak (BI5 ha.dn) fun σv H R2 hx0 => ?_
 obtain ⟨σ, M, R, hS, hM, h, k⟩ := hx0
 refine ⟨σ, M, _, hS, hM, h, fun d v M' H' st m r q => ?_⟩
 cases r <;> first | exact q.elim | skip
 rename_i z
 refine ⟨z, rfl, k _ _ M' H' st m (fun M2 H2 s2 => ⟨fun i hi => ?_, fun i d x H3 hd hy => ?_, fun i hi => ?_⟩) q⟩
 ·show i < z.cps.size
  simpa using hi
 ·obtain ⟨rfl, c, hc, rfl⟩ := hy
  rw [CF1] at hd
  have : z.cps.toList[i]? = some c := by simpa using hc
  rw [this] at hd
  cases hd
  exact ⟨rfl, .str⟩
 ·show z.cps.size ≤ i
  simpa using hi
end
abbrev Sp3 := List D → Mem → DK → Prop
def IP (K : CE0) (sp : Sp3) : Sp := fun vs H Q _ => ∃ ds M Q3, Reps K M H ds vs ∧ MRel K M H ∧ sp ds M Q3 ∧ ∀ d v M' H', Step M H M' H' → MRel K M' H' → Rep K M' H' d v → Q3 d M' → Q v H'
def View (Q : DK) : DK := fun d M => ∃ d' M', Vs M d M' d' ∧ Q d' M'
theorem View.of {Q : DK} {d : D} {M : Mem} (q : Q d M) : View Q d M := ⟨d, M, .refl d, q⟩
theorem View.sub {Q : DK} {d : D} {M M' : Mem} (s : Sub M' M) (q : Q d M') : View Q d M := ⟨d, M', .sub s d, q⟩
def B2 (N : List Str) (ds : List D) : Lo := ds.map some ++ CD7 (N.length - ds.length) none
theorem AC4 {M : Mem} {ds : List D} (r : Reps K M H ds vs) : SRel K M H (B2 N ds) (L2.start N vs) := by
 refine ⟨by simp [B2, L2.start, r.length], fun i d h => ?_⟩
 unfold B2 at h
 unfold L2.start
 by_cases hi : i < ds.length
 ·rw [CG8 (by simpa using hi), CF1] at h
  rw [CG8 (by simpa [← r.length] using hi), CF1]
  cases e : ds[i]? with
  | none => rw [e] at h; cases h
  | some d' =>
   rw [e] at h; cases h
   obtain ⟨v, hv, rv⟩ := r.get e
   exact ⟨v, by rw [hv]; rfl, rv⟩
 ·rw [CG0 (by simpa using hi), CJ9] at h
  split at h <;> cases h
section
variable {P : CI2} {w : World} {K : CE0} {mg : Str → Option Value} {base : Heap}
theorem Fun.ok3 {f : Addr} {sp : Sp3} (F : Fun K x qual st f fd) (S : C0 N ps (A9 st)) (len : ∀ ds M Q, sp ds M Q → ds.length = ps.length)
  (hbody : ∀ (cdv : Value) (A : CL2) (outer : List Env) (s : CD9) (H : Hp) (E : XK), Room k (A.deeper (envOfC qual (A9 st) s.heap.objs.size f cdv)) →
   ∃ t, PSs3 (UK CX0 P w K mg base N qual (A9 st) f cdv A outer s H E).nox (I0 st) t ∧ ∀ ds M Q, sp ds M Q → t { nx := fun _ M' => View Q .non M', rt := View Q } (B2 N ds) M) :
  FnOk P w K mg base CX0 (k + 1) f fd ps (IP K sp) := by
 refine F.ok S (fun vs H Q E ⟨ds, M, Q3, r, _, h, _⟩ => by rw [← r.length]; exact len _ _ _ h) fun cdv A outer s H vs Q E hr hx0 => ?_
 obtain ⟨ds, M, Q3, r, m, h, q⟩ := hx0
 obtain ⟨t, ht, hs⟩ := hbody cdv A outer s H E hr
 have fin : ∀ d v M' H', Step M H M' H' → MRel K M' H' → Rep K M' H' d v → View Q3 d M' → Q v H' := fun d v M' H' st m' r' hx0 => by
  obtain ⟨d2, M2, vs2, q2⟩ := hx0
  obtain ⟨m2, r2, s2⟩ := vs2 K H' v m' r'
  exact q d2 v M2 H' (st.less s2) m2 r2 q2
 refine ⟨_, ht.dn, B2 N ds, M, _, AC4 r, m, hs ds M Q3 h, ?_⟩
 exact ⟨fun σ' σv' M' H' st m' _ z => fin .non .non M' H' st m' .non z, fun _ _ _ _ _ _ _ z => z.elim, fun _ _ _ _ _ _ _ z => z.elim, fin⟩
end
section
variable {X : Cx} {e : Expr} {es : List Expr} {t : TA3} {x : Str} {p pos : Pos} {k : Nat} {f : Addr} {fd : CH0} {ps : List Str} {sp : Sp3}
def A6 (sp : Sp3) (t : TA3) : TE3 := fun σ M Q => t σ M fun ds M1 => sp ds M1 Q
theorem AK9 (F : FnOk X.prog X.w X.K X.mg X.base CX0 k f fd ps (IP X.K sp)) (hr : Room k X.A) (hg : Gl X x) (hm : X.mg x = some (.ref f)) (hk : CP9 X.K (.ref f) = true) (hb : Binds X.K fd ps [])
  (ha : PA3 X (e :: es) t) (hdb : (x == ("__debug__" : Str)) = false := by decide) (he : CH7 (e :: es) X.env = (false, eval e X.env) :: CH7 es X.env := by rfl) (hpl : (CV5 pos (CH7 es X.env)).any (·.1) = false := by rfl) :
  PE3 X (.Call (.Name x p) (e :: es) [] pos) (A6 sp t) :=
 PE3.of (AW4 F hr hg hm hk hb .nil BV3 ha.dn hdb he hpl) fun pins s σv H σ M Q I hS hM h => by
  refine ⟨σ, M, _, hS, hM, h, fun ds vs M1 H1 st1 m1 r1 q1 => ?_⟩
  show IP X.K sp (vs ++ []) H1 _ _
  rw [CM4]
  exact ⟨ds, M1, Q, r1, m1, q1, fun d v M' H' st m r q => ⟨d, M', st1.trans st, m, r, q⟩⟩
end
abbrev YI : R3 := GU fun i j => .int (i - j)
abbrev BH : R3 := rI3 WQ fun i j => .int (i * j)
abbrev BG : R3 := rI3 QM fun i j => .int (i / j)
abbrev K6 : R3 := rI3 (fun _ j => 0 < j) fun i j => .int (i % j)
abbrev FP : R3 := rI3 AD2 fun i j => .int (i ^ j.toNat)
abbrev AB8 : R3 := GU fun i j => .bl (decide (i < j))
abbrev RZ : R3 := GU fun i j => .bl (decide (i ≤ j))
abbrev DB : R3 := GU fun i j => .bl (decide (j < i))
abbrev BJ3 : R3 := GU fun i j => .bl (decide (j ≤ i))
abbrev BW1 : U3 := rU3 fun i => -i
def BA3 (te : TE3) (tl th : TO3) : TE3 := fun σ M Q => te σ M fun x M1 => tl σ M1 fun l M2 => th σ M2 fun u M3 => AY9 x l u M3 Q
def L7 (te : TE3) : TI3 := fun σ M R => te σ M fun d M1 => match d with | .lst ds => R ds M1 | _ => False
def U6 (te : TE3) : TI3 := fun σ M R => te σ M fun d M1 => match d with | .tup ds => R ds M1 | _ => False
def AH0 (te : TE3) : TI3 := fun σ M R => te σ M fun d M1 => match d with | .str z => R (z.cps.toList.map fun c => D.str ⟨#[c]⟩) M1 | _ => False
section
variable {X : Cx} {a e : Expr} {te : TE3} {pos : Pos} {lo hi : Option Expr} {tl th : TO3} {p2 : Pos} {tg : Expr}
theorem BH6 (he : PE3 X e te) (hl : PO3 X lo tl) (hu : PO3 X hi th) : PE3 X (.Subscript e (.Slice lo hi none p2) pos) (BA3 te tl th) := AA8 he hl hu
theorem BV5 (ha : PE3 X a te) : PI3 X tg a (L7 te) := AL9 ha rfl
theorem BV7 (ha : PE3 X a te) : PI3 X tg a (U6 te) := AX2 ha
theorem BV6 (ha : PE3 X a te) : PI3 X tg a (AH0 te) := AX1 ha
theorem AA6 {i : Int} (hg : Gl X x) (hm : ∃ tk, X.mg x = some (.int i tk)) (hd : (x == ("__debug__" : Str)) = false := by decide) : PE3 X (.Name x pos) (tC3 (.int i)) := by
 obtain ⟨tk, hm⟩ := hm
 exact BF (v := .int i) hg hm ⟨tk, rfl⟩ (fun _ _ => .int) hd
theorem AA7 (hg : Gl X x) (hm : ∃ tk, X.mg x = some (.str z tk)) (hd : (x == ("__debug__" : Str)) = false := by decide) : PE3 X (.Name x pos) (tC3 (.str z)) := by
 obtain ⟨tk, hm⟩ := hm
 exact BF (v := .str z) hg hm ⟨tk, rfl⟩ (fun _ _ => .str) hd
theorem hu3 (hr : Room k X.A) : X.A.units + 1 < cLine := by have := hr.units; lia
end
theorem D5 : CJ4 "len" = some (.builtin "len") := by decide +kernel
theorem NR : CJ4 "abs" = some (.builtin "abs") := by decide +kernel
theorem C4 : CJ4 "isinstance" = some (.builtin "isinstance") := by decide +kernel
theorem AD6 : CJ4 "int" = some (.type "int") := by decide +kernel
theorem WT : CJ4 "bool" = some (.type "bool") := by decide +kernel
theorem AD8 : CJ4 "str" = some (.type "str") := by decide +kernel
theorem WU : CJ4 "list" = some (.type "list") := by decide +kernel
theorem E7 : CJ4 "tuple" = some (.type "tuple") := by decide +kernel
structure FnAt (K : CE0) (mg : Str → Option Value) (x : Str) (st : Stmt) (ps : List Str) (f : Addr) (fd : CH0) : Prop where
 fn : Fun K x x st f fd
 bd : Binds K fd ps []
 gl : mg x = some (.ref f)
theorem us0 (h : us.length = 0) : us = [] := List.length_eq_zero_iff.mp h
theorem us1 (h : us.length = 1) : ∃ a, us = [a] := by
 cases us with
 | nil => cases h
 | cons a r => exact ⟨a, by rw [us0 (Nat.succ.inj h)]⟩
theorem us2 (h : us.length = 2) : ∃ a b, us = [a, b] := by
 cases us with
 | nil => cases h
 | cons a r => obtain ⟨b, e⟩ := us1 (Nat.succ.inj h); exact ⟨a, b, by rw [e]⟩
theorem us3 (h : us.length = 3) : ∃ a b c, us = [a, b, c] := by
 cases us with
 | nil => cases h
 | cons a r => obtain ⟨b, c, e⟩ := us2 (Nat.succ.inj h); exact ⟨a, b, c, by rw [e]⟩
theorem us4 (h : us.length = 4) : ∃ a b c d, us = [a, b, c, d] := by
 cases us with
 | nil => cases h
 | cons a r => obtain ⟨b, c, d, e⟩ := us3 (Nat.succ.inj h); exact ⟨a, b, c, d, by rw [e]⟩
theorem XG {f : Addr} {kV : Value} (X : K.In h) (G : h.Ns CG1 mg)
  (a : CI1 K CG1 x = some (some (.ref f))) (l : K.lookup f = some ⟨oc, od, .func (CM0 x x (N4 st) (I0 st) (A9 st) .none kV doc pm an cdv ct), osl⟩)
  (c : CS0 K cdv x = true) (k : CP9 K (.ref f) = true)
  (hb : ∀ (kV doc pm : Value) (an : Option Addr) (cdv ct : Value) (us : List Value), us.length = ps.length → bindArgs (CM0 x x (N4 st) (I0 st) (A9 st) .none kV doc pm an cdv ct) ⟨us, []⟩ = pure (ps.zip us)) :
  FnAt K mg x st ps f (CM0 x x (N4 st) (I0 st) (A9 st) .none kV doc pm an cdv ct) :=
 ⟨AG5 l c k, (AG5 l c k).binds hb, CR4 X G a⟩
def EM : Sp3 := fun ds M Q => ∃ ns : List Int, ds = [.lst (ns.map D.int)] ∧ ns.length ≤ 63 ∧ (∀ a, M a = none) ∧ ∀ M', Q (.bl true) M'
theorem BZ3 {l : PySem.W.OpenLaw} {q : CI2} {XP : (Str → Option Value) → Heap → Prop} {YP : World → Heap → Prop} {d : DefRec} {K : Params → CE0} (hn : l.most = some 63) (hdf : d.params.defaults = []) (hr : Room k callerA)
  (hY : ∀ (w : World) (h : Heap), YP w h → (K w.params).In h)
  (F : ∀ (w : World) (mg : Str → Option Value) (fa : Addr) (h : Heap), (K w.params).In h → h.Ns CG1 mg → mg d.name = some (.ref fa) →
   ∃ fd : CH0, (∀ (s : CD9) (u : Value), BindsTo s fd ⟨[u], []⟩ [(x, u)]) ∧ ∀ base : Heap, (K w.params).In base → base.Ns CG1 mg → FnOk l.prog w (K w.params) mg base CX0 k fa fd [x] (IP (K w.params) EM)) :
  PySem.W.WalkO q loose XP YP l.row.toRowW d [] (fun f vs => PySem.call f vs) :=
 L2.BA5 (n := 63) (k := k) (x := x) (CX := fun _ => CX0) (sp := fun w => IP (K w.params) EM) hn (by decide) hdf hr hY F
  (fun w H a ns hl _ hS => ⟨[.lst (ns.map D.int)], fun _ => none, fun d _ => d = .bl true, .cons (.lst (hS.imp (fun z => ⟨z, rfl⟩) id) .ints) .nil, (fun _ _ z => nomatch z), ⟨ns, rfl, hl, fun _ => rfl, fun _ => rfl⟩,
   fun d v M' H' _ _ r e => by subst e; cases r; rfl⟩) fun _ _ _ _ _ z => z
def HW (ns : List Int) (a l : Int) : MO := .dct [(.inr "cells", .lst (ns.map D.int)), (.inr "at", .int a), (.inr "left", .int l)]
def Pen (M : Mem) (p : Addr) (b : Nat) : Prop := ∃ ns a l, M p = some (HW ns a l) ∧ ns.length ≤ 63 ∧ 0 ≤ a ∧ a ≤ (b : Int) ∧ 0 ≤ l
def Same3 (p : Addr) (M M' : Mem) : Prop := ∀ q, q ≠ p → M' q = M q
theorem Same3.trans {M M1 M2 : Mem} (a : Same3 p M M1) (b : Same3 p M1 M2) : Same3 p M M2 := fun q h => (b q h).trans (a q h)
def NH : Sp3 := fun ds M Q => ∃ ns : List Int, ds = [.lst (ns.map D.int)] ∧ ns.length ≤ 63 ∧ ∀ p M', M p = none → Pen M' p 0 → Same3 p M M' → Q (.ref p) M'
def C8 : Sp3 := fun ds M Q => ∃ p many b, ds = [.ref p, .int many] ∧ Pen M p b ∧ b < 2 ^ 30 ∧ 0 < many ∧ many < 2 ^ 200 ∧ ∀ n M', 0 ≤ n → n < many → Pen M' p (b + 1) → Same3 p M M' → Q (.int n) M'
def J4 (c : Str → Addr) : List (Str × CQ7) → List (Str × Addr) → List (Str × Addr)
 | [], acc => acc
 | (n, k) :: r, acc => J4 c r (if (k == .free) = true then (n, c n) :: acc else acc)
theorem DC (h : ∀ p ∈ scope.names, p.2 = .free → env.cells.lookup p.1 = some (c p.1)) : closureFor scope env = pure (J4 c scope.names []) := by
 unfold closureFor
 have key : ∀ (l : List (Str × CQ7)) (acc : List (Str × Addr)), (∀ p ∈ l, p.2 = .free → env.cells.lookup p.1 = some (c p.1)) →
   (forIn l acc fun (x : Str × CQ7) (r : List (Str × Addr)) => match x with
    | (name, kind) => if (kind == NameKind.free) = true then do let y ← cellOf env name; pure (ForInStep.yield ((name, y) :: r)) else pure (ForInStep.yield r) : Sem (List (Str × Addr))) = pure (J4 c l acc) := by
  intro l
  induction l with
  | nil => intro acc _; rfl
  | cons p l ih =>
   intro acc hp
   obtain ⟨n, k⟩ := p
   rw [CN6]
   by_cases hk : (k == NameKind.free) = true
   ·have hkf : k = .free := by simpa using hk
    have hc := hp (n, k) CF3 hkf
    have e : cellOf env n = pure (c n) := by unfold cellOf; rw [show env.cells.lookup n = some (c n) from hc]
    simp only [hk, if_true, e]
    have := ih ((n, c n) :: acc) fun q hq => hp q (CF2 _ hq)
    unfold J4
    rw [if_pos hk, ← this]
    rfl
   ·simp only [hk, if_false]
    have := ih acc fun q hq => hp q (CF2 _ hq)
    unfold J4
    rw [if_neg hk, ← this]
    rfl
 have k2 := key scope.names [] h
 first
  | exact k2
  | (refine Eq.trans ?_ k2; rfl)
  | (simp only [bind_pure]; exact k2)
theorem GL (c : Str → Addr) : ∀ (l : List (Str × CQ7)) (acc : List (Str × Addr)) (p : Str × Addr), p ∈ J4 c l acc → p ∈ acc ∨ (p.2 = c p.1 ∧ (p.1, NameKind.free) ∈ l)
 | [], acc, p, h => .inl h
 | (n, k) :: r, acc, p, h => by
  unfold J4 at h
  rcases GL c r _ p h with h | ⟨h1, h2⟩
  ·by_cases hk : (k == NameKind.free) = true
   ·rw [if_pos hk] at h
    rcases CF9.mp h with rfl | h
    ·have hkf : k = .free := by simpa using hk
     exact .inr ⟨rfl, by rw [hkf]; exact CF3⟩
    ·exact .inl h
   ·rw [if_neg hk] at h; exact .inl h
  ·exact .inr ⟨h1, CF2 _ h2⟩
theorem MD (c : Str → Addr) : ∀ (l : List (Str × CQ7)) (acc : List (Str × Addr)) (n : Str), ((n, NameKind.free) ∈ l ∨ (n, c n) ∈ acc) → (n, c n) ∈ J4 c l acc
 | [], acc, n, h => by
  rcases h with h | h
  ·exact absurd h (by simp)
  ·exact h
 | (m, k) :: r, acc, n, h => by
  unfold J4
  refine MD c r _ n ?_
  rcases h with h | h
  ·rcases CF9.mp h with e | h
   ·cases e
    exact .inr (by rw [if_pos (by decide)]; exact CF3)
   ·exact .inl h
  ·by_cases hk : (k == NameKind.free) = true
   ·rw [if_pos hk]; exact .inr (CF2 _ h)
   ·rw [if_neg hk]; exact .inr h
theorem LH {l : List (Str × Addr)} (h : ∀ p ∈ l, p.2 = c p.1) {n : Str} (hm : (n, c n) ∈ l) : l.lookup n = some (c n) := by
 induction l with
 | nil => exact absurd hm (by simp)
 | cons p r ih =>
  obtain ⟨m, a⟩ := p
  by_cases e : n = m
  ·subst e
   have : a = c n := h (n, a) CF3
   simp [CQ8, this]
  ·have e' : (n == m) = false := by simpa using e
   simp only [CQ8, e']
   refine ih (fun q hq => h q (CF2 _ hq)) ?_
   rcases CF9.mp hm with z | z
   ·cases z; exact absurd rfl e
   ·exact z
theorem YZ (c : Str → Addr) (l : List (Str × CQ7)) : ∀ p ∈ J4 c l [], p.2 = c p.1 := fun p hp => by
 rcases GL c l [] p hp with h | h
 ·exact absurd h (by simp)
 ·exact h.1
theorem EX {l : List (Str × CQ7)} {n : Str} (h : (n, NameKind.free) ∈ l) : (J4 c l []).lookup n = some (c n) :=
 LH (YZ c l) (MD c l [] n (.inl h))
theorem RP {l : List (Str × CQ7)} {n : Str} (h : (J4 c l []).lookup n = some a) : a = c n ∧ (n, NameKind.free) ∈ l := by
 have hm := CI7 h
 rcases GL c l [] (n, a) hm with z | z
 ·exact absurd z (by simp)
 ·exact z
theorem ZA {R : Result → CD9 → Prop} {target : Expr} {it acc : Value} (I : Nat → CD9 → Prop)
  (turn : ∀ n s, I n s → wpAny (model prog w) A (CW8 it) (fun r s₁ => match r with
   | none => R (.ok .next) s₁
   | some v => wpAny (model prog w) A (CS9 target it v) (fun _ s₁' => wpAny (model prog w) A (assign target env v) (fun _ s₂ =>
     wpAny (model prog w) A (forIn ifs true fun c r => if r = true then do let ok ← isTrue c env (eval c env); pure (ForInStep.yield ok) else pure (ForInStep.yield r)) (fun ok s₃ =>
      if ok = true then wpAny (model prog w) A (eval elt env) (fun x s₄ =>
       wpAny (model prog w) A (call (.builtin "list.append") [acc, x]) (fun _ s₅ => ∃ m, m < n ∧ I m s₅) (fun _ _ => False) s₄) (fun _ _ => False) s₃
      else ∃ m, m < n ∧ I m s₃) (fun _ _ => False) s₂) (fun _ _ => False) s₁') (fun _ _ => False) s₁) (fun _ _ => False) s)
  (n : Nat) (h : I n s) : codeAny (model prog w) A (.compLoop (.ListComp elt [⟨target, iter, ifs, 0⟩] scope pos) 0 it acc env) R s := by
 refine codeAny_loop rfl I (fun n s hI => ?_) n h
 show wpAny _ A ((compTurn (.ListComp elt [⟨target, iter, ifs, 0⟩] scope pos) 0 it acc env).onRaise (fun x => do noteFrame x env; theTreesLotGoes x)) _ _ s
 refine wpAny_noted ?_
 rw [compTurn_list]
 refine CD4 (CS8 (CD4 (CJ8 (turn n s hI) (fun r s₁ h₁ => ?_) fun _ _ h' => h'.elim)))
 cases r with
 | none => exact CD6 h₁
 | some v =>
  refine CD4 (CJ8 h₁ (fun _ s₁' h₁' => ?_) fun _ _ h' => h'.elim)
  refine CD4 (CJ8 h₁' (fun _ s₂ h₂ => CD4 (CJ8 h₂ (fun ok s₃ h₃ => ?_) fun _ _ h' => h'.elim)) fun _ _ h' => h'.elim)
  cases ok with
  | false => exact CD6 ⟨rfl, h₃⟩
  | true =>
   exact CD4 (CD4 (CJ8 h₃ (fun x s₄ h₄ => CD4 (CJ8 h₄ (fun _ s₅ h₅ => CD6 (CD6 ⟨rfl, h₅⟩)) fun _ _ h' => h'.elim)) fun _ _ h' => h'.elim))
def B0 (X : Cx) (scope : Scope) (cl : List (Str × Addr)) (s₀ : CD9) (H₀ : Hp) (ex : List Addr) (N' : List Str) : Cx :=
 { X with N := N', s₀ := s₀, H₀ := H₀, env := compEnvC scope cl s₀.heap.objs.size X.env, outer := X.stack, stack := X.stack, ex := ex, fn := fun _ => false, pn := [], xe := fun _ _ => False }
theorem FT (hcell : ∀ y ∈ scope.names, y.2 ≠ .cell) (h : (relabel scope env).names.lookup x = some .cell ∨ (relabel scope env).names.lookup x = some .free) : (x, NameKind.free) ∈ scope.names := by
 have key : ∀ k', (k' = .cell ∨ k' = .free) → (relabel scope env).names.lookup x = some k' → (x, NameKind.free) ∈ scope.names := fun k' hk h => by
  have hm := CI7 h
  obtain ⟨⟨n, k⟩, hn, e⟩ := List.mem_map.mp hm
  by_cases hc : (k == NameKind.free && env.scope.kind == .function && env.kindOf n == some .cell) = true
  ·dsimp only at e
   rw [if_pos hc] at e
   cases e
   have : k = .free := by
    simp only [CH5] at hc
    simpa using hc.1.1
   rw [this] at hn; exact hn
  ·dsimp only at e
   rw [if_neg hc] at e
   cases e
   rcases hk with rfl | rfl
   ·exact absurd rfl (hcell _ hn)
   ·exact hn
 rcases h with h | h
 ·exact key _ (.inl rfl) h
 ·exact key _ (.inr rfl) h
def W6 (X : Cx) (ifs : List Expr) (t : TT3) : Prop :=
 ∀ (pins : List (Addr × Obj)) (s : CD9) (σv : L2.St) (H : Hp) (σ : Lo) (M : Mem) (Q : Bool → Mem → Prop), Inv X pins σv H s → SRel X.K M H σ σv → MRel X.K M H → t σ M Q →
  wpAny (model X.prog X.w) X.A (forIn ifs true fun c r => if r = true then do let ok ← isTrue c X.env (eval c X.env); pure (ForInStep.yield ok) else pure (ForInStep.yield r)) (TP3 X pins σv M H Q) X.xe s
def G6 : TT3 := fun _ M Q => Q true M
theorem AM1 {X : Cx} : W6 X [] G6 := fun pins s σv H σ M Q I hS hM h => by
 rw [List.forIn_nil]
 exact CD6 ⟨M, H, I, .refl, hM, h⟩
theorem AM2 {X : Cx} {c : Expr} {t : TT3} (hc : PT3 X c t) : W6 X [c] t := fun pins s σv H σ M Q I hS hM h => by
 rw [CN6]
 simp only [if_true]
 refine CD4 (CD4 (thn (hc pins s σv H σ M Q I hS hM h) fun b s1 q => CD6 ?_))
 show wpAny _ _ (forIn [] b _) _ _ _
 rw [List.forIn_nil]
 exact CD6 q
abbrev TG3 := D → Lo → Mem → (Lo → Mem → Prop) → Prop
def dnG (K : CE0) (g : TG3) : TG := fun v σv H Q2 => ∃ d σ M Q, Rep K M H d v ∧ SRel K M H σ σv ∧ MRel K M H ∧ g d σ M Q ∧ ∀ σ' σv' M' H', Step M H M' H' → MRel K M' H' → SRel K M' H' σ' σv' → Q σ' M' → Q2 σv' H'
def PG3 (X : Cx) (tg : Expr) (g : TG3) : Prop := PG X tg (dnG X.K g)
theorem PG.weak {X : Cx} {g1 g2 : TG} (h : PG X tg g1) (hw : ∀ v σ H Q, g2 v σ H Q → g1 v σ H Q) : PG X tg g2 := fun pins s σ H v u Q I r q => h pins s σ H v u Q I r (hw _ _ _ _ q)
def J2 (i : Nat) : TG3 := fun d σ M Q => Q (σ.set i (some d)) M
theorem AL6 {X : Cx} (hN : X.N.Nodup) (hi : X.N[i]? = some x) (hx : Loc X.env.scope x) (hf : X.fn x = true ∨ X.env.scope.names.lookup x = some .local := by first | exact .inl rfl | exact .inr rfl | assumption) : PG3 X (.Name x pos) (J2 i) :=
 PG.weak (PC hN hi hx hf) fun v σv H Q2 ⟨d, σ, M, Q, r, hS, hM, h, k⟩ => k (σ.set i (some d)) _ M H .refl hM (hS.set r i) h
def U0 {α : Type} : List (Option α) → List Nat → List α → List (Option α)
 | σ, i :: is, x :: xs => U0 (σ.set i (some x)) is xs
 | σ, _, _ => σ
def AG6 (is : List Nat) : TGs := fun vs σ H Q => vs.length = is.length ∧ Q (U0 σ is vs) H
theorem PGs.weak {X : Cx} {ts : List Expr} {g1 g2 : TGs} (h : PGs X ts g1) (hw : ∀ v σ H Q, g2 v σ H Q → g1 v σ H Q) : PGs X ts g2 := fun pins s σ H v u Q I r q => h pins s σ H v u Q I r (hw _ _ _ _ q)
theorem AL7 {X : Cx} : PGs X [] (AG6 []) := PGs.weak AX0 fun vs σ H Q hx0 => by
 obtain ⟨hl, q⟩ := hx0
 have e : vs = [] := List.length_eq_zero_iff.mp hl
 subst e
 exact ⟨rfl, q⟩
theorem AB0 {X : Cx} (hN : X.N.Nodup) (hi : X.N[i]? = some x) (hx : Loc X.env.scope x) (h2 : PGs X es (AG6 is))
  (hf : X.fn x = true ∨ X.env.scope.names.lookup x = some .local := by first | exact .inl rfl | exact .inr rfl | assumption)
  (hs : (CN3 (.Name x pos :: es) X.env).map (·.2) = assign (.Name x pos) X.env :: (CN3 es X.env).map (·.2) := by rfl) : PGs X (.Name x pos :: es) (AG6 (i :: is)) :=
 PGs.weak (AL8 (PC hN hi hx hf) h2 hs) fun vs σ H Q hx0 => by
  obtain ⟨hl, q⟩ := hx0
  cases vs with
  | nil => cases hl
  | cons v r => exact ⟨v, r, rfl, by simpa using hl, q⟩
theorem EL {K : CE0} {M : Mem} {H : Hp} : ∀ {is : List Nat} {ds : List D} {vs : List V} {σ : Lo} {σv : L2.St}, Reps K M H ds vs → SRel K M H σ σv → SRel K M H (U0 σ is ds) (U0 σv is vs)
 | [], ds, vs, σ, σv, r, hS => by cases ds <;> cases vs <;> exact hS
 | i :: is, _, _, σ, σv, .nil, hS => hS
 | i :: is, _, _, σ, σv, .cons a b, hS => EL (is := is) b (hS.set a i)
def AV (is : List Nat) : TG3 := fun d σ M Q => ∃ ds, d = .tup ds ∧ ds.length = is.length ∧ Q (U0 σ is ds) M
theorem AW9 {X : Cx} (hc : X.calm = true) (h : PGs X es (AG6 is))
  (hn : (CN3 es X.env).length = is.length := by rfl) (hst : (CN3 es X.env).findIdx? (·.1) = none := by rfl) : PG3 X (.Tuple es k pos) (AV is) :=
 PG.weak (BI4 hc h hn hst) fun v σv H Q2 hx0 => by
  obtain ⟨d, σ, M, Q, r, hS, hM, ⟨ds, e, hl, q⟩, kk⟩ := hx0
  subst e
  cases r with
  | tup h1 rs => exact ⟨_, _, rfl, SqT.of3 h1, by rw [← rs.length]; exact hl, by rw [← rs.length]; exact hl, kk _ _ M H .refl hM (EL rs hS) q⟩
def TM (g : TG3) (te : TE3) : TS3 := fun T σ M => te σ M fun d M1 => g d σ M1 T.nx
theorem YF {X : Cx} {te : TE3} {g : TG3} (he : PE3 X e te) (hg : PG3 X tg g) (hs : swapsWithSole [tg] e pos.line X.env = pure false := by rfl) (hw : swappedStores [tg] e X.env = pure none := by rfl)
  (h1 : (CN3 [tg] X.env).map (·.2) = [assign tg X.env] := by rfl) : PS3 X (.Assign [tg] e pos) (TM g te) := PS3.of (AN1 he.dn hg hs hw h1) fun pins s σv H σ M T I hS hM h =>
 ⟨σ, M, _, hS, hM, h, fun d v M' H' st m r q => ⟨d, σ, M', _, r, hS.mono st, m, q, fun σ' σv' M2 H2 st2 m2 r2 q2 => ⟨σ', M2, st.trans st2, m2, r2, q2⟩⟩⟩
theorem HL {f : Str × CQ7 → Str × CQ7} (hf : ∀ p, (f p).1 = p.1) {x : Str} : ∀ {l : List (Str × CQ7)}, (l.map f).lookup x = (l.lookup x).map fun k => (f (x, k)).2
 | [] => rfl
 | (n, k) :: r => by
  have h1 := hf (n, k)
  rw [CG9]
  generalize hq : f (n, k) = q at h1 ⊢
  obtain ⟨q1, q2⟩ := q
  cases h1
  rw [CQ8, CQ8]
  by_cases e : x = n
  ·subst e
   simp [hq]
  ·have e' : (x == n) = false := by simpa using e
   rw [e']
   exact HL hf
theorem KA : (relabel scope env).names.lookup x = (scope.names.lookup x).map fun k => if (k == NameKind.free && env.scope.kind == .function && env.kindOf x == some .cell) = true then NameKind.cell else k := by
 have := HL (f := fun p => if (p.2 == NameKind.free && env.scope.kind == .function && env.kindOf p.1 == some .cell) = true then (p.1, NameKind.cell) else (p.1, p.2)) (fun p => by split <;> rfl) (x := x) (l := scope.names)
 refine this.trans ?_
 congr 1
 funext k
 split <;> rfl
theorem DH (h : scope.names.lookup x = some .free) : (relabel scope env).names.lookup x = some .cell ∨ (relabel scope env).names.lookup x = some .free := by
 rw [KA, h, CM2]
 split
 ·exact .inl rfl
 ·exact .inr rfl
def F9 (ti : TI3) (n : Nat) (slots : List Nat) (g : TG3) (tt : TT3) (te : TE3) : TE3 := fun σ M Q => ti σ M fun ds M1 => ∀ p, M1 p = none → ∃ Pv : Nat → List D → Mem → Prop, Pv 0 [] (C7 M1 p (.lst [])) ∧
 (∀ k d acc M, ds[k]? = some d → Pv k acc M → g d (CD7 n none ++ slots.map fun j => (σ[j]?).getD none) M fun σ' M0 => tt σ' M0 fun b M' =>
  if b = true then te σ' M' fun e M'' => M'' p = some (.lst acc) ∧ acc.length < CE1 ∧ Pv (k + 1) (acc ++ [e]) (C7 M'' p (.lst (acc ++ [e]))) else Pv (k + 1) acc M') ∧
 ∀ acc M, Pv ds.length acc M → M p = some (.lst acc) ∧ Q (.lst acc) (K4 M p)
def K9 (ti : TI3) (n : Nat) (slots : List Nat) (g : TG3) (tt : TT3) (te : TE3) : TE3 := fun σ M Q => ti σ M fun ds M1 => ∀ p, M1 p = none → ∃ Pv : Nat → List D → Mem → Prop, Pv 0 [] (C7 M1 p (.lst [])) ∧
 (∀ k d acc M, ds[k]? = some d → Pv k acc M → g d (CD7 n none ++ slots.map fun j => (σ[j]?).getD none) M fun σ' M0 => tt σ' M0 fun b M' =>
  if b = true then te σ' M' fun e M'' => M'' p = some (.lst acc) ∧ acc.length < CE1 ∧ Pv (k + 1) (acc ++ [e]) (C7 M'' p (.lst (acc ++ [e]))) else Pv (k + 1) acc M') ∧
 ∀ acc M, Pv ds.length acc M → M p = some (.lst acc) ∧ Q (.ref p) M
def WkE (K : CE0) (J : It) (ds : List D) (M : Mem) (H : Hp) : Prop := ∀ M' H', Step M H M' H' → MRel K M' H' →
 (∀ i, i < ds.length → J.go i H') ∧ (∀ i d x H'', ds[i]? = some d → J.yld i H' x H'' → Step M' H' M' H'' ∧ MRel K M' H'' ∧ Rep K M' H'' d x) ∧ J.stop ds.length H'
def CA0 (K : CE0) (t : TI3) : TI := fun σv H R2 => ∃ σ M R, SRel K M H σ σv ∧ MRel K M H ∧ t σ M R ∧ ∀ ds J M' H', Step M H M' H' → MRel K M' H' → WkE K J ds M' H' → R ds M' → R2 J H'
def EU (X : Cx) (tg iter : Expr) (t : TI3) : Prop := PI X tg iter (CA0 X.K t)
theorem PI3.toE {X : Cx} {t : TI3} (h : PI3 X tg iter t) : EU X tg iter t := PI.weak h fun σv H R2 ⟨σ, M, R, hS, hM, ht, k⟩ => ⟨σ, M, R, hS, hM, ht, fun ds J M' H' st m wk => k ds J M' H' st m fun M2 H2 st2 m2 =>
 let ⟨go, yld, stop⟩ := wk M2 H2 st2
 ⟨go, fun i d x H'' e y => by obtain ⟨rfl, r⟩ := yld i d x H'' e y; exact ⟨.refl, m2, r⟩, stop _ (CE9 _)⟩⟩
def BN6 (ti : TI3) (n : Nat) (slots : List Nat) (g : TG3) (tt : TT3) (te : TE3) (F : Addr → List D → Mem → Prop) (σ : Lo) (M : Mem) : Prop := ti σ M fun ds M1 => ∀ p, M1 p = none → ∃ Pv : Nat → List D → Mem → Prop, Pv 0 [] (C7 M1 p (.lst [])) ∧
 (∀ k d acc M, ds[k]? = some d → Pv k acc M → g d (CD7 n none ++ slots.map fun j => (σ[j]?).getD none) M fun σ' M0 => tt σ' M0 fun b M' =>
  if b = true then te σ' M' fun e M'' => M'' p = some (.lst acc) ∧ acc.length < CE1 ∧ Pv (k + 1) (acc ++ [e]) (C7 M'' p (.lst (acc ++ [e]))) else Pv (k + 1) acc M') ∧
 ∀ acc M, Pv ds.length acc M → M p = some (.lst acc) ∧ F p acc M
set_option maxHeartbeats 2000000 in
theorem BV {X : Cx} {ti : TI3} {g : TG3} {tt : TT3} {te : TE3}
  (hc : X.calm = true) (hi : EU X tg iter ti) (hkind : scope.kind = .function) (hcell : ∀ y ∈ scope.names, y.2 ≠ .cell)
  (hnames : ∀ y ∈ scope.names, y.2 = .local → scope.names.lookup y.1 = some .local)
  (hfree : ∀ y ∈ scope.names, y.2 = .free → X.env.kindOf y.1 = some .cell ∨ X.env.kindOf y.1 = some .free)
  (hcf : ∀ y ∈ caps, scope.names.lookup y = some .free) (hcaps : slots.map (fun j => X.N[j]?) = caps.map some)
  (hgk : ∀ d M Q (cs : Lo), g d (CD7 tns.length none ++ cs) M Q → g d (CD7 tns.length none ++ cs) M (fun σ' M' => σ'.drop tns.length = cs ∧ Q σ' M'))
  (hg : ∀ cl s₀ H₀ ex, PG3 (B0 X scope cl s₀ H₀ ex (tns ++ caps)) tg g)
  (ht : ∀ cl s₀ H₀ ex, W6 (B0 X scope cl s₀ H₀ ex (tns ++ caps)) ifs tt) (he : ∀ cl s₀ H₀ ex, PE3 (B0 X scope cl s₀ H₀ ex (tns ++ caps)) elt te)
  (hs : ∀ y, CG6 iter X.env y = pure y)
  {use : Option (Value → Sem Unit)} {Post : Value → CD9 → Prop} {σv : L2.St} {σ : Lo} {M : Mem} {F : Addr → List L3.D → Mem → Prop} (I : Inv X pins σv H s) (hS : SRel X.K M H σ σv) (hM : MRel X.K M H) (h : BN6 ti tns.length slots g tt te F σ M)
  (fin : ∀ (D C : Addr) (acc : List L3.D) (H5 : Hp) (M5 : Mem) (s6 : CD9) (m : Str → Option Value), s6.heap.Ns C m → Inv X pins σv H5 s6 → H5 C = none → C ≠ X.env.locals → C ∉ X.fs → X.s₀.heap.objs.size ≤ C → (∀ x c, X.env.cells.lookup x = some c → c ≠ C) → (∀ p ∈ X.pn ++ pins, p.1 ≠ C) →
   Step M H M5 H5 → MRel X.K M5 H5 → M5 D = some (.lst acc) → F D acc M5 → compPost (model X.prog X.w) X.A X.xe use Post (.ref D) C (.ok .next) s6) :
  wpAny (model X.prog X.w) X.A (comprehension (.ListComp elt [⟨tg, iter, ifs, 0⟩] scope pos) scope X.env (firstIterPos [⟨tg, iter, ifs, 0⟩] pos) (newList []) false (firstIter [⟨tg, iter, ifs, 0⟩] X.env) use) Post X.xe s := by
 have hclos : closureFor scope X.env = pure (J4 (fun n => (X.env.cells.lookup n).getD 0) scope.names []) := DC fun p hp hk => by
  obtain ⟨a, e⟩ := I.ok.has p.1 (hfree p hp hk)
  rw [e]; rfl
 have cellsOf : ∀ x c, (J4 (fun n => (X.env.cells.lookup n).getD 0) scope.names []).lookup x = some c → X.env.cells.lookup x = some c := fun x c e => by
  obtain ⟨e1, e2⟩ := RP e
  obtain ⟨a, e3⟩ := I.ok.has x (hfree _ e2 rfl)
  rw [e3] at e1
  rw [e3, e1]; rfl
 have clHas : ∀ n, (n, NameKind.free) ∈ scope.names → ∃ c, (J4 (fun n => (X.env.cells.lookup n).getD 0) scope.names []).lookup n = some c := fun n hn => ⟨_, EX hn⟩
 generalize J4 (fun n => (X.env.cells.lookup n).getD 0) scope.names [] = cl at hclos cellsOf clHas
 refine wpAny_comprehension_free rfl hs hclos hkind hnames ?_
 refine thn (hi pins s σv H (fun J H2 => ∃ ds M1, Step M H M1 H2 ∧ MRel X.K M1 H2 ∧ WkE X.K J ds M1 H2 ∧ _) I ⟨σ, M, _, hS, hM, h, fun ds J M1 H1 st m wk q => ⟨ds, M1, st, m, wk, q⟩⟩) fun v s1 h1 => thn h1 fun itv s2 h2 => ?_
 obtain ⟨it, fp, tn, J, H2, e0, I2, T, st2, f2, ds, M1, stp, m1, wk, cont⟩ := h2
 subst e0
 refine CG4 ?_
 have I3 := I2.lnew (its := []) (ys := []) (t' := s2.toks) .nil (CK6 _)
 have hget : ∀ b o, s2.heap.get? b = some o → ({ s2 with heap := s2.heap.push { cls := .type "list", data := .seq #[] }, toks := s2.toks } : CD9).heap.get? b = some o := fun b o e => CD5 _ e
 have hsz : s2.heap.objs.size < ({ s2 with heap := s2.heap.push { cls := .type "list", data := .seq #[] }, toks := s2.toks } : CD9).heap.objs.size := CE2 (CE4 _ rfl)
 change wpAny _ _ _ _ _ ({ s2 with heap := s2.heap.push { cls := .type "list", data := .seq #[] }, toks := s2.toks } : CD9)
 change Inv X pins σv _ ({ s2 with heap := s2.heap.push { cls := .type "list", data := .seq #[] }, toks := s2.toks } : CD9) at I3
 have hos3 : ({ s2 with heap := s2.heap.push { cls := .type "list", data := .seq #[] }, toks := s2.toks } : CD9).os = s2.os := rfl
 generalize ({ s2 with heap := s2.heap.push { cls := .type "list", data := .seq #[] }, toks := s2.toks } : CD9) = s3 at I3 hget hsz hos3 ⊢
 refine wpAny_newFunctionEnv hcell (fun _ hx => absurd hx (by simp)) (fun h4 hns hsb => ?_) hkind
 have hDn : H2 s2.heap.objs.size = none := I2.fresh
 have hD : upd H2 s2.heap.objs.size (.lst []) s2.heap.objs.size = some (.lst []) := D4
 have fpne : ∀ b ∈ fp, b ≠ s2.heap.objs.size := fun b hb => by
  obtain ⟨o, e, _⟩ := T.obj _ _ st2 b hb
  exact CF6 (CE2 e)
 generalize s2.heap.objs.size = D at hDn hD hsz I3 fpne ⊢
 have stD : Step M1 H2 (C7 M1 D (.lst [])) (upd H2 D (.lst [])) := Step.put (.inl hDn)
 have mD : MRel X.K (C7 M1 D (.lst [])) (upd H2 D (.lst [])) := m1.put (.inl hDn) .nil
 have k4 : ∀ b o, s3.heap.get? b = some o → h4.get? b = some o := fun b o e => (hsb.2 b (CF6 (CE2 e))).trans (CD5 _ e)
 have fpold : ∀ b ∈ fp, b < s3.heap.objs.size := fun b hb => by
  obtain ⟨o, e, _⟩ := T.obj _ _ st2 b hb
  exact CE2 (hget b o e)
 have fpD : ∀ b ∈ fp, upd H2 D (.lst []) b = none := fun b hb => by
  rw [D1 (fpne b hb)]; exact (f2 b hb).1
 have xok : (B0 X scope cl s3 (upd H2 D (.lst [])) fp (tns ++ caps)).Ok := {
  mod := I.ok.mod
  kind := hkind
  glob := I.ok.glob
  blt := I.ok.blt
  above := CE9 _
  inj := fun x y c e1 e2 => I.ok.inj x y c (cellsOf x c e1) (cellsOf y c e2)
  has := fun x hx => clHas x (FT hcell hx)
  cab := fun x c hf => by cases hf
  hd := I.ok.hd
  frames := I.ok.frames
  stk := .inl rfl
  exf := fun b hb => ⟨CF6 (fpold b hb), fun x c e => (f2 b hb).2.2.2.2.1 x c (cellsOf x c e)⟩
  bs := I3.bs
  bsz := CI6 I3.ok.bsz I3.sz
  noex := fun b o e hb => by
   rcases (f2 b hb).2.2.2.1 with z | z
   ·exact I.ok.noex b o e z
   ·exact absurd (CH4 (CE2 e) (CI6 I.ok.bsz z)) (CK7 _)
  exfs := fun b hb z => by
   rcases CF9.mp (I2.stkSub b z) with z | z
   ·exact (f2 b hb).2.1 z
   ·exact (f2 b hb).2.2.1 z
  funs := I3.stack
  frf := I3.stkFree }
 have I4 : Inv (B0 X scope cl s3 (upd H2 D (.lst [])) fp (tns ++ caps)) [] (CD7 tns.length none ++ slots.map fun j => (σv[j]?).getD none) (upd H2 D (.lst [])) { s3 with heap := h4, toks := s3.toks + ([] : List (Str × Value)).length } := {
  ok := xok
  os := rfl
  bare := I3.bare
  base := Un.kept k4
  loc := by
   refine ⟨_, hns, fun i x v e1 e2 vis => ?_⟩
   have hlen : caps.length = slots.length := by
    have := congrArg CR2 hcaps
    simpa using this.symm
   have hi : tns.length ≤ i := by
    rcases CP6 i tns.length with z | z
    ·rw [CG8 (by simpa using z), CJ9] at e2
     split at e2 <;> cases e2
    ·exact z
   change (tns ++ caps)[i]? = some x at e1
   rw [CG0 hi] at e1
   rw [CG0 (by simpa using hi), CH6, CF1] at e2
   cases e3 : slots[i - tns.length]? with
   | none => rw [e3] at e2; cases e2
   | some j =>
    rw [e3, CM2] at e2
    have e2' : (σv[j]?).getD none = some v := Option.some.inj e2
    have e5 : σv[j]? = some (some v) := by
     cases q : σv[j]? with
     | none => rw [q] at e2'; cases e2'
     | some z => rw [q] at e2'; simp only [CW4] at e2'; rw [e2']
    have e4 : X.N[j]? = some x := by
     have := congrArg (fun l => l[i - tns.length]?) hcaps
     simp only [CF1, e3, e1, CM2] at this
     exact Option.some.inj this
    have hxf := hcf x (CF5 e1)
    have hk := hfree (x, .free) (CI7 hxf) rfl
    obtain ⟨m, hm, hl⟩ := I3.loc
    obtain ⟨u, ru, lk⟩ := hl j x v e4 e5 (hk.elim (fun z => .inr (.inl z)) fun z => .inr (.inr z))
    refine ⟨u, ru, .inr ⟨DH hxf, ?_⟩⟩
    rcases lk with ⟨z, _⟩ | ⟨_, c, ec, ic⟩
    ·rcases hk with y | y <;> (rw [show X.env.kindOf x = _ from z] at y; cases y)
    ·obtain ⟨c', ec'⟩ := clHas x (CI7 hxf)
     have := cellsOf x c' ec'
     rw [ec] at this
     cases this
     obtain ⟨o, ho, r⟩ := ic
     exact ⟨c, ec', o, k4 _ _ ho, r⟩
  cell := fun x c e => by
   obtain ⟨v, o, ho, r⟩ := I3.cell x c (cellsOf x c e)
   exact ⟨v, o, k4 _ _ ho, r⟩
  free := I3.fresh
  freeC := fun x c e => I3.freeC x c (cellsOf x c e)
  pin := fun p hp => absurd hp (by simp [B0])
  hok := I3.hok.kept k4
  len := by
   have := congrArg CR2 hcaps
   simp at this
   simp [B0, this] }
 have hlen : caps.length = slots.length := by
  have := congrArg CR2 hcaps
  simpa using this.symm
 have stat : ∀ {H' : Hp}, (∀ b ∈ fp, H' b = none) → ∀ b ∈ fp, KY (B0 X scope cl s3 (upd H2 D (.lst [])) fp (tns ++ caps)) [] H' b := fun hn b hb =>
  ⟨hn b hb, (xok.exf b hb).1, xok.exfs b hb, .inl hb, (xok.exf b hb).2, fun p hp => absurd hp (by simp [B0])⟩
 have hMD : M1 D = none := m1.free hDn
 obtain ⟨Pv, p0, turn, done⟩ := cont D hMD
 have hS0 : SRel X.K (C7 M1 D (.lst [])) (upd H2 D (.lst [])) (CD7 tns.length none ++ slots.map fun j => (σ[j]?).getD none) (CD7 tns.length none ++ slots.map fun j => (σv[j]?).getD none) := by
  refine ⟨by simp, fun i d e => ?_⟩
  rcases CP6 i tns.length with z | z
  ·rw [CG8 (by simpa using z), CJ9] at e
   split at e <;> cases e
  ·rw [CG0 (by simpa using z), CH6, CF1] at e ⊢
   cases e3 : slots[i - tns.length]? with
   | none => rw [e3] at e; cases e
   | some j =>
    rw [e3, CM2] at e
    have e2' : (σ[j]?).getD none = some d := Option.some.inj e
    have e5 : σ[j]? = some (some d) := by
     cases q : σ[j]? with
     | none => rw [q] at e2'; cases e2'
     | some z => rw [q] at e2'; simp only [CW4] at e2'; rw [e2']
    obtain ⟨v, ev, rv⟩ := hS.get j d e5
    exact ⟨v, by rw [CM2, ev]; rfl, rv.mono (stp.trans stD)⟩
 generalize hcs : (slots.map fun j => (σ[j]?).getD none) = cs at turn hS0
 have hcsl : cs.length = caps.length := by rw [← hcs, hlen]; simp
 have loop : codeAny (model X.prog X.w) X.A (.compLoop (.ListComp elt [⟨tg, iter, ifs, 0⟩] scope pos) 0 (.ref it) (.ref D) (compEnvC scope cl s3.heap.objs.size X.env)) (compPost (model X.prog X.w) X.A X.xe use Post (.ref D) s3.heap.objs.size) { s3 with heap := h4, toks := s3.toks + ([] : List (Str × Value)).length } := by
  refine ZA (fun n s' => ∃ k acc σv' H' M', n = ds.length - k ∧ k ≤ ds.length ∧ Inv (B0 X scope cl s3 (upd H2 D (.lst [])) fp (tns ++ caps)) [] σv' H' s' ∧ tn k s'.heap ∧ (∀ b ∈ fp, H' b = none) ∧
   Step (C7 M1 D (.lst [])) (upd H2 D (.lst [])) M' H' ∧ MRel X.K M' H' ∧ SRel X.K M' H' (CD7 tns.length none ++ cs) σv' ∧ Pv k acc M') ?_ _ ⟨0, [], _, _, _, rfl, CK6 _, I4, T.keep _ _ _ st2 fun b hb o e => k4 _ _ (hget _ _ e), fpD, .refl, mD, hS0, p0⟩
  rintro n s5 ⟨k, acc, σv5, H5, M5, rfl, hk, I5, tn5, fr5, st5, m5, hS5, pk⟩
  obtain ⟨go, yld, stop⟩ := wk M5 H5 (stD.trans st5) m5
  by_cases hlt : k < ds.length
  ·refine thn (T.item (B0 X scope cl s3 (upd H2 D (.lst [])) fp (tns ++ caps)) rfl rfl rfl hc k [] s5 σv5 H5 (fun _ _ => False) I5 (stat fr5) tn5 (go k hlt)) fun r s6 hx0 => ?_
   obtain ⟨u, hr, h6⟩ := hx0
   subst hr
   refine thn h6 fun _ s7 hx0 => ?_
   obtain ⟨x, H7, I7, r7, y7, tn7, fr7⟩ := hx0
   obtain ⟨sy, my, ry⟩ := yld k ds[k] x H7 (by simp [hlt]) y7
   have I7' := I7.pinned (stat fr7) (T.obj _ _ tn7)
   refine thn (hg cl s3 (upd H2 D (.lst [])) fp _ s7 σv5 _ x u (fun σv' H' => ∃ σ' M', Step M5 H7 M' H' ∧ MRel X.K M' H' ∧ SRel X.K M' H' σ' σv' ∧ _) I7' r7 ⟨ds[k], _, M5, _, ry, hS5.mono sy, my, hgk _ _ _ _ (turn k ds[k] acc M5 (by simp [hlt]) pk), fun σ' σv' M' H' st m r q => ⟨σ', M', st, m, r, q⟩⟩) fun _ s8 hx0 => ?_
   obtain ⟨σ8, H8, I8, σ', M8, st8, m8, hS8, hdr, q8⟩ := hx0
   have again : ∀ (sF : CD9) (HF : Hp) (MF : Mem) (accF : List L3.D), Inv (B0 X scope cl s3 (upd H2 D (.lst [])) fp (tns ++ caps)) ([] ++ GT fp s7.heap) σ8 HF sF → Step M8 H8 MF HF → MRel X.K MF HF → Pv (k + 1) accF MF →
     ∃ m, m < ds.length - k ∧ ∃ k acc σv' H' M', m = ds.length - k ∧ k ≤ ds.length ∧ Inv (B0 X scope cl s3 (upd H2 D (.lst [])) fp (tns ++ caps)) [] σv' H' sF ∧ tn k sF.heap ∧ (∀ b ∈ fp, H' b = none) ∧
      Step (C7 M1 D (.lst [])) (upd H2 D (.lst [])) M' H' ∧ MRel X.K M' H' ∧ SRel X.K M' H' (CD7 tns.length none ++ cs) σv' ∧ Pv k acc M' := by
    intro sF HF MF accF IF stF mF pF
    refine ⟨ds.length - (k + 1), by lia, k + 1, accF, σ8, HF, MF, rfl, hlt, IF.unpinned, T.keep _ _ _ tn7 fun b hb o e => (IF.pin (b, o) (CF0 _ (CF0 _ (L9 hb e)))).1, fun b hb => ?_, ((st5.trans sy).trans st8).trans stF, mF, ?_, pF⟩
    ·obtain ⟨o, e, d⟩ := T.obj _ _ tn7 b hb
     exact (IF.pin (b, o) (CF0 _ (CF0 _ (L9 hb e)))).2.1
    ·refine SRel.mono stF ⟨?_, fun i d e => ?_⟩
     ·have := I8.len
      rw [this, CE6, CH6, hcsl]
      simp [B0]
     ·rcases CP6 i tns.length with z | z
      ·rw [CG8 (by simpa using z), CJ9] at e
       split at e <;> cases e
      ·rw [CG0 (by simpa using z), CH6, ← hdr, List.getElem?_drop] at e
       have : tns.length + (i - tns.length) = i := by lia
       rw [this] at e
       exact hS8.get i d e
   refine thn (ht cl s3 (upd H2 D (.lst [])) fp _ s8 σ8 H8 σ' M8 _ I8 hS8 m8 q8) fun ok s9 hx0 => ?_
   obtain ⟨M9, H9, I9, st9, m9, q9⟩ := hx0
   cases ok with
   | false => exact again s9 H9 M9 acc I9 st9 m9 q9
   | true =>
    refine thn (he cl s3 (upd H2 D (.lst [])) fp _ s9 σ8 H9 σ' M9 _ I9 (hS8.mono st9) m9 q9) fun xv s10 hx0 => ?_
    obtain ⟨e, v, M10, H10, I10, st10, m10, r10, rep10, hMp, hlt2, q10⟩ := hx0
    obtain ⟨ho, hHo, rO⟩ := m10 D _ hMp
    cases ho <;> first | exact (rO : False).elim | skip
    rename_i vs
    have rO' : Reps X.K M10 H10 acc vs := rO
    refine thn (MV _ s10 σ8 H10 (.ref D) [v] (.ref D) [xv] (fun w H' => H' = upd H10 D (.lst (vs ++ [v]))) I10 rfl (.cons r10 .nil) ⟨D, vs, v, rfl, rfl, hHo, by rw [← rO'.length]; exact hlt2, rfl⟩) fun _ s11 hx0 => ?_
    obtain ⟨w, H11, I11, _, e11⟩ := hx0
    subst e11
    exact again s11 _ _ _ I11 (st9.trans (st10.trans (Step.put (.inr (by rw [hMp]; simp))))) (m10.put (.inr (by rw [hMp]; simp)) (o := .lst (acc ++ [e])) (Reps.append rO' (.cons rep10 .nil))) q10
  ·have e : k = ds.length := by lia
   subst e
   refine thn (T.done (B0 X scope cl s3 (upd H2 D (.lst [])) fp (tns ++ caps)) rfl rfl rfl hc _ [] s5 σv5 H5 (fun _ _ => False) I5 (stat fr5) tn5 stop) fun r s6 hx0 => ?_
   obtain ⟨hr, I6⟩ := hx0
   subst hr
   obtain ⟨m, hn, _⟩ := I6.loc
   obtain ⟨hp, hq⟩ := done acc M5 pk
   refine fin D s3.heap.objs.size acc H5 M5 s6 m hn (I3.call' (ch := fp) I6.os I6.base I6.hok I6.bare (fun b hb => ⟨(f2 b hb).2.2.2.1, (f2 b hb).2.1, (f2 b hb).2.2.2.2.1, (f2 b hb).2.2.2.2.2⟩)) I6.free (CR6 I3.lt) (I3.nofs (CE9 _)) I3.sz (fun x c e z => ?_) (fun p hp z => absurd (CE2 (I3.pin p hp).1) (by rw [z]; exact CK7 _)) ((stp.trans stD).trans st5) m5 hp hq
   obtain ⟨v, q⟩ := I3.cell x c e
   exact absurd q.lt (by rw [z]; exact CK7 _)
 exact codeAny_compStart_list loop (T.self _ _ _ _ _ (T.keep _ _ _ st2 fun b hb o e => k4 _ _ (hget _ _ e)) loop)
theorem JL {X : Cx} {ti : TI3} {g : TG3} {tt : TT3} {te : TE3}
  (hc : X.calm = true) (hi : EU X tg iter ti) (hkind : scope.kind = .function) (hcell : ∀ y ∈ scope.names, y.2 ≠ .cell)
  (hnames : ∀ y ∈ scope.names, y.2 = .local → scope.names.lookup y.1 = some .local)
  (hfree : ∀ y ∈ scope.names, y.2 = .free → X.env.kindOf y.1 = some .cell ∨ X.env.kindOf y.1 = some .free)
  (hcf : ∀ y ∈ caps, scope.names.lookup y = some .free) (hcaps : slots.map (fun j => X.N[j]?) = caps.map some)
  (hgk : ∀ d M Q (cs : Lo), g d (CD7 tns.length none ++ cs) M Q → g d (CD7 tns.length none ++ cs) M (fun σ' M' => σ'.drop tns.length = cs ∧ Q σ' M'))
  (hg : ∀ cl s₀ H₀ ex, PG3 (B0 X scope cl s₀ H₀ ex (tns ++ caps)) tg g)
  (ht : ∀ cl s₀ H₀ ex, W6 (B0 X scope cl s₀ H₀ ex (tns ++ caps)) ifs tt) (he : ∀ cl s₀ H₀ ex, PE3 (B0 X scope cl s₀ H₀ ex (tns ++ caps)) elt te)
  (hs : ∀ y, CG6 iter X.env y = pure y := by intro _; rfl) :
  PE3 X (.ListComp elt [⟨tg, iter, ifs, 0⟩] scope pos) (K9 ti tns.length slots g tt te) := by
 intro pins s σv H σ M Q I hS hM h
 rw [eval_ListComp]
 refine BV hc hi hkind hcell hnames hfree hcf hcaps hgk hg ht he hs (use := none) (F := fun p _ M => Q (.ref p) M) I hS hM h fun D C acc H5 M5 s6 m hn I7 c1 c2 c3 c4 c5 c6 st m5 hp hq => ?_
 exact ⟨m, hn, fun h' sb => ⟨.ref D, .ref D, M5, H5, I7.turned (t' := s6.toks) (it := C) (fun b o hb e => (sb.2 b hb).trans e) c1 c2 (.inr c4) c5 c6, st, m5, rfl, .ref, hq⟩⟩
theorem VB {X : Cx} {ti : TI3} {g : TG3} {tt : TT3} {te : TE3}
  (hc : X.calm = true) (hi : PI3 X tg iter ti) (hkind : scope.kind = .function) (hcell : ∀ y ∈ scope.names, y.2 ≠ .cell)
  (hnames : ∀ y ∈ scope.names, y.2 = .local → scope.names.lookup y.1 = some .local)
  (hfree : ∀ y ∈ scope.names, y.2 = .free → X.env.kindOf y.1 = some .cell ∨ X.env.kindOf y.1 = some .free)
  (hcf : ∀ y ∈ caps, scope.names.lookup y = some .free) (hcaps : slots.map (fun j => X.N[j]?) = caps.map some)
  (hgk : ∀ d M Q (cs : Lo), g d (CD7 tns.length none ++ cs) M Q → g d (CD7 tns.length none ++ cs) M (fun σ' M' => σ'.drop tns.length = cs ∧ Q σ' M'))
  (hg : ∀ cl s₀ H₀ ex, PG3 (B0 X scope cl s₀ H₀ ex (tns ++ caps)) tg g)
  (ht : ∀ cl s₀ H₀ ex, W6 (B0 X scope cl s₀ H₀ ex (tns ++ caps)) ifs tt) (he : ∀ cl s₀ H₀ ex, PE3 (B0 X scope cl s₀ H₀ ex (tns ++ caps)) elt te)
  (hs : ∀ y, CG6 iter X.env y = pure y := by intro _; rfl) :
  PE3 X (.ListComp elt [⟨tg, iter, ifs, 0⟩] scope pos) (K9 ti tns.length slots g tt te) := JL hc hi.toE hkind hcell hnames hfree hcf hcaps hgk hg ht he hs
theorem MY {X : Cx} {ti : TI3} {g : TG3} {tt : TT3} {te : TE3}
  (hc : X.calm = true) (hi : EU X tg iter ti) (hkind : scope.kind = .function) (hcell : ∀ y ∈ scope.names, y.2 ≠ .cell)
  (hnames : ∀ y ∈ scope.names, y.2 = .local → scope.names.lookup y.1 = some .local)
  (hfree : ∀ y ∈ scope.names, y.2 = .free → X.env.kindOf y.1 = some .cell ∨ X.env.kindOf y.1 = some .free)
  (hcf : ∀ y ∈ caps, scope.names.lookup y = some .free) (hcaps : slots.map (fun j => X.N[j]?) = caps.map some)
  (hgk : ∀ d M Q (cs : Lo), g d (CD7 tns.length none ++ cs) M Q → g d (CD7 tns.length none ++ cs) M (fun σ' M' => σ'.drop tns.length = cs ∧ Q σ' M'))
  (hg : ∀ cl s₀ H₀ ex, PG3 (B0 X scope cl s₀ H₀ ex (tns ++ caps)) tg g)
  (ht : ∀ cl s₀ H₀ ex, W6 (B0 X scope cl s₀ H₀ ex (tns ++ caps)) ifs tt) (he : ∀ cl s₀ H₀ ex, PE3 (B0 X scope cl s₀ H₀ ex (tns ++ caps)) elt te)
  (hs : ∀ y, CG6 iter X.env y = pure y := by intro _; rfl) :
  PE3 X (.ListComp elt [⟨tg, iter, ifs, 0⟩] scope pos) (F9 ti tns.length slots g tt te) := by
 intro pins s σv H σ M Q I hS hM h
 rw [eval_ListComp]
 refine BV hc hi hkind hcell hnames hfree hcf hcaps hgk hg ht he hs (use := none) (F := fun p acc M => Q (.lst acc) (K4 M p)) I hS hM h fun D C acc H5 M5 s6 m hn I7 c1 c2 c3 c4 c5 c6 st m5 hp hq => ?_
 obtain ⟨mF, rF, sF⟩ := Vs.frzL hp X.K H5 (.ref D) m5 .ref
 exact ⟨m, hn, fun h' sb => ⟨.lst acc, .ref D, K4 M5 D, H5, I7.turned (t' := s6.toks) (it := C) (fun b o hb e => (sb.2 b hb).trans e) c1 c2 (.inr c4) c5 c6, st.less sF, mF, rfl, rF, hq⟩⟩
theorem AL0 {X : Cx} {ti : TI3} {g : TG3} {tt : TT3} {te : TE3}
  (hc : X.calm = true) (hi : PI3 X tg iter ti) (hkind : scope.kind = .function) (hcell : ∀ y ∈ scope.names, y.2 ≠ .cell)
  (hnames : ∀ y ∈ scope.names, y.2 = .local → scope.names.lookup y.1 = some .local)
  (hfree : ∀ y ∈ scope.names, y.2 = .free → X.env.kindOf y.1 = some .cell ∨ X.env.kindOf y.1 = some .free)
  (hcf : ∀ y ∈ caps, scope.names.lookup y = some .free) (hcaps : slots.map (fun j => X.N[j]?) = caps.map some)
  (hgk : ∀ d M Q (cs : Lo), g d (CD7 tns.length none ++ cs) M Q → g d (CD7 tns.length none ++ cs) M (fun σ' M' => σ'.drop tns.length = cs ∧ Q σ' M'))
  (hg : ∀ cl s₀ H₀ ex, PG3 (B0 X scope cl s₀ H₀ ex (tns ++ caps)) tg g)
  (ht : ∀ cl s₀ H₀ ex, W6 (B0 X scope cl s₀ H₀ ex (tns ++ caps)) ifs tt) (he : ∀ cl s₀ H₀ ex, PE3 (B0 X scope cl s₀ H₀ ex (tns ++ caps)) elt te)
  (hs : ∀ y, CG6 iter X.env y = pure y := by intro _; rfl) :
  PE3 X (.ListComp elt [⟨tg, iter, ifs, 0⟩] scope pos) (F9 ti tns.length slots g tt te) := MY hc hi.toE hkind hcell hnames hfree hcf hcaps hgk hg ht he hs
theorem MH {prog : CI2} {w : World} {A : CL2} {E : Value → CD9 → Prop} {it l : Addr} : ∀ {n : Nat} {s : CD9} {items : Array Value} {i : Nat} {Q : List Value → CD9 → Prop}, s.heap.IsListIter it l i → s.heap.IsList l items → it ≠ l → i + n ≤ items.size →
  (∀ h', h'.IsListIter it l (i + n) → CK3 it s.heap h' → Q ((items.toList.drop i).take n) { s with heap := h' }) → wpAny (model prog w) A (PySem.draw (.ref it) n) Q E s
 | 0, s, items, i, Q, hi, hl, hne, hn, k => by
  unfold PySem.draw
  exact CD6 (by simpa using k s.heap hi ⟨rfl, fun _ _ => rfl⟩)
 | n + 1, s, items, i, Q, hi, hl, hne, hn, k => by
  have hlt : i < items.size := by lia
  unfold PySem.draw
  refine CD4 (wpAny_pyNext_list_item hi hl (x := items[i]) (by simp [hlt]) fun h' hi' sb => ?_)
  have hl' : h'.IsList l items := by
   obtain ⟨o, ho, r⟩ := hl
   exact ⟨o, (sb.2 l (Ne.symm hne)).trans ho, r⟩
  refine CD4 (CH3 (MH (n := n) (s := { s with heap := h' }) (i := i + 1) hi' hl' hne (by lia) fun h2 hi2 sb2 => CD6 ?_))
  have e : items.toList.drop i = items[i] :: items.toList.drop (i + 1) := by
   rw [List.drop_eq_getElem_cons (by simpa using hlt)]
   simp
  have := k h2 (by rw [show i + (n + 1) = i + 1 + n by lia]; exact hi2) ⟨sb2.1.trans sb.1, fun b hb => (sb2.2 b hb).trans (sb.2 b hb)⟩
  rw [e, List.take_succ_cons] at this
  exact this
theorem TU {l : Addr} {targets : List (Bool × (Value → Sem Unit))} {Q : Unit → CD9 → Prop} (ha : A.handled = none) (hl : s.heap.IsList l items)
  (hn : targets.length = items.size) (hst : targets.findIdx? (·.1) = none)
  (k : ∀ h', CS7 s.heap.objs.size s.heap h' → wpAny (model prog w) A (assignInOrder (targets.map (·.2)) items.toList) Q E { s with heap := h' }) : wpAny (model prog w) A (PySem.unpack (.ref l) targets) Q E s := by
 obtain ⟨o, ho, hc, n, hd⟩ := id hl
 have hlt := CE2 ho
 unfold PySem.unpack
 rw [hst]
 refine CD4 (CH3 ?_)
 unfold PySem.unpackItems
 refine CD4 ?_
 unfold PySem.notIterableAtAll
 refine CD4 (wpAny_specialOf (T := "list") ⟨o, ho, hc⟩ (F.slot_list_iter).1 ?_)
 refine CD6 ?_
 refine CD4 (CH3 (CX7 hl ?_))
 refine CD4 (CH3 (MH (i := 0) (l := l) (items := items) ⟨_, CE4 _ rfl, rfl, rfl⟩ ⟨o, CD5 _ ho, hc, n, hd⟩ (CR6 hlt) (by lia) fun h' hi' sb => ?_))
 have e : (items.toList.drop 0).take targets.length = items.toList := by rw [List.drop_zero, CO8 (by simp [hn])]
 rw [e]
 have hlen : ¬ items.toList.length < targets.length := by simp [hn]
 simp only [hlen, if_false]
 have hl' : h'.IsList l items := ⟨o, (sb.2 l (CF6 hlt)).trans (CD5 _ ho), hc, n, hd⟩
 refine CD4 (CH3 (wpAny_pyNext_list_end ha hi' hl' (by simp [hn]) fun h2 eb => ?_))
 refine CD6 (k h2 fun b ob hb hob => eb b ob hb ((sb.2 b hb).trans (CD5 _ hob)))
def XH (is : List Nat) : TG3 := fun d σ M Q => ∃ ds, d = .lst ds ∧ ds.length = is.length ∧ Q (U0 σ is ds) M
theorem AW8 {X : Cx} (hc : X.calm = true) (h : PGs X es (AG6 is))
  (hn : (CN3 es X.env).length = is.length := by rfl) (hst : (CN3 es X.env).findIdx? (·.1) = none := by rfl) : PG3 X (.Tuple es k pos) (XH is) := by
 rintro pins s σv H v u Q2 I r ⟨d, σ, M, Q, rep, hS, hM, ⟨ds, e, hl, q⟩, kk⟩
 subst e
 cases rep with
 | lst h1 rs =>
  cases r
  obtain ⟨its, rv, pl, hz⟩ := I.list (SqL.of3 h1)
  rw [assign_Tuple]
  refine CD4 (CS8 (TU (I.ok.hd hc) pl.isList (by rw [hn, ← hl, rs.length, rv.length]; simp) hst fun h' hx => ?_))
  have I1 : Inv X pins σv H { s with heap := h' } := I.kept (t' := s.toks) fun b o e => hx b o (CF6 (CE2 e)) e
  exact h pins _ σv H _ _ Q2 I1 (by simpa using rv) ⟨by rw [← rs.length]; exact hl, kk _ _ M H .refl hM (EL rs hS) q⟩
theorem HM {α : Type} {n : Nat} : ∀ {is : List Nat} {σ : List (Option α)} {xs : List α}, (∀ i ∈ is, i < n) → (U0 σ is xs).drop n = σ.drop n
 | [], σ, xs, _ => by cases xs <;> rfl
 | i :: is, σ, [], _ => rfl
 | i :: is, σ, x :: xs, h => by
  show (U0 (σ.set i (some x)) is xs).drop n = σ.drop n
  rw [HM fun j hj => h j (CF2 _ hj), List.drop_set_of_lt (h i CF3)]
theorem K2 (hi : i < n) (d : D) (M : Mem) (Q : Lo → Mem → Prop) (cs : Lo) (h : J2 i d (CD7 n none ++ cs) M Q) : J2 i d (CD7 n none ++ cs) M (fun σ' M' => σ'.drop n = cs ∧ Q σ' M') := by
 refine ⟨?_, h⟩
 rw [List.drop_set_of_lt hi, List.drop_left' (by simp)]
theorem GN (hi : ∀ i ∈ is, i < n) (d : D) (M : Mem) (Q : Lo → Mem → Prop) (cs : Lo) (h : AV is d (CD7 n none ++ cs) M Q) : AV is d (CD7 n none ++ cs) M (fun σ' M' => σ'.drop n = cs ∧ Q σ' M') := by
 obtain ⟨ds, e, hl, q⟩ := h
 refine ⟨ds, e, hl, ?_, q⟩
 rw [HM hi, List.drop_left' (by simp)]
abbrev M3 := D → List D → Mem → DK → Prop
def MtR3 (X : Cx) (id : String) (r : M3) : Prop :=
 ∀ (pins : List (Addr × Obj)) (s : CD9) (σv : L2.St) (H : Hp) (M : Mem) (x : D) (xs : List D) (xv : V) (xvs : List V) (v : Value) (us : List Value) (Q : DK), Inv X pins σv H s → MRel X.K M H → RelV xv v → Vals xvs us → Rep X.K M H x xv → Reps X.K M H xs xvs → r x xs M Q →
  wpAny (model X.prog X.w) X.A (call (.builtin id) (v :: us)) (EP3 X pins σv M H Q) X.xe s
def tyD (T : String) (M : Mem) : D → Prop
 | .str _ => T = "str"
 | .lst _ => T = "list"
 | .ref a => (T = "list" ∧ ∃ ds, M a = some (.lst ds)) ∨ (T = "dict" ∧ ∃ ds, M a = some (.dct ds))
 | _ => False
theorem BZ2 {X : Cx} {T : String} {M : Mem} {d : D} (m : MRel X.K M H) (r : Rep X.K M H d v) (h : tyD T M d) : tyV X.K T v H := by
 cases r with
 | str => exact h
 | lst h1 _ => exact .inl ⟨h, _, SqL.of3 h1⟩
 | ref =>
  rcases h with ⟨rfl, ds, e⟩ | ⟨rfl, ds, e⟩
  ·obtain ⟨ho, e1, r⟩ := m _ _ e
   cases ho <;> first | exact (r : False).elim | skip
   exact .inl ⟨rfl, _, .inl (.inl e1)⟩
  ·obtain ⟨ho, e1, r⟩ := m _ _ e
   cases ho <;> first | exact (r : False).elim | skip
   exact .inr (.inr (.inl ⟨rfl, .inl ⟨_, e1⟩⟩))
 | dct h1 _ => exact h.elim
 | _ => exact h.elim
def HX (T : String) (r : M3) (to : TE3) (t : TA3) : TE3 := fun σ M Q => to σ M fun x M1 => tyD T M1 x ∧ t σ M1 fun xs M2 => r x xs M2 Q
section
variable {X : Cx} {o e : Expr} {es : List Expr} {to : TE3} {t : TA3} {name : Str} {apos cpos : Pos} {T id : String} {r : M3}
theorem BH2 (pa : PlainAttrs T) (slot : Slot T name id) (hty : typeOf (.builtin id) = pure (.type "method_descriptor")) (hm : MtR3 X id r) (ho : PE3 X o to) (ha : PA3 X (e :: es) t)
  (hbase : attributeBase o name X.env (eval o X.env) = eval o X.env := by rfl)
  (hfew : ((CV5 cpos (CH7 (e :: es) X.env)).all (fun x => !x.1) && (backToKw cpos (keywordEach [] X.env)).all (fun x => x.1.isSome)
   && decide ((e :: es).length + ([] : List Keyword).length + (if ([] : List Keyword).isEmpty then 0 else 1) < 30)) = true := by rfl)
  (hline : (apos.endLine == cpos.line) = true := by rfl) (hs : CH7 (e :: es) X.env = (false, eval e X.env) :: CH7 es X.env := by rfl) (hplain : (CV5 cpos (CH7 es X.env)).any (·.1) = false := by rfl) :
  PE3 X (.Call (.Attribute o name apos) (e :: es) [] cpos) (HX T r to t) := by
 intro pins s σv H σ M Q I hS hM h
 refine wpAny_Call_method_late hbase hfew hline rfl (thn (ho pins s σv H σ M _ I hS hM h) fun v s1 ⟨d, xv, M1, H1, I1, st1, m1, r1, p1, ty, q1⟩ => ?_)
 obtain ⟨h1, h2⟩ := BO2 I1 r1 (BZ2 m1 p1 ty)
 refine ⟨T, id, pa, slot, hty, h1, h2, ?_⟩
 have hA := ha cpos pins s1 σv H1 σ M1 _ I1 (hS.mono st1) m1 q1
 rw [hs] at hA ⊢
 refine Calls.callWith_builtin (by show (false || (CV5 cpos (CH7 es X.env)).any (·.1)) = false; rw [hplain] <;> rfl) (Calls.evalArgs_plain ?_)
 exact thn hA fun us s2 ⟨ds, vs, M2, H2, I2, st2, m2, rv2, p2, q2⟩ => thn (hm pins s2 σv H2 M2 d ds xv vs v us Q I2 m2 r1 rv2 (p1.mono st2) p2 q2) fun _ _ z => z.trans (st1.trans st2)
theorem MtR3.of {id : String} {r : M3} {r2 : V → List V → Hp → VK → Prop} (h : MtM X id r2) (hr : ∀ H M x xs xv xvs Q, MRel X.K M H → Rep X.K M H x xv → Reps X.K M H xs xvs → r x xs M Q → r2 xv xvs H (Up X.K M H Q)) : MtR3 X id r := by
 intro pins s σv H M x xs xv xvs v us Q I m rv rvs px pxs q
 exact thn (h pins s σv H xv xvs v us _ I rv rvs (hr H M x xs xv xvs Q m px pxs q)) fun _ _ z => Q7 z
theorem NF {M : Mem} {d : D} (r : Reps K M H [d] vs) : ∃ v, vs = [v] ∧ Rep K M H d v := by
 cases r with
 | cons a b => cases b; exact ⟨_, rfl, a⟩
def R0 : M3 := fun x xs M Q => ∃ a ds y, x = .ref a ∧ xs = [y] ∧ M a = some (.lst ds) ∧ ds.length < CE1 ∧ Q .non (C7 M a (.lst (ds ++ [y])))
theorem ZQ : MtR3 X "list.append" R0 := MtR3.of MV fun H M x xs xv xvs Q m px pxs hx0 => by
 obtain ⟨a, ds, y, e1, e2, hm, hl, q⟩ := hx0
 subst e1 e2
 cases px
 obtain ⟨yv, rfl, py⟩ := NF pxs
 obtain ⟨ho, e3, r⟩ := m _ _ hm
 cases ho <;> first | exact (r : False).elim | skip
 rename_i vs
 have r' : Reps X.K M H ds vs := r
 refine ⟨a, vs, _, rfl, rfl, e3, by rw [← r'.length]; exact hl, .non, _, Step.put (.inr (by rw [hm]; simp)), m.put (.inr (by rw [hm]; simp)) (o := .lst (ds ++ [y])) (Reps.append r' (.cons py .nil)), .non, q⟩
end
def J1 (env : Env) (scope : Scope) (caps : List Str) : Bool :=
 (scope.names.all fun y => match y.2 with
  | .free => (match env.kindOf y.1 with | some .cell => true | some .free => true | _ => false)
  | .cell => false
  | .local => (match scope.names.lookup y.1 with | some .local => true | _ => false)
  | _ => true) && caps.all fun y => match scope.names.lookup y with | some .free => true | _ => false
theorem AA3 {X : Cx} (tns caps : List Str) (slots : List Nat) {ti : TI3} {g : TG3} {tt : TT3} {te : TE3}
  (hc : X.calm = true) (hi : PI3 X tg iter ti) (hkind : scope.kind = .function) (hok : J1 X.env scope caps = true) (hcaps : slots.map (fun j => X.N[j]?) = caps.map some)
  (hgk : ∀ d M Q (cs : Lo), g d (CD7 tns.length none ++ cs) M Q → g d (CD7 tns.length none ++ cs) M (fun σ' M' => σ'.drop tns.length = cs ∧ Q σ' M'))
  (hg : ∀ cl s₀ H₀ ex, PG3 (B0 X scope cl s₀ H₀ ex (tns ++ caps)) tg g)
  (ht : ∀ cl s₀ H₀ ex, W6 (B0 X scope cl s₀ H₀ ex (tns ++ caps)) ifs tt) (he : ∀ cl s₀ H₀ ex, PE3 (B0 X scope cl s₀ H₀ ex (tns ++ caps)) elt te)
  (hs : ∀ y, CG6 iter X.env y = pure y := by intro _; rfl) :
  PE3 X (.ListComp elt [⟨tg, iter, ifs, 0⟩] scope pos) (F9 ti tns.length slots g tt te) := by
 unfold J1 at hok
 rw [CH5, CF7, CF7] at hok
 obtain ⟨h1, h2⟩ := hok
 refine AL0 hc hi hkind (fun y hy e => ?_) (fun y hy e => ?_) (fun y hy e => ?_) (fun y hy => ?_) hcaps hgk hg ht he hs
 ·have := h1 y hy; rw [e] at this; cases this
 ·have := h1 y hy
  rw [e] at this
  dsimp only at this
  split at this
  ·assumption
  ·cases this
 ·have := h1 y hy
  rw [e] at this
  dsimp only at this
  split at this
  ·exact .inl (by assumption)
  ·exact .inr (by assumption)
  ·cases this
 ·have := h2 y hy
  split at this
  ·assumption
  ·cases this
def GA (i : Nat) (t : TS3) : TS3 := fun T σ M => ∃ a ds, σ[i]? = some (some (.ref a)) ∧ M a = some (.lst ds) ∧ t T (σ.set i (some (.lst ds))) (K4 M a)
theorem RV {X : Cx} {sts : List Stmt} {t : TS3} (i : Nat) (h : PSs3 X sts t) : PSs3 X sts (GA i t) := by
 rintro pins s σv H σ M T I hS hM ⟨a, ds, e1, e2, q⟩
 obtain ⟨m, r, sub⟩ := Vs.frzL e2 X.K H (.ref a) hM .ref
 have st : Step M H (K4 M a) H := ⟨fun _ _ h _ => h, fun b h => .inl (sub b h)⟩
 have hS' : SRel X.K (K4 M a) H (σ.set i (some (.lst ds))) σv := by
  refine ⟨by simp [hS.len], fun j d e => ?_⟩
  rw [List.getElem?_set] at e
  by_cases hij : i = j
  ·subst hij
   have hl : i < σ.length := (List.getElem?_eq_some_iff.mp e1).1
   rw [if_pos rfl, if_pos hl] at e
   cases e
   obtain ⟨v, ev, rv⟩ := hS.get i _ e1
   cases rv
   exact ⟨_, ev, r⟩
  ·rw [if_neg hij] at e
   obtain ⟨v, ev, rv⟩ := hS.get j d e
   exact ⟨v, ev, rv.mono st⟩
 exact thn (h pins s σv H _ _ T I hS' m q) fun _ _ z => z.trans st
end L3
variable {M : L3.Mem} {g : L3.TG3} {ds : List L3.D} {σ : L3.Lo} {kds : List (L2.Key × L3.D)} {tk : L3.TE3} {tv : L3.TE3} {ti : L3.TI3} {te : L3.TE3} {tt : L3.TT3} {l : List L3.D} {R : List L3.D → L3.Mem → Prop} {σ0 : L3.Lo} {r : List L3.D} {rest : List L3.D}
namespace L3
open PySem L2
section
variable {t u : TS3} {T : L1} {σ : Lo} {M : Mem} {Q : DK} {QB : Bool → Mem → Prop} {QA : List D → Mem → Prop} {c tA tB : TT3} {te ta tb tc : TE3} {tas : TA3} {i : Nat} {d x y : D} {r r' : R3} {ru : U3} {rc : C3} {sp : Sp3}
theorem EI (h : t { T with nx := u T } σ M) : A5 t u T σ M := h
theorem ED (h : c σ M fun b M1 => if b = true then t T σ M1 else u T σ M1) : B9 c t u T σ M := h
theorem Y5 (h : te σ M fun x M' => ∃ k, x = .bl k ∧ QB k M') : A7 te σ M QB := h
theorem JV (h : ta σ M fun x M1 => tb σ M1 fun y M2 => r x y M2 Q) : A3 r ta tb σ M Q := h
theorem JZ (h : ta σ M fun x M1 => ru x M1 Q) : BN9 ru ta σ M Q := h
theorem T9 {i : Nat} (e : σ[i]? = some (some d)) (h : Q d M) : A1 i σ M Q := by unfold A1; rw [e]; exact h
theorem SD (h : Q d M) : tC3 d σ M Q := h
theorem BM (h : te σ M T.rt) : B4 te T σ M := h
theorem EJ (h : te σ M fun d M1 => T.nx (σ.set i (some d)) M1) : B1 i te T σ M := h
theorem X6 (h : te σ M fun _ M1 => T.nx σ M1) : R8 te T σ M := h
theorem S3 (h : T.nx σ M) : B3 T σ M := h
theorem X4 (h : tas σ M fun ds M1 => sp ds M1 Q) : A6 sp tas σ M Q := h
theorem JS (h : tas σ M fun ds M1 => rc ds M1 Q) : B8 rc tas σ M Q := h
theorem BL (h : QA [] M) : A2 σ M QA := h
theorem X5 (h : te σ M fun x M1 => tas σ M1 fun xs M2 => QA (x :: xs) M2) : A0 te tas σ M QA := h
theorem Y6 (h : tas σ M fun xs M1 => xs.length ≤ CE1 ∧ Q (.tup xs) M1) : C2 tas σ M Q := h
theorem Y2 (h : tas σ M fun xs M1 => xs.length ≤ CE1 ∧ Q (.lst xs) M1) : D7 tas σ M Q := h
theorem DZ (h : tA σ M fun c M1 => if c = true then tB σ M1 QB else QB false M1) : HN tA tB σ M QB := h
theorem JW (h : tA σ M fun c M1 => if c = true then QB true M1 else tB σ M1 QB) : O5 tA tB σ M QB := h
theorem EF (h : tA σ M fun c M1 => QB (!c) M1) : F3 tA σ M QB := h
theorem X3 (h : ta σ M fun x M1 => ∃ c, x = .bl c ∧ if c = true then tb σ M1 Q else Q (.bl false) M1) : C9 ta tb σ M Q := h
theorem EG (h : ta σ M fun x M1 => ∃ c, x = .bl c ∧ if c = true then Q (.bl true) M1 else tb σ M1 Q) : NK ta tb σ M Q := h
theorem Y3 (h : ta σ M fun x M1 => ∃ c, x = .bl c ∧ Q (.bl (!c)) M1) : WH ta σ M Q := h
theorem R1 (h : ta σ M fun x M1 => tb σ M1 fun y M2 => r x y M2 fun z M3 => ∃ k, z = .bl k ∧ if k = true then tc σ M3 fun w M4 => r' y w M4 Q else Q (.bl false) M3) : Z0 r r' ta tb tc σ M Q := h
theorem JX {tl th : TO3} (h : te σ M fun x M1 => tl σ M1 fun l M2 => th σ M2 fun u M3 => AY9 x l u M3 Q) : BA3 te tl th σ M Q := h
theorem JU {QO : Option Int → Mem → Prop} (h : QO none M) : E5 σ M QO := h
theorem Y4 {QO : Option Int → Mem → Prop} (h : te σ M fun x M1 => match x with | .int i => QO (some i) M1 | _ => False) : G3 te σ M QO := h
theorem G9 {b : Bool} {P : Bool → Prop} (h : P b) : ∃ k, D.bl b = .bl k ∧ P k := ⟨b, rfl, h⟩
theorem E3 {P R : Prop} (h : P) : if true = true then P else R := by rw [if_pos rfl]; exact h
theorem E1 {P R : Prop} (h : R) : if false = true then P else R := by rw [if_neg CE3]; exact h
theorem EA {c P R : Prop} [Decidable c] (h1 : c → P) (h2 : ¬ c → R) : if decide c = true then P else R := by
 by_cases h : c
 ·rw [decide_eq_true h, if_pos rfl]; exact h1 h
 ·rw [decide_eq_false h, if_neg CE3]; exact h2 h
theorem JO {g : Int → Int → D} {i j : Int} (h : Q (g i j) M) : GU g (.int i) (.int j) M Q := h
theorem BI {C : Int → Int → Prop} {g : Int → Int → D} {i j : Int} (hc : C i j) (h : Q (g i j) M) : rI3 C g (.int i) (.int j) M Q := ⟨hc, h⟩
theorem VL {g : Int → Int} {i : Int} (h : Q (.int (g i)) M) : rU3 g (.int i) M Q := h
theorem G4 {i j : Int} (h : Q (.int (i + j)) M) : C5 (.int i) (.int j) M Q := h
theorem AZ0 {a b : Str} (hl : a.length + b.length ≤ CE1) (h : Q (.str (a ++ b)) M) : C5 (.str a) (.str b) M Q := ⟨hl, h⟩
theorem N6 {a b : List D} (hl : a.length + b.length ≤ CE1) (h : Q (.lst (a ++ b)) M) : C5 (.lst a) (.lst b) M Q := ⟨hl, h⟩
theorem IE {a b : List D} (hl : a.length + b.length ≤ CE1) (h : Q (.tup (a ++ b)) M) : C5 (.tup a) (.tup b) M Q := ⟨hl, h⟩
theorem EB {a b : Str} (h : Q (.bl (a == b)) M) : D8 (.str a) (.str b) M Q := .inr ⟨a, b, rfl, rfl, h⟩
theorem HB {a b : Str} (h : Q (.bl (!(a == b))) M) : N0 (.str a) (.str b) M Q := .inr ⟨a, b, rfl, rfl, h⟩
theorem BW5 (hx : dOk x) (hy : dOk y) (h : Q (.bl (!PyData.eqv (pyD x) (pyD y))) M) : N0 x y M Q := .inl ⟨hx, hy, h⟩
theorem E2 {i : Int} (e : atI ds i = some d) (h : Q d M) : C1 (.lst ds) (.int i) M Q := ⟨d, e, h⟩
theorem A8 {i : Int} (e : atI ds i = some d) (h : Q d M) : C1 (.tup ds) (.int i) M Q := ⟨d, e, h⟩
theorem BJ9 {i : Int} {c : Nat} (hl : z.length ≤ CE1) (e : atI z.cps.toList i = some c) (h : Q (.str ⟨#[c]⟩) M) : C1 (.str z) (.int i) M Q := ⟨hl, c, e, h⟩
theorem Y0 (h : Q (.int ds.length) M) : D3 [.lst ds] M Q := h
theorem Y1 (h : Q (.int ds.length) M) : D3 [.tup ds] M Q := h
theorem AZ5 (hl : z.length ≤ CE1) (h : Q (.int z.length) M) : D3 [.str z] M Q := ⟨hl, h⟩
theorem DY {i : Int} (h : Q (.int (if i < 0 then -i else i)) M) : AE [.int i] M Q := h
theorem X9 {b : Bool} (h : Q (.int (if b then 1 else 0)) M) : YG [.bl b] M Q := h
theorem R4 (h : Q (.lst ds) M) : GV [.lst ds] M Q := h
theorem R5 (h : Q (.lst ds) M) : GV [.tup ds] M Q := h
theorem GY {N : String} (ho : FM d) (hN : N = "bool" ∨ N = "int" ∨ N = "str" ∨ N = "tuple" ∨ N = "list") (h : Q (.bl (isIn (tyN d) N)) M) : F5 [d, .ty N] M Q := ⟨ho, hN, h⟩
theorem EK {l u : Option Int} (h : Q (.lst (cutD ds l u)) M) : AY9 (.lst ds) l u M Q := h
theorem EE (h : Q (.bl (match x with | .non => true | _ => false)) M) : BJ4 x .non M Q := ⟨rfl, h⟩
theorem EC {tb : TS3} (h : ti σ M fun ds M1 => ∃ Pv : Nat → Lo → Mem → Prop, Pv 0 σ M1 ∧
 (∀ k d σ M, ds[k]? = some d → Pv k σ M → tb { T with nx := Pv (k + 1), ct := Pv (k + 1), bk := T.nx } (σ.set i (some d)) M) ∧ ∀ σ M, Pv ds.length σ M → T.nx σ M) : L5 ti i tb T σ M := h
theorem EH (h : tas σ M fun ds M1 => match ds with | [.int j] => -(2 ^ 62) ≤ j ∧ j < 2 ^ 62 ∧ R ((CH8 j.toNat).map fun k => D.int (k : Nat)) M1 | _ => False) : AW tas σ M R := h
end
theorem F7 {b c : Nat} (h : Pen M p b) (hc : b ≤ c) : Pen M p c := by
 obtain ⟨ns, a, l, h1, h2, h3, h4, h5⟩ := h
 exact ⟨ns, a, l, h1, h2, h3, by lia, h5⟩
theorem WS {ds : List α} {n : Int} (h0 : 0 ≤ n) (h1 : n < (ds.length : Int)) : ∃ d, atI ds n = some d ∧ d ∈ ds := by
 obtain ⟨k, rfl⟩ : ∃ k : Nat, n = (k : Int) := ⟨n.toNat, by lia⟩
 have hk : k < ds.length := by lia
 exact ⟨ds[k], F1 (by simp [hk]), CQ9 hk⟩
theorem draw {many : Int} {b : Nat} {Q : DK} (hP : Pen M p b) (hb : b < 2 ^ 30) (h0 : 0 < many) (h1 : many < 2 ^ 200) (h : ∀ n M', 0 ≤ n → n < many → Pen M' p (b + 1) → Same3 p M M' → Q (.int n) M') : C8 [.ref p, .int many] M Q :=
 ⟨p, many, b, rfl, hP, hb, h0, h1, h⟩
theorem EO (h : CX3 x = true) : dOk (.str x) := ⟨rfl, by simpa [pyD, PyData.canLay0] using h, by simp [pyD, CX4]⟩
theorem GO {i : Int} : dOk (.int i) := ⟨rfl, rfl, by simp [pyD, CX4]⟩
theorem BA7 {b : Bool} : dOk (.bl b) := ⟨rfl, rfl, by simp [pyD, CX4]⟩
def BC4 : TS3 :=
  (B4 (QF [((tC3 (.str "cells")), (B8 GV (A0 (BA3 (A1 0) E5 (G3 (tC3 (.int 63)))) A2))), ((tC3 (.str "at")), (tC3 (.int 0))), ((tC3 (.str "left")), (tC3 (.int 0)))]))
def AP4 : TS3 :=
  (A5 (B9 (A7 (A3 DB (A3 K5 (A1 0) (tC3 (.str "left"))) (tC3 (.int 0)))) (A5 (B1 2 (A3 K6 (A3 K5 (A1 0) (tC3 (.str "left"))) (A1 1)))
  (A5 (Z1 (A1 0) (tC3 (.str "left")) (A3 BG (A3 K5 (A1 0) (tC3 (.str "left"))) (A1 1)))
  (B4 (A1 2)))) B3)
  (A5 (B1 3 (A3 K5 (A1 0) (tC3 (.str "cells"))))
  (A5 (B1 4 (A3 K5 (A1 0) (tC3 (.str "at"))))
  (A5 (Z1 (A1 0) (tC3 (.str "at")) (A3 C5 (A1 4) (tC3 (.int 1))))
  (A5 (B1 5 (A3 C5 (A3 BH (tC3 (.int 30011)) (A1 4)) (tC3 (.int 77))))
  (A5 (B9 (A7 (A3 N0 (A1 3) (D7 A2))) (B1 5 (A3 C1 (A1 3) (A3 K6 (A1 4) (B8 D3 (A0 (A1 3) A2))))) B3)
  (A5 (B9 (HN (A7 (A3 AB8 (A1 4) (B8 D3 (A0 (A1 3) A2)))) (A7 (A3 BJ3 (B8 AE (A0 (A1 5) A2)) (A3 FP (tC3 (.int 10)) (tC3 (.int 18)))))) (A5 (Z1 (A1 0) (tC3 (.str "left")) (A3 BG (B8 AE (A0 (A1 5) A2)) (A1 1)))
  (B4 (A3 K6 (B8 AE (A0 (A1 5) A2)) (A1 1)))) B3)
  (A5 (B1 6 (A3 K6 (A3 FP (A3 C5 (A3 C5 (A3 K6 (A1 5) (tC3 (.int 2147483587))) (A3 BH (tC3 (.int 50021)) (A1 4))) (tC3 (.int 29))) (tC3 (.int 5))) (tC3 (.int 2147483629))))
  (A5 (B1 6 (A3 K6 (A3 FP (A3 C5 (A3 BH (A1 6) (A3 C5 (A3 BH (tC3 (.int 2)) (A1 4)) (tC3 (.int 5)))) (tC3 (.int 81799))) (tC3 (.int 3))) (tC3 (.int 2147483647))))
  (B4 (A3 K6 (A3 BG (A1 6) (tC3 (.int 16))) (A1 1))))))))))))
local macro_rules | `(tactic| walk_at "rd") => `(tactic| repeat (first | (with_reducible first | refine EI ?_ | refine ED ?_ | refine Y5 ?_ | refine JV ?_ | refine JZ ?_ | refine SD ?_ | refine BM ?_ | refine EJ ?_ | refine X6 ?_ | refine S3 ?_ | refine X4 ?_ | refine JS ?_ | refine BL ?_ | refine X5 ?_ | refine Y6 ?_ | refine Y2 ?_ | refine DZ ?_ | refine JW ?_ | refine EF ?_ | refine X3 ?_ | refine EG ?_ | refine Y3 ?_ | refine R1 ?_ | refine JX ?_ | refine JU ?_ | refine Y4 ?_ | refine G9 ?_ | refine E3 ?_ | refine E1 ?_ | refine JO ?_ | refine VL ?_ | refine G4 ?_ | refine Y0 ?_ | refine Y1 ?_ | refine DY ?_ | refine X9 ?_ | refine R4 ?_ | refine R5 ?_ | refine EK ?_ | refine EE ?_ | refine EC ?_ | refine EH ?_) | ((with_reducible show A1 _ _ _ _); refine T9 rfl ?_) | ((with_reducible show _ ∧ _); refine ⟨(by first | decide | (simp only [CE7, CI5]; decide)), ?_⟩)))
theorem AS4 : ¬ (("cells" : Str) = "at") := by decide +kernel
theorem AS5 : ¬ (("cells" : Str) = "left") := by decide +kernel
theorem AS3 : ¬ (("at" : Str) = "left") := by decide +kernel
theorem CA7 : ¬ (("left" : Str) = "at") := by decide +kernel
theorem L8 (h : ¬ x = y) : ¬ (Sum.inr x : Key) = Sum.inr y := fun z => h (Sum.inr.inj z)
theorem ZT (x y z : D) : JG [] [(.inr "cells", x), (.inr "at", y), (.inr "left", z)] = ([(.inr "cells", x), (.inr "at", y), (.inr "left", z)] : List (Key × D)) := by
 simp [JG, putD, L8 AS4, L8 AS5, L8 AS3]
theorem AN4 (x y z d : D) : putD [(.inr "cells", x), (.inr "at", y), (.inr "left", z)] (.inr "left") d = ([(.inr "cells", x), (.inr "at", y), (.inr "left", d)] : List (Key × D)) := by
 simp [putD, L8 AS5, L8 AS3]
theorem BJ0 (x y z d : D) : putD [(.inr "cells", x), (.inr "at", y), (.inr "left", z)] (.inr "at") d = ([(.inr "cells", x), (.inr "at", d), (.inr "left", z)] : List (Key × D)) := by
 simp [putD, L8 AS4, L8 CA7]
theorem IW {a l : Int} {Q : DK} (h : M p = some (HW ns a l)) : K5 (.ref p) (.str "left") M Q ↔ Q (.int l) M := by
 constructor
 ·rintro ⟨k, d, hk, ⟨kds, hm, hv⟩, q⟩
  cases hk
  rw [h] at hm
  cases hm
  simp [F0, L8 AS5, L8 AS3] at hv
  subst hv; exact q
 ·intro q
  exact ⟨_, .int l, rfl, ⟨_, h, by simp [F0, L8 AS5, L8 AS3]⟩, q⟩
theorem BE1 {a l : Int} {Q : DK} (h : M p = some (HW ns a l)) : K5 (.ref p) (.str "at") M Q ↔ Q (.int a) M := by
 constructor
 ·rintro ⟨k, d, hk, ⟨kds, hm, hv⟩, q⟩
  cases hk
  rw [h] at hm
  cases hm
  simp [F0, L8 AS4] at hv
  subst hv; exact q
 ·intro q
  exact ⟨_, .int a, rfl, ⟨_, h, by simp [F0, L8 AS4]⟩, q⟩
theorem ZI {a l : Int} {Q : DK} (h : M p = some (HW ns a l)) : K5 (.ref p) (.str "cells") M Q ↔ Q (.lst (ns.map D.int)) M := by
 constructor
 ·rintro ⟨k, d, hk, ⟨kds, hm, hv⟩, q⟩
  cases hk
  rw [h] at hm
  cases hm
  simp [F0] at hv
  subst hv; exact q
 ·intro q
  exact ⟨_, .lst (ns.map D.int), rfl, ⟨_, h, by simp [F0]⟩, q⟩
theorem MG {a l l' : Int} {T : Lo → Mem → Prop} (h : M p = some (HW ns a l)) (q : T σ (C7 M p (HW ns a l'))) :
  ∃ k a' kds, dK? (.str "left") = some k ∧ D.ref p = .ref a' ∧ M a' = some (.dct kds) ∧ kds.length < CE1 ∧ T σ (C7 M a' (.dct (putD kds k (.int l')))) :=
 ⟨_, p, _, rfl, rfl, h, by show 3 < CE1; decide, by rw [AN4]; exact q⟩
theorem AR7 {a a1 l : Int} {T : Lo → Mem → Prop} (h : M p = some (HW ns a l)) (q : T σ (C7 M p (HW ns a1 l))) :
  ∃ k a' kds, dK? (.str "at") = some k ∧ D.ref p = .ref a' ∧ M a' = some (.dct kds) ∧ kds.length < CE1 ∧ T σ (C7 M a' (.dct (putD kds k (.int a1)))) :=
 ⟨_, p, _, rfl, rfl, h, by show 3 < CE1; decide, by rw [BJ0]; exact q⟩
theorem AE9 (ns : List Int) (lo hi : Option Int) : ∃ ms : List Int, cutD (ns.map D.int) lo hi = ms.map D.int ∧ ms.length ≤ ns.length := by
 unfold cutD
 refine ⟨(ns.drop (HT.sIx (ns.map D.int).length 0 lo)).take (HT.sIx (ns.map D.int).length (ns.map D.int).length hi - HT.sIx (ns.map D.int).length 0 lo), ?_, ?_⟩
 ·rw [← List.map_drop, ← List.map_take]
 ·rw [CK9, List.length_drop]; lia
theorem XO : ∀ ns : List Int, DW (ns.map D.int) = true ∧ PyData.canLayAll0 (RX (ns.map D.int)) = true ∧ PyData.depthAll (RX (ns.map D.int)) = 0
 | [] => ⟨rfl, rfl, rfl⟩
 | n :: ns => by
  obtain ⟨h1, h2, h3⟩ := XO ns
  simp [CG9, DW, plain, RX, pyD, PyData.canLayAll0, PyData.canLay0, PyData.depthAll, CX4, h1, h2, h3]
theorem AF3 (ns : List Int) : dOk (.lst (ns.map D.int)) := by
 obtain ⟨h1, h2, h3⟩ := XO ns
 refine ⟨by simpa [plain] using h1, by simpa [pyD, PyData.canLay0] using h2, ?_⟩
 simp [pyD, CX4, h3]
theorem BK1 {Q : DK} (h : NH ds M Q) (d : D) (e : ds = [d]) (T : Lo → Mem → Prop) : BC4 { nx := T, rt := View Q } [some d] M := by
 obtain ⟨ns, rfl, hl, q⟩ := h
 cases e
 unfold BC4
 walk_at "rd"
 intro p hp
 unfold Z3
 walk_at "rd"
 unfold Z3
 walk_at "rd"
 unfold Z3
 walk_at "rd"
 unfold Z3
 refine ⟨B5, [(.inr "cells", _), (.inr "at", _), (.inr "left", _)], rfl, by simp, View.of ?_⟩
 rw [ZT, MU]
 obtain ⟨ms, e, hms⟩ := AE9 ns none (some 63)
 rw [e]
 exact q p _ hp ⟨ms, 0, 0, B5, by lia, by lia, by simp, by lia⟩ fun b hb => C6 hb
theorem CB0 {a c : Int} (h0 : 0 ≤ a) (h1 : a < 2 ^ 31) : AD2 (c % 2147483587 + 50021 * a + 29) 5 := by
 have z1 := CP7 c (show (2147483587 : Int) ≠ 0 by decide)
 have z2 := CN2 c (show (0 : Int) < 2147483587 by decide)
 refine ⟨by decide, by decide, ?_⟩
 lia
theorem CB1 {a n : Int} (h0 : 0 ≤ a) (h1 : a < 2 ^ 30) (h2 : 0 ≤ n) (h3 : n < 2147483629) : AD2 (n * (2 * a + 5) + 81799) 3 := by
 refine ⟨by decide, by decide, ?_⟩
 have e : n * (2 * a + 5) ≤ 2147483629 * 2147483653 := Int.mul_le_mul (by lia) (by lia) (by lia) (by lia)
 have e0 : 0 ≤ n * (2 * a + 5) := Int.mul_nonneg h2 (by lia)
 lia
theorem AO0 {td ty : TE3} {T : L1} (h : tv σ M fun d M1 => td σ M1 fun x M2 => ty σ M2 fun y M3 => ∃ k a kds, dK? y = some k ∧ x = .ref a ∧ M3 a = some (.dct kds) ∧ kds.length < CE1 ∧ T.nx σ (C7 M3 a (.dct (putD kds k d)))) : Z1 td ty tv T σ M := h
theorem BC9 {x : Int} (h0 : 0 < x) (h : x < 2 ^ 200) : QM 0 x := by
 refine ⟨h0, ?_⟩
 have h2 : x.natAbs < 2 ^ 200 := by lia
 exact Nat.lt_trans h2 (Nat.pow_lt_pow_right (by decide) (by decide))
theorem AR1 {a : Int} (h0 : 0 ≤ a) (h : a < (ns.length : Int)) : ∃ c, atI (ns.map D.int) a = some (D.int c) := by
 obtain ⟨k, rfl⟩ : ∃ k : Nat, a = (k : Int) := ⟨a.toNat, by lia⟩
 have hk : k < ns.length := by lia
 exact ⟨ns[k], F1 (by simp [hk])⟩
def HE : TS3 :=
  (A5 (B1 6 (A3 K6 (A3 FP (A3 C5 (A3 C5 (A3 K6 (A1 5) (tC3 (.int 2147483587))) (A3 BH (tC3 (.int 50021)) (A1 4))) (tC3 (.int 29))) (tC3 (.int 5))) (tC3 (.int 2147483629))))
  (A5 (B1 6 (A3 K6 (A3 FP (A3 C5 (A3 BH (A1 6) (A3 C5 (A3 BH (tC3 (.int 2)) (A1 4)) (tC3 (.int 5)))) (tC3 (.int 81799))) (tC3 (.int 3))) (tC3 (.int 2147483647))))
  (B4 (A3 K6 (A3 BG (A1 6) (tC3 (.int 16))) (A1 1)))))
def NJ : TS3 :=
  A5 (B9 (HN (A7 (A3 AB8 (A1 4) (B8 D3 (A0 (A1 3) A2)))) (A7 (A3 BJ3 (B8 AE (A0 (A1 5) A2)) (A3 FP (tC3 (.int 10)) (tC3 (.int 18)))))) (A5 (Z1 (A1 0) (tC3 (.str "left")) (A3 BG (B8 AE (A0 (A1 5) A2)) (A1 1)))
  (B4 (A3 K6 (B8 AE (A0 (A1 5) A2)) (A1 1)))) B3)
  HE
theorem AZ1 {Q : DK} (h : C8 ds M Q) (d0 d1 : D) (e : ds = [d0, d1]) (T : Lo → Mem → Prop) : AP4 { nx := T, rt := View Q } [some d0, some d1, none, none, none, none, none] M := by
 obtain ⟨p, many, b, rfl, ⟨ns, a, l, hM, hl, ha0, hab, hl0⟩, hb, hm0, hm1, q⟩ := h
 cases e
 have hdv : ∀ i, QM i many := fun i => ⟨hm0, (BC9 hm0 hm1).2⟩
 have hb' : (b : Int) < 2 ^ 30 := by
  have : ((2 ^ 30 : Nat) : Int) = (2 : Int) ^ 30 := by decide
  lia
 unfold AP4
 walk_at "rd"
 refine (IW hM).mpr ?_
 walk_at "rd"
 refine EA (fun hpos => ?_) (fun hneg => ?_)
 ·walk_at "rd"
  refine (IW hM).mpr ?_
  walk_at "rd"
  refine BI hm0 ?_
  walk_at "rd"
  refine AO0 ?_
  walk_at "rd"
  refine (IW hM).mpr ?_
  walk_at "rd"
  refine BI (hdv _) ?_
  walk_at "rd"
  refine MG hM ?_
  walk_at "rd"
  exact View.of (q _ _ (CP7 _ (by lia)) (CN2 _ hm0) ⟨ns, a, _, B5, hl, ha0, by lia, Int.ediv_nonneg hl0 (by lia)⟩ fun _ h => C6 h)
 ·walk_at "rd"
  refine (ZI hM).mpr ?_
  walk_at "rd"
  refine (BE1 hM).mpr ?_
  walk_at "rd"
  refine AO0 ?_
  walk_at "rd"
  refine AR7 hM ?_
  have hM1 : C7 M p (HW ns (a + 1) l) p = some (HW ns (a + 1) l) := B5
  walk_at "rd"
  refine BI (.inl (.inl ⟨by decide, by decide⟩)) ?_
  walk_at "rd"
  refine BW5 (AF3 ns) ⟨rfl, rfl, by decide⟩ ?_
  have rest : ∀ c : Int, NJ { nx := T, rt := View Q } [some (.ref p), some (.int many), none, some (.lst (ns.map D.int)), some (.int a), some (.int c), none] (C7 M p (HW ns (a + 1) l)) := by
   intro c
   have abs0 : 0 ≤ (if c < 0 then -c else c) := by split <;> lia
   have tail : HE { nx := T, rt := View Q } [some (.ref p), some (.int many), none, some (.lst (ns.map D.int)), some (.int a), some (.int c), none] (C7 M p (HW ns (a + 1) l)) := by
    unfold HE
    walk_at "rd"
    refine BI (by decide) ?_
    walk_at "rd"
    refine BI (.inl (.inl ⟨by decide, by decide⟩)) ?_
    walk_at "rd"
    refine BI (CB0 ha0 (by lia)) ?_
    walk_at "rd"
    refine BI (by decide) ?_
    walk_at "rd"
    refine BI (.inl (.inl ⟨by decide, by decide⟩)) ?_
    walk_at "rd"
    have z1 := CP7 ((c % 2147483587 + 50021 * a + 29) ^ Int.toNat 5) (show (2147483629 : Int) ≠ 0 by decide)
    have z2 := CN2 ((c % 2147483587 + 50021 * a + 29) ^ Int.toNat 5) (show (0 : Int) < 2147483629 by decide)
    refine BI (.inl (.inl ⟨by lia, by lia⟩)) ?_
    walk_at "rd"
    refine BI (CB1 ha0 (by lia) z1 z2) ?_
    walk_at "rd"
    refine BI (by decide) ?_
    walk_at "rd"
    refine BI ⟨by decide, by decide +kernel⟩ ?_
    walk_at "rd"
    refine BI hm0 ?_
    walk_at "rd"
    exact View.of (q _ _ (CP7 _ (by lia)) (CN2 _ hm0) ⟨ns, a + 1, _, B5, hl, by lia, by lia, hl0⟩ fun _ h => C6 h)
   unfold NJ
   walk_at "rd"
   refine EA (fun hlt => ?_) (fun hge => ?_)
   ·walk_at "rd"
    refine BI ⟨by decide, by decide, by decide⟩ ?_
    walk_at "rd"
    refine EA (fun h18 => ?_) (fun h18 => ?_)
    ·walk_at "rd"
     refine AO0 ?_
     walk_at "rd"
     refine BI (hdv _) ?_
     walk_at "rd"
     refine MG hM1 ?_
     walk_at "rd"
     refine BI hm0 ?_
     walk_at "rd"
     rw [MU]
     exact View.of (q _ _ (CP7 _ (by lia)) (CN2 _ hm0) ⟨ns, a + 1, _, B5, hl, by lia, by lia, Int.ediv_nonneg abs0 (by lia)⟩ fun _ h => C6 h)
    ·exact tail
   ·exact tail
  cases ns with
  | nil =>
   refine G9 (show if (!true) = true then _ else _ from ?_)
   exact E1 (rest _)
  | cons n ns =>
   refine G9 (show if (!false) = true then _ else _ from ?_)
   refine E3 ?_
   walk_at "rd"
   have hlen : (0 : Int) < ((List.map D.int (n :: ns)).length : Int) := by rw [CD8, CE7]; lia
   refine BI hlen ?_
   obtain ⟨c, hc⟩ := AR1 (ns := n :: ns) (a := a % ((List.map D.int (n :: ns)).length : Int)) (CP7 _ (by lia)) (by have := CN2 a hlen; simpa using this)
   refine E2 hc ?_
   exact rest c
section
variable {t u : TS3} {T : L1} {σ : Lo} {M : Mem} {Q : DK} {QB : Bool → Mem → Prop} {QA : List D → Mem → Prop} {c tA tB : TT3} {te ta tb tc to : TE3} {tas : TA3} {i : Nat} {d x y : D} {r r' : R3} {g : TG3} {ti : TI3} {tt : TT3} {slots : List Nat} {n : Nat}
theorem GW (h : te σ M fun d M1 => g d σ M1 T.nx) : TM g te T σ M := h
theorem U7 {QG : Lo → Mem → Prop} (h : QG (σ.set i (some d)) M) : J2 i d σ M QG := h
theorem X7 {QG : Lo → Mem → Prop} (hl : ds.length = is.length) (h : QG (U0 σ is ds) M) : AV is (.tup ds) σ M QG := ⟨ds, rfl, hl, h⟩
theorem AZ3 {QG : Lo → Mem → Prop} (hl : ds.length = is.length) (h : QG (U0 σ is ds) M) : XH is (.lst ds) σ M QG := ⟨ds, rfl, hl, h⟩
theorem CG (h : QB true M) : G6 σ M QB := h
theorem ND {ty : String} {rm : M3} (h : to σ M fun x M1 => tyD ty M1 x ∧ tas σ M1 fun xs M2 => rm x xs M2 Q) : HX ty rm to tas σ M Q := h
theorem BZ (hm : M a = some (.lst ds)) (hl : ds.length < CE1) (h : Q .non (C7 M a (.lst (ds ++ [y])))) : R0 (.ref a) [y] M Q := ⟨a, ds, y, rfl, rfl, hm, hl, h⟩
theorem AO2 (e : σ[i]? = some (some (.ref a))) (hm : M a = some (.lst ds)) (h : t T (σ.set i (some (.lst ds))) (K4 M a)) : GA i t T σ M := ⟨a, ds, e, hm, h⟩
def WR (g : TG3) (tt : TT3) (te : TE3) (σ0 : Lo) (ds : List D) (M1 : Mem) (Q : DK) : Prop := ∀ p, M1 p = none → ∃ Pv : Nat → List D → Mem → Prop, Pv 0 [] (C7 M1 p (.lst [])) ∧
 (∀ k d acc M, ds[k]? = some d → Pv k acc M → g d σ0 M fun σ' M0 => tt σ' M0 fun b M' =>
  if b = true then te σ' M' fun e M'' => M'' p = some (.lst acc) ∧ acc.length < CE1 ∧ Pv (k + 1) (acc ++ [e]) (C7 M'' p (.lst (acc ++ [e]))) else Pv (k + 1) acc M') ∧
 ∀ acc M, Pv ds.length acc M → M p = some (.lst acc) ∧ Q (.lst acc) (K4 M p)
theorem CA (h : ti σ M fun ds M1 => WR g tt te (CD7 n none ++ slots.map fun j => (σ[j]?).getD none) ds M1 Q) : F9 ti n slots g tt te σ M Q := h
def onStr (R : List D → Mem → Prop) : DK := fun d M1 => match d with | .str z => R (z.cps.toList.map fun c => D.str ⟨#[c]⟩) M1 | _ => False
def BB9 (R : List D → Mem → Prop) : DK := fun d M1 => match d with | .tup ds => R ds M1 | _ => False
def BB8 (R : List D → Mem → Prop) : DK := fun d M1 => match d with | .lst ds => R ds M1 | _ => False
theorem CB (h : te σ M (onStr R)) : AH0 te σ M R := h
theorem X8 (h : te σ M (BB9 R)) : U6 te σ M R := h
theorem U8 (h : te σ M (BB8 R)) : L7 te σ M R := h
theorem V2 (h : R (z.cps.toList.map fun c => D.str ⟨#[c]⟩) M) : onStr R (.str z) M := h
theorem R6 (h : R ds M) : BB9 R (.tup ds) M := h
theorem V1 (h : R ds M) : BB8 R (.lst ds) M := h
end
theorem B7 {b : Bool} {P R : Prop} (e : b = true) (h : P) : if b = true then P else R := by rw [if_pos e]; exact h
theorem A4 {b : Bool} {P R : Prop} (e : b = false) (h : R) : if b = true then P else R := by rw [if_neg (by rw [e]; exact CE3)]; exact h
theorem AO1 {x y : D} {b : Bool} {Q : DK} (hx : dOk x) (hy : dOk y) (e : CN4 (pyD x) (pyD y) = b) (h : Q (.bl b) M) : D8 x y M Q := .inl ⟨hx, hy, by rw [e]; exact h⟩
theorem AO5 {x y : D} {b : Bool} {Q : DK} (hx : dOk x) (hy : dOk y) (e : CN4 (pyD x) (pyD y) = b) (h : Q (.bl (!b)) M) : N0 x y M Q := .inl ⟨hx, hy, by rw [e]; exact h⟩
theorem BP5 (x y : Int) : CN4 (pyD (.int x)) (pyD (.int y)) = (x == y) := by simp [pyD, CN4]
theorem CA2 (x y : Bool) : CN4 (pyD (.bl x)) (pyD (.bl y)) = (x == y) := by cases x <;> cases y <;> decide +kernel
theorem T8 {x y : Int} {Q : DK} (h : Q (.bl (x == y)) M) : D8 (.int x) (.int y) M Q := AO1 GO GO (BP5 x y) h
theorem HA {x y : Int} {Q : DK} (h : Q (.bl (!(x == y))) M) : N0 (.int x) (.int y) M Q := AO5 GO GO (BP5 x y) h
theorem GZ {x y : Bool} {Q : DK} (h : Q (.bl (!(x == y))) M) : N0 (.bl x) (.bl y) M Q := AO5 BA7 BA7 (CA2 x y) h
theorem FN {M' : Mem} {b : Nat} (h : Pen M q b) (s : Same3 p M M') (hn : q ≠ p) : Pen M' q b := by
 obtain ⟨ns, a, l, h1, h2⟩ := h
 exact ⟨ns, a, l, by rw [s q hn]; exact h1, h2⟩
theorem X2 {b : Nat} {o : MO} (h : Pen M q b) (hn : q ≠ p) : Pen (C7 M p o) q b := FN h (fun a ha => C6 ha) hn
theorem PB {b : Nat} (h : Pen M q b) (hp : M p = none) : q ≠ p := by
 rintro rfl
 obtain ⟨ns, a, l, h1, _⟩ := h
 rw [hp] at h1; cases h1
theorem X0 (h : b ≠ a) : K4 M a b = M b := by unfold K4; rw [if_neg h]
theorem BY : K4 M a a = none := by unfold K4; rw [if_pos rfl]
end L3
namespace L3
open PySem PySem.Spec PyProof.Rows L2
section
variable {X : Cx} {a b e : Expr} {ta tb te : TE3} {pos : Pos}
def YH : C3 := fun ds M Q => match ds with
 | [.int i, .int j] => Q (.int (if j < i then j else i)) M
 | _ => False
theorem AD9 (hc : X.calm = true) : CallR3 X (.builtin "min") YH := CallR3.of (YW hc) fun H M xs xvs Q m px q => by
 cases px with
 | nil => exact (q : False).elim
 | cons p1 ps =>
 cases ps with
 | nil => first | exact (q : False).elim | (cases p1 <;> exact (q : False).elim)
 | cons p2 ps2 =>
 cases p1 with
 | int =>
  cases p2 with
  | int =>
   cases ps2 with
   | nil => exact ⟨_, _, rfl, up0 m .int q⟩
   | cons _ _ => exact (q : False).elim
  | _ => first | exact (q : False).elim | (cases ps2 <;> exact (q : False).elim)
 | _ => first | exact (q : False).elim | (cases ps2 <;> exact (q : False).elim) | (cases p2 <;> cases ps2 <;> exact (q : False).elim)
def F2 : C3 := fun ds M Q => match ds with
 | [.lst xs] => Q (.tup xs) M
 | [.tup xs] => Q (.tup xs) M
 | [.ref a] => ∃ xs, M a = some (.lst xs) ∧ Q (.tup xs) M
 | _ => False
theorem AE0 : CallR3 X (.type "tuple") F2 := CallR3.of KZ fun H M xs xvs Q m px q => by
 rcases px with _ | ⟨pd, ps⟩; (exact (q : False).elim); rcases ps with _ | ⟨p2, ps2⟩; rotate_left; (first | exact (q : False).elim | (cases pd <;> exact (q : False).elim))
 cases pd with
 | lst h r => exact ⟨_, _, rfl, .inl ⟨SqL.of3 h, fun l hl => ⟨_, M, Step.lay hl, m.lay hl, .tup (.inl ⟨.inl D4, m.free hl⟩) (r.mono (Step.lay hl)), q⟩⟩⟩
 | tup h r => exact ⟨_, _, rfl, .inr ⟨SqT.of3 h, _, M, .refl, m, .tup h r, q⟩⟩
 | ref =>
  obtain ⟨ds, hm, q⟩ := q
  obtain ⟨ho, e1, r⟩ := m _ _ hm
  cases ho <;> first | exact r.elim | skip
  have r' : Reps X.K M H ds _ := r
  exact ⟨_, _, rfl, .inl ⟨.inl (.inl e1), fun l hl => ⟨_, M, Step.lay hl, m.lay hl, .tup (.inl ⟨.inl D4, m.free hl⟩) (r'.mono (Step.lay hl)), q⟩⟩⟩
 | _ => exact (q : False).elim
def DF : C3 := fun ds M Q => ∃ bs : List Bool, ds = [.lst (bs.map D.bl)] ∧ Q (.bl (bs.all id)) M
theorem QS {K : CE0} {M : Mem} {H : Hp} : ∀ {bs : List Bool} {vs : List V} {its : List Value}, Reps K M H (bs.map D.bl) vs → Vals vs its → its = bs.map Value.bool
 | [], _, _, r, v => by cases r; cases v; rfl
 | b :: bs, _, _, .cons p1 p2, v => by
  cases p1
  cases v with
  | cons i1 i2 =>
   cases i1
   rw [QS p2 i2]; rfl
theorem AB9 (bs : List Bool) : (CH8 (bs.map Value.bool).toArray.size).all (fun i => bs.getD i false) = bs.all id := by
 rw [CF4, CD8, CN7, CF7, CF7]
 constructor
 ·intro h x hx
  obtain ⟨i, hi, rfl⟩ := CR3 hx
  simpa [List.getD, hi] using h i (by simpa using hi)
 ·intro h i hi
  have hi' : i < bs.length := by simpa using hi
  simpa [List.getD, hi'] using h bs[i] (CQ9 hi')
theorem TQ (bs : List Bool) : TruthOf P w A (fun i v => (bs.map Value.bool).toArray[i]? = some v) (fun i => bs.getD i false) := by
 intro i v s Q E hv hq
 simp only [List.getElem?_toArray, CF1] at hv
 cases e : bs[i]? with
 | none => rw [e] at hv; cases hv
 | some b =>
  rw [e] at hv
  cases hv
  have e2 : bs.getD i false = b := by simp [List.getD, e]
  have hq' : Q (bs.getD i false) s := hq
  rw [e2] at hq'
  exact CL6 hq'
theorem BD2 (hc : X.calm = true) : CallR3 X (.builtin "all") DF := by
 rintro pins s σv H M xs xvs us Q I m rv px ⟨bs, rfl, q⟩
 obtain ⟨xv, rfl, p1⟩ := NF px
 obtain ⟨u, rfl, ru⟩ := vals1 rv
 cases p1 with
 | lst h1 r1 =>
  cases ru
  obtain ⟨its, ri, pl, hz⟩ := I.list (SqL.of3 h1)
  have key := QS r1 ri
  subst key
  obtain ⟨o, ho, hcl, n, hd⟩ := id pl.isList
  have hlt := CE2 ho
  refine call_all_walk (CX7 pl.isList ?_)
  refine ⟨s.heap.objs.size, _, _, _, _, _, _, rfl, Walks.list (A := X.A.in1) (by exact I.ok.hd hc) s.heap.objs.size _ (CF6 hlt) _, ⟨⟨_, CE4 _ rfl, rfl, rfl⟩, ⟨o, CD5 _ ho, hcl, n, hd⟩⟩, TQ bs, fun h' tk k => ?_⟩
  rw [AB9]
  exact ⟨_, .bl _, M, H, I.kept (t' := tk) fun b ob e => k b ob (by simp; exact CF6 (CE2 e)) (CD5 _ e), .refl, m, rfl, .bl, q⟩
theorem CM {K : CE0} {M : Mem} {H : Hp} : ∀ {ys : List Str} {vs : List V} {its : List Value}, Reps K M H (ys.map D.str) vs → Vals vs its → StrsAre its ys
 | [], _, _, r, v => by cases r; cases v; exact .nil
 | y :: ys, _, _, .cons p1 p2, v => by
  cases p1
  cases v with
  | cons i1 i2 =>
   obtain ⟨t, rfl⟩ := i1
   exact .cons y t (CM p2 i2)
def subIn (z w : Str) : Bool := !(CU3 w z 0 w.length 1).isEmpty
def PR (M : Mem) : D → Option (List D)
 | .lst ds => some ds
 | .tup ds => some ds
 | .ref a => match M a with | some (.lst ds) => some ds | _ => none
 | _ => none
def AB7 (neg : Bool) : R3 := fun x y M Q => (∃ z w, x = .str z ∧ y = .str w ∧ Q (.bl (neg ^^ subIn z w)) M) ∨ ∃ z, ∃ ys : List Str, x = .str z ∧ PR M y = some (ys.map D.str) ∧ Q (.bl (neg ^^ ys.any (· == z))) M
theorem KP {K : CE0} {M : Mem} {H : Hp} : ∀ {ys : List Str} {vs : List V}, Reps K M H (ys.map D.str) vs → vs = ys.map V.str
 | [], _, r => by cases r; rfl
 | y :: ys, _, .cons p1 p2 => by
  cases p1
  rw [KP p2]; rfl
theorem PT {y : D} {yv : V} (m : MRel K M H) (r : Rep K M H y yv) (e : PR M y = some ds) : ∃ p vs, yv = .ref p ∧ (SqL K H p vs ∨ SqT K H p vs) ∧ Reps K M H ds vs := by
 cases r with
 | tup h r => cases e; exact ⟨_, _, rfl, .inr (SqT.of3 h), r⟩
 | lst h r => cases e; exact ⟨_, _, rfl, .inl (SqL.of3 h), r⟩
 | @ref a =>
  unfold PR at e
  dsimp only at e
  cases hm : M a with
  | none => rw [hm] at e; cases e
  | some o =>
   rw [hm] at e
   cases o with
   | dct _ => cases e
   | dt _ => cases e
   | lst xs =>
    cases e
    obtain ⟨ho, e1, r⟩ := m _ _ hm
    cases ho <;> first | exact (r : False).elim | skip
    exact ⟨_, _, rfl, .inl (.inl (.inl e1)), r⟩
 | _ => cases e
theorem XN {ys : List Str} : inV (.str z) (ys.map V.str) = ys.any (· == z) := by
 unfold inV
 rw [List.any_map]
 rfl
theorem MJ (ys : List Str) : (ys.map V.str).all FC = true := by
 rw [CY1, CF7]
 intro _ _; rfl
theorem BR1 : OpR3 X (CJ5 .In) (AB7 false) := by
 rintro pins s σv H M x y xv yv v u Q I m rx ry px py (⟨z, w, rfl, rfl, q⟩ | ⟨z, ys, rfl, hy, q⟩)
 ·cases px; cases py
  exact thn (ZY pins s σv H _ _ v u _ I rx ry ⟨z, w, rfl, rfl, up0 m .bl (by rw [Bool.false_xor] at q; exact q)⟩) fun _ _ h => Q7 h
 ·cases px
  obtain ⟨p, vs, rfl, sq, r⟩ := PT m py hy
  have e := KP r
  subst e
  exact thn (ZX pins s σv H _ _ v u _ I rx ry ⟨p, _, rfl, sq, rfl, MJ ys, up0 m .bl (by rw [XN]; rw [Bool.false_xor] at q; exact q)⟩) fun _ _ h => Q7 h
theorem RO : OpR3 X (CJ5 .NotIn) (AB7 true) := by
 rintro pins s σv H M x y xv yv v u Q I m rx ry px py (⟨z, w, rfl, rfl, q⟩ | ⟨z, ys, rfl, hy, q⟩)
 ·cases px; cases py
  exact thn (OY pins s σv H _ _ v u _ I rx ry ⟨z, w, rfl, rfl, up0 m .bl (by rw [Bool.true_xor] at q; exact q)⟩) fun _ _ h => Q7 h
 ·cases px
  obtain ⟨p, vs, rfl, sq, r⟩ := PT m py hy
  have e := KP r
  subst e
  exact thn (OX pins s σv H _ _ v u _ I rx ry ⟨p, _, rfl, sq, rfl, MJ ys, up0 m .bl (by rw [XN]; rw [Bool.true_xor] at q; exact q)⟩) fun _ _ h => Q7 h
end
section
variable {X : Cx} {e : Expr} {te : TE3} {pos : Pos}
def BW3 : V → Option Int → Option Int → Hp → VK → Prop := fun x lo hi H Q => ∃ z, x = .str z ∧ z.length ≤ CE1 ∧ Q (.str (Txt.slice z lo hi)) H
theorem BN4 : SlR X BW3 := by
 intro pins s σ H x v vl vu lo hi sl Q I rx hs pl pu h
 obtain ⟨z, rfl, hz, q⟩ := h
 obtain ⟨t, rfl⟩ := rx
 refine ⟨"str", _, PyProof.Rows.slot_str_getitem.lookup, typeIs_str _ _ _, ?_⟩
 obtain ⟨l, rfl, el⟩ : ∃ l : Option (Int × Tok), vl = partValue l ∧ lo = l.map (·.1) := by
  cases pl with
  | none => exact ⟨none, rfl, rfl⟩
  | int i t => exact ⟨some (i, t), rfl, rfl⟩
 obtain ⟨u, rfl, eu⟩ : ∃ u : Option (Int × Tok), vu = partValue u ∧ hi = u.map (·.1) := by
  cases pu with
  | none => exact ⟨none, rfl, rfl⟩
  | int i t => exact ⟨some (i, t), rfl, rfl⟩
 subst el eu
 refine wpAny_getItem_str_slice (st := none) (l := l) (u := u) hs rfl ?_
 have hle : (Txt.slice z (l.map (·.1)) (u.map (·.1))).length ≤ CE1 := CI6 (Txt.slice_le _ _ _) hz
 unfold sliceMade slicePicked
 unfold Txt.slice at q hle
 split
 ·rename_i hc
  split at q
  ·exact ⟨.str _, H, I, ⟨_, rfl⟩, q⟩
  ·rename_i hn
   exact absurd hc hn
 ·rename_i hc
  split at hle
  ·rename_i hn
   exact absurd hn hc
  ·rename_i hn
   rw [if_neg hn] at q
   exact ⟨hle, .str _, H, I.tok _, ⟨_, rfl⟩, q⟩
end
theorem U5 {f : Addr} {sp : Nat → Sp3} (hl : ∀ n ds M Q, sp n ds M Q → ds.length = ps.length) (hz : ∀ ds M Q, ¬ sp 0 ds M Q) :
  FnOk P w K mg base CX0 k f fd ps (IP K (sp 0)) := ⟨fun vs H Q E ⟨ds, M, Q3, r, _, h, _⟩ => absurd h (hz _ _ _), fun A outer s H args us vs Q E hr he hb hv ⟨ds, M, Q3, r, _, h, _⟩ => absurd h (hz _ _ _)⟩
theorem AO : CJ4 "all" = some (.builtin "all") := by decide +kernel
theorem AD7 : CJ4 "min" = some (.builtin "min") := by decide +kernel
theorem AS9 (x : Str) : x.length = x.cps.toList.length := by
 show x.cps.size = _
 simp
theorem V0 {P R : Prop} (h : R) : if (!true) = true then P else R := h
theorem U9 {P R : Prop} (h : P) : if (!false) = true then P else R := h
theorem BJ8 {w : Str} {neg b : Bool} {Q : DK} (e : subIn z w = b) (h : Q (.bl (neg ^^ b)) M) : AB7 neg (.str z) (.str w) M Q := .inl ⟨z, w, rfl, rfl, by rw [e]; exact h⟩
theorem BJ {bs : List Bool} {Q : DK} (h : Q (.bl (bs.all id)) M) : DF [.lst (bs.map D.bl)] M Q := ⟨bs, rfl, h⟩
theorem CD {tas : TA3} {Q : DK} (h : tas σ M fun xs M1 => xs.length ≤ CE1 ∧ ∀ p, M1 p = none → Q (.ref p) (C7 M1 p (.lst xs))) : U1 tas σ M Q := h
section
variable {X : Cx} {a b e : Expr} {ta tb te : TE3} {t : TA3} {pos p : Pos}
def NB : M3 := fun x xs M Q => ∃ a b ds es, x = .ref a ∧ xs = [.ref b] ∧ M a = some (.lst ds) ∧ M b = some (.lst es) ∧ ds.length + es.length ≤ CE1 ∧ Q .non (C7 M a (.lst (ds ++ es)))
theorem ZR : MtR3 X "list.extend" NB := MtR3.of ZV fun H M x xs xv xvs Q m px pxs hx0 => by
 obtain ⟨a, b, ds, es, e1, e2, ha, hb, hl, q⟩ := hx0
 subst e1 e2
 cases px
 obtain ⟨yv, rfl, py⟩ := NF pxs
 cases py
 obtain ⟨ho, h3, r⟩ := m _ _ ha
 cases ho <;> first | exact (r : False).elim | skip
 rename_i vs
 obtain ⟨ho2, h4, r2⟩ := m _ _ hb
 cases ho2 <;> first | exact (r2 : False).elim | skip
 rename_i us
 have r' : Reps X.K M H ds vs := r
 have r2' : Reps X.K M H es us := r2
 exact ⟨a, b, vs, us, rfl, rfl, h3, h4, by rw [← r'.length, ← r2'.length]; exact hl, .non, _, Step.put (.inr (by rw [ha]; simp)), m.put (.inr (by rw [ha]; simp)) (o := .lst (ds ++ es)) (Reps.append r' r2'), .non, q⟩
theorem V8 {K : CE0} {M : Mem} {H : Hp} : ∀ l : List Str, Reps K M H (l.map D.str) (l.map V.str)
 | [] => .nil
 | x :: l => .cons .str (V8 l)
def AP5 (to ti te : TE3) : TS3 := fun T σ M => te σ M fun d M1 => to σ M1 fun o M2 => ti σ M2 fun i M3 => ∃ a ds j k, o = .ref a ∧ i = .int k ∧ M3 a = some (.lst ds) ∧ ixN ds.length k = some j ∧ T.nx σ (C7 M3 a (.lst (ds.set j d)))
end
end L3
namespace PK
open PySem L2 L3
def BS : Int := 1000000000000000000000000000000
def bnd (n : Int) : Prop := -BS < n ∧ n < BS
def ltr (x : Str) : Prop := ∀ c ∈ x.cps.toList, 97 ≤ c ∧ c ≤ 122
def nm (x : Str) : Prop := ltr x ∧ 1 ≤ x.length ∧ x.length ≤ 8
class Pool where
 ps : List Str
def pn [Pool] (x : Str) : Prop := nm x ∧ x ∈ Pool.ps
mutual
inductive Ex where
 | none | num (n : Int) | var (x : Str) | op (s : Str) (a b : Ex) | make (r : Str) (as : Exs)
inductive Exs where
 | nil | cons (a : Ex) (r : Exs)
end
mutual
def eD : Ex → D
 | .none => .tup [.str "none"]
 | .num n => .tup [.str "number", .int n]
 | .var x => .tup [.str "var", .str x]
 | .op s a b => .tup [.str "op", .str s, eD a, eD b]
 | .make r as => .tup [.str "make", .str r, .tup (eDs as)]
def eDs : Exs → List D
 | .nil => []
 | .cons a r => eD a :: eDs r
end
mutual
def nd : Ex → Nat
 | .none => 1
 | .num _ => 1
 | .var _ => 1
 | .op _ a b => 1 + nd a + nd b
 | .make _ as => 1 + nds as
def nds : Exs → Nat
 | .nil => 0
 | .cons a r => nd a + nds r
end
mutual
def dp : Ex → Nat
 | .none => 1
 | .num _ => 1
 | .var _ => 1
 | .op _ a b => 1 + max (dp a) (dp b)
 | .make _ as => 1 + dps as
def dps : Exs → Nat
 | .nil => 0
 | .cons a r => max (dp a) (dps r)
end
def exl : Exs → Nat
 | .nil => 0
 | .cons _ r => exl r + 1
def sgn (s : Str) : Prop := s = "+" ∨ s = "-" ∨ s = "*" ∨ s = "<" ∨ s = "="
mutual
def wf [Pool] : Ex → Prop
 | .none => True
 | .num n => bnd n
 | .var x => pn x
 | .op s a b => sgn s ∧ wf a ∧ wf b
 | .make r as => nm r ∧ exl as ≤ 3 ∧ wfs as
def wfs [Pool] : Exs → Prop
 | .nil => True
 | .cons a r => wf a ∧ wfs r
end
inductive Head where
 | leaf (h : Str) (rest : List D) | ife (e : D) | whl (e : D) | tr (cs : List (Str × Str))
mutual
inductive Deed where
 | mk (h : Head) (bs : Bls)
inductive Blk where
 | nil | cons (d : Deed) (r : Blk)
inductive Bls where
 | nil | cons (b : Blk) (r : Bls)
end
def L6 : List (Str × Str) → List D → List D
 | (w, x) :: cs, t :: ts => .tup [.str w, .str x, t] :: L6 cs ts
 | _, _ => []
def MN : Head → List D → D
 | .leaf h r, _ => .tup (.str h :: r)
 | .ife e, ts => .tup (.str "if" :: e :: ts)
 | .whl e, ts => .tup (.str "while" :: e :: ts)
 | .tr cs, ts => .tup [.str "try", ts.getD 0 (.tup []), .tup (L6 cs ts.tail), ts.getD (cs.length + 1) (.tup [])]
mutual
def dD : Deed → D
 | .mk h bs => MN h (dTs bs)
def dB : Blk → List D
 | .nil => []
 | .cons d r => dD d :: dB r
def dTs : Bls → List D
 | .nil => []
 | .cons b r => .tup (dB b) :: dTs r
end
mutual
def G5 : Deed → Nat
 | .mk _ bs => 1 + L4 bs
def P0 : Blk → Nat
 | .nil => 0
 | .cons d r => G5 d + P0 r
def L4 : Bls → Nat
 | .nil => 0
 | .cons b r => P0 b + L4 r
end
mutual
def dpD : Deed → Nat
 | .mk _ bs => AG bs
def dpB : Blk → Nat
 | .nil => 0
 | .cons d r => max (dpD d) (dpB r)
def AG : Bls → Nat
 | .nil => 0
 | .cons b r => max (1 + dpB b) (AG r)
end
def bsl : Bls → Nat
 | .nil => 0
 | .cons _ r => bsl r + 1
def IT [Pool] (d : D) : Prop := ∃ e, d = eD e ∧ wf e ∧ nd e ≤ 9 ∧ dp e ≤ 4
def NO [Pool] (h : Str) (r : List D) : Prop :=
 ((h = "let" ∨ h = "give" ∨ h = "on") ∧ ∃ x e, r = [.str x, e] ∧ pn x ∧ IT e) ∨
 ((h = "note" ∨ h = "close" ∨ h = "end") ∧ ∃ e, r = [e] ∧ IT e) ∨
 (h = "ask" ∧ ∃ x y g e, r = [.str x, .str y, g, e] ∧ pn x ∧ pn y ∧ IT g ∧ IT e) ∨
 (h = "cast" ∧ ∃ x y g w e, r = [.str x, .str y, g, .str w, e] ∧ pn x ∧ pn y ∧ nm w ∧ IT g ∧ IT e) ∨
 (h = "leave" ∧ r = []) ∨
 (h = "fault" ∧ ∃ w e, r = [.str w, e] ∧ nm w ∧ IT e)
def hOk [Pool] : Head → Nat → Prop
 | .leaf h r, n => n = 0 ∧ NO h r
 | .ife e, n => n = 2 ∧ IT e
 | .whl e, n => n = 1 ∧ IT e
 | .tr cs, n => n = cs.length + 2 ∧ cs.length ≤ 3 ∧ ∀ c ∈ cs, nm c.1 ∧ pn c.2
mutual
def okD [Pool] : Deed → Prop
 | .mk h bs => hOk h (bsl bs) ∧ AU0 bs
def okB [Pool] : Blk → Prop
 | .nil => True
 | .cons d r => okD d ∧ okB r
def AU0 [Pool] : Bls → Prop
 | .nil => True
 | .cons b r => okB b ∧ AU0 r
end
def Y8 : Sp3 := fun ds M Q => ∃ _ : Pool, ∃ h bs, ds = [dD (.mk h bs)] ∧ hOk h (bsl bs) ∧ Q (.lst (dTs bs)) M
structure Rl where
 name : Str
 pars : List Str
 blk : Blk
def rD (r : Rl) : D := .tup [.str r.name, .tup (r.pars.map D.str), .tup (dB r.blk)]
abbrev IJ : List Str := ["_law_script"]
def ER : TS3 :=
  (B4 (QF [((tC3 (.str "cells")), (B8 GV (A0 (BA3 (A1 0) E5 (G3 (tC3 (.int 63)))) A2))), ((tC3 (.str "at")), (tC3 (.int 0))), ((tC3 (.str "left")), (tC3 (.int 0)))]))
abbrev HG : List Str := ["_law_pen_here", "_law_many", "_law_digit", "_law_cells", "_law_at", "_law_cell", "_law_number"]
def BR : TS3 :=
  (A5 (B9 (A7 (A3 DB (A3 K5 (A1 0) (tC3 (.str "left"))) (tC3 (.int 0)))) (A5 (B1 2 (A3 K6 (A3 K5 (A1 0) (tC3 (.str "left"))) (A1 1)))
  (A5 (Z1 (A1 0) (tC3 (.str "left")) (A3 BG (A3 K5 (A1 0) (tC3 (.str "left"))) (A1 1)))
  (B4 (A1 2)))) B3)
  (A5 (B1 3 (A3 K5 (A1 0) (tC3 (.str "cells"))))
  (A5 (B1 4 (A3 K5 (A1 0) (tC3 (.str "at"))))
  (A5 (Z1 (A1 0) (tC3 (.str "at")) (A3 C5 (A1 4) (tC3 (.int 1))))
  (A5 (B1 5 (A3 C5 (A3 BH (tC3 (.int 30011)) (A1 4)) (tC3 (.int 77))))
  (A5 (B9 (A7 (A3 N0 (A1 3) (D7 A2))) (B1 5 (A3 C1 (A1 3) (A3 K6 (A1 4) (B8 D3 (A0 (A1 3) A2))))) B3)
  (A5 (B9 (HN (A7 (A3 AB8 (A1 4) (B8 D3 (A0 (A1 3) A2)))) (A7 (A3 BJ3 (B8 AE (A0 (A1 5) A2)) (A3 FP (tC3 (.int 10)) (tC3 (.int 18)))))) (A5 (Z1 (A1 0) (tC3 (.str "left")) (A3 BG (B8 AE (A0 (A1 5) A2)) (A1 1)))
  (B4 (A3 K6 (B8 AE (A0 (A1 5) A2)) (A1 1)))) B3)
  (A5 (B1 6 (A3 K6 (A3 FP (A3 C5 (A3 C5 (A3 K6 (A1 5) (tC3 (.int 2147483587))) (A3 BH (tC3 (.int 50021)) (A1 4))) (tC3 (.int 29))) (tC3 (.int 5))) (tC3 (.int 2147483629))))
  (A5 (B1 6 (A3 K6 (A3 FP (A3 C5 (A3 BH (A1 6) (A3 C5 (A3 BH (tC3 (.int 2)) (A1 4)) (tC3 (.int 5)))) (tC3 (.int 81799))) (tC3 (.int 3))) (tC3 (.int 2147483647))))
  (B4 (A3 K6 (A3 BG (A1 6) (tC3 (.int 16))) (A1 1))))))))))))
end PK
variable {d : PK.Deed} {rs : List PK.Rl}
namespace L3
open PySem PySem.Spec PyProof.Rows L2
section
variable {T : L1} {σ : Lo} {M : Mem} {Q : DK} {QB : Bool → Mem → Prop} {d x y : D}
theorem CF {i j : Int} (h : Q (.int (if j < i then j else i)) M) : YH [.int i, .int j] M Q := h
theorem CH (h : Q (.tup ds) M) : F2 [.lst ds] M Q := h
theorem YN (hm : M a = some (.lst ds)) (h : Q (.int ds.length) M) : D3 [.ref a] M Q := ⟨ds, hm, h⟩
end
theorem YC {b : Nat} (h : Pen M p b) (hn : p ≠ a) : Pen (K4 M a) p b := FN h (p := a) (fun _ hb => X0 hb) hn
theorem AE4 {acc : List D} {P : Nat → D → D → Prop} (hl : acc.length = ds.length) (h : ∀ (k : Nat) d e, ds[k]? = some d → acc[k]? = some e → P k d e) : ∀ e ∈ acc, ∃ (k : Nat) (d : D), ds[k]? = some d ∧ P k d e := fun e he => by
 obtain ⟨k, hk, rfl⟩ := CR3 he
 have hk' : k < ds.length := by rw [← hl]; exact hk
 exact ⟨k, ds[k], by simp, h k ds[k] _ (by simp) (by simp)⟩
theorem IU {α : Type} {f : α → D} {P : α → Prop} : ∀ {l : List D}, (∀ e ∈ l, ∃ c, e = f c ∧ P c) → ∃ cs : List α, l = cs.map f ∧ ∀ c ∈ cs, P c
 | [], _ => ⟨[], rfl, fun _ h => by cases h⟩
 | e :: l, h => by
  obtain ⟨c, rfl, hc⟩ := h e CF3
  obtain ⟨cs, rfl, hcs⟩ := IU fun x hx => h x (CF2 _ hx)
  exact ⟨c :: cs, rfl, fun x hx => by
   rcases CF9.mp hx with rfl | hx
   ·exact hc
   ·exact hcs x hx⟩
theorem AO8 (h : M a = some (.lst ds)) : PR M (.ref a) = some ds := by
 unfold PR
 dsimp only
 rw [h]
theorem ZC {M1 : Mem} {Q : DK} {b : Nat} (c : Nat) (P : Nat → D → D → Prop) (hP : Pen M1 q b) (hl : ds.length < CE1)
  (turn : ∀ (k : Nat) d M2 (R : D → Mem → Prop) (F : Mem → Prop), ds[k]? = some d → Pen M2 q (b + c * k) → (∀ a, M1 a ≠ none → a ≠ q → M2 a = M1 a) → (∀ e M5, P k d e → Pen M5 q (b + c * (k + 1)) → Same3 q M2 M5 → R e M5) →
   g d σ0 M2 fun σ' M3 => tt σ' M3 fun bb M4 => if bb = true then te σ' M4 R else F M4)
  (done : ∀ (acc : List D) M2, acc.length = ds.length → (∀ (k : Nat) d e, ds[k]? = some d → acc[k]? = some e → P k d e) → Pen M2 q (b + c * ds.length) → Same3 q M1 M2 → Q (.lst acc) M2) : WR g tt te σ0 ds M1 Q := by
 intro p hp
 have hqp := PB hP hp
 refine ⟨fun k acc M2 => acc.length = k ∧ (∀ (j : Nat) d e, ds[j]? = some d → acc[j]? = some e → P j d e) ∧ Pen M2 q (b + c * k) ∧ M2 p = some (.lst acc) ∧ ∀ a, a ≠ q → a ≠ p → M2 a = M1 a, ⟨rfl, fun j d e _ h => by simp at h, by rw [Nat.mul_zero, Nat.add_zero]; exact X2 hP hqp, B5, fun a _ ha => C6 ha⟩, ?_, ?_⟩
 ·rintro k d acc M2 hd ⟨hk, hall, hpen, hacc, hsame⟩
  have hkl : k < ds.length := (List.getElem?_eq_some_iff.mp hd).1
  refine turn k d M2 _ _ hd hpen (fun a ha hq => hsame a hq (by rintro rfl; exact ha hp)) fun e M5 he hp5 hs5 => ?_
  refine ⟨by rw [hs5 p (Ne.symm hqp)]; exact hacc, by lia, by simp [hk], fun j d' e' hd' he' => ?_, X2 hp5 hqp, B5, fun a ha1 ha2 => ?_⟩
  ·rcases CP6 j acc.length with hj | hj
   ·rw [CG8 hj] at he'
    exact hall j d' e' hd' he'
   ·rw [CG0 hj] at he'
    have hj0 : j - acc.length = 0 := by
     rcases Nat.eq_zero_or_pos (j - acc.length) with z | z
     ·exact z
     ·rw [CY0 (by simp; lia)] at he'; cases he'
    rw [hj0] at he'
    cases he'
    have : j = k := by lia
    subst this
    rw [hd] at hd'; cases hd'
    exact he
  ·rw [C6 ha2, hs5 a ha1]; exact hsame a ha1 ha2
 ·rintro acc M2 ⟨hk, hall, hpen, hacc, hsame⟩
  refine ⟨hacc, done acc (K4 M2 p) hk hall ?_ fun a ha => ?_⟩
  ·exact FN hpen (p := p) (fun a ha => X0 ha) hqp
  ·by_cases hap : a = p
   ·subst hap; rw [BY, hp]
   ·rw [X0 hap]; exact hsame a ha hap
theorem G7 {gt : TG3} {M1 : Mem} {Q : DK} (l : List α) (f g : α → D) (hl : l.length < CE1)
  (turn : ∀ a ∈ l, ∀ M2 (R : D → Mem → Prop) (F : Mem → Prop), (∀ x, M1 x ≠ none → M2 x = M1 x) → R (g a) M2 → gt (f a) σ0 M2 fun σ' M3 => tt σ' M3 fun bb M4 => if bb = true then te σ' M4 R else F M4)
  (done : Q (.lst (l.map g)) M1) : WR gt tt te σ0 (l.map f) M1 Q := by
 intro p hp
 refine ⟨fun k acc M2 => acc = (l.take k).map g ∧ M2 p = some (.lst acc) ∧ ∀ a, a ≠ p → M2 a = M1 a, ⟨rfl, B5, fun a ha => C6 ha⟩, ?_, ?_⟩
 ·rintro k d acc M2 hd ⟨rfl, hacc, hsame⟩
  have hk : k < l.length := by simpa using (List.getElem?_eq_some_iff.mp hd).1
  have hdk : d = f l[k] := by
   rw [CF1, CE8 hk] at hd
   exact (Option.some.inj hd).symm
  subst hdk
  refine turn l[k] (CQ9 hk) M2 _ _ (fun a ha => hsame a (by rintro rfl; exact ha hp)) ⟨hacc, by simp; lia, ?_, B5, fun a ha => by rw [C6 ha]; exact hsame a ha⟩
  rw [CM1, CE8 hk, CG3]
  rfl
 ·rintro acc M2 ⟨rfl, hacc, hsame⟩
  have hlen : (l.map f).length = l.length := by simp
  rw [hlen, CJ0] at hacc ⊢
  have : K4 M2 p = M1 := funext fun a => by
   by_cases ha : a = p
   ·subst ha; rw [BY, hp]
   ·rw [X0 ha]; exact hsame a ha
  rw [this]
  exact ⟨hacc, done⟩
end L3
open L3
local macro_rules | `(tactic| walk_at "rd") => `(tactic| repeat (first | (with_reducible first | refine EI ?_ | refine ED ?_ | refine Y5 ?_ | refine JV ?_ | refine JZ ?_ | refine SD ?_ | refine BM ?_ | refine EJ ?_ | refine X6 ?_ | refine S3 ?_ | refine X4 ?_ | refine JS ?_ | refine BL ?_ | refine X5 ?_ | refine Y6 ?_ | refine Y2 ?_ | refine DZ ?_ | refine JW ?_ | refine EF ?_ | refine X3 ?_ | refine EG ?_ | refine Y3 ?_ | refine R1 ?_ | refine JX ?_ | refine JU ?_ | refine Y4 ?_ | refine G9 ?_ | refine E3 ?_ | refine E1 ?_ | refine V0 ?_ | refine U9 ?_ | refine JO ?_ | refine VL ?_ | refine G4 ?_ | refine Y0 ?_ | refine Y1 ?_ | refine DY ?_ | refine X9 ?_ | refine R4 ?_ | refine R5 ?_ | refine EK ?_ | refine EE ?_ | refine GW ?_ | refine U7 ?_ | refine CG ?_ | refine ND ?_ | refine CD ?_ | refine CF ?_ | refine CH ?_ | refine CA ?_ | refine CB ?_ | refine X8 ?_ | refine U8 ?_ | refine V2 ?_ | refine R6 ?_ | refine V1 ?_ | refine T8 ?_ | refine HA ?_ | refine GZ ?_ | refine EB ?_ | refine HB ?_ | refine EC ?_ | refine EH ?_) | ((with_reducible show A1 _ _ _ _); refine T9 rfl ?_) | ((with_reducible show _ ∧ _); refine ⟨(by first | decide | (simp only [CE7, CI5]; decide)), ?_⟩)))
namespace PK
open PySem L2 L3
theorem OJ : ∀ ds M Q, NH ds M Q → ds.length = 1 := by rintro _ _ _ ⟨_, rfl, _⟩; rfl
theorem SA : ∀ ds M Q, NH ds M Q → ER { nx := fun _ M' => View Q .non M', rt := View Q } (B2 IJ ds) M := by
 intro ds M Q h
 obtain ⟨d, rfl⟩ : ∃ d, ds = [d] := by obtain ⟨ns, rfl, _⟩ := h; exact ⟨_, rfl⟩
 exact BK1 h d rfl _
theorem LB : ∀ ds M Q, C8 ds M Q → ds.length = 2 := by rintro _ _ _ ⟨_, _, _, rfl, _⟩; rfl
theorem PD : ∀ ds M Q, C8 ds M Q → BR { nx := fun _ M' => View Q .non M', rt := View Q } (B2 HG ds) M := by
 intro ds M Q h
 obtain ⟨d0, d1, rfl⟩ : ∃ d0 d1, ds = [d0, d1] := by obtain ⟨_, _, _, rfl, _⟩ := h; exact ⟨_, _, rfl⟩
 exact AZ1 h d0 d1 rfl _
end PK
open L3
namespace PK
open PySem L2 L3
end PK
open L3
namespace PK
open PySem L2 L3
end PK
open L3
namespace PK
open PySem L2 L3
def toL : Blk → List Deed
 | .nil => []
 | .cons d r => d :: toL r
def J7 : Bls → List Blk
 | .nil => []
 | .cons b r => b :: J7 r
def tB (b : Blk) : D := .tup (dB b)
theorem AF0 : ∀ b : Blk, dB b = (toL b).map dD
 | .nil => rfl
 | .cons d r => by show dD d :: dB r = _; rw [AF0 r]; rfl
theorem OA : ∀ bs : Bls, dTs bs = (J7 bs).map tB
 | .nil => rfl
 | .cons b r => by show D.tup (dB b) :: dTs r = _; rw [OA r]; rfl
theorem TN : ∀ bs : Bls, (J7 bs).length = bsl bs
 | .nil => rfl
 | .cons b r => by show (J7 r).length + 1 = bsl r + 1; rw [TN r]
theorem OB (bs : Bls) : (dTs bs).length = bsl bs := by rw [OA, CD8, TN]
theorem AS8 [Pool] {h : Str} (hl : NO h r) : (h == ("if" : Str)) = false ∧ (h == ("while" : Str)) = false ∧ (h == ("try" : Str)) = false := by
 rcases hl with ⟨h1 | h1 | h1, _⟩ | ⟨h1 | h1 | h1, _⟩ | ⟨h1, _⟩ | ⟨h1, _⟩ | ⟨h1, _⟩ | ⟨h1, _⟩ <;> subst h1 <;> exact ⟨by decide +kernel, by decide +kernel, by decide +kernel⟩
def NM : D → D
 | .tup [_, _, t] => t
 | _ => .non
theorem MC : ∀ (cs : List (Str × Str)) (ts : List D), cs.length ≤ ts.length → (L6 cs ts).map NM = ts.take cs.length
 | [], ts, _ => by cases ts <;> rfl
 | (w, x) :: cs, [], h => by simp at h
 | (w, x) :: cs, t :: ts, h => by
  show NM (.tup [.str w, .str x, t]) :: (L6 cs ts).map NM = _
  rw [MC cs ts (by simpa using h)]
  rfl
theorem NW : ∀ (cs : List (Str × Str)) (ts : List D), (L6 cs ts).length ≤ cs.length
 | [], ts => by cases ts <;> simp [L6]
 | (w, x) :: cs, [] => by simp [L6]
 | (w, x) :: cs, t :: ts => by
  show (L6 cs ts).length + 1 ≤ cs.length + 1
  have := NW cs ts
  lia
theorem NX : ∀ (cs : List (Str × Str)) (ts : List D) (d : D), d ∈ L6 cs ts → ∃ w x t, d = .tup [.str w, .str x, t]
 | [], ts, d, h => by cases ts <;> simp [L6] at h
 | (w, x) :: cs, [], d, h => by simp [L6] at h
 | (w, x) :: cs, t :: ts, d, h => by
  rcases CF9.mp h with rfl | h
  ·exact ⟨w, x, t, rfl⟩
  ·exact NX cs ts d h
theorem OR [Pool] : ∀ (b : Blk) (d : Deed), d ∈ toL b → G5 d ≤ P0 b ∧ dpD d ≤ dpB b ∧ (okB b → okD d)
 | .cons x r, d, h => by
  rcases CF9.mp h with rfl | h
  ·exact ⟨CO6 _ _, Nat.le_max_left _ _, fun z => z.1⟩
  ·obtain ⟨a, b, c⟩ := OR r d h
   exact ⟨CI6 a (Nat.le_add_left _ _), CI6 b (Nat.le_max_right _ _), fun z => c z.2⟩
theorem JF [Pool] : ∀ (bs : Bls) (b : Blk), b ∈ J7 bs → P0 b ≤ L4 bs ∧ dpB b + 1 ≤ AG bs ∧ (AU0 bs → okB b)
 | .cons x r, b, h => by
  rcases CF9.mp h with rfl | h
  ·exact ⟨CO6 _ _, by show dpB b + 1 ≤ max (1 + dpB b) (AG r); lia, fun z => z.1⟩
  ·obtain ⟨a, c, d⟩ := JF r b h
   exact ⟨CI6 a (Nat.le_add_left _ _), by show dpB b + 1 ≤ max (1 + dpB x) (AG r); lia, fun z => d z.2⟩
end PK
open L3
namespace PK
open PySem L2 L3
end PK
open L3
namespace PK
open PySem L2 L3
end PK
open L3
namespace PK
open PySem L2 L3
end PK
namespace L3
open PySem PySem.Spec PyProof.Rows L2
theorem LI (it t : Addr) (i : Nat) (items : Array Value) (x : Value) : Meets (CN1.«tuple_iterator.__next__» { pos := [.ref it] }) fun A R s =>
  s.heap.IsTupleIter it t i ∧ s.heap.IsTuple t items ∧ items[i]? = some x ∧ ∀ h', h'.IsTupleIter it t (i + 1) → CK3 it s.heap h' → R (.ok (.ret x)) { s with heap := h' } := by
 rintro prog w A R s ⟨⟨⟨cls, dct, data, sl⟩, ho, hc, hd⟩, ⟨ot, hto, htc, n, htd⟩, hx, k⟩
 simp only at hc hd
 subst hc hd
 refine CD4 (CD6 ?_)
 refine CD4 (CL7 ho rfl rfl ?_)
 rw [if_neg (by simp)]
 refine CD4 (CL7 ho rfl rfl ?_)
 refine CD4 (CM6 hto htd ?_)
 have e : (↑i : Int).toNat = i := by simp
 simp only [e, hx]
 refine CD4 (CK2 ho rfl (by simp) ?_)
 refine CD6 (k _ ?_ ?_)
 ·exact ⟨_, CI0 _ ho rfl, rfl, rfl⟩
 ·exact ⟨by simp [Heap.update], fun b hb => CG7 _ _ (Ne.symm hb)⟩
theorem OQ (it t : Addr) (i : Nat) (items : Array Value) : Meets (CN1.«tuple_iterator.__next__» { pos := [.ref it] }) fun A R s =>
  A.handled = none ∧ s.heap.IsTupleIter it t i ∧ s.heap.IsTuple t items ∧ items[i]? = none ∧ ∀ h' e, CS7 it s.heap h' → (∃ o, h'.get? e = some o ∧ o.cls = .type "StopIteration") → R (.error (.ref e)) { s with heap := h' } := by
 rintro prog w A R s ⟨hA, ⟨⟨cls, dct, data, sl⟩, ho, hc, hd⟩, ⟨ot, hto, htc, n, htd⟩, hx, k⟩
 simp only at hc hd
 subst hc hd
 refine CD4 (CD6 ?_)
 refine CD4 (CL7 ho rfl rfl ?_)
 rw [if_neg (by simp)]
 refine CD4 (CL7 ho rfl rfl ?_)
 refine CD4 (CM6 hto htd ?_)
 have e : (↑i : Int).toNat = i := by simp
 simp only [e, hx]
 refine CD4 (CP3 ?_)
 refine CD4 (CK2 ho rfl (by simp) ?_)
 unfold Builtin.SmallTypes.stopIteration
 refine CD4 (CD4 (CG4 ?_))
 refine CD4 (CD4 (CD6 (CD6 ?_)))
 refine CG4 ?_ (by first | decide | (unfold sizeOk; simp [ownMembersOf, CF8]))
 refine wpAny_raiseNew_none hA (k _ _ (fun b ob hb hob => ?_) ⟨_, CE4 _ rfl, rfl⟩)
 exact CD5 _ (CD5 _ ((CG7 _ _ (Ne.symm hb)).trans hob))
theorem Q9 {it t : Addr} {x : Value} (hi : s.heap.IsTupleIter it t i) (ht : s.heap.IsTuple t items) (hx : items[i]? = some x)
  (k : ∀ h', h'.IsTupleIter it t (i + 1) → CK3 it s.heap h' → Q x { s with heap := h' }) : wpAny (model prog w) A (CJ6 (.ref it)) Q E s := by
 obtain ⟨o, ho, hc, hd⟩ := id hi
 refine CD4 (CI8 ⟨o, ho, hc⟩ CV2 ?_)
 refine CP4 CV2 ⟨o, ho, hc⟩ entry_tupleiter_next (F.args_tuple_iterator_next_1 _) (LI it t i items x) ⟨hi, ht, hx, fun h' a b => ?_⟩
 exact CD6 (k h' a b)
theorem DE {it t : Addr} (hA : A.handled = none) (hi : s.heap.IsTupleIter it t i) (ht : s.heap.IsTuple t items) (hx : items[i]? = none)
  (k : ∀ h' e, CS7 it s.heap h' → (∃ o, h'.get? e = some o ∧ o.cls = .type "StopIteration") → E (.ref e) { s with heap := h' }) : wpAny (model prog w) A (CJ6 (.ref it)) Q E s := by
 obtain ⟨o, ho, hc, hd⟩ := id hi
 refine CD4 (CI8 ⟨o, ho, hc⟩ CV2 ?_)
 exact CP4 CV2 ⟨o, ho, hc⟩ entry_tupleiter_next (F.args_tuple_iterator_next_1 _) (OQ it t i items) ⟨hA, hi, ht, hx, fun h' e a b => k h' e a b⟩
theorem AD1 {E : Value → CD9 → Prop} {z TI TO : Addr} {xs : Array Value} {x y a b : Value}
  (ap : ZipApart z TI TO i1 i2 l1 l2) (hz : IsZip s.heap z TI TO .none) (hI : CQ2 s.heap TI (.ref i1) (.ref i2)) (hO : CQ2 s.heap TO a b)
  (h1 : s.heap.IsTupleIter i1 l1 k) (h2 : s.heap.IsTupleIter i2 l2 k) (t1 : s.heap.IsTuple l1 xs) (t2 : s.heap.IsTuple l2 ys) (hx : xs[k]? = some x) (hy : ys[k]? = some y)
  (q : ∀ h', IsZip h' z TI TO (CU0 ↑s.heap.objs.size) → CQ2 h' TO x y → h'.IsTupleIter i1 l1 (k + 1) → h'.IsTupleIter i2 l2 (k + 1) → CQ2 h' s.heap.objs.size x y → h'.objs.size = s.heap.objs.size + 1 →
   (∀ c o, c ≠ z → c ≠ TO → c ≠ i1 → c ≠ i2 → s.heap.get? c = some o → h'.get? c = some o) → Q (.ref s.heap.objs.size) { s with heap := h' }) :
  wpAny (model prog w) A (CN1.«zip.__next__» { pos := [.ref z] }) (fun fin s' => ∃ v, fin = .done (.ret v) ∧ Q v s') E s := by
 refine CD4 (CD6 ?_)
 try dsimp only
 refine CD4 (CL7 hz rfl rfl ?_)
 try dsimp only
 refine CD4 (CL7 hz rfl rfl ?_)
 refine CD4 (CM6 hI rfl ?_)
 try dsimp only
 rw [if_neg (by simp)]
 refine CD4 (CD4 (CL7 hz rfl rfl ?_))
 refine CD6 ?_
 rw [if_pos rfl]
 refine CD4 (CP3 ?_)
 refine CD4 (CL7 hz rfl rfl ?_)
 try dsimp only
 refine CD4 (CK2 hz rfl (by simp) ?_)
 have zip2 : [Value.ref i1, Value.ref i2].zipIdx = [(Value.ref i1, 0), (Value.ref i2, 1)] := rfl
 have hz1 := CI0 (h := s.heap) (a := z) (CH2 fun x => x.setIfInBounds 0 Value.ellipsis) hz rfl
 have o1 : ∀ c, c ≠ z → (s.heap.update z (CH2 fun x => x.setIfInBounds 0 Value.ellipsis)).get? c = s.heap.get? c := fun c hc => CG7 _ _ (Ne.symm hc)
 have sz1 : (s.heap.update z (CH2 fun x => x.setIfInBounds 0 Value.ellipsis)).objs.size = s.heap.objs.size := by simp [Heap.update]
 generalize s.heap.update z (CH2 fun x => x.setIfInBounds 0 Value.ellipsis) = g1 at hz1 o1 sz1
 have kI : ∀ {g : Heap} {it t n}, g.get? it = s.heap.get? it → s.heap.IsTupleIter it t n → g.IsTupleIter it t n := fun e ⟨o, ho, r⟩ => ⟨o, e.trans ho, r⟩
 have kT : ∀ {g : Heap} {t its}, g.get? t = s.heap.get? t → s.heap.IsTuple t its → g.IsTuple t its := fun e ⟨o, ho, r⟩ => ⟨o, e.trans ho, r⟩
 rw [zip2, CN6]
 refine CD4 (CD4 (CD4 (wpAny_onRaise ?_)))
 refine CD4 (m := CJ6 (.ref i1)) (Q9 (kI (o1 _ ap.i1z) h1) (kT (o1 _ ap.l1z) t1) hx fun g2 hi2 sb2 => ?_)
 refine CD6 ?_
 have hO2 : CQ2 g2 TO a b := ((sb2.2 _ ap.TOi1).trans (o1 _ ap.TOz)).trans hO
 refine CD4 (CM6 hO2 rfl ?_)
 refine CD4 (wpAny_updateSeq_pair hO2 fun g3 hO3 sb3 => ?_)
 refine CD4 (wpAny_letGo ?_)
 refine CD6 ?_
 show wpAny _ _ (forIn [(Value.ref i2, 1)] _ _) _ _ _
 rw [CN6]
 have hO3 : CQ2 g3 TO x b := hO3
 have e3 : ∀ c, c ≠ z → c ≠ i1 → c ≠ TO → g3.get? c = s.heap.get? c := fun c h1 h2 h3 => (sb3.2 c h3).trans ((sb2.2 c h2).trans (o1 c h1))
 refine CD4 (CD4 (wpAny_onRaise ?_))
 refine CD4 (m := CJ6 (.ref i2)) (Q9 (kI (e3 _ ap.i2z (Ne.symm ap.i12) (Ne.symm ap.TOi2)) h2) (kT (e3 _ ap.l2z ap.l2i1 ap.l2TO) t2) hy fun g4 hi4 sb4 => ?_)
 refine CD6 ?_
 have hO4 : CQ2 g4 TO x b := (sb4.2 _ ap.TOi2).trans hO3
 refine CD4 (CM6 hO4 rfl ?_)
 refine CD4 (wpAny_updateSeq_pair hO4 fun g5 hO5 sb5 => ?_)
 refine CD4 (wpAny_letGo ?_)
 refine CD6 ?_
 show wpAny _ _ (forIn [] _ _) _ _ _
 rw [List.forIn_nil]
 refine CD6 ?_
 have hO5 : CQ2 g5 TO x y := hO5
 refine CD4 (CM6 hO5 rfl ?_)
 refine CD4 (CG4 (data := .seq #[x, y]) ?_)
 have hz5 : g5.get? z = some { cls := .type "zip", data := .fields #[Value.ellipsis, Value.bool false, Value.bool false, Value.ref TI, Value.ref TO] } := (sb5.2 z (Ne.symm ap.TOz)).trans ((sb4.2 z (Ne.symm ap.i2z)).trans ((sb3.2 z (Ne.symm ap.TOz)).trans ((sb2.2 z (Ne.symm ap.i1z)).trans hz1)))
 have sz5 : g5.objs.size = s.heap.objs.size := sb5.1.trans (sb4.1.trans (sb3.1.trans (sb2.1.trans sz1)))
 have e5 : ∀ c, c ≠ z → c ≠ i1 → c ≠ TO → c ≠ i2 → g5.get? c = s.heap.get? c := fun c h1 h2 h3 h4 => (sb5.2 c h3).trans ((sb4.2 c h4).trans (e3 c h1 h2 h3))
 show wpAny _ _ _ _ _ { s with heap := g5.push { cls := .type "tuple", data := .seq #[x, y] } }
 have hz6 : (g5.push { cls := .type "tuple", data := .seq #[x, y] }).get? z = _ := CD5 _ hz5
 refine CD4 (CD4 (CK2 hz6 rfl (by simp) ?_))
 have hz7 := CI0 (h := g5.push { cls := .type "tuple", data := .seq #[x, y] }) (a := z) (CH2 fun v => v.setIfInBounds 0 (CU0 (g5.objs.size : Nat))) hz6 rfl
 refine CK2 hz7 rfl (by simp [CH2]) ?_
 have hz8 := CI0 (h := (g5.push { cls := .type "tuple", data := .seq #[x, y] }).update z (CH2 fun v => v.setIfInBounds 0 (CU0 (g5.objs.size : Nat)))) (a := z) (CH2 fun v => v.setIfInBounds 1 (.bool false)) hz7 rfl
 have e8 : ∀ c, c ≠ z → (((g5.push { cls := .type "tuple", data := .seq #[x, y] }).update z (CH2 fun v => v.setIfInBounds 0 (CU0 (g5.objs.size : Nat)))).update z (CH2 fun v => v.setIfInBounds 1 (.bool false))).get? c = (g5.push { cls := .type "tuple", data := .seq #[x, y] }).get? c := fun c hc => (CG7 _ _ (Ne.symm hc)).trans (CG7 _ _ (Ne.symm hc))
 have sz8 : (((g5.push { cls := .type "tuple", data := .seq #[x, y] }).update z (CH2 fun v => v.setIfInBounds 0 (CU0 (g5.objs.size : Nat)))).update z (CH2 fun v => v.setIfInBounds 1 (.bool false))).objs.size = g5.objs.size + 1 := by simp [Heap.update, Heap.push]
 show wpAny _ _ (pure (PySem.Fin.done (.ret (.ref g5.objs.size)))) _ _ { s with heap := ((g5.push { cls := .type "tuple", data := .seq #[x, y] }).update z (CH2 fun v => v.setIfInBounds 0 (CU0 (g5.objs.size : Nat)))).update z (CH2 fun v => v.setIfInBounds 1 (.bool false)) }
 refine CD6 ⟨_, rfl, ?_⟩
 generalize ((g5.push { cls := .type "tuple", data := .seq #[x, y] }).update z (CH2 fun v => v.setIfInBounds 0 (CU0 (g5.objs.size : Nat)))).update z (CH2 fun v => v.setIfInBounds 1 (.bool false)) = g8 at hz8 e8 sz8 ⊢
 have zl := CE2 hz5
 rw [sz5]
 have p8 : ∀ c o, c ≠ z → g5.get? c = some o → g8.get? c = some o := fun c o hc e => (e8 c hc).trans (CD5 _ e)
 have i5 : g5.IsTupleIter i1 l1 (k + 1) := by
  obtain ⟨o, ho, r⟩ := hi2
  exact ⟨o, (sb5.2 _ (Ne.symm ap.TOi1)).trans ((sb4.2 _ ap.i12).trans ((sb3.2 _ (Ne.symm ap.TOi1)).trans ho)), r⟩
 have j5 : g5.IsTupleIter i2 l2 (k + 1) := by
  obtain ⟨o, ho, r⟩ := hi4
  exact ⟨o, (sb5.2 _ (Ne.symm ap.TOi2)).trans ho, r⟩
 refine q g8 (by rw [sz5] at hz8; exact hz8) (p8 _ _ ap.TOz hO5) ?_ ?_ ?_ (by rw [sz8, sz5]) fun c o h1 h2 h3 h4 e => p8 c o h1 ((e5 c h1 h3 h2 h4).trans e)
 ·obtain ⟨o, ho, r⟩ := i5
  exact ⟨o, p8 _ _ ap.i1z ho, r⟩
 ·obtain ⟨o, ho, r⟩ := j5
  exact ⟨o, p8 _ _ ap.i2z ho, r⟩
 ·show g8.get? s.heap.objs.size = _
  rw [e8 _ (by rw [← sz5]; exact CR6 zl), ← sz5]
  exact CE4 _ rfl
theorem AQ4 {z TI TO : Addr} {xs : Array Value} {a b : Value} {Q : PySem.Fin → CD9 → Prop}
  (hA : A.handled = none) (ap : ZipApart z TI TO i1 i2 l1 l2) (hz : IsZip s.heap z TI TO .none) (hI : CQ2 s.heap TI (.ref i1) (.ref i2)) (hO : CQ2 s.heap TO a b)
  (h1 : s.heap.IsTupleIter i1 l1 k) (h2 : s.heap.IsTupleIter i2 l2 k) (t1 : s.heap.IsTuple l1 xs) (t2 : s.heap.IsTuple l2 ys) (hx : xs[k]? = none ∨ ys[k]? = none)
  (q : ∀ h' e, (∀ c o, c ≠ z → c ≠ TO → c ≠ i1 → c ≠ i2 → s.heap.get? c = some o → h'.get? c = some o) → (∃ o, h'.get? e = some o ∧ o.cls = .type "StopIteration") → E (.ref e) { s with heap := h' }) :
  wpAny (model prog w) A (CN1.«zip.__next__» { pos := [.ref z] }) Q E s := by
 refine CD4 (CD6 ?_)
 refine CD4 (CL7 hz rfl rfl ?_)
 try dsimp only
 refine CD4 (CL7 hz rfl rfl ?_)
 refine CD4 (CM6 hI rfl ?_)
 try dsimp only
 rw [if_neg (by simp)]
 refine CD4 (CD4 (CL7 hz rfl rfl ?_))
 refine CD6 ?_
 rw [if_pos rfl]
 refine CD4 (CP3 ?_)
 refine CD4 (CL7 hz rfl rfl ?_)
 try dsimp only
 refine CD4 (CK2 hz rfl (by simp) ?_)
 have zip2 : [Value.ref i1, Value.ref i2].zipIdx = [(Value.ref i1, 0), (Value.ref i2, 1)] := rfl
 have hz1 := CI0 (h := s.heap) (a := z) (CH2 fun x => x.setIfInBounds 0 Value.ellipsis) hz rfl
 have o1 : ∀ c, c ≠ z → (s.heap.update z (CH2 fun x => x.setIfInBounds 0 Value.ellipsis)).get? c = s.heap.get? c := fun c hc => CG7 _ _ (Ne.symm hc)
 generalize s.heap.update z (CH2 fun x => x.setIfInBounds 0 Value.ellipsis) = g1 at hz1 o1
 have kI : ∀ {g : Heap} {it t n}, g.get? it = s.heap.get? it → s.heap.IsTupleIter it t n → g.IsTupleIter it t n := fun e ⟨o, ho, r⟩ => ⟨o, e.trans ho, r⟩
 have kT : ∀ {g : Heap} {t its}, g.get? t = s.heap.get? t → s.heap.IsTuple t its → g.IsTuple t its := fun e ⟨o, ho, r⟩ => ⟨o, e.trans ho, r⟩
 rw [zip2, CN6]
 have fin : ∀ (g : Heap) (e : Addr) (o : Obj) (vs : Array Value), g.get? z = some o → o.data = .fields vs → 0 < vs.size → (∀ c o, c ≠ z → c ≠ TO → c ≠ i1 → c ≠ i2 → s.heap.get? c = some o → g.get? c = some o) → (∃ o, g.get? e = some o ∧ o.cls = .type "StopIteration") → o.cls = .type "zip" →
   wpAny (model prog w) A (setField (.ref z) 0 .none) (fun x s'' => E (.ref e) s'') E { s with heap := g } := by
  rintro g e o vs ho hd hv kk ⟨oe, he, hc⟩ hoc
  have hne : e ≠ z := by rintro rfl; rw [he] at ho; cases ho; rw [hc] at hoc; injection hoc with hh; exact absurd hh (by decide)
  refine CK2 ho hd hv (q _ e (fun c o' a1 a2 a3 a4 r => (CG7 _ _ (Ne.symm a1)).trans (kk c o' a1 a2 a3 a4 r)) ⟨oe, (CG7 _ _ (Ne.symm hne)).trans he, hc⟩)
 by_cases hxx : xs[k]? = none
 ·refine CD4 (CD4 (CD4 (wpAny_onRaise ?_)))
  refine CD4 (m := CJ6 (.ref i1)) (DE hA (kI (o1 _ ap.i1z) h1) (kT (o1 _ ap.l1z) t1) hxx fun g2 e ex hs => ?_)
  exact fin g2 e _ _ (ex z _ (Ne.symm ap.i1z) hz1) rfl (by simp) (fun c o a1 a2 a3 a4 r => ex c o a3 ((o1 c a1).trans r)) hs rfl
 ·have hyy : ys[k]? = none := hx.resolve_left hxx
  obtain ⟨x, hx⟩ := Option.ne_none_iff_exists'.mp hxx
  refine CD4 (CD4 (CD4 (wpAny_onRaise ?_)))
  refine CD4 (m := CJ6 (.ref i1)) (Q9 (kI (o1 _ ap.i1z) h1) (kT (o1 _ ap.l1z) t1) hx fun g2 hi2 sb2 => ?_)
  refine CD6 ?_
  have hO2 : CQ2 g2 TO a b := ((sb2.2 _ ap.TOi1).trans (o1 _ ap.TOz)).trans hO
  refine CD4 (CM6 hO2 rfl ?_)
  refine CD4 (wpAny_updateSeq_pair hO2 fun g3 hO3 sb3 => ?_)
  refine CD4 (wpAny_letGo ?_)
  refine CD6 ?_
  show wpAny _ _ (forIn [(Value.ref i2, 1)] _ _) _ _ _
  rw [CN6]
  have e3 : ∀ c, c ≠ z → c ≠ i1 → c ≠ TO → g3.get? c = s.heap.get? c := fun c h1 h2 h3 => (sb3.2 c h3).trans ((sb2.2 c h2).trans (o1 c h1))
  refine CD4 (CD4 (wpAny_onRaise ?_))
  refine CD4 (m := CJ6 (.ref i2)) (DE hA (kI (e3 _ ap.i2z (Ne.symm ap.i12) (Ne.symm ap.TOi2)) h2) (kT (e3 _ ap.l2z ap.l2i1 ap.l2TO) t2) hyy fun g4 e ex hs => ?_)
  have hz3 := (sb3.2 z (Ne.symm ap.TOz)).trans ((sb2.2 z (Ne.symm ap.i1z)).trans hz1)
  exact fin g4 e _ _ (ex z _ (Ne.symm ap.i2z) hz3) rfl (by simp) (fun c o a1 a2 a3 a4 r => ex c o a4 ((e3 c a1 a3 a2).trans r)) hs rfl
theorem JH {z TI TO : Addr} {xs : Array Value} {x y a b : Value} {Q : Option Value → CD9 → Prop}
  (ap : ZipApart z TI TO i1 i2 l1 l2) (hz : IsZip s.heap z TI TO .none) (hI : CQ2 s.heap TI (.ref i1) (.ref i2)) (hO : CQ2 s.heap TO a b)
  (h1 : s.heap.IsTupleIter i1 l1 k) (h2 : s.heap.IsTupleIter i2 l2 k) (t1 : s.heap.IsTuple l1 xs) (t2 : s.heap.IsTuple l2 ys) (hx : xs[k]? = some x) (hy : ys[k]? = some y)
  (q : ∀ h', IsZip h' z TI TO (CU0 ↑s.heap.objs.size) → CQ2 h' TO x y → h'.IsTupleIter i1 l1 (k + 1) → h'.IsTupleIter i2 l2 (k + 1) → CQ2 h' s.heap.objs.size x y → h'.objs.size = s.heap.objs.size + 1 →
   (∀ c o, c ≠ z → c ≠ TO → c ≠ i1 → c ≠ i2 → s.heap.get? c = some o → h'.get? c = some o) → Q (some (.ref s.heap.objs.size)) { s with heap := h' }) :
  wpAny (model prog w) A (CW8 (.ref z)) Q E s := by
 refine CD4 (CU4 (CI8 ⟨_, hz, rfl⟩ F.slot_zip_next ?_))
 refine CP4 F.slot_zip_next ⟨_, hz, rfl⟩ F.entry_zip_next (F.args_zip_next_1 _) (S := fun A R s' => s' = s ∧ ∀ h', IsZip h' z TI TO (CU0 ↑s.heap.objs.size) → CQ2 h' TO x y → h'.IsTupleIter i1 l1 (k + 1) → h'.IsTupleIter i2 l2 (k + 1) → CQ2 h' s.heap.objs.size x y → h'.objs.size = s.heap.objs.size + 1 →
   (∀ c o, c ≠ z → c ≠ TO → c ≠ i1 → c ≠ i2 → s.heap.get? c = some o → h'.get? c = some o) → R (.ok (.ret (.ref s.heap.objs.size))) { s with heap := h' }) ?_ ⟨rfl, fun h' a b c d e f g => CD6 (q h' a b c d e f g)⟩
 rintro prog w A R s' ⟨rfl, k⟩
 refine CJ8 (AD1 ap hz hI hO h1 h2 t1 t2 hx hy (Q := fun v s => R (.ok (.ret v)) s) k) (fun fin s1 h => ?_) fun _ _ h => h
 obtain ⟨v, rfl, h⟩ := h
 exact h
theorem LJ {z TI TO : Addr} {xs : Array Value} {a b : Value} {Q : Option Value → CD9 → Prop}
  (hA : A.handled = none) (ap : ZipApart z TI TO i1 i2 l1 l2) (hz : IsZip s.heap z TI TO .none) (hI : CQ2 s.heap TI (.ref i1) (.ref i2)) (hO : CQ2 s.heap TO a b)
  (h1 : s.heap.IsTupleIter i1 l1 k) (h2 : s.heap.IsTupleIter i2 l2 k) (t1 : s.heap.IsTuple l1 xs) (t2 : s.heap.IsTuple l2 ys) (hx : xs[k]? = none ∨ ys[k]? = none)
  (q : ∀ h', (∀ c o, c ≠ z → c ≠ TO → c ≠ i1 → c ≠ i2 → s.heap.get? c = some o → h'.get? c = some o) → Q none { s with heap := h' }) :
  wpAny (model prog w) A (CW8 (.ref z)) Q E s := by
 refine CD4 (CU4 (CI8 ⟨_, hz, rfl⟩ F.slot_zip_next ?_))
 refine CP4 F.slot_zip_next ⟨_, hz, rfl⟩ F.entry_zip_next (F.args_zip_next_1 _) (S := fun A R s' => A.handled = none ∧ s' = s ∧ ∀ h' e, (∀ c o, c ≠ z → c ≠ TO → c ≠ i1 → c ≠ i2 → s.heap.get? c = some o → h'.get? c = some o) → (∃ o, h'.get? e = some o ∧ o.cls = .type "StopIteration") → R (.error (.ref e)) { s with heap := h' }) ?_ ⟨hA, rfl, fun h' e kk hs => ?_⟩
 ·rintro prog w A R s' ⟨hA, rfl, k⟩
  exact AQ4 (A := A.in1) hA ap hz hI hO h1 h2 t1 t2 hx k
 ·obtain ⟨o, ho, hc⟩ := hs
  refine CD4 (CR7 (T := "StopIteration") (b := true) ⟨_, ho, hc⟩ isSubtype_stop ?_)
  rw [if_pos rfl]
  exact CD6 (q h' kk)
theorem UT (l1 l2 : Addr) (xs ys : Array Value) : Meets (CN1.«zip.__new__» { pos := [.type "zip", .ref l1, .ref l2] }) fun A R s =>
  s.heap.IsTuple l1 xs ∧ s.heap.IsTuple l2 ys ∧ ∀ h', IsZip h' (s.heap.objs.size + 4) (s.heap.objs.size + 2) (s.heap.objs.size + 3) .none → CQ2 h' (s.heap.objs.size + 2) (.ref s.heap.objs.size) (.ref (s.heap.objs.size + 1)) → CQ2 h' (s.heap.objs.size + 3) .none .none →
   h'.IsTupleIter s.heap.objs.size l1 0 → h'.IsTupleIter (s.heap.objs.size + 1) l2 0 → (∀ c o, s.heap.get? c = some o → h'.get? c = some o) → R (.ok (.ret (.ref (s.heap.objs.size + 4)))) { s with heap := h' } := by
 rintro prog w A R s ⟨t1, t2, k⟩
 refine CD4 ?_
 refine CD4 (CD6 ?_)
 refine CD4 ?_
 rw [sub_zip]
 refine CD6 (CD6 ?_)
 dsimp only
 rw [if_neg (by simp)]
 refine CD4 ?_
 unfold Builtin.SmallTypes.iterAll
 dsimp only
 rw [CN6]
 refine CD4 (CD4 (CD4 (CH3 (CW7 t1 ?_))))
 refine CD6 ?_
 show wpAny _ _ (forIn [Value.ref l2] _ _) _ _ _
 rw [CN6]
 have t2' : (s.heap.push { cls := .type "tuple_iterator", data := .fields #[.ref l1, .int 0 0] }).IsTuple l2 ys := by
  obtain ⟨o, ho, r⟩ := t2
  exact ⟨o, CD5 _ ho, r⟩
 refine CD4 (CD4 (CH3 (CW7 t2' ?_)))
 refine CD6 ?_
 show wpAny _ _ (forIn [] _ _) _ _ _
 rw [List.forIn_nil]
 refine CD6 (CD6 ?_)
 refine CD4 (CG4 (data := .seq #[.ref s.heap.objs.size, .ref (s.heap.push { cls := .type "tuple_iterator", data := .fields #[.ref l1, .int 0 0] }).objs.size]) ?_)
 refine CD4 (CG4 (data := .seq #[.none, .none]) ?_)
 refine CD4 (CG4 (data := .fields #[.none, .bool false, .bool false, .ref ((s.heap.push { cls := .type "tuple_iterator", data := .fields #[.ref l1, .int 0 0] }).push { cls := .type "tuple_iterator", data := .fields #[.ref l2, .int 0 0] }).objs.size, .ref (((s.heap.push { cls := .type "tuple_iterator", data := .fields #[.ref l1, .int 0 0] }).push { cls := .type "tuple_iterator", data := .fields #[.ref l2, .int 0 0] }).push { cls := .type "tuple", data := .seq #[.ref s.heap.objs.size, .ref (s.heap.push { cls := .type "tuple_iterator", data := .fields #[.ref l1, .int 0 0] }).objs.size] }).objs.size]) ?_)
 refine CD6 ?_
 have a1 : (s.heap.push { cls := .type "tuple_iterator", data := .fields #[.ref l1, .int 0 0] }).objs.size = s.heap.objs.size + 1 := by simp [Heap.push]
 have b1 : (s.heap.push { cls := .type "tuple_iterator", data := .fields #[.ref l1, .int 0 0] }).get? s.heap.objs.size = _ := CE4 _ rfl
 have c1 : ∀ c o, s.heap.get? c = some o → (s.heap.push { cls := .type "tuple_iterator", data := .fields #[.ref l1, .int 0 0] }).get? c = some o := fun c o e => CD5 _ e
 show R _ { s with heap := ((((s.heap.push { cls := .type "tuple_iterator", data := .fields #[.ref l1, .int 0 0] }).push { cls := .type "tuple_iterator", data := .fields #[.ref l2, .int 0 0] }).push { cls := .type "tuple", data := .seq #[.ref s.heap.objs.size, .ref (s.heap.push { cls := .type "tuple_iterator", data := .fields #[.ref l1, .int 0 0] }).objs.size] }).push { cls := .type "tuple", data := .seq #[.none, .none] }).push { cls := .type "zip", data := .fields #[.none, .bool false, .bool false, .ref ((s.heap.push { cls := .type "tuple_iterator", data := .fields #[.ref l1, .int 0 0] }).push { cls := .type "tuple_iterator", data := .fields #[.ref l2, .int 0 0] }).objs.size, .ref (((s.heap.push { cls := .type "tuple_iterator", data := .fields #[.ref l1, .int 0 0] }).push { cls := .type "tuple_iterator", data := .fields #[.ref l2, .int 0 0] }).push { cls := .type "tuple", data := .seq #[.ref s.heap.objs.size, .ref (s.heap.push { cls := .type "tuple_iterator", data := .fields #[.ref l1, .int 0 0] }).objs.size] }).objs.size] } }
 show R (.ok (.ret (.ref ((((s.heap.push { cls := .type "tuple_iterator", data := .fields #[.ref l1, .int 0 0] }).push { cls := .type "tuple_iterator", data := .fields #[.ref l2, .int 0 0] }).push { cls := .type "tuple", data := .seq #[.ref s.heap.objs.size, .ref (s.heap.push { cls := .type "tuple_iterator", data := .fields #[.ref l1, .int 0 0] }).objs.size] }).push { cls := .type "tuple", data := .seq #[.none, .none] }).objs.size))) _
 generalize s.heap.push { cls := .type "tuple_iterator", data := .fields #[.ref l1, .int 0 0] } = g1 at *
 have a2 : (g1.push { cls := .type "tuple_iterator", data := .fields #[.ref l2, .int 0 0] }).objs.size = s.heap.objs.size + 2 := by simp [Heap.push]; exact a1
 have b2 : (g1.push { cls := .type "tuple_iterator", data := .fields #[.ref l2, .int 0 0] }).get? g1.objs.size = _ := CE4 _ rfl
 have c2 : ∀ c o, g1.get? c = some o → (g1.push { cls := .type "tuple_iterator", data := .fields #[.ref l2, .int 0 0] }).get? c = some o := fun c o e => CD5 _ e
 generalize g1.push { cls := .type "tuple_iterator", data := .fields #[.ref l2, .int 0 0] } = g2 at *
 rw [a1] at b2 ⊢
 have a3 : (g2.push { cls := .type "tuple", data := .seq #[.ref s.heap.objs.size, .ref (s.heap.objs.size + 1)] }).objs.size = s.heap.objs.size + 3 := by simp [Heap.push]; exact a2
 have b3 : (g2.push { cls := .type "tuple", data := .seq #[.ref s.heap.objs.size, .ref (s.heap.objs.size + 1)] }).get? g2.objs.size = _ := CE4 _ rfl
 have c3 : ∀ c o, g2.get? c = some o → (g2.push { cls := .type "tuple", data := .seq #[.ref s.heap.objs.size, .ref (s.heap.objs.size + 1)] }).get? c = some o := fun c o e => CD5 _ e
 generalize g2.push { cls := .type "tuple", data := .seq #[.ref s.heap.objs.size, .ref (s.heap.objs.size + 1)] } = g3 at *
 rw [a2] at b3 ⊢
 have a4 : (g3.push { cls := .type "tuple", data := .seq #[.none, .none] }).objs.size = s.heap.objs.size + 4 := by simp [Heap.push]; exact a3
 have b4 : (g3.push { cls := .type "tuple", data := .seq #[.none, .none] }).get? g3.objs.size = _ := CE4 _ rfl
 have c4 : ∀ c o, g3.get? c = some o → (g3.push { cls := .type "tuple", data := .seq #[.none, .none] }).get? c = some o := fun c o e => CD5 _ e
 generalize g3.push { cls := .type "tuple", data := .seq #[.none, .none] } = g4 at *
 rw [a3] at b4 ⊢
 rw [a4]
 refine k _ (by rw [← a4]; exact CE4 _ rfl) (CD5 _ (c4 _ _ b3)) (CD5 _ b4) ⟨_, CD5 _ (c4 _ _ (c3 _ _ (c2 _ _ b1))), rfl, rfl⟩ ⟨_, CD5 _ (c4 _ _ (c3 _ _ b2)), rfl, rfl⟩ fun c o e => CD5 _ (c4 _ _ (c3 _ _ (c2 _ _ (c1 _ _ e))))
theorem YY {xs : Array Value} (t1 : s.heap.IsTuple l1 xs) (t2 : s.heap.IsTuple l2 ys)
  (k : ∀ h', IsZip h' (s.heap.objs.size + 4) (s.heap.objs.size + 2) (s.heap.objs.size + 3) .none → CQ2 h' (s.heap.objs.size + 2) (.ref s.heap.objs.size) (.ref (s.heap.objs.size + 1)) → CQ2 h' (s.heap.objs.size + 3) .none .none →
   h'.IsTupleIter s.heap.objs.size l1 0 → h'.IsTupleIter (s.heap.objs.size + 1) l2 0 → (∀ c o, s.heap.get? c = some o → h'.get? c = some o) → Q (.ref (s.heap.objs.size + 4)) { s with heap := h' }) :
  wpAny (model prog w) A (call (.type "zip") [.ref l1, .ref l2]) Q E s :=
 callType_new F.called_zip (by decide) (F.typeCall_zip_2 _ _) (F.newCall_zip_2 _ _) (fun obj => F.args_object_init_3 _ _ _) F.entry_zip_new (UT l1 l2 xs ys) ⟨t1, t2, fun h' a b c d e f => ⟨⟨_, a, rfl⟩, k h' a b c d e f⟩⟩
def IzT (K : CE0) (a b : Addr) : It :=
 ⟨fun i H => ∃ xs ys x y, SqT K H a xs ∧ SqT K H b ys ∧ xs[i]? = some x ∧ ys[i]? = some y, fun i H x H' => ∃ T v u, H T = none ∧ (∀ xs, SqT K H a xs → xs[i]? = some v) ∧ (∀ ys, SqT K H b ys → ys[i]? = some u) ∧ x = .ref T ∧ H' = upd H T (.tup [v, u]), fun i H => ∃ xs ys, SqT K H a xs ∧ SqT K H b ys ∧ min xs.length ys.length = i⟩
theorem Inv.pair2 {X : Cx} {σ : L2.St} {v' : V} {u' : Value} (I : Inv X pins σ H s) (fc : ∀ b ∈ ch, KY X pins H b)
  (ru : RelV v u) (ru' : RelV v' u') (hnew : h'.get? s.heap.objs.size = some { cls := .type "tuple", data := .seq #[u, u'] })
  (hk : ∀ b o, b ∉ ch → s.heap.get? b = some o → h'.get? b = some o) : Inv X pins σ (upd H s.heap.objs.size (.tup [v, v'])) { s with heap := h' } := by
 have hf := I.fresh
 have nT : ∀ b u, H b = some u → b ≠ s.heap.objs.size := fun b u q => by rintro rfl; rw [hf] at q; cases q
 have ne : ∀ b u, H b = some u → b ∉ ch := fun b u q hb => by rw [(fc b hb).1] at q; cases q
 refine I.call' (s' := { s with heap := h' }) (ch := ch) rfl ⟨fun b o q n _ hx => hk b o hx q, fun b o q n _ hx => ⟨o.slots, hk b o hx q⟩, fun b o q n hx => ?_, fun b o q hx => ⟨o, hk b o hx q⟩, fun b xs q => ?_, fun b o u q => ?_, fun b ps q => ?_⟩ (fun b o q => ?_) I.bare (fun b hb => ⟨(fc b hb).2.2.2.1, (fc b hb).2.1, (fc b hb).2.2.2.2.1, (fc b hb).2.2.2.2.2⟩)
 ·rw [D1 (CF6 (CE2 q))]; exact n
 ·rw [D1 (nT b _ q)]; exact q
 ·rw [D1 (nT b _ q)]; exact q
 ·exact ⟨#[], by rw [D1 (nT b _ q), q]; simp⟩
 ·by_cases hb : b = s.heap.objs.size
  ·subst hb
   rw [D4] at q
   cases q
   exact ⟨by rw [CF8]; show 2 ≤ _; lia, [u, u'], .cons ru (.cons ru' .nil), ⟨_, hnew, rfl, _, rfl⟩⟩
  ·rw [D1 hb] at q
   refine (I.hok b o q).stay (fun c w hc r => ?_) (fun c r => by rw [D1 (nT c _ r)]; exact r) fun c xs r => by rw [D1 (nT c _ r)]; exact r
   rcases hc with rfl | hc
   ·exact hk c w (ne c o q) r
   ·exact hk c w (ne c _ hc) r
theorem Inv.lost {X : Cx} {σ : L2.St} (I : Inv X pins σ H s) (fc : ∀ b ∈ ch, KY X pins H b)
  (hk : ∀ b o, b ∉ ch → s.heap.get? b = some o → h'.get? b = some o) : Inv X pins σ H { s with heap := h' } := by
 have ne : ∀ b u, H b = some u → b ∉ ch := fun b u q hb => by rw [(fc b hb).1] at q; cases q
 refine I.call' (s' := { s with heap := h' }) (ch := ch) rfl ⟨fun b o q n _ hx => hk b o hx q, fun b o q n _ hx => ⟨o.slots, hk b o hx q⟩, fun b o q n hx => n, fun b o q hx => ⟨o, hk b o hx q⟩, fun b xs q => q, fun b o u q => q, fun b ps q => ⟨#[], by rw [q]; simp⟩⟩ (fun b o q => ?_) I.bare (fun b hb => ⟨(fc b hb).2.2.2.1, (fc b hb).2.1, (fc b hb).2.2.2.2.1, (fc b hb).2.2.2.2.2⟩)
 refine (I.hok b o q).stay (fun c w hc r => ?_) (fun c r => r) fun c xs r => r
 rcases hc with rfl | hc
 ·exact hk c w (ne c o q) r
 ·exact hk c w (ne c _ hc) r
theorem AC7 {elts : List Expr} (a b z TI TO i1 i2 : Addr) (ap : ZipApart z TI TO i1 i2 a b) :
  Turn P w K (.Tuple elts k pos) (IzT K a b) [z, TO, i1, i2, TI] z (fun i h => (∃ x y, CQ2 h TO x y) ∧ IsZip h z TI TO .none ∧ CQ2 h TI (.ref i1) (.ref i2) ∧ h.IsTupleIter i1 a i ∧ h.IsTupleIter i2 b i) where
 mem := by simp
 obj := fun i h st c hc => by
  obtain ⟨⟨x, y, hO⟩, hz, hI, ⟨o1, e1, r1, d1⟩, ⟨o2, e2, r2, d2⟩⟩ := st
  simp only [CF9, CG5, or_false] at hc
  rcases hc with rfl | rfl | rfl | rfl | rfl
  ·exact ⟨_, hz, fun v z => by cases z⟩
  ·exact ⟨_, hO, fun v z => by cases z⟩
  ·exact ⟨_, e1, fun v z => by rw [d1] at z; cases z⟩
  ·exact ⟨_, e2, fun v z => by rw [d2] at z; cases z⟩
  ·exact ⟨_, hI, fun v z => by cases z⟩
 keep := fun i h h' st kk => by
  obtain ⟨⟨x, y, hO⟩, hz, hI, ⟨o1, e1, r1⟩, ⟨o2, e2, r2⟩⟩ := st
  exact ⟨⟨x, y, kk TO (by simp) _ hO⟩, kk z (by simp) _ hz, kk TI (by simp) _ hI, ⟨o1, kk i1 (by simp) _ e1, r1⟩, ⟨o2, kk i2 (by simp) _ e2, r2⟩⟩
 item := by
  intro X hP hw hK hc i pins s σ H E I hf st hg
  subst hP hw hK
  obtain ⟨xs, ys, x, y, hq, hq', hx, hy⟩ := hg
  obtain ⟨its, rv, p, hz'⟩ := I.tuple hq
  obtain ⟨its', rv', p', _⟩ := I.tuple hq'
  obtain ⟨u, hu, ru⟩ := rv.get hx
  obtain ⟨u', hu', ru'⟩ := rv'.get hy
  obtain ⟨⟨x0, y0, hO⟩, hz, hI, h1, h2⟩ := st
  have lz := CE2 hz
  refine JH ap hz hI hO h1 h2 p p' (x := u) (y := u') (by simpa using hu) (by simpa using hu') fun h' z1 O1 j1 j2 T1 s1 k1 => ?_
  refine ⟨_, rfl, wpAny_letOwnedTupleGo_zip z1 fun h'' z2 sb => ?_⟩
  have hk2 : ∀ c o, c ∉ [z, TO, i1, i2] → s.heap.get? c = some o → h''.get? c = some o := fun c o hc q => by
   simp only [CF9, CG5, or_false, not_or] at hc
   exact (sb.2 c hc.1).trans (k1 c o hc.1 hc.2.1 hc.2.2.1 hc.2.2.2 q)
  have I2 := Inv.pair2 (s := s) (h' := h'') (ch := [z, TO, i1, i2]) I (fun c hc => hf c (by simp only [CF9, CG5, or_false] at hc ⊢; rcases hc with h | h | h | h <;> simp [h])) ru ru' ((sb.2 _ (CR6 lz)).trans T1) hk2
  refine ⟨.ref s.heap.objs.size, _, I2, rfl, ⟨s.heap.objs.size, x, y, I.fresh, fun zs hzs => by rw [I.tuple_inj hzs hq]; exact hx, fun zs hzs => by rw [I.tuple_inj hzs hq']; exact hy, rfl, rfl⟩, ⟨⟨u, u', (sb.2 _ ap.TOz).trans O1⟩, z2, hk2 _ _ (by simp [ap.TIz, ap.TITO, ap.TIi1, ap.TIi2]) hI, ?_, ?_⟩, fun c hc => ?_⟩
  ·obtain ⟨o, ho, r⟩ := j1
   exact ⟨o, (sb.2 _ ap.i1z).trans ho, r⟩
  ·obtain ⟨o, ho, r⟩ := j2
   exact ⟨o, (sb.2 _ ap.i2z).trans ho, r⟩
  ·have hH := (hf c hc).1
   have hl : c < s.heap.objs.size := by
    simp only [CF9, CG5, or_false] at hc
    obtain ⟨o1, e1, _⟩ := h1
    obtain ⟨o2, e2, _⟩ := h2
    rcases hc with rfl | rfl | rfl | rfl | rfl
    ·exact lz
    ·exact CE2 hO
    ·exact CE2 e1
    ·exact CE2 e2
    ·exact CE2 hI
   rw [D1 (CF6 hl)]; exact hH
 done := by
  intro X hP hw hK hc i pins s σ H E I hf st hg
  subst hP hw hK
  obtain ⟨xs, ys, hq, hq', hm⟩ := hg
  obtain ⟨its, rv, p, _⟩ := I.tuple hq
  obtain ⟨its', rv', p', _⟩ := I.tuple hq'
  obtain ⟨⟨x0, y0, hO⟩, hz, hI, h1, h2⟩ := st
  have l1 := rv.length
  have l2 := rv'.length
  refine LJ (by exact I.ok.hd hc) ap hz hI hO h1 h2 p p' ?_ fun h' k1 => ⟨rfl, ?_⟩
  ·simp only [List.getElem?_toArray, List.getElem?_eq_none_iff]; lia
  ·exact Inv.lost (ch := [z, TO, i1, i2]) I (fun c hc => hf c (by simp only [CF9, CG5, or_false] at hc ⊢; rcases hc with h | h | h | h <;> simp [h])) fun c o hc q => by
    simp only [CF9, CG5, or_false, not_or] at hc
    exact k1 c o hc.1 hc.2.1 hc.2.2.1 hc.2.2.2 q
 self := fun _ _ _ _ _ st h => wpAny_pyIter_zip st.2.1 h
theorem BW6 {d e : D} (r : Reps K M H [d, e] vs) : ∃ v v', vs = [v, v'] ∧ Rep K M H d v ∧ Rep K M H e v' := by
 cases r with | cons a r => cases r with | cons b r => cases r; exact ⟨_, _, rfl, a, b⟩
def V9 : List D → List D → List D
 | x :: xs, y :: ys => .tup [x, y] :: V9 xs ys
 | _, _ => []
theorem UB : ∀ (xs ys : List D) (i : Nat) (d : D), (V9 xs ys)[i]? = some d → ∃ x y, xs[i]? = some x ∧ ys[i]? = some y ∧ d = .tup [x, y]
 | [], _, i, d, h => by simp [V9] at h
 | _ :: _, [], i, d, h => by simp [V9] at h
 | x :: xs, y :: ys, 0, d, h => by simp [V9] at h; exact ⟨x, y, rfl, rfl, h.symm⟩
 | x :: xs, y :: ys, i + 1, d, h => by
  have h' : (V9 xs ys)[i]? = some d := by simpa [V9] using h
  obtain ⟨a, b, h1, h2, h3⟩ := UB xs ys i d h'
  exact ⟨a, b, by simpa using h1, by simpa using h2, h3⟩
theorem KW : ∀ (xs ys : List D), (V9 xs ys).length = min xs.length ys.length
 | [], ys => by simp [V9]
 | x :: xs, [] => by simp [V9]
 | x :: xs, y :: ys => by
  show (V9 xs ys).length + 1 = min (xs.length + 1) (ys.length + 1)
  rw [KW xs ys]; lia
def XJ (ta : TA3) : TI3 := fun σ M R => ta σ M fun ds M1 => ∃ xs ys, ds = [.tup xs, .tup ys] ∧ R (V9 xs ys) M1
theorem YM {ta : TA3} (h : ta σ M fun ds M1 => ∃ xs ys, ds = [.tup xs, .tup ys] ∧ R (V9 xs ys) M1) : XJ ta σ M R := h
theorem YD {X : Cx} {a b : Expr} {ta : TA3} {elts : List Expr} {tpos p : Pos} (hg : Gl X "zip") (hm : X.mg "zip" = none) (ha : PA3 X [a, b] ta) (he : CH7 [a, b] X.env = (false, eval a X.env) :: CH7 [b] X.env := by rfl) (hpl : (CV5 pos (CH7 [b] X.env)).any (·.1) = false := by rfl) :
  EU X (.Tuple elts k tpos) (.Call (.Name "zip" p) [a, b] [] pos) (XJ ta) := by
 rintro pins s σv H R2 I ⟨σ, M, R, hS, hM, h, kk⟩
 refine CN5 (AY I hg hm boot_zip ?_ (by decide) (by decide))
 refine CO2 (thn (ha pos pins s σv H σ M _ I hS hM h) fun us s1 ⟨ds, vs, M1, H1, I1, st1, m1, rv1, p1, q1⟩ => ?_) he hpl
 obtain ⟨xs, ys, rfl, q⟩ := q1
 obtain ⟨xv, yv, rfl, px, py⟩ := BW6 p1
 obtain ⟨u, u', rfl, ru, ru'⟩ := vals2 rv1
 cases px with
 | @tup aT _ vx h1 r1 =>
 cases py with
 | @tup bT _ vy h2 r2 =>
 cases ru; cases ru'
 obtain ⟨its, ri, pl, hz⟩ := I1.tuple (SqT.of3 h1)
 obtain ⟨its', ri', pl', hz'⟩ := I1.tuple (SqT.of3 h2)
 have la : aT < s1.heap.objs.size := by obtain ⟨o, ho, _⟩ := id pl; exact CE2 ho
 have lb : bT < s1.heap.objs.size := by obtain ⟨o, ho, _⟩ := id pl'; exact CE2 ho
 refine YY (show s1.heap.IsTuple aT its.toArray from pl) (show s1.heap.IsTuple bT its'.toArray from pl') fun h' z1 I3 O3 j1 j2 kp => ?_
 refine wpAny_pyIter_zip z1 ?_
 have ap : ZipApart (s1.heap.objs.size + 4) (s1.heap.objs.size + 2) (s1.heap.objs.size + 3) s1.heap.objs.size (s1.heap.objs.size + 1) aT bT := by
  constructor <;> lia
 refine ⟨s1.heap.objs.size + 4, [s1.heap.objs.size + 4, s1.heap.objs.size + 3, s1.heap.objs.size, s1.heap.objs.size + 1, s1.heap.objs.size + 2], _, IzT X.K aT bT, H1, rfl, I1.kept (t' := s1.toks) kp, AC7 aT bT _ _ _ _ _ ap, ⟨⟨_, _, O3⟩, z1, I3, j1, j2⟩, fun c hc => ?_, ?_⟩
 ·have hb' : s1.heap.objs.size ≤ c := by
   simp only [CF9, CG5, or_false] at hc
   rcases hc with rfl | rfl | rfl | rfl | rfl <;> lia
  exact I1.fpOk hb' (I1.hok.fresh hb')
 ·refine kk (V9 xs ys) _ M1 H1 st1 m1 (fun M' H' st m' => ?_) q
  have sq := SqT.of3 (h1.imp (Fix.mono st) id)
  have sq' := SqT.of3 (h2.imp (Fix.mono st) id)
  have rr := r1.mono st
  have rr' := r2.mono st
  refine ⟨fun i hi => ?_, fun i d x H'' hd hyy => ?_, ?_⟩
  ·rw [KW] at hi
   have i1 : i < xs.length := by lia
   have i2 : i < ys.length := by lia
   obtain ⟨v, hv, _⟩ := rr.get (i := i) (d := xs[i]) (by simp [i1])
   obtain ⟨v', hv', _⟩ := rr'.get (i := i) (d := ys[i]) (by simp [i2])
   exact ⟨_, _, v, v', sq, sq', hv, hv'⟩
  ·obtain ⟨T, v, v', hT, hv, hv', rfl, rfl⟩ := hyy
   obtain ⟨x, y, e1, e2, rfl⟩ := UB xs ys i d hd
   obtain ⟨w1, hw1, rw1⟩ := rr.get e1
   obtain ⟨w2, hw2, rw2⟩ := rr'.get e2
   rw [hv _ sq] at hw1
   rw [hv' _ sq'] at hw2
   cases hw1; cases hw2
   exact ⟨Step.lay hT, m'.lay hT, .tup (.inl ⟨.inl D4, m'.free hT⟩) (.cons (rw1.mono (Step.lay hT)) (.cons (rw2.mono (Step.lay hT)) .nil))⟩
  ·rw [KW]
   exact ⟨_, _, sq, sq', by rw [rr.length, rr'.length]⟩
def isStar : Expr → Bool
 | .Starred .. => true
 | _ => false
theorem AC3 (h : isStar e = false) (es : List Expr) (env : Env) : CH7 (e :: es) env = (false, eval e env) :: CH7 es env := by
 cases e <;> first | rfl | cases h
theorem AK7 {X : Cx} {t : TA3} (ha : PE3 X e te) (hr : PA3 X es t) (hs : isStar e = false := by rfl) : PA3 X (e :: es) (A0 te t) := AK6 ha hr (AC3 hs es _)
theorem BV2 {X : Cx} {t : TA3} (hr : PA3 X es t) : PA3 X (.Constant (.str x) j pos :: es) (A0 (tC3 (.str x)) t) := AK7 YB hr
theorem BV1 {X : Cx} {i : Int} {t : TA3} (hr : PA3 X es t) : PA3 X (.Constant (.int i) j pos :: es) (A0 (tC3 (.int i)) t) := AK7 YA hr
section
variable {X : Cx} {o i e : Expr} {to ti te : TE3} {pos p : Pos}
theorem AM9 (ho : PE3 X o to) (hi : PE3 X i ti) (he : PE3 X e te)
  (ha : ∀ v, assign (.Subscript o i p) X.env v = (do
   let ov ← holding [v] (eval o X.env)
   let iv ← holding [v, ov] (eval i X.env)
   standAt p
   holding [v, ov, iv] (setItem ov iv v)
   release [v, ov, iv] []) := by intro _; rfl) (hs : swapsWithSole [.Subscript o i p] e pos.line X.env = pure false := by rfl) (hw : swappedStores [.Subscript o i p] e X.env = pure none := by rfl)
  (h1 : (CN3 [.Subscript o i p] X.env).map (·.2) = [assign (.Subscript o i p) X.env] := by rfl) : PS3 X (.Assign [.Subscript o i p] e pos) (AP5 to ti te) :=
 PS3.of (AN1 he.dn (BI3 ho.dn hi.dn set_list ha) hs hw h1) fun pins s σv H σ M T I hS hM h => by
  refine ⟨σ, M, _, hS, hM, h, fun d v M1 H1 st1 m1 r1 q1 => ?_⟩
  refine ⟨σ, M1, _, hS.mono st1, m1, q1, fun x xv M2 H2 st2 m2 r2 q2 => ?_⟩
  refine ⟨σ, M2, _, (hS.mono st1).mono st2, m2, q2, fun y yv M3 H3 st3 m3 r3 q3 => ?_⟩
  obtain ⟨a, ds, j, k, rfl, rfl, hm, hj, q⟩ := q3
  cases r3
  have r2' := r2.mono st3
  cases r2'
  obtain ⟨ho, e1, r⟩ := m3 _ _ hm
  cases ho <;> first | exact (r : False).elim | skip
  rename_i vs
  have r' : Reps X.K M3 H3 ds vs := r
  refine ⟨a, vs, k, j, rfl, rfl, e1, by rw [← r'.length]; exact hj, σ, _, ((st1.trans st2).trans st3).trans (Step.put (.inr (by rw [hm]; simp))), m3.put (.inr (by rw [hm]; simp)) (o := .lst (ds.set j d)) (Reps.set r' ((r1.mono st2).mono st3) j), ?_, q⟩
  exact (((hS.mono st1).mono st2).mono st3).mono (Step.put (.inr (by rw [hm]; simp)))
end
theorem AN0 {iy : Nat} {X : Cx}
  (hc : X.calm = true) (hi : EU X tg iter ti) (hkind : scope.kind = .function) (hcell : ∀ y ∈ scope.names, y.2 ≠ .cell)
  (hnames : ∀ y ∈ scope.names, y.2 = .local → scope.names.lookup y.1 = some .local)
  (hfree : ∀ y ∈ scope.names, y.2 = .free → X.env.kindOf y.1 = some .cell ∨ X.env.kindOf y.1 = some .free)
  (hcf : ∀ y ∈ caps, scope.names.lookup y = some .free) (hcaps : slots.map (fun j => X.N[j]?) = caps.map some)
  (hgk : ∀ d M Q (cs : Lo), g d (CD7 tns.length none ++ cs) M Q → g d (CD7 tns.length none ++ cs) M (fun σ' M' => σ'.drop tns.length = cs ∧ Q σ' M'))
  (hg : ∀ cl s₀ H₀ ex, PG3 (B0 X scope cl s₀ H₀ ex (tns ++ caps)) tg g)
  (ht : ∀ cl s₀ H₀ ex, W6 (B0 X scope cl s₀ H₀ ex (tns ++ caps)) ifs tt) (he : ∀ cl s₀ H₀ ex, PE3 (B0 X scope cl s₀ H₀ ex (tns ++ caps)) elt te)
  (hN : X.N.Nodup) (hiy : X.N[iy]? = some y) (hy : Loc X.env.scope y) (hsw : CT9 (.ListComp elt [⟨tg, iter, ifs, 0⟩] scope pos) (some (.Name y py)) spos.line X.env = pure true) (hf : X.fn y = true ∨ X.env.scope.names.lookup y = some .local)
  (hs : ∀ y, CG6 iter X.env y = pure y := by intro _; rfl) :
  PS3 X (.Assign [.Name y py] (.ListComp elt [⟨tg, iter, ifs, 0⟩] scope pos) spos) (B1 iy (F9 ti tns.length slots g tt te)) := by
 intro pins s σv H σ M T0 I hS hM h
 rw [exec_Assign_Name_used _ _ _ _ hsw]
 refine CD4 (CS8 (CD4 ?_))
 rw [arm_evalThenUse_ListComp]
 refine CD4 ?_
 refine BV hc hi hkind hcell hnames hfree hcf hcaps hgk hg ht he hs (use := some (assign (.Name y py) X.env)) (F := fun p acc M => T0.nx (σ.set iy (some (.lst acc))) (K4 M p)) I hS hM h fun D C acc H5 M5 s6 m hn I7 c1 c2 c3 c4 c5 c6 st m5 hp hq => ?_
 obtain ⟨mF, rF, sF⟩ := Vs.frzL hp X.K H5 (.ref D) m5 .ref
 obtain ⟨oC, es, ep, hoC, hdC, rC⟩ := hn
 have pinC : Inv X (pins ++ [(C, oC)]) σv H5 s6 := I7.pins_of fun p hp => by
  rcases CJ1.mp hp with z | z
  ·exact I7.pin p (CF0 _ z)
  ·cases CP0.mp z
   exact ⟨hoC, c1, c2, c3, fun v z => by rw [hdC] at z; cases z⟩
 show wpAny (model X.prog X.w) X.A (assign (.Name y py) X.env (.ref D)) _ X.xe s6
 refine wpAny_assign_Name (FZ pinC hN hiy hy (v := .ref D) rfl (fun s7 I8 => ?_) hf)
 have hp8 := (I8.pin (C, oC) (CF0 _ (CF0 _ CF3))).1
 refine ⟨m, ⟨oC, es, ep, hp8, hdC, rC⟩, fun h' sb => CD6 (CD6 ?_)⟩
 have I9 : Inv X pins (σv.set iy (some (.ref D))) H5 { s7 with heap := h', toks := s7.toks } := I8.unpinned.turned (it := C) (fun b o hb e => (sb.2 b hb).trans e) c1 c2 (.inr c4) c5 c6
 exact ⟨_, _, K4 M5 D, H5, I9, st.less sF, mF, ((hS.mono st).mono ⟨fun _ _ h _ => h, fun b h => .inl (sF b h)⟩).set rF iy, hq⟩
theorem VH {X : Cx} (iy : Nat) (tns caps : List Str) (slots : List Nat)
  (hc : X.calm = true) (hi : EU X tg iter ti) (hkind : scope.kind = .function) (hok : J1 X.env scope caps = true) (hcaps : slots.map (fun j => X.N[j]?) = caps.map some)
  (hgk : ∀ d M Q (cs : Lo), g d (CD7 tns.length none ++ cs) M Q → g d (CD7 tns.length none ++ cs) M (fun σ' M' => σ'.drop tns.length = cs ∧ Q σ' M'))
  (hg : ∀ cl s₀ H₀ ex, PG3 (B0 X scope cl s₀ H₀ ex (tns ++ caps)) tg g)
  (ht : ∀ cl s₀ H₀ ex, W6 (B0 X scope cl s₀ H₀ ex (tns ++ caps)) ifs tt) (he : ∀ cl s₀ H₀ ex, PE3 (B0 X scope cl s₀ H₀ ex (tns ++ caps)) elt te)
  (hN : X.N.Nodup) (hiy : X.N[iy]? = some y) (hy : Loc X.env.scope y) (hf : X.fn y = true ∨ X.env.scope.names.lookup y = some .local)
  (hsw : CT9 (.ListComp elt [⟨tg, iter, ifs, 0⟩] scope pos) (some (.Name y py)) spos.line X.env = pure true := by rfl)
  (hs : ∀ y, CG6 iter X.env y = pure y := by intro _; rfl) :
  PS3 X (.Assign [.Name y py] (.ListComp elt [⟨tg, iter, ifs, 0⟩] scope pos) spos) (B1 iy (F9 ti tns.length slots g tt te)) := by
 unfold J1 at hok
 rw [CH5, CF7, CF7] at hok
 obtain ⟨h1, h2⟩ := hok
 refine AN0 hc hi hkind (fun y hy e => ?_) (fun y hy e => ?_) (fun y hy e => ?_) (fun y hy => ?_) hcaps hgk hg ht he hN hiy hy hsw hf hs
 ·have := h1 y hy; rw [e] at this; cases this
 ·have := h1 y hy
  rw [e] at this
  dsimp only at this
  split at this
  ·assumption
  ·cases this
 ·have := h1 y hy
  rw [e] at this
  dsimp only at this
  split at this
  ·exact .inl (by assumption)
  ·exact .inr (by assumption)
  ·cases this
 ·have := h2 y hy
  split at this
  ·assumption
  ·cases this
theorem NA {X : Cx} (iy : Nat) (tns caps : List Str) (slots : List Nat)
  (hc : X.calm = true) (hi : PI3 X tg iter ti) (hkind : scope.kind = .function) (hok : J1 X.env scope caps = true) (hcaps : slots.map (fun j => X.N[j]?) = caps.map some)
  (hgk : ∀ d M Q (cs : Lo), g d (CD7 tns.length none ++ cs) M Q → g d (CD7 tns.length none ++ cs) M (fun σ' M' => σ'.drop tns.length = cs ∧ Q σ' M'))
  (hg : ∀ cl s₀ H₀ ex, PG3 (B0 X scope cl s₀ H₀ ex (tns ++ caps)) tg g)
  (ht : ∀ cl s₀ H₀ ex, W6 (B0 X scope cl s₀ H₀ ex (tns ++ caps)) ifs tt) (he : ∀ cl s₀ H₀ ex, PE3 (B0 X scope cl s₀ H₀ ex (tns ++ caps)) elt te)
  (hN : X.N.Nodup) (hiy : X.N[iy]? = some y) (hy : Loc X.env.scope y) (hf : X.fn y = true ∨ X.env.scope.names.lookup y = some .local)
  (hsw : CT9 (.ListComp elt [⟨tg, iter, ifs, 0⟩] scope pos) (some (.Name y py)) spos.line X.env = pure true := by rfl)
  (hs : ∀ y, CG6 iter X.env y = pure y := by intro _; rfl) :
  PS3 X (.Assign [.Name y py] (.ListComp elt [⟨tg, iter, ifs, 0⟩] scope pos) spos) (B1 iy (F9 ti tns.length slots g tt te)) :=
 VH iy tns caps slots hc hi.toE hkind hok hcaps hgk hg ht he hN hiy hy hf hsw hs
end L3
namespace L2
open PySem PySem.Spec PyProof.Rows
section
variable {X : Cx} {tg : Expr}
end
end L2
namespace L3
open PySem PySem.Spec PyProof.Rows L2
section
variable {X : Cx} {a b c e : Expr} {t : TA3} {te : TE3} {p pos : Pos}
def EQ (te : TE3) : TE3 := fun σ M Q => te σ M fun d M1 => ∃ p xs, d = .ref p ∧ M1 p = some (.lst xs) ∧ Q (.lst xs) (K4 M1 p)
theorem AL2 (h : PE3 X e te) : PE3 X e (EQ te) := by
 intro pins s σv H σ M Q I hS hM hw
 refine thn (h pins s σv H σ M _ I hS hM hw) fun u s1 hx0 => ?_
 obtain ⟨x, xv, M1, H1, I1, st1, m1, rv1, p1, q1⟩ := hx0
 obtain ⟨p, xs, rfl, hp, q⟩ := q1
 obtain ⟨mF, rF, sF⟩ := Vs.frzL hp X.K H1 xv m1 p1
 exact ⟨.lst xs, xv, K4 M1 p, H1, I1, st1.less sF, mF, rv1, rF, q⟩
end
section
variable {X : Cx} {e i : Expr} {te ti : TE3} {pos : Pos}
def BQ3 (M : Mem) (x : D) (ds : List D) : Prop := x = .lst ds ∨ ∃ a, x = .ref a ∧ M a = some (.lst ds)
theorem AI1 {x : D} (m : MRel K M H) (r : Rep K M H x v) (e : BQ3 M x ds) : ∃ p vs, v = .ref p ∧ SqL K H p vs ∧ Reps K M H ds vs := by
 rcases e with rfl | ⟨a, rfl, ha⟩
 ·cases r with | lst h r => exact ⟨_, _, rfl, SqL.of3 h, r⟩
 ·cases r
  obtain ⟨ho, e1, r⟩ := m _ _ ha
  cases ho <;> first | exact (r : False).elim | skip
  exact ⟨_, _, rfl, .inl (.inl e1), r⟩
theorem MZ {xs : List Str} (hg : Gl X x) (hm : ∃ a, X.mg x = some (.ref a) ∧ UE X.K a (xs.map V.str)) (hd : (x == ("__debug__" : Str)) = false := by decide) : PE3 X (.Name x pos) (tC3 (.tup (xs.map D.str))) := by
 obtain ⟨a, hm, k⟩ := hm
 exact BF (v := .ref a) hg hm rfl (fun _ _ => .tup (.inr k) (V8 xs)) hd
def AS0 (P : Params) (r : Str × Tok × Addr) : DictEntry := ⟨CJ7 P r.1, .str r.1 r.2.1, .ref r.2.2⟩
inductive GRows (K : CE0) : List (Str × Tok × Addr) → List (Str × List Str) → Prop
 | nil : GRows K [] []
 | cons {s : Str} {t : Tok} {b : Addr} {xs : List Str} {rows : List (Str × Tok × Addr)} {tbl : List (Str × List Str)} : UE K b (xs.map V.str) → GRows K rows tbl → GRows K ((s, t, b) :: rows) ((s, xs) :: tbl)
def QP (K : CE0) (P : Params) (a : Addr) (tbl : List (Str × List Str)) : Prop := ∃ (rows : List (Str × Tok × Addr)) (ep : Nat), K.lookup a = some ⟨.type "dict", none, .dict (rows.map (AS0 P)).toArray ep, #[]⟩ ∧ (rows.map (·.1)).Nodup ∧ GRows K rows tbl
def AF (rows : List (Str × Tok × Addr)) : List (Key × Value) := rows.map fun r => (Sum.inr r.1, .ref r.2.2)
theorem IX (h : GRows K rows tbl) {w : Str} {xs : List Str} (e : tbl.lookup w = some xs) : ∃ b, CX1 (AF rows) (Sum.inr w) = some (.ref b) ∧ UE K b (xs.map V.str) := by
 induction h with
 | nil => cases e
 | @cons s t b ys rows tbl k _ ih =>
  rw [CQ8] at e
  by_cases hw : w = s
  ·subst hw
   simp only [beq_self_eq_true] at e
   cases e
   exact ⟨b, by simp [CX1, AF], k⟩
  ·have hne : (w == s) = false := by simpa using hw
   rw [hne] at e
   obtain ⟨b', h1, h2⟩ := ih e
   refine ⟨b', ?_, h2⟩
   have : ¬ (Sum.inr s : Key) = Sum.inr w := fun z => hw (Sum.inr.inj z).symm
   unfold CX1 AF at h1 ⊢
   rw [CG9, List.find?_cons_of_neg (by simpa using this)]
   exact h1
theorem KC {P : CI2} {w : World} : ∀ rows : List (Str × Tok × Addr), Pairs (D9 P w) (rows.map (AS0 w.params)) (AF rows)
 | [] => .nil
 | r :: rows => .cons (BA P w r.1 r.2.1) rfl (KC rows)
theorem IV {K : CE0} {ep : Nat} (hk : h.get? a = some ⟨.type "dict", none, .dict (rows.map (AS0 w.params)).toArray ep, #[]⟩) (hn : (rows.map (·.1)).Nodup) : h.DictOf (D9 P w) a (AF rows) := by
 refine ⟨_, _, ep, hk, ⟨rfl, rfl, rfl⟩, rfl, fun e he => ?_, by simpa using KC rows, ?_⟩
 ·obtain ⟨s, t, b, _, rfl⟩ : ∃ s t b, (s, t, b) ∈ rows ∧ AS0 w.params (s, t, b) = e := by simpa using he
  exact ⟨.inr s, BA P w s t, rfl⟩
 ·have : (AF rows).map (·.1) = (rows.map (·.1)).map Sum.inr := by unfold AF; rw [CL5, CL5]; rfl
  rw [this]
  exact List.Pairwise.map _ (fun a b hab hc => hab (Sum.inr.inj hc)) hn
def BN7 (tbl : List (Str × List Str)) (ti : TE3) : TE3 := fun σ M Q => ti σ M fun d M1 => ∃ w xs, d = .str w ∧ tbl.lookup w = some xs ∧ Q (.tup (xs.map D.str)) M1
theorem BH3 {p1 : Pos} (hg : Gl X x) (hm : ∃ a, X.mg x = some (.ref a) ∧ QP X.K X.w.params a tbl) (hi : PE3 X i ti) (hs : AQ7 i) (hd : (x == ("__debug__" : Str)) = false := by decide) : PE3 X (.Subscript (.Name x p1) i pos) (BN7 tbl ti) := by
 obtain ⟨a, hm, rows, ep, hk, hn, gr⟩ := hm
 intro pins s σv H σ M Q I hS hM h
 refine YR PySem.F.slot_dict_getitem.lookup hs (thn (BF (d := .ref a) (v := .ref a) hg hm rfl (fun _ _ => .ref) hd pins s σv H σ M (fun d M1 => d = .ref a ∧ ti σ M1 fun d M1 => ∃ w xs, d = .str w ∧ tbl.lookup w = some xs ∧ Q (.tup (xs.map D.str)) M1) I hS hM ⟨rfl, h⟩) fun u s1 ⟨d, v, M1, H1, I1, st1, m1, r1, p1, e1, q1⟩ => ?_)
 subst e1
 cases p1
 obtain rfl : u = Value.ref a := r1
 refine thn (hi pins s1 σv H1 σ M1 _ I1 (hS.mono st1) m1 q1) fun iv s2 ⟨y, yv, M2, H2, I2, st2, m2, r2, p2, w, xs, e2, hl, q2⟩ => ?_
 subst e2
 cases p2
 have dd : s2.heap.DictOf (D9 X.prog X.w) a (AF rows) := IV (K := X.K) (I2.kIn a _ hk) hn
 obtain ⟨b, hv, kt⟩ := IX gr hl
 exact ⟨dd.typeIs, wpAny_getItem_of (HI (k := .inr w) r2) dd.mapOf hv ⟨_, .ref b, M2, H2, I2.tok _, st1.trans st2, m2, rfl, .tup (.inr kt) (V8 xs), q2⟩⟩
theorem BC1 {Q : DK} (h : ti σ M fun d M1 => ∃ w xs, d = .str w ∧ tbl.lookup w = some xs ∧ Q (.tup (xs.map D.str)) M1) : BN7 tbl ti σ M Q := h
end
end L3
namespace HT
open PySem PySem.Spec PyProof.Rows
section
variable {prog : CI2} {w : World} {A : CL2} {E : Value → CD9 → Prop} {s : CD9}
end
end HT
namespace L3
open PySem PySem.Spec PyProof.Rows L2
section
variable {X : Cx} {e st : Expr} {te : TE3} {ts : TO3} {pos p2 : Pos}
end
theorem VC {X : Cx} (tns caps : List Str) (slots : List Nat)
  (hc : X.calm = true) (hi : PI3 X tg iter ti) (hkind : scope.kind = .function) (hok : J1 X.env scope caps = true) (hcaps : slots.map (fun j => X.N[j]?) = caps.map some)
  (hgk : ∀ d M Q (cs : Lo), g d (CD7 tns.length none ++ cs) M Q → g d (CD7 tns.length none ++ cs) M (fun σ' M' => σ'.drop tns.length = cs ∧ Q σ' M'))
  (hg : ∀ cl s₀ H₀ ex, PG3 (B0 X scope cl s₀ H₀ ex (tns ++ caps)) tg g)
  (ht : ∀ cl s₀ H₀ ex, W6 (B0 X scope cl s₀ H₀ ex (tns ++ caps)) ifs tt) (he : ∀ cl s₀ H₀ ex, PE3 (B0 X scope cl s₀ H₀ ex (tns ++ caps)) elt te)
  (hs : ∀ y, CG6 iter X.env y = pure y := by intro _; rfl) :
  PE3 X (.ListComp elt [⟨tg, iter, ifs, 0⟩] scope pos) (K9 ti tns.length slots g tt te) := by
 unfold J1 at hok
 rw [CH5, CF7, CF7] at hok
 obtain ⟨h1, h2⟩ := hok
 refine VB hc hi hkind (fun y hy e => ?_) (fun y hy e => ?_) (fun y hy e => ?_) (fun y hy => ?_) hcaps hgk hg ht he hs
 ·have := h1 y hy; rw [e] at this; cases this
 ·have := h1 y hy
  rw [e] at this
  dsimp only at this
  split at this
  ·assumption
  ·cases this
 ·have := h1 y hy
  rw [e] at this
  dsimp only at this
  split at this
  ·exact .inl (by assumption)
  ·exact .inr (by assumption)
  ·cases this
 ·have := h2 y hy
  split at this
  ·assumption
  ·cases this
end L3
namespace PySem.SeqAt
open AutoSeq1 (wpAny_loadPart')
open MeetsSeq
theorem AQ (l : Addr) (es : Array DictEntry) (n : Nat) (dd : Option Addr) (sl : Array (Option Value)) (b : Str) (u : Tok) :
  Meets (CN1.«dict.__eq__» ⟨[.ref l, .str b u], []⟩) (fun _ R s => s.heap.get? l = some { cls := .type "dict", dict := dd, data := .dict es n, slots := sl } ∧ R (.ok (.ret .notImplemented)) s) :=
 .of_wp fun prog w A R s h => by obtain ⟨hp, g, d, tk, os⟩ := s; obtain ⟨hl, h⟩ := h; have f1 := F.sub_str_dict; wp_walk using wpAny_loadPart' hl, wpAny_load hl; exact ⟨_, rfl, h⟩
theorem BQ (b : Str) (u : Tok) (l : Addr) (es : Array DictEntry) (n : Nat) (dd : Option Addr) (sl : Array (Option Value)) :
  Meets (CN1.«str.__eq__» ⟨[.str b u, .ref l], []⟩) (fun _ R s => s.heap.get? l = some { cls := .type "dict", dict := dd, data := .dict es n, slots := sl } ∧ R (.ok (.ret .notImplemented)) s) :=
 .of_wp fun prog w A R s h => by obtain ⟨hp, g, d, tk, os⟩ := s; obtain ⟨hl, h⟩ := h; wp_walk using wpAny_loadPart' hl, wpAny_load hl; exact ⟨_, rfl, h⟩
theorem RcAt.dict_str {l : Addr} {es : Array DictEntry} (b : Str) (u : Tok) (ho : s.heap.get? l = some o) (hc : o.cls = .type "dict") (hd : o.data = .dict es n) (hu : A.units < cLine) : RcAt A s (.ref l) (.str b u) false := fun prog w E Q h => by
 obtain ⟨cls, dd, data, sl⟩ := o
 simp only at hc hd
 subst hc hd
 exact rc_eq_decline_or (k := false) ⟨_, ho, rfl⟩ (typeIs_str s b u) (by decide) F.sub_str_dict F.slot_dict_eq F.slot_str_eq_refl
  (fun _ hq => CP4 F.slot_dict_eq ⟨_, ho, rfl⟩ F.entry_dict_eq (F.args_dict_eq_2 _ _) (AQ l es n dd sl b u) ⟨ho, hq⟩)
  (fun _ hq => CP4 F.slot_str_eq_refl (typeIs_str s b u) F.entry_str_eq (F.args_str_eq_2 _ _) (BQ b u l es n dd sl) ⟨ho, hq⟩)
  (fun _ hq => CN8 (rfl : isSame (.ref l) (.str b u) = pure false) hq) (.inr hu) h
end PySem.SeqAt
namespace HT
open PySem PySem.Spec PyProof.Rows L2
theorem CZ {t sl : Addr} {vl vu : Value} (ht : IsTup s.heap t items) (hs : s.heap.IsSliceOf sl vl vu .none) (pl : IsPart vl lo) (pu : IsPart vu hi)
  (hw : sIx items.size 0 lo = 0 ∧ sIx items.size items.size hi = items.size) (h : Q (.ref t) s) : wpAny (model prog w) A (getItem (.ref t) (.ref sl)) Q E s := by
 obtain ⟨os, hos, hcs, hds⟩ := id hs
 have hTs : s.TypeIs (.ref sl) "slice" := ⟨os, hos, hcs⟩
 obtain ⟨o, ho, hc, n, hd⟩ := id ht
 unfold getItem
 try with_reducible refine CH3 ?_
 first | refine CD4 (CD6 ?_) | skip
 refine CD4 (wpAny_sequenceKey ht.typeIs (by decide) ?_)
 refine CD4 (CI8 (name := CV0 "__getitem__") ht.typeIs CM7
  (CL0 CM7 ht.typeIs entry_tuple_getitem ?_ (args_tuple_getitem _ _)))
 show wpAny _ _ (Builtin.Tuple.tupleItemsOf (.ref t) >>= _) _ _ s
 refine CD4 (tupleItemsOf_ ht ?_)
 refine CD4 (CW6 hTs ?_)
 rw [if_pos (by decide)]
 refine CD4 (V4 hs pl pu ?_)
 have hyes : (((sIx items.size 0 lo : Nat) : Int) == 0 && (1 : Int) == 1 && (sIx items.size items.size hi - sIx items.size 0 lo) == items.size) = true := by
  rw [hw.1, hw.2]; simp
 show wpAny _ _ (if (((sIx items.size 0 lo : Nat) : Int) == 0 && (1 : Int) == 1 && (sIx items.size items.size hi - sIx items.size 0 lo) == items.size) = true then _ else _) _ _ s
 rw [if_pos hyes]
 unfold Builtin.Tuple.tupleIsExact
 refine CD4 ?_
 first
  | exact CW6 ht.typeIs (by rw [if_pos (by decide)]; exact CD4 (CP3 (CD6 ⟨_, rfl, CD6 h⟩)))
  | exact CD4 (CW6 ht.typeIs (CD6 (by rw [if_pos (by decide)]; exact CD4 (CP3 (CD6 ⟨_, rfl, CD6 h⟩)))))
end HT
namespace L3
open PySem PySem.Spec PyProof.Rows L2
section
variable {X : Cx} {pins : List (Addr × Obj)} {σv : L2.St} {M : Mem} {H : Hp} {s : CD9}
end
section
variable {X : Cx} {e : Expr} {te : TE3} {pos : Pos}
def DG : R3 := fun x y M Q => D8 x y M Q ∨ ∃ kvs z, x = .dct kvs ∧ y = .str z ∧ Q (.bl false) M
theorem BF8 (hr : Room k X.A) : OpR3 X (CJ5 .Eq) DG := by
 intro pins s σv H M x y xv yv v u Q I m rx ry px py h
 rcases h with h | ⟨kvs, z, rfl, rfl, q⟩
 ·exact BB7 hr pins s σv H M x y xv yv v u Q I m rx ry px py h
 ·cases py
  obtain ⟨t, rfl⟩ := ry
  cases px with
  | dct hx r =>
   cases rx
   obtain ⟨_, _, us, _, o, es, ep, h1, h2, h3, _⟩ := ME I.hok hx.1
   exact SeqAt.RcAt.dict_str z t h1 h2.1 h3 (by have := hr.units; lia) X.prog X.w X.xe _ ⟨_, .bl _, M, H, I, .refl, m, rfl, .bl, q⟩
def BC0 (K : CE0) : V → Option Int → Option Int → Hp → VK → Prop := fun x lo hi H Q => ∃ a xs, x = .ref a ∧ SqT K H a xs ∧
 (HT.sIx xs.length 0 lo = 0 ∧ HT.sIx xs.length xs.length hi = xs.length) ∧ Q (.ref a) H
theorem BA2 : SlR X (BC0 X.K) := by
 intro pins s σ H x v vl vu lo hi sl Q I rx hs pl pu h
 obtain ⟨a, xs, rfl, hx, hw, q⟩ := h
 cases rx
 obtain ⟨its, r, ht, hz⟩ := I.tuple hx
 have hlen : its.toArray.size = xs.length := by rw [CF4]; exact r.length.symm
 refine ⟨"tuple", _, PyProof.Rows.slot_tuple_getitem.lookup, ht.typeIs, ?_⟩
 exact HT.CZ ht hs pl pu (by rw [hlen]; exact hw) ⟨.ref a, H, I, rfl, q⟩
def NC : D → Option Int → Option Int → Mem → DK → Prop := fun x lo hi M Q => match x with
 | .lst ds => Q (.lst (cutD ds lo hi)) M
 | .tup ds => Q (.tup (cutD ds lo hi)) M
 | .str z => z.length ≤ CE1 ∧ Q (.str (Txt.slice z lo hi)) M
 | _ => False
def O8 (te : TE3) (tl th : TO3) : TE3 := fun σ M Q => te σ M fun x M1 => tl σ M1 fun l M2 => th σ M2 fun u M3 => NC x l u M3 Q
theorem ZD (h : HT.sIx ds.length 0 lo = 0 ∧ HT.sIx ds.length ds.length hi = ds.length) : cutD ds lo hi = ds := by
 unfold cutD
 rw [h.1, h.2]
 simp
theorem AW0 {lo hi : Option Expr} {tl th : TO3} {p2 : Pos} (he : PE3 X e te) (hl : PO3 X lo tl) (hu : PO3 X hi th) :
  PE3 X (.Subscript e (.Slice lo hi none p2) pos) (O8 te tl th) := by
 intro pins s σv H σ M Q I hS hM h
 refine Subscript_ (thn (he pins s σv H σ M _ I hS hM h) fun v s1 ⟨x, xv, M1, H1, I1, st1, m1, rv1, p1, q1⟩ => ?_)
 refine wpAny_Slice (thn (hl pins s1 σv H1 σ M1 _ I1 (hS.mono st1) m1 q1) fun vl s2 ⟨l, M2, H2, I2, st2, m2, pl, q2⟩ => thn (hu pins s2 σv H2 σ M2 _ I2 (hS.mono (st1.trans st2)) m2 q2) fun vu s3 ⟨u, M3, H3, I3, st3, m3, pu, q3⟩ => ?_)
 rw [evalPart_none]
 refine CD6 ?_
 have I4 : Inv X pins σv H3 { s3 with heap := s3.heap.push { cls := .type "slice", data := .fields #[vl, vu, .none] } } := I3.kept (t' := s3.toks) fun b ob q => CD5 _ q
 have p3 := p1.mono (st2.trans st3)
 have fin : ((BJ5 X.K xv l u H3 (Up X.K M3 H3 Q) ∨ BJ6 X.K xv l u H3 (Up X.K M3 H3 Q)) ∨ BW3 xv l u H3 (Up X.K M3 H3 Q)) ∨ BC0 X.K xv l u H3 (Up X.K M3 H3 Q) := by
  cases x with
  | str z =>
   cases p3
   exact .inl (.inr ⟨_, rfl, q3.1, up0 m3 .str q3.2⟩)
  | tup ds =>
   cases p3 with | tup h1 r =>
   by_cases hw : HT.sIx ds.length 0 l = 0 ∧ HT.sIx ds.length ds.length u = ds.length
   ·have q3 : Q (.tup (cutD ds l u)) M3 := q3
    rw [ZD hw] at q3
    exact .inr ⟨_, _, rfl, SqT.of3 h1, by rw [← r.length]; exact hw, up0 m3 (.tup h1 r) q3⟩
   ·rw [r.length] at hw
    exact .inl (.inl (.inr ⟨_, _, rfl, SqT.of3 h1, hw, fun p hp => ⟨_, M3, Step.lay hp, m3.lay hp, .tup (.inl ⟨.inl D4, m3.free hp⟩) ((r.cut l u).mono (Step.lay hp)), q3⟩⟩))
  | lst ds =>
   cases p3 with | lst h1 r =>
   refine .inl (.inl (.inl ⟨_, _, rfl, SqL.of3 h1, fun p hp => ?_⟩))
   exact ⟨_, M3, Step.lay hp, m3.lay hp, .lst (.inl ⟨.inl D4, m3.free hp⟩) ((r.cut l u).mono (Step.lay hp)), q3⟩
  | _ => exact (q3 : False).elim
 obtain ⟨T, id, hT, ht, hg⟩ := (((sl_list.or AP0).or BN4).or BA2) pins { s3 with heap := s3.heap.push { cls := .type "slice", data := .fields #[vl, vu, .none] } } σv H3 xv v vl vu l u s3.heap.objs.size _ I4 rv1 (Heap.IsSliceOf.new ..) pl pu fin
 show wpAny (model X.prog X.w) X.A (subscriptTail e (.Slice lo hi none p2) v (.ref s3.heap.objs.size)) (EP3 X pins σv M H Q) X.xe { s3 with heap := s3.heap.push { cls := .type "slice", data := .fields #[vl, vu, .none] } }
 exact tail_any (ops := [.ref s3.heap.objs.size, v]) ht hT (thn hg fun _ _ z => (Q7 z).trans ((st1.trans st2).trans st3)) (by with_unfolding_all rfl)
end
end L3
namespace L2
open PySem PySem.Spec PyProof.Rows
end L2
namespace L3
open PySem PySem.Spec PyProof.Rows L2
section
variable {X : Cx} {st : Stmt} {rest : List Stmt} {t u : TX3} {pos np cpos : Pos}
end
section
variable {P : CI2} {w : World} {K : CE0} {mg : Str → Option Value} {base : Heap}
end
end L3
namespace L2
open PySem PySem.Spec PyProof.Rows
theorem ObjOk.get {o : HO} (x : ObjOk P w H h a o) : ∃ u, h.get? a = some u := by
 cases o with
 | lst xs => obtain ⟨_, _, _, _, e⟩ := x; exact ⟨_, e⟩
 | tup xs => obtain ⟨_, _, _, u, e, _⟩ := x; exact ⟨u, e⟩
 | dK kvs => obtain ⟨_, _, _, _, o, _, _, e, _⟩ := x; exact ⟨_, e⟩
 | dT kvs => obtain ⟨_, _, _, _, o, _, _, e, _⟩ := x; exact ⟨_, e⟩
 | set S n => obtain ⟨o, _, _, _, e, _⟩ := x; exact ⟨_, e⟩
 | ins C dx fs => obtain ⟨_, _, _, e, _⟩ := x; exact ⟨_, e⟩
 | own y => exact x
 | xd fs => obtain ⟨_, ⟨_, _, _, e, _⟩, _⟩ := x; exact ⟨_, e⟩
 | rng lo hi => obtain ⟨_, _, _, e⟩ := x; exact ⟨_, e⟩
 | frz ob u => obtain ⟨e, _⟩ := x; exact ⟨_, e⟩
 | tbl ps => exact ⟨_, (show h.get? a = some _ from x)⟩
 | met f y => exact ⟨_, (show h.get? a = some _ from x)⟩
 | ext φ => exact x.2.1
section
variable {X : Cx} {pins : List (Addr × Obj)} {σ : St} {H H2 : Hp} {s s1 : CD9} {ea : Addr} {cls a0 : Value} {B h6 : Heap}
theorem AS2 (hok : HOk X.prog X.w H2 B) (hn : B.get? ea = none) : H2 ea = none := by
 cases e : H2 ea with
 | none => rfl
 | some o =>
  obtain ⟨u, e'⟩ := (hok ea o e).get
  rw [hn] at e'; cases e'
end
end L2
namespace PySem.W
open PySem PySem.Spec PySem.Calls PyProof.Rows
section
variable {prog : CI2} {w : World} {A : CL2} {E : Value → CD9 → Prop} {h : Heap} {g : Array GenState} {d : Drawn} {t : Nat} {os : OsState} {a C : Addr} {o : Obj} {K : Frag}
end
end PySem.W
namespace L2
open PySem PySem.Spec PyProof.Rows
section
variable {X : Cx} {pins : List (Addr × Obj)} {σ : St} {H : Hp} {s : CD9} {p : Addr × Obj}
end
end L2
namespace L3
open PySem PySem.Spec PyProof.Rows L2
section
variable {X : Cx} {k : Nat} {f C : Addr} {fd : CH0} {ps : List Str} {sp : SpX3} {fx cx xi xj xl : Str} {i j l : Nat} {e : Expr} {es : List Expr} {ta : TA3} {p cp ap tp np hp pi pj pl ap2 : Pos}
end
end L3
namespace PySem.SeqAt
end PySem.SeqAt
namespace L3
open PySem PySem.Spec PyProof.Rows L2
section
variable {X : Cx} {pos : Pos}
theorem VA (tns caps : List Str) (slots : List Nat)
  (hc : X.calm = true) (hi : EU X tg iter ti) (hkind : scope.kind = .function) (hok : J1 X.env scope caps = true) (hcaps : slots.map (fun j => X.N[j]?) = caps.map some)
  (hgk : ∀ d M Q (cs : Lo), g d (CD7 tns.length none ++ cs) M Q → g d (CD7 tns.length none ++ cs) M (fun σ' M' => σ'.drop tns.length = cs ∧ Q σ' M'))
  (hg : ∀ cl s₀ H₀ ex, PG3 (B0 X scope cl s₀ H₀ ex (tns ++ caps)) tg g)
  (ht : ∀ cl s₀ H₀ ex, W6 (B0 X scope cl s₀ H₀ ex (tns ++ caps)) ifs tt) (he : ∀ cl s₀ H₀ ex, PE3 (B0 X scope cl s₀ H₀ ex (tns ++ caps)) elt te)
  (hs : ∀ y, CG6 iter X.env y = pure y := by intro _; rfl) :
  PE3 X (.ListComp elt [⟨tg, iter, ifs, 0⟩] scope pos) (F9 ti tns.length slots g tt te) := by
 unfold J1 at hok
 rw [CH5, CF7, CF7] at hok
 obtain ⟨h1, h2⟩ := hok
 refine MY hc hi hkind (fun y hy e => ?_) (fun y hy e => ?_) (fun y hy e => ?_) (fun y hy => ?_) hcaps hgk hg ht he hs
 ·have := h1 y hy; rw [e] at this; cases this
 ·have := h1 y hy
  rw [e] at this
  dsimp only at this
  split at this
  ·assumption
  ·cases this
 ·have := h1 y hy
  rw [e] at this
  dsimp only at this
  split at this
  ·exact .inl (by assumption)
  ·exact .inr (by assumption)
  ·cases this
 ·have := h2 y hy
  split at this
  ·assumption
  ·cases this
end
end L3
namespace TSt
open PySem
def tx : Value → Str
 | .str z _ => z
 | _ => ⟨#[]⟩
section
variable {P : CI2} {w : World} {A : CL2} {E : Value → CD9 → Prop} {s : CD9} {h h' : Heap} {a : Addr} {L : List Str} {z : Str} {tk : Tok}
def E8 (w : World) : Bool := !(w.params.followText "set-order")
def TSet (P : CI2) (w : World) (h : Heap) (a : Addr) (L : List Str) : Prop :=
 ∃ o es ep t, h.get? a = some o ∧ o.ExactSet ∧ o.data = .set es ep t ∧ ElemsOf (strKind P w) es.toList ∧ es.toList.map (fun e => tx e.2) = L ∧ L.Nodup ∧ es.size < CM3 ∧ t.fits es.size = true ∧ (t.plain = true → es.size = 0) ∧ t.led = E8 w
theorem AH4 {k : Str} {v : Value} (q : (strKind P w).is k v = true) : tx v = k := by
 obtain ⟨t, rfl⟩ := CN9 (x := k) (v := v) q
 rfl
theorem TR {e : Int × Value} {l : List (Int × Value)} (q : ElemsOf (strKind P w) l) (m : e ∈ l) : (strKind P w).is (tx e.2) e.2 = true ∧ e.1 = (strKind P w).hash (tx e.2) := by
 obtain ⟨⟨k, q1, q2⟩, _⟩ := q e m
 rw [AH4 q1]
 exact ⟨q1, q2⟩
theorem K1 {l : List (Int × Value)} (q : ElemsOf (strKind P w) l) (k : Str) : (∃ e ∈ l, (strKind P w).is k e.2 = true) ↔ k ∈ l.map fun e => tx e.2 := by
 constructor
 ·rintro ⟨e, m, i⟩
  exact List.mem_map.mpr ⟨e, m, AH4 i⟩
 ·intro m
  obtain ⟨e, m', rfl⟩ := List.mem_map.mp m
  exact ⟨e, m', (TR q m').1⟩
theorem TSet.len (T : TSet P w h a L) : L.length < CM3 := by
 obtain ⟨o, es, ep, t, _, _, _, _, rfl, _, b, _⟩ := T
 rw [CD8, CE5]; exact b
theorem TSet.keep (T : TSet P w h a L) (k : ∀ o, h.get? a = some o → h'.get? a = some o) : TSet P w h' a L := by
 obtain ⟨o, es, ep, t, g, r⟩ := T
 exact ⟨o, es, ep, t, k _ g, r⟩
theorem TSet.setOf (T : TSet P w h a L) : h.SetOf (strKind P w) a (fun k => decide (k ∈ L)) L.length := by
 obtain ⟨o, es, ep, t, g, x, d, el, rfl, nd, b, f, _⟩ := T
 refine ⟨o, es, ep, t, g, x, d, el, fun k => ?_, b, f, by rw [CD8, CE5]⟩
 rw [decide_eq_true_eq, K1 el]
theorem SQ {es : Array (Int × Value)} (q : t.plain = false) : (relayAll t es n).2.1.plain = false := by
 unfold relayAll SetTable.relaid SetTable.laid
 cases SetTable.layClean (CG2 n - 1) (es.map (·.1)) with
 | none => rfl
 | some ow =>
  simp only [Option.pure_def, Option.bind_eq_bind, Option.bind_some]
  split
  ·exact q
  ·rfl
theorem AC0 {es : Array (Int × Value)} : (relayAll t es n).2.1.led = t.led := by
 unfold relayAll SetTable.relaid SetTable.laid
 cases SetTable.layClean (CG2 n - 1) (es.map (·.1)) with
 | none => rfl
 | some ow =>
  simp only [Option.pure_def, Option.bind_eq_bind, Option.bind_some]
  split <;> rfl
theorem AC2 (t : CQ6) (n : Nat) : (t.orStandIn n).led = t.led := by
 unfold SetTable.orStandIn
 split <;> rfl
theorem AS7 {es : Array (Int × Value)} {h : Int} {x : Value} : (layNew t es h x).2.1.led = t.led := by
 unfold layNew
 split
 ·exact AC2 _ _
 ·rfl
theorem X1 {l m : List Str} (q : CJ3 l m) (n : m.Nodup) : l.Nodup := q.nodup_iff.mpr n
set_option maxHeartbeats 1000000 in
theorem QQ {Q : Bool → CD9 → Prop} (T : TSet P w s.heap a L) (room : L.length + 1 < CM3)
  (q : ∀ h' L', CK3 a s.heap h' → TSet P w h' a L' → CJ3 L' (if z ∈ L then L else L ++ [z]) → Q (!decide (z ∈ L)) { s with heap := h' }) :
  wpAny (model P w) A (setAddHashed a (.str z tk) ((strKind P w).hash z)) Q E s := by
 obtain ⟨o, es, ep, t, g, x, d, el, rfl, nd, b, f, pl, ld⟩ := T
 have key : (strKind P w).is z (.str z tk) = true := by simp [strKind, CT7]
 have sc : (Value.str z tk).scannable = true := rfl
 unfold setAddHashed setAddHashedIn
 refine CH3 (CD4 (CH1 g d f ?_))
 dsimp only
 rw [if_pos (byScan_of sc b el)]
 unfold setAddByScan
 refine CD4 (CD4 (CP3 (CD4 (wpAny_setScan_of key g d f el ?_))))
 cases fi : es.toList.findIdx? (fun e => (strKind P w).is z e.2) with
 | some j =>
  dsimp only
  obtain ⟨hj, hp, _⟩ := List.findIdx?_eq_some_iff_getElem.mp fi
  have m : z ∈ es.toList.map fun e => tx e.2 := (K1 el z).mp ⟨_, CQ9 hj, hp⟩
  have r := q s.heap _ (.refl a _) ⟨o, es, ep, t, g, x, d, el, rfl, nd, b, f, pl, ld⟩ (by rw [if_pos m])
  rw [decide_eq_true m] at r
  exact CD6 (CD6 r)
 | none =>
  dsimp only
  have m : z ∉ es.toList.map fun e => tx e.2 := fun m => by
   obtain ⟨e, me, i⟩ := (K1 el z).mpr m
   have := List.findIdx?_eq_none_iff.mp fi e me
   rw [i] at this; cases this
  have pe := layNew_perm t es ((strKind P w).hash z) (.str z tk)
  have le := AS7 (t := t) (es := es) (h := (strKind P w).hash z) (x := .str z tk)
  have fe := layNew_fits t es ((strKind P w).hash z) (.str z tk)
  generalize layNew t es ((strKind P w).hash z) (.str z tk) = R at pe fe le ⊢
  obtain ⟨es1, t1, dm, gv⟩ := R
  dsimp only at pe fe le ⊢
  rw [Array.toList_push] at pe
  have el1 : ElemsOf (strKind P w) es1.toList := (el.push key sc).perm pe
  have pm : CJ3 (es1.toList.map fun e => tx e.2) ((es.toList.map fun e => tx e.2) ++ [z]) := by
   have := pe.map (fun e : Int × Value => tx e.2)
   rw [CG3] at this
   exact this
  have nd1 : (es1.toList.map fun e => tx e.2).Nodup := X1 pm (by
   rw [List.nodup_append]
   refine ⟨nd, by simp, fun u hu v hv => ?_⟩
   rw [CP0] at hv
   subst hv
   rintro rfl
   exact m hu)
  have sz : es1.size = es.size + 1 := by rw [← CE5, pe.length_eq, CE6, CE5]; rfl
  have b1 : es1.size < CM3 := by
   rw [CD8, CE5] at room
   rw [sz]; exact room
  have rule1 : ∀ (bb : Bool) {s1 : CD9} {Q1 : Unit → CD9 → Prop}, Q1 () s1 → wpAny (model P w) A (match bb with | true => rule "set.scan.the-table-gave-way" | false => pure ()) Q1 E s1 := fun bb s1 Q1 y => by
   cases bb
   ·exact CD6 y
   ·exact CP3 y
  refine CD4 (rule1 _ ?_)
  have fin : ∀ h' L', CK3 a s.heap h' → TSet P w h' a L' → CJ3 L' (es1.toList.map fun e => tx e.2) → Q true { s with heap := h' } := fun h' L' sb T p => by
   have r := q h' L' sb T (by rw [if_neg m]; exact p.trans pm)
   rw [decide_eq_false m] at r
   exact r
  have tail : ∀ (t2 : CQ6), t2.fits es1.size = true → t2.plain = false → t2.led = E8 w → wpAny (model P w) A (do
    storeSet a es1 t2
    if (!dm && t2.tooFull) = true then do
        (match (relayAll t2 es1 (CL9 es1.size)).2.2 with | true => rule "set.scan.the-table-gave-way" | false => pure ())
        storeSet a (relayAll t2 es1 (CL9 es1.size)).1 (relayAll t2 es1 (CL9 es1.size)).2.1
        pure (some true)
     else pure (some true)) (fun r s' => r = some true ∧ Q true s') E s := fun t2 f2 p2 l2 => by
   refine CD4 (CO3 g d ?_ (CO5 b1))
   obtain ⟨g1, _⟩ := SetOf_store (knd := strKind P w) (S' := fun k => decide (k ∈ es1.toList.map fun e => tx e.2)) g x d el1 (fun k => by rw [decide_eq_true_eq, K1 el1]) b1 f2
   have sb := CJ2 s.heap a (Obj.putSet es1 t2)
   split
   ·have rp := relayAll_perm t2 es1 (CL9 es1.size)
    have rf := relayAll_fits t2 es1 (CL9 es1.size)
    have rk := AC0 (t := t2) (es := es1) (n := CL9 es1.size)
    have rl := SQ (es := es1) (n := CL9 es1.size) p2
    generalize relayAll t2 es1 (CL9 es1.size) = R at rp rf rl rk ⊢
    obtain ⟨es2, t3, gv2⟩ := R
    dsimp only at rp rf rl rk ⊢
    have s2 : es2.size = es1.size := by rw [← CE5, rp.length_eq, CE5]
    have b2 : es2.size < CM3 := by rw [s2]; exact b1
    have el2 := el1.perm rp
    have pm2 := rp.map (fun e : Int × Value => tx e.2)
    refine CD4 (rule1 _ (CD4 (CO3 g1 rfl ?_ (CO5 b2))))
    obtain ⟨g2, _⟩ := SetOf_store (knd := strKind P w) (S' := fun k => decide (k ∈ es2.toList.map fun e => tx e.2)) g1 x rfl el2 (fun k => by rw [decide_eq_true_eq, K1 el2]) b2 rf
    exact CD6 ⟨rfl, fin _ _ (sb.trans (CJ2 _ a _)) ⟨_, es2, _, t3, g2, x, rfl, el2, rfl, X1 pm2 nd1, b2, rf, fun z => (by rw [rl] at z; cases z), rk.trans l2⟩ pm2⟩
   ·exact CD6 ⟨rfl, fin _ _ sb ⟨_, es1, _, t2, g1, x, rfl, el1, rfl, nd1, b1, f2, fun z => (by rw [p2] at z; cases z), l2⟩ (.refl _)⟩
  split
  ·refine CD4 ?_
   rw [hashByValue_scannable 8 sc]
   refine CD6 ?_
   refine CJ8 (tail { t1 with plain := false } (SetTable.fits_plain_off fe) rfl (le.trans ld)) (fun r s' y => ?_) fun _ _ y => y
   obtain ⟨rfl, y⟩ := y
   exact CD6 y
  ·rename_i np
   refine CD4 (CD6 ?_)
   refine CJ8 (tail t1 fe (by simpa using np) (le.trans ld)) (fun r s' y => ?_) fun _ _ y => y
   obtain ⟨rfl, y⟩ := y
   exact CD6 y
end
end TSt
namespace TSt
open PySem PyProof.Rows
theorem XU : ∀ {l m : List Str}, l.Nodup → (∀ x ∈ l, x ∈ m) → l.length ≤ m.length
 | [], _, _, _ => CK6 _
 | x :: l, m, n, q => by
  rw [CX8] at n
  have hx := q x CF3
  have h1 : l.length ≤ (m.erase x).length := XU n.2 fun y hy => by
   have ne : y ≠ x := fun e => n.1 (e ▸ hy)
   exact (List.mem_erase_of_ne ne).mpr (q y (CF2 _ hy))
  rw [List.length_erase_of_mem hx] at h1
  have : 0 < m.length := List.length_pos_of_mem hx
  rw [CE7]; lia
section
variable {P : CI2} {w : World} {A : CL2} {R : Result → CD9 → Prop} {I S : Addr} {fp wr : List Addr} {G : Array GenState → Array GenState → Prop} {n : Nat} {Pz : Nat → Value → Prop} {St : Nat → CD9 → Prop}
theorem TV (W : WalksS P w A.in1 I fp wr G n Pz St) (hSf : S ∉ fp) (hn : zs.length = n) (hv : ∀ i v, i < n → Pz i v → ∃ t, v = .str (zs.getD i ⟨#[]⟩) t) (hb : n + 1 < CM3) :
  ∀ (k i : Nat) (s : CD9) (L : List Str), n - i = k → i ≤ n → St i s → TSet P w s.heap S L → (∀ z, z ∈ L ↔ z ∈ zs.take i) →
   (∀ s' L', Moved (S :: wr) G s s' → TSet P w s'.heap S L' → (∀ z, z ∈ L' ↔ z ∈ zs) → R (.ok (.ret .none)) s') → codeAny (model P w) A (.builtin "set.update.loop" ⟨[.ref S, .ref I], []⟩) R s := by
 have hSw : S ∉ wr := fun q => hSf (W.sub _ q)
 have wide : ∀ b ∈ wr, b ∈ S :: wr := fun b q => CF2 _ q
 intro k
 induction k with
 | zero =>
  intro i s L hk hi st T mem fin
  obtain rfl : i = n := by lia
  refine CT0 CV8 ?_
  rw [CT6 CO7 _]
  show wpAny _ A.in1 (CW8 (.ref I) >>= _) _ _ s
  refine CD4 (W.done s _ _ st fun s' mv => ?_)
  refine CD6 (fin s' L (mv.mono wide) (T.keep fun o e => mv.heap S o hSw e) fun z => ?_)
  rw [mem z, CO8 (by lia)]
 | succ k ih =>
  intro i s L hk hi st T mem fin
  have hin : i < n := by lia
  refine CT0 CV8 ?_
  rw [CT6 CO7 _]
  show wpAny _ A.in1 (CW8 (.ref I) >>= _) _ _ s
  refine CD4 (W.item i s _ _ hin st fun v s' pv st' mv => ?_)
  obtain ⟨t, rfl⟩ := hv i v hin pv
  generalize hz : zs.getD i ⟨#[]⟩ = z
  have hzi : zs[i]? = some z := by
   rw [List.getD_eq_getElem?_getD] at hz
   cases e : zs[i]? with
   | none => rw [List.getElem?_eq_none_iff] at e; lia
   | some y => rw [e] at hz; exact congrArg some hz
  have T' : TSet P w s'.heap S L := T.keep fun o e => mv.heap S o hSw e
  have hL : L.length ≤ i := by
   obtain ⟨o, es, ep, tb, _, _, _, _, e, nd, _⟩ := id T
   have := XU nd fun x hx => (mem x).mp hx
   rw [CK9] at this; lia
  show wpAny _ A.in1 (holding [Value.str z t] (setAdd S (.str z t)) >>= _) _ _ s'
  refine CD4 (CH3 ?_)
  unfold setAdd
  refine CH3 (CD4 ((PySem.strKind P w).pyHash (k := z) (by simp [PySem.strKind, CT7]) ?_))
  refine QQ (s := { s' with toks := s'.toks + 1 }) (L := L) T' (by lia) fun h' L' sb T2 pm => ?_
  refine CD6 ⟨plainId_quiet CO7 _, ih (i + 1) _ L' (by lia) hin (W.frame _ s' _ _ st' (Nat.le_succ _) fun b hb' o e => ?_) T2 (fun y => ?_) fun s'' L'' mv' T3 mem' => ?_⟩
  ·rw [sb.2 b (fun q : b = S => hSf (q ▸ hb'))]; exact e
  ·rw [pm.mem_iff, CM1, hzi]
   simp only [Option.toList_some, CJ1, CP0, ← mem y]
   split
   ·rename_i hm
    exact ⟨.inl, fun q => q.elim id fun e => e ▸ hm⟩
   ·rw [CJ1, CP0]
  ·refine fin s'' L'' (Moved.trans W.gtrans ((mv.mono wide).then_heap (Nat.le_succ _) fun b o hb' e => ?_) mv') T3 mem'
   rw [sb.2 b (fun q : b = S => hb' (q ▸ CF3))]; exact e
end
section
variable {P : CI2} {w : World} {A : CL2} {E : Value → CD9 → Prop} {s : CD9}
abbrev G8 (led : Bool) : Obj := { cls := .type "set", dict := none, data := .set #[] 0 (.fresh 0 0 led) }
theorem FK (g : h.get? a = some (G8 (E8 w))) : TSet P w h a [] :=
 ⟨_, #[], 0, _, g, ⟨rfl, rfl, rfl⟩, rfl, fun e he => absurd he (by simp), rfl, List.nodup_nil, by decide, (by cases E8 w <;> decide), fun _ => rfl, rfl⟩
theorem RL (v : Value) {Q1 : Value → CD9 → Prop} (q : Q1 (.ref s.heap.objs.size) { s with heap := s.heap.push (G8 (E8 w)) }) : codeAny (model P w) A (.call (.builtin "set.__new__") ⟨[.type "set", v], []⟩) (wants Q1 E) s := by
 refine codeAny_call_builtin F.plain_set_new F.entry_set_new (CN8 (F.newCall_set_1 v) ?_)
 unfold CN1.«set.__new__» Builtin.Frozenset.newClass
 have y := sub_set_self
 obtain ⟨hp, g, d, tk, os⟩ := s
 dsimp only at q ⊢
 wp_walk
 refine CK4 (CD6 ?_)
 dsimp only
 simp only [newObj]
 exact CD4 (wpAny_alloc (CD6 (CD6 q)))
theorem TL : isSubtype (.type "tuple") (.type "set") = pure false := by rw [CX2]; kernel_rfl
theorem WG : isSubtype (.type "tuple") (.type "frozenset") = pure false := by rw [CX2]; kernel_rfl
set_option maxHeartbeats 3200000 in
theorem ST {l : Addr} {items : List Value} (hh : A.handled = none) (hl : s.heap.IsList l items.toArray) (hi : items.length = zs.length) (hv : ∀ (i : Nat) (v : Value), items[i]? = some v → ∃ t, v = Value.str (zs.getD i ⟨#[]⟩) t) (hb : zs.length + 1 < CM3)
  (q : ∀ h' tk L, TSet P w h' s.heap.objs.size L → (∀ z, z ∈ L ↔ z ∈ zs) → (∀ b o, s.heap.get? b = some o → h'.get? b = some o) → Q (.ref s.heap.objs.size) { s with heap := h', toks := tk }) :
  wpAny (model P w) A (call (.type "set") [.ref l]) Q E s := by
 obtain ⟨c, tl, m1⟩ := F.called_set.mro
 have m2 := F.called_set.made
 have m3 := F.called_set.sub
 have m4 := F.called_set.notType
 have m5 := F.called_set.canCreate
 have m6 := F.typeCall_set_1 (.ref l)
 refine wpAny_call (codeAny_of_tree ?_)
 show wpAny _ _ (callAny (.type "set") _) _ _ _
 refine CD6 ⟨Code.quiet_builtin _ (by decide +kernel), CT0 F.entry_type_call ?_⟩
 rw [Around.under_plain (weight_type_call_type "set" [.ref l] []) rfl]
 repeat (any_goals (first | assumption | wp_step))
 refine CU1 (RL (.ref l) (E := E) (Q1 := fun v s1 => v = .ref s.heap.objs.size ∧ s1 = { s with heap := s.heap.push (G8 (E8 w)) }) ⟨rfl, rfl⟩) fun r s1 hr => ?_
 cases r with
 | error e => exact hr
 | ok fl =>
  cases fl with
  | next => exact hr.elim
  | brk => exact hr.elim
  | cont => exact hr.elim
  | ret v =>
   obtain ⟨rfl, rfl⟩ := hr
   have gS : (s.heap.push (G8 (E8 w))).get? s.heap.objs.size = some (G8 (E8 w)) := CE4 _ rfl
   have tS : Shared.TypeIs { s with heap := s.heap.push (G8 (E8 w)) } (.ref s.heap.objs.size) "set" := ⟨_, gS, rfl⟩
   have m7 := F.called_set.init.lookup
   have m8 := F.called_set.init.bind (.ref s.heap.objs.size)
   repeat (any_goals (first | assumption | wp_step))
   refine CU1 (codeAny_call_builtin (R := wants (fun r s2 => r = .none ∧ ∃ h' tk L, s2 = { s with heap := h', toks := tk } ∧ TSet P w h' s.heap.objs.size L ∧ (∀ z, z ∈ L ↔ z ∈ zs) ∧ ∀ b o, s.heap.get? b = some o → h'.get? b = some o) E) F.called_set.init.plain F.entry_set_init (check_set_init_1 tS ?_)) fun r2 s2 hr2 => ?_
   ·obtain ⟨⟨oc, od, ot, osl⟩, ho, hc, no, hd⟩ := id hl
    simp only at hc hd
    subst hc hd
    have ho' : (s.heap.push (G8 (E8 w))).get? l = some { cls := .type "list", dict := od, data := .seq items.toArray no, slots := osl } := CD5 _ ho
    have n1 := F.sub_list_set
    have n2 := F.sub_list_frozenset
    have n3 : (Value.type "list" == Value.type "dict") = false := by decide
    have l1 : (s.heap.push (G8 (E8 w))).IsList l items.toArray := ⟨_, ho', rfl, no, rfl⟩
    have lS : l < s.heap.objs.size := CE2 ho
    unfold CN1.«set.__init__» noKeywords CX6
    generalize hPI : pyIter = PI
    wp_walk
    subst hPI
    refine CX7 l1 ?_
    refine CD4 (wpAny_runValue ?_)
    have h3 : A.in1.in1.in1.handled = none := by simp [hh]
    have nI : l ≠ (s.heap.push (G8 (E8 w))).objs.size := by rw [CL4]; exact CF6 (CW5 lS)
    have nS : s.heap.objs.size ∉ [(s.heap.push (G8 (E8 w))).objs.size, l] := by
     rw [CL4]
     simp only [CF9, CG5, or_false, not_or]
     exact ⟨CF6 (Nat.lt_succ_self _), CR6 lS⟩
    refine TV ((Walks.list h3 _ l nI items.toArray).toS) nS (zs := zs) (by simp [hi]) (fun i v _ hx => hv i v (by simpa using hx)) (by simpa [hi] using hb) _ 0 _ [] rfl (CK6 _) ⟨⟨_, CE4 _ rfl, rfl, rfl⟩, l1.push _⟩ (FK (CD5 _ gS)) (fun z => by simp) fun s' L mv T mem => ?_
    obtain ⟨h', g', d', tk', os'⟩ := s'
    obtain rfl : g' = s.gens := mv.gens
    obtain rfl : d' = s.drawn := mv.drawn
    obtain rfl : os' = s.os := mv.os
    show wpAny _ _ _ _ _ _
    refine CD6 ?_
    show wpAny _ _ (ret Value.none) _ _ _
    refine CD6 ⟨rfl, h', tk', L, rfl, T, mem, fun b o e => ?_⟩
    have hb1 := CE2 e
    refine mv.heap b o ?_ (CD5 _ (CD5 _ e))
    simp only [CF9, CG5, or_false, not_or, CL4]
    exact ⟨CF6 hb1, CF6 (CW5 hb1)⟩
   ·cases r2 with
    | error e => exact hr2
    | ok fl2 =>
     cases fl2 with
     | next => exact hr2.elim
     | brk => exact hr2.elim
     | cont => exact hr2.elim
     | ret v =>
      obtain ⟨rfl, h', tk, L, rfl, T, mem, kp⟩ := hr2
      repeat (any_goals (first | assumption | wp_step))
      exact q h' tk L T mem kp
set_option maxHeartbeats 3200000 in
theorem PU {l : Addr} {items : List Value} (hh : A.handled = none) (hl : s.heap.IsTuple l items.toArray) (hi : items.length = zs.length) (hv : ∀ (i : Nat) (v : Value), items[i]? = some v → ∃ t, v = Value.str (zs.getD i ⟨#[]⟩) t) (hb : zs.length + 1 < CM3)
  (q : ∀ h' tk L, TSet P w h' s.heap.objs.size L → (∀ z, z ∈ L ↔ z ∈ zs) → (∀ b o, s.heap.get? b = some o → h'.get? b = some o) → Q (.ref s.heap.objs.size) { s with heap := h', toks := tk }) :
  wpAny (model P w) A (call (.type "set") [.ref l]) Q E s := by
 obtain ⟨c, tl, m1⟩ := F.called_set.mro
 have m2 := F.called_set.made
 have m3 := F.called_set.sub
 have m4 := F.called_set.notType
 have m5 := F.called_set.canCreate
 have m6 := F.typeCall_set_1 (.ref l)
 refine wpAny_call (codeAny_of_tree ?_)
 show wpAny _ _ (callAny (.type "set") _) _ _ _
 refine CD6 ⟨Code.quiet_builtin _ (by decide +kernel), CT0 F.entry_type_call ?_⟩
 rw [Around.under_plain (weight_type_call_type "set" [.ref l] []) rfl]
 repeat (any_goals (first | assumption | wp_step))
 refine CU1 (RL (.ref l) (E := E) (Q1 := fun v s1 => v = .ref s.heap.objs.size ∧ s1 = { s with heap := s.heap.push (G8 (E8 w)) }) ⟨rfl, rfl⟩) fun r s1 hr => ?_
 cases r with
 | error e => exact hr
 | ok fl =>
  cases fl with
  | next => exact hr.elim
  | brk => exact hr.elim
  | cont => exact hr.elim
  | ret v =>
   obtain ⟨rfl, rfl⟩ := hr
   have gS : (s.heap.push (G8 (E8 w))).get? s.heap.objs.size = some (G8 (E8 w)) := CE4 _ rfl
   have tS : Shared.TypeIs { s with heap := s.heap.push (G8 (E8 w)) } (.ref s.heap.objs.size) "set" := ⟨_, gS, rfl⟩
   have m7 := F.called_set.init.lookup
   have m8 := F.called_set.init.bind (.ref s.heap.objs.size)
   repeat (any_goals (first | assumption | wp_step))
   refine CU1 (codeAny_call_builtin (R := wants (fun r s2 => r = .none ∧ ∃ h' tk L, s2 = { s with heap := h', toks := tk } ∧ TSet P w h' s.heap.objs.size L ∧ (∀ z, z ∈ L ↔ z ∈ zs) ∧ ∀ b o, s.heap.get? b = some o → h'.get? b = some o) E) F.called_set.init.plain F.entry_set_init (check_set_init_1 tS ?_)) fun r2 s2 hr2 => ?_
   ·obtain ⟨⟨oc, od, ot, osl⟩, ho, hc, no, hd⟩ := id hl
    simp only at hc hd
    subst hc hd
    have ho' : (s.heap.push (G8 (E8 w))).get? l = some { cls := .type "tuple", dict := od, data := .seq items.toArray no, slots := osl } := CD5 _ ho
    have n1 := TL
    have n2 := WG
    have n3 : (Value.type "tuple" == Value.type "dict") = false := by decide
    have l1 : (s.heap.push (G8 (E8 w))).IsTuple l items.toArray := ⟨_, ho', rfl, no, rfl⟩
    have lS : l < s.heap.objs.size := CE2 ho
    unfold CN1.«set.__init__» noKeywords CX6
    generalize hPI : pyIter = PI
    wp_walk
    subst hPI
    refine CW7 l1 ?_
    refine CD4 (wpAny_runValue ?_)
    have h3 : A.in1.in1.in1.handled = none := by simp [hh]
    have nI : l ≠ (s.heap.push (G8 (E8 w))).objs.size := by rw [CL4]; exact CF6 (CW5 lS)
    have nS : s.heap.objs.size ∉ [(s.heap.push (G8 (E8 w))).objs.size, l] := by
     rw [CL4]
     simp only [CF9, CG5, or_false, not_or]
     exact ⟨CF6 (Nat.lt_succ_self _), CR6 lS⟩
    refine TV ((Walks.tuple h3 _ l nI items.toArray).toS) nS (zs := zs) (by simp [hi]) (fun i v _ hx => hv i v (by simpa using hx)) (by simpa [hi] using hb) _ 0 _ [] rfl (CK6 _) ⟨⟨_, CE4 _ rfl, rfl, rfl⟩, l1.push _⟩ (FK (CD5 _ gS)) (fun z => by simp) fun s' L mv T mem => ?_
    obtain ⟨h', g', d', tk', os'⟩ := s'
    obtain rfl : g' = s.gens := mv.gens
    obtain rfl : d' = s.drawn := mv.drawn
    obtain rfl : os' = s.os := mv.os
    show wpAny _ _ _ _ _ _
    refine CD6 ?_
    show wpAny _ _ (ret Value.none) _ _ _
    refine CD6 ⟨rfl, h', tk', L, rfl, T, mem, fun b o e => ?_⟩
    have hb1 := CE2 e
    refine mv.heap b o ?_ (CD5 _ (CD5 _ e))
    simp only [CF9, CG5, or_false, not_or, CL4]
    exact ⟨CF6 hb1, CF6 (CW5 hb1)⟩
   ·cases r2 with
    | error e => exact hr2
    | ok fl2 =>
     cases fl2 with
     | next => exact hr2.elim
     | brk => exact hr2.elim
     | cont => exact hr2.elim
     | ret v =>
      obtain ⟨rfl, h', tk, L, rfl, T, mem, kp⟩ := hr2
      repeat (any_goals (first | assumption | wp_step))
      exact q h' tk L T mem kp
end
end TSt
namespace TSt
open PySem
theorem slot_si_next : Slot "set_iterator" "__next__" "set_iterator.__next__" :=
 .of (owner := "set_iterator") (n := "__next__") (by rw [typeLookup_type, builtinLookup_eq_fast]; kernel_rfl) (by decide +kernel) (by decide +kernel) (by decide +kernel) (by first | exact .inl (by decide +kernel) | exact .inr (by decide +kernel)) (by rw [CX2]; kernel_rfl)
theorem N5 : entryFor table "set_iterator.__next__" = some CN1.«set_iterator.__next__» := entryFor_of_fast (by kernel_rfl)
theorem O9 (a : Value) : argsOk "set_iterator.__next__" ⟨[a], []⟩ := by unfold argsOk; kernel_rfl
def SetAt (h : Heap) (a : Addr) (es : Array (Int × Value)) (ep : Nat) (t : CQ6) : Prop := ∃ o, h.get? a = some o ∧ o.data = .set es ep t ∧ t.fits es.size = true
abbrev K3 (first : Value) (i : Nat) (a : Addr) (n ep : Nat) : Obj := { cls := .type "set_iterator", data := .fields #[first, .int i 0, .ref a, .int n 0, .int ep 0] }
section
variable {P : CI2} {w : World} {A : CL2} {E : Value → CD9 → Prop} {s : CD9} {I a pl : Addr} {es : Array (Int × Value)} {ep i p slot nx : Nat} {t : CQ6} {x : Value} {hs : Int} {ps : Array Value} {Q : Option Value → CD9 → Prop}
theorem AI5 {first : Value} (hI : h.get? I = some (K3 first i a es.size ep)) : (h.update I (CH2 (·.setIfInBounds 1 (CU0 ((i : Int) + 1))))).get? I = some (K3 first (i + 1) a es.size ep) := by
 rw [CI0 _ hI rfl]
 rfl
theorem BF5 (hI : s.heap.get? I = some (K3 (.ref pl) i a es.size ep)) (hS : SetAt s.heap a es ep t) (hT : s.heap.IsTuple pl ps) (hp : ps[i]? = some (.int (p : Nat) 0)) (hx : es[p]? = some (hs, x))
  (q : ∀ h', h'.get? I = some (K3 (.ref pl) (i + 1) a es.size ep) → CK3 I s.heap h' → Q (some x) { s with heap := h' }) : wpAny (model P w) A (CW8 (.ref I)) Q E s := by
 have ti : s.TypeIs (.ref I) "set_iterator" := ⟨_, hI, rfl⟩
 obtain ⟨o, ho, hd, hf⟩ := id hS
 unfold CW8
 refine CD4 (CU4 (CI8 (name := CV0 "__next__") ti slot_si_next (CL0 slot_si_next ti N5 ?_ (O9 _))))
 unfold CN1.«set_iterator.__next__»
 refine CD4 (CN8 (show slotArgs "__next__" 0 ⟨[.ref I], []⟩ = pure (.ref I, []) from rfl) ?_)
 dsimp only
 refine CD4 (wpAny_fieldsOf hI rfl ?_)
 dsimp only
 refine CD4 (CM9 ho hd hf ?_)
 rw [if_neg (by simp)]
 simp only [CL3]
 obtain ⟨ol, hol, _, nl, hdl⟩ := hT
 refine CD4 (CM6 hol hdl ?_)
 dsimp only
 rw [hp]
 dsimp only
 unfold setNextDrawn
 refine CD4 (CD4 (CH1 ho hd hf ?_))
 dsimp only
 rw [if_neg (by simp), CL3, hx]
 dsimp only
 exact CD6 (CD4 (CK2 hI rfl (by simp) (CD6 ⟨x, rfl, CD6 (q _ (AI5 hI) (CJ2 ..))⟩)))
theorem BC3 {h1 : Heap} (hh : A.handled = none) (hk : CS7 I s.heap h1) (q : ∀ h', CS7 I s.heap h' → Q none { s with heap := h' }) :
  wpAny (model P w) A.in1 (do
   let e ← newExc (.type "StopIteration") []
   raiseNew e : Sem PySem.Fin) (fun fin s' => ∃ v, fin = Fin.done (Flow.ret v) ∧ wpAny (model P w) A (pure (some v)) Q E s') (fun e s' => wpAny (model P w) A (do if ← isInstance e (.type "StopIteration") then pure none else throw e) Q E s') { s with heap := h1 } := by
 refine CD4 ?_
 simp only [newExc, newTuple]
 refine CD4 (CG4 ?_ (by size_fits))
 refine CD4 (m := firstArgMember _ _) (CN8 (a := Value.none) (by first | rfl | (simp only [firstArgMember]; rfl)) (CG4 ?_ (by size_fits)))
 simp only [raiseNew]
 refine CD4 (wpAny_handled ?_)
 rw [show A.in1.handled = none from hh]
 refine CD4 (CD6 (wpAny_throw ?_))
 refine CD4 (CR7 (T := "StopIteration") (b := true) ⟨_, CE4 _ rfl, rfl⟩ isSubtype_stop ?_)
 exact CD6 (q _ ((hk.push _).push _))
theorem BP4 (hh : A.handled = none) (hI : s.heap.get? I = some (K3 (.ref pl) i a es.size ep)) (hS : SetAt s.heap a es ep t) (hT : s.heap.IsTuple pl ps) (hp : ps[i]? = none)
  (q : ∀ h', CS7 I s.heap h' → Q none { s with heap := h' }) : wpAny (model P w) A (CW8 (.ref I)) Q E s := by
 have ti : s.TypeIs (.ref I) "set_iterator" := ⟨_, hI, rfl⟩
 obtain ⟨o, ho, hd, hf⟩ := id hS
 unfold CW8
 refine CD4 (CU4 (CI8 (name := CV0 "__next__") ti slot_si_next (CL0 slot_si_next ti N5 ?_ (O9 _))))
 unfold CN1.«set_iterator.__next__»
 refine CD4 (CN8 (show slotArgs "__next__" 0 ⟨[.ref I], []⟩ = pure (.ref I, []) from rfl) ?_)
 dsimp only
 refine CD4 (wpAny_fieldsOf hI rfl ?_)
 dsimp only
 refine CD4 (CM9 ho hd hf ?_)
 rw [if_neg (by simp)]
 simp only [CL3]
 obtain ⟨ol, hol, _, nl, hdl⟩ := hT
 refine CD4 (CM6 hol hdl ?_)
 dsimp only
 rw [hp]
 dsimp only
 have g1 : (s.heap.update I (CH2 (·.setIfInBounds 0 (CU0 0)))).get? I = some (K3 (.int 0 0) i a es.size ep) := by
  rw [CI0 _ hI rfl]; rfl
 refine CD4 (CK2 hI rfl (by simp) ?_)
 refine CD4 (CK2 g1 rfl (by simp) ?_)
 have sb : CK3 I s.heap ((s.heap.update I (CH2 (·.setIfInBounds 0 (CU0 0)))).update I (CH2 (·.setIfInBounds 2 Value.none))) := (CJ2 ..).trans (CJ2 ..)
 refine BC3 (s := s) hh sb.extBut q
theorem AI9 (hI : s.heap.get? I = some (K3 (.int (slot : Nat) 0) i a es.size ep)) (hS : SetAt s.heap a es ep t) (hn : ∀ {A E} {Q : Option (Value × Nat) → CD9 → Prop}, Q (some (x, nx)) s → wpAny (model P w) A (setNext a slot i ep) Q E s)
  (q : ∀ h', h'.get? I = some (K3 (.int (nx : Nat) 0) (i + 1) a es.size ep) → CK3 I s.heap h' → Q (some x) { s with heap := h' }) : wpAny (model P w) A (CW8 (.ref I)) Q E s := by
 have ti : s.TypeIs (.ref I) "set_iterator" := ⟨_, hI, rfl⟩
 obtain ⟨o, ho, hd, hf⟩ := id hS
 unfold CW8
 refine CD4 (CU4 (CI8 (name := CV0 "__next__") ti slot_si_next (CL0 slot_si_next ti N5 ?_ (O9 _))))
 unfold CN1.«set_iterator.__next__»
 refine CD4 (CN8 (show slotArgs "__next__" 0 ⟨[.ref I], []⟩ = pure (.ref I, []) from rfl) ?_)
 dsimp only
 refine CD4 (wpAny_fieldsOf hI rfl ?_)
 dsimp only
 refine CD4 (CM9 ho hd hf ?_)
 rw [if_neg (by simp)]
 simp only [CL3]
 refine CD4 (hn ?_)
 dsimp only
 have g1 : (s.heap.update I (CH2 (·.setIfInBounds 0 (CU0 nx)))).get? I = some (K3 (.int (nx : Nat) 0) i a es.size ep) := by
  rw [CI0 _ hI rfl]; rfl
 exact CD4 (CK2 hI rfl (by simp) (CD4 (CK2 g1 rfl (by simp) (CD6 ⟨x, rfl, CD6 (q _ (AI5 g1) ((CJ2 ..).trans (CJ2 ..)))⟩))))
theorem AF8 (hh : A.handled = none) (hI : s.heap.get? I = some (K3 (.int (slot : Nat) 0) i a es.size ep)) (hS : SetAt s.heap a es ep t) (hn : ∀ {A E} {Q : Option (Value × Nat) → CD9 → Prop}, Q none s → wpAny (model P w) A (setNext a slot i ep) Q E s)
  (q : ∀ h', CS7 I s.heap h' → Q none { s with heap := h' }) : wpAny (model P w) A (CW8 (.ref I)) Q E s := by
 have ti : s.TypeIs (.ref I) "set_iterator" := ⟨_, hI, rfl⟩
 obtain ⟨o, ho, hd, hf⟩ := id hS
 unfold CW8
 refine CD4 (CU4 (CI8 (name := CV0 "__next__") ti slot_si_next (CL0 slot_si_next ti N5 ?_ (O9 _))))
 unfold CN1.«set_iterator.__next__»
 refine CD4 (CN8 (show slotArgs "__next__" 0 ⟨[.ref I], []⟩ = pure (.ref I, []) from rfl) ?_)
 dsimp only
 refine CD4 (wpAny_fieldsOf hI rfl ?_)
 dsimp only
 refine CD4 (CM9 ho hd hf ?_)
 rw [if_neg (by simp)]
 simp only [CL3]
 refine CD4 (hn ?_)
 dsimp only
 exact CD4 (CK2 hI rfl (by simp) (BC3 hh (CJ2 ..).extBut q))
end
theorem W9 {α : Type} : ∀ {l : List α} {i : Nat} {x : α}, l[i]? = some x → CJ3 (x :: l.eraseIdx i) l
 | y :: l, 0, x, e => by
  cases e
  exact .refl _
 | y :: l, i + 1, x, e => by
  have := W9 (l := l) (i := i) (x := x) (by simpa using e)
  exact (List.Perm.swap y x _).trans (this.cons y)
theorem YE {α : Type} (nxt : Nat → Nat) : ∀ (n k : Nat) (l : List α) (out : Array α), l.length = n → CJ3 (pickOrder.go nxt n k l out).toList (out.toList ++ l)
 | 0, k, l, out, e => by
  rw [List.length_eq_zero_iff.mp e, CM4]
  exact .refl _
 | n + 1, k, l, out, e => by
  have hi : nxt k % l.length < l.length := Nat.mod_lt _ (by lia)
  obtain ⟨x, hx⟩ : ∃ x, l[nxt k % l.length]? = some x := ⟨_, CE8 hi⟩
  unfold pickOrder.go
  rw [hx]
  dsimp only
  refine (YE nxt n (k + 1) _ _ (by rw [CQ1 hi]; lia)).trans ?_
  rw [Array.toList_push, CS6]
  exact (W9 hx).append_left _
theorem GS (nxt : Nat → Nat) (xs : Array α) : CJ3 (CV4 nxt xs).toList xs.toList := YE nxt xs.size 0 xs.toList #[] (by simp)
section
variable {P : CI2} {w : World} {A : CL2} {E : Value → CD9 → Prop}
theorem UJ {M : Model} {src : Source} {Q : Nat → CD9 → Prop} (hn : n ≠ 0) (q : ∀ i d, i < n → Q i { s with drawn := d }) : wpAny M A (choose src n) Q E s := fun Γ p _ => by
 show Sem.wp M Γ (.choose src n _) _ _ p s
 rw [Sem.wp_choose]
 exact ⟨hn, q _ _ (Nat.mod_lt _ (Nat.pos_of_ne_zero hn))⟩
theorem DU {M : Model} {α : Type} : ∀ {n : Nat} {l : List α} {s : CD9} {Q : List α → CD9 → Prop}, l.length = n → (∀ l' d, CJ3 l' l → Q l' { s with drawn := d }) → wpAny M A (drawOrder n l) Q E s
 | 0, l, s, Q, e, q => by
  have := q [] s.drawn (by rw [List.length_eq_zero_iff.mp e])
  unfold drawOrder
  exact CD6 this
 | n + 1, [], s, Q, e, q => by cases e
 | n + 1, x :: l, s, Q, e, q => by
  unfold drawOrder
  refine CD4 (UJ (by simp) fun i d hi => ?_)
  rw [CE8 hi]
  dsimp only
  refine CD4 (DU (by rw [CQ1 hi]; lia) fun l' d' hp => CD6 ?_)
  exact q _ d' ((hp.cons _).trans (W9 (CE8 hi)))
end
theorem IR : entryFor table "set.__iter__" = some CN1.«frozenset.__iter__» := entryFor_alias (id' := "frozenset.__iter__") (by kernel_rfl) rfl (by decide +kernel) (by kernel_rfl)
theorem FU : Slot "set_iterator" "__iter__" "set_iterator.__iter__" :=
 .of (owner := "set_iterator") (n := "__iter__") (by rw [typeLookup_type, builtinLookup_eq_fast]; kernel_rfl) (by decide +kernel) (by decide +kernel) (by decide +kernel) (by first | exact .inl (by decide +kernel) | exact .inr (by decide +kernel)) (by rw [CX2]; kernel_rfl)
theorem LA : entryFor table "set_iterator.__iter__" = some CN1.«dict_keyiterator.__iter__» := entryFor_alias (id' := "dict_keyiterator.__iter__") (by kernel_rfl) rfl (by decide +kernel) (by kernel_rfl)
theorem NP (a : Value) : argsOk "set_iterator.__iter__" ⟨[a], []⟩ := by unfold argsOk; kernel_rfl
section
variable {P : CI2} {w : World} {A : CL2} {E : Value → CD9 → Prop} {I a pl : Addr} {es : Array (Int × Value)} {ep : Nat} {t : CQ6}
def StD (I a pl : Addr) (es : Array (Int × Value)) (ep : Nat) (t : CQ6) (ps : Array Value) (i : Nat) (s : CD9) : Prop := s.heap.get? I = some (K3 (.ref pl) i a es.size ep) ∧ SetAt s.heap a es ep t ∧ s.heap.IsTuple pl ps
theorem SetAt.at' (x : SetAt h a es ep t) (k : ∀ o, h.get? a = some o → h'.get? a = some o) : SetAt h' a es ep t := by
 obtain ⟨o, g, r⟩ := x
 exact ⟨o, k o g, r⟩
theorem PQ (g : s.heap.get? I = some o) (c : o.cls = .type "set_iterator") (q : Q (.ref I) s) : wpAny (model P w) A (pyIter (.ref I)) Q E s := by
 have ti : s.TypeIs (.ref I) "set_iterator" := ⟨_, g, c⟩
 refine wpAny_pyIter_slot ti FU (CL0 FU ti LA ?_ (NP _))
 exact CD6 ⟨_, rfl, "set_iterator", _, ti, slot_si_next.lookup, q⟩
theorem BZ5 (hh : A.handled = none) (hIa : a ≠ I) (hIp : pl ≠ I) {ps : List Nat} (hlt : ∀ p ∈ ps, p < es.size) :
  WalksS P w A I [I, a, pl] [I] (fun x y => y = x) ps.length (fun i v => (ps.map fun p => (es.getD p (0, .none)).2)[i]? = some v) (StD I a pl es ep t (ps.map fun (p : Nat) => CU0 p).toArray) where
 sub := fun b hb => by simp at hb; simp [hb]
 grefl := fun _ => rfl
 gtrans := fun _ _ _ x y => y.trans x
 frame := fun i s h' tk st _ k => ⟨k I (by simp) _ st.1, st.2.1.at' fun o e => k a (by simp) o e, st.2.2.at fun o e => k pl (by simp) o e⟩
 item := fun i s Q E hi st q => by
  obtain ⟨p, hp⟩ : ∃ p, ps[i]? = some p := ⟨_, CE8 hi⟩
  have hl := hlt p (CF5 hp)
  refine BF5 st.1 st.2.1 st.2.2 (p := p) (hs := es[p].1) (x := es[p].2) (by simp [hp, CU0]) (by simp [hl]) fun h' g sb => ?_
  refine q _ _ (by simp [hp, Array.getD, hl]) ⟨g, st.2.1.at' fun o e => (sb.2 a hIa).trans e, st.2.2.at fun o e => (sb.2 pl hIp).trans e⟩ ⟨fun b o hb e => (sb.2 b (by simpa using hb)).trans e, rfl, rfl, rfl, CE9 _⟩
 done := fun s Q E st q => by
  refine BP4 hh st.1 st.2.1 st.2.2 (by simp) fun h' x => ?_
  exact q _ ⟨fun b o hb e => x b o (by simpa using hb) e, rfl, rfl, rfl, CE9 _⟩
 self := fun i s Q E st q => PQ st.1 rfl q
def StB (I a : Addr) (es : Array (Int × Value)) (ep : Nat) (t : CQ6) (i : Nat) (s : CD9) : Prop := s.heap.get? I = some (K3 (.int (0 : Nat) 0) i a es.size ep) ∧ SetAt s.heap a es ep t
theorem BB6 {slot : Nat} (hb : w.params.followText "set-order" = true) (hS : SetAt s.heap a es ep t) {Q : Option (Value × Nat) → CD9 → Prop}
  (q : Q (((CV4 (w.params.setOrder a ep) es)[i]?).map fun e => (e.2, slot)) s) : wpAny (model P w) A (setNext a slot i ep) Q E s := by
 obtain ⟨o, ho, hd, hf⟩ := hS
 unfold setNext
 refine CD4 (CH1 ho hd hf ?_)
 dsimp only
 unfold CU9
 refine CD4 (CD4 (CK4 (CD6 ?_)))
 show wpAny _ _ (if w.params.followText "set-order" = true then _ else _) _ _ _
 rw [if_pos hb, if_neg (by simp)]
 unfold setWalk
 refine CD4 (CD4 (CH1 ho hd hf ?_))
 dsimp only
 unfold CU9
 refine CD4 (CD4 (CK4 (CD6 ?_)))
 show wpAny _ _ (if w.params.followText "set-order" = true then _ else _) _ _ _
 rw [if_pos hb]
 exact CD4 (CK4 (CD6 (CD6 q)))
theorem BZ4 (hh : A.handled = none) (hIa : a ≠ I) (hb : w.params.followText "set-order" = true) :
  WalksS P w A I [I, a] [I] (fun x y => y = x) (CV4 (w.params.setOrder a ep) es).size (fun i v => ((CV4 (w.params.setOrder a ep) es).toList.map (·.2))[i]? = some v) (StB I a es ep t) where
 sub := fun b hb => by simp at hb; simp [hb]
 grefl := fun _ => rfl
 gtrans := fun _ _ _ x y => y.trans x
 frame := fun i s h' tk st _ k => ⟨k I (by simp) _ st.1, st.2.at' fun o e => k a (by simp) o e⟩
 item := fun i s Q E hi st q => by
  generalize hW : CV4 (w.params.setOrder a ep) es = W at hi q
  refine AI9 st.1 st.2 (nx := 0) (x := W[i].2) (fun {A E Q} y => BB6 hb st.2 (by rw [hW, CQ3 hi]; exact y)) fun h' g sb => ?_
  exact q _ _ (by simp [hi]) ⟨g, st.2.at' fun o e => (sb.2 a hIa).trans e⟩ ⟨fun b o hb e => (sb.2 b (by simpa using hb)).trans e, rfl, rfl, rfl, CE9 _⟩
 done := fun s Q E st q => by
  generalize hW : CV4 (w.params.setOrder a ep) es = W at st
  refine AF8 hh st.1 st.2 (fun {A E Q} y => BB6 hb st.2 (by rw [hW, CS1 (CE9 _)]; exact y)) fun h' x => ?_
  exact q _ ⟨fun b o hb e => x b o (by simpa using hb) e, rfl, rfl, rfl, CE9 _⟩
 self := fun i s Q E st q => PQ st.1 rfl q
end
theorem UX : ∀ {x : Array α}, x.size = 1 → ∃ y, x = #[y]
 | ⟨[y]⟩, _ => ⟨y, rfl⟩
section
variable {P : CI2} {w : World} {A : CL2} {E : Value → CD9 → Prop} {I a pl : Addr} {es : Array (Int × Value)} {ep : Nat} {t : CQ6}
theorem AI8 {slot : Nat} (hb : w.params.followText "set-order" = false) (h1 : es.size ≤ 1) (ld : t.led = true) (hS : SetAt s.heap a es ep t) {Q : Option (Value × Nat) → CD9 → Prop}
  (q : Q (match es[SetTable.below t.place slot]?, t.place[SetTable.below t.place slot]? with | some (_, x), some j => some (x, j + 1) | _, _ => none) s) : wpAny (model P w) A (setNext a slot i ep) Q E s := by
 obtain ⟨o, ho, hd, hf⟩ := hS
 unfold setNext
 refine CD4 (CH1 ho hd hf ?_)
 dsimp only
 unfold CU9
 refine CD4 (CD4 (CK4 (CD6 ?_)))
 show wpAny _ _ (if w.params.followText "set-order" = true then _ else _) _ _ _
 rw [if_neg (by rw [hb]; exact CE3)]
 show wpAny _ _ (if (!t.plain && decide (es.size > 1)) = true then _ else _) _ _ _
 rw [if_neg (by rw [decide_eq_false (show ¬ es.size > 1 by lia), CQ4]; exact CE3)]
 refine CD4 (m := if (!t.led && !es.isEmpty) = true then _ else _) ?_
 rw [if_neg (by rw [ld]; exact CE3)]
 exact CD6 (CD6 q)
def StU (I a : Addr) (es : Array (Int × Value)) (ep : Nat) (t : CQ6) (i : Nat) (s : CD9) : Prop :=
 ((i = 0 ∧ s.heap.get? I = some (K3 (.int (0 : Nat) 0) 0 a es.size ep)) ∨ (i = 1 ∧ es.size = 1 ∧ s.heap.get? I = some (K3 (.int ((t.place.getD 0 0 + 1 : Nat) : Int) 0) 1 a es.size ep))) ∧ SetAt s.heap a es ep t
theorem StU.it (x : StU I a es ep t i s) : ∃ o, s.heap.get? I = some o ∧ o.cls = .type "set_iterator" := by
 rcases x.1 with ⟨_, g⟩ | ⟨_, _, g⟩
 ·exact ⟨_, g, rfl⟩
 ·exact ⟨_, g, rfl⟩
theorem MW (j : Nat) : SetTable.below #[j] 0 = 0 ∧ SetTable.below #[j] (j + 1) = 1 := by
 unfold SetTable.below SetTable.below.go
 simp [SetTable.below.go]
theorem BZ6 (hh : A.handled = none) (hIa : a ≠ I) (hb : w.params.followText "set-order" = false) (h1 : es.size ≤ 1) (ld : t.led = true) (hf : t.fits es.size = true) :
  WalksS P w A I [I, a] [I] (fun x y => y = x) es.size (fun i v => (es.toList.map (·.2))[i]? = some v) (StU I a es ep t) where
 sub := fun b hb => by simp at hb; simp [hb]
 grefl := fun _ => rfl
 gtrans := fun _ _ _ x y => y.trans x
 frame := fun i s h' tk st _ k => ⟨st.1.imp (fun y => ⟨y.1, k I (by simp) _ y.2⟩) fun y => ⟨y.1, y.2.1, k I (by simp) _ y.2.2⟩, st.2.at' fun o e => k a (by simp) o e⟩
 item := fun i s Q E hi st q => by
  have e1 : es.size = 1 := by lia
  have pz : t.place.size = 1 := by
   unfold CR0 at hf
   simp only [CH5, beq_iff_eq] at hf
   rw [hf.1, e1]
  obtain ⟨j, ej⟩ := UX pz
  obtain ⟨⟨hs, x⟩, ex⟩ := UX e1
  rcases st.1 with ⟨rfl, g⟩ | ⟨rfl, _, _⟩
  ·refine AI9 g st.2 (nx := j + 1) (x := x) (fun {A E Q} y => AI8 hb h1 ld st.2 (by rw [ej, (MW j).1, ex]; exact y)) fun h' g' sb => ?_
   refine q _ _ (by rw [ex]; rfl) ⟨.inr ⟨rfl, e1, by rw [ej]; exact g'⟩, st.2.at' fun o e => (sb.2 a hIa).trans e⟩ ⟨fun b o hb e => (sb.2 b (by simpa using hb)).trans e, rfl, rfl, rfl, CE9 _⟩
  ·lia
 done := fun s Q E st q => by
  have fin : ∀ h', CS7 I s.heap h' → Q none { s with heap := h' } := fun h' x => q _ ⟨fun b o hb e => x b o (by simpa using hb) e, rfl, rfl, rfl, CE9 _⟩
  rcases st.1 with ⟨e0, g⟩ | ⟨_, e1, g⟩
  ·refine AF8 hh g st.2 (fun {A E Q} y => AI8 hb h1 ld st.2 ?_) fin
   rw [CS1 (by lia)]
   exact y
  ·have pz : t.place.size = 1 := by
    unfold CR0 at hf
    simp only [CH5, beq_iff_eq] at hf
    rw [hf.1, e1]
   obtain ⟨j, ej⟩ := UX pz
   refine AF8 hh g st.2 (fun {A E Q} y => AI8 hb h1 ld st.2 ?_) fin
   rw [ej, show ((#[j] : Array Nat).getD 0 0 + 1) = j + 1 from rfl, (MW j).2, CS1 (by lia)]
   exact y
 self := fun i s Q E st q => by
  obtain ⟨o, g, c⟩ := st.it
  exact PQ g c q
end
section
variable {P : CI2} {w : World} {A : CL2} {E : Value → CD9 → Prop} {I a pl : Addr} {L : List Str}
theorem BC8 (es : Array (Int × Value)) : (CH8 es.size).map (fun p => (es.getD p (0, .none)).2) = es.toList.map (·.2) := by
 apply List.ext_getElem
 ·simp
 ·intro i h1 h2
  simp at h1
  simp [Array.getD, h1]
def Walk (P : CI2) (w : World) (L : List Str) (a : Addr) (s s1 : CD9) (I : Addr) : Prop := ∃ (fp : List Addr) (St : Nat → CD9 → Prop) (vs : List Value),
 (∀ b o, s.heap.get? b = some o → s1.heap.get? b = some o) ∧ s1.gens = s.gens ∧ s1.os = s.os ∧ s1.toks = s.toks ∧
 (∀ A : CL2, A.handled = none → WalksS P w A I fp [I] (fun x y => y = x) vs.length (fun i v => vs[i]? = some v) St) ∧ St 0 s1 ∧ (∀ b ∈ fp, b < s1.heap.objs.size ∧ (b = a ∨ s.heap.get? b = none)) ∧ I ∈ fp ∧ s.heap.get? I = none ∧ CJ3 (vs.map tx) L ∧ ∀ v ∈ vs, ∃ t, v = .str (tx v) t
set_option maxHeartbeats 1000000 in
theorem AH8 (T : TSet P w s.heap a L) (q : ∀ s1 I, Walk P w L a s s1 I → Q (.ref I) s1) : wpAny (model P w) A (pyIter (.ref a)) Q E s := by
 obtain ⟨o, es, ep, t, g, x, d, el, rfl, nd, b, f, pz, ld⟩ := T
 have tS : s.TypeIs (.ref a) "set" := ⟨_, g, x.1⟩
 have la : a < s.heap.objs.size := CE2 g
 have txs : ∀ v ∈ es.toList.map (fun e : Int × Value => e.2), ∃ t, v = .str (tx v) t := fun v hv => by
  obtain ⟨e, he, rfl⟩ := List.mem_map.mp hv
  obtain ⟨t, r⟩ := CN9 (TR el he).1
  exact ⟨t, r⟩
 have mm : (es.toList.map (fun e : Int × Value => e.2)).map tx = es.toList.map fun e => tx e.2 := by rw [CL5]; rfl
 refine wpAny_pyIter_slot tS F.slot_set_iter (CL0 F.slot_set_iter tS IR ?_ (F.args_set_iter_1 _))
 unfold CN1.«frozenset.__iter__»
 refine CD4 (CN8 (show Builtin.Frozenset.slot0 "__iter__" ⟨[.ref a], []⟩ = pure a from rfl) ?_)
 unfold Builtin.Frozenset.sizeOf
 refine CD4 (CD4 (CM9 g d f (CD6 ?_)))
 unfold setDrawn
 refine CD4 (CD4 (CH1 g d f ?_))
 dsimp only
 unfold CU9
 refine CD4 (CD4 (CK4 (CD6 (CD6 ?_))))
 show wpAny _ _ (if (!(w.params.followText "set-order") && (!t.plain && decide (es.size > 1))) = true then _ else _) _ _ _
 cases hb : w.params.followText "set-order" with
 | true =>
  rw [if_neg (by simp)]
  refine CD4 (CD6 ?_)
  refine CD4 (CQ5 g d f ?_)
  refine CD4 (CG4 ?_ (by size_fits))
  have gI : (s.heap.push (K3 (.int (0 : Nat) 0) 0 a es.size ep)).get? s.heap.objs.size = some (K3 (.int (0 : Nat) 0) 0 a es.size ep) := CE4 _ rfl
  refine CD6 ⟨_, rfl, "set_iterator", _, ⟨_, gI, rfl⟩, slot_si_next.lookup, q _ s.heap.objs.size ⟨[s.heap.objs.size, a], StB s.heap.objs.size a es ep t, (CV4 (w.params.setOrder a ep) es).toList.map (·.2), fun b o e => CD5 _ e, rfl, rfl, rfl, fun A hh => ?_, ⟨gI, ⟨o, CD5 _ g, d, f⟩⟩, fun b hb => ?_, by simp, CI9 (CE9 _), ?_, fun v hv => ?_⟩⟩
  ·have W := BZ4 (P := P) (ep := ep) (t := t) (es := es) (I := s.heap.objs.size) hh (CF6 la) hb
   rw [show ((CV4 (w.params.setOrder a ep) es).toList.map (·.2)).length = (CV4 (w.params.setOrder a ep) es).size by simp]
   exact W
  ·rw [CL4]
   simp only [CF9, CG5, or_false] at hb
   rcases hb with rfl | rfl
   ·exact ⟨by lia, .inr (CI9 (CE9 _))⟩
   ·exact ⟨by lia, .inl rfl⟩
  ·rw [← mm]
   exact ((GS (w.params.setOrder a ep) es).map _).map _
  ·refine txs v ?_
   obtain ⟨e, he, rfl⟩ := List.mem_map.mp hv
   exact List.mem_map.mpr ⟨e, (GS _ es).mem_iff.mp he, rfl⟩
 | false =>
  have hl : t.led = true := by rw [ld]; unfold E8; rw [hb]; rfl
  by_cases hz : es.size > 1
  ·have hp : t.plain = false := by
    cases e : t.plain with
    | false => rfl
    | true => have := pz e; lia
   rw [if_pos (by rw [hp, decide_eq_true hz]; rfl)]
   refine CD4 (DU (CL1) fun ps dr pm => ?_)
   have pl : ps.length = es.size := by rw [pm.length_eq, CL1]
   unfold newTuple
   refine CD4 (CG4 ?_ ?_)
   ·let tp : Obj := { cls := .type "tuple", data := .seq (ps.map fun (p : Nat) => CU0 p).toArray }
    have g1 : (s.heap.push tp).get? a = some o := CD5 _ g
    have gt : (s.heap.push tp).get? s.heap.objs.size = some tp := CE4 _ rfl
    refine CD4 (CQ5 g1 d f ?_)
    refine CD4 (CG4 ?_ (by size_fits))
    let it : Obj := K3 (.ref s.heap.objs.size) 0 a es.size ep
    have sI : (s.heap.push tp).objs.size = s.heap.objs.size + 1 := CL4 ..
    have gI : ((s.heap.push tp).push it).get? (s.heap.objs.size + 1) = some it := by
     have y : ((s.heap.push tp).push it).get? (s.heap.push tp).objs.size = some it := CE4 _ rfl
     rwa [sI] at y
    have old : ∀ b o, s.heap.get? b = some o → ((s.heap.push tp).push it).get? b = some o := fun b o e => CD5 _ (CD5 _ e)
    have gt2 : ((s.heap.push tp).push it).get? s.heap.objs.size = some tp := CD5 _ gt
    show wpAny _ _ (ret (.ref (s.heap.push tp).objs.size)) _ _ _
    rw [sI]
    have vp : (ps.map fun p => (es.getD p (0, .none)).2).Perm (es.toList.map fun e => e.2) := by
     have y := pm.map fun p => (es.getD p (0, .none)).2
     rwa [BC8 es] at y
    refine CD6 ⟨_, rfl, "set_iterator", _, ⟨_, gI, rfl⟩, slot_si_next.lookup, q _ (s.heap.objs.size + 1) ⟨[s.heap.objs.size + 1, a, s.heap.objs.size], StD (s.heap.objs.size + 1) a s.heap.objs.size es ep t (ps.map fun (p : Nat) => CU0 p).toArray, ps.map fun p => (es.getD p (0, .none)).2, old, rfl, rfl, rfl, fun A hh => ?_, ⟨gI, ⟨o, old _ _ g, d, f⟩, ⟨tp, gt2, rfl, _, rfl⟩⟩, fun b hb => ?_, by simp, CI9 (Nat.le_succ _), ?_, fun v hv => txs v (vp.mem_iff.mp hv)⟩⟩
    ·have W := BZ5 (P := P) (w := w) (ep := ep) (t := t) (es := es) (I := s.heap.objs.size + 1) (a := a) (pl := s.heap.objs.size) hh (by lia) (by lia) (ps := ps) fun p hp => List.mem_range.mp (pm.mem_iff.mp hp)
     rw [CD8]
     exact W
    ·rw [CL4, sI]
     simp only [CF9, CG5, or_false] at hb
     rcases hb with rfl | rfl | rfl
     ·exact ⟨by lia, .inr (CI9 (Nat.le_succ _))⟩
     ·exact ⟨by lia, .inl rfl⟩
     ·exact ⟨by lia, .inr (CI9 (CE9 _))⟩
    ·rw [← mm]
     exact vp.map _
   ·have sz := CO5 b
    show (ps.map fun (p : Nat) => CU0 p).toArray.size ≤ CE1
    rw [CF4, CD8, pl]
    exact sz
  ·rw [if_neg (by rw [decide_eq_false hz]; simp)]
   refine CD4 (CD6 ?_)
   refine CD4 (CQ5 g d f ?_)
   refine CD4 (CG4 ?_ (by size_fits))
   have gI : (s.heap.push (K3 (.int (0 : Nat) 0) 0 a es.size ep)).get? s.heap.objs.size = some (K3 (.int (0 : Nat) 0) 0 a es.size ep) := CE4 _ rfl
   refine CD6 ⟨_, rfl, "set_iterator", _, ⟨_, gI, rfl⟩, slot_si_next.lookup, q _ s.heap.objs.size ⟨[s.heap.objs.size, a], StU s.heap.objs.size a es ep t, es.toList.map (·.2), fun b o e => CD5 _ e, rfl, rfl, rfl, fun A hh => ?_, ⟨.inl ⟨rfl, gI⟩, ⟨o, CD5 _ g, d, f⟩⟩, fun b hb => ?_, by simp, CI9 (CE9 _), by rw [mm], txs⟩⟩
   ·have W := BZ6 (P := P) (ep := ep) (t := t) (es := es) (I := s.heap.objs.size) hh (CF6 la) hb (by lia) hl f
    rw [show (es.toList.map (fun e : Int × Value => e.2)).length = es.size by simp]
    exact W
   ·rw [CL4]
    simp only [CF9, CG5, or_false] at hb
    rcases hb with rfl | rfl
    ·exact ⟨by lia, .inr (CI9 (CE9 _))⟩
    ·exact ⟨by lia, .inl rfl⟩
end
theorem AT1 : typeLookup (.type "set") "__len__" = pure (some (.builtin "set.__len__")) := by rw [typeLookup_type, builtinLookup_eq_fast]; kernel_rfl
theorem set_set : isSubtype (.type "set") (.type "set") = pure true := by rw [CX2]; kernel_rfl
section
variable {P : CI2} {w : World} {A : CL2} {E : Value → CD9 → Prop} {I a pl : Addr} {L : List Str}
theorem QV {Q : List Value → CD9 → Prop} (hh : A.handled = none) (T : TSet P w s.heap a L)
  (q : ∀ s' vs, (∀ b o, s.heap.get? b = some o → s'.heap.get? b = some o) → s'.gens = s.gens → s'.os = s.os → CJ3 (vs.map tx) L → (∀ v ∈ vs, ∃ t, v = .str (tx v) t) → Q vs s') : wpAny (model P w) A (collect (.ref a)) Q E s := by
 have bL := T.len
 obtain ⟨o, es, ep, t, g, x, _⟩ := id T
 have la : a < s.heap.objs.size := CE2 g
 unfold collect
 refine CD4 (wpAny_runValue (CT0 PySem.F.entry_proto_collect ?_))
 rw [CT6 PySem.F.plain_proto_collect _]
 unfold CN1.«proto.collect»
 dsimp only
 refine CD4 (CG4 ?_)
 refine CD6 ⟨plainId_quiet PySem.F.plain_list_iadd _, CT0 PySem.F.entry_list_iadd ?_⟩
 rw [CT6 PySem.F.plain_list_iadd _]
 let l0 : Obj := { cls := .type "list", data := .seq ([] : List Value).toArray }
 have gl : (s.heap.push l0).get? s.heap.objs.size = some l0 := CE4 _ rfl
 have T1 : TSet P w (s.heap.push l0) a L := T.keep fun o e => CD5 _ e
 have tS : Shared.TypeIs { s with heap := s.heap.push l0 } (.ref a) "set" := ⟨_, CD5 _ g, x.1⟩
 show wpAny _ A.in1 (Builtin.List.listExtendWith (.ref s.heap.objs.size) (.ref a) (.ref s.heap.objs.size)) _ _ { s with heap := s.heap.push l0 }
 unfold Builtin.List.listExtendWith
 refine CD4 (CW6 tS ?_)
 rw [if_neg (by
  have : Builtin.List.listSameRef (.ref s.heap.objs.size) (.ref a) = false := by simp [Builtin.List.listSameRef]; lia
  rw [this]; decide)]
 refine CD4 (AH8 T1 fun s1 I W => ?_)
 obtain ⟨fp, St, vs, old, eg, eo, et, wk, st0, hfp, hI, hnI, pm, txs⟩ := W
 have g1 : s1.heap.get? a = some o := old _ _ (CD5 _ g)
 have tS1 : s1.TypeIs (.ref a) "set" := ⟨_, g1, x.1⟩
 have gl1 := old _ _ gl
 refine CD4 (CH3 ?_)
 unfold Builtin.List.listLengthHint
 refine CD4 (wpAny_specialOf tS1 AT1 ?_)
 dsimp only
 rw [show splitId "set.__len__" = some ("set", "__len__") from by decide +kernel]
 dsimp only
 refine CD4 (CR7 tS1 set_set ?_)
 rw [if_neg (by decide)]
 rw [if_pos (by decide +kernel)]
 refine CD4 (CW6 tS1 ?_)
 dsimp only
 refine CD6 ?_
 rw [if_pos (by decide +kernel)]
 refine CD4 (CP3 ?_)
 unfold Builtin.List.listTouch Builtin.List.listUpdate
 dsimp only
 have nd : ∀ b ∈ fp, b ≠ s.heap.objs.size := fun b hb e => by
  rcases (hfp b hb).2 with z | z
  ·subst e; lia
  ·rw [e] at z
   have := gl.symm.trans z
   cases this
 have u1 := CI0 (CQ0 (·.push .none)) gl1 rfl
 have u2 := CI0 (CQ0 (·.pop)) u1 rfl
 refine CD4 (CD4 (wpAny_updateSeq gl1 rfl ?_))
 refine wpAny_updateSeq u1 rfl ?_
 have oth : ∀ b, b ≠ s.heap.objs.size → ((s1.heap.update s.heap.objs.size (CQ0 (·.push .none))).update s.heap.objs.size (CQ0 (·.pop))).get? b = s1.heap.get? b := fun b hb => by
  rw [CG7 _ _ (Ne.symm hb), CG7 _ _ (Ne.symm hb)]
 have W := wk A.in1 (by simp [hh])
 have hn : vs.length ≤ CE1 := by
  have := pm.length_eq
  rw [CD8] at this
  have := CO5 bL
  lia
 have st1 := W.frame 0 s1 ((s1.heap.update s.heap.objs.size (CQ0 (·.push .none))).update s.heap.objs.size (CQ0 (·.pop))) s1.toks st0 (CE9 _) fun b hb o e => (oth b (nd b hb)).trans e
 refine CD6 ⟨plainId_quiet PySem.F.plain_extend_loop _, codeAny_extend_loopS W hn _ (fun z => nd _ z rfl) _ vs.length 0 _ #[] _ rfl (CK6 _) st1 u2 (ItemsOf.nil _) fun s' acc c mv gS it => ?_⟩
 refine CD4 (wpAny_load gS (CD6 ?_))
 have e : acc.toList = vs := by
  apply List.ext_getElem?
  intro j
  by_cases hj : j < acc.size
  ·rw [CT2, CQ3 hj, it.2 j acc[j] (CQ3 hj)]
  ·rw [CT2, CS1 (by lia), CY0 (by have := it.1; lia)]
 rw [e]
 refine q s' vs (fun b ob hb => ?_) (mv.gens.trans eg) (mv.os.trans eo) pm txs
 have lb := CE2 hb
 have nb : b ≠ s.heap.objs.size := CF6 lb
 have h1 := old b ob (CD5 _ hb)
 refine mv.heap b ob ?_ ((oth b nb).trans h1)
 simp only [CF9, CG5, or_false, not_or]
 refine ⟨nb, fun z => ?_⟩
 subst z
 have := (CD5 l0 hb).symm.trans hnI
 cases this
end
end TSt
namespace TSt
open PySem PyProof.Rows
theorem CM : ∀ {vs : List Value}, (∀ v ∈ vs, ∃ t, v = .str (tx v) t) → StrsAre vs (vs.map tx)
 | [], _ => .nil
 | v :: vs, h => by
  obtain ⟨t, e⟩ := h v CF3
  have r := CM (vs := vs) fun u hu => h u (CF2 _ hu)
  rw [CG9, e]
  exact .cons _ _ r
section
variable {P : CI2} {w : World} {A : CL2} {E : Value → CD9 → Prop} {a : Addr} {L : List Str}
theorem VW (hh : A.handled = none) (T : TSet P w s.heap a L) (h64 : L.length < 64)
  (q : ∀ (s' : CD9) (l n : Nat) (vs : List Value) (zs : List Str), (∀ b o, s.heap.get? b = some o → s'.heap.get? b = some o) → s'.gens = s.gens → s'.os = s.os → s.heap.get? l = none → s'.heap.get? l = some (seqObj "list" vs.toArray n) → StrsAre vs zs → zs.Perm L → sortedS zs = true → Q (.ref l) s') :
  wpAny (model P w) A (call (.builtin "sorted") [.ref a]) Q E s := by
 refine Calls.call_function_entry kind_sorted plain_sorted entry_sorted (args_sorted1 _) ?_
 unfold CN1.«sorted»
 refine CD4 (m := checkCount "sorted" 1 1 _) (CD6 (CD4 (QV (by simp [hh]) T fun s1 vs old eg eo pm txs => ?_)))
 have hS := CM txs
 have lv : vs.length < 64 := by
  have := pm.length_eq
  rw [CD8] at this; lia
 refine CD4 (wpAny_newList ?_ (by rw [CF8]; lia))
 have g0 : (s1.heap.push (seqObj "list" vs.toArray 0)).get? s1.heap.objs.size = some (seqObj "list" vs.toArray 0) := CE4 _ rfl
 have lt : ∀ b o, s.heap.get? b = some o → b < s1.heap.objs.size := fun b o e => CE2 (old b o e)
 refine CD4 (CH3 (CL0 slot_list_sort ⟨_, g0, rfl⟩ entry_list_sort (list_sort_treeK strKind_oneLt g0 hS.keysOf (fun v1 v2 r e => keyKind_strs (by rw [← e]; exact hS)) lv fun st pe so => ⟨_, rfl, ?_⟩) (args_list_sort _)))
 obtain ⟨zs, z1, z2, z3⟩ := sorted_out_str hS pe so
 obtain ⟨n, gn⟩ := sortedHeap_at (out := (arrOf st).map (·.2)) g0
 refine CD6 ⟨_, rfl, q _ s1.heap.objs.size n ((arrOf st).map (·.2)).toList zs (fun b o e => ?_) eg eo ?_ (by rw [Array.toArray_toList]; exact gn) z1 (z2.trans pm) z3⟩
 ·have hl := lt b o e
  rw [sortedHeap_old (CF6 hl) (by rw [CL4]; lia)]
  exact CD5 _ (old b o e)
 ·cases e : s.heap.get? s1.heap.objs.size with
  | none => rfl
  | some o => exact absurd (lt _ _ e) (CK7 _)
end
end TSt
namespace TSt
open PySem
section
variable {P : CI2} {w : World} {A : CL2} {E : Value → CD9 → Prop} {a b r : Addr} {L M : List Str} {s : CD9} {o : Obj} {es : Array (Int × Value)} {ep : Nat} {t : CQ6}
theorem SU {Q : Array (Int × Value) → CD9 → Prop} (g : s.heap.get? a = some o) (d : o.data = .set es ep t) (f : t.fits es.size = true) (pz : t.plain = true → es.size = 0) (ld : t.led = E8 w)
  (q : ∀ W dr, CJ3 W.toList es.toList → Q W { s with drawn := dr }) : wpAny (model P w) A (setWalk a) Q E s := by
 unfold setWalk
 refine CD4 (CH1 g d f ?_)
 dsimp only
 unfold CU9
 refine CD4 (CD4 (CK4 (CD6 ?_)))
 show wpAny _ _ (if w.params.followText "set-order" = true then _ else _) _ _ _
 cases hb : w.params.followText "set-order" with
 | true =>
  rw [if_pos rfl]
  exact CD4 (CK4 (CD6 (q _ s.drawn (GS _ es))))
 | false =>
  rw [if_neg CE3]
  show wpAny _ _ (if (!t.plain && decide (es.size > 1)) = true then _ else _) _ _ _
  by_cases hz : es.size > 1
  ·have hp : t.plain = false := by
    cases e : t.plain with
    | false => rfl
    | true => have := pz e; lia
   rw [if_pos (by rw [hp, decide_eq_true hz]; rfl)]
   refine CD4 (DU (by simp) fun l dr pm => CD6 (q _ dr ?_))
   simpa using pm
  ·rw [if_neg (by rw [decide_eq_false hz, CQ4]; exact CE3)]
   refine CD4 (m := if (!t.led && decide (es.size > 1)) = true then _ else _) ?_
   rw [if_neg (by rw [decide_eq_false hz, CQ4]; exact CE3)]
   exact CD6 (CD6 (q _ s.drawn (.refl _)))
theorem RY {l : List Addr} {Q : Bool → CD9 → Prop} (h : ∀ x ∈ l, ∃ Z, TSet P w s.heap x Z) (q : Q true s) : wpAny (model P w) A (setsQuiet l) Q E s := by
 unfold setsQuiet
 refine CD4 (wpAny_forIn_list _ (fun rest st s' => st = (none, ()) ∧ s' = s ∧ ∀ x ∈ rest, ∃ Z, TSet P w s.heap x Z) _ ?_ ?_ l _ ⟨rfl, rfl, h⟩)
 ·rintro x rest st s' ⟨rfl, rfl, hx⟩
  obtain ⟨Z, o, es, ep, t, g, _, d, el, _, _, _, f, _⟩ := hx x CF3
  refine CD4 (CM9 g d f ?_)
  refine CD4 (wpAny_forIn_array' _ (fun rest st s1 => st = (none, ()) ∧ s1 = s' ∧ ∀ e ∈ rest, e ∈ es.toList) _ ?_ ?_ es _ ⟨rfl, rfl, fun e he => he⟩)
  ·rintro ⟨k, v⟩ rest' st s1 ⟨rfl, rfl, he⟩
   obtain ⟨tk, e⟩ := CN9 (TR el (he _ CF3)).1
   dsimp only at e ⊢
   rw [e]
   exact CD6 ⟨rfl, rfl, fun y hy => he y (CF2 _ hy)⟩
  ·rintro st s1 ⟨rfl, rfl, _⟩
   exact CD6 ⟨rfl, rfl, fun y hy => hx y (CF2 _ hy)⟩
 ·rintro st s' ⟨rfl, rfl, _⟩
  exact CD6 q
theorem AC9 {Q : Array (Int × Value) → CD9 → Prop} {T0 : List Addr} (g : s.heap.get? a = some o) (x : o.ExactSet) (d : o.data = .set es ep t) (el : ElemsOf (strKind P w) es.toList) (nd : (es.toList.map fun e => tx e.2).Nodup) (bd : es.size < CM3) (f : t.fits es.size = true) (pz : t.plain = true → es.size = 0) (ld : t.led = E8 w)
  (hT : ∀ y ∈ T0, ∃ Z, TSet P w s.heap y Z) (hr : TSet P w s.heap r []) (har : a ≠ r)
  (q : ∀ W (s' : CD9), CJ3 W.toList es.toList → (∀ c, c ≠ r → s'.heap.get? c = s.heap.get? c) → TSet P w s'.heap r [] → s'.gens = s.gens → s'.os = s.os → Q W s') : wpAny (model P w) A (setWalkUnseen a T0 (some r)) Q E s := by
 unfold setWalkUnseen
 refine CD4 (CH1 g d f ?_)
 dsimp only
 unfold CU9
 refine CD4 (CD4 (CK4 (CD6 ?_)))
 split
 ·exact SU g d f pz ld fun W dr pm => q W _ pm (fun _ _ => rfl) hr rfl rfl
 ·refine CD4 (RY (fun y hy => ?_) ?_)
  ·rcases CF9.mp hy with rfl | hy
   ·exact ⟨_, o, es, ep, t, g, x, d, el, rfl, nd, bd, f, pz, ld⟩
   ·exact hT y hy
  ·rw [if_neg (by decide)]
   refine CD4 (CP3 ?_)
   obtain ⟨o2, es2, ep2, t2, g2, x2, d2, el2, e2, nd2, b2, f2, pz2, ld2⟩ := id hr
   have z2 : es2 = #[] := by
    have : es2.toList = [] := List.map_eq_nil_iff.mp e2
    exact Array.toList_eq_nil_iff.mp this
   subst z2
   refine CD4 (CH1 g2 d2 f2 ?_)
   dsimp only
   split
   ·refine CD4 (CO3 g2 d2 ?_ (CK6 _))
    have lw : (t2.led && t.led) = E8 w := by rw [ld2, ld, Bool.and_self]
    obtain ⟨g3, _⟩ := SetOf_store (knd := strKind P w) (S' := fun _ => false) (es' := #[]) (t' := { t2 with led := t2.led && t.led, plain := t2.plain && t.plain }) g2 x2 d2 el2 (fun k => by simp) b2 f2
    exact CD6 (q es _ (.refl _) (fun c hc => CG7 _ _ (Ne.symm hc)) ⟨_, #[], _, _, g3, x2, rfl, el2, rfl, List.nodup_nil, b2, f2, fun _ => rfl, lw⟩ rfl rfl)
   ·exact CD6 (q es _ (.refl _) (fun _ _ => rfl) hr rfl rfl)
end
end TSt
namespace TSt
open PySem PySem.Builtin
section
variable {P : CI2} {w : World} {A : CL2} {E : Value → CD9 → Prop} {a b r : Addr} {L M : List Str} {s : CD9} {nm : String}
theorem TSet.ty (T : TSet P w s.heap a L) : s.TypeIs (.ref a) "set" := by
 obtain ⟨o, es, ep, t, g, x, _⟩ := T
 exact ⟨o, g, x.1⟩
theorem EW {Q : Bool → CD9 → Prop} (T : TSet P w s.heap a L) (q : Q true s) : wpAny (model P w) A (Frozenset.isAnySet (.ref a)) Q E s := by
 unfold Frozenset.isAnySet
 exact CD4 (CR7 T.ty set_set (CD6 q))
theorem V3 {Q : Nat → CD9 → Prop} (T : TSet P w s.heap a L) (q : Q L.length s) : wpAny (model P w) A (Frozenset.sizeOf a) Q E s := by
 obtain ⟨o, es, ep, t, g, x, d, el, rfl, nd, bd, f, pz, ld⟩ := T
 rw [CD8, CE5] at q
 unfold Frozenset.sizeOf
 exact CD4 (CM9 g d f (CD6 q))
theorem AG4 {tk : Tok} {Q : Option Nat → CD9 → Prop} (T : TSet P w s.heap a L) (q : ∀ r : Option Nat, r.isSome = decide (z ∈ L) → Q r s) : wpAny (model P w) A (setFind a (.str z tk) ((strKind P w).hash z)) Q E s :=
 wpAny_setFind_of (by simp [strKind, CT7]) rfl T.setOf q
theorem XX (q : Q (.ref s.heap.objs.size) { s with heap := s.heap.push (G8 (E8 w)) }) : wpAny (model P w) A (newSet (.type "set")) Q E s := by
 unfold newSet CU9
 refine CD4 (CD4 (CK4 (CD6 ?_)))
 dsimp only
 exact CG4 q
theorem BO5 {es : Array (Int × Value)} {ep : Nat} {Q : Unit → CD9 → Prop} (g : s.heap.get? a = some o) (d : o.data = .set es ep t) (f : t.fits es.size = true) (q : Q () s) : wpAny (model P w) A (Frozenset.unchanged nm a ep) Q E s := by
 unfold Frozenset.unchanged
 refine CD4 (CQ5 g d f ?_)
 rw [if_neg (by simp)]
 exact CD6 q
set_option maxHeartbeats 1000000 in
theorem BP1 (Ta : TSet P w s.heap a L) (Tb : TSet P w s.heap b M) (hz : ¬ L.length / 4 > M.length) (h64 : L.length < 64)
  (q : ∀ (s' : CD9) r Z, (∀ c o, s.heap.get? c = some o → s'.heap.get? c = some o) → s'.gens = s.gens → s'.os = s.os → s.heap.get? r = none → TSet P w s'.heap r Z → (∀ z, z ∈ Z ↔ z ∈ L ∧ z ∉ M) → Q (.ref r) s') : wpAny (model P w) A (Frozenset.difference nm a (.ref b)) Q E s := by
 unfold Frozenset.difference
 dsimp only
 refine CD4 (EW Tb ?_)
 rw [if_neg (by decide)]
 refine CD4 (m := Frozenset.addrOf (.ref b)) (CD6 ?_)
 rw [if_neg (by simp), if_pos rfl]
 refine CD4 (V3 Tb (CD4 (V3 Ta ?_)))
 rw [if_neg hz]
 unfold Frozenset.baseOf
 refine CD4 (CD4 (CR7 Ta.ty set_set (CD6 ?_)))
 rw [if_pos rfl]
 refine CD4 (XX ?_)
 refine CD4 (m := Frozenset.addrOf (.ref s.heap.objs.size)) (CD6 ?_)
 have up : ∀ c o, s.heap.get? c = some o → (s.heap.push (G8 (E8 w))).get? c = some o := fun c o e => CD5 _ e
 have Ta1 : TSet P w (s.heap.push (G8 (E8 w))) a L := Ta.keep fun o e => up _ _ e
 have Tb1 : TSet P w (s.heap.push (G8 (E8 w))) b M := Tb.keep fun o e => up _ _ e
 have Tr1 : TSet P w (s.heap.push (G8 (E8 w))) s.heap.objs.size [] := FK (CE4 _ rfl)
 have la : a < s.heap.objs.size := by obtain ⟨_, _, _, _, g, _⟩ := Ta; exact CE2 g
 have lb : b < s.heap.objs.size := by obtain ⟨_, _, _, _, g, _⟩ := Tb; exact CE2 g
 obtain ⟨o, es, ep, t, g, x, d, el, eL, nd, bd, f, pz, ld⟩ := id Ta1
 refine CD4 (CQ5 g d f ?_)
 refine CD4 (CH3 ?_)
 rw [if_pos rfl]
 refine CD4 (AC9 (T0 := [b, s.heap.objs.size]) g x d el (eL ▸ nd) bd f pz ld (fun y hy => ?_) Tr1 (CF6 la) fun W s1 pm oth Tr2 eg eo => ?_)
 ·simp only [CF9, CG5, or_false] at hy
  rcases hy with rfl | rfl
  ·exact ⟨_, Tb1⟩
  ·exact ⟨_, Tr1⟩
 refine CD4 (wpAny_forIn_array' _ (fun rest _ s' => ∃ dn Z, W.toList = dn ++ rest ∧ TSet P w s'.heap s.heap.objs.size Z ∧ (∀ z, z ∈ Z ↔ z ∈ dn.map (fun e => tx e.2) ∧ z ∉ M) ∧ (∀ c, c ≠ s.heap.objs.size → s'.heap.get? c = (s.heap.push (G8 (E8 w))).get? c) ∧ s'.gens = s.gens ∧ s'.os = s.os) _ ?_ ?_ W _ ⟨[], [], rfl, Tr2, fun z => by simp, oth, eg, eo⟩)
 ·rintro ⟨k, v⟩ rest _ s' ⟨dn, Z, eW, Tr, mem, oth', eg', eo'⟩
  have hin : (k, v) ∈ es.toList := pm.mem_iff.mp (by rw [eW]; simp)
  obtain ⟨i1, i2⟩ := TR el hin
  obtain ⟨tk, ev⟩ := CN9 i1
  dsimp only at ev i2 ⊢
  generalize tx v = z at ev i2
  subst ev i2
  have Tb' : TSet P w s'.heap b M := Tb1.keep fun o e => (oth' b (CF6 lb)).trans e
  have ga : s'.heap.get? a = some o := (oth' a (CF6 la)).trans g
  have zL : Z.length < 64 := by
   obtain ⟨_, _, _, _, _, _, _, _, _, ndZ, _⟩ := id Tr
   have := XU ndZ fun y hy => by
    have y1 := ((mem y).mp hy).1
    have : y ∈ W.toList.map fun e => tx e.2 := by rw [eW, CG3]; exact CK8 _ y1
    have y2 := (pm.map fun e : Int × Value => tx e.2).mem_iff.mp this
    rw [eL] at y2
    exact y2
   lia
  refine CD4 (CH3 ?_)
  rw [if_pos rfl]
  refine CD4 (AG4 Tb' fun fr hf => CD4 (CD6 ?_))
  rw [hf]
  have go : ∀ (s2 : CD9) Z2, s2.heap.get? a = some o → TSet P w s2.heap s.heap.objs.size Z2 → (∀ y, y ∈ Z2 ↔ (y ∈ dn.map (fun e => tx e.2) ∨ y = z) ∧ y ∉ M) → (∀ c, c ≠ s.heap.objs.size → s2.heap.get? c = (s.heap.push (G8 (E8 w))).get? c) → s2.gens = s.gens → s2.os = s.os →
    ∃ dn' Z', W.toList = dn' ++ rest ∧ TSet P w s2.heap s.heap.objs.size Z' ∧ (∀ y, y ∈ Z' ↔ y ∈ dn'.map (fun e => tx e.2) ∧ y ∉ M) ∧ (∀ c, c ≠ s.heap.objs.size → s2.heap.get? c = (s.heap.push (G8 (E8 w))).get? c) ∧ s2.gens = s.gens ∧ s2.os = s.os := fun s2 Z2 _ h2 h3 h4 h5 h6 =>
   ⟨dn ++ [((strKind P w).hash z, Value.str z tk)], Z2, by rw [eW, CS6]; rfl, h2, fun y => by rw [h3 y, CG3, CJ1]; simp [tx], h4, h5, h6⟩
  by_cases hm : z ∈ M
  ·rw [decide_eq_true hm, if_neg (by decide)]
   refine CD6 (CD4 (BO5 ga d f (CD6 (go s' Z ga Tr (fun y => ?_) oth' eg' eo'))))
   rw [mem y]
   exact ⟨fun q => ⟨.inl q.1, q.2⟩, fun q => ⟨q.1.resolve_right fun e => q.2 (e ▸ hm), q.2⟩⟩
  ·rw [decide_eq_false hm, if_pos (by decide)]
   refine CD4 (QQ Tr (by have : CM3 = 4096 := rfl; lia) fun h2 Z2 sb T2 p2 => CD6 (CD4 ?_))
   have g2 : h2.get? a = some o := (sb.2 a (CF6 la)).trans ga
   refine BO5 (s := { s' with heap := h2 }) g2 d f (CD6 (go { s' with heap := h2 } Z2 g2 T2 (fun y => ?_) (fun c hc => (sb.2 c hc).trans (oth' c hc)) eg' eo'))
   rw [p2.mem_iff]
   split
   ·rename_i hz2
    rw [mem y]
    refine ⟨fun q => ⟨.inl q.1, q.2⟩, fun q => ⟨?_, q.2⟩⟩
    rcases q.1 with q1 | rfl
    ·exact q1
    ·exact ((mem y).mp hz2).1
   ·rw [CJ1, CP0, mem y]
    constructor
    ·rintro (q | rfl)
     ·exact ⟨.inl q.1, q.2⟩
     ·exact ⟨.inr rfl, hm⟩
    ·rintro ⟨q1 | rfl, q2⟩
     ·exact .inl ⟨q1, q2⟩
     ·exact .inr rfl
 ·rintro _ s' ⟨dn, Z, eW, Tr, mem, oth', eg', eo'⟩
  rw [CM4] at eW
  refine CD6 (CD6 (q s' s.heap.objs.size Z (fun c oc e => ?_) eg' eo' (CI9 (CE9 _)) Tr fun z => ?_))
  ·rw [oth' c (CF6 (CE2 e))]; exact up c oc e
  ·rw [mem z, ← eW, (pm.map fun e : Int × Value => tx e.2).mem_iff, eL]
end
end TSt
namespace TSt
open PySem SetTable
def lp (mask : Nat) : Nat → Nat × Nat → Nat × Nat
 | 0, x => x
 | n + 1, x => lp mask n (leap mask x.1 x.2)
theorem AI2 (mask : Nat) : ∀ (m n : Nat) (x : Nat × Nat), lp mask (m + n) x = lp mask n (lp mask m x)
 | 0, n, x => by rw [Nat.zero_add]; rfl
 | m + 1, n, x => by
  rw [show m + 1 + n = (m + n) + 1 by lia]
  exact AI2 mask m n _
theorem AI3 (mask : Nat) : ∀ (m : Nat) (x : Nat × Nat), (lp mask m x).2 = x.2 / 32 ^ m
 | 0, x => by simp [lp]
 | m + 1, x => by
  show (lp mask m (leap mask x.1 x.2)).2 = _
  rw [AI3 mask m]
  show x.2 / 32 / 32 ^ m = _
  rw [Nat.div_div_eq_div_mul, Nat.pow_succ, Nat.mul_comm]
theorem BB4 (mask : Nat) : ∀ (m : Nat) (x : Nat × Nat), x.1 < mask + 1 → (lp mask m x).1 < mask + 1
 | 0, x, h => h
 | m + 1, x, h => BB4 mask m _ (Nat.mod_lt _ (Nat.succ_pos _))
def orb (mask : Nat) : Nat → Nat → List Nat
 | 0, i => [i]
 | n + 1, i => i :: orb mask n ((i * 5 + 1) % (mask + 1))
theorem AK3 (mask : Nat) : ∀ (n i j : Nat), j ∈ orb mask n i → ∃ m, m ≤ n ∧ (lp mask m (i, 0)).1 = j
 | 0, i, j, h => ⟨0, CE9 _, (CP0.mp h).symm⟩
 | n + 1, i, j, h => by
  rcases CF9.mp h with rfl | h
  ·exact ⟨0, CK6 _, rfl⟩
  ·obtain ⟨m, hm, e⟩ := AK3 mask n _ j h
   refine ⟨m + 1, by lia, ?_⟩
   show (lp mask m ((i * 5 + 1 + 0 / 32) % (mask + 1), 0 / 32)).1 = j
   rw [Nat.zero_div, Nat.add_zero]
   exact e
def cov (mask : Nat) : Bool := (CH8 (mask + 1)).all fun i => (CH8 (mask + 1)).all fun j => (orb mask mask i).contains j
theorem BA8 : cov 7 = true := by decide +kernel
theorem AE6 : cov 15 = true := by decide +kernel
theorem AE7 : cov 31 = true := by decide +kernel
theorem AE8 : cov 63 = true := by decide +kernel
theorem AR6 (c : cov mask = true) (hi : i < mask + 1) (hj : j < mask + 1) : ∃ m, m ≤ mask ∧ (lp mask m (i, 0)).1 = j := by
 have h := CF7.mp (CF7.mp c i (List.mem_range.mpr hi)) j (List.mem_range.mpr hj)
 exact AK3 mask mask i j (by simpa using h)
theorem ML {mask : Nat} {ow : Array (Option Nat)} : ∀ (n i p : Nat), layClean.free mask ow n i p = none → ∀ m, m < n → (ow.getD (lp mask m (i, p)).1 (some 0)).isNone = false
 | 0, i, p, h, m, hm => absurd hm (Nat.not_lt_zero _)
 | n + 1, i, p, h, m, hm => by
  unfold layClean.free at h
  split at h
  ·cases h
  ·rename_i hf
   cases m with
   | zero =>
    have hr : i ≤ runEnd mask i := by unfold runEnd; split <;> lia
    have := List.find?_eq_none.mp hf 0 (List.mem_range.mpr (by lia))
    rw [Nat.add_zero] at this
    exact Bool.eq_false_iff.mpr this
   | succ m => exact ML n _ _ h m (by lia)
theorem MM {mask : Nat} {ow : Array (Option Nat)} : ∀ (n i p j : Nat), layClean.free mask ow n i p = some j → (ow.getD j (some 0)).isNone = true
 | 0, i, p, j, h => by cases h
 | n + 1, i, p, j, h => by
  unfold layClean.free at h
  split at h
  ·rename_i k hf
   cases h
   have y := List.find?_some hf
   exact y
  ·exact MM n _ _ j h
theorem UQ {p : Nat} {ow : Array (Option Nat)} (c : cov mask = true) (hi : i < mask + 1) (hp : p < 2 ^ 64) (hj : j < mask + 1) (hn : (ow.getD j (some 0)).isNone = true) : ∃ j', layClean.free mask ow (turns mask) i p = some j' ∧ (ow.getD j' (some 0)).isNone = true := by
 cases e : layClean.free mask ow (turns mask) i p with
 | some j' => exact ⟨j', rfl, MM _ _ _ _ e⟩
 | none =>
  exfalso
  have h13 : (lp mask 13 (i, p)).2 = 0 := by
   rw [AI3]
   exact Nat.div_eq_of_lt (Nat.lt_trans hp (by decide))
  obtain ⟨m, hm, em⟩ := AR6 c (BB4 mask 13 (i, p) hi) hj
  have hx : (lp mask (13 + m) (i, p)).1 = j := by
   rw [AI2]
   have : lp mask 13 (i, p) = ((lp mask 13 (i, p)).1, 0) := Prod.ext rfl h13
   rw [this]
   exact em
  have := ML _ _ _ e (13 + m) (by unfold turns; lia)
  rw [hx, hn] at this
  cases this
theorem RW {n : Nat} : ∀ {l : List (Option Nat)} {j : Nat}, l[j]? = some none → CJ3 ((l.set j (some n)).filterMap fun x => x) (n :: l.filterMap fun x => x)
 | x :: l, 0, h => by
  cases h
  exact .refl _
 | x :: l, j + 1, h => by
  have ih := RW (n := n) (l := l) (j := j) (by simpa using h)
  rw [List.set_cons_succ]
  cases x with
  | none => exact ih
  | some y =>
   show CJ3 (y :: (l.set j (some n)).filterMap fun x => x) (n :: y :: l.filterMap fun x => x)
   exact (ih.cons y).trans (List.Perm.swap n y _)
theorem NG : ∀ {l : List (Option Nat)}, (l.filterMap fun x => x).length < l.length → ∃ j : Nat, l[j]? = some none
 | [], h => absurd h (CK7 _)
 | none :: l, _ => ⟨0, rfl⟩
 | some y :: l, h => by
  have h : (y :: l.filterMap fun x => x).length < (some y :: l).length := h
  rw [CE7, CE7] at h
  obtain ⟨j, e⟩ := NG (l := l) (by lia)
  exact ⟨j + 1, by simpa using e⟩
theorem AR3 (h : Int) : bits h < 2 ^ 64 := by
 unfold bits
 have h1 := CN2 h (show (0 : Int) < 2 ^ 64 by decide)
 have h2 := CP7 h (show (2 ^ 64 : Int) ≠ 0 by decide)
 have e : ((2 : Int) ^ 64) = ((2 ^ 64 : Nat) : Int) := by decide
 rw [e] at h1 h2 ⊢
 lia
abbrev stp (mask : Nat) (acc : Option (Array (Option Nat) × Nat)) (h : Int) : Option (Array (Option Nat) × Nat) := do
 let (ow, k) ← acc
 let j ← layClean.free mask ow (turns mask) (bits h % (mask + 1)) (bits h)
 pure (ow.setIfInBounds j (some k), k + 1)
theorem AP1 {ow : Array (Option Nat)} (c : cov mask = true) (hs : ow.size = mask + 1) (hp : CJ3 (ow.toList.filterMap fun x => x) (CH8 n)) (hn : n < mask + 1) (h : Int) :
  ∃ ow', stp mask (some (ow, n)) h = some (ow', n + 1) ∧ ow'.size = mask + 1 ∧ CJ3 (ow'.toList.filterMap fun x => x) (CH8 (n + 1)) := by
 obtain ⟨j, hj⟩ := NG (l := ow.toList) (by rw [hp.length_eq, CL1, CE5, hs]; exact hn)
 have lj : j < mask + 1 := by
  rw [← hs, ← CE5]
  exact (List.getElem?_eq_some_iff.mp hj).1
 rw [CT2] at hj
 obtain ⟨j', ef, fn⟩ := UQ (i := bits h % (mask + 1)) (p := bits h) c (Nat.mod_lt _ (Nat.succ_pos _)) (AR3 h) lj (ow := ow) (by rw [Array.getD_eq_getD_getElem?, hj]; rfl)
 have g' : ow[j']? = some none := by
  rw [Array.getD_eq_getD_getElem?] at fn
  cases e : ow[j']? with
  | none => rw [e] at fn; cases fn
  | some y =>
   rw [e] at fn
   cases y with
   | none => rfl
   | some z => cases fn
 refine ⟨ow.setIfInBounds j' (some n), ?_, by simp [hs], ?_⟩
 ·show (layClean.free mask ow (turns mask) (bits h % (mask + 1)) (bits h) >>= _) = _
  rw [ef]; rfl
 ·rw [Array.toList_setIfInBounds]
  refine (RW (by rw [CT2]; exact g')).trans ?_
  rw [List.range_succ]
  exact (hp.cons n).trans (List.perm_append_singleton n _).symm
theorem fold_all {mask : Nat} (c : cov mask = true) : ∀ (hs : List Int) (n : Nat) (ow : Array (Option Nat)), ow.size = mask + 1 → CJ3 (ow.toList.filterMap fun x => x) (CH8 n) → n + hs.length ≤ mask + 1 →
  ∃ ow', hs.foldl (stp mask) (some (ow, n)) = some (ow', n + hs.length) ∧ ow'.size = mask + 1 ∧ CJ3 (ow'.toList.filterMap fun x => x) (CH8 (n + hs.length))
 | [], n, ow, h1, h2, _ => ⟨ow, rfl, h1, h2⟩
 | h :: hs, n, ow, h1, h2, h3 => by
  rw [CE7] at h3
  obtain ⟨ow1, e1, s1, p1⟩ := AP1 c h1 h2 (by lia) h
  obtain ⟨ow2, e2, s2, p2⟩ := fold_all c hs (n + 1) ow1 s1 p1 (by lia)
  refine ⟨ow2, ?_, s2, ?_⟩
  ·rw [List.foldl_cons, e1, e2, CE7, show n + 1 + hs.length = n + (hs.length + 1) by lia]
  ·rw [CE7, show n + (hs.length + 1) = n + 1 + hs.length by lia]; exact p2
theorem AT3 (ow : Array (Option Nat)) (n : Nat) (hs : ow.size = n) : ((CH8 n).filterMap fun j => (ow.getD j none).map (j, ·)).map (·.2) = ow.toList.filterMap fun x => x := by
 have e : ow.toList = (CH8 n).map fun j => ow.getD j none := by
  apply List.ext_getElem
  ·simp [hs]
  ·intro i h1 h2
   have : i < ow.size := by simpa using h1
   simp [Array.getD, this]
 rw [e, List.map_filterMap, List.filterMap_map]
 congr 1
 funext j
 show ((ow.getD j none).map (j, ·)).map (·.2) = ow.getD j none
 cases ow.getD j none <;> rfl
theorem DV {fg mv : Nat} {led plain : Bool} {hs : Array Int} (c : cov mask = true) (hn : hs.size ≤ mask) :
  ∃ t order, laid mask fg mv led plain hs = some (t, order) ∧ CJ3 order.toList (CH8 hs.size) ∧ t.mask = mask ∧ t.place.size = hs.size ∧ t.dummies = #[] ∧ t.led = led ∧ t.plain = plain := by
 obtain ⟨ow, e, sz, pm⟩ := fold_all c hs.toList 0 (Array.replicate (mask + 1) none) (by simp) (by simp) (by simp; lia)
 have e2 : layClean mask hs = some ow := by
  unfold layClean
  have : hs.foldl (stp mask) (some (Array.replicate (mask + 1) none, 0)) = some (ow, 0 + hs.toList.length) := by
   rw [← Array.foldl_toList]; exact e
  exact congrArg (Option.map (·.1)) this
 have lv := AT3 ow (mask + 1) sz
 rw [Nat.zero_add, CE5] at pm
 unfold laid
 rw [e2]
 refine ⟨_, _, rfl, ?_, rfl, ?_, rfl, rfl, rfl⟩
 ·show CJ3 ((((CH8 (mask + 1)).filterMap fun j => (ow.getD j none).map (j, ·)).map (·.2)).toArray).toList _
  rw [lv]; exact pm
 ·show ((((CH8 (mask + 1)).filterMap fun j => (ow.getD j none).map (j, ·)).map (·.1)).toArray).size = _
  have := pm.length_eq
  rw [← lv, CD8, CL1] at this
  rw [CF4, CD8]; exact this
end TSt
namespace TSt
open PySem PySem.Builtin
section
variable {P : CI2} {w : World} {A : CL2} {E : Value → CD9 → Prop} {a b r : Addr} {L M : List Str} {s : CD9} {nm : String} {es : Array (Int × Value)}
theorem JD {order : Array Nat} (pm : CJ3 order.toList (CH8 es.size)) : CJ3 (order.filterMap fun i => es[i]?).toList es.toList ∧ ((order.filterMap fun i => es[i]?).size != es.size) = false := by
 have p2 : CJ3 (order.filterMap fun i => es[i]?).toList es.toList := by
  rw [Array.toList_filterMap]
  have y := pm.filterMap fun i => es[i]?
  rwa [filterMap_getElem?_range es] at y
 refine ⟨p2, ?_⟩
 have sz : (order.filterMap fun i => es[i]?).size = es.size := by rw [← CE5, p2.length_eq, CE5]
 rw [sz]; simp
structure Bare (w : World) (t : CQ6) (n : Nat) : Prop where
 pl : t.place = #[]
 dm : t.dummies = #[]
 ld : t.led = E8 w
 cv : cov t.mask = true
 rm : n ≤ t.mask
theorem Bare.fits (B : Bare w t n) : t.fits 0 = true := by
 unfold CR0 CP2
 rw [B.pl, B.dm]
 simp
theorem AO6 {o : Obj} {Q : Unit → CD9 → Prop} (h16 : n ≤ 16) (g : s.heap.get? r = some (G8 (E8 w)))
  (q : ∀ (h' : Heap) ep t, h'.get? r = some { G8 (E8 w) with data := .set #[] ep t } → Bare w t n → CK3 r s.heap h' → Q () { s with heap := h' }) : wpAny (model P w) A (setRoomFor r n) Q E s := by
 have f0 : (CO0 0 0 (E8 w)).fits (#[] : Array (Int × Value)).size = true := by cases E8 w <;> decide
 unfold setRoomFor
 refine CD4 (CH1 g rfl f0 ?_)
 dsimp only
 by_cases h5 : n < 5
 ·have e : (CO0 0 0 (E8 w)).roomFor n = none := by
   unfold SetTable.roomFor
   rw [if_neg (by simp [CO0, CP2]; lia)]
  rw [e]
  exact CD6 (q s.heap 0 _ g ⟨rfl, rfl, rfl, BA8, by show n ≤ 7; lia⟩ (.refl r _))
 ·have e : (CO0 0 0 (E8 w)).roomFor n = some (n * 2) := by
   unfold SetTable.roomFor
   rw [if_pos (by simp [CO0, CP2]; lia)]
   simp [CO0]
  rw [e]
  dsimp only
  have mk : ∃ m, CG2 (n * 2) - 1 = m ∧ cov m = true ∧ n ≤ m ∧ CG2 (n * 2) ≤ 64 := by
   have all : ∀ k, k < 17 → 5 ≤ k → (CG2 (k * 2) - 1 = 15 ∨ CG2 (k * 2) - 1 = 31 ∨ CG2 (k * 2) - 1 = 63) ∧ k ≤ CG2 (k * 2) - 1 ∧ CG2 (k * 2) ≤ 64 := by decide +kernel
   obtain ⟨h1, h2, h3⟩ := all n (by lia) (by lia)
   refine ⟨_, rfl, ?_, h2, h3⟩
   rcases h1 with h | h | h
   ·rw [h]; exact AE6
   ·rw [h]; exact AE7
   ·rw [h]; exact AE8
  obtain ⟨m, em, cm, nm, sm⟩ := mk
  unfold setRelay
  refine CD4 (CH1 g rfl f0 ?_)
  dsimp only
  rw [if_neg (by rw [CF8]; lia)]
  obtain ⟨t, order, e2, pm, k1, k2, k3, k4, k5⟩ := DV (mask := m) (fg := 0) (mv := (CO0 0 0 (E8 w)).movedTo m) (led := E8 w) (plain := true) (hs := #[]) cm (CK6 _)
  have e3 : (CO0 0 0 (E8 w)).relaid (Array.map (fun y : Int × Value => y.1) #[]) (n * 2) = some (t, order) := by
   show SetTable.laid (CG2 (n * 2) - 1) _ _ _ _ _ = _
   rw [em, Array.map_empty]; exact e2
  obtain ⟨p', bz⟩ := JD (es := (#[] : Array (Int × Value))) pm
  refine CD4 (CN8 (a := (order.filterMap fun i => (#[] : Array (Int × Value))[i]?, t)) (by rw [e3]; exact if_neg (by rw [bz]; exact CE3)) ?_)
  generalize (order.filterMap fun i => (#[] : Array (Int × Value))[i]?) = es' at p'
  obtain rfl : es' = #[] := by
   have : es'.toList = [] := p'.eq_nil
   exact Array.toList_eq_nil_iff.mp this
  refine CO3 g rfl ?_ (CK6 _)
  have gn := CI0 (Obj.putSet #[] t) g rfl
  refine q _ _ t gn ⟨Array.eq_empty_of_size_eq_zero k2, k3, k4, by rw [k1]; exact cm, by rw [k1]; exact nm⟩ (CJ2 ..)
set_option maxHeartbeats 1000000 in
theorem AE5 (Ta : TSet P w s.heap a L) (h16 : L.length ≤ 16)
  (q : ∀ (s' : CD9) r Z, (∀ c o, s.heap.get? c = some o → s'.heap.get? c = some o) → s'.gens = s.gens → s'.os = s.os → s.heap.get? r = none → TSet P w s'.heap r Z → CJ3 Z L → Q (.ref r) s') : wpAny (model P w) A (Frozenset.copyOf a) Q E s := by
 unfold Frozenset.copyOf Frozenset.baseOf
 refine CD4 (CD4 (CR7 Ta.ty set_set (CD6 ?_)))
 rw [if_pos rfl]
 refine CD4 (XX ?_)
 refine CD4 (m := Frozenset.addrOf (.ref s.heap.objs.size)) (CD6 ?_)
 have up : ∀ c o, s.heap.get? c = some o → (s.heap.push (G8 (E8 w))).get? c = some o := fun c o e => CD5 _ e
 have gr : (s.heap.push (G8 (E8 w))).get? s.heap.objs.size = some (G8 (E8 w)) := CE4 _ rfl
 have nr : s.heap.get? s.heap.objs.size = none := CI9 (CE9 _)
 obtain ⟨o, es, ep, t, g, x, d, el, rfl, nd, bd, f, pz, ld⟩ := Ta
 have la : a < s.heap.objs.size := CE2 g
 have ne : ∀ c o, s.heap.get? c = some o → c ≠ s.heap.objs.size := fun c o e => CF6 (CE2 e)
 unfold setMerge
 rw [if_neg (by simp; lia)]
 refine CD4 (CD4 (CH1 (up _ _ g) d f ?_))
 dsimp only
 by_cases h0 : es = #[]
 ·subst h0
  rw [if_pos (show (#[] : Array (Int × Value)).isEmpty = true from rfl)]
  exact CD6 (CD6 (q _ s.heap.objs.size [] up rfl rfl nr (FK gr) (.refl _)))
 ·rw [if_neg (by simpa using h0)]
  have pl : t.plain = false := by
   cases e : t.plain with
   | false => rfl
   | true => exact absurd (Array.eq_empty_of_size_eq_zero (pz e)) h0
  refine CD4 (AO6 (o := o) (s := { s with heap := s.heap.push (G8 (E8 w)) }) (by rw [CD8, CE5] at h16; exact h16) gr fun h' ep' ts g' B sb => ?_)
  refine CD4 (CH1 g' rfl B.fits ?_)
  dsimp only
  have keep : ∀ c oc, s.heap.get? c = some oc → h'.get? c = some oc := fun c oc e => (sb.2 c (ne c oc e)).trans (up c oc e)
  have lw : (ts.led && t.led) = E8 w := by rw [B.ld, ld, Bool.and_self]
  have fin : ∀ (es2 : Array (Int × Value)) (t2 : CQ6), CJ3 es2.toList es.toList → t2.fits es2.size = true → t2.plain = false → t2.led = E8 w → wpAny (model P w) A (storeSet s.heap.objs.size es2 t2) (fun _ s' => wpAny (model P w) A (pure (Value.ref s.heap.objs.size)) Q E s') E { s with heap := h' } := fun es2 t2 p2 f2 l2 k2 => by
   have sz : es2.size = es.size := by rw [← CE5, p2.length_eq, CE5]
   have b2 : es2.size < CM3 := by rw [sz]; exact bd
   have el2 := el.perm p2
   have pm2 := p2.map (fun e : Int × Value => tx e.2)
   refine CO3 g' rfl (CD6 ?_) (CO5 b2)
   obtain ⟨g3, _⟩ := SetOf_store (knd := strKind P w) (S' := fun k => decide (k ∈ es2.toList.map fun e => tx e.2)) g' ⟨rfl, rfl, rfl⟩ rfl el2 (fun k => by rw [decide_eq_true_eq, K1 el2]) b2 f2
   exact q _ _ _ (fun c oc e => (CG7 _ _ (Ne.symm (ne c oc e))).trans (keep c oc e)) rfl rfl nr ⟨_, es2, _, t2, g3, ⟨rfl, rfl, rfl⟩, rfl, el2, rfl, X1 pm2 nd, b2, f2, fun z => (by rw [l2] at z; cases z), k2⟩ pm2
  have fill0 : ts.fill = 0 := by unfold CP2; rw [B.pl, B.dm]; rfl
  unfold SetTable.road
  rw [if_neg (by simp [fill0])]
  by_cases hc : (ts.mask == t.mask && t.dummies.isEmpty) = true
  ·rw [if_pos hc]
   dsimp only
   exact fin es _ (.refl _) f (by show (ts.plain && t.plain) = false; rw [pl, CQ4]) lw
  ·rw [if_neg hc]
   dsimp only
   have hl : (es.map (·.1)).size ≤ ts.mask := by
    have := B.rm
    rw [CU8]
    simpa using this
   obtain ⟨t2, order, e2, pm, k1, k2, k3, k4, k5⟩ := DV (mask := ts.mask) (fg := ts.finger) (mv := ts.moves) (led := ts.led && t.led) (plain := ts.plain && t.plain) (hs := es.map (·.1)) B.cv hl
   rw [CU8] at pm k2
   obtain ⟨p', bz⟩ := JD pm
   refine CD4 (CN8 (a := (order.filterMap fun i => es[i]?, t2)) (by rw [e2]; exact if_neg (by rw [bz]; exact CE3)) ?_)
   generalize (order.filterMap fun i => es[i]?) = es' at p'
   dsimp only
   have sz : es'.size = es.size := by rw [← CE5, p'.length_eq, CE5]
   refine fin es' t2 p' ?_ (by rw [k5, pl, CQ4]) (k4.trans lw)
   unfold CR0 CP2
   rw [k2, k3, sz, k1]
   rw [CU8] at hl
   simpa using hl
end
section
variable {P : CI2} {w : World} {A : CL2} {E : Value → CD9 → Prop} {a b r : Addr} {L M : List Str} {s : CD9} {nm : String} {es : Array (Int × Value)} {o : Obj} {ep : Nat} {t : CQ6} {z : Str} {tk : Tok}
theorem AD0 {Q : Array (Int × Value) → CD9 → Prop} {T0 : List Addr} (g : s.heap.get? a = some o) (x : o.ExactSet) (d : o.data = .set es ep t) (el : ElemsOf (strKind P w) es.toList) (nd : (es.toList.map fun e => tx e.2).Nodup) (bd : es.size < CM3) (f : t.fits es.size = true) (pz : t.plain = true → es.size = 0) (ld : t.led = E8 w)
  (hT : ∀ y ∈ T0, ∃ Z, TSet P w s.heap y Z) (q : ∀ W dr, CJ3 W.toList es.toList → Q W { s with drawn := dr }) : wpAny (model P w) A (setWalkUnseen a T0 none) Q E s := by
 unfold setWalkUnseen
 refine CD4 (CH1 g d f ?_)
 dsimp only
 unfold CU9
 refine CD4 (CD4 (CK4 (CD6 ?_)))
 split
 ·exact SU g d f pz ld q
 ·refine CD4 (RY (fun y hy => ?_) ?_)
  ·rcases CF9.mp hy with rfl | hy
   ·exact ⟨_, o, es, ep, t, g, x, d, el, rfl, nd, bd, f, pz, ld⟩
   ·exact hT y hy
  ·rw [if_neg (by decide)]
   exact CD4 (CP3 (CD6 (q es s.drawn (.refl _))))
theorem IS (xs : Array α) (i : Nat) : (CM5 xs i).toList = xs.toList.eraseIdx i := by
 unfold CM5
 rw [Array.toList_append, Array.toList_extract, Array.toList_extract]
 rw [List.eraseIdx_eq_take_drop_succ]
 simp [List.extract]
 exact CO8 (by simp)
theorem ZG (f : t.fits n = true) (hi : i < n) : (t.drop i).fits (n - 1) = true ∧ (t.drop i).plain = t.plain ∧ (t.drop i).led = t.led := by
 unfold CR0 CP2 at f
 simp only [CH5, beq_iff_eq, decide_eq_true_eq] at f
 have hl : i < t.place.size := by lia
 unfold SetTable.drop
 rw [CQ3 hl]
 refine ⟨?_, rfl, rfl⟩
 unfold CR0 CP2
 have s1 : (CM5 t.place i).size = t.place.size - 1 := by
  rw [← CE5, IS, CQ1 (by simpa using hl), CE5]
 have s2 : (SetTable.insertAt t.dummies (SetTable.below t.dummies t.place[i]) t.place[i]).size = t.dummies.size + 1 := by
  have := (SetTable.insertAt_perm t.dummies (SetTable.below t.dummies t.place[i]) t.place[i]).length_eq
  rw [CE5, CE5, Array.size_push] at this
  exact this
 simp only [CH5, beq_iff_eq, decide_eq_true_eq]
 rw [s1, s2]
 refine ⟨by lia, by lia⟩
set_option maxHeartbeats 1000000 in
theorem OC {Q : Bool → CD9 → Prop} (T : TSet P w s.heap a L)
  (q : ∀ bb h' L', CK3 a s.heap h' → TSet P w h' a L' → (∀ y, y ∈ L' ↔ y ∈ L ∧ y ≠ z) → Q bb { s with heap := h' }) : wpAny (model P w) A (setDiscardHashed a (.str z tk) ((strKind P w).hash z)) Q E s := by
 obtain ⟨o, es, ep, t, g, x, d, el, rfl, nd, b, f, pl, ld⟩ := T
 have key : (strKind P w).is z (.str z tk) = true := by simp [strKind, CT7]
 unfold setDiscardHashed setFind setFindIn
 refine CD4 (CD4 (CH1 g d f ?_))
 dsimp only
 rw [if_pos (byScan_of rfl b el)]
 refine CD4 (CP3 (CD4 (wpAny_setScan_of key g d f el ?_)))
 cases fi : es.toList.findIdx? (fun e => (strKind P w).is z e.2) with
 | none =>
  dsimp only
  have m : z ∉ es.toList.map fun e => tx e.2 := fun m => by
   obtain ⟨e, me, i⟩ := (K1 el z).mpr m
   have := List.findIdx?_eq_none_iff.mp fi e me
   rw [i] at this; cases this
  refine CD6 ?_
  exact CD6 (q false s.heap _ (.refl a _) ⟨o, es, ep, t, g, x, d, el, rfl, nd, b, f, pl, ld⟩ fun y => ⟨fun h => ⟨h, fun e => m (e ▸ h)⟩, fun h => h.1⟩)
 | some j =>
  dsimp only
  obtain ⟨hj, hp, _⟩ := List.findIdx?_eq_some_iff_getElem.mp fi
  have hj' : j < es.size := by simpa using hj
  refine CD6 ?_
  dsimp only
  refine CD4 (CH1 g d f ?_)
  dsimp only
  rw [Nat.zero_add]
  have er := IS es j
  have el1 : ElemsOf (strKind P w) (CM5 es j).toList := fun e he => el e (by rw [er] at he; exact List.mem_of_mem_eraseIdx he)
  have sz : (CM5 es j).size = es.size - 1 := by rw [← CE5, er, CQ1 hj, CE5]
  have b1 : (CM5 es j).size < CM3 := by rw [sz]; lia
  obtain ⟨f1, p1, l1⟩ := ZG f hj'
  have tp : t.plain = false := by
   cases e : t.plain with
   | false => rfl
   | true => have := pl e; lia
  have mp : CJ3 (z :: (CM5 es j).toList.map fun e => tx e.2) (es.toList.map fun e => tx e.2) := by
   rw [er]
   have := (W9 (l := es.toList) (i := j) (x := es.toList[j]) (CE8 hj)).map fun e : Int × Value => tx e.2
   rw [CG9, AH4 hp] at this
   exact this
  have nd1 := mp.nodup_iff.mpr nd
  rw [CX8] at nd1
  refine CD4 (CO3 g d ?_ (CO5 b1))
  obtain ⟨g3, _⟩ := SetOf_store (knd := strKind P w) (S' := fun k => decide (k ∈ (CM5 es j).toList.map fun e => tx e.2)) (t' := t.drop j) g x d el1 (fun k => by rw [decide_eq_true_eq, K1 el1]) b1 (by rw [sz]; exact f1)
  refine CD4 (wpAny_point (CD6 (q true _ _ (CJ2 ..) ⟨_, _, _, t.drop j, g3, x, rfl, el1, rfl, nd1.2, b1, by rw [sz]; exact f1, fun h => (by rw [p1, tp] at h; cases h), l1.trans ld⟩ fun y => ?_)))
  rw [← mp.mem_iff, CF9]
  refine ⟨fun h => ⟨.inr h, fun e => nd1.1 (e ▸ h)⟩, fun h => h.1.resolve_left h.2⟩
end
section
variable {P : CI2} {w : World} {A : CL2} {E : Value → CD9 → Prop} {a b r : Addr} {L M : List Str} {s : CD9} {nm : String} {es : Array (Int × Value)} {o : Obj} {ep : Nat} {t : CQ6} {z : Str} {tk : Tok}
theorem AP9 {Q : Unit → CD9 → Prop} (T : TSet P w s.heap a L) (h15 : L.length ≤ 15)
  (q : ∀ h' L', CK3 a s.heap h' → TSet P w h' a L' → CJ3 L' L → Q () { s with heap := h' }) : wpAny (model P w) A (setTidy a) Q E s := by
 obtain ⟨o, es, ep, t, g, x, d, el, rfl, nd, b, f, pl, ld⟩ := T
 unfold setTidy
 refine CD4 (CH1 g d f ?_)
 dsimp only
 split
 ·rw [CD8, CE5] at h15
  have gr : CL9 es.size = es.size * 4 := by unfold CL9; rw [if_neg (by lia)]
  rw [gr]
  have mk : ∃ m, CG2 (es.size * 4) - 1 = m ∧ cov m = true ∧ es.size ≤ m ∧ CG2 (es.size * 4) ≤ 64 := by
   have all : ∀ k, k < 16 → (CG2 (k * 4) - 1 = 7 ∨ CG2 (k * 4) - 1 = 15 ∨ CG2 (k * 4) - 1 = 31 ∨ CG2 (k * 4) - 1 = 63) ∧ k ≤ CG2 (k * 4) - 1 ∧ CG2 (k * 4) ≤ 64 := by decide +kernel
   obtain ⟨h1, h2, h3⟩ := all es.size (by lia)
   refine ⟨_, rfl, ?_, h2, h3⟩
   rcases h1 with h | h | h | h
   ·rw [h]; exact BA8
   ·rw [h]; exact AE6
   ·rw [h]; exact AE7
   ·rw [h]; exact AE8
  obtain ⟨m, em, cm, nm, sm⟩ := mk
  unfold setRelay
  refine CD4 (CH1 g d f ?_)
  dsimp only
  rw [if_neg (by rw [CF8]; lia)]
  obtain ⟨t2, order, e2, pm, k1, k2, k3, k4, k5⟩ := DV (mask := m) (fg := t.finger) (mv := t.movedTo m) (led := t.led) (plain := t.plain) (hs := es.map (·.1)) cm (by rw [CU8]; exact nm)
  rw [CU8] at pm k2
  have e3 : t.relaid (es.map (·.1)) (es.size * 4) = some (t2, order) := by
   show SetTable.laid (CG2 (es.size * 4) - 1) _ _ _ _ _ = _
   rw [em]; exact e2
  obtain ⟨p', bz⟩ := JD pm
  refine CD4 (CN8 (a := (order.filterMap fun i => es[i]?, t2)) (by rw [e3]; exact if_neg (by rw [bz]; exact CE3)) ?_)
  generalize (order.filterMap fun i => es[i]?) = es' at p'
  dsimp only
  have sz : es'.size = es.size := by rw [← CE5, p'.length_eq, CE5]
  have b2 : es'.size < CM3 := by rw [sz]; exact b
  have el2 := el.perm p'
  have pm2 := p'.map (fun e : Int × Value => tx e.2)
  have f2 : t2.fits es'.size = true := by
   unfold CR0 CP2
   rw [k2, k3, sz, k1]
   simpa using nm
  refine CO3 g d ?_ (CO5 b2)
  obtain ⟨g3, _⟩ := SetOf_store (knd := strKind P w) (S' := fun k => decide (k ∈ es'.toList.map fun e => tx e.2)) (t' := t2) g x d el2 (fun k => by rw [decide_eq_true_eq, K1 el2]) b2 f2
  exact q _ _ (CJ2 ..) ⟨_, es', _, t2, g3, x, rfl, el2, rfl, X1 pm2 nd, b2, f2, fun h => by rw [k5] at h; rw [sz]; exact pl h, k4.trans ld⟩ pm2
 ·exact CD6 (q s.heap _ (.refl a _) ⟨o, es, ep, t, g, x, d, el, rfl, nd, b, f, pl, ld⟩ (.refl _))
set_option maxHeartbeats 1000000 in
theorem AF6 {Q : Unit → CD9 → Prop} (Tr : TSet P w s.heap r L) (Tb : TSet P w s.heap b M) (hrb : b ≠ r) (h15 : L.length ≤ 15) (hz : ¬ M.length / 8 > L.length)
  (q : ∀ (s' : CD9) Z, (∀ c, c ≠ r → s'.heap.get? c = s.heap.get? c) → s'.gens = s.gens → s'.os = s.os → TSet P w s'.heap r Z → (∀ z, z ∈ Z ↔ z ∈ L ∧ z ∉ M) → Q () s') : wpAny (model P w) A (Frozenset.differenceUpdate nm r (.ref b)) Q E s := by
 unfold Frozenset.differenceUpdate
 rw [if_neg (by simpa using hrb)]
 refine CD4 (EW Tb ?_)
 rw [if_pos rfl]
 refine CD4 (m := Frozenset.addrOf (.ref b)) (CD6 ?_)
 refine CD4 (V3 Tb (CD4 (V3 Tr ?_)))
 rw [if_neg hz]
 dsimp only
 obtain ⟨o, es, ep, t, g, x, d, el, eM, nd, bd, f, pz, ld⟩ := id Tb
 refine CD4 (CQ5 g d f (CD4 (CH3 ?_)))
 refine CD4 (AD0 (T0 := [r]) g x d el (eM ▸ nd) bd f pz ld (fun y hy => ?_) fun W dr pm => ?_)
 ·rw [CP0] at hy
  subst hy
  exact ⟨_, Tr⟩
 refine CD4 (wpAny_forIn_array' _ (fun rest _ s' => ∃ dn Z, W.toList = dn ++ rest ∧ TSet P w s'.heap r Z ∧ (∀ z, z ∈ Z ↔ z ∈ L ∧ z ∉ dn.map (fun e => tx e.2)) ∧ (∀ c, c ≠ r → s'.heap.get? c = s.heap.get? c) ∧ s'.gens = s.gens ∧ s'.os = s.os) _ ?_ ?_ W _ ⟨[], L, rfl, Tr, fun z => by simp, fun _ _ => rfl, rfl, rfl⟩)
 ·rintro ⟨k, v⟩ rest _ s' ⟨dn, Z, eW, T', mem, oth, eg, eo⟩
  have hin : (k, v) ∈ es.toList := pm.mem_iff.mp (by rw [eW]; simp)
  obtain ⟨i1, i2⟩ := TR el hin
  obtain ⟨tk, ev⟩ := CN9 i1
  dsimp only at ev i2 ⊢
  generalize tx v = z at ev i2
  subst ev i2
  refine CD4 (CH3 (OC T' fun bb h2 Z2 sb T2 m2 => ?_))
  have g2 : h2.get? b = some o := (sb.2 b hrb).trans ((oth b hrb).trans g)
  refine CD4 (BO5 (s := { s' with heap := h2 }) g2 d f (CD6 ⟨dn ++ [((strKind P w).hash z, Value.str z tk)], Z2, by rw [eW, CS6]; rfl, T2, fun y => ?_, fun c hc => (sb.2 c hc).trans (oth c hc), eg, eo⟩))
  rw [m2 y, mem y, CG3, CJ1]
  simp only [CG9, CT3, CP0, tx, not_or]
  exact ⟨fun h => ⟨h.1.1, h.1.2, h.2⟩, fun h => ⟨⟨h.1, h.2.1⟩, h.2.2⟩⟩
 ·rintro _ s' ⟨dn, Z, eW, T', mem, oth, eg, eo⟩
  rw [CM4] at eW
  refine CD6 ?_
  have zl : Z.length ≤ 15 := by
   obtain ⟨_, _, _, _, _, _, _, _, _, ndZ, _⟩ := id T'
   exact CI6 (XU ndZ fun y hy => ((mem y).mp hy).1) h15
  refine AP9 T' zl fun h2 Z2 sb T2 p2 => q { s' with heap := h2 } Z2 (fun c hc => (sb.2 c hc).trans (oth c hc)) eg eo T2 fun z => ?_
  rw [p2.mem_iff, mem z, ← eW, (pm.map fun e : Int × Value => tx e.2).mem_iff, eM]
theorem entry_sub : entryFor table "set.__sub__" = some CN1.«frozenset.__sub__» := entryFor_alias (id' := "frozenset.__sub__") (by kernel_rfl) rfl (by decide +kernel) (by kernel_rfl)
theorem AF5 (Ta : TSet P w s.heap a L) (Tb : TSet P w s.heap b M) (h15 : L.length ≤ 15)
  (q : ∀ (s' : CD9) r Z, (∀ c o, s.heap.get? c = some o → s'.heap.get? c = some o) → s'.gens = s.gens → s'.os = s.os → s.heap.get? r = none → TSet P w s'.heap r Z → (∀ z, z ∈ Z ↔ z ∈ L ∧ z ∉ M) → Q (.ref r) s') : wpAny (model P w) A (Frozenset.difference nm a (.ref b)) Q E s := by
 by_cases hz : L.length / 4 > M.length
 ·unfold Frozenset.difference
  dsimp only
  refine CD4 (EW Tb ?_)
  rw [if_neg (by decide)]
  refine CD4 (m := Frozenset.addrOf (.ref b)) (CD6 ?_)
  rw [if_neg (by simp), if_pos rfl]
  refine CD4 (V3 Tb (CD4 (V3 Ta ?_)))
  rw [if_pos hz]
  refine CD4 (CP3 (CD4 (AE5 Ta (by lia) fun s1 r Z old eg eo nr Tr pm => ?_)))
  refine CD4 (m := Frozenset.addrOf (.ref r)) (CD6 ?_)
  have Tb1 : TSet P w s1.heap b M := Tb.keep fun o e => old _ _ e
  have hbr : b ≠ r := by
   rintro rfl
   obtain ⟨_, _, _, _, g, _⟩ := Tb
   rw [nr] at g; cases g
  have zl := pm.length_eq
  refine CD4 (CH3 (AF6 Tr Tb1 hbr (by lia) (by lia) fun s2 Z2 oth eg2 eo2 T2 m2 => CD6 (q s2 r Z2 (fun c o e => ?_) (eg2.trans eg) (eo2.trans eo) nr T2 fun z => by rw [m2 z, pm.mem_iff])))
  have hc : c ≠ r := by rintro rfl; rw [nr] at e; cases e
  rw [oth c hc]; exact old c o e
 ·exact BP1 Ta Tb hz (by lia) q
theorem AP2 (Ta : TSet P w s.heap a L) (Tb : TSet P w s.heap b M) (h15 : L.length ≤ 15)
  (q : ∀ (s' : CD9) r Z, (∀ c o, s.heap.get? c = some o → s'.heap.get? c = some o) → s'.gens = s.gens → s'.os = s.os → s.heap.get? r = none → TSet P w s'.heap r Z → (∀ z, z ∈ Z ↔ z ∈ L ∧ z ∉ M) → Q (.ref r) s') : wpAny (model P w) A (CO9 .Sub (.ref a) (.ref b)) Q E s := by
 refine wpAny_binaryOp_same Ta.ty Tb.ty F.fills_set_sub F.slot_set_sub (CL0 F.slot_set_sub Ta.ty entry_sub ?_ (F.args_set_sub_2 _ _))
 show wpAny (model P w) A.in1 (do
  let (self, other) ← Frozenset.slot1 "__sub__" ⟨[.ref a, .ref b], []⟩
  let (l, r) := if false then (other, self) else (self, other)
  if !(← Frozenset.isAnySet l <&&> Frozenset.isAnySet r) then rule s!"frozenset.{"__sub__"}.declined"; return ← ret .notImplemented
  ret (← Frozenset.difference s!"frozenset.{"__sub__"}" (← Frozenset.addrOf l) r)) _ _ _
 refine CD4 (CN8 (show Frozenset.slot1 "__sub__" ⟨[.ref a, .ref b], []⟩ = pure (.ref a, .ref b) from rfl) ?_)
 dsimp only
 rw [if_neg (by decide)]
 dsimp only
 refine CD4 (CD4 (EW Ta ?_))
 show wpAny _ _ (Frozenset.isAnySet (.ref b)) _ _ _
 refine EW Tb ?_
 rw [if_neg (by decide)]
 refine CD4 (m := Frozenset.addrOf (.ref a)) (CD6 (CD4 (AF5 Ta Tb h15 fun s' r Z h1 h2 h3 h4 h5 h6 => ?_)))
 exact CD6 ⟨_, rfl, (fun z => nomatch z), q s' r Z h1 h2 h3 h4 h5 h6⟩
end
end TSt
namespace L2
open PySem PySem.Spec PyProof.Rows
section
variable {X : Cx} {pins : List (Addr × Obj)} {σ : St} {H : Hp} {s s' : CD9} {l : Addr} {ys : List V} {its : List Value} {n : Nat}
theorem Inv.grow (I : Inv X pins σ H s) (k : ∀ b o, s.heap.get? b = some o → s'.heap.get? b = some o) (hg : s'.gens = s.gens) (ho : s'.os = s.os) : Inv X pins σ H s' :=
 I.call' (ch := []) ho ⟨fun b u q _ _ _ => k b u q, fun b u q _ _ _ => ⟨u.slots, k b u q⟩, fun _ _ _ n _ => n, fun b u q _ => ⟨u, k b u q⟩, fun _ _ q => q, fun _ _ _ q => q, fun b ps q => ⟨#[], by rw [q]; simp⟩⟩ (I.hok.kept k) (by rw [hg]; exact I.bare) fun _ z => nomatch z
theorem Inv.gone (I : Inv X pins σ H s) (hn : s.heap.get? l = none) : H l = none := AS2 I.hok hn
theorem Inv.lfar (I : Inv X pins σ H s) (k : ∀ b o, s.heap.get? b = some o → s'.heap.get? b = some o) (hg : s'.gens = s.gens) (ho : s'.os = s.os) (hn : s.heap.get? l = none) (gl : s'.heap.get? l = some { cls := .type "list", data := .seq its.toArray n }) (hv : Vals ys its) (hz : ys.length ≤ CE1) :
  Inv X pins σ (upd H l (.lst ys)) s' := by
 have nH := I.gone hn
 refine I.call' (ch := []) ho ⟨fun b u q _ _ _ => k b u q, fun b u q _ _ _ => ⟨u.slots, k b u q⟩, fun b u q n _ => ?_, fun b u q _ => ⟨u, k b u q⟩, fun b xs q => ?_, fun b o u q => ?_, fun b ps q => ⟨#[], ?_⟩⟩ (fun b u e => ?_) (by rw [hg]; exact I.bare) fun _ z => nomatch z
 ·rw [D1 (fun z => by subst z; rw [hn] at q; cases q)]; exact n
 ·rw [D1 (E6 q nH)]; exact q
 ·rw [D1 (E6 q nH)]; exact q
 ·rw [D1 (E6 q nH), q]; simp
 ·by_cases hb : b = l
  ·subst hb
   rw [D4] at e
   cases e
   exact ⟨hz, its, n, hv, gl⟩
  ·rw [D1 hb] at e
   exact (I.hok b u e).stay (fun c v _ q => k c v q) (fun c q => by rw [D1 (E6 q nH)]; exact q) fun c xs q => by rw [D1 (E6 q nH)]; exact q
end
end L2
namespace L3
open PySem PySem.Spec PyProof.Rows L2
theorem NI : ∀ {zs : List Str} {vs : List Value}, StrsAre vs zs → Vals (zs.map V.str) vs
 | _, _, .nil => .nil
 | _, _, .cons y t r => .cons ⟨t, rfl⟩ (NI r)
theorem KQ : ∀ {zs : List Str} {vs : List Value}, StrsAre vs zs → vs.length = zs.length ∧ ∀ (i : Nat) (y : Value), vs[i]? = some y → ∃ t, y = .str (zs.getD i ⟨#[]⟩) t
 | _, _, .nil => ⟨rfl, fun i y h => by simp at h⟩
 | _, _, .cons z t r => by
  obtain ⟨h1, h2⟩ := KQ r
  refine ⟨by rw [CE7, CE7, h1], fun i y h => ?_⟩
  cases i with
  | zero => exact ⟨t, by simpa [eq_comm] using h⟩
  | succ i =>
   obtain ⟨t', e⟩ := h2 i y (by simpa using h)
   exact ⟨t', by simpa using e⟩
section
variable {X : Cx} {pos : Pos}
theorem AP7 {σv : L2.St} {d : D} (I : Inv X pins σv H s) (m : MRel X.K M H) (e : PR M d = some (zs.map D.str)) (p : Rep X.K M H d v) (r : RelV v u) :
  ∃ (l : Addr) (its : List Value), u = .ref l ∧ its.length = zs.length ∧ (∀ (i : Nat) (y : Value), its[i]? = some y → ∃ t, y = .str (zs.getD i ⟨#[]⟩) t) ∧ (s.heap.IsList l its.toArray ∨ s.heap.IsTuple l its.toArray) := by
 obtain ⟨l, vs, rfl, sq, rr⟩ := PT m p e
 obtain rfl : u = .ref l := r
 rcases sq with sl | st
 ·obtain ⟨its, ri, pl, _⟩ := I.list sl
  obtain ⟨h1, h2⟩ := KQ (CM rr ri)
  exact ⟨l, its, rfl, h1, h2, .inl pl.isList⟩
 ·obtain ⟨its, ri, ⟨o, ho, hc, n, hd⟩, _⟩ := I.tuple st
  obtain ⟨h1, h2⟩ := KQ (CM rr ri)
  exact ⟨l, its, rfl, h1, h2, .inr ⟨o, ho, hc, n, hd⟩⟩
theorem BN1 {σv : L2.St} {d : D} (hh : A.handled = none) (I : Inv X pins σv H s) (m : MRel X.K M H) (e : PR M d = some (zs.map D.str)) (p : Rep X.K M H d v) (r : RelV v u) (hb : zs.length + 1 < CM3)
  (q : ∀ s' a L, Inv X pins σv H s' → (∀ b o, s.heap.get? b = some o → s'.heap.get? b = some o) → s.heap.get? a = none → TSt.TSet X.prog X.w s'.heap a L → (∀ z, z ∈ L ↔ z ∈ zs) → Q (.ref a) s') : wpAny (model X.prog X.w) A (call (.type "set") [u]) Q E s := by
 obtain ⟨l, its, rfl, h1, h2, h3⟩ := AP7 I m e p r
 have fin : ∀ h' tk L, TSt.TSet X.prog X.w h' s.heap.objs.size L → (∀ z, z ∈ L ↔ z ∈ zs) → (∀ b o, s.heap.get? b = some o → h'.get? b = some o) → Q (.ref s.heap.objs.size) { s with heap := h', toks := tk } := fun h' tk L T mem k =>
  q { s with heap := h', toks := tk } _ L (I.grow (s' := { s with heap := h', toks := tk }) k rfl rfl) k (CI9 (CE9 _)) T mem
 rcases h3 with h3 | h3
 ·exact TSt.ST hh h3 h1 h2 hb fin
 ·exact TSt.PU hh h3 h1 h2 hb fin
end
abbrev TZ3 := Lo → Mem → (List Str → Mem → Prop) → Prop
def PZ3 (X : Cx) (e : Expr) (t : TZ3) : Prop :=
 ∀ (pins : List (Addr × Obj)) (s : CD9) (σv : L2.St) (H : Hp) (σ : Lo) (M : Mem) (Q : List Str → Mem → Prop), Inv X pins σv H s → SRel X.K M H σ σv → MRel X.K M H → t σ M Q → wpAny (model X.prog X.w) X.A (eval e X.env) (fun u s' => ∃ a L zs M' H', u = .ref a ∧ Inv X pins σv H' s' ∧ Step M H M' H' ∧ MRel X.K M' H' ∧ H' a = none ∧ (a ≠ X.env.locals ∧ a ∉ X.fs) ∧ TSt.TSet X.prog X.w s'.heap a L ∧ (∀ z, z ∈ L ↔ z ∈ zs) ∧ Q zs M') X.xe s
theorem AI7 {X : Cx} {σv : L2.St} (I : Inv X pins σv H s) (hn : s.heap.get? a = none) : a ≠ X.env.locals ∧ a ∉ X.fs := by
 refine ⟨fun e => ?_, fun hb => ?_⟩
 ·obtain ⟨m, ⟨o, _, _, g, _⟩, _⟩ := I.loc
  rw [← e, hn] at g; cases g
 ·obtain ⟨_, o, g, _⟩ := I.funs.mem hb
  rw [hn] at g; cases g
section
variable {X : Cx} {pos p : Pos} {e : Expr} {ta : TA3}
def DI (ta : TA3) : TZ3 := fun σ M Q => ta σ M fun ds M1 => ∃ d zs, ds = [d] ∧ PR M1 d = some (zs.map D.str) ∧ zs.length + 1 < CM3 ∧ Q zs M1
theorem ID (hcalm : X.calm = true) (hg : Gl X "set") (hm : X.mg "set" = none) (hv : CJ4 "set" = some (.type "set")) (ha : PA3 X [e] ta)
  (he : CH7 [e] X.env = (false, eval e X.env) :: CH7 [] X.env := by rfl) : PZ3 X (.Call (.Name "set" p) [e] [] pos) (DI ta) := by
 intro pins s σv H σ M Q I hS hM h
 refine CN5 (AY I hg hm hv ?_ (by decide) (by decide))
 refine CO2 (thn (ha pos pins s σv H σ M _ I hS hM h) fun us s1 hx => ?_) he rfl
 obtain ⟨ds, vs, M1, H1, I1, st1, m1, rv1, p1, d, zs, rfl, hd, hb, q⟩ := hx
 obtain ⟨v, rfl, pv⟩ := NF p1
 obtain ⟨u, rfl, ru⟩ := vals1 rv1
 refine BN1 (I.ok.hd hcalm) I1 m1 hd pv ru hb fun s' a L I2 k hn T mem => ?_
 exact ⟨a, L, zs, M1, H1, rfl, I2, st1, m1, I1.gone hn, AI7 I1 hn, T, mem, q⟩
def WI (tz : TZ3) : TE3 := fun σ M Q => tz σ M fun zs M1 => (∀ ys : List Str, ys.Nodup → (∀ z ∈ ys, z ∈ zs) → ys.length < 64) ∧ ∀ ys : List Str, ys.Nodup → sortedS ys = true → (∀ z, z ∈ ys ↔ z ∈ zs) → Q (.lst (ys.map D.str)) M1
theorem XW {L : List Str} (T : TSt.TSet P w h a L) : L.Nodup := by
 obtain ⟨_, _, _, _, _, _, _, _, _, n, _⟩ := T
 exact n
theorem AA9 {tz : TZ3} {e : Expr} (hcalm : X.calm = true) (hg : Gl X "sorted") (hm : X.mg "sorted" = none) (hz : PZ3 X e tz) (he : CH7 [e] X.env = (false, eval e X.env) :: CH7 [] X.env := by rfl) : PE3 X (.Call (.Name "sorted" p) [e] [] pos) (WI tz) := by
 intro pins s σv H σ M Q I hS hM h
 refine CN5 (AY I hg hm boot_sorted ?_ (by decide) (by decide))
 refine CR5 ?_ he rfl
 rw [he]
 show wpAny _ _ (spliced ((false, eval e X.env) :: CV5 pos (CH7 [] X.env))) _ _ s
 refine Calls.spliced_cons (thn (hz pins s σv H σ M _ I hS hM h) fun u s1 hx => ?_)
 obtain ⟨a, L, zs, M1, H1, rfl, I1, st1, m1, nH, _, T, mem, h64, q⟩ := hx
 refine Calls.spliced_nil ?_
 have lL := h64 L (XW T) fun z hz => (mem z).mp hz
 refine TSt.VW (I.ok.hd hcalm) T lL fun s' l n vs ys old eg eo hn gl sv pm so => ?_
 have nH' := I1.gone hn
 have ly : ys.length < 64 := by rw [pm.length_eq]; exact lL
 refine ⟨.lst (ys.map D.str), .ref l, M1, _, I1.lfar old eg eo hn gl (NI sv) (by rw [CD8, CF8]; lia), st1.trans (Step.lay nH'), m1.lay nH', rfl, .lst (.inl ⟨.inl D4, m1.free nH'⟩) (V8 _), q ys (pm.nodup_iff.mpr (XW T)) so fun z => ?_⟩
 rw [pm.mem_iff, mem z]
theorem Inv.pinP {σv : L2.St} {q : Addr × Obj} (I : Inv X pins σv H s) (hq : s.heap.get? q.1 = some q.2 ∧ H q.1 = none ∧ q.1 ≠ X.env.locals ∧ q.1 ∉ X.fs ∧ ∀ v, q.2.data ≠ .cell v) : Inv X (q :: pins) σv H s :=
 ⟨I.ok, I.os, I.bare, I.base, I.loc, I.cell, I.free, I.freeC, fun y hy => by
  rcases CJ1.mp hy with hy | hy
  ·exact I.pin y (CK8 _ hy)
  ·rcases CF9.mp hy with rfl | hy
   ·exact hq
   ·exact I.pin y (CF0 _ hy), I.hok, I.len⟩
theorem Inv.lessP {σv : L2.St} {q : Addr × Obj} (I : Inv X (q :: pins) σv H s) : Inv X pins σv H s :=
 ⟨I.ok, I.os, I.bare, I.base, I.loc, I.cell, I.free, I.freeC, fun y hy => by
  rcases CJ1.mp hy with hy | hy
  ·exact I.pin y (CK8 _ hy)
  ·exact I.pin y (CF0 _ (CF2 _ hy)), I.hok, I.len⟩
def AP6 (ta tb : TZ3) : TZ3 := fun σ M Q => ta σ M fun zs M1 => tb σ M1 fun ws M2 => (∀ ys : List Str, ys.Nodup → (∀ z ∈ ys, z ∈ zs) → ys.length ≤ 15) ∧ Q (zs.filter fun z => !ws.contains z) M2
theorem AY6 {ea eb : Expr} {ta tb : TZ3} (ha : PZ3 X ea ta) (hb : PZ3 X eb tb) : PZ3 X (.BinOp ea .Sub eb pos) (AP6 ta tb) := by
 intro pins s σv H σ M Q I hS hM h
 refine wpAny_BinOp (thn (ha pins s σv H σ M _ I hS hM h) fun u s1 hx => ?_)
 obtain ⟨a, L, zs, M1, H1, rfl, I1, st1, m1, nH, nf, T, mem, h1⟩ := hx
 obtain ⟨o, es, ep, t, g, x, d, r⟩ := id T
 have I1' := Inv.pinP (q := (a, o)) I1 ⟨g, nH, nf.1, nf.2, fun v z => by rw [d] at z; cases z⟩
 refine thn (hb ((a, o) :: pins) s1 σv H1 σ M1 _ I1' (hS.mono st1) m1 h1) fun u2 s2 hx => ?_
 obtain ⟨b, L2, ws, M2, H2, rfl, I2, st2, m2, nH2, nf2, T2, mem2, hlen, q⟩ := hx
 have g2 := (I2.pin (a, o) (CF0 _ CF3)).1
 have T1 : TSt.TSet X.prog X.w s2.heap a L := T.keep fun o' e => by rw [g] at e; cases e; exact g2
 refine TSt.AP2 T1 T2 (hlen L (XW T) fun z hz => (mem z).mp hz) fun s3 c Z old eg eo hn T3 mem3 => ?_
 have I3 := Inv.lessP I2
 refine ⟨c, Z, _, M2, H2, rfl, I3.grow old eg eo, st1.trans st2, m2, I3.gone hn, AI7 I3 hn, T3, fun z => ?_, q⟩
 rw [mem3 z, mem z, mem2 z, List.mem_filter]
 simp
end
end L3
namespace TSt
open PySem PySem.Spec PyProof.Rows
end TSt
namespace L3
open PySem
theorem NS : CJ4 "set" = some (.type "set") := by decide +kernel
end L3
namespace L3
open PySem PySem.Spec PyProof.Rows L2
theorem AB4 {iy : Nat} {X : Cx}
  (hc : X.calm = true) (hi : EU X tg iter ti) (hkind : scope.kind = .function) (hcell : ∀ y ∈ scope.names, y.2 ≠ .cell)
  (hnames : ∀ y ∈ scope.names, y.2 = .local → scope.names.lookup y.1 = some .local)
  (hfree : ∀ y ∈ scope.names, y.2 = .free → X.env.kindOf y.1 = some .cell ∨ X.env.kindOf y.1 = some .free)
  (hcf : ∀ y ∈ caps, scope.names.lookup y = some .free) (hcaps : slots.map (fun j => X.N[j]?) = caps.map some)
  (hgk : ∀ d M Q (cs : Lo), g d (CD7 tns.length none ++ cs) M Q → g d (CD7 tns.length none ++ cs) M (fun σ' M' => σ'.drop tns.length = cs ∧ Q σ' M'))
  (hg : ∀ cl s₀ H₀ ex, PG3 (B0 X scope cl s₀ H₀ ex (tns ++ caps)) tg g)
  (ht : ∀ cl s₀ H₀ ex, W6 (B0 X scope cl s₀ H₀ ex (tns ++ caps)) ifs tt) (he : ∀ cl s₀ H₀ ex, PE3 (B0 X scope cl s₀ H₀ ex (tns ++ caps)) elt te)
  (hN : X.N.Nodup) (hiy : X.N[iy]? = some y) (hy : Loc X.env.scope y) (hsw : CT9 (.ListComp elt [⟨tg, iter, ifs, 0⟩] scope pos) (some (.Name y py)) spos.line X.env = pure true) (hf : X.fn y = true ∨ X.env.scope.names.lookup y = some .local)
  (hs : ∀ y, CG6 iter X.env y = pure y := by intro _; rfl) :
  PS3 X (.Assign [.Name y py] (.ListComp elt [⟨tg, iter, ifs, 0⟩] scope pos) spos) (B1 iy (K9 ti tns.length slots g tt te)) := by
 intro pins s σv H σ M T0 I hS hM h
 rw [exec_Assign_Name_used _ _ _ _ hsw]
 refine CD4 (CS8 (CD4 ?_))
 rw [arm_evalThenUse_ListComp]
 refine CD4 ?_
 refine BV hc hi hkind hcell hnames hfree hcf hcaps hgk hg ht he hs (use := some (assign (.Name y py) X.env)) (F := fun p acc M => T0.nx (σ.set iy (some (.ref p))) M) I hS hM h fun D C acc H5 M5 s6 m hn I7 c1 c2 c3 c4 c5 c6 st m5 hp hq => ?_
 obtain ⟨oC, es, ep, hoC, hdC, rC⟩ := hn
 have pinC : Inv X (pins ++ [(C, oC)]) σv H5 s6 := I7.pins_of fun p hp => by
  rcases CJ1.mp hp with z | z
  ·exact I7.pin p (CF0 _ z)
  ·cases CP0.mp z
   exact ⟨hoC, c1, c2, c3, fun v z => by rw [hdC] at z; cases z⟩
 show wpAny (model X.prog X.w) X.A (assign (.Name y py) X.env (.ref D)) _ X.xe s6
 refine wpAny_assign_Name (FZ pinC hN hiy hy (v := .ref D) rfl (fun s7 I8 => ?_) hf)
 have hp8 := (I8.pin (C, oC) (CF0 _ (CF0 _ CF3))).1
 refine ⟨m, ⟨oC, es, ep, hp8, hdC, rC⟩, fun h' sb => CD6 (CD6 ?_)⟩
 have I9 : Inv X pins (σv.set iy (some (.ref D))) H5 { s7 with heap := h', toks := s7.toks } := I8.unpinned.turned (it := C) (fun b o hb e => (sb.2 b hb).trans e) c1 c2 (.inr c4) c5 c6
 exact ⟨_, _, M5, H5, I9, st, m5, (hS.mono st).set .ref iy, hq⟩
theorem JM {X : Cx} (iy : Nat) (tns caps : List Str) (slots : List Nat)
  (hc : X.calm = true) (hi : EU X tg iter ti) (hkind : scope.kind = .function) (hok : J1 X.env scope caps = true) (hcaps : slots.map (fun j => X.N[j]?) = caps.map some)
  (hgk : ∀ d M Q (cs : Lo), g d (CD7 tns.length none ++ cs) M Q → g d (CD7 tns.length none ++ cs) M (fun σ' M' => σ'.drop tns.length = cs ∧ Q σ' M'))
  (hg : ∀ cl s₀ H₀ ex, PG3 (B0 X scope cl s₀ H₀ ex (tns ++ caps)) tg g)
  (ht : ∀ cl s₀ H₀ ex, W6 (B0 X scope cl s₀ H₀ ex (tns ++ caps)) ifs tt) (he : ∀ cl s₀ H₀ ex, PE3 (B0 X scope cl s₀ H₀ ex (tns ++ caps)) elt te)
  (hN : X.N.Nodup) (hiy : X.N[iy]? = some y) (hy : Loc X.env.scope y) (hf : X.fn y = true ∨ X.env.scope.names.lookup y = some .local)
  (hsw : CT9 (.ListComp elt [⟨tg, iter, ifs, 0⟩] scope pos) (some (.Name y py)) spos.line X.env = pure true := by rfl)
  (hs : ∀ y, CG6 iter X.env y = pure y := by intro _; rfl) :
  PS3 X (.Assign [.Name y py] (.ListComp elt [⟨tg, iter, ifs, 0⟩] scope pos) spos) (B1 iy (K9 ti tns.length slots g tt te)) := by
 unfold J1 at hok
 rw [CH5, CF7, CF7] at hok
 obtain ⟨h1, h2⟩ := hok
 refine AB4 hc hi hkind (fun y hy e => ?_) (fun y hy e => ?_) (fun y hy e => ?_) (fun y hy => ?_) hcaps hgk hg ht he hN hiy hy hsw hf hs
 ·have := h1 y hy; rw [e] at this; cases this
 ·have := h1 y hy
  rw [e] at this
  dsimp only at this
  split at this
  ·assumption
  ·cases this
 ·have := h1 y hy
  rw [e] at this
  dsimp only at this
  split at this
  ·exact .inl (by assumption)
  ·exact .inr (by assumption)
  ·cases this
 ·have := h2 y hy
  split at this
  ·assumption
  ·cases this
theorem RT {X : Cx} (tns caps : List Str) (slots : List Nat)
  (hc : X.calm = true) (hi : EU X tg iter ti) (hkind : scope.kind = .function) (hok : J1 X.env scope caps = true) (hcaps : slots.map (fun j => X.N[j]?) = caps.map some)
  (hgk : ∀ d M Q (cs : Lo), g d (CD7 tns.length none ++ cs) M Q → g d (CD7 tns.length none ++ cs) M (fun σ' M' => σ'.drop tns.length = cs ∧ Q σ' M'))
  (hg : ∀ cl s₀ H₀ ex, PG3 (B0 X scope cl s₀ H₀ ex (tns ++ caps)) tg g)
  (ht : ∀ cl s₀ H₀ ex, W6 (B0 X scope cl s₀ H₀ ex (tns ++ caps)) ifs tt) (he : ∀ cl s₀ H₀ ex, PE3 (B0 X scope cl s₀ H₀ ex (tns ++ caps)) elt te)
  (hs : ∀ y, CG6 iter X.env y = pure y := by intro _; rfl) :
  PE3 X (.ListComp elt [⟨tg, iter, ifs, 0⟩] scope pos) (K9 ti tns.length slots g tt te) := by
 unfold J1 at hok
 rw [CH5, CF7, CF7] at hok
 obtain ⟨h1, h2⟩ := hok
 refine JL hc hi hkind (fun y hy e => ?_) (fun y hy e => ?_) (fun y hy e => ?_) (fun y hy => ?_) hcaps hgk hg ht he hs
 ·have := h1 y hy; rw [e] at this; cases this
 ·have := h1 y hy
  rw [e] at this
  dsimp only at this
  split at this
  ·assumption
  ·cases this
 ·have := h1 y hy
  rw [e] at this
  dsimp only at this
  split at this
  ·exact .inl (by assumption)
  ·exact .inr (by assumption)
  ·cases this
 ·have := h2 y hy
  split at this
  ·assumption
  ·cases this
end L3
namespace L3
open PySem L2
theorem JY {tl th : TO3} {Q : DK} (h : te σ M fun x M1 => tl σ M1 fun l M2 => th σ M2 fun u M3 => NC x l u M3 Q) : O8 te tl th σ M Q := h
theorem FS {l u : Option Int} {Q : DK} (h : Q (.tup (cutD ds l u)) M) : NC (.tup ds) l u M Q := h
theorem YK {Q : DK} (h : te σ M fun d M1 => ∃ p xs, d = .ref p ∧ M1 p = some (.lst xs) ∧ Q (.lst xs) (K4 M1 p)) : EQ te σ M Q := h
theorem SM {tz : TZ3} {Q : DK} (h : tz σ M fun zs M1 => (∀ ys : List Str, ys.Nodup → (∀ z ∈ ys, z ∈ zs) → ys.length < 64) ∧ ∀ ys : List Str, ys.Nodup → PyProof.Rows.sortedS ys = true → (∀ z, z ∈ ys ↔ z ∈ zs) → Q (.lst (ys.map D.str)) M1) : WI tz σ M Q := h
theorem YQ {ta tb : TZ3} {Q : List Str → Mem → Prop} (h : ta σ M fun zs M1 => tb σ M1 fun ws M2 => (∀ ys : List Str, ys.Nodup → (∀ z ∈ ys, z ∈ zs) → ys.length ≤ 15) ∧ Q (zs.filter fun z => !ws.contains z) M2) : AP6 ta tb σ M Q := h
theorem YO {ta : TA3} {Q : List Str → Mem → Prop} (h : ta σ M fun ds M1 => ∃ d zs, ds = [d] ∧ PR M1 d = some (zs.map D.str) ∧ zs.length + 1 < CM3 ∧ Q zs M1) : DI ta σ M Q := h
def AD3 (g : TG3) (tt : TT3) (te : TE3) (σ0 : Lo) (ds : List D) (M1 : Mem) (Q : DK) : Prop := ∀ p, M1 p = none → ∃ Pv : Nat → List D → Mem → Prop, Pv 0 [] (C7 M1 p (.lst [])) ∧
 (∀ k d acc M, ds[k]? = some d → Pv k acc M → g d σ0 M fun σ' M0 => tt σ' M0 fun b M' =>
  if b = true then te σ' M' fun e M'' => M'' p = some (.lst acc) ∧ acc.length < CE1 ∧ Pv (k + 1) (acc ++ [e]) (C7 M'' p (.lst (acc ++ [e]))) else Pv (k + 1) acc M') ∧
 ∀ acc M, Pv ds.length acc M → M p = some (.lst acc) ∧ Q (.ref p) M
theorem SE {Q : DK} (h : ti σ M fun ds M1 => AD3 g tt te (CD7 n none ++ slots.map fun j => (σ[j]?).getD none) ds M1 Q) : K9 ti n slots g tt te σ M Q := h
theorem R9 {gt : TG3} {M1 : Mem} {Q : DK} (l : List α) (f g : α → D) (c : α → Bool) (hl : l.length < CE1)
  (turn : ∀ a ∈ l, ∀ M2 (R : D → Mem → Prop) (F : Mem → Prop), (∀ x, M1 x ≠ none → M2 x = M1 x) → (c a = true → R (g a) M2) → (c a = false → F M2) → gt (f a) σ0 M2 fun σ' M3 => tt σ' M3 fun bb M4 => if bb = true then te σ' M4 R else F M4)
  (done : ∀ p M', M1 p = none → M' p = some (.lst ((l.filter c).map g)) → (∀ x, x ≠ p → M' x = M1 x) → Q (.ref p) M') : AD3 gt tt te σ0 (l.map f) M1 Q := by
 intro p hp
 refine ⟨fun k acc M2 => acc = ((l.take k).filter c).map g ∧ M2 p = some (.lst acc) ∧ ∀ a, a ≠ p → M2 a = M1 a, ⟨rfl, B5, fun a ha => C6 ha⟩, ?_, ?_⟩
 ·rintro k d acc M2 hd ⟨rfl, hacc, hsame⟩
  have hk : k < l.length := by simpa using (List.getElem?_eq_some_iff.mp hd).1
  have hdk : d = f l[k] := by
   rw [CF1, CE8 hk] at hd
   exact (Option.some.inj hd).symm
  subst hdk
  have hlen : (((l.take k).filter c).map g).length ≤ k := by
   rw [CD8]
   exact CI6 (CX9 _ _) (by simp; lia)
  have e1 : l.take (k + 1) = l.take k ++ [l[k]] := by rw [CM1, CE8 hk]; rfl
  refine turn l[k] (CQ9 hk) M2 _ _ (fun a ha => hsame a (by rintro rfl; exact ha hp)) (fun hc => ⟨hacc, by lia, ?_, B5, fun a ha => by rw [C6 ha]; exact hsame a ha⟩) (fun hc => ⟨?_, hacc, hsame⟩)
  ·rw [e1, CU7, List.filter_cons_of_pos hc, CG3]; rfl
  ·rw [e1, CU7, List.filter_cons_of_neg (by rw [hc]; simp), CG3]; simp
 ·rintro acc M2 ⟨rfl, hacc, hsame⟩
  rw [CD8, CJ0] at hacc
  refine ⟨?_, done p M2 hp hacc hsame⟩
  rw [CD8, CJ0]; exact hacc
theorem DT {gt : TG3} {M1 : Mem} {Q : DK} (l : List α) (f g : α → D) (c : α → Bool) (hl : l.length < CE1)
  (turn : ∀ a ∈ l, ∀ M2 (R : D → Mem → Prop) (F : Mem → Prop), (∀ x, M1 x ≠ none → M2 x = M1 x) → (c a = true → R (g a) M2) → (c a = false → F M2) → gt (f a) σ0 M2 fun σ' M3 => tt σ' M3 fun bb M4 => if bb = true then te σ' M4 R else F M4)
  (done : Q (.lst ((l.filter c).map g)) M1) : WR gt tt te σ0 (l.map f) M1 Q := by
 intro p hp
 refine ⟨fun k acc M2 => acc = ((l.take k).filter c).map g ∧ M2 p = some (.lst acc) ∧ ∀ a, a ≠ p → M2 a = M1 a, ⟨rfl, B5, fun a ha => C6 ha⟩, ?_, ?_⟩
 ·rintro k d acc M2 hd ⟨rfl, hacc, hsame⟩
  have hk : k < l.length := by simpa using (List.getElem?_eq_some_iff.mp hd).1
  have hdk : d = f l[k] := by
   rw [CF1, CE8 hk] at hd
   exact (Option.some.inj hd).symm
  subst hdk
  have hlen : (((l.take k).filter c).map g).length ≤ k := by
   rw [CD8]
   exact CI6 (CX9 _ _) (by simp; lia)
  have e1 : l.take (k + 1) = l.take k ++ [l[k]] := by rw [CM1, CE8 hk]; rfl
  refine turn l[k] (CQ9 hk) M2 _ _ (fun a ha => hsame a (by rintro rfl; exact ha hp)) (fun hc => ⟨hacc, by lia, ?_, B5, fun a ha => by rw [C6 ha]; exact hsame a ha⟩) (fun hc => ⟨?_, hacc, hsame⟩)
  ·rw [e1, CU7, List.filter_cons_of_pos hc, CG3]; rfl
  ·rw [e1, CU7, List.filter_cons_of_neg (by rw [hc]; simp), CG3]; simp
 ·rintro acc M2 ⟨rfl, hacc, hsame⟩
  have hlen : (l.map f).length = l.length := by simp
  rw [hlen, CJ0] at hacc ⊢
  have : K4 M2 p = M1 := funext fun a => by
   by_cases ha : a = p
   ·subst ha; rw [BY, hp]
   ·rw [X0 ha]; exact hsame a ha
  rw [this]
  exact ⟨hacc, done⟩
theorem Q5 (l : List α) (f : α → D) {tb : TS3} {T : L1} {fnd : Addr} {ini : List D} (S : Lo → Prop) (P : Nat → List D → Prop) (hS : S σ) (hf : M fnd = some (.lst ini)) (h0 : P 0 ini)
  (turn : ∀ k a acc σ' M' (N : Lo → Mem → Prop), l[k]? = some a → S σ' → P k acc → M' fnd = some (.lst acc) → (∀ x, x ≠ fnd → M x ≠ none → M' x = M x) →
   (∀ σ'' acc' M'', S σ'' → P (k + 1) acc' → M'' fnd = some (.lst acc') → (∀ x, x ≠ fnd → M' x ≠ none → M'' x = M' x) → N σ'' M'') →
   tb { T with nx := N, ct := N, bk := T.nx } (σ'.set i (some (f a))) M')
  (done : ∀ σ' acc M', S σ' → P l.length acc → M' fnd = some (.lst acc) → (∀ x, x ≠ fnd → M x ≠ none → M' x = M x) → T.nx σ' M') :
  ∃ Pv : Nat → Lo → Mem → Prop, Pv 0 σ M ∧ (∀ k d σ M, (l.map f)[k]? = some d → Pv k σ M → tb { T with nx := Pv (k + 1), ct := Pv (k + 1), bk := T.nx } (σ.set i (some d)) M) ∧ ∀ σ M, Pv (l.map f).length σ M → T.nx σ M := by
 refine ⟨fun k σ' M' => S σ' ∧ ∃ acc, P k acc ∧ M' fnd = some (.lst acc) ∧ ∀ x, x ≠ fnd → M x ≠ none → M' x = M x, ⟨hS, ini, h0, hf, fun _ _ _ => rfl⟩, ?_, ?_⟩
 ·rintro k d σ' M' hd ⟨s', acc, hp, hm, hs⟩
  rw [CF1] at hd
  cases e : l[k]? with
  | none => rw [e] at hd; cases hd
  | some a =>
   rw [e] at hd
   cases hd
   refine turn k a acc σ' M' _ e s' hp hm hs fun σ'' acc' M'' s'' p'' m'' h'' => ⟨s'', acc', p'', m'', fun x hx hn => ?_⟩
   rw [h'' x hx (by rw [hs x hx hn]; exact hn), hs x hx hn]
 ·rintro σ' M' ⟨s', acc, hp, hm, hs⟩
  rw [CD8] at hp
  exact done σ' acc M' s' hp hm hs
def nw (M : Mem) (l : List D) (Q : DK) : Prop := ∀ a M', M a = none → M' a = some (.lst l) → (∀ x, x ≠ a → M' x = M x) → Q (.ref a) M'
theorem OT {fnd : Addr} {acc es : List D} {N : Mem → Prop} (hf : M fnd = some (.lst acc)) (hl : acc.length + es.length ≤ CE1) (q : ∀ M', M' fnd = some (.lst (acc ++ es)) → (∀ x, x ≠ fnd → M x ≠ none → M' x = M x) → N M') :
  nw M es (fun d M1 => NB (.ref fnd) [d] M1 fun _ M2 => N M2) := by
 intro a M' ha hM hs
 have hfa : fnd ≠ a := by rintro rfl; rw [ha] at hf; cases hf
 refine ⟨fnd, a, acc, es, rfl, rfl, by rw [hs fnd hfa]; exact hf, hM, hl, q _ B5 fun x hx hn => ?_⟩
 rw [C6 hx]
 exact hs x (by rintro rfl; exact hn ha)
theorem JJ {es : List D} {Q : DK} (q : ∀ M', (∀ x, M x ≠ none → M' x = M x) → (∀ x, M x = none → M' x = none) → Q (.lst es) M') : nw M es (fun d M1 => ∃ p xs, d = .ref p ∧ M1 p = some (.lst xs) ∧ Q (.lst xs) (K4 M1 p)) := by
 intro a M' ha hM hs
 refine ⟨a, es, rfl, hM, q _ (fun x hn => ?_) fun x hn => ?_⟩
 ·have hx : x ≠ a := by rintro rfl; exact hn ha
  rw [X0 hx]; exact hs x hx
 ·by_cases hx : x = a
  ·subst hx; exact BY
  ·rw [X0 hx, hs x hx]; exact hn
theorem UV {M1 : Mem} {f : Addr} {Q : DK} (q : nw M l Q) (hf0 : M f = none) (hf : M1 f = some (.lst l)) (hs : ∀ x, x ≠ f → M x ≠ none → M1 x = M x) : View Q (.ref f) M1 := by
 refine View.sub (M' := fun a => if a = f then M1 f else M a) (fun a o e => ?_) (q f _ hf0 (by show (if f = f then M1 f else M f) = _; rw [if_pos rfl]; exact hf) fun x hx => by show (if x = f then M1 f else M x) = _; rw [if_neg hx])
 by_cases ha : a = f
 ·subst ha; have e : (if a = a then M1 a else M a) = some o := e; rw [if_pos rfl] at e; exact e
 ·have e : (if a = f then M1 f else M a) = some o := e
  rw [if_neg ha] at e; rw [hs a ha (by rw [e]; simp)]; exact e
theorem AT7 {Q : DK} (q : nw M l Q) : nw M l (View Q) := fun a M' h1 h2 h3 => View.of (q a M' h1 h2 h3)
theorem View.keep {Q : DK} {d : D} {M1 : Mem} (h : ∀ x, M x ≠ none → M1 x = M x) (q : Q d M) : View Q d M1 := View.sub (fun a o e => by rw [h a (by rw [e]; simp)]; exact e) q
end L3
namespace K10
open PySem L2 L3 PK
open PyProof.Rows (sortedS)
def tblS : List (Str × List Str) := [("let", ["name", "expression"]), ("note", ["expression"]), ("give", ["name", "expression"]), ("on", ["name", "expression"]), ("ask", ["name", "name", "expression", "expression"]), ("cast", ["name", "name", "expression", "word", "expression"]), ("close", ["expression"]), ("end", ["expression"]), ("fault", ["word", "expression"]), ("leave", []), ("if", ["expression", "block", "rest"]), ("while", ["expression", "block"]), ("try", ["block", "catches", "rest"])]
mutual
def dsB : Blk → List Deed
 | .nil => []
 | .cons d r => dsD d ++ dsB r
def dsD : Deed → List Deed
 | .mk h bs => .mk h bs :: J6 bs
def J6 : Bls → List Deed
 | .nil => []
 | .cons b r => dsB b ++ J6 r
end
mutual
def trE : Ex → List Ex
 | .none => [.none]
 | .num n => [.num n]
 | .var x => [.var x]
 | .op s a b => .op s a b :: (trE a ++ trE b)
 | .make r as => .make r as :: ES as
def ES : Exs → List Ex
 | .nil => []
 | .cons a r => trE a ++ ES r
end
mutual
def vrE : Ex → List Str
 | .none => []
 | .num _ => []
 | .var x => [x]
 | .op _ a b => vrE a ++ vrE b
 | .make _ as => TZ as
def TZ : Exs → List Str
 | .nil => []
 | .cons a r => vrE a ++ TZ r
end
def exL : Exs → List Ex
 | .nil => []
 | .cons a r => a :: exL r
def brE : Ex → List Ex
 | .op _ a b => [a, b]
 | .make _ as => exL as
 | _ => []
def Ev (y : Str) : Deed → Prop
 | .mk (.leaf _ r) _ => ∃ e, eD e ∈ r ∧ y ∈ vrE e
 | .mk (.ife d) _ => ∃ e, d = eD e ∧ y ∈ vrE e
 | .mk (.whl d) _ => ∃ e, d = eD e ∧ y ∈ vrE e
 | .mk (.tr _) _ => False
def Tg (x : Str) : Deed → Prop
 | .mk (.leaf h r) _ => ((h = "let" ∨ h = "give" ∨ h = "on" ∨ h = "ask" ∨ h = "cast") ∧ r[0]? = some (.str x)) ∨ ((h = "ask" ∨ h = "cast") ∧ r[1]? = some (.str x))
 | .mk (.tr cs) _ => ∃ w, (w, x) ∈ cs
 | _ => False
def Nm (x : Str) (b : Blk) : Prop := ∃ d ∈ dsB b, Ev x d ∨ Tg x d
def pick (kind : Str) (sh : List Str) (r : List D) : List D := ((sh.zip r).filter fun p => p.1 == kind).map Prod.snd
def CK : Sp3 := fun ds M Q => ∃ h r kind sh, ds = [.tup (.str h :: r), .str kind] ∧ tblS.lookup h = some sh ∧ sh.length ≤ 10 ∧ nw M (pick kind sh r) Q
def K7 (n : Nat) : Sp3 := fun ds M Q => ∃ _ : Pool, ∃ b, ds = [.tup (dB b)] ∧ okB b ∧ dpB b + 1 ≤ n ∧ P0 b ≤ 100 ∧ nw M ((dsB b).map dD) Q
def FW : Sp3 := fun ds M Q => ∃ _ : Pool, ∃ d, ds = [dD d] ∧ okD d ∧ ∀ ns : List Str, (∀ x, x ∈ ns ↔ Tg x d) → ns.length ≤ 3 → nw M (ns.map D.str) Q
def R7 : Sp3 := fun ds M Q => ∃ e, ds = [eD e] ∧ Q (.lst ((brE e).map eD)) M
def K8 (n : Nat) : Sp3 := fun ds M Q => ∃ e, ds = [eD e] ∧ dp e ≤ n ∧ nd e ≤ 9 ∧ nw M ((trE e).map eD) Q
def CL : Sp3 := fun ds M Q => ∃ _ : Pool, ∃ r, ds = [rD r] ∧ okB r.blk ∧ dpB r.blk ≤ 4 ∧ P0 r.blk ≤ 30 ∧ ∀ ts : List Ex, (∀ y, Ex.var y ∈ ts ↔ ∃ d ∈ dsB r.blk, Ev y d) → ts.length ≤ 540 → nw M (ts.map eD) Q
def O4 : Sp3 := fun ds M Q => ∃ _ : Pool, ∃ r, ds = [rD r] ∧ okB r.blk ∧ dpB r.blk ≤ 4 ∧ P0 r.blk ≤ 30 ∧ Pool.ps.length ≤ 15 ∧ r.pars.length ≤ 3 ∧ ∀ ys : List Str, ys.Nodup → sortedS ys = true → (∀ z, z ∈ ys ↔ Nm z r.blk ∧ z ∉ r.pars) → Q (.tup ((r.pars ++ ys).map D.str)) M
mutual
theorem KU (y : Str) : ∀ e : Ex, Ex.var y ∈ trE e ↔ y ∈ vrE e
 | .none => by simp [trE, vrE]
 | .num n => by simp [trE, vrE]
 | .var x => by simp [trE, vrE]
 | .op s a b => by simp [trE, vrE, KU y a, KU y b]
 | .make r as => by simp [trE, vrE, YT y as]
theorem YT (y : Str) : ∀ e : Exs, Ex.var y ∈ ES e ↔ y ∈ TZ e
 | .nil => by simp [ES, TZ]
 | .cons a r => by simp [ES, TZ, KU y a, YT y r]
end
mutual
theorem AD : ∀ e : Ex, (trE e).length = nd e
 | .none => by simp [trE, nd]
 | .num n => by simp [trE, nd]
 | .var x => by simp [trE, nd]
 | .op s a b => by simp [trE, nd, AD a, AD b]; lia
 | .make r as => by simp [trE, nd, TP as]; lia
theorem TP : ∀ e : Exs, (ES e).length = nds e
 | .nil => by simp [ES, nds]
 | .cons a r => by simp [ES, nds, AD a, TP r]
end
mutual
theorem YU [Pool] (y : Str) : ∀ e : Ex, wf e → y ∈ vrE e → pn y
 | .none, _, h => by simp [vrE] at h
 | .num n, _, h => by simp [vrE] at h
 | .var x, w, h => by simp [vrE] at h; rw [h]; exact w
 | .op s a b, w, h => by
  simp only [vrE, CJ1] at h
  exact h.elim (YU y a w.2.1) (YU y b w.2.2)
 | .make r as, w, h => AQ3 y as w.2.2 (by simpa [vrE] using h)
theorem AQ3 [Pool] (y : Str) : ∀ e : Exs, wfs e → y ∈ TZ e → pn y
 | .nil, _, h => by simp [TZ] at h
 | .cons a r, w, h => by
  simp only [TZ, CJ1] at h
  exact h.elim (YU y a w.1) (AQ3 y r w.2)
end
mutual
theorem S0 : ∀ b : Blk, (dsB b).length = P0 b
 | .nil => by simp [dsB, P0]
 | .cons d r => by simp only [dsB, P0, CE6, AR8 d, S0 r]
theorem AR8 : ∀ d : Deed, (dsD d).length = G5 d
 | .mk h bs => by simp only [dsD, G5, CE7, QZ bs]; lia
theorem QZ : ∀ b : Bls, (J6 b).length = L4 b
 | .nil => by simp [J6, L4]
 | .cons b r => by simp only [J6, L4, CE6, S0 b, QZ r]
end
mutual
theorem AR [Pool] : ∀ (b : Blk), okB b → ∀ d ∈ dsB b, okD d
 | .nil, _, d, h => by simp [dsB] at h
 | .cons x r, k, d, h => by
  simp only [dsB, CJ1] at h
  exact h.elim (BD9 x k.1 d) (AR r k.2 d)
theorem BD9 [Pool] : ∀ (x : Deed), okD x → ∀ d ∈ dsD x, okD d
 | .mk h bs, k, d, m => by
  simp only [dsD, CF9] at m
  rcases m with rfl | m
  ·exact k
  ·exact XB bs k.2 d m
theorem XB [Pool] : ∀ (b : Bls), AU0 b → ∀ d ∈ J6 b, okD d
 | .nil, _, d, h => by simp [J6] at h
 | .cons x r, k, d, h => by
  simp only [J6, CJ1] at h
  exact h.elim (AR x k.1 d) (XB r k.2 d)
end
mutual
theorem W8 : ∀ (a b : Ex), eD a = eD b → a = b
 | .none, .none, _ => rfl
 | .num m, .num n, h => by
  simp only [eD, D.tup.injEq, List.cons.injEq, D.int.injEq, and_true, true_and] at h
  rw [h]
 | .var m, .var n, h => by
  simp only [eD, D.tup.injEq, List.cons.injEq, D.str.injEq, and_true, true_and] at h
  rw [h]
 | .op s a b, .op t c d, h => by
  simp only [eD, D.tup.injEq, List.cons.injEq, D.str.injEq, and_true, true_and] at h
  rw [h.1, W8 a c h.2.1, W8 b d h.2.2]
 | .make r as, .make t bs, h => by
  simp only [eD, D.tup.injEq, List.cons.injEq, D.str.injEq, and_true, true_and] at h
  rw [h.1, XD as bs h.2]
 | .none, .num _, h => by simp [eD] at h
 | .none, .var _, h => by simp [eD] at h
 | .none, .op _ _ _, h => by simp [eD] at h
 | .none, .make _ _, h => by simp [eD] at h
 | .num _, .none, h => by simp [eD] at h
 | .num _, .var _, h => by simp [eD] at h
 | .num _, .op _ _ _, h => by simp [eD] at h
 | .num _, .make _ _, h => by simp [eD] at h
 | .var _, .none, h => by simp [eD] at h
 | .var _, .num _, h => by simp [eD] at h
 | .var _, .op _ _ _, h => by simp [eD] at h
 | .var _, .make _ _, h => by simp [eD] at h
 | .op _ _ _, .none, h => by simp [eD] at h
 | .op _ _ _, .num _, h => by simp [eD] at h
 | .op _ _ _, .var _, h => by simp [eD] at h
 | .op _ _ _, .make _ _, h => by simp [eD] at h
 | .make _ _, .none, h => by simp [eD] at h
 | .make _ _, .num _, h => by simp [eD] at h
 | .make _ _, .var _, h => by simp [eD] at h
 | .make _ _, .op _ _ _, h => by simp [eD] at h
theorem XD : ∀ (a b : Exs), eDs a = eDs b → a = b
 | .nil, .nil, _ => rfl
 | .cons a r, .cons b q, h => by
  simp only [eDs, List.cons.injEq] at h
  rw [W8 a b h.1, XD r q h.2]
 | .nil, .cons _ _, h => by simp [eDs] at h
 | .cons _ _, .nil, h => by simp [eDs] at h
end
theorem U2 (e : Ex) (x : Str) : eD e ≠ .str x := by cases e <;> simp [eD]
theorem EZ : ∀ as : Exs, eDs as = (exL as).map eD
 | .nil => by simp [eDs, exL]
 | .cons a r => by simp [eDs, exL, EZ r]
end K10
namespace K10
open PySem L2 L3
abbrev DQ : List Str := ["deed", "kind"]
def AA : TS3 :=
  (B4 (K9 (XJ (A0 (BN7 tblS (A3 C1 (A1 0) (tC3 (.int 0)))) (A0 (O8 (A1 0) (G3 (tC3 (.int 1))) E5) A2))) 2 [1] (AV [0, 1]) (A7 (A3 D8 (A1 0) (A1 2))) (A1 1)))
theorem TH (d0 d1 : D) : B2 DQ [d0, d1] = [some d0, some d1] := rfl
abbrev AJ : List Str := ["deed"]
def S5 : TS3 :=
  (A5 (B9 (A7 (A3 D8 (A3 C1 (A1 0) (tC3 (.int 0))) (tC3 (.str "if")))) (B4 (D7 (A0 (A3 C1 (A1 0) (tC3 (.int 2))) (A0 (A3 C1 (A1 0) (tC3 (.int 3))) A2)))) B3)
  (A5 (B9 (A7 (A3 D8 (A3 C1 (A1 0) (tC3 (.int 0))) (tC3 (.str "while")))) (B4 (D7 (A0 (A3 C1 (A1 0) (tC3 (.int 2))) A2))) B3)
  (A5 (B9 (A7 (A3 D8 (A3 C1 (A1 0) (tC3 (.int 0))) (tC3 (.str "try")))) (B4 (A3 C5 (A3 C5 (D7 (A0 (A3 C1 (A1 0) (tC3 (.int 1))) A2)) (F9 (U6 (A3 C1 (A1 0) (tC3 (.int 2)))) 3 [] (AV [0, 1, 2]) G6 (A1 2))) (D7 (A0 (A3 C1 (A1 0) (tC3 (.int 3))) A2)))) B3)
  (B4 (D7 A2)))))
theorem PY (d0 : D) : B2 AJ [d0] = [some d0] := rfl
abbrev DJ : List Str := ["block", "found", "deed", "inner"]
def Z4 (q_deeds_of : Sp3) : TS3 :=
  (A5 (B1 1 (U1 A2))
  (A5 (L5 (U6 (A1 0)) 2 (A5 (R8 (HX "list" R0 (A1 1) (A0 (A1 2) A2)))
  (L5 (L7 (A6 PK.Y8 (A0 (A1 2) A2))) 3 (R8 (HX "list" NB (A1 1) (A0 (A6 q_deeds_of (A0 (A1 3) A2)) A2))))))
  (B4 (A1 1))))
theorem SW (d0 : D) : B2 DJ [d0] = [some d0, none, none, none] := rfl
abbrev T6 : List Str := ["deed"]
def O0 : TS3 :=
  (A5 (B9 (A7 (A3 D8 (A3 C1 (A1 0) (tC3 (.int 0))) (tC3 (.str "try")))) (B4 (K9 (U6 (A3 C1 (A1 0) (tC3 (.int 2)))) 3 [] (AV [0, 1, 2]) G6 (A1 1))) B3)
  (B4 (A6 CK (A0 (A1 0) (A0 (tC3 (.str "name")) A2)))))
theorem KO (d0 : D) : B2 T6 [d0] = [some d0] := rfl
abbrev T5 : List Str := ["expression"]
def N9 : TS3 :=
  (A5 (B9 (A7 (A3 D8 (A3 C1 (A1 0) (tC3 (.int 0))) (tC3 (.str "op")))) (B4 (D7 (A0 (A3 C1 (A1 0) (tC3 (.int 2))) (A0 (A3 C1 (A1 0) (tC3 (.int 3))) A2)))) B3)
  (A5 (B9 (A7 (A3 D8 (A3 C1 (A1 0) (tC3 (.int 0))) (tC3 (.str "make")))) (B4 (B8 GV (A0 (A3 C1 (A1 0) (tC3 (.int 2))) A2))) B3)
  (B4 (D7 A2))))
theorem KN (d0 : D) : B2 T5 [d0] = [some d0] := rfl
abbrev DS : List Str := ["expression", "found", "branch"]
def AC (q_trees_of : Sp3) : TS3 :=
  (A5 (B1 1 (U1 (A0 (A1 0) A2)))
  (A5 (L5 (L7 (A6 R7 (A0 (A1 0) A2))) 2 (R8 (HX "list" NB (A1 1) (A0 (A6 q_trees_of (A0 (A1 2) A2)) A2))))
  (B4 (A1 1))))
theorem TK (d0 : D) : B2 DS [d0] = [some d0, none, none] := rfl
abbrev AM : List Str := ["rule", "names", "deed"]
def S8 : TS3 :=
  (A5 (B1 1 (K9 (L7 (EQ (A6 CL (A0 (A1 0) A2)))) 1 [] (J2 0) (A7 (A3 D8 (A3 C1 (A1 0) (tC3 (.int 0))) (tC3 (.str "var")))) (A3 C1 (A1 0) (tC3 (.int 1)))))
  (A5 (L5 (L7 (EQ (A6 (K7 8) (A0 (A3 C1 (A1 0) (tC3 (.int 2))) A2)))) 2 (R8 (HX "list" NB (A1 1) (A0 (A6 FW (A0 (A1 2) A2)) A2))))
  (B4 (A3 C5 (A3 C1 (A1 0) (tC3 (.int 1))) (B8 F2 (A0 (WI (AP6 (DI (A0 (A1 1) A2)) (DI (A0 (A3 C1 (A1 0) (tC3 (.int 1))) A2)))) A2))))))
theorem QD (d0 : D) : B2 AM [d0] = [some d0, none, none] := rfl
end K10
open L3
local macro_rules | `(tactic| walk_at "rd") => `(tactic| repeat (first | (with_reducible first | refine EI ?_ | refine ED ?_ | refine Y5 ?_ | refine JV ?_ | refine JZ ?_ | refine SD ?_ | refine BM ?_ | refine EJ ?_ | refine X6 ?_ | refine S3 ?_ | refine X4 ?_ | refine JS ?_ | refine BL ?_ | refine X5 ?_ | refine Y6 ?_ | refine Y2 ?_ | refine DZ ?_ | refine JW ?_ | refine EF ?_ | refine X3 ?_ | refine EG ?_ | refine Y3 ?_ | refine R1 ?_ | refine JX ?_ | refine JU ?_ | refine Y4 ?_ | refine G9 ?_ | refine E3 ?_ | refine E1 ?_ | refine V0 ?_ | refine U9 ?_ | refine JO ?_ | refine VL ?_ | refine G4 ?_ | refine Y0 ?_ | refine Y1 ?_ | refine DY ?_ | refine X9 ?_ | refine R4 ?_ | refine R5 ?_ | refine EK ?_ | refine EE ?_ | refine GW ?_ | refine U7 ?_ | refine CG ?_ | refine ND ?_ | refine CD ?_ | refine CF ?_ | refine CH ?_ | refine CA ?_ | refine CB ?_ | refine X8 ?_ | refine U8 ?_ | refine V2 ?_ | refine R6 ?_ | refine V1 ?_ | refine T8 ?_ | refine HA ?_ | refine GZ ?_ | refine EB ?_ | refine HB ?_ | refine EC ?_ | refine EH ?_ | refine SE ?_ | refine YM ?_ | refine BC1 ?_ | refine JY ?_ | refine YK ?_ | refine SM ?_ | refine YQ ?_ | refine YO ?_ | refine FS ?_) | ((with_reducible show A1 _ _ _ _); refine T9 rfl ?_) | ((with_reducible show _ ∧ _); refine ⟨(by first | decide | (simp only [CE7, CI5]; decide)), ?_⟩)))
namespace K10
open PySem L2 L3 PK
open PyProof.Rows (sortedS)
theorem LD : ∀ ds M Q, Y8 ds M Q → ds.length = 1 := by rintro _ _ _ ⟨_, _, _, rfl, _⟩; rfl
theorem PH : ∀ ds M Q, Y8 ds M Q → S5 { nx := fun _ M' => View Q .non M', rt := View Q } (B2 AJ ds) M := by
 rintro _ M Q ⟨P, h, bs, rfl, hh, q⟩
 have hl := OB bs
 rw [PY]
 unfold S5
 show _
 change (A5 _ _) _ [some (MN h (dTs bs))] M
 generalize dTs bs = ts at q hl
 cases h with
 | leaf h r =>
  obtain ⟨h0, hlf⟩ := hh
  obtain ⟨n1, n2, n3⟩ := AS8 hlf
  have hts : ts = [] := List.length_eq_zero_iff.mp (hl.trans h0)
  subst hts
  walk_at "rd"
  refine A8 (d := .str h) (F1 (j := 0) rfl) ?_
  walk_at "rd"
  refine A4 n1 ?_
  walk_at "rd"
  refine A8 (d := .str h) (F1 (j := 0) rfl) ?_
  walk_at "rd"
  refine A4 n2 ?_
  walk_at "rd"
  refine A8 (d := .str h) (F1 (j := 0) rfl) ?_
  walk_at "rd"
  refine A4 n3 ?_
  walk_at "rd"
  exact View.of q
 | ife e =>
  obtain ⟨h0, _⟩ := hh
  obtain ⟨t0, t1, rfl⟩ : ∃ t0 t1, ts = [t0, t1] := by
   match ts, hl.trans h0 with
   | [a, b], _ => exact ⟨a, b, rfl⟩
  walk_at "rd"
  refine A8 (d := .str "if") rfl ?_
  walk_at "rd"
  refine B7 (by decide +kernel) ?_
  walk_at "rd"
  refine A8 (d := t0) rfl ?_
  walk_at "rd"
  refine A8 (d := t1) rfl ?_
  walk_at "rd"
  exact View.of q
 | whl e =>
  obtain ⟨h0, _⟩ := hh
  obtain ⟨t0, rfl⟩ : ∃ t0, ts = [t0] := by
   match ts, hl.trans h0 with
   | [a], _ => exact ⟨a, rfl⟩
  walk_at "rd"
  refine A8 (d := .str "while") rfl ?_
  walk_at "rd"
  refine A4 (by decide +kernel) ?_
  walk_at "rd"
  refine A8 (d := .str "while") rfl ?_
  walk_at "rd"
  refine B7 (by decide +kernel) ?_
  walk_at "rd"
  refine A8 (d := t0) rfl ?_
  walk_at "rd"
  exact View.of q
 | tr cs =>
  obtain ⟨h0, hcs, _⟩ := hh
  obtain ⟨t0, rest, rfl⟩ : ∃ t0 rest, ts = t0 :: rest := by
   match ts, hl.trans h0 with
   | a :: r, _ => exact ⟨a, r, rfl⟩
  have hr : rest.length = cs.length + 1 := by simpa [h0] using hl
  walk_at "rd"
  refine A8 (d := .str "try") rfl ?_
  walk_at "rd"
  refine A4 (by decide +kernel) ?_
  walk_at "rd"
  refine A8 (d := .str "try") rfl ?_
  walk_at "rd"
  refine A4 (by decide +kernel) ?_
  walk_at "rd"
  refine A8 (d := .str "try") rfl ?_
  walk_at "rd"
  refine B7 (by decide +kernel) ?_
  walk_at "rd"
  refine A8 (d := t0) rfl ?_
  walk_at "rd"
  refine A8 (d := .tup (L6 cs rest)) rfl ?_
  walk_at "rd"
  have e1 : L6 cs rest = (L6 cs rest).map id := by simp
  rw [e1]
  have hcl := NW cs rest
  refine G7 (L6 cs rest) id NM (by rw [CF8]; lia) ?_ ?_
  ·intro d hd M2 R F _ hR
   obtain ⟨w, x, t, rfl⟩ := NX cs rest d hd
   refine X7 rfl ?_
   walk_at "rd"
   exact hR
  rw [MC cs rest (by lia)]
  refine N6 (by simp; rw [CF8]; lia) ?_
  walk_at "rd"
  have hlast : ∃ l, rest[cs.length]? = some l := ⟨rest[cs.length], by simp⟩
  obtain ⟨l, hl2⟩ := hlast
  have e2 : (t0 :: rest).getD (cs.length + 1) (.tup []) = l := by simp [List.getD, hl2]
  refine A8 (d := l) (by rw [← e2]; rfl) ?_
  walk_at "rd"
  refine N6 (by simp; rw [CF8]; lia) ?_
  have e3 : [t0] ++ rest.take cs.length ++ [l] = t0 :: rest := by
   have : rest.take cs.length ++ [l] = rest := by
    have h5 := CM1 (l := rest) (i := cs.length)
    rw [hl2] at h5
    rw [show rest.take cs.length ++ [l] = rest.take cs.length ++ (some l).toList from rfl, ← h5, CO8 (by lia)]
   rw [CS6, this]; rfl
  rw [e3]
  exact View.of q
theorem OO : ∀ ds M Q, CK ds M Q → ds.length = 2 := by rintro _ _ _ ⟨_, _, _, _, rfl, _⟩; rfl
theorem BD7 (x : D) (r : List D) : cutD (x :: r) (some 1) none = r := by
 unfold cutD
 have e1 : HT.sIx (x :: r).length 0 (some 1) = 1 := by simp [HT.sIx]
 have e2 : HT.sIx (x :: r).length (x :: r).length none = (x :: r).length := by simp [HT.sIx]
 rw [e1, e2, List.drop_one, List.tail_cons, CO8 (by simp)]
theorem UD : ∀ (sh : List Str) (r : List D), V9 (sh.map D.str) r = (sh.zip r).map fun p => .tup [.str p.1, p.2]
 | [], r => by simp [V9]
 | s :: sh, [] => by simp [V9]
 | s :: sh, d :: r => by
  show D.tup [.str s, d] :: V9 (sh.map D.str) r = _
  rw [UD sh r]; rfl
theorem SL : ∀ ds M Q, CK ds M Q → AA { nx := fun _ M' => View Q .non M', rt := View Q } (B2 DQ ds) M := by
 rintro _ M Q ⟨h, r, kind, sh, rfl, hl, hlen, q⟩
 rw [TH]
 unfold AA
 walk_at "rd"
 refine A8 (d := .str h) (F1 (j := 0) rfl) ?_
 refine ⟨h, sh, rfl, hl, ?_⟩
 walk_at "rd"
 rw [BD7]
 refine ⟨_, _, rfl, ?_⟩
 rw [UD]
 refine R9 (sh.zip r) _ Prod.snd (fun p => p.1 == kind) (by rw [CF8, List.length_zip]; lia) ?_ fun p M' h1 h2 h3 => View.of (q p M' h1 h2 h3)
 intro a ha M2 R F _ hR hF
 refine X7 rfl ?_
 walk_at "rd"
 cases e : (a.1 == kind) with
 | true => exact E3 (T9 rfl (hR e))
 | false => exact E1 (hF e)
def AH1 : Deed → Bool
 | .mk (.tr _) _ => true
 | _ => false
theorem BW {h : Str} {es : List Ex} (hr : ∀ e, eD e ∈ r ↔ e ∈ es) (y : Str) : (∃ e ∈ es, y ∈ vrE e) ↔ Ev y (.mk (.leaf h r) .nil) := by
 show _ ↔ ∃ e, eD e ∈ r ∧ y ∈ vrE e
 simp only [hr]
theorem IQ {e e' : Ex} : (eD e = eD e') ↔ e = e' := ⟨W8 e e', fun h => by rw [h]⟩
end K10
open L3
namespace K10
open PySem L2 L3 PK
open PyProof.Rows (sortedS)
structure Shp [Pool] (d : Deed) (hd : Str) (rest : List D) (sh : List Str) : Prop where
 eq : dD d = .tup (.str hd :: rest)
 look : tblS.lookup hd = some sh
 few : sh.length ≤ 10
 tr : (hd == ("try" : Str)) = AH1 d
 ex : ∃ es : List Ex, pick "expression" sh rest = es.map eD ∧ es.length ≤ 2 ∧ (∀ e ∈ es, wf e ∧ nd e ≤ 9 ∧ dp e ≤ 4) ∧ ∀ y, (∃ e ∈ es, y ∈ vrE e) ↔ Ev y d
 nm : AH1 d = false → ∃ ns : List Str, pick "name" sh rest = ns.map D.str ∧ ns.length ≤ 2 ∧ ∀ x, x ∈ ns ↔ Tg x d
theorem BO0 {h : Str} (h1 : (h = "let" ∨ h = "give" ∨ h = "on" ∨ h = "ask" ∨ h = "cast")) (h2 : ¬ (h = "ask" ∨ h = "cast")) (z : Str) : z ∈ [x] ↔ Tg z (.mk (.leaf h (.str x :: r)) .nil) := by
 show _ ↔ ((h = "let" ∨ h = "give" ∨ h = "on" ∨ h = "ask" ∨ h = "cast") ∧ (D.str x :: r)[0]? = some (D.str z)) ∨ ((h = "ask" ∨ h = "cast") ∧ _)
 rw [eq_true h1, eq_false h2]
 simp [eq_comm]
theorem AP8 {h : Str} (h1 : (h = "let" ∨ h = "give" ∨ h = "on" ∨ h = "ask" ∨ h = "cast")) (h2 : (h = "ask" ∨ h = "cast")) (z : Str) : z ∈ [x, y] ↔ Tg z (.mk (.leaf h (.str x :: .str y :: r)) .nil) := by
 show _ ↔ ((h = "let" ∨ h = "give" ∨ h = "on" ∨ h = "ask" ∨ h = "cast") ∧ (D.str x :: .str y :: r)[0]? = some (D.str z)) ∨ ((h = "ask" ∨ h = "cast") ∧ (D.str x :: .str y :: r)[1]? = some (D.str z))
 rw [eq_true h1, eq_true h2]
 simp [eq_comm]
theorem QI {h : Str} (h1 : ¬ (h = "let" ∨ h = "give" ∨ h = "on" ∨ h = "ask" ∨ h = "cast")) (h2 : ¬ (h = "ask" ∨ h = "cast")) (z : Str) : z ∈ ([] : List Str) ↔ Tg z (.mk (.leaf h r) .nil) := by
 show _ ↔ ((h = "let" ∨ h = "give" ∨ h = "on" ∨ h = "ask" ∨ h = "cast") ∧ _) ∨ ((h = "ask" ∨ h = "cast") ∧ _)
 rw [eq_false h1, eq_false h2]
 simp
theorem AO9 [Pool] {h : Str} (hl : NO h r) : ∃ sh, Shp (.mk (.leaf h r) .nil) h r sh := by
 rcases hl with ⟨h1, x, e, rfl, hx, he⟩ | ⟨h1, e, rfl, he⟩ | ⟨h1, x, y, g, e, rfl, hx, hy, hg, he⟩ | ⟨h1, x, y, g, w, e, rfl, hx, hy, hw, hg, he⟩ | ⟨h1, rfl⟩ | ⟨h1, w, e, rfl, hw, he⟩
 ·obtain ⟨e, rfl, w1, w2, w3⟩ := he
  rcases h1 with rfl | rfl | rfl
  all_goals exact ⟨["name", "expression"], rfl, by decide +kernel, by decide, by show _ = false; decide +kernel, ⟨[e], by first | rfl | kernel_rfl, by simp, by simpa using ⟨w1, w2, w3⟩, BW fun e' => by simp [U2, IQ]⟩, fun _ => ⟨[x], by first | rfl | kernel_rfl, by simp, BO0 (by decide +kernel) (by decide +kernel)⟩⟩
 ·obtain ⟨e, rfl, w1, w2, w3⟩ := he
  rcases h1 with rfl | rfl | rfl
  all_goals exact ⟨["expression"], rfl, by decide +kernel, by decide, by show _ = false; decide +kernel, ⟨[e], by first | rfl | kernel_rfl, by simp, by simpa using ⟨w1, w2, w3⟩, BW fun e' => by simp [U2, IQ]⟩, fun _ => ⟨[], by first | rfl | kernel_rfl, by simp, QI (by decide +kernel) (by decide +kernel)⟩⟩
 ·obtain ⟨e, rfl, w1, w2, w3⟩ := he
  obtain ⟨g, rfl, v1, v2, v3⟩ := hg
  subst h1
  exact ⟨["name", "name", "expression", "expression"], rfl, by decide +kernel, by decide, by show _ = false; decide +kernel, ⟨[g, e], by first | rfl | kernel_rfl, by simp, by simpa using ⟨⟨v1, v2, v3⟩, w1, w2, w3⟩, BW fun e' => by simp [U2, IQ]⟩, fun _ => ⟨[x, y], by first | rfl | kernel_rfl, by simp, AP8 (by decide +kernel) (by decide +kernel)⟩⟩
 ·obtain ⟨e, rfl, w1, w2, w3⟩ := he
  obtain ⟨g, rfl, v1, v2, v3⟩ := hg
  subst h1
  exact ⟨["name", "name", "expression", "word", "expression"], rfl, by decide +kernel, by decide, by show _ = false; decide +kernel, ⟨[g, e], by first | rfl | kernel_rfl, by simp, by simpa using ⟨⟨v1, v2, v3⟩, w1, w2, w3⟩, BW fun e' => by simp [U2, IQ]⟩, fun _ => ⟨[x, y], by first | rfl | kernel_rfl, by simp, AP8 (by decide +kernel) (by decide +kernel)⟩⟩
 ·subst h1
  exact ⟨[], rfl, by decide +kernel, by decide, by show _ = false; decide +kernel, ⟨[], by first | rfl | kernel_rfl, by simp, by simp, BW fun e' => by simp⟩, fun _ => ⟨[], by first | rfl | kernel_rfl, by simp, QI (by decide +kernel) (by decide +kernel)⟩⟩
 ·obtain ⟨e, rfl, w1, w2, w3⟩ := he
  subst h1
  exact ⟨["word", "expression"], rfl, by decide +kernel, by decide, by show _ = false; decide +kernel, ⟨[e], by first | rfl | kernel_rfl, by simp, by simpa using ⟨w1, w2, w3⟩, BW fun e' => by simp [U2, IQ]⟩, fun _ => ⟨[], by first | rfl | kernel_rfl, by simp, QI (by decide +kernel) (by decide +kernel)⟩⟩
theorem PV [Pool] (d : Deed) (hk : okD d) : ∃ hd rest sh, Shp d hd rest sh := by
 obtain ⟨h, bs⟩ := d
 have hl := OB bs
 obtain ⟨hk, hb⟩ := hk
 cases h with
 | leaf h r =>
  obtain ⟨h0, hlf⟩ := hk
  cases bs with
  | nil =>
   obtain ⟨sh, s⟩ := AO9 hlf
   exact ⟨h, r, sh, s⟩
  | cons b r => exact absurd h0 (Nat.succ_ne_zero _)
 | ife d =>
  obtain ⟨h0, e, rfl, w1, w2, w3⟩ := hk
  obtain ⟨t0, t1, ht⟩ : ∃ t0 t1, dTs bs = [t0, t1] := by
   match h : dTs bs, hl.trans h0 with
   | [a, b], _ => exact ⟨a, b, rfl⟩
  exact ⟨"if", [eD e, t0, t1], ["expression", "block", "rest"], by show MN (.ife (eD e)) (dTs bs) = _; rw [ht]; rfl, by decide +kernel, by decide, by show _ = false; decide +kernel, ⟨[e], by first | rfl | kernel_rfl, by simp, by simpa using ⟨w1, w2, w3⟩, fun y => by
   show _ ↔ ∃ e', eD e = eD e' ∧ y ∈ vrE e'
   simp [IQ]⟩, fun _ => ⟨[], by first | rfl | kernel_rfl, by simp, fun x => by show _ ↔ False; simp⟩⟩
 | whl d =>
  obtain ⟨h0, e, rfl, w1, w2, w3⟩ := hk
  obtain ⟨t0, ht⟩ : ∃ t0, dTs bs = [t0] := by
   match h : dTs bs, hl.trans h0 with
   | [a], _ => exact ⟨a, rfl⟩
  exact ⟨"while", [eD e, t0], ["expression", "block"], by show MN (.whl (eD e)) (dTs bs) = _; rw [ht]; rfl, by decide +kernel, by decide, by show _ = false; decide +kernel, ⟨[e], by first | rfl | kernel_rfl, by simp, by simpa using ⟨w1, w2, w3⟩, fun y => by
   show _ ↔ ∃ e', eD e = eD e' ∧ y ∈ vrE e'
   simp [IQ]⟩, fun _ => ⟨[], by first | rfl | kernel_rfl, by simp, fun x => by show _ ↔ False; simp⟩⟩
 | tr cs =>
  exact ⟨"try", [(dTs bs).getD 0 (.tup []), .tup (L6 cs (dTs bs).tail), (dTs bs).getD (cs.length + 1) (.tup [])], ["block", "catches", "rest"], rfl, by decide +kernel, by decide, by show _ = true; decide +kernel, ⟨[], by first | rfl | kernel_rfl, by simp, by simp, fun y => by show _ ↔ False; simp⟩, fun h => by cases h⟩
theorem BP6 [Pool] (hk : okD d) (h : Ev y d) : pn y := by
 obtain ⟨hd, rest, sh, s⟩ := PV d hk
 obtain ⟨es, _, _, hw, he⟩ := s.ex
 obtain ⟨e, hm, hy⟩ := (he y).mpr h
 exact YU y e (hw e hm).1 hy
theorem BZ0 [Pool] (hk : okD d) (h : Tg x d) : pn x := by
 obtain ⟨h0, bs⟩ := d
 obtain ⟨hk, _⟩ := hk
 cases h0 with
 | leaf hh r =>
  obtain ⟨_, hl⟩ := hk
  rcases hl with ⟨h1, y, e, rfl, hx, he⟩ | ⟨h1, e, rfl, he⟩ | ⟨h1, y, z, g, e, rfl, hx, hy, hg, he⟩ | ⟨h1, y, z, g, w, e, rfl, hx, hy, hw, hg, he⟩ | ⟨h1, rfl⟩ | ⟨h1, w, e, rfl, hw, he⟩
  ·rcases h with ⟨_, h⟩ | ⟨h, _⟩
   ·simp at h; rw [← h]; exact hx
   ·rcases h1 with rfl | rfl | rfl <;> exact absurd h (by decide +kernel)
  ·rcases h with ⟨h, _⟩ | ⟨h, _⟩
   ·rcases h1 with rfl | rfl | rfl <;> exact absurd h (by decide +kernel)
   ·rcases h1 with rfl | rfl | rfl <;> exact absurd h (by decide +kernel)
  ·rcases h with ⟨_, h⟩ | ⟨_, h⟩
   ·simp at h; rw [← h]; exact hx
   ·simp at h; rw [← h]; exact hy
  ·rcases h with ⟨_, h⟩ | ⟨_, h⟩
   ·simp at h; rw [← h]; exact hx
   ·simp at h; rw [← h]; exact hy
  ·subst h1
   rcases h with ⟨h, _⟩ | ⟨h, _⟩ <;> exact absurd h (by decide +kernel)
  ·subst h1
   rcases h with ⟨h, _⟩ | ⟨h, _⟩ <;> exact absurd h (by decide +kernel)
 | ife d => exact h.elim
 | whl d => exact h.elim
 | tr cs =>
  obtain ⟨w, hw⟩ := h
  exact (hk.2.2 _ hw).2
theorem XY [Pool] {b : Blk} (hk : okB b) (h : Nm x b) : x ∈ Pool.ps := by
 obtain ⟨d, hd, h⟩ := h
 rcases h with h | h
 ·exact (BP6 (AR b hk d hd) h).2
 ·exact (BZ0 (AR b hk d hd) h).2
theorem T7 : ∀ (ys ps : List Str), ys.Nodup → (∀ y ∈ ys, y ∈ ps) → ys.length ≤ ps.length
 | [], ps, _, _ => CK6 _
 | y :: ys, ps, hn, h => by
  rw [CX8] at hn
  have hy := h y CF3
  have h1 := T7 ys (ps.erase y) hn.2 fun z hz => (List.mem_erase_of_ne (by rintro rfl; exact hn.1 hz)).mpr (h z (CF2 _ hz))
  rw [List.length_erase_of_mem hy] at h1
  have := List.length_pos_of_mem hy
  show ys.length + 1 ≤ ps.length
  lia
end K10
open L3
namespace K10
open PySem L2 L3 PK
open PyProof.Rows (sortedS)
theorem HV : ∀ ds M Q, FW ds M Q → ds.length = 1 := by rintro _ _ _ ⟨_, _, rfl, _⟩; rfl
def PP : D → D
 | .tup [_, t, _] => t
 | _ => .non
theorem IM : ∀ (cs : List (Str × Str)) (ts : List D), cs.length ≤ ts.length → (L6 cs ts).map PP = cs.map fun c => .str c.2
 | [], ts, _ => by cases ts <;> rfl
 | (w, x) :: cs, [], h => by simp at h
 | (w, x) :: cs, t :: ts, h => by
  show PP (.tup [.str w, .str x, t]) :: (L6 cs ts).map PP = _
  rw [IM cs ts (by simpa using h)]
  rfl
theorem JT : ∀ ds M Q, FW ds M Q → O0 { nx := fun _ M' => View Q .non M', rt := View Q } (B2 T6 ds) M := by
 rintro _ M Q ⟨P, d, rfl, hk, q⟩
 obtain ⟨hd, rest, sh, s⟩ := PV d hk
 rw [KO]
 unfold O0
 rw [s.eq]
 walk_at "rd"
 refine A8 (d := .str hd) (F1 (j := 0) rfl) ?_
 walk_at "rd"
 cases ht : AH1 d with
 | false =>
  refine A4 (by rw [s.tr, ht]) ?_
  walk_at "rd"
  obtain ⟨ns, h1, h2, h3⟩ := s.nm ht
  refine ⟨hd, rest, "name", sh, rfl, s.look, s.few, ?_⟩
  rw [h1]
  exact AT7 (q ns h3 (by lia))
 | true =>
  obtain ⟨h, bs⟩ := d
  cases h <;> first | (cases ht; done) | skip
  rename_i cs
  obtain ⟨⟨h0, h1, h2⟩, _⟩ := hk
  have hl := OB bs
  have he := s.eq
  have he2 : D.tup [.str "try", (dTs bs).getD 0 (.tup []), .tup (L6 cs (dTs bs).tail), (dTs bs).getD (cs.length + 1) (.tup [])] = .tup (.str hd :: rest) := he
  simp only [D.tup.injEq, List.cons.injEq, D.str.injEq] at he2
  obtain ⟨rfl, rfl⟩ := he2
  refine B7 (by decide +kernel) ?_
  walk_at "rd"
  refine A8 (d := .tup (L6 cs (dTs bs).tail)) rfl ?_
  walk_at "rd"
  have hcl := NW cs (dTs bs).tail
  have e1 : L6 cs (dTs bs).tail = (L6 cs (dTs bs).tail).map id := by simp
  rw [e1]
  refine R9 (L6 cs (dTs bs).tail) id PP (fun _ => true) (by rw [CF8]; lia) ?_ ?_
  ·intro a ha M2 R F _ hR _
   obtain ⟨w, x, t, rfl⟩ := NX cs _ a ha
   refine X7 rfl ?_
   walk_at "rd"
   exact hR rfl
  ·intro p M' h3 h4 h5
   rw [List.filter_eq_self.mpr (fun _ _ => rfl), IM cs _ (by rw [List.length_tail, hl]; lia)] at h4
   have e2 : (cs.map fun c => D.str c.2) = (cs.map Prod.snd).map D.str := by rw [CL5]; rfl
   rw [e2] at h4
   refine View.of (q (cs.map Prod.snd) (fun x => ?_) (by rw [CD8]; exact h1) p M' h3 h4 h5)
   show _ ↔ ∃ w, (w, x) ∈ cs
   simp
theorem HU : ∀ ds M Q, R7 ds M Q → ds.length = 1 := by rintro _ _ _ ⟨_, rfl, _⟩; rfl
theorem JR : ∀ ds M Q, R7 ds M Q → N9 { nx := fun _ M' => View Q .non M', rt := View Q } (B2 T5 ds) M := by
 rintro _ M Q ⟨e, rfl, q⟩
 rw [KN]
 unfold N9
 cases e with
 | none =>
  walk_at "rd"
  refine A8 (d := .str "none") rfl ?_
  walk_at "rd"
  refine A4 (by decide +kernel) ?_
  walk_at "rd"
  refine A8 (d := .str "none") rfl ?_
  walk_at "rd"
  refine A4 (by decide +kernel) ?_
  walk_at "rd"
  exact View.of q
 | num n =>
  walk_at "rd"
  refine A8 (d := .str "number") rfl ?_
  walk_at "rd"
  refine A4 (by decide +kernel) ?_
  walk_at "rd"
  refine A8 (d := .str "number") rfl ?_
  walk_at "rd"
  refine A4 (by decide +kernel) ?_
  walk_at "rd"
  exact View.of q
 | var n =>
  walk_at "rd"
  refine A8 (d := .str "var") rfl ?_
  walk_at "rd"
  refine A4 (by decide +kernel) ?_
  walk_at "rd"
  refine A8 (d := .str "var") rfl ?_
  walk_at "rd"
  refine A4 (by decide +kernel) ?_
  walk_at "rd"
  exact View.of q
 | op sg a b =>
  walk_at "rd"
  refine A8 (d := .str "op") rfl ?_
  walk_at "rd"
  refine B7 (by decide +kernel) ?_
  walk_at "rd"
  refine A8 (d := eD a) rfl ?_
  walk_at "rd"
  refine A8 (d := eD b) rfl ?_
  walk_at "rd"
  exact View.of q
 | make r as =>
  walk_at "rd"
  refine A8 (d := .str "make") rfl ?_
  walk_at "rd"
  refine A4 (by decide +kernel) ?_
  walk_at "rd"
  refine A8 (d := .str "make") rfl ?_
  walk_at "rd"
  refine B7 (by decide +kernel) ?_
  walk_at "rd"
  refine A8 (d := .tup (eDs as)) rfl ?_
  walk_at "rd"
  rw [EZ]
  exact View.of q
theorem AG2 : ∀ as : Exs, (exL as).flatMap trE = ES as
 | .nil => by simp [exL, ES]
 | .cons a r => by simp [exL, ES, AG2 r]
theorem BC5 (e : Ex) : trE e = e :: (brE e).flatMap trE := by
 cases e with
 | none => simp [trE, brE]
 | num n => simp [trE, brE]
 | var x => simp [trE, brE]
 | op s a b => simp [trE, brE]
 | make r as => simp [trE, brE, AG2]
theorem XT : ∀ (as : Exs) (b : Ex), b ∈ exL as → dp b ≤ dps as ∧ nd b ≤ nds as
 | .nil, b, h => by simp [exL] at h
 | .cons a r, b, h => by
  simp only [exL, CF9] at h
  rcases h with rfl | h
  ·exact ⟨by show dp b ≤ max (dp b) (dps r); lia, by show nd b ≤ nd b + nds r; lia⟩
  ·obtain ⟨h1, h2⟩ := XT r b h
   exact ⟨by show dp b ≤ max (dp a) (dps r); lia, by show nd b ≤ nd a + nds r; lia⟩
theorem BF3 (e b : Ex) (h : b ∈ brE e) : dp b + 1 ≤ dp e ∧ nd b + 1 ≤ nd e := by
 cases e with
 | none => simp [brE] at h
 | num n => simp [brE] at h
 | var x => simp [brE] at h
 | op s a c =>
  simp only [brE, CF9, CG5, or_false] at h
  have e1 : dp (.op s a c) = 1 + max (dp a) (dp c) := rfl
  have e2 : nd (.op s a c) = 1 + nd a + nd c := rfl
  rcases h with rfl | rfl <;> lia
 | make r as =>
  obtain ⟨h1, h2⟩ := XT as b h
  have e1 : dp (.make r as) = 1 + dps as := rfl
  have e2 : nd (.make r as) = 1 + nds as := rfl
  lia
theorem UO (e : Ex) : 1 ≤ dp e := by cases e <;> simp [dp] <;> lia
theorem take_snoc {β : Type} {l : List α} {a : α} (g : α → List β) (h : l[k]? = some a) : (l.take (k + 1)).flatMap g = (l.take k).flatMap g ++ g a := by
 rw [CM1, h, List.flatMap_append]; simp
theorem GB {β : Type} (l : List α) (k : Nat) (g : α → List β) : ((l.take k).flatMap g).length ≤ (l.flatMap g).length := by
 have : l.flatMap g = (l.take k).flatMap g ++ (l.drop k).flatMap g := by rw [← List.flatMap_append, List.take_append_drop]
 rw [this, CE6]; lia
theorem FI : ∀ n ds M Q, K8 n ds M Q → ds.length = 1 := by rintro _ _ _ _ ⟨_, rfl, _⟩; rfl
theorem LX : ∀ ds M Q, ¬ K8 0 ds M Q := by
 rintro _ _ _ ⟨e, rfl, h, _⟩
 have := UO e
 lia
theorem SO : ∀ n ds M Q, K8 (n + 1) ds M Q → AC (K8 n) { nx := fun _ M' => View Q .non M', rt := View Q } (B2 DS ds) M := by
 rintro lv _ M Q ⟨e, rfl, hdp, hnd, q⟩
 rw [TK]
 unfold AC
 walk_at "rd"
 intro f hf
 walk_at "rd"
 refine ⟨e, rfl, ?_⟩
 walk_at "rd"
 have hlen := AD e
 rw [BC5 e, CE7] at hlen
 refine Q5 (brE e) eD (fnd := f) (ini := [eD e]) (fun σ => ∃ s2, σ = [some (eD e), some (.ref f), s2]) (fun k acc => acc = (e :: ((brE e).take k).flatMap trE).map eD) ⟨_, rfl⟩ B5 rfl ?_ ?_
 ·rintro k b acc σ' M' N hb ⟨s2, rfl⟩ rfl hm hs nx
  obtain ⟨h1, h2⟩ := BF3 e b (CF5 hb)
  have hb2 := AD b
  have e2 := take_snoc trE hb
  have e3 := GB (brE e) (k + 1) trE
  rw [e2, CE6] at e3
  walk_at "rd"
  refine ⟨.inl ⟨rfl, _, hm⟩, ?_⟩
  walk_at "rd"
  refine ⟨b, rfl, by lia, by lia, OT hm (by simp only [CD8, CE7, CF8]; lia) fun M'' h3 h4 => ?_⟩
  exact nx _ _ M'' ⟨_, rfl⟩ (by rw [e2, ← List.cons_append, CG3]) h3 h4
 ·rintro σ' acc M' ⟨s2, rfl⟩ rfl hm hs
  rw [CJ0, ← BC5] at hm
  walk_at "rd"
  exact UV q hf hm fun x hx hn => by rw [hs x hx (by rw [C6 hx]; exact hn), C6 hx]
theorem OD : ∀ b : Blk, dsB b = (toL b).flatMap dsD
 | .nil => by simp [dsB, toL]
 | .cons d r => by simp [dsB, toL, OD r]
theorem OE : ∀ b : Bls, J6 b = (J7 b).flatMap dsB
 | .nil => by simp [J6, J7]
 | .cons d r => by simp [J6, J7, OE r]
theorem FF : ∀ n ds M Q, K7 n ds M Q → ds.length = 1 := by rintro _ _ _ _ ⟨_, _, rfl, _⟩; rfl
theorem LV : ∀ ds M Q, ¬ K7 0 ds M Q := by
 rintro _ _ _ ⟨_, _, rfl, _, h, _⟩
 lia
theorem SF : ∀ n ds M Q, K7 (n + 1) ds M Q → Z4 (K7 n) { nx := fun _ M' => View Q .non M', rt := View Q } (B2 DJ ds) M := by
 rintro lv _ M Q ⟨P, b, rfl, hok, hdp, hcnt, q⟩
 rw [SW]
 unfold Z4
 walk_at "rd"
 intro f hf
 walk_at "rd"
 have hlen := S0 b
 rw [OD] at hlen q
 rw [AF0]
 refine Q5 (toL b) dD (fnd := f) (ini := []) (fun σ => ∃ s2 s3, σ = [some (.tup ((toL b).map dD)), some (.ref f), s2, s3]) (fun k acc => acc = (((toL b).take k).flatMap dsD).map dD) ⟨_, _, rfl⟩ B5 rfl ?_ ?_
 ·rintro k d acc σ' M' N hd ⟨s2, s3, rfl⟩ rfl hm hs nx
  obtain ⟨c1, c2, c3⟩ := OR b d (CF5 hd)
  have e2 := take_snoc dsD hd
  have e3 := GB (toL b) (k + 1) dsD
  rw [e2, CE6] at e3
  obtain ⟨h, bs⟩ := d
  have hokd := c3 hok
  have ed : dsD (.mk h bs) = .mk h bs :: (J7 bs).flatMap dsB := by rw [dsD, OE]
  have hcD : G5 (.mk h bs) = 1 + L4 bs := rfl
  have hdD : dpD (.mk h bs) = AG bs := rfl
  walk_at "rd"
  refine ⟨.inl ⟨rfl, _, hm⟩, ?_⟩
  walk_at "rd"
  refine BZ hm (by simp only [CD8, CF8]; lia) ?_
  walk_at "rd"
  refine ⟨P, h, bs, rfl, hokd.1, ?_⟩
  walk_at "rd"
  rw [OA]
  refine Q5 (J7 bs) tB (fnd := f) (ini := (((toL b).take k).flatMap dsD).map dD ++ [dD (.mk h bs)]) (fun σ => ∃ s3, σ = [some (.tup ((toL b).map dD)), some (.ref f), some (dD (.mk h bs)), s3]) (fun j acc => acc = (((toL b).take k).flatMap dsD).map dD ++ (.mk h bs :: ((J7 bs).take j).flatMap dsB).map dD) ⟨_, rfl⟩ B5 rfl ?_ ?_
  ·rintro j c acc σ2 M2 N2 hc ⟨s3, rfl⟩ rfl hm2 hs2 nx2
   obtain ⟨c4, c5, c6⟩ := JF bs c (CF5 hc)
   have f2 := take_snoc dsB hc
   have f3 := GB (J7 bs) (j + 1) dsB
   have f4 := S0 c
   rw [f2, CE6] at f3
   rw [ed, CE7] at e3
   walk_at "rd"
   refine ⟨.inl ⟨rfl, _, hm2⟩, ?_⟩
   walk_at "rd"
   refine ⟨P, c, rfl, c6 hokd.2, by lia, by lia, OT hm2 (by simp only [CD8, CE6, CE7, CF8]; lia) fun M'' h3 h4 => ?_⟩
   exact nx2 _ _ M'' ⟨_, rfl⟩ (by rw [f2]; simp) h3 h4
  ·rintro σ2 acc M2 ⟨s3, rfl⟩ rfl hm2 hs2
   rw [CJ0, ← ed] at hm2
   exact nx _ _ M2 ⟨_, _, rfl⟩ (by rw [e2, CG3]) hm2 fun x hx hn => by rw [hs2 x hx (by rw [C6 hx]; exact hn), C6 hx]
 ·rintro σ' acc M' ⟨s2, s3, rfl⟩ rfl hm hs
  rw [CJ0] at hm
  walk_at "rd"
  exact UV q hf hm fun x hx hn => by rw [hs x hx (by rw [C6 hx]; exact hn), C6 hx]
end K10
open L3
namespace K10
open PySem L2 L3 PK
open PyProof.Rows (sortedS)
theorem E4 {l : List α} {a x : α} (h : l[k]? = some a) : x ∈ l.take (k + 1) ↔ x ∈ l.take k ∨ x = a := by
 rw [CM1, h, CJ1]; simp
def AH2 : Ex → Bool
 | .var _ => true
 | _ => false
def BO6 : Ex → D
 | .var x => .str x
 | _ => .non
def AC8 : Ex → Option Str
 | .var x => some x
 | _ => none
theorem TY : ∀ ts : List Ex, (ts.filter AH2).map BO6 = (ts.filterMap AC8).map D.str
 | [] => rfl
 | t :: ts => by
  have ih := TY ts
  cases t with
  | var x => show D.str x :: (ts.filter AH2).map BO6 = D.str x :: (ts.filterMap AC8).map D.str; rw [ih]
  | none => exact ih
  | num _ => exact ih
  | op _ _ _ => exact ih
  | make _ _ => exact ih
theorem AI4 (ts : List Ex) (x : Str) : x ∈ ts.filterMap AC8 ↔ Ex.var x ∈ ts := by
 rw [List.mem_filterMap]
 constructor
 ·rintro ⟨t, h1, h2⟩
  cases t <;> simp [AC8] at h2
  rw [← h2]; exact h1
 ·intro h
  exact ⟨_, h, rfl⟩
theorem LG : ∀ ds M Q, O4 ds M Q → ds.length = 1 := by rintro _ _ _ ⟨_, _, rfl, _⟩; rfl
theorem IH : CM3 = 4096 := by first | rfl | decide
theorem PN : ∀ ds M Q, O4 ds M Q → S8 { nx := fun _ M' => View Q .non M', rt := View Q } (B2 AM ds) M := by
 rintro _ M Q ⟨P, r, rfl, hok, hdp, hcnt, hps, hpl, q⟩
 rw [QD]
 unfold S8
 walk_at "rd"
 refine ⟨P, r, rfl, hok, hdp, hcnt, fun ts ht1 ht2 => JJ fun M2 k1 k2 => ?_⟩
 walk_at "rd"
 have hlen := S0 r.blk
 refine R9 ts eD BO6 AH2 (by rw [CF8]; lia) ?_ ?_
 ·intro t ht M3 R F _ hR hF
  cases t with
  | none =>
   walk_at "rd"
   refine A8 (d := .str "none") rfl ?_
   walk_at "rd"
   exact A4 (by decide +kernel) (hF rfl)
  | num n =>
   walk_at "rd"
   refine A8 (d := .str "number") rfl ?_
   walk_at "rd"
   exact A4 (by decide +kernel) (hF rfl)
  | var x =>
   walk_at "rd"
   refine A8 (d := .str "var") rfl ?_
   walk_at "rd"
   refine B7 (by decide +kernel) ?_
   walk_at "rd"
   exact A8 (d := .str x) rfl (hR rfl)
  | op sg a b =>
   walk_at "rd"
   refine A8 (d := .str "op") rfl ?_
   walk_at "rd"
   exact A4 (by decide +kernel) (hF rfl)
  | make n as =>
   walk_at "rd"
   refine A8 (d := .str "make") rfl ?_
   walk_at "rd"
   exact A4 (by decide +kernel) (hF rfl)
 intro f M3 hf hm3 hs3
 rw [TY] at hm3
 have hv := AI4 ts
 have hvl : (ts.filterMap AC8).length ≤ 540 := CI6 (List.length_filterMap_le _ _) ht2
 generalize ts.filterMap AC8 = ns at hm3 hv hvl
 have hfM : M f = none := by
  cases e : M f with
  | none => rfl
  | some o => rw [k1 f (by rw [e]; simp), e] at hf; cases hf
 have k3 : ∀ x, M x ≠ none → M3 x = M x := fun x hn => by rw [hs3 x (by rintro rfl; exact hn hfM), k1 x hn]
 walk_at "rd"
 refine A8 (d := .tup (dB r.blk)) rfl ?_
 walk_at "rd"
 refine ⟨P, r.blk, rfl, hok, by lia, by lia, JJ fun M4 j1 j2 => ?_⟩
 walk_at "rd"
 have hm4 : M4 f = some (.lst (ns.map D.str)) := by rw [j1 f (by rw [hm3]; simp)]; exact hm3
 have k4 : ∀ x, M x ≠ none → M4 x = M x := fun x hn => by rw [j1 x (by rw [k3 x hn]; exact hn), k3 x hn]
 refine Q5 (dsB r.blk) dD (fnd := f) (ini := ns.map D.str) (fun σ => ∃ s2, σ = [some (rD r), some (.ref f), s2]) (fun k acc => ∃ ms : List Str, acc = ms.map D.str ∧ (∀ x, x ∈ ms ↔ (∃ d ∈ dsB r.blk, Ev x d) ∨ ∃ d ∈ (dsB r.blk).take k, Tg x d) ∧ ms.length ≤ 540 + 3 * k) ⟨_, rfl⟩ hm4 ⟨ns, rfl, fun x => by rw [hv, ht1]; simp, by lia⟩ ?_ ?_
 ·rintro k d acc σ' M' N hd ⟨s2, rfl⟩ ⟨ms, rfl, h1, h2⟩ hm hs nx
  have hkl : k < (dsB r.blk).length := (List.getElem?_eq_some_iff.mp hd).1
  walk_at "rd"
  refine ⟨.inl ⟨rfl, _, hm⟩, ?_⟩
  walk_at "rd"
  refine ⟨P, d, rfl, AR r.blk hok d (CF5 hd), fun gs g1 g2 => OT hm (by simp only [CD8, CF8]; lia) fun M5 h3 h4 => ?_⟩
  refine nx _ _ M5 ⟨_, rfl⟩ ⟨ms ++ gs, by rw [CG3], fun y => ?_, by rw [CE6]; lia⟩ h3 h4
  rw [CJ1, h1, g1]
  constructor
  ·rintro ((h | ⟨e', h1, h2⟩) | h)
   ·exact .inl h
   ·exact .inr ⟨e', (E4 hd).mpr (.inl h1), h2⟩
   ·exact .inr ⟨d, (E4 hd).mpr (.inr rfl), h⟩
  ·rintro (h | ⟨e', h1, h2⟩)
   ·exact .inl (.inl h)
   ·rcases (E4 hd).mp h1 with h1 | rfl
    ·exact .inl (.inr ⟨e', h1, h2⟩)
    ·exact .inr h2
 ·rintro σ' acc M' ⟨s2, rfl⟩ ⟨ms, rfl, h1, h2⟩ hm hs
  rw [CJ0] at h1
  have hN : ∀ z, z ∈ ms ↔ Nm z r.blk := fun z => by
   rw [h1]
   constructor
   ·rintro (⟨d, a, b⟩ | ⟨d, a, b⟩)
    ·exact ⟨d, a, .inl b⟩
    ·exact ⟨d, a, .inr b⟩
   ·rintro ⟨d, a, b | b⟩
    ·exact .inl ⟨d, a, b⟩
    ·exact .inr ⟨d, a, b⟩
  have hfew : ∀ ys : List Str, ys.Nodup → (∀ z ∈ ys, z ∈ ms) → ys.length ≤ 15 := fun ys n h => CI6 (T7 ys Pool.ps n fun y hy => XY hok ((hN y).mp (h y hy))) hps
  walk_at "rd"
  refine A8 (d := .tup (r.pars.map D.str)) rfl ?_
  walk_at "rd"
  refine ⟨_, ms, rfl, AO8 hm, by rw [IH]; lia, ?_⟩
  walk_at "rd"
  refine A8 (d := .tup (r.pars.map D.str)) rfl ?_
  walk_at "rd"
  refine ⟨_, r.pars, rfl, rfl, by rw [IH]; lia, hfew, fun ys n h => Nat.lt_of_le_of_lt (hfew ys n fun z hz => (List.mem_filter.mp (h z hz)).1) (by decide), fun ys n so mem => ?_⟩
  walk_at "rd"
  have hy : ys.length ≤ 15 := hfew ys n fun z hz => (List.mem_filter.mp ((mem z).mp hz)).1
  refine IE (by rw [CD8, CD8, CF8]; lia) ?_
  rw [← CG3]
  refine View.keep (M := M) (fun x hn => ?_) (q ys n so fun z => ?_)
  ·rw [hs x (by rintro rfl; exact hn hfM) (by rw [k4 x hn]; exact hn), k4 x hn]
  ·rw [mem z, List.mem_filter, hN]; simp
end K10
namespace MK
open PySem L2 L3
end MK
open L3
local macro_rules | `(tactic| walk_at "rd") => `(tactic| repeat (first | (with_reducible first | refine EI ?_ | refine ED ?_ | refine Y5 ?_ | refine JV ?_ | refine JZ ?_ | refine SD ?_ | refine BM ?_ | refine EJ ?_ | refine X6 ?_ | refine S3 ?_ | refine X4 ?_ | refine JS ?_ | refine BL ?_ | refine X5 ?_ | refine Y6 ?_ | refine Y2 ?_ | refine DZ ?_ | refine JW ?_ | refine EF ?_ | refine X3 ?_ | refine EG ?_ | refine Y3 ?_ | refine R1 ?_ | refine JX ?_ | refine JU ?_ | refine Y4 ?_ | refine G9 ?_ | refine E3 ?_ | refine E1 ?_ | refine V0 ?_ | refine U9 ?_ | refine JO ?_ | refine VL ?_ | refine G4 ?_ | refine Y0 ?_ | refine Y1 ?_ | refine DY ?_ | refine X9 ?_ | refine R4 ?_ | refine R5 ?_ | refine EK ?_ | refine EE ?_ | refine GW ?_ | refine U7 ?_ | refine CG ?_ | refine ND ?_ | refine CD ?_ | refine CF ?_ | refine CH ?_ | refine CA ?_ | refine CB ?_ | refine X8 ?_ | refine U8 ?_ | refine V2 ?_ | refine R6 ?_ | refine V1 ?_ | refine T8 ?_ | refine HA ?_ | refine GZ ?_ | refine EB ?_ | refine HB ?_ | refine EC ?_ | refine EH ?_) | ((with_reducible show A1 _ _ _ _); refine T9 rfl ?_) | ((with_reducible show _ ∧ _); refine ⟨(by first | decide | (simp only [CE7, CI5]; decide)), ?_⟩)))
namespace MK
open PySem L2 L3
end MK
namespace K01
open PySem L2 L3
def BS : Int := 1000000000000000000000000000000
def UI (n : Int) : Bool := decide (BS ≤ n) || decide (n ≤ -BS)
def isStr (x : D) (z : Str) : Bool := match x with | .str w => w == z | _ => false
def isInt (x : D) : Bool := match x with | .int _ => true | _ => false
def abc : Str := "abcdefghijklmnopqrstuvwxyz"
def ZH (x : D) : Prop := dOk x ∨ ∃ kvs, x = .dct kvs
def isW (d : D) (m : Int) : Bool := match d with
 | .tup [x] => isStr x "none"
 | .tup [x, .int n] => if isStr x "number" = true then !UI n else isStr x "giver" && (decide (0 ≤ n) && decide (n < m))
 | _ => false
def AQ2 (z : Str) : Prop := z.length ≤ 1000 ∧ ∀ c ∈ z.cps.toList, c < 128
def only (z : Str) : Bool := z.cps.toList.all fun c => subIn ⟨#[c]⟩ abc
def isL (d : D) : Bool := match d with
 | .str z => decide (1 ≤ z.length) && (decide (z.length ≤ 8) && only z)
 | _ => false
def BE3 (d : D) : Bool := isL d && !isStr d "any"
def BZ1 (d : D) : Prop := FM d ∧ ∀ xs, d = .tup xs → ∀ x ∈ xs, FM x ∧ ZH x
def WO (d : D) : Prop := FM d ∧ ∀ z, d = .str z → AQ2 z
def FY : Sp3 := fun ds M Q => ∃ d, ds = [d] ∧ FM d ∧ Q (.bl (isInt d)) M
def KH : Sp3 := fun ds M Q => ∃ z, ds = [.str z, .str abc] ∧ AQ2 z ∧ Q (.bl (only z)) M
def J5 : Sp3 := fun ds M Q => ∃ d, ds = [d] ∧ WO d ∧ Q (.bl (isL d)) M
def V6 : Sp3 := fun ds M Q => ∃ d, ds = [d] ∧ WO d ∧ Q (.bl (BE3 d)) M
def BP : Sp3 := fun ds M Q => ∃ n, ds = [.int n] ∧ Q (.bl (!UI n)) M
def V7 : Sp3 := fun ds M Q => ∃ d m, ds = [d, .int m] ∧ BZ1 d ∧ Q (.bl (isW d m)) M
abbrev DO : List Str := ["thing"]
def Z8 : TS3 :=
  (B4 (C9 (B8 F5 (A0 (A1 0) (A0 (tC3 (.ty "int")) A2))) (WH (B8 F5 (A0 (A1 0) (A0 (tC3 (.ty "bool")) A2))))))
theorem TC (d0 : D) : B2 DO [d0] = [some d0] := rfl
abbrev DL : List Str := ["text", "signs"]
def Z5 : TS3 :=
  (B4 (B8 DF (A0 (F9 (AH0 (A1 0)) 1 [1] (J2 0) G6 (A3 (AB7 false) (A1 0) (A1 1))) A2)))
theorem SX (d0 d1 : D) : B2 DL [d0, d1] = [some d0, some d1] := rfl
abbrev W5 : List Str := ["thing"]
def Q0 : TS3 :=
  (B4 (C9 (B8 F5 (A0 (A1 0) (A0 (tC3 (.ty "str")) A2))) (C9 (Z0 RZ RZ (tC3 (.int 1)) (B8 D3 (A0 (A1 0) A2)) (tC3 (.int 8))) (A6 KH (A0 (A1 0) (A0 (tC3 (.str "abcdefghijklmnopqrstuvwxyz")) A2))))))
theorem LU (d0 : D) : B2 W5 [d0] = [some d0] := rfl
abbrev GK : List Str := ["thing"]
def CW : TS3 :=
  (B4 (C9 (A6 J5 (A0 (A1 0) A2)) (A3 N0 (A1 0) (tC3 (.str "any")))))
theorem WF (d0 : D) : B2 GK [d0] = [some d0] := rfl
abbrev W3 : List Str := ["number"]
def P7 : TS3 :=
  (B4 (A3 AB8 (B8 AE (A0 (A1 0) A2)) (tC3 (.int 1000000000000000000000000000000))))
theorem LS (d0 : D) : B2 W3 [d0] = [some d0] := rfl
abbrev DP : List Str := ["thing", "many"]
def Z9 : TS3 :=
  (A5 (B9 (F3 (A7 (B8 F5 (A0 (A1 0) (A0 (tC3 (.ty "tuple")) A2))))) (B4 (tC3 (.bl false))) B3)
  (A5 (B9 (A7 (A3 DG (B8 D3 (A0 (A1 0) A2)) (tC3 (.int 1)))) (B4 (A3 DG (A3 C1 (A1 0) (tC3 (.int 0))) (tC3 (.str "none")))) B3)
  (A5 (B9 (O5 (A7 (A3 N0 (B8 D3 (A0 (A1 0) A2)) (tC3 (.int 2)))) (F3 (A7 (A6 FY (A0 (A3 C1 (A1 0) (tC3 (.int 1))) A2))))) (B4 (tC3 (.bl false))) B3)
  (A5 (B9 (A7 (A3 DG (A3 C1 (A1 0) (tC3 (.int 0))) (tC3 (.str "number")))) (B4 (A6 BP (A0 (A3 C1 (A1 0) (tC3 (.int 1))) A2))) B3)
  (B4 (C9 (A3 DG (A3 C1 (A1 0) (tC3 (.int 0))) (tC3 (.str "giver"))) (Z0 RZ AB8 (tC3 (.int 0)) (A3 C1 (A1 0) (tC3 (.int 1))) (A1 1))))))))
theorem TF (d0 d1 : D) : B2 DP [d0, d1] = [some d0, some d1] := rfl
end K01
namespace L3
open PySem L2
theorem FR {l u : Option Int} {Q : DK} (h : Q (.lst (cutD ds l u)) M) : NC (.lst ds) l u M Q := h
theorem AZ2 {x y : Int} {Q : DK} (h : Q (.bl (x == y)) M) : DG (.int x) (.int y) M Q := .inl (T8 h)
theorem YJ {Q : DK} (h : Q (.bl (x == y)) M) : DG (.str x) (.str y) M Q := .inl (EB h)
theorem FQ {x y : D} {b : Bool} {Q : DK} (hx : dOk x) (hy : dOk y) (e : CN4 (pyD x) (pyD y) = b) (h : Q (.bl b) M) : DG x y M Q := .inl (AO1 hx hy e h)
end L3
open L3
local macro_rules | `(tactic| walk_at "rd") => `(tactic| repeat (first | (with_reducible first | refine EI ?_ | refine ED ?_ | refine Y5 ?_ | refine JV ?_ | refine JZ ?_ | refine SD ?_ | refine BM ?_ | refine EJ ?_ | refine X6 ?_ | refine S3 ?_ | refine X4 ?_ | refine JS ?_ | refine BL ?_ | refine X5 ?_ | refine Y6 ?_ | refine Y2 ?_ | refine DZ ?_ | refine JW ?_ | refine EF ?_ | refine X3 ?_ | refine EG ?_ | refine Y3 ?_ | refine R1 ?_ | refine JX ?_ | refine JU ?_ | refine Y4 ?_ | refine G9 ?_ | refine E3 ?_ | refine E1 ?_ | refine V0 ?_ | refine U9 ?_ | refine JO ?_ | refine VL ?_ | refine G4 ?_ | refine Y0 ?_ | refine Y1 ?_ | refine DY ?_ | refine X9 ?_ | refine R4 ?_ | refine R5 ?_ | refine EK ?_ | refine EE ?_ | refine GW ?_ | refine U7 ?_ | refine CG ?_ | refine ND ?_ | refine JY ?_ | refine FR ?_ | refine FS ?_ | refine AZ2 ?_ | refine YJ ?_ | refine CD ?_ | refine CF ?_ | refine CH ?_ | refine CA ?_ | refine CB ?_ | refine X8 ?_ | refine U8 ?_ | refine V2 ?_ | refine R6 ?_ | refine V1 ?_ | refine T8 ?_ | refine HA ?_ | refine GZ ?_ | refine EB ?_ | refine HB ?_ | refine EC ?_ | refine EH ?_) | ((with_reducible show A1 _ _ _ _); refine T9 rfl ?_) | ((with_reducible show _ ∧ _); refine ⟨(by first | decide | (simp only [CE7, CI5]; decide)), ?_⟩)))
namespace K01
open PySem L2 L3
theorem BK {x : D} {Q : DK} (hx : ZH x) (hz : CX3 z = true) (h : Q (.bl (isStr x z)) M) : DG x (.str z) M Q := by
 rcases hx with hx | ⟨kvs, rfl⟩
 ·cases x with
  | str w => exact YJ h
  | non => exact FQ hx (EO hz) (by simp [pyD, CN4, isStr]) h
  | bl b => exact FQ hx (EO hz) (by simp [pyD, CN4, isStr]) h
  | int i => exact FQ hx (EO hz) (by simp [pyD, CN4, isStr]) h
  | tup xs => exact FQ hx (EO hz) (by simp [pyD, CN4, isStr]) h
  | lst xs => exact FQ hx (EO hz) (by simp [pyD, CN4, isStr]) h
  | dct _ => cases hx.1
  | ty _ => cases hx.1
  | ref _ => cases hx.1
 ·exact .inr ⟨kvs, z, rfl, rfl, h⟩
theorem BE6 : CX3 ("none" : Str) = true := by decide +kernel
theorem AH9 : CX3 ("number" : Str) = true := by decide +kernel
theorem AS6 : CX3 ("giver" : Str) = true := by decide +kernel
theorem OM : ∀ ds M Q, FY ds M Q → ds.length = 1 := by rintro _ _ _ ⟨_, rfl, _⟩; rfl
def MP : D → Bool
 | .int _ => true | .bl _ => true | _ => false
def MR : D → Bool
 | .bl _ => true | _ => false
def FE : D → Bool
 | .str _ => true | _ => false
def MQ : D → Bool
 | .tup _ => true | _ => false
theorem AH5 (x : D) : isIn (tyN x) "int" = MP x ∨ ¬ FM x := by
 cases x <;> first | exact .inr id | (left; simp only [tyN, MP, MR, FE, MQ]; decide +kernel)
theorem ZM (x : D) : isIn (tyN x) "bool" = MR x ∨ ¬ FM x := by
 cases x <;> first | exact .inr id | (left; simp only [tyN, MP, MR, FE, MQ]; decide +kernel)
theorem AH6 (x : D) : isIn (tyN x) "str" = FE x ∨ ¬ FM x := by
 cases x <;> first | exact .inr id | (left; simp only [tyN, MP, MR, FE, MQ]; decide +kernel)
theorem AH7 (x : D) : isIn (tyN x) "tuple" = MQ x ∨ ¬ FM x := by
 cases x <;> first | exact .inr id | (left; simp only [tyN, MP, MR, FE, MQ]; decide +kernel)
theorem AO4 {x : D} {Q : DK} (h : FM x) (q : Q (.bl (MP x)) M) : F5 [x, .ty "int"] M Q :=
 GY h (.inr (.inl rfl)) (by rw [(AH5 x).resolve_right fun z => z h]; exact q)
theorem Q6 {x : D} {Q : DK} (h : FM x) (q : Q (.bl (MR x)) M) : F5 [x, .ty "bool"] M Q :=
 GY h (.inl rfl) (by rw [(ZM x).resolve_right fun z => z h]; exact q)
theorem CC {x : D} {Q : DK} (h : FM x) (q : Q (.bl (FE x)) M) : F5 [x, .ty "str"] M Q :=
 GY h (.inr (.inr (.inl rfl))) (by rw [(AH6 x).resolve_right fun z => z h]; exact q)
theorem E9 {x : D} {Q : DK} (h : FM x) (q : Q (.bl (MQ x)) M) : F5 [x, .ty "tuple"] M Q :=
 GY h (.inr (.inr (.inr (.inl rfl)))) (by rw [(AH7 x).resolve_right fun z => z h]; exact q)
theorem SJ : ∀ ds M Q, FY ds M Q → Z8 { nx := fun _ M' => View Q .non M', rt := View Q } (B2 DO ds) M := by
 rintro _ M Q ⟨d, rfl, hd, q⟩
 rw [TC]
 unfold Z8
 walk_at "rd"
 refine AO4 hd ?_
 refine G9 ?_
 cases d with
 | int i => refine E3 ?_; walk_at "rd"; refine Q6 trivial ?_; walk_at "rd"; exact View.of q
 | bl b => refine E3 ?_; walk_at "rd"; refine Q6 trivial ?_; walk_at "rd"; exact View.of q
 | ref _ => exact hd.elim
 | ty _ => exact hd.elim
 | _ => exact E1 (View.of q)
theorem OK : ∀ ds M Q, KH ds M Q → ds.length = 2 := by rintro _ _ _ ⟨_, rfl, _⟩; rfl
theorem SG : ∀ ds M Q, KH ds M Q → Z5 { nx := fun _ M' => View Q .non M', rt := View Q } (B2 DL ds) M := by
 rintro _ M Q ⟨z, rfl, ⟨hl, _⟩, q⟩
 rw [SX]
 unfold Z5
 walk_at "rd"
 refine G7 z.cps.toList (fun c => D.str ⟨#[c]⟩) (fun c => D.bl (subIn ⟨#[c]⟩ abc)) ?_ ?_ ?_
 ·rw [← AS9, CF8]; lia
 ·intro c hc M2 R F _ hR
  walk_at "rd"
  exact BJ8 rfl (by rw [Bool.false_xor]; exact hR)
 ·walk_at "rd"
  have e : z.cps.toList.map (fun c => D.bl (subIn ⟨#[c]⟩ abc)) = (z.cps.toList.map fun c => subIn ⟨#[c]⟩ abc).map D.bl := by rw [CL5]; rfl
  rw [e]
  refine BJ ?_
  rw [CY1]
  exact View.of q
theorem JC : ∀ ds M Q, J5 ds M Q → ds.length = 1 := by rintro _ _ _ ⟨_, rfl, _⟩; rfl
theorem LO : ∀ ds M Q, J5 ds M Q → Q0 { nx := fun _ M' => View Q .non M', rt := View Q } (B2 W5 ds) M := by
 rintro _ M Q ⟨d, rfl, ⟨hd, hz⟩, q⟩
 rw [LU]
 unfold Q0
 walk_at "rd"
 refine CC hd ?_
 refine G9 ?_
 cases d with
 | str z =>
  have h := hz z rfl
  refine E3 ?_
  walk_at "rd"
  refine AZ5 (by have := h.1; rw [CF8]; lia) ?_
  walk_at "rd"
  have q : Q (.bl (decide (1 ≤ z.length) && (decide (z.length ≤ 8) && only z))) M := q
  refine EA (fun h1 => ?_) (fun h1 => ?_)
  ·walk_at "rd"
   refine EA (fun h2 => ?_) (fun h2 => ?_)
   ·walk_at "rd"
    refine ⟨z, rfl, h, View.of ?_⟩
    rw [decide_eq_true (show 1 ≤ z.length by lia), decide_eq_true (show z.length ≤ 8 by lia)] at q
    exact q
   ·rw [decide_eq_false (show ¬ z.length ≤ 8 by lia), Bool.false_and, CQ4] at q
    exact View.of q
  ·walk_at "rd"
   rw [decide_eq_false (show ¬ 1 ≤ z.length by lia), Bool.false_and] at q
   exact View.of q
 | ref _ => exact hd.elim
 | ty _ => exact hd.elim
 | _ => exact E1 (View.of q)
theorem RJ : ∀ ds M Q, V6 ds M Q → ds.length = 1 := by rintro _ _ _ ⟨_, rfl, _⟩; rfl
theorem VU : ∀ ds M Q, V6 ds M Q → CW { nx := fun _ M' => View Q .non M', rt := View Q } (B2 GK ds) M := by
 rintro _ M Q ⟨d, rfl, hd, q⟩
 rw [WF]
 unfold CW
 walk_at "rd"
 refine ⟨d, rfl, hd, ?_⟩
 refine G9 ?_
 unfold BE3 at q
 cases e : isL d with
 | false =>
  rw [e] at q
  exact E1 (View.of q)
 | true =>
  rw [e, CW9] at q
  cases d with
  | str z => refine E3 ?_; walk_at "rd"; exact View.of q
  | _ => cases e
theorem AR2 (n : Int) : decide ((if n < 0 then -n else n) < 1000000000000000000000000000000) = !UI n := by
 unfold UI BS
 by_cases h : n < 0
 ·rw [if_pos h, CN7]
  simp only [decide_eq_true_eq, Bool.not_eq_true', Bool.or_eq_false_iff, decide_eq_false_iff_not]
  lia
 ·rw [if_neg h, CN7]
  simp only [decide_eq_true_eq, Bool.not_eq_true', Bool.or_eq_false_iff, decide_eq_false_iff_not]
  lia
theorem JA : ∀ ds M Q, BP ds M Q → ds.length = 1 := by rintro _ _ _ ⟨_, rfl, _⟩; rfl
theorem LM : ∀ ds M Q, BP ds M Q → P7 { nx := fun _ M' => View Q .non M', rt := View Q } (B2 W3 ds) M := by
 rintro _ M Q ⟨n, rfl, q⟩
 rw [LS]
 unfold P7
 walk_at "rd"
 rw [AR2]
 exact View.of q
theorem ON : ∀ ds M Q, V7 ds M Q → ds.length = 2 := by rintro _ _ _ ⟨_, _, rfl, _⟩; rfl
theorem at0 {x : D} {xs : List D} : atI (x :: xs) 0 = some x := F1 (j := 0) rfl
theorem at1 {x y : D} {xs : List D} : atI (x :: y :: xs) 1 = some y := by
 exact F1 (j := 1) rfl
theorem AO3 {x : D} {n m : Int} {Q : DK} (hx : ZH x) (q : Q (.bl (isStr x "giver" && (decide (0 ≤ n) && decide (n < m)))) M) :
  C9 (A3 DG (A3 C1 (A1 0) (tC3 (.int 0))) (tC3 (.str "giver"))) (Z0 RZ AB8 (tC3 (.int 0)) (A3 C1 (A1 0) (tC3 (.int 1))) (A1 1)) [some (.tup [x, .int n]), some (.int m)] M Q := by
 walk_at "rd"
 refine A8 at0 ?_
 walk_at "rd"
 refine BK hx AS6 ?_
 refine G9 ?_
 cases e : isStr x "giver" with
 | false => rw [e] at q; exact E1 q
 | true =>
  rw [e, CW9] at q
  refine E3 ?_
  walk_at "rd"
  refine A8 at1 ?_
  walk_at "rd"
  refine EA (fun h1 => ?_) (fun h1 => ?_)
  ·rw [decide_eq_true h1, CW9] at q
   walk_at "rd"
   exact q
  ·rw [decide_eq_false h1, Bool.false_and] at q
   exact q
theorem AH3 (x y z : D) (r : List D) (m : Int) : isW (.tup (x :: y :: z :: r)) m = false := by cases y <;> rfl
theorem SK : ∀ ds M Q, V7 ds M Q → Z9 { nx := fun _ M' => View Q .non M', rt := View Q } (B2 DP ds) M := by
 rintro _ M Q ⟨d, m, rfl, ⟨hd, hx⟩, q⟩
 rw [TF]
 unfold Z9
 walk_at "rd"
 refine E9 hd ?_
 refine G9 ?_
 cases d with
 | tup xs =>
  have hx := hx xs rfl
  refine A4 rfl ?_
  walk_at "rd"
  match xs, hx, q with
  | [], hx, q =>
   refine A4 (by decide +kernel) ?_
   walk_at "rd"
   refine B7 (by decide +kernel) ?_
   walk_at "rd"
   exact View.of q
  | [x], hx, q =>
   have hx0 := hx x CF3
   refine B7 (by simp) ?_
   walk_at "rd"
   refine A8 at0 ?_
   walk_at "rd"
   exact BK hx0.2 BE6 (View.of q)
  | [x, y], hx, q =>
   have hx0 := hx x CF3
   have hy0 := hx y (CF2 _ CF3)
   refine A4 (by simp) ?_
   walk_at "rd"
   refine A4 (by simp) ?_
   walk_at "rd"
   refine A8 at1 ?_
   walk_at "rd"
   refine ⟨y, rfl, hy0.1, ?_⟩
   refine G9 ?_
   cases y with
   | int n =>
    refine A4 rfl ?_
    walk_at "rd"
    refine A8 at0 ?_
    walk_at "rd"
    refine BK hx0.2 AH9 ?_
    refine G9 ?_
    have q : Q (.bl (if isStr x "number" = true then !UI n else isStr x "giver" && (decide (0 ≤ n) && decide (n < m)))) M := q
    cases e : isStr x "number" with
    | true =>
     rw [e, if_pos rfl] at q
     refine E3 ?_
     walk_at "rd"
     refine A8 at1 ?_
     walk_at "rd"
     exact ⟨n, rfl, View.of q⟩
    | false =>
     rw [e, if_neg CE3] at q
     refine E1 ?_
     refine S3 ?_
     with_reducible refine BM ?_
     exact AO3 hx0.2 (View.of q)
   | _ =>
    refine B7 rfl ?_
    walk_at "rd"
    exact View.of q
  | x :: y :: z :: r, hx, q =>
   refine A4 (by simp; lia) ?_
   walk_at "rd"
   refine B7 (by simp; lia) ?_
   walk_at "rd"
   exact View.of (by rw [AH3] at q; exact q)
 | ref _ => exact hd.elim
 | ty _ => exact hd.elim
 | _ => refine B7 rfl ?_; walk_at "rd"; exact View.of q
end K01
open L3
namespace K01
open PySem L2 L3
end K01
open L3
namespace K01
open PySem L2 L3
end K01
namespace K06
open PySem L2 L3
def shutL : List Str := ["any", "ask", "cast", "catch", "close", "else", "end", "fault", "give", "if", "last", "leave", "make", "none", "note", "on", "rule", "try", "while"]
def BE2 (d : D) : Bool := match d with | .str z => shutL.any (· == z) | _ => false
def isNm (d : D) : Bool := K01.isL d && !BE2 d
def G2 : Sp3 := fun ds M Q => ∃ d, ds = [d] ∧ K01.WO d ∧ Q (.bl (isNm d)) M
abbrev GF : List Str := ["thing"]
def CQ : TS3 :=
  (B4 (C9 (A6 K01.J5 (A0 (A1 0) A2)) (A3 (AB7 true) (A1 0) (tC3 (.tup ((["any", "ask", "cast", "catch", "close", "else", "end", "fault", "give", "if", "last", "leave", "make", "none", "note", "on", "rule", "try", "while"] : List Str).map D.str))))))
theorem WA (d0 : D) : B2 GF [d0] = [some d0] := rfl
end K06
namespace L3
open PySem L2
end L3
open L3
local macro_rules | `(tactic| walk_at "rd") => `(tactic| repeat (first | (with_reducible first | refine EI ?_ | refine ED ?_ | refine Y5 ?_ | refine JV ?_ | refine JZ ?_ | refine SD ?_ | refine BM ?_ | refine EJ ?_ | refine X6 ?_ | refine S3 ?_ | refine X4 ?_ | refine JS ?_ | refine BL ?_ | refine X5 ?_ | refine Y6 ?_ | refine Y2 ?_ | refine DZ ?_ | refine JW ?_ | refine EF ?_ | refine X3 ?_ | refine EG ?_ | refine Y3 ?_ | refine R1 ?_ | refine JX ?_ | refine JU ?_ | refine Y4 ?_ | refine G9 ?_ | refine E3 ?_ | refine E1 ?_ | refine V0 ?_ | refine U9 ?_ | refine JO ?_ | refine VL ?_ | refine G4 ?_ | refine Y0 ?_ | refine Y1 ?_ | refine DY ?_ | refine X9 ?_ | refine R4 ?_ | refine R5 ?_ | refine EK ?_ | refine EE ?_ | refine GW ?_ | refine U7 ?_ | refine CG ?_ | refine ND ?_ | refine JY ?_ | refine FR ?_ | refine FS ?_ | refine CD ?_ | refine CF ?_ | refine CH ?_ | refine CA ?_ | refine CB ?_ | refine X8 ?_ | refine U8 ?_ | refine V2 ?_ | refine R6 ?_ | refine V1 ?_ | refine T8 ?_ | refine HA ?_ | refine GZ ?_ | refine EB ?_ | refine HB ?_ | refine EC ?_ | refine EH ?_) | ((with_reducible show A1 _ _ _ _); refine T9 rfl ?_) | ((with_reducible show _ ∧ _); refine ⟨(by first | decide | (simp only [CE7, CI5]; decide)), ?_⟩)))
namespace K06
open PySem L2 L3
open K01 (CC Q6 FE ZH WO AQ2 isL only abc)
end K06
open L3
namespace K06
open PySem L2 L3
open K01 (CC Q6 FE ZH WO AQ2 isL only abc)
theorem RF : ∀ ds M Q, G2 ds M Q → ds.length = 1 := by rintro _ _ _ ⟨_, rfl, _⟩; rfl
theorem VP : ∀ ds M Q, G2 ds M Q → CQ { nx := fun _ M' => View Q .non M', rt := View Q } (B2 GF ds) M := by
 rintro _ M Q ⟨d, rfl, hd, q⟩
 rw [WA]
 unfold CQ
 walk_at "rd"
 refine ⟨d, rfl, hd, ?_⟩
 refine G9 ?_
 unfold isNm at q
 cases e : isL d with
 | false => rw [e] at q; exact E1 (View.of q)
 | true =>
  rw [e, CW9] at q
  cases d with
  | str z =>
   refine E3 ?_
   walk_at "rd"
   refine .inr ⟨z, shutL, rfl, rfl, ?_⟩
   rw [Bool.true_xor]
   exact View.of q
  | _ => cases e
end K06
open L3
namespace K06
open PySem L2 L3
open K01 (CC Q6 FE ZH WO AQ2 isL only abc)
end K06
namespace L3
open PySem PySem.Spec PyProof.Rows L2
theorem UM {R : Result → CD9 → Prop} {target : Expr} {it : Value} {D : Addr} (I : Nat → CD9 → Prop)
  (turn : ∀ n s, I n s → wpAny (model prog w) A (CW8 it) (fun r s₁ => match r with
   | none => R (.ok .next) s₁
   | some v => wpAny (model prog w) A (CS9 target it v) (fun _ s₁' => wpAny (model prog w) A (assign target env v) (fun _ s₂ =>
     wpAny (model prog w) A (forIn ifs true fun c r => if r = true then do let ok ← isTrue c env (eval c env); pure (ForInStep.yield ok) else pure (ForInStep.yield r)) (fun ok s₃ =>
      if ok = true then wpAny (model prog w) A (eval kx env) (fun x s₄ => wpAny (model prog w) A (eval vx env) (fun y s₅ =>
       wpAny (model prog w) A (dictSet D x y) (fun _ s₆ => ∃ m, m < n ∧ I m s₆) (fun _ _ => False) s₅) (fun _ _ => False) s₄) (fun _ _ => False) s₃
      else ∃ m, m < n ∧ I m s₃) (fun _ _ => False) s₂) (fun _ _ => False) s₁') (fun _ _ => False) s₁) (fun _ _ => False) s)
  (n : Nat) (h : I n s) : codeAny (model prog w) A (.compLoop (.DictComp kx vx [⟨target, iter, ifs, 0⟩] scope pos) 0 it (.ref D) env) R s := by
 refine codeAny_loop rfl I (fun n s hI => ?_) n h
 show wpAny _ A ((compTurn (.DictComp kx vx [⟨target, iter, ifs, 0⟩] scope pos) 0 it (.ref D) env).onRaise (fun x => do noteFrame x env; theTreesLotGoes x)) _ _ s
 refine wpAny_noted ?_
 rw [compTurn_dict]
 refine CD4 (CS8 (CD4 (CJ8 (turn n s hI) (fun r s₁ h₁ => ?_) fun _ _ h' => h'.elim)))
 cases r with
 | none => exact CD6 h₁
 | some v =>
  refine CD4 (CJ8 h₁ (fun _ s₁' h₁' => ?_) fun _ _ h' => h'.elim)
  refine CD4 (CJ8 h₁' (fun _ s₂ h₂ => CD4 (CJ8 h₂ (fun ok s₃ h₃ => ?_) fun _ _ h' => h'.elim)) fun _ _ h' => h'.elim)
  cases ok with
  | false => exact CD6 ⟨rfl, h₃⟩
  | true =>
   exact CD4 (CD4 (CJ8 h₃ (fun x s₄ h₄ => CD4 (CH3 (CJ8 h₄ (fun y s₅ h₅ => CD4 (CS8 (CH3 (CJ8 h₅ (fun _ s₆ h₆ => CD6 ⟨rfl, h₆⟩) fun _ _ h' => h'.elim)))) fun _ _ h' => h'.elim))) fun _ _ h' => h'.elim))
def QE (ti : TI3) (n : Nat) (slots : List Nat) (g : TG3) (tt : TT3) (tk tv : TE3) (F : Addr → List (Key × D) → Mem → Prop) (σ : Lo) (M : Mem) : Prop := ti σ M fun ds M1 => ∀ p, M1 p = none → ∃ Pv : Nat → List (Key × D) → Mem → Prop, Pv 0 [] (C7 M1 p (.dct [])) ∧
 (∀ k d acc M, ds[k]? = some d → Pv k acc M → g d (CD7 n none ++ slots.map fun j => (σ[j]?).getD none) M fun σ' M0 => tt σ' M0 fun b M' =>
  if b = true then tk σ' M' fun e M2 => tv σ' M2 fun f M3 => ∃ q, dK? e = some q ∧ M3 p = some (.dct acc) ∧ acc.length < CE1 ∧ Pv (k + 1) (putD acc q f) (C7 M3 p (.dct (putD acc q f))) else Pv (k + 1) acc M') ∧
 ∀ acc M, Pv ds.length acc M → M p = some (.dct acc) ∧ F p acc M
set_option maxHeartbeats 2000000 in
theorem UL {X : Cx}
  (hc : X.calm = true) (hi : EU X tg iter ti) (hkind : scope.kind = .function) (hcell : ∀ y ∈ scope.names, y.2 ≠ .cell)
  (hnames : ∀ y ∈ scope.names, y.2 = .local → scope.names.lookup y.1 = some .local)
  (hfree : ∀ y ∈ scope.names, y.2 = .free → X.env.kindOf y.1 = some .cell ∨ X.env.kindOf y.1 = some .free)
  (hcf : ∀ y ∈ caps, scope.names.lookup y = some .free) (hcaps : slots.map (fun j => X.N[j]?) = caps.map some)
  (hgk : ∀ d M Q (cs : Lo), g d (CD7 tns.length none ++ cs) M Q → g d (CD7 tns.length none ++ cs) M (fun σ' M' => σ'.drop tns.length = cs ∧ Q σ' M'))
  (hg : ∀ cl s₀ H₀ ex, PG3 (B0 X scope cl s₀ H₀ ex (tns ++ caps)) tg g)
  (ht : ∀ cl s₀ H₀ ex, W6 (B0 X scope cl s₀ H₀ ex (tns ++ caps)) ifs tt) (he : ∀ cl s₀ H₀ ex, PE3 (B0 X scope cl s₀ H₀ ex (tns ++ caps)) kx tk) (hv : ∀ cl s₀ H₀ ex, PE3 (B0 X scope cl s₀ H₀ ex (tns ++ caps)) vx tv)
  (hs : ∀ y, CG6 iter X.env y = pure y)
  {use : Option (Value → Sem Unit)} {Post : Value → CD9 → Prop} {σv : L2.St} {F : Addr → List (Key × L3.D) → Mem → Prop} (I : Inv X pins σv H s) (hS : SRel X.K M H σ σv) (hM : MRel X.K M H) (h : QE ti tns.length slots g tt tk tv F σ M)
  (fin : ∀ (D C : Addr) (acc : List (Key × L3.D)) (H5 : Hp) (M5 : Mem) (s6 : CD9) (m : Str → Option Value), s6.heap.Ns C m → Inv X pins σv H5 s6 → H5 C = none → C ≠ X.env.locals → C ∉ X.fs → X.s₀.heap.objs.size ≤ C → (∀ x c, X.env.cells.lookup x = some c → c ≠ C) → (∀ p ∈ X.pn ++ pins, p.1 ≠ C) →
   Step M H M5 H5 → MRel X.K M5 H5 → M5 D = some (.dct acc) → F D acc M5 → compPost (model X.prog X.w) X.A X.xe use Post (.ref D) C (.ok .next) s6) :
  wpAny (model X.prog X.w) X.A (comprehension (.DictComp kx vx [⟨tg, iter, ifs, 0⟩] scope pos) scope X.env (firstIterPos [⟨tg, iter, ifs, 0⟩] pos) newDict false (firstIter [⟨tg, iter, ifs, 0⟩] X.env) use) Post X.xe s := by
 have hclos : closureFor scope X.env = pure (J4 (fun n => (X.env.cells.lookup n).getD 0) scope.names []) := DC fun p hp hk => by
  obtain ⟨a, e⟩ := I.ok.has p.1 (hfree p hp hk)
  rw [e]; rfl
 have cellsOf : ∀ x c, (J4 (fun n => (X.env.cells.lookup n).getD 0) scope.names []).lookup x = some c → X.env.cells.lookup x = some c := fun x c e => by
  obtain ⟨e1, e2⟩ := RP e
  obtain ⟨a, e3⟩ := I.ok.has x (hfree _ e2 rfl)
  rw [e3] at e1
  rw [e3, e1]; rfl
 have clHas : ∀ n, (n, NameKind.free) ∈ scope.names → ∃ c, (J4 (fun n => (X.env.cells.lookup n).getD 0) scope.names []).lookup n = some c := fun n hn => ⟨_, EX hn⟩
 generalize J4 (fun n => (X.env.cells.lookup n).getD 0) scope.names [] = cl at hclos cellsOf clHas
 refine wpAny_comprehension_free rfl hs hclos hkind hnames ?_
 refine thn (hi pins s σv H (fun J H2 => ∃ ds M1, Step M H M1 H2 ∧ MRel X.K M1 H2 ∧ WkE X.K J ds M1 H2 ∧ _) I ⟨σ, M, _, hS, hM, h, fun ds J M1 H1 st m wk q => ⟨ds, M1, st, m, wk, q⟩⟩) fun v s1 h1 => thn h1 fun itv s2 h2 => ?_
 obtain ⟨it, fp, tn, J, H2, e0, I2, T, st2, f2, ds, M1, stp, m1, wk, cont⟩ := h2
 subst e0
 refine CG4 ?_
 have I3 := I2.laid (a := s2.heap.objs.size) (o := .dK []) (h' := s2.heap.push { cls := .type "dict", data := .dict #[] }) (t' := s2.toks) (fun _ _ q => CD5 _ q) (CE9 _) (QY s2.heap I2.big)
 have hget : ∀ b o, s2.heap.get? b = some o → ({ s2 with heap := s2.heap.push { cls := .type "dict", data := .dict #[] }, toks := s2.toks } : CD9).heap.get? b = some o := fun b o e => CD5 _ e
 have hsz : s2.heap.objs.size < ({ s2 with heap := s2.heap.push { cls := .type "dict", data := .dict #[] }, toks := s2.toks } : CD9).heap.objs.size := CE2 (CE4 _ rfl)
 change wpAny _ _ _ _ _ ({ s2 with heap := s2.heap.push { cls := .type "dict", data := .dict #[] }, toks := s2.toks } : CD9)
 change Inv X pins σv _ ({ s2 with heap := s2.heap.push { cls := .type "dict", data := .dict #[] }, toks := s2.toks } : CD9) at I3
 have hos3 : ({ s2 with heap := s2.heap.push { cls := .type "dict", data := .dict #[] }, toks := s2.toks } : CD9).os = s2.os := rfl
 generalize ({ s2 with heap := s2.heap.push { cls := .type "dict", data := .dict #[] }, toks := s2.toks } : CD9) = s3 at I3 hget hsz hos3 ⊢
 refine wpAny_newFunctionEnv hcell (fun _ hx => absurd hx (by simp)) (fun h4 hns hsb => ?_) hkind
 have hDn : H2 s2.heap.objs.size = none := I2.fresh
 have hD : upd H2 s2.heap.objs.size (.dK []) s2.heap.objs.size = some (.dK []) := D4
 have fpne : ∀ b ∈ fp, b ≠ s2.heap.objs.size := fun b hb => by
  obtain ⟨o, e, _⟩ := T.obj _ _ st2 b hb
  exact CF6 (CE2 e)
 generalize s2.heap.objs.size = D at hDn hD hsz I3 fpne ⊢
 have stD : Step M1 H2 (C7 M1 D (.dct [])) (upd H2 D (.dK [])) := Step.put (.inl hDn)
 have mD : MRel X.K (C7 M1 D (.dct [])) (upd H2 D (.dK [])) := m1.put (.inl hDn) .nil
 have k4 : ∀ b o, s3.heap.get? b = some o → h4.get? b = some o := fun b o e => (hsb.2 b (CF6 (CE2 e))).trans (CD5 _ e)
 have fpold : ∀ b ∈ fp, b < s3.heap.objs.size := fun b hb => by
  obtain ⟨o, e, _⟩ := T.obj _ _ st2 b hb
  exact CE2 (hget b o e)
 have fpD : ∀ b ∈ fp, upd H2 D (.dK []) b = none := fun b hb => by
  rw [D1 (fpne b hb)]; exact (f2 b hb).1
 have xok : (B0 X scope cl s3 (upd H2 D (.dK [])) fp (tns ++ caps)).Ok := {
  mod := I.ok.mod
  kind := hkind
  glob := I.ok.glob
  blt := I.ok.blt
  above := CE9 _
  inj := fun x y c e1 e2 => I.ok.inj x y c (cellsOf x c e1) (cellsOf y c e2)
  has := fun x hx => clHas x (FT hcell hx)
  cab := fun x c hf => by cases hf
  hd := I.ok.hd
  frames := I.ok.frames
  stk := .inl rfl
  exf := fun b hb => ⟨CF6 (fpold b hb), fun x c e => (f2 b hb).2.2.2.2.1 x c (cellsOf x c e)⟩
  bs := I3.bs
  bsz := CI6 I3.ok.bsz I3.sz
  noex := fun b o e hb => by
   rcases (f2 b hb).2.2.2.1 with z | z
   ·exact I.ok.noex b o e z
   ·exact absurd (CH4 (CE2 e) (CI6 I.ok.bsz z)) (CK7 _)
  exfs := fun b hb z => by
   rcases CF9.mp (I2.stkSub b z) with z | z
   ·exact (f2 b hb).2.1 z
   ·exact (f2 b hb).2.2.1 z
  funs := I3.stack
  frf := I3.stkFree }
 have I4 : Inv (B0 X scope cl s3 (upd H2 D (.dK [])) fp (tns ++ caps)) [] (CD7 tns.length none ++ slots.map fun j => (σv[j]?).getD none) (upd H2 D (.dK [])) { s3 with heap := h4, toks := s3.toks + ([] : List (Str × Value)).length } := {
  ok := xok
  os := rfl
  bare := I3.bare
  base := Un.kept k4
  loc := by
   refine ⟨_, hns, fun i x v e1 e2 vis => ?_⟩
   have hlen : caps.length = slots.length := by
    have := congrArg CR2 hcaps
    simpa using this.symm
   have hi : tns.length ≤ i := by
    rcases CP6 i tns.length with z | z
    ·rw [CG8 (by simpa using z), CJ9] at e2
     split at e2 <;> cases e2
    ·exact z
   change (tns ++ caps)[i]? = some x at e1
   rw [CG0 hi] at e1
   rw [CG0 (by simpa using hi), CH6, CF1] at e2
   cases e3 : slots[i - tns.length]? with
   | none => rw [e3] at e2; cases e2
   | some j =>
    rw [e3, CM2] at e2
    have e2' : (σv[j]?).getD none = some v := Option.some.inj e2
    have e5 : σv[j]? = some (some v) := by
     cases q : σv[j]? with
     | none => rw [q] at e2'; cases e2'
     | some z => rw [q] at e2'; simp only [CW4] at e2'; rw [e2']
    have e4 : X.N[j]? = some x := by
     have := congrArg (fun l => l[i - tns.length]?) hcaps
     simp only [CF1, e3, e1, CM2] at this
     exact Option.some.inj this
    have hxf := hcf x (CF5 e1)
    have hk := hfree (x, .free) (CI7 hxf) rfl
    obtain ⟨m, hm, hl⟩ := I3.loc
    obtain ⟨u, ru, lk⟩ := hl j x v e4 e5 (hk.elim (fun z => .inr (.inl z)) fun z => .inr (.inr z))
    refine ⟨u, ru, .inr ⟨DH hxf, ?_⟩⟩
    rcases lk with ⟨z, _⟩ | ⟨_, c, ec, ic⟩
    ·rcases hk with y | y <;> (rw [show X.env.kindOf x = _ from z] at y; cases y)
    ·obtain ⟨c', ec'⟩ := clHas x (CI7 hxf)
     have := cellsOf x c' ec'
     rw [ec] at this
     cases this
     obtain ⟨o, ho, r⟩ := ic
     exact ⟨c, ec', o, k4 _ _ ho, r⟩
  cell := fun x c e => by
   obtain ⟨v, o, ho, r⟩ := I3.cell x c (cellsOf x c e)
   exact ⟨v, o, k4 _ _ ho, r⟩
  free := I3.fresh
  freeC := fun x c e => I3.freeC x c (cellsOf x c e)
  pin := fun p hp => absurd hp (by simp [B0])
  hok := I3.hok.kept k4
  len := by
   have := congrArg CR2 hcaps
   simp at this
   simp [B0, this] }
 have hlen : caps.length = slots.length := by
  have := congrArg CR2 hcaps
  simpa using this.symm
 have stat : ∀ {H' : Hp}, (∀ b ∈ fp, H' b = none) → ∀ b ∈ fp, KY (B0 X scope cl s3 (upd H2 D (.dK [])) fp (tns ++ caps)) [] H' b := fun hn b hb =>
  ⟨hn b hb, (xok.exf b hb).1, xok.exfs b hb, .inl hb, (xok.exf b hb).2, fun p hp => absurd hp (by simp [B0])⟩
 have hMD : M1 D = none := m1.free hDn
 obtain ⟨Pv, p0, turn, done⟩ := cont D hMD
 have hS0 : SRel X.K (C7 M1 D (.dct [])) (upd H2 D (.dK [])) (CD7 tns.length none ++ slots.map fun j => (σ[j]?).getD none) (CD7 tns.length none ++ slots.map fun j => (σv[j]?).getD none) := by
  refine ⟨by simp, fun i d e => ?_⟩
  rcases CP6 i tns.length with z | z
  ·rw [CG8 (by simpa using z), CJ9] at e
   split at e <;> cases e
  ·rw [CG0 (by simpa using z), CH6, CF1] at e ⊢
   cases e3 : slots[i - tns.length]? with
   | none => rw [e3] at e; cases e
   | some j =>
    rw [e3, CM2] at e
    have e2' : (σ[j]?).getD none = some d := Option.some.inj e
    have e5 : σ[j]? = some (some d) := by
     cases q : σ[j]? with
     | none => rw [q] at e2'; cases e2'
     | some z => rw [q] at e2'; simp only [CW4] at e2'; rw [e2']
    obtain ⟨v, ev, rv⟩ := hS.get j d e5
    exact ⟨v, by rw [CM2, ev]; rfl, rv.mono (stp.trans stD)⟩
 generalize hcs : (slots.map fun j => (σ[j]?).getD none) = cs at turn hS0
 have hcsl : cs.length = caps.length := by rw [← hcs, hlen]; simp
 have loop : codeAny (model X.prog X.w) X.A (.compLoop (.DictComp kx vx [⟨tg, iter, ifs, 0⟩] scope pos) 0 (.ref it) (.ref D) (compEnvC scope cl s3.heap.objs.size X.env)) (compPost (model X.prog X.w) X.A X.xe use Post (.ref D) s3.heap.objs.size) { s3 with heap := h4, toks := s3.toks + ([] : List (Str × Value)).length } := by
  refine UM (fun n s' => ∃ k acc σv' H' M', n = ds.length - k ∧ k ≤ ds.length ∧ Inv (B0 X scope cl s3 (upd H2 D (.dK [])) fp (tns ++ caps)) [] σv' H' s' ∧ tn k s'.heap ∧ (∀ b ∈ fp, H' b = none) ∧
   Step (C7 M1 D (.dct [])) (upd H2 D (.dK [])) M' H' ∧ MRel X.K M' H' ∧ SRel X.K M' H' (CD7 tns.length none ++ cs) σv' ∧ Pv k acc M') ?_ _ ⟨0, [], _, _, _, rfl, CK6 _, I4, T.keep _ _ _ st2 fun b hb o e => k4 _ _ (hget _ _ e), fpD, .refl, mD, hS0, p0⟩
  rintro n s5 ⟨k, acc, σv5, H5, M5, rfl, hk, I5, tn5, fr5, st5, m5, hS5, pk⟩
  obtain ⟨go, yld, stop⟩ := wk M5 H5 (stD.trans st5) m5
  by_cases hlt : k < ds.length
  ·refine thn (T.item (B0 X scope cl s3 (upd H2 D (.dK [])) fp (tns ++ caps)) rfl rfl rfl hc k [] s5 σv5 H5 (fun _ _ => False) I5 (stat fr5) tn5 (go k hlt)) fun r s6 hx0 => ?_
   obtain ⟨u, hr, h6⟩ := hx0
   subst hr
   refine thn h6 fun _ s7 hx0 => ?_
   obtain ⟨x, H7, I7, r7, y7, tn7, fr7⟩ := hx0
   obtain ⟨sy, my, ry⟩ := yld k ds[k] x H7 (by simp [hlt]) y7
   have I7' := I7.pinned (stat fr7) (T.obj _ _ tn7)
   refine thn (hg cl s3 (upd H2 D (.dK [])) fp _ s7 σv5 _ x u (fun σv' H' => ∃ σ' M', Step M5 H7 M' H' ∧ MRel X.K M' H' ∧ SRel X.K M' H' σ' σv' ∧ _) I7' r7 ⟨ds[k], _, M5, _, ry, hS5.mono sy, my, hgk _ _ _ _ (turn k ds[k] acc M5 (by simp [hlt]) pk), fun σ' σv' M' H' st m r q => ⟨σ', M', st, m, r, q⟩⟩) fun _ s8 hx0 => ?_
   obtain ⟨σ8, H8, I8, σ', M8, st8, m8, hS8, hdr, q8⟩ := hx0
   have again : ∀ (sF : CD9) (HF : Hp) (MF : Mem) (accF : List (Key × L3.D)), Inv (B0 X scope cl s3 (upd H2 D (.dK [])) fp (tns ++ caps)) ([] ++ GT fp s7.heap) σ8 HF sF → Step M8 H8 MF HF → MRel X.K MF HF → Pv (k + 1) accF MF →
     ∃ m, m < ds.length - k ∧ ∃ k acc σv' H' M', m = ds.length - k ∧ k ≤ ds.length ∧ Inv (B0 X scope cl s3 (upd H2 D (.dK [])) fp (tns ++ caps)) [] σv' H' sF ∧ tn k sF.heap ∧ (∀ b ∈ fp, H' b = none) ∧
      Step (C7 M1 D (.dct [])) (upd H2 D (.dK [])) M' H' ∧ MRel X.K M' H' ∧ SRel X.K M' H' (CD7 tns.length none ++ cs) σv' ∧ Pv k acc M' := by
    intro sF HF MF accF IF stF mF pF
    refine ⟨ds.length - (k + 1), by lia, k + 1, accF, σ8, HF, MF, rfl, hlt, IF.unpinned, T.keep _ _ _ tn7 fun b hb o e => (IF.pin (b, o) (CF0 _ (CF0 _ (L9 hb e)))).1, fun b hb => ?_, ((st5.trans sy).trans st8).trans stF, mF, ?_, pF⟩
    ·obtain ⟨o, e, d⟩ := T.obj _ _ tn7 b hb
     exact (IF.pin (b, o) (CF0 _ (CF0 _ (L9 hb e)))).2.1
    ·refine SRel.mono stF ⟨?_, fun i d e => ?_⟩
     ·have := I8.len
      rw [this, CE6, CH6, hcsl]
      simp [B0]
     ·rcases CP6 i tns.length with z | z
      ·rw [CG8 (by simpa using z), CJ9] at e
       split at e <;> cases e
      ·rw [CG0 (by simpa using z), CH6, ← hdr, List.getElem?_drop] at e
       have : tns.length + (i - tns.length) = i := by lia
       rw [this] at e
       exact hS8.get i d e
   refine thn (ht cl s3 (upd H2 D (.dK [])) fp _ s8 σ8 H8 σ' M8 _ I8 hS8 m8 q8) fun ok s9 hx0 => ?_
   obtain ⟨M9, H9, I9, st9, m9, q9⟩ := hx0
   cases ok with
   | false => exact again s9 H9 M9 acc I9 st9 m9 q9
   | true =>
    refine thn (he cl s3 (upd H2 D (.dK [])) fp _ s9 σ8 H9 σ' M9 _ I9 (hS8.mono st9) m9 q9) fun xk s10 hx0 => ?_
    obtain ⟨ek, vk, M10, H10, I10, st10, m10, r10, rep10, q10⟩ := hx0
    refine thn (hv cl s3 (upd H2 D (.dK [])) fp _ s10 σ8 H10 σ' M10 _ I10 ((hS8.mono st9).mono st10) m10 q10) fun xv s11 hx0 => ?_
    obtain ⟨ev, vv, M11, H11, I11, st11, m11, r11, rep11, qk, hqk, hMp, hlt2, q11⟩ := hx0
    have hy := AF1 hqk
    subst hy
    have ey := IG rep10
    subst ey
    obtain ⟨ho, hHo, rO⟩ := m11 D _ hMp
    cases ho <;> first | exact (rO : False).elim | skip
    rename_i vs
    have rO' : RepK X.K M11 H11 acc vs := rO
    obtain ⟨z, hd, vs0, rel, dd⟩ := XA I11.hok hHo
    have hz : vs0.length ≤ CE1 := by rw [← rel.length]; exact z
    have hl : (putK vs qk vv).length ≤ CE1 := by
     have h1 := S1 vs qk vv
     have h2 := rO'.length
     lia
    refine wpAny_dictSet_pairs (hsz := hz) (HI r10) dd fun h' dd' hs' => ?_
    have he' : ∃ q, h'.get? D = some q := let ⟨q, _, _, hq, _⟩ := dd'; ⟨q, hq⟩
    have I12 := HZ (t' := s11.toks + 1) I11 (by rw [hHo]; exact True.intro) hs' he' (UN hl hd (rel.put qk r11) dd')
    exact again _ _ _ _ I12 (st9.trans (st10.trans (st11.trans (Step.put (.inr (by rw [hMp]; simp)))))) (m11.put (.inr (by rw [hMp]; simp)) (o := .dct (putD acc qk ev)) (rO'.put qk rep11)) q11
  ·have e : k = ds.length := by lia
   subst e
   refine thn (T.done (B0 X scope cl s3 (upd H2 D (.dK [])) fp (tns ++ caps)) rfl rfl rfl hc _ [] s5 σv5 H5 (fun _ _ => False) I5 (stat fr5) tn5 stop) fun r s6 hx0 => ?_
   obtain ⟨hr, I6⟩ := hx0
   subst hr
   obtain ⟨m, hn, _⟩ := I6.loc
   obtain ⟨hp, hq⟩ := done acc M5 pk
   refine fin D s3.heap.objs.size acc H5 M5 s6 m hn (I3.call' (ch := fp) I6.os I6.base I6.hok I6.bare (fun b hb => ⟨(f2 b hb).2.2.2.1, (f2 b hb).2.1, (f2 b hb).2.2.2.2.1, (f2 b hb).2.2.2.2.2⟩)) I6.free (CR6 I3.lt) (I3.nofs (CE9 _)) I3.sz (fun x c e z => ?_) (fun p hp z => absurd (CE2 (I3.pin p hp).1) (by rw [z]; exact CK7 _)) ((stp.trans stD).trans st5) m5 hp hq
   obtain ⟨v, q⟩ := I3.cell x c e
   exact absurd q.lt (by rw [z]; exact CK7 _)
 exact codeAny_compStart_dict loop (T.self _ _ _ _ _ (T.keep _ _ _ st2 fun b hb o e => k4 _ _ (hget _ _ e)) loop)
def II (ti : TI3) (n : Nat) (slots : List Nat) (g : TG3) (tt : TT3) (tk tv : TE3) : TE3 := fun σ M Q => QE ti n slots g tt tk tv (fun p _ M => Q (.ref p) M) σ M
end L3
namespace PySem
open Sem (wp)
open Builtin
theorem SR (a : Int) (t : Tok) (l : Addr) (T : String) (items : Array Value) (n : Nat) (dd : Option Addr) (sl : Array (Option Value)) (hT : T = "list" ∨ T = "tuple") :
  Meets (CN1.«int.__rmul__» ⟨[.int a t, .ref l], []⟩) (fun _ R s => s.heap.get? l = some { cls := .type T, dict := dd, data := .seq items n, slots := sl } ∧ R (.ok (.ret Value.notImplemented)) s) := by
 rcases hT with rfl | rfl
 ·exact .of_wp fun prog w A R s h => by
   obtain ⟨hp, g, d, tk, os⟩ := s; obtain ⟨hl, h⟩ := h; wp_walk; exact ⟨_, rfl, h⟩
 ·exact .of_wp fun prog w A R s h => by
   obtain ⟨hp, g, d, tk, os⟩ := s; obtain ⟨hl, h⟩ := h; wp_walk; exact ⟨_, rfl, h⟩
theorem ZP (l : Addr) (items : Array Value) (n : Nat) (dd : Option Addr) (sl : Array (Option Value)) (x : Int) (u : Tok) (hc0 : ¬(!Builtin.List.listFitsIndex x) = true) (hc1 : ¬items.size * x.toNat > (2 ^ 63 - 1) / 8) (hc2 : ¬CM8 (items.size * x.toNat) = true) :
  Meets (CN1.«list.__mul__» ⟨[.ref l, .int x u], []⟩) (fun _ R s => s.heap.get? l = some { cls := .type "list", dict := dd, data := .seq items n, slots := sl } ∧ R (.ok (.ret (Value.ref s.heap.objs.size))) { s with heap := s.heap.push { cls := Value.type "list", data := Data.seq (List.foldl (fun x1 x2 => x1 ++ x2) #[] (CD7 (if items.isEmpty = true then 0 else x.toNat) items)) }, toks := s.toks }) := by
 refine .of_wp fun prog w A R s h => ?_
 obtain ⟨hp, g, d, tk, os⟩ := s; obtain ⟨hl, h⟩ := h
 have hsz := AutoListH.joined_fits hc2
 wp_walk; refine wpAny_ite_false (decide_eq_false (Nat.not_lt.mpr hsz)) ?_; wp_walk; exact ⟨_, rfl, h⟩
theorem GR : fillsNumberSlot (.type "tuple") "mul" = pure false :=
 fillsNumberSlot_seq (id := "tuple.__mul__") (r := some (.builtin "tuple.__rmul__")) F.slot_tuple_mul.lookup (by decide +kernel) F.slot_tuple_rmul.lookup (by decide +kernel)
theorem PO : seqRepeat? (.type "tuple") = pure (some (.builtin "tuple.__mul__")) := by
 unfold seqRepeat?
 rw [seqSlot_of (T := "tuple") (name := "__mul__") (id := "tuple.__mul__") F.slot_tuple_mul.lookup (by decide +kernel), seqSlot_of (T := "tuple") (name := "__rmul__") (id := "tuple.__rmul__") F.slot_tuple_rmul.lookup (by decide +kernel)]
 rfl
theorem WL (l : Addr) (items : Array Value) (n : Nat) (dd : Option Addr) (sl : Array (Option Value)) (x : Int) (u : Tok) (h0 : items.isEmpty = false) (h1 : 2 ≤ x) (h2 : x < 2 ^ 20) (hs : items.size ≤ 15) :
  Meets (CN1.«tuple.__mul__» ⟨[.ref l, .int x u], []⟩) (fun _ R s => s.heap.get? l = some { cls := .type "tuple", dict := dd, data := .seq items n, slots := sl } ∧ R (.ok (.ret (Value.ref s.heap.objs.size))) { s with heap := s.heap.push { cls := Value.type "tuple", data := Data.seq (List.foldl (fun x1 x2 => x1 ++ x2) #[] (CD7 x.toNat items)) }, toks := s.toks }) := by
 refine .of_wp fun prog w A R s h => ?_
 obtain ⟨hp, g, d, tk, os⟩ := s; obtain ⟨hl, h⟩ := h
 have e0 : (items.isEmpty || x == 1) = false := by rw [h0, Bool.false_or]; exact beq_eq_false_iff_ne.mpr (by omega)
 have e1 : (decide (x ≤ 0) || items.isEmpty) = false := by rw [h0, Bool.or_false]; exact decide_eq_false (by omega)
 have e2 : (items.size : Int) * x ≤ 15 * 2 ^ 20 := Int.le_trans (Int.mul_le_mul_of_nonneg_right (show (items.size : Int) ≤ 15 by omega) (by omega)) (Int.mul_le_mul_of_nonneg_left (by omega) (by decide))
 wp_walk
 rw [if_neg (by rw [decide_eq_false (by omega), decide_eq_false (by omega)]; simp)]
 dsimp only
 wp_walk
 rw [if_neg (by rw [e0]; simp)]
 rw [if_neg (by rw [e1]; simp)]
 rw [if_neg (by omega)]
 have hz : CE1 = 16777216 := CF8
 rw [if_neg (show ¬ Builtin.Tuple.tupleTooMany ((items.size : Int) * x) = true by unfold Builtin.Tuple.tupleTooMany; rw [decide_eq_true_eq]; omega)]
 have hsz : (List.foldl (fun x1 x2 => x1 ++ x2) #[] (CD7 x.toNat items)).size ≤ CE1 := by
  rw [PyProof.Rows.listMul_foldl]
  simp only [CF4, CE6, List.length_flatten, CR9, CX5, Array.toList_empty, CI5, CE5, Nat.zero_add]
  have : ((x.toNat * items.size : Nat) : Int) ≤ 15 * 2 ^ 20 := by rw [Int.natCast_mul, Int.mul_comm, Int.toNat_of_nonneg (by omega)]; exact e2
  omega
 wp_walk; refine wpAny_ite_false (decide_eq_false (Nat.not_lt.mpr hsz)) ?_; wp_walk; exact ⟨_, rfl, h⟩
end PySem
namespace L3
open PySem PySem.Spec PyProof.Rows L2
section
variable {X : Cx}
theorem Vals.rep (r : Vals vs us) : ∀ n : Nat, Vals (CD7 n vs).flatten (CD7 n us).flatten
 | 0 => .nil
 | n + 1 => by
  rw [CR1, CR1, CS5, CS5]
  exact r.append (Vals.rep r n)
theorem Reps.rep (r : Reps K M H ds vs) : ∀ n : Nat, Reps K M H (CD7 n ds).flatten (CD7 n vs).flatten
 | 0 => .nil
 | n + 1 => by
  rw [CR1, CR1, CS5, CS5]
  exact Reps.append r (Reps.rep r n)
def JN : R3 := fun x y M Q => ∃ ds n, x = .lst ds ∧ y = .int n ∧ 0 ≤ n ∧ n ≤ 1000 ∧ ds.length ≤ 1000 ∧ Q (.lst (CD7 n.toNat ds).flatten) M
theorem OV : OpR3 X (CO9 .Mult) JN := by
 rintro pins s σv H M x y xv yv v u Q I m rx ry px py ⟨ds, n, rfl, rfl, n0, n1, dl, q⟩
 obtain ⟨p1, vs1, rfl, s1, r1⟩ := AI1 m px (.inl rfl)
 cases py
 cases rx
 obtain ⟨t, rfl⟩ := ry
 obtain ⟨its, e1, p1, z1⟩ := I.list s1
 obtain ⟨⟨cls, dd, data, sl⟩, ho, hc, k, hd⟩ := p1.isList
 simp only at hc hd
 subst hc hd
 have l1 := r1.length
 have l3 := e1.length
 have hz : CE1 = 16777216 := CF8
 have hm : its.toArray.size * n.toNat ≤ 1000 * 1000 := Nat.mul_le_mul (by simp; lia) (by lia)
 have hlen : (CD7 n.toNat vs1).flatten.length ≤ 1000 * 1000 := by
  rw [List.length_flatten, CR9, CX5, Nat.mul_comm]
  exact Nat.mul_le_mul (by lia) (by lia)
 have ea : List.foldl (fun x1 x2 => x1 ++ x2) #[] (CD7 (if its.toArray.isEmpty = true then 0 else n.toNat) its.toArray) = (CD7 n.toNat its).flatten.toArray := listMul_foldl_if its.toArray n.toNat
 refine wpAny_binaryOp_repeat_ref (T := "list") (U := "int") (by decide) ⟨_, ho, rfl⟩ (fun s' => typeIs_int s' n t) noFill_list_mul PySem.F.fills_int_mul CS2 repeat_list PySem.F.slot_int_index.lookup
  (CP4 CS2 (typeIs_int s n t) PySem.F.entry_int_rmul (PySem.F.args_int_rmul_2 _ _) (SR n t _ "list" its.toArray k dd sl (.inl rfl))
   ⟨ho, rfl, ⟨_, ho, rfl⟩, CP4 PySem.F.slot_list_mul ⟨_, ho, rfl⟩ PySem.F.entry_list_mul (PySem.F.args_list_mul_2 _ _)
    (ZP _ its.toArray k dd sl n t (by simp [Builtin.List.listFitsIndex]; lia) (by lia) (by simp [CM8, CE1]; simp at hm; lia))
    ⟨ho, ?_⟩⟩)
 rw [ea]
 have hf := I.fresh
 have rr := Reps.rep r1 n.toNat
 exact ⟨_, .ref s.heap.objs.size, M, _, I.lnew (t' := s.toks) (Vals.rep e1 n.toNat) (by lia), Step.lay hf, m.lay hf, rfl, .lst (.inl ⟨.inl D4, m.free hf⟩) (rr.mono (Step.lay hf)), q⟩
theorem PM {n : Int} {Q : DK} (h0 : 0 ≤ n) (h1 : n ≤ 1000) (hl : ds.length ≤ 1000) (h : Q (.lst (CD7 n.toNat ds).flatten) M) : JN (.lst ds) (.int n) M Q := ⟨ds, n, rfl, rfl, h0, h1, hl, h⟩
end
section
variable {X : Cx}
def VJ : R3 := fun x y M Q => ∃ ds n, x = .tup ds ∧ y = .int n ∧ 2 ≤ n ∧ n ≤ 1000 ∧ 1 ≤ ds.length ∧ ds.length ≤ 15 ∧ Q (.tup (CD7 n.toNat ds).flatten) M
theorem AT8 : OpR3 X (CO9 .Mult) VJ := by
 rintro pins s σv H M x y xv yv v u Q I m rx ry px py ⟨ds, n, rfl, rfl, n0, n1, d0, dl, q⟩
 cases px with
 | tup h1 r1 =>
 cases py
 cases rx
 obtain ⟨t, rfl⟩ := ry
 obtain ⟨its, e1, p1, z1⟩ := I.tuple (SqT.of3 h1)
 obtain ⟨⟨cls, dd, data, sl⟩, ho, hc, k, hd⟩ := id p1
 simp only at hc hd
 subst hc hd
 have l1 := r1.length
 have l3 := e1.length
 have hz : CE1 = 16777216 := CF8
 have hlen : ∀ {α : Type} (l : List α), l.length ≤ 15 → (CD7 n.toNat l).flatten.length ≤ 15 * 1000 := fun l hl => by
  rw [List.length_flatten, CR9, CX5, Nat.mul_comm]
  exact Nat.mul_le_mul hl (by lia)
 have ea : List.foldl (fun x1 x2 => x1 ++ x2) #[] (CD7 n.toNat its.toArray) = (CD7 n.toNat its).flatten.toArray := by
  rw [listMul_foldl]; simp
 refine wpAny_binaryOp_repeat_ref (T := "tuple") (U := "int") (by decide) ⟨_, ho, rfl⟩ (fun s' => typeIs_int s' n t) GR PySem.F.fills_int_mul CS2 PO PySem.F.slot_int_index.lookup
  (CP4 CS2 (typeIs_int s n t) PySem.F.entry_int_rmul (PySem.F.args_int_rmul_2 _ _) (SR n t _ "tuple" its.toArray k dd sl (.inr rfl))
   ⟨ho, rfl, ⟨_, ho, rfl⟩, CP4 PySem.F.slot_tuple_mul ⟨_, ho, rfl⟩ PySem.F.entry_tuple_mul (PySem.F.args_tuple_mul_2 _ _)
    (WL _ its.toArray k dd sl n t (by
     cases its with
     | nil => simp only [CI5] at l3; lia
     | cons a r => rfl) n0 (by lia) (by simp; lia))
    ⟨ho, ?_⟩⟩)
 rw [ea]
 have hf := I.fresh
 have rr := Reps.rep r1 n.toNat
 have h3 := hlen _ (show _ ≤ 15 by rw [← l1]; exact dl)
 exact ⟨_, .ref s.heap.objs.size, M, _, I.laid (t' := s.toks) (o := .tup _) (fun b ob q => CD5 _ q) (CE9 _) ⟨by lia, _, Vals.rep e1 n.toNat, IsTup.new _ _⟩, Step.lay hf, m.lay hf, rfl, .tup (.inl ⟨.inl D4, m.free hf⟩) (rr.mono (Step.lay hf)), q⟩
theorem AZ7 {n : Int} {Q : DK} (h0 : 2 ≤ n) (h1 : n ≤ 1000) (hl : 1 ≤ ds.length) (hl' : ds.length ≤ 15) (h : Q (.tup (CD7 n.toNat ds).flatten) M) : VJ (.tup ds) (.int n) M Q := ⟨ds, n, rfl, rfl, h0, h1, hl, hl', h⟩
def VI : M3 := fun x xs M Q => ∃ a kds z, x = .ref a ∧ M a = some (.dct kds) ∧ xs = [.str z] ∧ Q ((F0 kds (.inr z)).getD .non) M
theorem AT5 (hu : X.A.units + 1 < cLine) : MtR3 X "dict.get" VI := by
 rintro pins s σv H M x xs xv xvs v us Q I m rv rvs px pxs ⟨a, kds, z, rfl, hm, rfl, q⟩
 obtain ⟨yv, rfl, py⟩ := NF pxs
 obtain ⟨u, rfl, ru⟩ := vals1 rvs
 cases px
 cases py
 cases rv
 obtain ⟨ho, e1, r⟩ := m _ _ hm
 cases ho <;> first | exact (r : False).elim | skip
 rename_i kvs
 have r' : RepK X.K M H kds kvs := r
 refine BD8 hu I (.inl ⟨_, .inr z, .inl e1, rfl, rfl⟩) ru fun w' s' I' rw' => ?_
 rcases r'.val (.inr z) with ⟨d', v', g1, g2, rp⟩ | ⟨g1, g2⟩
 ·rw [g2] at rw'
  rw [g1] at q
  exact ⟨_, _, M, H, I', .refl, m, rw', rp, q⟩
 ·rw [g2] at rw'
  rw [g1] at q
  exact ⟨_, _, M, H, I', .refl, m, rw', .non, q⟩
theorem AZ4 {Q : DK} (hm : M a = some (.dct kds)) (h : Q ((F0 kds (.inr z)).getD .non) M) : VI (.ref a) [.str z] M Q := ⟨a, kds, z, rfl, hm, rfl, h⟩
def AN7 : C3 := fun ds M Q => ∃ a kds, ds = [.ref a] ∧ M a = some (.dct kds) ∧ Q (.int kds.length) M
theorem AR4 : CallR3 X (.builtin "len") AN7 := by
 rintro pins s σv H M xs xvs us Q I m rv px ⟨a, kds, rfl, hm, q⟩
 match xvs, px, rv with
 | _, .cons .ref .nil, rv =>
 obtain ⟨u, rfl, ru⟩ := L2.vals1 rv
 cases ru
 obtain ⟨ho, e1, r⟩ := m _ _ hm
 cases ho <;> first | exact (r : False).elim | skip
 rename_i kvs
 have r' : RepK X.K M H kds kvs := r
 obtain ⟨z, hd, vs, rel, dd⟩ := XA I.hok e1
 have hl : vs.length = kds.length := by rw [← rel.length, r'.length]
 have hz : CE1 = 16777216 := CF8
 refine call_len_dict hd dd (by rw [hl, r'.length]; lia) ?_
 rw [hl]
 exact ⟨_, .int _, M, H, I.tok _, .refl, m, ⟨_, rfl⟩, .int, q⟩
def HP (tz : TZ3) : TE3 := fun σ M Q => tz σ M fun zs M1 => ∀ ys : List Str, ys.Nodup → (∀ z, z ∈ ys ↔ z ∈ zs) → Q (.int ys.length) M1
theorem RU {tz : TZ3} {p : Pos} (hg : Gl X "len") (hm : X.mg "len" = none) (hz : PZ3 X e tz) (he : CH7 [e] X.env = (false, eval e X.env) :: CH7 [] X.env := by rfl) : PE3 X (.Call (.Name "len" p) [e] [] pos) (HP tz) := by
 intro pins s σv H σ M Q I hS hM h
 refine CN5 (AY I hg hm D5 ?_ (by decide) (by decide))
 refine CR5 ?_ he rfl
 rw [he]
 show wpAny _ _ (spliced ((false, eval e X.env) :: CV5 pos (CH7 [] X.env))) _ _ s
 refine Calls.spliced_cons (thn (hz pins s σv H σ M _ I hS hM h) fun u s1 hx => ?_)
 obtain ⟨a, L, zs, M1, H1, rfl, I1, st1, m1, nH, _, T, mem, q⟩ := hx
 refine Calls.spliced_nil ?_
 have nd := XW T
 obtain ⟨o, es, ep, t, g1, g2, g3, g4, g5, g6, g7, g8, _⟩ := T
 have hl : es.size = L.length := by rw [← g5]; simp
 have hs : es.size < 2 ^ 63 := Nat.lt_trans g7 (by decide)
 refine call_len_set g1 g2 g3 g8 (by lia) ?_
 rw [hl]
 exact ⟨_, .int _, M1, H1, I1.tok _, st1, m1, ⟨_, rfl⟩, .int, q L nd mem⟩
theorem AZ6 {tz : TZ3} {Q : DK} (h : tz σ M fun zs M1 => ∀ ys : List Str, ys.Nodup → (∀ z, z ∈ ys ↔ z ∈ zs) → Q (.int ys.length) M1) : HP tz σ M Q := h
end
theorem UR (h : GRows K rows tbl) {w : Str} (e : tbl.lookup w = none) : CX1 (AF rows) (Sum.inr w) = none := by
 induction h with
 | nil => rfl
 | @cons s t b ys rows tbl k _ ih =>
  rw [CQ8] at e
  by_cases hw : w = s
  ·subst hw
   simp only [beq_self_eq_true] at e
   cases e
  ·have hne : (w == s) = false := by simpa using hw
   rw [hne] at e
   have := ih e
   have h2 : ¬ (Sum.inr s : Key) = Sum.inr w := fun z => hw (Sum.inr.inj z).symm
   simp only [CX1, AF, CG9, CK5, h2, decide_false] at this ⊢
   exact this
section
variable {X : Cx} {pos apos p1 : Pos} {i : Expr} {ti : TE3} {ta : TA3}
def gOf (tbl : List (Str × List Str)) (w : Str) : D := match tbl.lookup w with
 | some xs => .tup (xs.map D.str)
 | none => .non
def BN8 (tbl : List (Str × List Str)) (ta : TA3) : TE3 := fun σ M Q => ta σ M fun ds M1 => ∃ w, ds = [.str w] ∧ Q (gOf tbl w) M1
theorem AL3 (hg : Gl X x) (hm : ∃ a, X.mg x = some (.ref a) ∧ QP X.K X.w.params a tbl ∧ (a == CO4) = false) (ha : PA3 X [e] ta) (hd : (x == ("__debug__" : Str)) = false := by decide)
  (hbase : attributeBase (.Name x p1) "get" X.env (eval (.Name x p1) X.env) = eval (.Name x p1) X.env := by rfl)
  (hfew : ((CV5 pos (CH7 [e] X.env)).all (fun x => !x.1) && (backToKw pos (keywordEach [] X.env)).all (fun x => x.1.isSome)
   && decide (([e] : List Expr).length + ([] : List Keyword).length + (if ([] : List Keyword).isEmpty then 0 else 1) < 30)) = true := by rfl)
  (hline : (apos.endLine == pos.line) = true := by rfl) (hs : CH7 [e] X.env = (false, eval e X.env) :: CH7 [] X.env := by rfl) (hplain : (CV5 pos (CH7 [] X.env)).any (·.1) = false := by rfl) :
  PE3 X (.Call (.Attribute (.Name x p1) "get" apos) [e] [] pos) (BN8 tbl ta) := by
 obtain ⟨a, hm, ⟨rows, ep, hk, hn, gr⟩, hsm⟩ := hm
 intro pins s σv H σ M Q I hS hM h
 refine wpAny_Call_method_late hbase hfew hline rfl (thn (BF (d := .ref a) (v := .ref a) hg hm rfl (fun _ _ => .ref) hd pins s σv H σ M (fun d M1 => d = .ref a ∧ ta σ M1 fun ds M1 => ∃ w, ds = [.str w] ∧ Q (gOf tbl w) M1) I hS hM ⟨rfl, h⟩) fun u s1 ⟨d, v, M1, H1, I1, st1, m1, r1, p1, e1, q1⟩ => ?_)
 subst e1
 cases p1
 obtain rfl : u = Value.ref a := r1
 have dd1 : s1.heap.DictOf (D9 X.prog X.w) a (AF rows) := IV (K := X.K) (I1.kIn a _ hk) hn
 refine ⟨"dict", "dict.get", PySem.F.plainAttrs_dict, CS3, PySem.F.type_dict_get, dd1.typeIs, dd1.mapOf.noDict, ?_⟩
 have hA := ha pos pins s1 σv H1 σ M1 _ I1 (hS.mono st1) m1 q1
 rw [hs] at hA ⊢
 refine Calls.callWith_builtin (by show (false || (CV5 pos (CH7 [] X.env)).any (·.1)) = false; rw [hplain] <;> rfl) (Calls.evalArgs_plain ?_)
 refine thn hA fun us s2 ⟨ds, vs, M2, H2, I2, st2, m2, rv2, p2, w, e2, q2⟩ => ?_
 subst e2
 obtain ⟨yv, rfl, py⟩ := NF p2
 obtain ⟨u, rfl, ru⟩ := vals1 rv2
 cases py
 have dd : s2.heap.DictOf (D9 X.prog X.w) a (AF rows) := IV (K := X.K) (I2.kIn a _ hk) hn
 refine call_meetsIn CS3 dd.typeIs CW3 (CV7 _ _) (meets_dict_get (D9 X.prog X.w) a (HI (k := .inr w) ru) hsm) ⟨_, dd.mapOf, ?_⟩
 cases el : tbl.lookup w with
 | some xs =>
  obtain ⟨b, hv, kt⟩ := IX gr el
  have q3 : Q (.tup (xs.map D.str)) M2 := by unfold gOf at q2; rw [el] at q2; exact q2
  rw [hv]
  exact ⟨_, .ref b, M2, H2, I2.tok _, st1.trans st2, m2, rfl, .tup (.inr kt) (V8 xs), q3⟩
 | none =>
  have q3 : Q .non M2 := by unfold gOf at q2; rw [el] at q2; exact q2
  rw [UR gr el]
  exact ⟨_, .non, M2, H2, I2.tok _, st1.trans st2, m2, rfl, .non, q3⟩
theorem BW4 {Q : DK} (h : ta σ M fun ds M1 => ∃ w, ds = [.str w] ∧ Q (gOf tbl w) M1) : BN8 tbl ta σ M Q := h
end
end L3
namespace K09
open PySem L2 L3 PK K10
def isN (x : Str) : Prop := nm x ∧ K06.isNm (.str x) = true
mutual
def nmE : Ex → Prop
 | .none => True
 | .num _ => True
 | .var x => isN x
 | .op _ a b => nmE a ∧ nmE b
 | .make r as => isN r ∧ AJ0 as
def AJ0 : Exs → Prop
 | .nil => True
 | .cons a r => nmE a ∧ AJ0 r
end
def exN [Pool] (d : D) : Prop := ∃ e, d = eD e ∧ wf e ∧ nd e ≤ 9 ∧ dp e ≤ 4 ∧ nmE e
def AN [Pool] (kind : Str) (d : D) : Prop :=
 (kind = "name" ∧ ∃ x, d = .str x ∧ isN x) ∨ (kind = "word" ∧ ∃ w, d = .str w ∧ nm w ∧ w ≠ "any") ∨ (kind = "expression" ∧ exN d) ∨
 (kind = "catches" ∧ ∃ cs : List (Str × Str × List D), d = .tup (cs.map fun c => .tup [.str c.1, .str c.2.1, .tup c.2.2]) ∧ cs.length ≤ 3 ∧ ∀ c ∈ cs, nm c.1 ∧ isN c.2.1 ∧ c.2.2 ≠ []) ∨
 (kind = "block" ∧ ∃ b, d = .tup b ∧ b ≠ []) ∨ (kind = "rest" ∧ ∃ b, d = .tup b)
def AF2 [Pool] (d : Deed) : Prop := ∃ hd rest sh, dD d = .tup (.str hd :: rest) ∧ tblS.lookup hd = some sh ∧ rest.length = sh.length ∧ (∀ p ∈ sh.zip rest, AN p.1 p.2) ∧
 (hd = "try" → ∃ b cs q, rest = [b, .tup cs, .tup q] ∧ 0 < cs.length + q.length)
mutual
def BG3 [Pool] : Deed → Prop
 | .mk h bs => AF2 (.mk h bs) ∧ AK0 bs
def RQ [Pool] : Blk → Prop
 | .nil => True
 | .cons d r => BG3 d ∧ RQ r
def AK0 [Pool] : Bls → Prop
 | .nil => True
 | .cons b r => RQ b ∧ AK0 r
end
def AX : Head → Bool
 | .leaf h _ => h == "leave"
 | _ => false
def P2 : Head → Bool
 | .whl _ => true
 | _ => false
mutual
def gdD (lp : Bool) : Deed → Bool
 | .mk h bs => (lp || !AX h) && CY (lp || P2 h) bs
def gdB (lp : Bool) : Blk → Bool
 | .nil => true
 | .cons d r => gdD lp d && gdB lp r
def CY (lp : Bool) : Bls → Bool
 | .nil => true
 | .cons b r => gdB lp b && CY lp r
end
def S2 (d : Deed) : List D := match dD d with
 | .tup (.str hd :: rest) => pick "expression" ((tblS.lookup hd).getD []) rest
 | _ => []
def Et (t : Ex) (d : Deed) : Prop := ∃ e, eD e ∈ S2 d ∧ t ∈ trE e
def fits (kds : List (Key × D)) : Ex → Prop
 | .make r as => F0 kds (.inr r) = some (.int (exl as))
 | _ => True
def N3 (n : Nat) : Sp3 := fun ds M Q => ∃ _ : Pool, ∃ e, ∃ m : Nat, ds = [eD e, .int m] ∧ wf e ∧ nmE e ∧ dp e ≤ m ∧ 2 * m + 1 ≤ n ∧ Q (.bl true) M
def O7 (n : Nat) : Sp3 := fun ds M Q => ∃ _ : Pool, ∃ as, ∃ m : Nat, ds = [.tup (eDs as), .int m] ∧ exl as ≤ 3 ∧ wfs as ∧ AJ0 as ∧ dps as ≤ m ∧ 2 * m + 2 ≤ n ∧ Q (.bl true) M
def KG : Sp3 := fun ds M Q => ∃ _ : Pool, ∃ d, ds = [d] ∧ exN d ∧ Q (.bl true) M
def Y9 : Sp3 := fun ds M Q => ∃ xs, ds = [.tup xs] ∧ Q (.bl (!xs.isEmpty)) M
def FV : Sp3 := fun ds M Q => ∃ w x b, ds = [.tup [.str w, .str x, .tup b]] ∧ nm w ∧ isN x ∧ b ≠ [] ∧ Q (.bl true) M
def V5 : Sp3 := fun ds M Q => ∃ cs : List (Str × Str × List D), ds = [.tup (cs.map fun c => .tup [.str c.1, .str c.2.1, .tup c.2.2])] ∧ cs.length ≤ 3 ∧ (∀ c ∈ cs, nm c.1 ∧ isN c.2.1 ∧ c.2.2 ≠ []) ∧ Q (.bl true) M
def KI : Sp3 := fun ds M Q => ∃ _ : Pool, ∃ kind d, ds = [.str kind, d] ∧ AN kind d ∧ Q (.bl true) M
def KE : Sp3 := fun ds M Q => ∃ _ : Pool, ∃ d, ds = [dD d] ∧ AF2 d ∧ Q (.bl true) M
def F8 (n : Nat) : Sp3 := fun ds M Q => ∃ _ : Pool, ∃ b, ∃ m : Nat, ∃ lp a xs, ds = [.tup (dB b), .int m, .bl lp, .ref a] ∧ M a = some (.lst xs) ∧ okB b ∧ RQ b ∧ dpB b + m ≤ 5 ∧ dpB b + 1 ≤ n ∧ xs.length + P0 b ≤ 30 ∧
 ∀ ys, (gdB lp b = true → ys = xs ++ (dsB b).map dD) → Q (.bl (gdB lp b)) (C7 M a (.lst ys))
def BO : Sp3 := fun ds M Q => ∃ xs : List Str, ds = [.tup (xs.map D.str)] ∧ xs.length ≤ 3 ∧ (∀ x ∈ xs, isN x) ∧ xs.Nodup ∧ Q (.bl true) M
def AN6 (r : Rl) : Prop := isN r.name ∧ r.pars.length ≤ 3 ∧ (∀ x ∈ r.pars, isN x) ∧ r.pars.Nodup ∧ r.blk ≠ .nil ∧ P0 r.blk ≤ 30 ∧ dpB r.blk ≤ 4 ∧ ∃ _ : Pool, okB r.blk ∧ RQ r.blk ∧ Pool.ps.length ≤ 9
def J3 : Sp3 := fun ds M Q => ∃ _ : Pool, ∃ r, ds = [rD r] ∧ okB r.blk ∧ dpB r.blk ≤ 4 ∧ P0 r.blk ≤ 30 ∧ ∀ ts : List Ex, (∀ t, t ∈ ts ↔ ∃ d ∈ dsB r.blk, Et t d) → ts.length ≤ 540 → nw M (ts.map eD) Q
def KJ : Sp3 := fun ds M Q => ∃ r, ds = [rD r] ∧ AN6 r ∧ Q (.bl (gdB false r.blk)) M
def SV : Sp3 := fun ds M Q => ∃ r a kds, ds = [rD r, .ref a] ∧ M a = some (.dct kds) ∧ AN6 r ∧ (∀ z d, F0 kds (.inr z) = some d → ∃ n : Int, d = .int n) ∧ ∀ b : Bool, (b = true ↔ ∀ d ∈ dsB r.blk, ∀ t, Et t d → fits kds t) → Q (.bl b) M
def cntK (rs : List Rl) : List (Key × D) := rs.foldl (fun acc r => putD acc (.inr r.name) (.int r.pars.length)) []
def G1 : Sp3 := fun ds M Q => ∃ rs : List Rl, ds = [.tup (rs.map rD)] ∧ 1 ≤ rs.length ∧ rs.length ≤ 8 ∧ (∀ r ∈ rs, AN6 r) ∧
 ∀ b : Bool, (b = true ↔ (∀ r ∈ rs, gdB false r.blk = true) ∧ (rs.map (·.name)).Nodup ∧ ∀ r ∈ rs, ∀ d ∈ dsB r.blk, ∀ t, Et t d → fits (cntK rs) t) → Q (.bl b) M
end K09
namespace K09
open PySem L2 L3
abbrev DR : List Str := ["rule", "found", "deed", "expression"]
def AB : TS3 :=
  (A5 (B1 1 (U1 A2))
  (A5 (L5 (L7 (EQ (A6 (K10.K7 8) (A0 (A3 C1 (A1 0) (tC3 (.int 2))) A2)))) 2 (L5 (L7 (EQ (A6 K10.CK (A0 (A1 2) (A0 (tC3 (.str "expression")) A2))))) 3 (R8 (HX "list" NB (A1 1) (A0 (A6 (K10.K8 5) (A0 (A1 3) A2)) A2)))))
  (B4 (A1 1))))
theorem TJ (d0 : D) : B2 DR [d0] = [some d0, none, none, none] := rfl
abbrev GC : List Str := ["thing", "depth"]
def CN (q_is_args q_is_tree : Sp3) : TS3 :=
  (A5 (B9 (O5 (F3 (A7 (B8 F5 (A0 (A1 0) (A0 (tC3 (.ty "tuple")) A2))))) (A7 (A3 DB (B8 D3 (A0 (A1 0) A2)) (tC3 (.int 3))))) (B4 (tC3 (.bl false))) B3)
  (B4 (B8 DF (A0 (F9 (U6 (A1 0)) 1 [1] (J2 0) G6 (A6 q_is_tree (A0 (A1 0) (A0 (A1 1) A2)))) A2))))
theorem VX (d0 d1 : D) : B2 GC [d0, d1] = [some d0, some d1] := rfl
abbrev GJ : List Str := ["thing", "depth"]
def CV (q_is_args q_is_tree : Sp3) : TS3 :=
  (A5 (B9 (O5 (A7 (A3 D8 (A1 1) (tC3 (.int 0)))) (O5 (F3 (A7 (B8 F5 (A0 (A1 0) (A0 (tC3 (.ty "tuple")) A2))))) (A7 (A3 D8 (B8 D3 (A0 (A1 0) A2)) (tC3 (.int 0)))))) (B4 (tC3 (.bl false))) B3)
  (A5 (B9 (A7 (A3 D8 (A3 C1 (A1 0) (tC3 (.int 0))) (tC3 (.str "op")))) (A5 (B9 (O5 (A7 (A3 N0 (B8 D3 (A0 (A1 0) A2)) (tC3 (.int 4)))) (A7 (A3 (AB7 true) (A3 C1 (A1 0) (tC3 (.int 1))) (tC3 (.tup ((["+", "-", "*", "<", "="] : List Str).map D.str)))))) (B4 (tC3 (.bl false))) B3)
  (B4 (C9 (A6 q_is_tree (A0 (A3 C1 (A1 0) (tC3 (.int 2))) (A0 (A3 YI (A1 1) (tC3 (.int 1))) A2))) (A6 q_is_tree (A0 (A3 C1 (A1 0) (tC3 (.int 3))) (A0 (A3 YI (A1 1) (tC3 (.int 1))) A2)))))) B3)
  (A5 (B9 (A7 (A3 D8 (A3 C1 (A1 0) (tC3 (.int 0))) (tC3 (.str "make")))) (B4 (C9 (A3 D8 (B8 D3 (A0 (A1 0) A2)) (tC3 (.int 3))) (C9 (A6 K06.G2 (A0 (A3 C1 (A1 0) (tC3 (.int 1))) A2)) (A6 q_is_args (A0 (A3 C1 (A1 0) (tC3 (.int 2))) (A0 (A3 YI (A1 1) (tC3 (.int 1))) A2)))))) B3)
  (A5 (B9 (A7 (A3 D8 (A3 C1 (A1 0) (tC3 (.int 0))) (tC3 (.str "var")))) (B4 (C9 (A3 D8 (B8 D3 (A0 (A1 0) A2)) (tC3 (.int 2))) (A6 K06.G2 (A0 (A3 C1 (A1 0) (tC3 (.int 1))) A2)))) B3)
  (B4 (A6 K01.V7 (A0 (A1 0) (A0 (tC3 (.int 0)) A2))))))))
theorem WE (d0 d1 : D) : B2 GJ [d0, d1] = [some d0, some d1] := rfl
abbrev O6 : List Str := ["thing"]
def J0 : TS3 :=
  (B4 (C9 (A6 (N3 9) (A0 (A1 0) (A0 (tC3 (.int 4)) A2))) (A3 RZ (B8 D3 (A0 (A6 (K10.K8 5) (A0 (A1 0) A2)) A2)) (tC3 (.int 9)))))
theorem HD (d0 : D) : B2 O6 [d0] = [some d0] := rfl
abbrev GI : List Str := ["thing"]
def CU : TS3 :=
  (B4 (C9 (B8 F5 (A0 (A1 0) (A0 (tC3 (.ty "tuple")) A2))) (A3 DB (B8 D3 (A0 (A1 0) A2)) (tC3 (.int 0)))))
theorem WD (d0 : D) : B2 GI [d0] = [some d0] := rfl
abbrev DM : List Str := ["thing"]
def Z6 : TS3 :=
  (A5 (B9 (O5 (F3 (A7 (B8 F5 (A0 (A1 0) (A0 (tC3 (.ty "tuple")) A2))))) (A7 (A3 N0 (B8 D3 (A0 (A1 0) A2)) (tC3 (.int 3))))) (B4 (tC3 (.bl false))) B3)
  (B4 (C9 (A6 K01.J5 (A0 (A3 C1 (A1 0) (tC3 (.int 0))) A2)) (C9 (A6 K06.G2 (A0 (A3 C1 (A1 0) (tC3 (.int 1))) A2)) (A6 Y9 (A0 (A3 C1 (A1 0) (tC3 (.int 2))) A2))))))
theorem SY (d0 : D) : B2 DM [d0] = [some d0] := rfl
abbrev W4 : List Str := ["thing"]
def P8 : TS3 :=
  (A5 (B9 (O5 (F3 (A7 (B8 F5 (A0 (A1 0) (A0 (tC3 (.ty "tuple")) A2))))) (A7 (A3 DB (B8 D3 (A0 (A1 0) A2)) (tC3 (.int 3))))) (B4 (tC3 (.bl false))) B3)
  (B4 (B8 DF (A0 (F9 (U6 (A1 0)) 1 [] (J2 0) G6 (A6 FV (A0 (A1 0) A2))) A2))))
theorem LT (d0 : D) : B2 W4 [d0] = [some d0] := rfl
abbrev GG : List Str := ["kind", "part"]
def CS : TS3 :=
  (A5 (B9 (A7 (A3 D8 (A1 0) (tC3 (.str "name")))) (B4 (A6 K06.G2 (A0 (A1 1) A2))) B3)
  (A5 (B9 (A7 (A3 D8 (A1 0) (tC3 (.str "word")))) (B4 (A6 K01.V6 (A0 (A1 1) A2))) B3)
  (A5 (B9 (A7 (A3 D8 (A1 0) (tC3 (.str "expression")))) (B4 (A6 KG (A0 (A1 1) A2))) B3)
  (A5 (B9 (A7 (A3 D8 (A1 0) (tC3 (.str "catches")))) (B4 (A6 V5 (A0 (A1 1) A2))) B3)
  (A5 (B9 (A7 (A3 D8 (A1 0) (tC3 (.str "block")))) (B4 (A6 Y9 (A0 (A1 1) A2))) B3)
  (B4 (B8 F5 (A0 (A1 1) (A0 (tC3 (.ty "tuple")) A2)))))))))
theorem WB (d0 d1 : D) : B2 GG [d0, d1] = [some d0, some d1] := rfl
abbrev GE : List Str := ["thing", "shape"]
def CP : TS3 :=
  (A5 (B9 (O5 (F3 (A7 (A6 Y9 (A0 (A1 0) A2)))) (F3 (A7 (B8 F5 (A0 (A3 C1 (A1 0) (tC3 (.int 0))) (A0 (tC3 (.ty "str")) A2)))))) (B4 (tC3 (.bl false))) B3)
  (A5 (B1 1 (BN8 K10.tblS (A0 (A3 C1 (A1 0) (tC3 (.int 0))) A2)))
  (A5 (B9 (O5 (A7 (A3 BJ4 (A1 1) (tC3 .non))) (A7 (A3 N0 (B8 D3 (A0 (A1 0) A2)) (A3 C5 (B8 D3 (A0 (A1 1) A2)) (tC3 (.int 1)))))) (B4 (tC3 (.bl false))) B3)
  (A5 (B9 (F3 (A7 (B8 DF (A0 (F9 (XJ (A0 (A1 1) (A0 (O8 (A1 0) (G3 (tC3 (.int 1))) E5) A2))) 2 [] (AV [0, 1]) G6 (A6 KI (A0 (A1 0) (A0 (A1 1) A2)))) A2)))) (B4 (tC3 (.bl false))) B3)
  (B4 (NK (A3 N0 (A3 C1 (A1 0) (tC3 (.int 0))) (tC3 (.str "try"))) (A3 DB (A3 C5 (B8 D3 (A0 (A3 C1 (A1 0) (tC3 (.int 2))) A2)) (B8 D3 (A0 (A3 C1 (A1 0) (tC3 (.int 3))) A2))) (tC3 (.int 0)))))))))
theorem VZ (d0 : D) : B2 GE [d0] = [some d0, none] := rfl
abbrev DN : List Str := ["block", "depth", "looped", "counted", "deed", "inner"]
def Z7 (q_is_deeds : Sp3) : TS3 :=
  (A5 (L5 (U6 (A1 0)) 4 (A5 (R8 (HX "list" R0 (A1 3) (A0 (A1 4) A2)))
  (A5 (B9 (O5 (A7 (A3 DB (B8 D3 (A0 (A1 3) A2)) (tC3 (.int 30)))) (F3 (A7 (A6 KE (A0 (A1 4) A2))))) (B4 (tC3 (.bl false))) B3)
  (A5 (B9 (HN (A7 (A3 D8 (A3 C1 (A1 4) (tC3 (.int 0))) (tC3 (.str "leave")))) (F3 (A7 (A1 2)))) (B4 (tC3 (.bl false))) B3)
  (L5 (L7 (A6 PK.Y8 (A0 (A1 4) A2))) 5 (B9 (O5 (A7 (A3 D8 (A1 1) (tC3 (.int 5)))) (F3 (A7 (A6 q_is_deeds (A0 (A1 5) (A0 (A3 C5 (A1 1) (tC3 (.int 1))) (A0 (NK (A1 2) (A3 D8 (A3 C1 (A1 4) (tC3 (.int 0))) (tC3 (.str "while")))) (A0 (A1 3) A2)))))))) (B4 (tC3 (.bl false))) B3))))))
  (B4 (tC3 (.bl true))))
theorem TB (d0 d1 d2 d3 : D) : B2 DN [d0, d1, d2, d3] = [some d0, some d1, some d2, some d3, none, none] := rfl
abbrev AK : List Str := ["thing"]
def S6 : TS3 :=
  (A5 (B9 (O5 (F3 (A7 (B8 F5 (A0 (A1 0) (A0 (tC3 (.ty "tuple")) A2))))) (A7 (A3 DB (B8 D3 (A0 (A1 0) A2)) (tC3 (.int 3))))) (B4 (tC3 (.bl false))) B3)
  (B4 (C9 (B8 DF (A0 (F9 (U6 (A1 0)) 1 [] (J2 0) G6 (A6 K06.G2 (A0 (A1 0) A2))) A2)) (A3 D8 (HP (DI (A0 (A1 0) A2))) (B8 D3 (A0 (A1 0) A2))))))
theorem PZ (d0 : D) : B2 AK [d0] = [some d0] := rfl
abbrev GH : List Str := ["thing"]
def CT : TS3 :=
  (A5 (B9 (O5 (F3 (A7 (B8 F5 (A0 (A1 0) (A0 (tC3 (.ty "tuple")) A2))))) (A7 (A3 N0 (B8 D3 (A0 (A1 0) A2)) (tC3 (.int 3))))) (B4 (tC3 (.bl false))) B3)
  (A5 (B9 (O5 (F3 (A7 (A6 K06.G2 (A0 (A3 C1 (A1 0) (tC3 (.int 0))) A2)))) (O5 (F3 (A7 (A6 BO (A0 (A3 C1 (A1 0) (tC3 (.int 1))) A2)))) (F3 (A7 (A6 Y9 (A0 (A3 C1 (A1 0) (tC3 (.int 2))) A2)))))) (B4 (tC3 (.bl false))) B3)
  (B4 (C9 (A6 (F8 6) (A0 (A3 C1 (A1 0) (tC3 (.int 2))) (A0 (tC3 (.int 1)) (A0 (tC3 (.bl false)) (A0 (U1 A2) A2))))) (A3 RZ (B8 D3 (A0 (A6 K10.O4 (A0 (A1 0) A2)) A2)) (tC3 (.int 12)))))))
theorem WC (d0 : D) : B2 GH [d0] = [some d0] := rfl
abbrev AL : List Str := ["rule", "counts", "makes"]
def S7 : TS3 :=
  (A5 (B1 2 (F9 (L7 (EQ (A6 J3 (A0 (A1 0) A2)))) 1 [] (J2 0) (A7 (A3 D8 (A3 C1 (A1 0) (tC3 (.int 0))) (tC3 (.str "make")))) (A1 0)))
  (B4 (B8 DF (A0 (F9 (L7 (A1 2)) 3 [1] (AV [0, 1, 2]) G6 (A3 D8 (HX "dict" VI (A1 3) (A0 (A1 1) A2)) (B8 D3 (A0 (A1 2) A2)))) A2))))
theorem QC (d0 d1 : D) : B2 AL [d0, d1] = [some d0, some d1, none] := rfl
abbrev GD : List Str := ["thing", "counts"]
def CO : TS3 :=
  (A5 (B9 (O5 (F3 (A7 (B8 F5 (A0 (A1 0) (A0 (tC3 (.ty "tuple")) A2))))) (F3 (A7 (Z0 RZ RZ (tC3 (.int 1)) (B8 D3 (A0 (A1 0) A2)) (tC3 (.int 8)))))) (B4 (tC3 (.bl false))) B3)
  (A5 (B9 (F3 (A7 (B8 DF (A0 (F9 (U6 (A1 0)) 1 [] (J2 0) G6 (A6 KJ (A0 (A1 0) A2))) A2)))) (B4 (tC3 (.bl false))) B3)
  (A5 (B1 1 (II (U6 (A1 0)) 3 [] (AV [0, 1, 2]) G6 (A1 0) (B8 D3 (A0 (A1 1) A2))))
  (B4 (C9 (A3 D8 (B8 AN7 (A0 (A1 1) A2)) (B8 D3 (A0 (A1 0) A2))) (B8 DF (A0 (F9 (U6 (A1 0)) 1 [1] (J2 0) G6 (A6 SV (A0 (A1 0) (A0 (A1 1) A2)))) A2)))))))
theorem VY (d0 : D) : B2 GD [d0] = [some d0, none] := rfl
end K09
open L3
local macro_rules | `(tactic| walk_at "rd") => `(tactic| repeat (first | (with_reducible first | refine EI ?_ | refine ED ?_ | refine Y5 ?_ | refine JV ?_ | refine JZ ?_ | refine SD ?_ | refine BM ?_ | refine EJ ?_ | refine X6 ?_ | refine S3 ?_ | refine X4 ?_ | refine JS ?_ | refine BL ?_ | refine X5 ?_ | refine Y6 ?_ | refine Y2 ?_ | refine DZ ?_ | refine JW ?_ | refine EF ?_ | refine X3 ?_ | refine EG ?_ | refine Y3 ?_ | refine R1 ?_ | refine JX ?_ | refine JU ?_ | refine Y4 ?_ | refine G9 ?_ | refine BW4 ?_ | refine AZ6 ?_ | refine E3 ?_ | refine E1 ?_ | refine V0 ?_ | refine U9 ?_ | refine JO ?_ | refine VL ?_ | refine G4 ?_ | refine Y0 ?_ | refine Y1 ?_ | refine DY ?_ | refine X9 ?_ | refine R4 ?_ | refine R5 ?_ | refine EK ?_ | refine EE ?_ | refine GW ?_ | refine U7 ?_ | refine CG ?_ | refine ND ?_ | refine CD ?_ | refine CF ?_ | refine CH ?_ | refine CA ?_ | refine CB ?_ | refine X8 ?_ | refine U8 ?_ | refine V2 ?_ | refine R6 ?_ | refine V1 ?_ | refine T8 ?_ | refine HA ?_ | refine GZ ?_ | refine EB ?_ | refine HB ?_ | refine EC ?_ | refine EH ?_ | refine SE ?_ | refine YM ?_ | refine BC1 ?_ | refine JY ?_ | refine YK ?_ | refine SM ?_ | refine YQ ?_ | refine YO ?_ | refine FS ?_) | ((with_reducible show A1 _ _ _ _); refine T9 rfl ?_) | ((with_reducible show _ ∧ _); refine ⟨(by first | decide | (simp only [CE7, CI5]; decide)), ?_⟩)))
namespace K09
open PySem L2 L3 PK K10
theorem E9 {xs : List D} {Q : DK} (h : Q (.bl true) M) : F5 [.tup xs, .ty "tuple"] M Q := GY trivial (.inr (.inr (.inr (.inl rfl)))) h
theorem BK {Q : DK} (h : Q (.bl true) M) : F5 [.str z, .ty "str"] M Q := GY trivial (.inr (.inr (.inl rfl))) h
theorem AR0 : ((CH8 26).all fun k => subIn ⟨#[k + 97]⟩ K01.abc) = true := by decide +kernel
theorem AT6 (h : nm x) : K01.only x = true := by
 unfold K01.only
 rw [CF7]
 intro c hc
 have h1 := h.1 c hc
 have := CF7.mp AR0 (c - 97) (List.mem_range.mpr (by lia))
 rwa [show c - 97 + 97 = c by lia] at this
theorem AJ1 (h : nm x) : K01.isL (.str x) = true := by
 show (decide (1 ≤ x.length) && (decide (x.length ≤ 8) && K01.only x)) = true
 rw [decide_eq_true h.2.1, decide_eq_true h.2.2, AT6 h]; rfl
theorem AJ2 (h : nm x) : K01.WO (.str x) := ⟨trivial, fun w e => by cases e; exact ⟨by have := h.2.2; lia, fun c hc => by have := h.1 c hc; lia⟩⟩
theorem Q4 {Q : DK} (h : isN x) (q : Q (.bl true) M) : K06.G2 [.str x] M Q := ⟨_, rfl, AJ2 h.1, by rw [h.2]; exact q⟩
theorem NU {Q : DK} (h : nm x) (q : Q (.bl true) M) : K01.J5 [.str x] M Q := ⟨_, rfl, AJ2 h, by rw [AJ1 h]; exact q⟩
theorem YX {Q : DK} (h : nm x) (hn : x ≠ "any") (q : Q (.bl true) M) : K01.V6 [.str x] M Q := by
 refine ⟨_, rfl, AJ2 h, ?_⟩
 have : K01.BE3 (.str x) = true := by
  show (K01.isL (.str x) && !(x == "any")) = true
  rw [AJ1 h, beq_eq_false_iff_ne.mpr hn]; rfl
 rw [this]; exact q
theorem HJ : ∀ n ds M Q, O7 n ds M Q → ds.length = 2 := by rintro _ _ _ _ ⟨_, _, _, rfl, _⟩; rfl
theorem HK : ∀ n ds M Q, N3 n ds M Q → ds.length = 2 := by rintro _ _ _ _ ⟨_, _, _, rfl, _⟩; rfl
theorem QK : ∀ ds M Q, ¬ O7 0 ds M Q := by rintro _ _ _ ⟨_, _, _, _, _, _, _, _, h, _⟩; lia
theorem QL : ∀ ds M Q, ¬ N3 0 ds M Q := by rintro _ _ _ ⟨_, _, _, _, _, _, _, h, _⟩; lia
theorem IB : ∀ as : Exs, (exL as).length = exl as
 | .nil => rfl
 | .cons a r => by simp only [exL, exl, CE7, IB r]
theorem XE [Pool] : ∀ {as : Exs}, wfs as → AJ0 as → ∀ m, dps as ≤ m → ∀ e ∈ exL as, wf e ∧ nmE e ∧ dp e ≤ m
 | .nil, _, _, _, _, e, h => by simp [exL] at h
 | .cons a r, hw, hn, m, hd, e, h => by
  simp only [dps] at hd
  simp only [exL, CF9] at h
  rcases h with rfl | h
  ·exact ⟨hw.1, hn.1, by lia⟩
  ·exact XE hw.2 hn.2 m (by lia) e h
theorem VM : ∀ n ds M Q, O7 (n + 1) ds M Q → CN (O7 n) (N3 n) { nx := fun _ M' => View Q .non M', rt := View Q } (B2 GC ds) M := by
 rintro n _ M Q ⟨P, as, m, rfl, hl, hw, hn, hd, hm, q⟩
 rw [VX]
 unfold CN
 have hlen : (eDs as).length = exl as := by rw [EZ, CD8, IB]
 walk_at "rd"
 refine E9 ?_
 walk_at "rd"
 rw [hlen]
 refine A4 (decide_eq_false (by lia)) ?_
 walk_at "rd"
 rw [EZ]
 refine G7 (exL as) eD (fun _ => D.bl true) (by rw [IB, CF8]; lia) ?_ ?_
 ·intro e he M2 R F _ hR
  obtain ⟨w1, w2, w3⟩ := XE hw hn m hd e he
  walk_at "rd"
  exact ⟨P, e, m, rfl, w1, w2, w3, by lia, hR⟩
 ·have e : (exL as).map (fun _ => D.bl true) = ((exL as).map fun _ => true).map D.bl := by rw [CL5]; rfl
  rw [e]
  walk_at "rd"
  refine BJ ?_
  have e2 : ((exL as).map fun _ => true).all id = true := by rw [CF7]; intro b hb; obtain ⟨_, _, rfl⟩ := List.mem_map.mp hb; rfl
  rw [e2]
  exact View.of q
theorem UO (e : Ex) : 1 ≤ dp e := by cases e <;> simp [dp] <;> lia
theorem BN2 {s : Str} (h : sgn s) : (["+", "-", "*", "<", "="] : List Str).any (· == s) = true := by
 rcases h with rfl | rfl | rfl | rfl | rfl <;> decide +kernel
theorem UA {e : Ex} [Pool] (hw : wf e) (h : e = .none ∨ ∃ n, e = .num n) : K01.BZ1 (eD e) ∧ K01.isW (eD e) 0 = true := by
 rcases h with rfl | ⟨n, rfl⟩
 ·refine ⟨⟨trivial, fun xs ex x hx => ?_⟩, by show K01.isStr (.str "none") "none" = true; decide +kernel⟩
  simp only [eD, D.tup.injEq] at ex
  subst ex
  obtain rfl : x = .str "none" := by simpa using hx
  exact ⟨trivial, .inl (EO (by decide +kernel))⟩
 ·refine ⟨⟨trivial, fun xs ex x hx => ?_⟩, ?_⟩
  ·simp only [eD, D.tup.injEq] at ex
   subst ex
   rcases (by simpa using hx : x = .str "number" ∨ x = .int n) with rfl | rfl
   ·exact ⟨trivial, .inl (EO (by decide +kernel))⟩
   ·exact ⟨trivial, .inl GO⟩
  ·have h1 : K01.isStr (.str "number") "number" = true := by decide +kernel
   show (if K01.isStr (.str "number") "number" = true then !K01.UI n else K01.isStr (.str "number") "giver" && (decide (0 ≤ n) && decide (n < 0))) = true
   rw [if_pos h1]
   have hb : bnd n := hw
   unfold bnd PK.BS at hb
   unfold K01.UI K01.BS
   rw [decide_eq_false (by lia), decide_eq_false (by lia)]; rfl
theorem VT : ∀ n ds M Q, N3 (n + 1) ds M Q → CV (O7 n) (N3 n) { nx := fun _ M' => View Q .non M', rt := View Q } (B2 GJ ds) M := by
 rintro n _ M Q ⟨P, e, m, rfl, hw, hn, hd, hm, q⟩
 have hp := UO e
 have e0 : ((m : Int) == 0) = false := beq_eq_false_iff_ne.mpr (by lia)
 have e1 : ((m : Int) - 1) = ((m - 1 : Nat) : Int) := by lia
 rw [WE]
 unfold CV
 cases e with
 | op s a b =>
  simp only [dp] at hd
  rw [show eD (.op s a b) = .tup [.str "op", .str s, eD a, eD b] from by simp only [eD]]
  walk_at "rd"
  rw [e0]
  walk_at "rd"
  refine E9 ?_
  walk_at "rd"
  refine A4 (by rfl) ?_
  walk_at "rd"
  refine A8 (d := .str "op") rfl ?_
  walk_at "rd"
  refine B7 (by decide +kernel) ?_
  walk_at "rd"
  refine A4 (by rfl) ?_
  walk_at "rd"
  refine A8 (d := .str s) rfl ?_
  walk_at "rd"
  refine .inr ⟨s, ["+", "-", "*", "<", "="], rfl, rfl, ?_⟩
  rw [BN2 hw.1]
  refine G9 ?_
  refine A4 rfl ?_
  walk_at "rd"
  refine A8 (d := eD a) rfl ?_
  walk_at "rd"
  rw [e1]
  refine ⟨P, a, m - 1, rfl, hw.2.1, hn.1, by lia, by lia, ?_⟩
  walk_at "rd"
  refine A8 (d := eD b) rfl ?_
  walk_at "rd"
  rw [e1]
  exact ⟨P, b, m - 1, rfl, hw.2.2, hn.2, by lia, by lia, View.of q⟩
 | make r as =>
  simp only [dp] at hd
  rw [show eD (.make r as) = .tup [.str "make", .str r, .tup (eDs as)] from by simp only [eD]]
  walk_at "rd"
  rw [e0]
  walk_at "rd"
  refine E9 ?_
  walk_at "rd"
  refine A4 (by rfl) ?_
  walk_at "rd"
  refine A8 (d := .str "make") rfl ?_
  walk_at "rd"
  refine A4 (by decide +kernel) ?_
  walk_at "rd"
  refine A8 (d := .str "make") rfl ?_
  walk_at "rd"
  refine B7 (by decide +kernel) ?_
  walk_at "rd"
  refine B7 (by rfl) ?_
  walk_at "rd"
  refine A8 (d := .str r) rfl ?_
  walk_at "rd"
  refine Q4 hn.1 ?_
  walk_at "rd"
  refine A8 (d := .tup (eDs as)) rfl ?_
  walk_at "rd"
  rw [e1]
  exact ⟨P, as, m - 1, rfl, hw.2.1, hw.2.2, hn.2, by lia, by lia, View.of q⟩
 | var x =>
  rw [show eD (.var x) = .tup [.str "var", .str x] from by simp only [eD]]
  walk_at "rd"
  rw [e0]
  walk_at "rd"
  refine E9 ?_
  walk_at "rd"
  refine A4 (by rfl) ?_
  walk_at "rd"
  refine A8 (d := .str "var") rfl ?_
  walk_at "rd"
  refine A4 (by decide +kernel) ?_
  walk_at "rd"
  refine A8 (d := .str "var") rfl ?_
  walk_at "rd"
  refine A4 (by decide +kernel) ?_
  walk_at "rd"
  refine A8 (d := .str "var") rfl ?_
  walk_at "rd"
  refine B7 (by decide +kernel) ?_
  walk_at "rd"
  refine B7 (by rfl) ?_
  walk_at "rd"
  refine A8 (d := .str x) rfl ?_
  walk_at "rd"
  exact Q4 hn (View.of q)
 | none =>
  have wk := UA (e := .none) hw (.inl rfl)
  rw [show eD (.none) = .tup [.str "none"] from by simp only [eD]]
  walk_at "rd"
  rw [e0]
  walk_at "rd"
  refine E9 ?_
  walk_at "rd"
  refine A4 (by rfl) ?_
  walk_at "rd"
  refine A8 (d := .str "none") rfl ?_
  walk_at "rd"
  refine A4 (by decide +kernel) ?_
  walk_at "rd"
  refine A8 (d := .str "none") rfl ?_
  walk_at "rd"
  refine A4 (by decide +kernel) ?_
  walk_at "rd"
  refine A8 (d := .str "none") rfl ?_
  walk_at "rd"
  refine A4 (by decide +kernel) ?_
  walk_at "rd"
  exact ⟨eD .none, 0, by simp only [eD], wk.1, by rw [wk.2]; exact View.of q⟩
 | num k =>
  have wk := UA (e := .num k) hw (.inr ⟨k, rfl⟩)
  rw [show eD (.num k) = .tup [.str "number", .int k] from by simp only [eD]]
  walk_at "rd"
  rw [e0]
  walk_at "rd"
  refine E9 ?_
  walk_at "rd"
  refine A4 (by rfl) ?_
  walk_at "rd"
  refine A8 (d := .str "number") rfl ?_
  walk_at "rd"
  refine A4 (by decide +kernel) ?_
  walk_at "rd"
  refine A8 (d := .str "number") rfl ?_
  walk_at "rd"
  refine A4 (by decide +kernel) ?_
  walk_at "rd"
  refine A8 (d := .str "number") rfl ?_
  walk_at "rd"
  refine A4 (by decide +kernel) ?_
  walk_at "rd"
  exact ⟨eD (.num k), 0, by simp only [eD], wk.1, by rw [wk.2]; exact View.of q⟩
end K09
open L3
namespace K09
open PySem L2 L3 PK K10
theorem FH : ∀ ds M Q, KG ds M Q → ds.length = 1 := by rintro _ _ _ ⟨_, _, rfl, _⟩; rfl
theorem GX : ∀ ds M Q, KG ds M Q → J0 { nx := fun _ M' => View Q .non M', rt := View Q } (B2 O6 ds) M := by
 rintro _ M Q ⟨P, _, rfl, ⟨e, rfl, hw, hnd, hdp, hn⟩, q⟩
 rw [HD]
 unfold J0
 walk_at "rd"
 refine ⟨P, e, 4, rfl, hw, hn, hdp, by lia, ?_⟩
 walk_at "rd"
 refine ⟨e, rfl, by lia, hnd, fun a M' ha hm hs => ?_⟩
 have hl := AD e
 walk_at "rd"
 refine YN hm ?_
 walk_at "rd"
 rw [CD8, decide_eq_true (show ((trE e).length : Int) ≤ 9 by lia)]
 exact View.keep (fun x hx => hs x (by rintro rfl; exact hx ha)) q
theorem RI : ∀ ds M Q, Y9 ds M Q → ds.length = 1 := by rintro _ _ _ ⟨_, rfl, _⟩; rfl
theorem VS : ∀ ds M Q, Y9 ds M Q → CU { nx := fun _ M' => View Q .non M', rt := View Q } (B2 GI ds) M := by
 rintro _ M Q ⟨xs, rfl, q⟩
 rw [WD]
 unfold CU
 walk_at "rd"
 refine E9 ?_
 walk_at "rd"
 have e : decide ((0 : Int) < (xs.length : Nat)) = !xs.isEmpty := by cases xs <;> simp <;> lia
 rw [e]
 exact View.of q
theorem BU {xs : List D} {Q : DK} (h : xs ≠ []) (q : Q (.bl true) M) : Y9 [.tup xs] M Q := ⟨xs, rfl, by
 have : xs.isEmpty = false := by cases xs <;> first | exact absurd rfl h | rfl
 rw [this]; exact q⟩
theorem OL : ∀ ds M Q, FV ds M Q → ds.length = 1 := by rintro _ _ _ ⟨_, _, _, rfl, _⟩; rfl
theorem SH : ∀ ds M Q, FV ds M Q → Z6 { nx := fun _ M' => View Q .non M', rt := View Q } (B2 DM ds) M := by
 rintro _ M Q ⟨w, x, b, rfl, hw, hx, hb, q⟩
 rw [SY]
 unfold Z6
 walk_at "rd"
 refine E9 ?_
 walk_at "rd"
 refine A4 (by rfl) ?_
 walk_at "rd"
 refine A8 (d := .str w) rfl ?_
 walk_at "rd"
 refine NU hw ?_
 walk_at "rd"
 refine A8 (d := .str x) rfl ?_
 walk_at "rd"
 refine Q4 hx ?_
 walk_at "rd"
 refine A8 (d := .tup b) rfl ?_
 walk_at "rd"
 exact BU hb (View.of q)
theorem IK (l : List α) : (l.map fun _ => true).all id = true := by rw [CF7]; intro b hb; obtain ⟨_, _, rfl⟩ := List.mem_map.mp hb; rfl
theorem JE (l : List α) : l.map (fun _ => D.bl true) = (l.map fun _ => true).map D.bl := by rw [CL5]; rfl
theorem JB : ∀ ds M Q, V5 ds M Q → ds.length = 1 := by rintro _ _ _ ⟨_, rfl, _⟩; rfl
theorem LN : ∀ ds M Q, V5 ds M Q → P8 { nx := fun _ M' => View Q .non M', rt := View Q } (B2 W4 ds) M := by
 rintro _ M Q ⟨cs, rfl, hl, hc, q⟩
 rw [LT]
 unfold P8
 walk_at "rd"
 refine E9 ?_
 walk_at "rd"
 rw [CD8]
 refine A4 (decide_eq_false (by lia)) ?_
 walk_at "rd"
 refine G7 cs (fun c => D.tup [.str c.1, .str c.2.1, .tup c.2.2]) (fun _ => D.bl true) (by rw [CF8]; lia) ?_ ?_
 ·intro c hcs M2 R F _ hR
  obtain ⟨w1, w2, w3⟩ := hc c hcs
  walk_at "rd"
  exact ⟨c.1, c.2.1, c.2.2, rfl, w1, w2, w3, hR⟩
 ·rw [JE]
  walk_at "rd"
  refine BJ ?_
  rw [IK]
  exact View.of q
theorem k1 : (("word" : Str) == "name") = false ∧ (("expression" : Str) == "name") = false ∧ (("expression" : Str) == "word") = false ∧ (("catches" : Str) == "name") = false ∧ (("catches" : Str) == "word") = false ∧ (("catches" : Str) == "expression") = false := by decide +kernel
theorem k2 : (("block" : Str) == "name") = false ∧ (("block" : Str) == "word") = false ∧ (("block" : Str) == "expression") = false ∧ (("block" : Str) == "catches") = false ∧ (("rest" : Str) == "name") = false ∧ (("rest" : Str) == "word") = false ∧ (("rest" : Str) == "expression") = false ∧ (("rest" : Str) == "catches") = false ∧ (("rest" : Str) == "block") = false := by decide +kernel
theorem RG : ∀ ds M Q, KI ds M Q → ds.length = 2 := by rintro _ _ _ ⟨_, _, _, rfl, _⟩; rfl
theorem VQ : ∀ ds M Q, KI ds M Q → CS { nx := fun _ M' => View Q .non M', rt := View Q } (B2 GG ds) M := by
 rintro _ M Q ⟨P, kind, d, rfl, hk, q⟩
 obtain ⟨a1, a2, a3, a4, a5, a6⟩ := k1
 obtain ⟨b1, b2, b3, b4, b5, b6, b7, b8, b9⟩ := k2
 rw [WB]
 unfold CS
 walk_at "rd"
 rcases hk with ⟨rfl, x, rfl, hx⟩ | ⟨rfl, w, rfl, hw, hn⟩ | ⟨rfl, he⟩ | ⟨rfl, cs, rfl, hl, hc⟩ | ⟨rfl, b, rfl, hb⟩ | ⟨rfl, b, rfl⟩
 ·refine B7 (beq_self_eq_true _) ?_
  walk_at "rd"
  exact Q4 hx (View.of q)
 ·refine A4 a1 ?_
  walk_at "rd"
  refine B7 (beq_self_eq_true _) ?_
  walk_at "rd"
  exact YX hw hn (View.of q)
 ·refine A4 a2 ?_
  walk_at "rd"
  refine A4 a3 ?_
  walk_at "rd"
  refine B7 (beq_self_eq_true _) ?_
  walk_at "rd"
  exact ⟨P, d, rfl, he, View.of q⟩
 ·refine A4 a4 ?_
  walk_at "rd"
  refine A4 a5 ?_
  walk_at "rd"
  refine A4 a6 ?_
  walk_at "rd"
  refine B7 (beq_self_eq_true _) ?_
  walk_at "rd"
  exact ⟨cs, rfl, hl, hc, View.of q⟩
 ·refine A4 b1 ?_
  walk_at "rd"
  refine A4 b2 ?_
  walk_at "rd"
  refine A4 b3 ?_
  walk_at "rd"
  refine A4 b4 ?_
  walk_at "rd"
  refine B7 (beq_self_eq_true _) ?_
  walk_at "rd"
  exact BU hb (View.of q)
 ·refine A4 b5 ?_
  walk_at "rd"
  refine A4 b6 ?_
  walk_at "rd"
  refine A4 b7 ?_
  walk_at "rd"
  refine A4 b8 ?_
  walk_at "rd"
  refine A4 b9 ?_
  walk_at "rd"
  exact E9 (View.of q)
theorem UC : ∀ (xs : List Str) (ys : List D), V9 (xs.map D.str) ys = (xs.zip ys).map fun p => D.tup [.str p.1, p.2]
 | [], ys => by cases ys <;> rfl
 | x :: xs, [] => rfl
 | x :: xs, y :: ys => by
  have := UC xs ys
  simp only [CG9, CR8, V9] at this ⊢
  rw [this]
theorem RE : ∀ ds M Q, KE ds M Q → ds.length = 1 := by rintro _ _ _ ⟨_, _, rfl, _⟩; rfl
theorem BN3 : (tblS.all fun p => decide (p.2.length ≤ 10)) = true := by decide +kernel
theorem T7 {h : Str} (e : tblS.lookup h = some sh) : sh.length ≤ 10 := by
 have := CF7.mp BN3 (h, sh) (CI7 e)
 simpa using this
theorem VO : ∀ ds M Q, KE ds M Q → CP { nx := fun _ M' => View Q .non M', rt := View Q } (B2 GE ds) M := by
 rintro _ M Q ⟨P, d, rfl, ⟨hd, rest, sh, ed, look, hl, hp, ht⟩, q⟩
 rw [VZ, ed]
 unfold CP
 have hfew := T7 look
 walk_at "rd"
 refine BU (by simp) ?_
 walk_at "rd"
 refine A8 (d := .str hd) K01.at0 ?_
 walk_at "rd"
 refine BK ?_
 walk_at "rd"
 refine A8 (d := .str hd) K01.at0 ?_
 walk_at "rd"
 refine ⟨hd, rfl, ?_⟩
 have eg : gOf tblS hd = .tup (sh.map D.str) := by unfold gOf; rw [look]
 rw [eg]
 walk_at "rd"
 rw [CD8, CE7, hl]
 refine A4 (by rw [beq_iff_eq.mpr (show ((sh.length + 1 : Nat) : Int) = (sh.length : Int) + 1 by lia)]; rfl) ?_
 walk_at "rd"
 rw [BD7]
 refine ⟨_, _, rfl, ?_⟩
 rw [UC]
 refine G7 (sh.zip rest) (fun p => D.tup [.str p.1, p.2]) (fun _ => D.bl true) (by rw [List.length_zip, CF8]; lia) ?_ ?_
 ·intro p hpm M2 R F _ hR
  refine X7 (by rfl) ?_
  walk_at "rd"
  exact ⟨P, p.1, p.2, rfl, hp p hpm, hR⟩
 ·rw [JE]
  walk_at "rd"
  refine BJ ?_
  rw [IK]
  walk_at "rd"
  refine A8 (d := .str hd) K01.at0 ?_
  walk_at "rd"
  by_cases h : hd = "try"
  ·obtain ⟨b, cs, r, rfl, hpos⟩ := ht h
   refine A4 (by rw [h]; decide +kernel) ?_
   walk_at "rd"
   refine A8 (d := .tup cs) rfl ?_
   walk_at "rd"
   refine A8 (d := .tup r) rfl ?_
   walk_at "rd"
   rw [decide_eq_true (show (0 : Int) < (cs.length : Nat) + (r.length : Nat) by lia)]
   exact View.of q
  ·refine B7 (by rw [beq_eq_false_iff_ne.mpr h]; rfl) ?_
   exact View.of q
end K09
open L3
namespace K09
open PySem L2 L3 PK K10
theorem ZU {o : MO} (h : M a = some o) : C7 M a o = M := funext fun x => by
 by_cases hx : x = a
 ·subst hx; rw [B5, h]
 ·rw [C6 hx]
theorem FJ {u v : MO} : C7 (C7 M a u) a v = C7 M a v := funext fun x => by
 by_cases hx : x = a
 ·subst hx; rw [B5, B5]
 ·rw [C6 hx, C6 hx, C6 hx]
theorem YL {d : D} {hd : Str} {Q : DK} (e : d = .tup (.str hd :: rest)) (h : Q (.str hd) M) : C1 d (.int 0) M Q := by
 subst e
 exact A8 (d := .str hd) K01.at0 h
theorem OG (lp : Bool) : ∀ b : Blk, gdB lp b = (toL b).all (gdD lp)
 | .nil => by simp [gdB, toL]
 | .cons d r => by simp [gdB, toL, OG lp r]
theorem RC (lp : Bool) : ∀ b : Bls, CY lp b = (J7 b).all (gdB lp)
 | .nil => by simp [CY, J7]
 | .cons d r => by simp [CY, J7, RC lp r]
theorem BQ5 [Pool] : ∀ {b : Blk}, RQ b → ∀ d ∈ toL b, BG3 d
 | .nil, _, d, h => by simp [toL] at h
 | .cons x r, k, d, h => by
  simp only [toL, CF9] at h
  rcases h with rfl | h
  ·exact k.1
  ·exact BQ5 k.2 d h
theorem BB5 [Pool] : ∀ {b : Bls}, AK0 b → ∀ d ∈ J7 b, RQ d
 | .nil, _, d, h => by simp [J7] at h
 | .cons x r, k, d, h => by
  simp only [J7, CF9] at h
  rcases h with rfl | h
  ·exact k.1
  ·exact BB5 k.2 d h
theorem heads [Pool] {h : Head} {bs : Bls} {hd : Str} (hk : okD (.mk h bs)) (e : dD (.mk h bs) = .tup (.str hd :: rest)) : (hd == ("leave" : Str)) = AX h ∧ (hd == ("while" : Str)) = P2 h := by
 have n1 : (("if" : Str) == "leave") = false ∧ (("if" : Str) == "while") = false ∧ (("while" : Str) == "leave") = false ∧ (("try" : Str) == "leave") = false ∧ (("try" : Str) == "while") = false := by decide +kernel
 cases h with
 | leaf h r =>
  have e : D.tup (.str h :: r) = .tup (.str hd :: rest) := e
  simp only [D.tup.injEq, List.cons.injEq, D.str.injEq] at e
  obtain ⟨rfl, rfl⟩ := e
  refine ⟨rfl, ?_⟩
  show (h == "while") = false
  rcases hk.1.2 with ⟨h1, _⟩ | ⟨h1, _⟩ | ⟨h1, _⟩ | ⟨h1, _⟩ | ⟨h1, _⟩ | ⟨h1, _⟩
  ·rcases h1 with rfl | rfl | rfl <;> decide +kernel
  ·rcases h1 with rfl | rfl | rfl <;> decide +kernel
  all_goals (subst h1; decide +kernel)
 | ife d =>
  have e : D.tup (.str "if" :: d :: dTs bs) = .tup (.str hd :: rest) := e
  simp only [D.tup.injEq, List.cons.injEq, D.str.injEq] at e
  rw [← e.1]
  exact ⟨n1.1, n1.2.1⟩
 | whl d =>
  have e : D.tup (.str "while" :: d :: dTs bs) = .tup (.str hd :: rest) := e
  simp only [D.tup.injEq, List.cons.injEq, D.str.injEq] at e
  rw [← e.1]
  exact ⟨n1.2.2.1, beq_self_eq_true _⟩
 | tr cs =>
  have e : D.tup [.str "try", (dTs bs).getD 0 (.tup []), .tup (L6 cs (dTs bs).tail), (dTs bs).getD (cs.length + 1) (.tup [])] = .tup (.str hd :: rest) := e
  simp only [D.tup.injEq, List.cons.injEq, D.str.injEq] at e
  rw [← e.1]
  exact ⟨n1.2.2.2.1, n1.2.2.2.2⟩
theorem FG : ∀ n ds M Q, F8 n ds M Q → ds.length = 4 := by rintro _ _ _ _ ⟨_, _, _, _, _, _, rfl, _⟩; rfl
theorem LW : ∀ ds M Q, ¬ F8 0 ds M Q := by rintro _ _ _ ⟨_, _, _, _, _, _, _, _, _, _, _, h, _⟩; lia
theorem SI : ∀ n ds M Q, F8 (n + 1) ds M Q → Z7 (F8 n) { nx := fun _ M' => View Q .non M', rt := View Q } (B2 DN ds) M := by
 rintro lv _ M Q ⟨P, b, m, lp, a, xs, rfl, ha, hok, h9, hdp, hn, hcnt, q⟩
 rw [TB]
 unfold Z7
 have hlen := S0 b
 rw [OD] at hlen q
 have hz : CE1 = 16777216 := CF8
 have hgd := OG lp b
 have bad : ∀ ys, (∃ d ∈ toL b, gdD lp d = false) → View Q (.bl false) (C7 M a (.lst ys)) := fun ys ⟨d, h1, h2⟩ => by
  have e : gdB lp b = false := by
   rw [hgd, List.all_eq_false]
   exact ⟨d, h1, by rw [h2]; exact CE3⟩
  have := q ys (by rw [e]; intro z; cases z)
  rw [e] at this
  exact View.of this
 rw [AF0]
 walk_at "rd"
 refine ⟨fun k σ M' => (∃ s4 s5, σ = [some (.tup ((toL b).map dD)), some (.int m), some (.bl lp), some (.ref a), s4, s5]) ∧ M' = C7 M a (.lst (xs ++ (((toL b).take k).flatMap dsD).map dD)) ∧ ((toL b).take k).all (gdD lp) = true, ⟨⟨_, _, rfl⟩, ?_, rfl⟩, ?_, ?_⟩
 ·simp only [List.take_zero, List.flatMap_nil, CT3, CM4]
  exact (ZU ha).symm
 ·rintro k d0 σ M' hd0 ⟨⟨s4, s5, rfl⟩, rfl, hall⟩
  rw [CF1] at hd0
  cases hd : (toL b)[k]? with
  | none => rw [hd] at hd0; cases hd0
  | some x =>
  rw [hd] at hd0
  cases hd0
  have hxm := CF5 hd
  obtain ⟨c1, c2, c3⟩ := OR b x hxm
  have h9x := BQ5 h9 x hxm
  have e2 := take_snoc dsD hd
  have e3 := GB (toL b) (k + 1) dsD
  rw [e2, CE6] at e3
  obtain ⟨h, bs⟩ := x
  have hokd := c3 hok
  have ed : dsD (.mk h bs) = .mk h bs :: (J7 bs).flatMap dsB := by rw [dsD, OE]
  have hdD : dpD (.mk h bs) = AG bs := rfl
  rw [ed, CE7] at e3
  obtain ⟨hd', rest, sh, eh, look, hl', hp', ht'⟩ := id h9x.1
  obtain ⟨hlv, hwh⟩ := heads hokd eh
  have gx : gdD lp (.mk h bs) = ((lp || !AX h) && (J7 bs).all (gdB (lp || P2 h))) := by rw [gdD, RC]
  walk_at "rd"
  refine ⟨.inl ⟨rfl, _, B5⟩, ?_⟩
  walk_at "rd"
  refine BZ B5 (by simp only [CD8, CE6]; lia) ?_
  rw [FJ]
  walk_at "rd"
  refine YN B5 ?_
  walk_at "rd"
  refine A4 (decide_eq_false (by simp only [CD8, CE6, CE7, CI5]; lia)) ?_
  walk_at "rd"
  refine ⟨P, _, rfl, h9x.1, ?_⟩
  walk_at "rd"
  refine YL eh ?_
  walk_at "rd"
  rw [hlv]
  have inner : (lp || !AX h) = true → ∀ T : L1, (∀ s5', gdD lp (.mk h bs) = true → T.nx [some (.tup ((toL b).map dD)), some (.int m), some (.bl lp), some (.ref a), some (dD (.mk h bs)), s5'] (C7 M a (.lst (xs ++ (((toL b).take (k + 1)).flatMap dsD).map dD)))) → (∀ ys, gdD lp (.mk h bs) = false → T.rt (.bl false) (C7 M a (.lst ys))) →
    (L5 (L7 (A6 PK.Y8 (A0 (A1 4) A2))) 5 (B9 (O5 (A7 (A3 D8 (A1 1) (tC3 (.int 5)))) (F3 (A7 (A6 (F8 lv) (A0 (A1 5) (A0 (A3 C5 (A1 1) (tC3 (.int 1))) (A0 (NK (A1 2) (A3 D8 (A3 C1 (A1 4) (tC3 (.int 0))) (tC3 (.str "while")))) (A0 (A1 3) A2)))))))) (B4 (tC3 (.bl false))) B3)) T [some (.tup ((toL b).map dD)), some (.int m), some (.bl lp), some (.ref a), some (dD (.mk h bs)), s5] (C7 M a (.lst (xs ++ (((toL b).take k).flatMap dsD).map dD ++ [dD (.mk h bs)]))) := by
   intro hg T hnx hrt
   walk_at "rd"
   refine ⟨P, h, bs, rfl, hokd.1, ?_⟩
   walk_at "rd"
   rw [OA]
   refine ⟨fun j σ M' => (∃ s5, σ = [some (.tup ((toL b).map dD)), some (.int m), some (.bl lp), some (.ref a), some (dD (.mk h bs)), s5]) ∧ M' = C7 M a (.lst (xs ++ (((toL b).take k).flatMap dsD).map dD ++ (.mk h bs :: ((J7 bs).take j).flatMap dsB).map dD)) ∧ ((J7 bs).take j).all (gdB (lp || P2 h)) = true, ⟨⟨_, rfl⟩, by simp, rfl⟩, ?_, ?_⟩
   ·rintro j c0 σ M' hc0 ⟨⟨s6, rfl⟩, rfl, hall2⟩
    rw [CF1] at hc0
    cases hc : (J7 bs)[j]? with
    | none => rw [hc] at hc0; cases hc0
    | some c =>
    rw [hc] at hc0
    cases hc0
    have hcm := CF5 hc
    obtain ⟨c4, c5, c6⟩ := JF bs c hcm
    have f2 := take_snoc dsB hc
    have f3 := GB (J7 bs) (j + 1) dsB
    have f4 := S0 c
    rw [f2, CE6] at f3
    have e5 : ((m : Int) == 5) = false := beq_eq_false_iff_ne.mpr (by lia)
    have call : ∀ Qc : DK, (∀ ys, (gdB (lp || P2 h) c = true → ys = xs ++ (((toL b).take k).flatMap dsD).map dD ++ (.mk h bs :: ((J7 bs).take j).flatMap dsB).map dD ++ (dsB c).map dD) → Qc (.bl (gdB (lp || P2 h) c)) (C7 M a (.lst ys))) →
      F8 lv [tB c, .int ((m : Int) + 1), .bl (lp || P2 h), .ref a] (C7 M a (.lst (xs ++ (((toL b).take k).flatMap dsD).map dD ++ (.mk h bs :: ((J7 bs).take j).flatMap dsB).map dD))) Qc := fun Qc hq =>
     ⟨P, c, m + 1, lp || P2 h, a, _, rfl, B5, c6 hokd.2, BB5 h9x.2 c hcm, by lia, by lia, by simp only [CD8, CE6, CE7]; lia, fun ys hys => by rw [FJ]; exact hq ys hys⟩
    have tail : ∀ Qc : DK, (gdB (lp || P2 h) c = false → ∀ ys, Qc (.bl false) (C7 M a (.lst ys))) → (gdB (lp || P2 h) c = true → Qc (.bl true) (C7 M a (.lst (xs ++ (((toL b).take k).flatMap dsD).map dD ++ (.mk h bs :: ((J7 bs).take (j + 1)).flatMap dsB).map dD)))) →
      F8 lv [tB c, .int ((m : Int) + 1), .bl (lp || P2 h), .ref a] (C7 M a (.lst (xs ++ (((toL b).take k).flatMap dsD).map dD ++ (.mk h bs :: ((J7 bs).take j).flatMap dsB).map dD))) Qc := fun Qc h1 h2 => call Qc fun ys hys => by
     cases eg : gdB (lp || P2 h) c with
     | false => exact h1 eg ys
     | true =>
      have e7 := hys eg
      have e8 : ys = xs ++ (((toL b).take k).flatMap dsD).map dD ++ (.mk h bs :: ((J7 bs).take (j + 1)).flatMap dsB).map dD := by rw [e7, f2]; simp
      rw [e8]; exact h2 eg
    have bad2 : gdB (lp || P2 h) c = false → gdD lp (.mk h bs) = false := fun e => by
     rw [gx, hg, CW9, List.all_eq_false]
     exact ⟨c, hcm, by rw [e]; exact CE3⟩
    have good2 : gdB (lp || P2 h) c = true → ((J7 bs).take (j + 1)).all (gdB (lp || P2 h)) = true := fun e => by
     rw [CM1, hc, List.all_append, hall2]
     simp [e]
    walk_at "rd"
    rw [e5]
    walk_at "rd"
    have NM : ∀ (M2 : Mem) (Q2 : DK), Q2 (.bl (lp || P2 h)) M2 → if lp = true then Q2 (.bl true) M2 else (A3 D8 (A3 C1 (A1 4) (tC3 (.int 0))) (tC3 (.str "while"))) [some (.tup ((toL b).map dD)), some (.int m), some (.bl lp), some (.ref a), some (dD (.mk h bs)), some (tB c)] M2 Q2 := fun M2 Q2 q2 => by
     cases lp with
     | true => exact B7 rfl q2
     | false =>
      refine A4 rfl ?_
      walk_at "rd"
      refine YL eh ?_
      walk_at "rd"
      rw [hwh]; exact q2
    refine NM _ _ ?_
    walk_at "rd"
    refine tail _ (fun e ys => ?_) (fun e => ?_)
    ·walk_at "rd"
     exact hrt ys (bad2 e)
    ·walk_at "rd"
     exact ⟨⟨_, rfl⟩, rfl, good2 e⟩
   ·rintro σ M' ⟨⟨s6, rfl⟩, rfl, hall2⟩
    rw [CD8, CJ0] at hall2
    rw [CD8, CJ0, ← ed]
    have e9 : xs ++ (((toL b).take k).flatMap dsD).map dD ++ (dsD (.mk h bs)).map dD = xs ++ (((toL b).take (k + 1)).flatMap dsD).map dD := by rw [e2, CG3, CS6]
    rw [e9]
    exact hnx _ (by rw [gx, hg, hall2]; rfl)
  have go : (lp || !AX h) = true → ∀ T : L1, T.rt = View Q → (∀ s5', gdD lp (.mk h bs) = true → T.nx [some (.tup ((toL b).map dD)), some (.int m), some (.bl lp), some (.ref a), some (dD (.mk h bs)), s5'] (C7 M a (.lst (xs ++ (((toL b).take (k + 1)).flatMap dsD).map dD)))) → _ := fun hg T hT hnx => inner hg T hnx fun ys e => by rw [hT]; exact bad ys ⟨_, hxm, e⟩
  have nxt : ∀ s5', gdD lp (.mk h bs) = true → (∃ s4 s5, ([some (.tup ((toL b).map dD)), some (.int m), some (.bl lp), some (.ref a), some (dD (.mk h bs)), s5'] : Lo) = [some (.tup ((toL b).map dD)), some (.int m), some (.bl lp), some (.ref a), s4, s5]) ∧ C7 M a (.lst (xs ++ (((toL b).take (k + 1)).flatMap dsD).map dD)) = C7 M a (.lst (xs ++ (((toL b).take (k + 1)).flatMap dsD).map dD)) ∧ ((toL b).take (k + 1)).all (gdD lp) = true := fun s5' e => ⟨⟨_, _, rfl⟩, rfl, by
   rw [CM1, hd, List.all_append, hall]
   simp [e]⟩
  cases elv : AX h with
  | true =>
   refine E3 ?_
   walk_at "rd"
   cases lp with
   | true =>
    refine A4 rfl ?_
    exact go rfl _ rfl nxt
   | false =>
    refine B7 rfl ?_
    walk_at "rd"
    exact bad _ ⟨_, hxm, by rw [gx, elv]; rfl⟩
  | false =>
   refine E1 ?_
   exact go (by rw [elv, Bool.not_false, Bool.or_true]) _ rfl nxt
 ·rintro σ M' ⟨⟨s4, s5, rfl⟩, rfl, hall⟩
  rw [CD8, CJ0] at hall ⊢
  walk_at "rd"
  have e : gdB lp b = true := by rw [hgd]; exact hall
  have := q _ (fun _ => rfl)
  rw [e] at this
  exact View.of this
end K09
open L3
namespace K09
open PySem L2 L3 PK K10
open PyProof.Rows (sortedS)
theorem AG0 {hd : Str} {es : List Ex} (e : dD d = .tup (.str hd :: rest)) (l : tblS.lookup hd = some sh) (x1 : pick "expression" sh rest = es.map eD) (t : Ex) : Et t d ↔ ∃ e ∈ es, t ∈ trE e := by
 have hp : S2 d = es.map eD := by
  unfold S2
  rw [e]
  show pick "expression" ((tblS.lookup hd).getD []) rest = _
  rw [l]; exact x1
 unfold Et
 rw [hp]
 constructor
 ·rintro ⟨e1, h1, h2⟩
  obtain ⟨e2, h3, h4⟩ := List.mem_map.mp h1
  rw [← W8 _ _ h4] at h2
  exact ⟨e2, h3, h2⟩
 ·rintro ⟨e1, h1, h2⟩
  exact ⟨e1, CU2 h1, h2⟩
theorem AG1 [Pool] (hk : okD d) (y : Str) : Et (.var y) d ↔ Ev y d := by
 obtain ⟨hd, rest, sh, s⟩ := PV d hk
 obtain ⟨es, x1, _, _, x4⟩ := s.ex
 rw [AG0 s.eq s.look x1, ← x4 y]
 constructor
 ·rintro ⟨e, h1, h2⟩; exact ⟨e, h1, (KU y e).mp h2⟩
 ·rintro ⟨e, h1, h2⟩; exact ⟨e, h1, (KU y e).mpr h2⟩
theorem OP : ∀ ds M Q, J3 ds M Q → ds.length = 1 := by rintro _ _ _ ⟨_, _, rfl, _⟩; rfl
theorem SN : ∀ ds M Q, J3 ds M Q → AB { nx := fun _ M' => View Q .non M', rt := View Q } (B2 DR ds) M := by
 rintro _ M Q ⟨P, r, rfl, hok, hdp, hcnt, q⟩
 rw [TJ]
 unfold AB
 walk_at "rd"
 intro f hf
 walk_at "rd"
 refine A8 (d := .tup (dB r.blk)) rfl ?_
 walk_at "rd"
 refine ⟨P, r.blk, rfl, hok, by lia, by lia, JJ fun M2 k1 k2 => ?_⟩
 walk_at "rd"
 have hlen := S0 r.blk
 have hf2 : M2 f = some (.lst []) := by rw [k1 f (by rw [B5]; simp)]; exact B5
 have k3 : ∀ x, x ≠ f → M x ≠ none → M2 x = M x := fun x hx hn => by rw [k1 x (by rw [C6 hx]; exact hn), C6 hx]
 refine Q5 (dsB r.blk) dD (fnd := f) (ini := []) (fun σ => ∃ s2 s3, σ = [some (rD r), some (.ref f), s2, s3]) (fun k acc => ∃ ts : List Ex, acc = ts.map eD ∧ (∀ t, t ∈ ts ↔ ∃ d ∈ (dsB r.blk).take k, Et t d) ∧ ts.length ≤ 18 * k) ⟨_, _, rfl⟩ hf2 ⟨[], rfl, by simp, by simp⟩ ?_ ?_
 ·rintro k d acc σ' M' N hd ⟨s2, s3, rfl⟩ ⟨ts, rfl, ht1, ht2⟩ hm hs nx
  have hkl : k < (dsB r.blk).length := (List.getElem?_eq_some_iff.mp hd).1
  obtain ⟨hd', rest, sh, s⟩ := PV d (AR r.blk hok d (CF5 hd))
  obtain ⟨es, x1, x2, x3, x4⟩ := s.ex
  walk_at "rd"
  refine ⟨hd', rest, "expression", sh, by rw [s.eq], s.look, s.few, ?_⟩
  rw [x1]
  refine JJ fun M3 j1 j2 => ?_
  walk_at "rd"
  have hf3 : M3 f = some (.lst (ts.map eD)) := by rw [j1 f (by rw [hm]; simp)]; exact hm
  refine Q5 es eD (fnd := f) (ini := ts.map eD) (fun σ => ∃ s3, σ = [some (rD r), some (.ref f), some (dD d), s3]) (fun j acc => ∃ us : List Ex, acc = us.map eD ∧ (∀ t, t ∈ us ↔ (∃ d ∈ (dsB r.blk).take k, Et t d) ∨ ∃ e ∈ es.take j, t ∈ trE e) ∧ us.length ≤ 18 * k + 9 * j) ⟨_, rfl⟩ hf3 ⟨ts, rfl, by simpa using ht1, by lia⟩ ?_ ?_
  ·rintro j e acc σ2 M4 N2 he ⟨s3, rfl⟩ ⟨us, rfl, hu1, hu2⟩ hm4 hs4 nx2
   have hjl : j < es.length := (List.getElem?_eq_some_iff.mp he).1
   obtain ⟨w1, w2, w3⟩ := x3 e (CF5 he)
   have hl := AD e
   walk_at "rd"
   refine ⟨.inl ⟨rfl, _, hm4⟩, ?_⟩
   walk_at "rd"
   refine ⟨e, rfl, by lia, w2, OT hm4 (by simp only [CD8, CF8]; lia) fun M5 h3 h4 => ?_⟩
   refine nx2 _ _ M5 ⟨_, rfl⟩ ⟨us ++ trE e, by rw [CG3], fun y => ?_, by rw [CE6]; lia⟩ h3 h4
   rw [CJ1, hu1]
   constructor
   ·rintro ((h | ⟨e', h1, h2⟩) | h)
    ·exact .inl h
    ·exact .inr ⟨e', (E4 he).mpr (.inl h1), h2⟩
    ·exact .inr ⟨e, (E4 he).mpr (.inr rfl), h⟩
   ·rintro (h | ⟨e', h1, h2⟩)
    ·exact .inl (.inl h)
    ·rcases (E4 he).mp h1 with h1 | rfl
     ·exact .inl (.inr ⟨e', h1, h2⟩)
     ·exact .inr h2
  ·rintro σ2 acc M4 ⟨s3, rfl⟩ ⟨us, rfl, hu1, hu2⟩ hm4 hs4
   rw [CJ0] at hu1
   refine nx _ _ M4 ⟨_, _, rfl⟩ ⟨us, rfl, fun y => ?_, by lia⟩ hm4 fun x hx hn => by rw [hs4 x hx (by rw [j1 x hn]; exact hn), j1 x hn]
   rw [hu1, ← AG0 s.eq s.look x1 y]
   constructor
   ·rintro (⟨d', h1, h2⟩ | h)
    ·exact ⟨d', (E4 hd).mpr (.inl h1), h2⟩
    ·exact ⟨d, (E4 hd).mpr (.inr rfl), h⟩
   ·rintro ⟨d', h1, h2⟩
    rcases (E4 hd).mp h1 with h1 | rfl
    ·exact .inl ⟨d', h1, h2⟩
    ·exact .inr h2
 ·rintro σ' acc M' ⟨s2, s3, rfl⟩ ⟨ts, rfl, ht1, ht2⟩ hm hs
  rw [CJ0] at ht1
  walk_at "rd"
  exact UV (q ts ht1 (by lia)) hf hm fun x hx hn => by rw [hs x hx (by rw [k3 x hx hn]; exact hn), k3 x hx hn]
theorem WK {Q : DK} (h : K10.CL ds M Q) : J3 ds M Q := by
 obtain ⟨P, r, e, h1, h2, h3, q⟩ := h
 refine ⟨P, r, e, h1, h2, h3, fun ts ht hl => q ts (fun y => ?_) hl⟩
 rw [ht]
 constructor
 ·rintro ⟨d, hd, h⟩; exact ⟨d, hd, (AG1 (AR r.blk h1 d hd) y).mp h⟩
 ·rintro ⟨d, hd, h⟩; exact ⟨d, hd, (AG1 (AR r.blk h1 d hd) y).mpr h⟩
theorem WP {f : Addr} (F : FnOk P w K mg base CX0 k f fd ps (IP K J3)) : FnOk P w K mg base CX0 k f fd ps (IP K K10.CL) :=
 F.imp fun vs H Q E hx => by
  obtain ⟨ds, M, Q3, h1, h2, h3, h4⟩ := hx
  exact ⟨ds, M, Q3, h1, h2, WK h3, h4⟩
theorem LE : ∀ ds M Q, BO ds M Q → ds.length = 1 := by rintro _ _ _ ⟨_, rfl, _⟩; rfl
theorem PJ : ∀ ds M Q, BO ds M Q → S6 { nx := fun _ M' => View Q .non M', rt := View Q } (B2 AK ds) M := by
 rintro _ M Q ⟨xs, rfl, hl, hx, hnd, q⟩
 rw [PZ]
 unfold S6
 walk_at "rd"
 refine E9 ?_
 walk_at "rd"
 rw [CD8]
 refine A4 (decide_eq_false (by lia)) ?_
 walk_at "rd"
 refine G7 xs D.str (fun _ => D.bl true) (by rw [CF8]; lia) ?_ ?_
 ·intro x hxm M2 R F _ hR
  walk_at "rd"
  exact Q4 (hx x hxm) hR
 ·rw [JE]
  walk_at "rd"
  refine BJ ?_
  rw [IK]
  walk_at "rd"
  refine ⟨_, xs, rfl, rfl, by rw [IH]; lia, fun ys nd mem => ?_⟩
  have e1 := K10.T7 ys xs nd fun y hy => (mem y).mp hy
  have e2 := K10.T7 xs ys hnd fun y hy => (mem y).mpr hy
  walk_at "rd"
  rw [CD8, beq_iff_eq.mpr (show ((ys.length : Nat) : Int) = (xs.length : Nat) by lia)]
  exact View.of q
theorem BO1 {b : Blk} (h : b ≠ .nil) : dB b ≠ [] := by
 cases b with
 | nil => exact absurd rfl h
 | cons d r => simp [dB]
theorem RH : ∀ ds M Q, KJ ds M Q → ds.length = 1 := by rintro _ _ _ ⟨_, rfl, _⟩; rfl
theorem VR : ∀ ds M Q, KJ ds M Q → CT { nx := fun _ M' => View Q .non M', rt := View Q } (B2 GH ds) M := by
 rintro _ M Q ⟨r, rfl, ⟨h1, h2, h3, h4, h5, h6, h7, P, h8, h9, h10⟩, q⟩
 rw [WC]
 unfold CT
 rw [show rD r = .tup [.str r.name, .tup (r.pars.map D.str), .tup (dB r.blk)] from rfl]
 walk_at "rd"
 refine E9 ?_
 walk_at "rd"
 refine A4 (by rfl) ?_
 walk_at "rd"
 refine A8 (d := .str r.name) rfl ?_
 walk_at "rd"
 refine Q4 h1 ?_
 walk_at "rd"
 refine A8 (d := .tup (r.pars.map D.str)) rfl ?_
 walk_at "rd"
 refine ⟨r.pars, rfl, h2, h3, h4, ?_⟩
 walk_at "rd"
 refine A8 (d := .tup (dB r.blk)) rfl ?_
 walk_at "rd"
 refine BU (BO1 h5) ?_
 walk_at "rd"
 refine A8 (d := .tup (dB r.blk)) rfl ?_
 walk_at "rd"
 intro a ha
 walk_at "rd"
 refine ⟨P, r.blk, 1, false, a, [], rfl, B5, h8, h9, by lia, by lia, by simp only [CI5]; lia, fun ys _ => ?_⟩
 rw [FJ]
 have keep : ∀ x, M x ≠ none → C7 M a (.lst ys) x = M x := fun x hx => C6 (by rintro rfl; exact hx ha)
 refine G9 ?_
 cases eg : gdB false r.blk with
 | false =>
  rw [eg] at q
  refine E1 ?_
  exact View.keep keep q
 | true =>
  rw [eg] at q
  refine E3 ?_
  walk_at "rd"
  refine ⟨P, r, rfl, h8, h7, h6, by lia, h2, fun zs nd so mem => ?_⟩
  have e1 := K10.T7 zs Pool.ps nd fun y hy => XY h8 ((mem y).mp hy).1
  walk_at "rd"
  rw [CD8, CE6, decide_eq_true (show ((r.pars.length + zs.length : Nat) : Int) ≤ 12 by lia)]
  exact View.keep keep q
end K09
open L3
namespace K09
open PySem L2 L3 PK K10
def ZL : Ex → Bool
 | .make _ _ => true
 | _ => false
def AS1 (kds : List (Key × D)) : Ex → Bool
 | .make r as => (match F0 kds (.inr r) with | some (.int n) => n == ((exl as : Nat) : Int) | _ => false)
 | _ => true
theorem XF (kds : List (Key × D)) (t : Ex) : AS1 kds t = true ↔ fits kds t := by
 cases t with
 | make r as =>
  show (match F0 kds (.inr r) with | some (.int n) => n == ((exl as : Nat) : Int) | _ => false) = true ↔ F0 kds (.inr r) = some (.int (exl as))
  cases e : F0 kds (.inr r) with
  | none => simp
  | some d => cases d <;> simp
 | _ => exact ⟨fun _ => trivial, fun _ => rfl⟩
theorem AR9 (as : Exs) : (eDs as).length = exl as := by rw [EZ, CD8, IB]
theorem LF : ∀ ds M Q, SV ds M Q → ds.length = 2 := by rintro _ _ _ ⟨_, _, _, rfl, _⟩; rfl
theorem PL : ∀ ds M Q, SV ds M Q → S7 { nx := fun _ M' => View Q .non M', rt := View Q } (B2 AL ds) M := by
 rintro _ M Q ⟨r, a, kds, rfl, hm, ⟨h1, h2, h3, h4, h5, h6, h7, P, h8, h9, h10⟩, hty, q⟩
 rw [QC]
 unfold S7
 walk_at "rd"
 refine ⟨P, r, rfl, h8, h7, h6, fun ts ht1 ht2 => JJ fun M2 k1 k2 => ?_⟩
 walk_at "rd"
 refine DT ts eD eD ZL (by rw [CF8]; lia) ?_ ?_
 ·intro t ht M3 R F _ hR hF
  cases t with
  | none =>
   walk_at "rd"
   refine A8 (d := .str "none") rfl ?_
   walk_at "rd"
   exact A4 (by decide +kernel) (hF rfl)
  | num n =>
   walk_at "rd"
   refine A8 (d := .str "number") rfl ?_
   walk_at "rd"
   exact A4 (by decide +kernel) (hF rfl)
  | var x =>
   walk_at "rd"
   refine A8 (d := .str "var") rfl ?_
   walk_at "rd"
   exact A4 (by decide +kernel) (hF rfl)
  | op sg u v =>
   walk_at "rd"
   refine A8 (d := .str "op") rfl ?_
   walk_at "rd"
   exact A4 (by decide +kernel) (hF rfl)
  | make n as =>
   walk_at "rd"
   refine A8 (d := .str "make") rfl ?_
   walk_at "rd"
   refine B7 (by decide +kernel) ?_
   exact T9 rfl (hR rfl)
 ·walk_at "rd"
  have hm2 : M2 a = some (.dct kds) := by rw [k1 a (by rw [hm]; simp)]; exact hm
  refine G7 (ts.filter ZL) eD (fun t => D.bl (AS1 kds t)) (by have := CX9 ZL ts; rw [CF8]; lia) ?_ ?_
  ·intro t ht M3 R F hs hR
   have hm3 : M3 a = some (.dct kds) := by rw [hs a (by rw [hm2]; simp)]; exact hm2
   have hmk := (List.mem_filter.mp ht).2
   cases t with
   | make n as =>
    rw [show eD (.make n as) = .tup [.str "make", .str n, .tup (eDs as)] from by simp only [eD]]
    refine X7 (by rfl) ?_
    walk_at "rd"
    refine ⟨.inr ⟨rfl, _, hm3⟩, ?_⟩
    walk_at "rd"
    refine AZ4 hm3 ?_
    walk_at "rd"
    rw [AR9]
    have hR : R (.bl (match F0 kds (.inr n) with | some (.int k) => k == ((exl as : Nat) : Int) | _ => false)) M3 := hR
    cases e : F0 kds (.inr n) with
    | none =>
     rw [e] at hR
     exact .inl ⟨⟨rfl, rfl, by decide⟩, GO, by simpa [pyD, CN4] using hR⟩
    | some d =>
     obtain ⟨k, rfl⟩ := hty n d e
     rw [e] at hR
     exact T8 hR
   | none => cases hmk
   | num _ => cases hmk
   | var _ => cases hmk
   | op _ _ _ => cases hmk
  ·have e : (ts.filter ZL).map (fun t => D.bl (AS1 kds t)) = ((ts.filter ZL).map (AS1 kds)).map D.bl := by rw [CL5]; rfl
   rw [e]
   walk_at "rd"
   refine BJ ?_
   refine View.keep (M := M) k1 (q _ ?_)
   rw [CY1, CF7]
   constructor
   ·intro h d hd t ht
    have hts : t ∈ ts := (ht1 t).mpr ⟨d, hd, ht⟩
    cases em : ZL t with
    | true => exact (XF kds t).mp (h t (List.mem_filter.mpr ⟨hts, em⟩))
    | false => cases t <;> first | trivial | cases em
   ·intro h t ht
    obtain ⟨d, hd, h2⟩ := (ht1 t).mp (List.mem_filter.mp ht).1
    exact (XF kds t).mpr (h d hd t h2)
theorem EY (rs : List Rl) (r : Rl) : cntK (rs ++ [r]) = putD (cntK rs) (.inr r.name) (.int r.pars.length) := by
 unfold cntK; rw [List.foldl_append]; rfl
theorem BJ1 {k : Key} (d : D) (hk : k ∈ kds.map (·.1)) : (putD kds k d).map (·.1) = kds.map (·.1) := by
 unfold putD
 have h : (kds.any fun kv => decide (kv.1 = k)) = true := by
  obtain ⟨kv, h1, h2⟩ := List.mem_map.mp hk
  exact List.any_eq_true.mpr ⟨kv, h1, decide_eq_true h2⟩
 rw [if_pos h, CL5]
 refine List.map_congr_left fun kv _ => ?_
 show (if kv.1 = k then (kv.1, d) else kv).1 = kv.1
 split <;> rfl
theorem AY2 {k : Key} (d : D) (hk : k ∉ kds.map (·.1)) : (putD kds k d).map (·.1) = kds.map (·.1) ++ [k] := by
 unfold putD
 have h : ¬ (kds.any fun kv => decide (kv.1 = k)) = true := fun h => by
  obtain ⟨kv, h1, h2⟩ := List.any_eq_true.mp h
  rw [← of_decide_eq_true h2] at hk
  exact hk (CU2 h1)
 rw [if_neg h, CG3]; rfl
theorem AY3 (kds : List (Key × D)) (k : Key) (n : Int) (h : ∀ kv ∈ kds, ∃ n : Int, kv.2 = .int n) : ∀ kv ∈ putD kds k (.int n), ∃ n : Int, kv.2 = .int n := by
 intro kv hm
 unfold putD at hm
 split at hm
 ·obtain ⟨kv', h1, rfl⟩ := List.mem_map.mp hm
  split
  ·exact ⟨n, rfl⟩
  ·exact h kv' h1
 ·rcases CJ1.mp hm with hm | hm
  ·exact h kv hm
  ·obtain rfl : kv = (k, .int n) := by simpa using hm
   exact ⟨n, rfl⟩
def QN (rs : List Rl) : Prop := (∀ kv ∈ cntK rs, ∃ n : Int, kv.2 = .int n) ∧ (∀ k : Key, k ∈ (cntK rs).map (·.1) ↔ ∃ r ∈ rs, k = .inr r.name) ∧ (cntK rs).length ≤ rs.length ∧ ((cntK rs).length = rs.length ↔ (rs.map (·.name)).Nodup)
theorem AE2 (r : Rl) (ih : QN rs) : QN (rs ++ [r]) := by
 obtain ⟨i1, i2, i3, i4⟩ := ih
 have hin : (.inr r.name : Key) ∈ (cntK rs).map (·.1) ↔ r.name ∈ rs.map (·.name) := by
  rw [i2, List.mem_map]
  constructor
  ·rintro ⟨r', h1, h2⟩; exact ⟨r', h1, (Sum.inr.inj h2).symm⟩
  ·rintro ⟨r', h1, h2⟩; exact ⟨r', h1, by rw [h2]⟩
 have v := AY3 (cntK rs) (.inr r.name) r.pars.length i1
 unfold QN
 rw [EY]
 by_cases h : (.inr r.name : Key) ∈ (cntK rs).map (·.1)
 ·have hk := BJ1 (.int r.pars.length) h
  have hl : (putD (cntK rs) (.inr r.name) (.int r.pars.length)).length = (cntK rs).length := by
   have := congrArg CR2 hk
   simpa using this
  refine ⟨v, fun k => ?_, by rw [hl, CE6]; lia, ?_⟩
  ·rw [hk, i2]
   constructor
   ·rintro ⟨r', h1, h2⟩; exact ⟨r', CK8 _ h1, h2⟩
   ·rintro ⟨r', h1, h2⟩
    rcases CJ1.mp h1 with h1 | h1
    ·exact ⟨r', h1, h2⟩
    ·obtain rfl : r' = r := by simpa using h1
     rw [h2]; exact (i2 _).mp h
  ·rw [hl, CE6, CT4, CG3, List.nodup_append]
   constructor
   ·intro e; lia
   ·rintro ⟨_, _, h3⟩
    exact absurd rfl (h3 r.name (hin.mp h) r.name (by simp))
 ·have hk := AY2 (.int r.pars.length) h
  have hl : (putD (cntK rs) (.inr r.name) (.int r.pars.length)).length = (cntK rs).length + 1 := by
   have := congrArg CR2 hk
   simpa using this
  refine ⟨v, fun k => ?_, by rw [hl, CE6, CT4]; lia, ?_⟩
  ·rw [hk, CJ1, i2]
   constructor
   ·rintro (⟨r', h1, h2⟩ | h1)
    ·exact ⟨r', CK8 _ h1, h2⟩
    ·exact ⟨r, by simp, by simpa using h1⟩
   ·rintro ⟨r', h1, h2⟩
    rcases CJ1.mp h1 with h1 | h1
    ·exact .inl ⟨r', h1, h2⟩
    ·obtain rfl : r' = r := by simpa using h1
     exact .inr (by simp [h2])
  ·rw [hl, CE6, CT4, CG3, List.nodup_append]
   constructor
   ·intro e
    refine ⟨i4.mp (by lia), by simp, fun x hx y hy e2 => ?_⟩
    obtain rfl : y = r.name := by simpa using hy
    subst e2
    exact h (hin.mpr hx)
   ·rintro ⟨h1, _, _⟩
    rw [i4.mpr h1]
theorem WX : ∀ l : List Rl, QN l.reverse
 | [] => ⟨fun kv h => (nomatch h), fun k => by simp [cntK], CE9 _, by simp [cntK]⟩
 | r :: l => by rw [List.reverse_cons]; exact AE2 r (WX l)
theorem NY (rs : List Rl) : QN rs := by
 have := WX rs.reverse
 rwa [List.reverse_reverse] at this
theorem AE3 {r : Rl} (h : rs[k]? = some r) : cntK (rs.take (k + 1)) = putD (cntK (rs.take k)) (.inr r.name) (.int r.pars.length) := by
 rw [CM1, h]; exact EY _ _
theorem BA4 {d : D} (h : F0 (cntK rs) (.inr z) = some d) : ∃ n : Int, d = .int n := by
 unfold F0 at h
 cases e : (cntK rs).find? fun kv => decide (kv.1 = Sum.inr z) with
 | none => rw [e] at h; cases h
 | some kv =>
  rw [e] at h
  cases h
  exact (NY rs).1 kv (List.mem_of_find?_eq_some e)
theorem RD : ∀ ds M Q, G1 ds M Q → ds.length = 1 := by rintro _ _ _ ⟨_, rfl, _⟩; rfl
theorem AN9 {Q : DK} (h : QE ti n slots g tt tk tv (fun p _ M => Q (.ref p) M) σ M) : II ti n slots g tt tk tv σ M Q := h
theorem VN : ∀ ds M Q, G1 ds M Q → CO { nx := fun _ M' => View Q .non M', rt := View Q } (B2 GD ds) M := by
 rintro _ M Q ⟨rs, rfl, l1, l2, hr, q⟩
 have hz : CE1 = 16777216 := CF8
 rw [VY]
 unfold CO
 walk_at "rd"
 refine E9 ?_
 walk_at "rd"
 rw [CD8]
 refine B7 (decide_eq_true (by lia)) ?_
 walk_at "rd"
 refine A4 (by rw [decide_eq_true (show ((rs.length : Nat) : Int) ≤ 8 by lia)]; rfl) ?_
 walk_at "rd"
 refine G7 rs rD (fun r => D.bl (gdB false r.blk)) (by lia) ?_ ?_
 ·intro r hrm M2 R F _ hR
  walk_at "rd"
  exact ⟨r, rfl, hr r hrm, hR⟩
 ·have e : rs.map (fun r => D.bl (gdB false r.blk)) = (rs.map fun r => gdB false r.blk).map D.bl := by rw [CL5]; rfl
  rw [e]
  walk_at "rd"
  refine BJ ?_
  rw [CY1]
  refine G9 ?_
  have hall : (rs.all (id ∘ fun r => gdB false r.blk)) = true ↔ ∀ r ∈ rs, gdB false r.blk = true := by rw [CF7]; rfl
  cases ea : rs.all (id ∘ fun r => gdB false r.blk) with
  | false =>
   refine B7 rfl ?_
   walk_at "rd"
   refine View.of (q false ⟨fun h => (nomatch h), fun h => ?_⟩)
   rw [hall.mpr h.1] at ea; cases ea
  | true =>
   have hg := hall.mp ea
   refine A4 rfl ?_
   walk_at "rd"
   refine AN9 ?_
   show U6 _ _ _ _
   refine X8 (T9 rfl (R6 ?_))
   intro p hp
   refine ⟨fun k acc M' => acc = cntK (rs.take k) ∧ M' = C7 M p (.dct acc), ⟨rfl, rfl⟩, ?_, ?_⟩
   ·rintro k d0 acc M' hd0 ⟨rfl, rfl⟩
    rw [CF1] at hd0
    cases hd : rs[k]? with
    | none => rw [hd] at hd0; cases hd0
    | some r =>
    rw [hd] at hd0
    cases hd0
    refine X7 (by rfl) ?_
    walk_at "rd"
    rw [CD8]
    have hle := (NY (rs.take k)).2.2.1
    have htk : (rs.take k).length ≤ rs.length := by rw [CK9]; lia
    refine ⟨.inr r.name, rfl, B5, by lia, by rw [AE3 hd], ?_⟩
    rw [FJ]
   ·rintro acc M' ⟨rfl, rfl⟩
    rw [CD8, CJ0]
    refine ⟨B5, ?_⟩
    obtain ⟨v1, v2, v3, v4⟩ := NY rs
    walk_at "rd"
    refine ⟨p, cntK rs, rfl, B5, ?_⟩
    walk_at "rd"
    rw [CD8]
    have keep : ∀ x, M x ≠ none → C7 M p (.dct (cntK rs)) x = M x := fun x hx => C6 (by rintro rfl; exact hx hp)
    by_cases hn : (rs.map (·.name)).Nodup
    ·refine B7 (by rw [v4.mpr hn]; exact beq_self_eq_true _) ?_
     walk_at "rd"
     have key : ∀ (r : Rl), ∃ b : Bool, b = true ↔ ∀ d ∈ dsB r.blk, ∀ t, Et t d → fits (cntK rs) t := fun r => by
      by_cases h : ∀ d ∈ dsB r.blk, ∀ t, Et t d → fits (cntK rs) t
      ·exact ⟨true, fun _ => h, fun _ => rfl⟩
      ·exact ⟨false, fun z => (nomatch z), fun z => absurd z h⟩
     refine G7 rs rD (fun r => D.bl (Classical.choose (key r))) (by lia) ?_ ?_
     ·intro r hrm M2 R F hs hR
      have hm2 : M2 p = some (.dct (cntK rs)) := by rw [hs p (by rw [B5]; simp)]; exact B5
      walk_at "rd"
      refine ⟨r, p, cntK rs, rfl, hm2, hr r hrm, fun z d h => BA4 h, fun b hb => ?_⟩
      have e2 : b = Classical.choose (key r) := by
       have := Classical.choose_spec (key r)
       cases b <;> cases eb : Classical.choose (key r) <;> first | rfl | (rw [eb] at this; exact absurd (hb.mpr (this.mp rfl)) CE3) | (rw [eb] at this; exact absurd (this.mpr (hb.mp rfl)) CE3)
      rw [e2]; exact hR
     ·have e : rs.map (fun r => D.bl (Classical.choose (key r))) = (rs.map fun r => Classical.choose (key r)).map D.bl := by rw [CL5]; rfl
      rw [e]
      walk_at "rd"
      refine BJ ?_
      refine View.keep keep (q _ ?_)
      rw [CY1, CF7]
      constructor
      ·intro h
       exact ⟨hg, hn, fun r hrm => (Classical.choose_spec (key r)).mp (h r hrm)⟩
      ·rintro ⟨_, _, h⟩ r hrm
       exact (Classical.choose_spec (key r)).mpr (h r hrm)
    ·refine A4 (beq_eq_false_iff_ne.mpr fun e => hn (v4.mp (by lia))) ?_
     exact View.keep keep (q false ⟨fun h => (nomatch h), fun h => absurd h.2.1 hn⟩)
instance P9 : Pool := ⟨["x", "y"]⟩
def nt (k : Nat) : Deed := .mk (.leaf "note" [eD (.num k)]) .nil
def ofL : List Deed → Blk
 | [] => .nil
 | d :: r => .cons d (ofL r)
def ntB (n : Nat) : Blk := ofL ((CH8 n).map nt)
def F6 (d : Deed) : Blk := .cons d .nil
structure Good (d : Deed) : Prop where
 ok : okD d
 o9 : BG3 d
def AH (kds : List (Key × D)) (d : Deed) : Prop := ∀ x ∈ dsD d, ∀ t, Et t x → fits kds t
structure Up (d d' : Deed) (w : Bool) : Prop where
 good : Good d → Good d'
 cnt : G5 d' ≤ G5 d + 4
 dep : dpD d' ≤ dpD d + 1
 gd : ∀ lp, gdD lp d' = gdD (lp || w) d
 fit : ∀ kds, AH kds d' ↔ AH kds d
theorem x_name : isN "x" := ⟨by
 refine ⟨?_, by decide +kernel, by decide +kernel⟩
 unfold ltr
 decide +kernel, by decide +kernel⟩
theorem AS : nm "e" := ⟨by unfold ltr; decide +kernel, by decide +kernel, by decide +kernel⟩
theorem QR : nm "any" := ⟨by unfold ltr; decide +kernel, by decide +kernel, by decide +kernel⟩
theorem BX : exN (eD .none) := ⟨.none, rfl, trivial, by decide, by decide, trivial⟩
theorem Q8 : IT (eD .none) := ⟨.none, rfl, trivial, by decide, by decide⟩
theorem AG3 (h : k < 100) : exN (eD (.num k)) := ⟨.num k, rfl, by show bnd k; unfold bnd PK.BS; lia, by simp [nd], by simp [dp], trivial⟩
theorem K0 {d : D} (h : exN d) : IT d := let ⟨e, a, b, c, d, _⟩ := h; ⟨e, a, b, c, d⟩
theorem FL (h : k < 100) : Good (nt k) := by
 refine ⟨⟨⟨rfl, .inr (.inl ⟨.inl rfl, _, rfl, K0 (AG3 h)⟩)⟩, trivial⟩, ⟨"note", [eD (.num k)], ["expression"], rfl, by decide +kernel, rfl, ?_, fun h => absurd h (by decide +kernel)⟩, trivial⟩
 intro p hp
 obtain rfl : p = (("expression" : Str), eD (.num k)) := by simpa using hp
 exact .inr (.inr (.inl ⟨rfl, AG3 h⟩))
theorem OS {t : Ex} (h : Et t (nt k)) : t = .num k := by
 have hp : S2 (nt k) = [eD (.num k)] := by
  show pick "expression" ((tblS.lookup ("note" : Str)).getD []) [eD (.num k)] = _
  rw [show tblS.lookup ("note" : Str) = some (["expression"] : List Str) by decide +kernel]
  rfl
 obtain ⟨e, h1, h2⟩ := h
 rw [hp] at h1
 have : e = .num k := W8 _ _ (by simpa using h1)
 subst this
 simpa [trE] using h2
theorem AJ5 (kds : List (Key × D)) (k : Nat) : AH kds (nt k) := fun x hx t ht => by
 have : x = nt k := by simpa [nt, dsD, J6] using hx
 subst this
 rw [OS ht]; trivial
theorem U4 {h : Head} {bs : Bls} (own : ∀ t, Et t (.mk h bs) → fits kds t) (m1 : ∀ x ∈ J6 bs, x = nt 0 ∨ x ∈ dsD d) (m2 : ∀ x ∈ dsD d, x ∈ J6 bs) : AH kds (.mk h bs) ↔ AH kds d := by
 constructor
 ·intro f x hx t ht
  exact f x (by rw [dsD]; exact CF2 _ (m2 x hx)) t ht
 ·intro f x hx t ht
  rw [dsD] at hx
  rcases CF9.mp hx with rfl | hx
  ·exact own t ht
  ·rcases m1 x hx with rfl | hx
   ·exact AJ5 kds 0 (nt 0) (by simp [nt, dsD]) t ht
   ·exact f x hx t ht
theorem JK (h : S2 d = [eD .none]) : ∀ t, Et t d → fits kds t := by
 rintro t ⟨e, h1, h2⟩
 rw [h] at h1
 have : e = .none := W8 _ _ (by simpa using h1)
 subst this
 have : t = .none := by simpa [trE] using h2
 subst this
 trivial
theorem OZ (h : S2 d = []) : ∀ t, Et t d → fits kds t := by
 rintro t ⟨e, h1, h2⟩
 rw [h] at h1
 cases h1
theorem XM (b1 b2 : Blk) : S2 (.mk (.ife (eD .none)) (.cons b1 (.cons b2 .nil))) = [eD .none] := by
 show pick "expression" ((tblS.lookup ("if" : Str)).getD []) [eD .none, .tup (dB b1), .tup (dB b2)] = _
 rw [show tblS.lookup ("if" : Str) = some (["expression", "block", "rest"] : List Str) by decide +kernel]
 first | rfl | kernel_rfl
theorem BA6 (b1 : Blk) : S2 (.mk (.whl (eD .none)) (.cons b1 .nil)) = [eD .none] := by
 show pick "expression" ((tblS.lookup ("while" : Str)).getD []) [eD .none, .tup (dB b1)] = _
 rw [show tblS.lookup ("while" : Str) = some (["expression", "block"] : List Str) by decide +kernel]
 first | rfl | kernel_rfl
theorem QJ (cs : List (Str × Str)) (bs : Bls) : S2 (.mk (.tr cs) bs) = [] := by
 show pick "expression" ((tblS.lookup ("try" : Str)).getD []) [_, _, _] = _
 rw [show tblS.lookup ("try" : Str) = some (["block", "catches", "rest"] : List Str) by decide +kernel]
 first | rfl | kernel_rfl
theorem BB3 {b1 b2 : Blk} (h : dB b1 ≠ []) : AF2 (.mk (.ife (eD .none)) (.cons b1 (.cons b2 .nil))) := by
 refine ⟨"if", [eD .none, .tup (dB b1), .tup (dB b2)], ["expression", "block", "rest"], rfl, by decide +kernel, rfl, fun p hp => ?_, fun h => absurd h (by decide +kernel)⟩
 simp only [CR8, CU6, CF9, CG5, or_false] at hp
 rcases hp with rfl | rfl | rfl
 ·exact .inr (.inr (.inl ⟨rfl, BX⟩))
 ·exact .inr (.inr (.inr (.inr (.inl ⟨rfl, _, rfl, h⟩))))
 ·exact .inr (.inr (.inr (.inr (.inr ⟨rfl, _, rfl⟩))))
theorem BZ7 {b1 : Blk} (h : dB b1 ≠ []) : AF2 (.mk (.whl (eD .none)) (.cons b1 .nil)) := by
 refine ⟨"while", [eD .none, .tup (dB b1)], ["expression", "block"], rfl, by decide +kernel, rfl, fun p hp => ?_, fun h => absurd h (by decide +kernel)⟩
 simp only [CR8, CU6, CF9, CG5, or_false] at hp
 rcases hp with rfl | rfl
 ·exact .inr (.inr (.inl ⟨rfl, BX⟩))
 ·exact .inr (.inr (.inr (.inr (.inl ⟨rfl, _, rfl, h⟩))))
theorem AQ0 {cs : List (Str × Str)} {bs : Bls} {b0 q : List D} (k : List (Str × Str × List D)) (e0 : (dTs bs).getD 0 (.tup []) = .tup b0) (e1 : L6 cs (dTs bs).tail = k.map fun c => .tup [.str c.1, .str c.2.1, .tup c.2.2]) (e2 : (dTs bs).getD (cs.length + 1) (.tup []) = .tup q)
  (h0 : b0 ≠ []) (hk : k.length ≤ 3 ∧ ∀ c ∈ k, nm c.1 ∧ isN c.2.1 ∧ c.2.2 ≠ []) (hp : 0 < k.length + q.length) : AF2 (.mk (.tr cs) bs) := by
 refine ⟨"try", [.tup b0, .tup (k.map fun c => .tup [.str c.1, .str c.2.1, .tup c.2.2]), .tup q], ["block", "catches", "rest"], ?_, by decide +kernel, rfl, fun p hp => ?_, fun _ => ⟨_, _, q, rfl, by rw [CD8]; exact hp⟩⟩
 ·show D.tup [.str "try", (dTs bs).getD 0 (.tup []), .tup (L6 cs (dTs bs).tail), (dTs bs).getD (cs.length + 1) (.tup [])] = _
  rw [e0, e1, e2]
 ·simp only [CR8, CU6, CF9, CG5, or_false] at hp
  rcases hp with rfl | rfl | rfl
  ·exact .inr (.inr (.inr (.inr (.inl ⟨rfl, _, rfl, h0⟩))))
  ·exact .inr (.inr (.inr (.inl ⟨rfl, k, rfl, hk.1, hk.2⟩)))
  ·exact .inr (.inr (.inr (.inr (.inr ⟨rfl, _, rfl⟩))))
def fm (d : Deed) : Nat → Deed
 | 0 => .mk (.ife (eD .none)) (.cons (F6 d) (.cons .nil .nil))
 | 1 => .mk (.ife (eD .none)) (.cons (ntB 1) (.cons (F6 d) .nil))
 | 2 => .mk (.tr []) (.cons (ntB 1) (.cons (F6 d) .nil))
 | 3 => .mk (.tr [("e", "x")]) (.cons (F6 d) (.cons (ntB 1) (.cons .nil .nil)))
 | 4 => .mk (.tr [("e", "x"), ("any", "x")]) (.cons (ntB 1) (.cons (ntB 1) (.cons (F6 d) (.cons (ntB 1) .nil))))
 | _ => .mk (.whl (eD .none)) (.cons (.cons (nt 0) (F6 d)) .nil)
theorem ET : pn "x" := ⟨x_name.1, by show _ ∈ (["x", "y"] : List Str); simp⟩
theorem fm0 (d : Deed) : Up d (fm d 0) false := by
 refine ⟨fun g => ⟨⟨⟨rfl, Q8⟩, ⟨g.ok, trivial⟩, trivial, trivial⟩, BB3 (by simp [F6, dB]), ⟨g.o9, trivial⟩, trivial, trivial⟩, ?_, ?_, fun lp => ?_, fun kds => U4 (JK (XM _ _)) (fun x hx => .inr ?_) fun x hx => ?_⟩
 ·simp [fm, G5, L4, P0, F6]; lia
 ·simp [fm, dpD, AG, dpB, F6]; lia
 ·simp [fm, gdD, CY, gdB, F6, AX, P2]
 ·simpa [J6, dsB, F6] using hx
 ·simpa [J6, dsB, F6] using hx
theorem nl : ((("note" : Str)) == ("leave" : Str)) = false := by decide +kernel
theorem nt1 : ntB 1 = .cons (nt 0) .nil := rfl
theorem BB : RQ (ntB 1) := ⟨(FL (k := 0) (by decide)).o9, trivial⟩
theorem BC : okB (ntB 1) := ⟨(FL (k := 0) (by decide)).ok, trivial⟩
theorem JI : dB (ntB 1) ≠ [] := by rw [nt1]; simp [dB]
theorem AK1 (d : Deed) : dB (F6 d) ≠ [] := by simp [F6, dB]
theorem fm1 (d : Deed) : Up d (fm d 1) false := by
 refine ⟨fun g => ⟨⟨⟨rfl, Q8⟩, BC, ⟨g.ok, trivial⟩, trivial⟩, BB3 JI, BB, ⟨g.o9, trivial⟩, trivial⟩, ?_, ?_, fun lp => ?_, fun kds => U4 (JK (XM _ _)) (fun x hx => ?_) fun x hx => ?_⟩
 ·simp [fm, G5, L4, P0, F6, nt1, nt]; lia
 ·simp [fm, dpD, AG, dpB, F6, nt1, nt]; lia
 ·simp [fm, gdD, CY, gdB, F6, AX, P2, nt1, nt, nl]
 ·simpa [J6, dsB, dsD, F6, nt1, nt] using hx
 ·simp [J6, dsB, F6, hx]
theorem fm2 (d : Deed) : Up d (fm d 2) false := by
 refine ⟨fun g => ⟨⟨⟨rfl, by decide, fun c hc => nomatch hc⟩, BC, ⟨g.ok, trivial⟩, trivial⟩, AQ0 [] rfl rfl rfl JI ⟨by decide, fun c hc => nomatch hc⟩ (by simp [F6, dB]), BB, ⟨g.o9, trivial⟩, trivial⟩, ?_, ?_, fun lp => ?_, fun kds => U4 (OZ (QJ _ _)) (fun x hx => ?_) fun x hx => ?_⟩
 ·simp [fm, G5, L4, P0, F6, nt1, nt]; lia
 ·simp [fm, dpD, AG, dpB, F6, nt1, nt]; lia
 ·simp [fm, gdD, CY, gdB, F6, AX, P2, nt1, nt, nl]
 ·simpa [J6, dsB, dsD, F6, nt1, nt] using hx
 ·simp [J6, dsB, F6, hx]
theorem fm3 (d : Deed) : Up d (fm d 3) false := by
 refine ⟨fun g => ⟨⟨⟨rfl, by decide, fun c hc => ?_⟩, ⟨g.ok, trivial⟩, BC, trivial, trivial⟩, AQ0 [("e", "x", dB (ntB 1))] rfl rfl rfl (AK1 d) ⟨by decide, fun c hc => ?_⟩ (by simp; lia), ⟨g.o9, trivial⟩, BB, trivial, trivial⟩, ?_, ?_, fun lp => ?_, fun kds => U4 (OZ (QJ _ _)) (fun x hx => ?_) fun x hx => ?_⟩
 ·obtain rfl : c = (("e" : Str), ("x" : Str)) := by simpa using hc
  exact ⟨AS, ET⟩
 ·obtain rfl : c = (("e" : Str), ("x" : Str), dB (ntB 1)) := by simpa using hc
  exact ⟨AS, x_name, JI⟩
 ·simp [fm, G5, L4, P0, F6, nt1, nt]; lia
 ·simp [fm, dpD, AG, dpB, F6, nt1, nt]; lia
 ·simp [fm, gdD, CY, gdB, F6, AX, P2, nt1, nt, nl]
 ·simpa [J6, dsB, dsD, F6, nt1, nt, or_comm] using hx
 ·simp [J6, dsB, F6, hx]
theorem fm4 (d : Deed) : Up d (fm d 4) false := by
 refine ⟨fun g => ⟨⟨⟨rfl, by decide, fun c hc => ?_⟩, BC, BC, ⟨g.ok, trivial⟩, BC, trivial⟩, AQ0 [("e", "x", dB (ntB 1)), ("any", "x", dB (F6 d))] rfl rfl rfl JI ⟨by simp, fun c hc => ?_⟩ (by simp; lia), BB, BB, ⟨g.o9, trivial⟩, BB, trivial⟩, ?_, ?_, fun lp => ?_, fun kds => U4 (OZ (QJ _ _)) (fun x hx => ?_) fun x hx => ?_⟩
 ·rcases (by simpa using hc : c = (("e" : Str), ("x" : Str)) ∨ c = (("any" : Str), ("x" : Str))) with rfl | rfl
  ·exact ⟨AS, ET⟩
  ·exact ⟨QR, ET⟩
 ·rcases (by simpa using hc : c = (("e" : Str), ("x" : Str), dB (ntB 1)) ∨ c = (("any" : Str), ("x" : Str), dB (F6 d))) with rfl | rfl
  ·exact ⟨AS, x_name, JI⟩
  ·exact ⟨QR, x_name, AK1 d⟩
 ·simp [fm, G5, L4, P0, F6, nt1, nt]; lia
 ·simp [fm, dpD, AG, dpB, F6, nt1, nt]; lia
 ·simp [fm, gdD, CY, gdB, F6, AX, P2, nt1, nt, nl]
 ·simp [J6, dsB, dsD, F6, nt1, nt] at hx
  rcases hx with h | h | h <;> first | exact .inl h | exact .inr h
 ·simp [J6, dsB, F6, hx]
theorem fm5 (d : Deed) : Up d (fm d 5) true := by
 refine ⟨fun g => ⟨⟨⟨rfl, Q8⟩, ⟨(FL (k := 0) (by decide)).ok, g.ok, trivial⟩, trivial⟩, BZ7 (by simp [dB]), ⟨(FL (k := 0) (by decide)).o9, g.o9, trivial⟩, trivial⟩, ?_, ?_, fun lp => ?_, fun kds => U4 (JK (BA6 _)) (fun x hx => ?_) fun x hx => ?_⟩
 ·simp [fm, G5, L4, P0, F6, nt]; lia
 ·simp [fm, dpD, AG, dpB, F6, nt]; lia
 ·simp [fm, gdD, CY, gdB, F6, AX, P2, nt]
 ·simpa [J6, dsB, dsD, F6, nt] using hx
 ·simp [J6, dsB, F6, hx]
structure Ups (d d' : Deed) (w : Bool) (n : Nat) : Prop where
 good : Good d → Good d'
 cnt : G5 d' ≤ G5 d + 4 * n
 dep : dpD d' ≤ dpD d + n
 gd : ∀ lp, gdD lp d' = gdD (lp || w) d
 fit : ∀ kds, AH kds d' ↔ AH kds d
theorem Ups.zero (d : Deed) : Ups d d false 0 := ⟨id, CE9 _, CE9 _, fun lp => by rw [Bool.or_false], fun _ => .rfl⟩
theorem Ups.step {d' d2 : Deed} {w v : Bool} (a : Ups d d' w n) (b : Up d' d2 v) : Ups d d2 (w || v) (n + 1) :=
 ⟨fun g => b.good (a.good g), by have := a.cnt; have := b.cnt; lia, by have := a.dep; have := b.dep; lia, fun lp => by rw [b.gd, a.gd, Bool.or_assoc, Bool.or_comm v w], fun kds => (b.fit kds).trans (a.fit kds)⟩
def P1 (kds : List (Key × D)) (e : Ex) : Prop := ∀ t ∈ trE e, fits kds t
def P4 : Sp3 := fun ds M Q => ∃ n : Nat, ds = [.int n] ∧ n ≤ 10 ∧ Q (.tup (dB (ntB n))) M
def BN : Sp3 := fun ds M Q => ∃ p b d, ds = [.ref p, dD d] ∧ Pen M p b ∧ b + 1 < 2 ^ 30 ∧ ∀ d' w M', Up d d' w → Pen M' p (b + 1) → Same3 p M M' → Q (.tup [dD d', .bl w]) M'
def O2 : Sp3 := fun ds M Q => ∃ p b d, ∃ n : Nat, ds = [.ref p, dD d, .int n] ∧ n ≤ 4 ∧ Pen M p b ∧ b + 4 < 2 ^ 30 ∧ ∀ d' w M', Ups d d' w n → Pen M' p (b + 4) → Same3 p M M' → Q (.lst [dD d', .bl w]) M'
def CJ : Sp3 := fun ds M Q => ∃ p b e nm0 c, ds = [.ref p, eD e, .str nm0, .int c] ∧ (wf e ∧ nmE e ∧ nd e ≤ 4 ∧ dp e ≤ 2) ∧ isN nm0 ∧ Pen M p b ∧ b + 5 < 2 ^ 30 ∧
 ∀ e' M', wf e' → nmE e' → nd e' ≤ 9 → dp e' ≤ 4 → (∀ kds, (c = 1 → F0 kds (.inr nm0) = some (.int 1)) → (P1 kds e' ↔ P1 kds e)) → Pen M' p (b + 5) → Same3 p M M' → Q (eD e') M'
def HC : Sp3 := fun ds M Q => ∃ p b e, ds = [.ref p, eD e] ∧ (wf e ∧ nmE e ∧ nd e ≤ 9 ∧ dp e ≤ 4) ∧ Pen M p b ∧ b + 1 < 2 ^ 30 ∧
 ∀ d M', Good d → G5 d ≤ 2 → dpD d ≤ 1 → (∀ lp, gdD lp d = true) → (∀ kds, AH kds d ↔ P1 kds e) → Pen M' p (b + 1) → Same3 p M M' → Q (dD d) M'
def FX : Sp3 := fun ds M Q => ∃ p b, ds = [.ref p] ∧ Pen M p b ∧ b + 5 < 2 ^ 30 ∧ ∀ (ns : List Str) M', 1 ≤ ns.length → ns.length ≤ 8 → (∀ z ∈ ns, isN z ∧ z ≠ "nobody") → Pen M' p (b + 5) → Q (.lst (ns.map D.str)) M'
end K09
namespace K09
open PySem L2 L3
abbrev W2 : List Str := ["_law_many"]
def P6 : TS3 :=
  (B4 (B8 F2 (A0 (F9 (AW (A0 (A1 0) A2)) 1 [] (J2 0) G6 (C2 (A0 (tC3 (.str "note")) (A0 (C2 (A0 (tC3 (.str "number")) (A0 (A1 0) A2))) A2)))) A2)))
theorem LR (d0 : D) : B2 W2 [d0] = [some d0] := rfl
abbrev S9 : List Str := ["_law_pen_here", "_law_deed", "_law_one", "_law_way", "_law_some"]
def N7 : TS3 :=
  (A5 (B1 2 (A6 P4 (A0 (tC3 (.int 1)) A2)))
  (A5 (B1 3 (A6 C8 (A0 (A1 0) (A0 (tC3 (.int 8)) A2))))
  (A5 (B1 4 (D7 (A0 (C2 (A0 (tC3 (.str "if")) (A0 (C2 (A0 (tC3 (.str "none")) A2)) (A0 (C2 (A0 (A1 1) A2)) (A0 (C2 A2) A2))))) (A0 (C2 (A0 (tC3 (.str "if")) (A0 (C2 (A0 (tC3 (.str "none")) A2)) (A0 (A1 2) (A0 (C2 (A0 (A1 1) A2)) A2))))) (A0 (C2 (A0 (tC3 (.str "try")) (A0 (A1 2) (A0 (C2 A2) (A0 (C2 (A0 (A1 1) A2)) A2))))) A2)))))
  (A5 (B1 4 (A3 C5 (A1 4) (D7 (A0 (C2 (A0 (tC3 (.str "try")) (A0 (C2 (A0 (A1 1) A2)) (A0 (C2 (A0 (C2 (A0 (tC3 (.str "e")) (A0 (tC3 (.str "x")) (A0 (A1 2) A2)))) A2)) (A0 (C2 A2) A2))))) A2))))
  (A5 (B1 4 (A3 C5 (A1 4) (D7 (A0 (C2 (A0 (tC3 (.str "try")) (A0 (A1 2) (A0 (C2 (A0 (C2 (A0 (tC3 (.str "e")) (A0 (tC3 (.str "x")) (A0 (A1 2) A2)))) (A0 (C2 (A0 (tC3 (.str "any")) (A0 (tC3 (.str "x")) (A0 (C2 (A0 (A1 1) A2)) A2)))) A2))) (A0 (A1 2) A2))))) A2))))
  (B4 (C2 (A0 (A3 C1 (A3 C5 (A1 4) (A3 JN (D7 (A0 (C2 (A0 (tC3 (.str "while")) (A0 (C2 (A0 (tC3 (.str "none")) A2)) (A0 (A3 C5 (A1 2) (C2 (A0 (A1 1) A2))) A2)))) A2)) (tC3 (.int 3)))) (A1 3)) (A0 (A3 DB (A1 3) (tC3 (.int 4))) A2)))))))))
theorem KL (d0 d1 : D) : B2 S9 [d0, d1] = [some d0, some d1, none, none, none] := rfl
abbrev T4 : List Str := ["_law_pen_here", "_law_deed", "_law_many", "_law_found", "_law_k", "_law_is_while"]
def N8 : TS3 :=
  (A5 (B1 3 (tC3 (.bl false)))
  (A5 (L5 (AW (A0 (A1 2) A2)) 4 (A5 (TM (AV [1, 5]) (A6 BN (A0 (A1 0) (A0 (A1 1) A2))))
  (B1 3 (NK (A1 3) (A1 5)))))
  (B4 (D7 (A0 (A1 1) (A0 (A1 3) A2))))))
theorem KM (d0 d1 d2 : D) : B2 T4 [d0, d1, d2] = [some d0, some d1, some d2, none, none, none] := rfl
abbrev J8 : List Str := ["_law_pen_here", "_law_inner", "_law_name", "_law_count", "_law_many", "_law_k", "_law_some"]
def G0 : TS3 :=
  (A5 (B1 4 (A6 C8 (A0 (A1 0) (A0 (tC3 (.int 3)) A2))))
  (A5 (B9 (HN (A7 (A3 D8 (A1 3) (tC3 (.int 1)))) (A7 (A3 D8 (A1 4) (tC3 (.int 2))))) (A5 (B1 1 (C2 (A0 (tC3 (.str "make")) (A0 (A1 2) (A0 (C2 (A0 (A1 1) A2)) A2)))))
  (A5 (B1 4 (A6 C8 (A0 (A1 0) (A0 (tC3 (.int 2)) A2))))
  (A5 (B9 (A7 (A3 D8 (A1 4) (tC3 (.int 1)))) (B4 (C2 (A0 (tC3 (.str "op")) (A0 (tC3 (.str "=")) (A0 (C2 (A0 (tC3 (.str "none")) A2)) (A0 (A1 1) A2)))))) B3)
  (B4 (A1 1))))) B3)
  (A5 (L5 (AW (A0 (A1 4) A2)) 5 (A5 (B1 6 (D7 (A0 (C2 (A0 (tC3 (.str "op")) (A0 (tC3 (.str "+")) (A0 (A1 1) (A0 (C2 (A0 (tC3 (.str "var")) (A0 (tC3 (.str "x")) A2))) A2))))) (A0 (C2 (A0 (tC3 (.str "op")) (A0 (tC3 (.str "<")) (A0 (C2 (A0 (tC3 (.str "number")) (A0 (tC3 (.int 1)) A2))) (A0 (A1 1) A2))))) (A0 (C2 (A0 (tC3 (.str "op")) (A0 (tC3 (.str "=")) (A0 (A1 1) (A0 (A1 1) A2))))) A2)))))
  (B1 1 (A3 C1 (A1 6) (A6 C8 (A0 (A1 0) (A0 (A3 C5 (tC3 (.int 2)) (B8 YG (A0 (A3 D8 (A1 4) (tC3 (.int 1))) A2))) A2)))))))
  (B4 (A1 1)))))
theorem EN (d0 d1 d2 d3 : D) : B2 J8 [d0, d1, d2, d3] = [some d0, some d1, some d2, some d3, none, none, none] := rfl
abbrev AI : List Str := ["_law_pen_here", "_law_expression_here", "_law_one", "_law_bare", "_law_some"]
def S4 : TS3 :=
  (A5 (B1 2 (A6 P4 (A0 (tC3 (.int 1)) A2)))
  (A5 (B1 3 (C2 (A0 (tC3 (.str "none")) A2)))
  (A5 (B1 4 (D7 (A0 (C2 (A0 (tC3 (.str "let")) (A0 (tC3 (.str "x")) (A0 (A1 1) A2)))) (A0 (C2 (A0 (tC3 (.str "note")) (A0 (A1 1) A2))) (A0 (C2 (A0 (tC3 (.str "give")) (A0 (tC3 (.str "x")) (A0 (A1 1) A2)))) (A0 (C2 (A0 (tC3 (.str "on")) (A0 (tC3 (.str "x")) (A0 (A1 1) A2)))) A2))))))
  (A5 (B1 4 (A3 C5 (A1 4) (D7 (A0 (C2 (A0 (tC3 (.str "ask")) (A0 (tC3 (.str "x")) (A0 (tC3 (.str "x")) (A0 (A1 1) (A0 (A1 3) A2)))))) (A0 (C2 (A0 (tC3 (.str "ask")) (A0 (tC3 (.str "x")) (A0 (tC3 (.str "x")) (A0 (A1 3) (A0 (A1 1) A2)))))) (A0 (C2 (A0 (tC3 (.str "close")) (A0 (A1 1) A2))) A2))))))
  (A5 (B1 4 (A3 C5 (A1 4) (D7 (A0 (C2 (A0 (tC3 (.str "cast")) (A0 (tC3 (.str "x")) (A0 (tC3 (.str "x")) (A0 (A1 1) (A0 (tC3 (.str "e")) (A0 (A1 3) A2))))))) (A0 (C2 (A0 (tC3 (.str "cast")) (A0 (tC3 (.str "x")) (A0 (tC3 (.str "x")) (A0 (A1 3) (A0 (tC3 (.str "e")) (A0 (A1 1) A2))))))) A2)))))
  (A5 (B1 4 (A3 C5 (A1 4) (D7 (A0 (C2 (A0 (tC3 (.str "end")) (A0 (A1 1) A2))) (A0 (C2 (A0 (tC3 (.str "fault")) (A0 (tC3 (.str "e")) (A0 (A1 1) A2)))) (A0 (C2 (A0 (tC3 (.str "while")) (A0 (A1 1) (A0 (A1 2) A2)))) A2))))))
  (B4 (A3 C1 (A3 C5 (A1 4) (D7 (A0 (C2 (A0 (tC3 (.str "if")) (A0 (A1 1) (A0 (A1 2) (A0 (C2 A2) A2))))) A2))) (A6 C8 (A0 (A1 0) (A0 (tC3 (.int 13)) A2)))))))))))
theorem PX (d0 d1 : D) : B2 AI [d0, d1] = [some d0, some d1, none, none, none] := rfl
abbrev W0 : List Str := ["_law_pen_here", "_law_some", "_law_way"]
def P5 : TS3 :=
  (A5 (B1 1 (K9 (AW (A0 (tC3 (.int 8)) A2)) 1 [] (J2 0) G6 (A3 C5 (tC3 (.str "make")) (A3 C1 (tC3 (.str "abcdefgh")) (A1 0)))))
  (A5 (B1 2 (A6 C8 (A0 (A1 0) (A0 (tC3 (.int 4)) A2))))
  (A5 (B9 (A7 (A3 D8 (A1 2) (tC3 (.int 0)))) (B1 1 (U1 (A0 (tC3 (.str "a")) (A0 (tC3 (.str "ab")) (A0 (tC3 (.str "abc")) (A0 (tC3 (.str "ba")) (A0 (tC3 (.str "b")) (A0 (tC3 (.str "bab")) (A0 (tC3 (.str "ca")) (A0 (tC3 (.str "c")) A2)))))))))) B3)
  (A5 (B9 (A7 (A3 D8 (A1 2) (tC3 (.int 1)))) (AP5 (A1 1) (A6 C8 (A0 (A1 0) (A0 (tC3 (.int 8)) A2))) (A3 C1 (A1 1) (A6 C8 (A0 (A1 0) (A0 (tC3 (.int 8)) A2))))) B3)
  (GA 1 (B4 (O8 (A1 1) E5 (G3 (A3 C5 (tC3 (.int 1)) (A6 C8 (A0 (A1 0) (A0 (tC3 (.int 8)) A2))))))))))))
theorem LQ (d0 : D) : B2 W0 [d0] = [some d0, none, none] := rfl
abbrev AD5 : List Str := ["_law_script", "_law_pen_here", "_law_turn", "_law_names_here", "_law_counts", "_law_at", "_law_name", "_law_many", "_law_make", "_law_call", "_law_leave", "_law_is_looped", "_law_way", "_law_some", "_law_where", "_law_book", "_law_k", "_law_block", "_law_due", "_law_found"]
def YS : TS3 :=
  (A5 (B1 1 (A6 NH (A0 (A1 0) A2)))
  (A5 (L5 (AW (A0 (tC3 (.int 14)) A2)) 2 (A5 (B1 3 (A6 FX (A0 (A1 1) A2)))
  (A5 (B1 4 (F9 (L7 (A1 3)) 1 [1] (J2 0) G6 (A6 C8 (A0 (A1 1) (A0 (tC3 (.int 4)) A2)))))
  (A5 (B1 5 (A6 C8 (A0 (A1 1) (A0 (B8 D3 (A0 (A1 3) A2)) A2))))
  (A5 (B1 6 (A3 C1 (D7 (A0 (A3 C1 (A1 3) (A1 5)) (A0 (A3 C1 (A1 3) (A1 5)) (A0 (A3 C1 (A1 3) (A1 5)) (A0 (tC3 (.str "nobody")) A2))))) (A6 C8 (A0 (A1 1) (A0 (tC3 (.int 4)) A2)))))
  (A5 (B1 7 (A3 C1 (D7 (A0 (A3 C1 (A1 4) (A1 5)) (A0 (A3 C1 (A1 4) (A1 5)) (A0 (A6 C8 (A0 (A1 1) (A0 (tC3 (.int 4)) A2))) A2)))) (A6 C8 (A0 (A1 1) (A0 (tC3 (.int 3)) A2)))))
  (A5 (B1 8 (C2 (A0 (tC3 (.str "make")) (A0 (A1 6) (A0 (B8 F2 (A0 (A3 C5 (A3 JN (D7 (A0 (C2 (A0 (tC3 (.str "none")) A2)) A2)) (B8 YH (A0 (A1 7) (A0 (tC3 (.int 1)) A2)))) (A3 JN (D7 (A0 (C2 (A0 (tC3 (.str "var")) (A0 (tC3 (.str "y")) A2))) A2)) (A3 YI (A1 7) (B8 YH (A0 (A1 7) (A0 (tC3 (.int 1)) A2)))))) A2)) A2)))))
  (A5 (B9 (HN (A7 (A3 DB (A1 7) (tC3 (.int 1)))) (A7 (A3 D8 (A6 C8 (A0 (A1 1) (A0 (tC3 (.int 2)) A2))) (tC3 (.int 0))))) (B1 8 (C2 (A0 (tC3 (.str "make")) (A0 (A1 6) (A0 (A3 VJ (C2 (A0 (C2 (A0 (tC3 (.str "number")) (A0 (BN9 BW1 (tC3 (.int 1))) A2))) A2)) (A1 7)) A2))))) B3)
  (A5 (B1 9 (A3 C1 (A6 O2 (A0 (A1 1) (A0 (A6 HC (A0 (A1 1) (A0 (A6 CJ (A0 (A1 1) (A0 (A1 8) (A0 (A3 C1 (A1 3) (tC3 (.int 0))) (A0 (A3 C1 (A1 4) (tC3 (.int 0))) A2))))) A2))) (A0 (A6 C8 (A0 (A1 1) (A0 (tC3 (.int 3)) A2))) A2)))) (tC3 (.int 0))))
  (A5 (TM (XH [10, 11]) (A6 O2 (A0 (A1 1) (A0 (C2 (A0 (tC3 (.str "leave")) A2)) (A0 (A6 C8 (A0 (A1 1) (A0 (tC3 (.int 5)) A2))) A2)))))
  (A5 (B1 12 (A6 C8 (A0 (A1 1) (A0 (tC3 (.int 3)) A2))))
  (A5 (B1 13 (A3 C1 (D7 (A0 (D7 (A0 (A1 9) A2)) (A0 (D7 (A0 (A1 10) A2)) (A0 (D7 (A0 (A1 9) (A0 (A1 10) A2))) A2)))) (A1 12)))
  (A5 (B1 14 (A6 C8 (A0 (A1 1) (A0 (B8 D3 (A0 (A1 3) A2)) A2))))
  (A5 (B1 15 (U1 A2))
  (A5 (L5 (AW (A0 (B8 D3 (A0 (A1 3) A2)) A2)) 16 (A5 (B1 17 (A6 P4 (A0 (A3 C5 (tC3 (.int 1)) (A6 C8 (A0 (A1 1) (A0 (tC3 (.int 2)) A2)))) A2)))
  (A5 (B9 (A7 (A3 D8 (A1 16) (A1 14))) (B1 17 (A3 C5 (A3 C5 (O8 (A1 17) E5 (G3 (tC3 (.int 1)))) (B8 F2 (A0 (A1 13) A2))) (O8 (A1 17) (G3 (tC3 (.int 1))) E5))) B3)
  (R8 (HX "list" R0 (A1 15) (A0 (C2 (A0 (A3 C1 (A1 3) (A1 16)) (A0 (B8 F2 (A0 (O8 (D7 (A0 (tC3 (.str "pa")) (A0 (tC3 (.str "pb")) (A0 (tC3 (.str "pc")) A2)))) E5 (G3 (A3 C1 (A1 4) (A1 16)))) A2)) (A0 (A1 17) A2)))) A2))))))
  (GA 15 (A5 (B1 18 (A3 D8 (HP (DI (A0 (A1 3) A2))) (B8 D3 (A0 (A1 3) A2))))
  (A5 (B9 (A7 (A3 N0 (A1 12) (tC3 (.int 1)))) (B1 18 (C9 (A1 18) (C9 (A3 D8 (A1 6) (A3 C1 (A1 3) (A1 5))) (A3 D8 (A1 7) (A3 C1 (A1 4) (A1 5)))))) B3)
  (A5 (B9 (A7 (A3 DB (A1 12) (tC3 (.int 0)))) (B1 18 (C9 (A1 18) (A1 11))) B3)
  (A5 (B1 19 (A6 G1 (A0 (B8 F2 (A0 (A1 15) A2)) A2)))
  (B9 (O5 (F3 (A7 (B8 F5 (A0 (A1 19) (A0 (tC3 (.ty "bool")) A2))))) (A7 (A3 N0 (A1 19) (A1 18)))) (B4 (tC3 (.bl false))) B3)))))))))))))))))))))
  (B4 (tC3 (.bl true)))))
theorem BN5 (d0 : D) : B2 AD5 [d0] = [some d0, none, none, none, none, none, none, none, none, none, none, none, none, none, none, none, none, none, none, none] := rfl
end K09
open L3
namespace K09
open PySem L2 L3 PK K10
theorem IO : ∀ l : List Deed, dB (ofL l) = l.map dD
 | [] => by simp [ofL, dB]
 | d :: r => by simp [ofL, dB, IO r]
theorem CB2 (k : Nat) : dD (nt k) = .tup [.str "note", .tup [.str "number", .int k]] := by
 show D.tup (.str "note" :: [eD (.num k)]) = _
 simp only [eD]
theorem IZ : ∀ ds M Q, P4 ds M Q → ds.length = 1 := by rintro _ _ _ ⟨_, rfl, _⟩; rfl
theorem LL : ∀ ds M Q, P4 ds M Q → P6 { nx := fun _ M' => View Q .non M', rt := View Q } (B2 W2 ds) M := by
 rintro _ M Q ⟨n, rfl, hn, q⟩
 rw [LR]
 unfold P6
 walk_at "rd"
 refine ⟨by lia, by lia, ?_⟩
 walk_at "rd"
 rw [CL3]
 refine G7 (CH8 n) (fun k => D.int (k : Nat)) (fun k => dD (nt k)) (by rw [CL1, CF8]; lia) ?_ ?_
 ·intro k hk M2 R F _ hR
  walk_at "rd"
  rw [← CB2]
  exact hR
 ·walk_at "rd"
  have e : (CH8 n).map (fun k => dD (nt k)) = dB (ntB n) := by unfold ntB; rw [IO, CL5]; rfl
  rw [e]
  exact View.of q
theorem dB1 : dB (ntB 1) = [dD (nt 0)] := by rw [nt1]; simp [dB]
theorem fmD (d : Deed) : dD (fm d 0) = .tup [.str "if", .tup [.str "none"], .tup [dD d], .tup []] ∧ dD (fm d 1) = .tup [.str "if", .tup [.str "none"], .tup (dB (ntB 1)), .tup [dD d]] ∧ dD (fm d 2) = .tup [.str "try", .tup (dB (ntB 1)), .tup [], .tup [dD d]] ∧
  dD (fm d 3) = .tup [.str "try", .tup [dD d], .tup [.tup [.str "e", .str "x", .tup (dB (ntB 1))]], .tup []] ∧ dD (fm d 4) = .tup [.str "try", .tup (dB (ntB 1)), .tup [.tup [.str "e", .str "x", .tup (dB (ntB 1))], .tup [.str "any", .str "x", .tup [dD d]]], .tup (dB (ntB 1))] ∧
  dD (fm d 5) = .tup [.str "while", .tup [.str "none"], .tup (dB (ntB 1) ++ [dD d])] := by
 refine ⟨?_, ?_, ?_, ?_, ?_, ?_⟩ <;> (try rw [dB1]) <;> simp [fm, dD, MN, dTs, dB, L6, eD, F6, nt1]
theorem HR : ∀ ds M Q, BN ds M Q → ds.length = 2 := by rintro _ _ _ ⟨_, _, _, rfl, _⟩; rfl
theorem JP : ∀ ds M Q, BN ds M Q → N7 { nx := fun _ M' => View Q .non M', rt := View Q } (B2 S9 ds) M := by
 rintro _ M Q ⟨p, b, d, rfl, hP, hb, q⟩
 have hz : CE1 = 16777216 := CF8
 obtain ⟨g0, g1, g2, g3, g4, g5⟩ := fmD d
 rw [KL]
 unfold N7
 walk_at "rd"
 refine ⟨1, rfl, by decide, ?_⟩
 walk_at "rd"
 refine draw hP (by lia) (by decide) (by decide) fun way M1 w0 w1 hP1 e1 => ?_
 walk_at "rd"
 rw [← g0, ← g1, ← g2]
 refine N6 (by simp only [CE7, CI5]; lia) ?_
 walk_at "rd"
 refine N6 (by simp only [CE7, CI5, CE6]; lia) ?_
 walk_at "rd"
 refine IE (by rw [dB1]; simp only [CE7, CI5]; lia) ?_
 walk_at "rd"
 refine PM (by decide) (by decide) (by simp) ?_
 rw [← g3, ← g4, ← g5]
 refine N6 (by rw [hz]; simp [CD7, List.flatten]) ?_
 walk_at "rd"
 have hw : way = 0 ∨ way = 1 ∨ way = 2 ∨ way = 3 ∨ way = 4 ∨ way = 5 ∨ way = 6 ∨ way = 7 := by lia
 rcases hw with rfl | rfl | rfl | rfl | rfl | rfl | rfl | rfl
 ·refine E2 (d := dD (fm d 0)) rfl ?_
  walk_at "rd"
  exact View.of (q _ _ M1 (fm0 d) hP1 e1)
 ·refine E2 (d := dD (fm d 1)) rfl ?_
  walk_at "rd"
  exact View.of (q _ _ M1 (fm1 d) hP1 e1)
 ·refine E2 (d := dD (fm d 2)) rfl ?_
  walk_at "rd"
  exact View.of (q _ _ M1 (fm2 d) hP1 e1)
 ·refine E2 (d := dD (fm d 3)) rfl ?_
  walk_at "rd"
  exact View.of (q _ _ M1 (fm3 d) hP1 e1)
 ·refine E2 (d := dD (fm d 4)) rfl ?_
  walk_at "rd"
  exact View.of (q _ _ M1 (fm4 d) hP1 e1)
 all_goals
  refine E2 (d := dD (fm d 5)) rfl ?_
  walk_at "rd"
  exact View.of (q _ _ M1 (fm5 d) hP1 e1)
theorem HS : ∀ ds M Q, O2 ds M Q → ds.length = 3 := by rintro _ _ _ ⟨_, _, _, _, rfl, _⟩; rfl
theorem JQ : ∀ ds M Q, O2 ds M Q → N8 { nx := fun _ M' => View Q .non M', rt := View Q } (B2 T4 ds) M := by
 rintro _ M Q ⟨p, b, d, n, rfl, hn, hP, hb, q⟩
 rw [KM]
 unfold N8
 walk_at "rd"
 refine ⟨by lia, by lia, ?_⟩
 walk_at "rd"
 rw [CL3]
 refine ⟨fun k σ M' => (∃ d' w s4 s5, σ = [some (.ref p), some (dD d'), some (.int n), some (.bl w), s4, s5] ∧ Ups d d' w k) ∧ Pen M' p (b + k) ∧ Same3 p M M', ⟨⟨d, false, none, none, rfl, Ups.zero d⟩, hP, fun x _ => rfl⟩, ?_, ?_⟩
 ·rintro k d0 σ M' hk ⟨⟨d', w, s4, s5, rfl, u⟩, hP', hs⟩
  have hkn : k < n := by
   have h := (List.getElem?_eq_some_iff.mp hk).1
   simpa using h
  walk_at "rd"
  refine ⟨p, _, d', rfl, hP', by lia, fun d2 v M2 u2 hP2 hs2 => ?_⟩
  walk_at "rd"
  refine X7 (by rfl) ?_
  walk_at "rd"
  cases w with
  | true =>
   refine B7 rfl ?_
   exact ⟨⟨d2, true, _, _, rfl, u.step u2⟩, by rw [← Nat.add_assoc]; exact hP2, hs.trans hs2⟩
  | false =>
   refine A4 rfl ?_
   walk_at "rd"
   exact ⟨⟨d2, v, _, _, rfl, u.step u2⟩, by rw [← Nat.add_assoc]; exact hP2, hs.trans hs2⟩
 ·rintro σ M' ⟨⟨d', w, s4, s5, rfl, u⟩, hP', hs⟩
  simp only [CD8, CL1] at u hP'
  walk_at "rd"
  exact View.of (q d' w M' u (F7 hP' (by lia)) hs)
end K09
open L3
namespace K09
open PySem L2 L3 PK K10
structure Wd (e : Ex) (d : Deed) : Prop where
 good : Good d
 cnt : G5 d ≤ 2
 dep : dpD d ≤ 1
 gd : ∀ lp, gdD lp d = true
 fit : ∀ kds, AH kds d ↔ P1 kds e
theorem OF {e : Ex} (hp : S2 d = l) (h1 : ∀ x ∈ l, x = eD e ∨ x = eD .none) (h2 : eD e ∈ l) (kds : List (Key × D)) : (∀ t, Et t d → fits kds t) ↔ P1 kds e := by
 constructor
 ·intro f t ht
  exact f t ⟨e, by rw [hp]; exact h2, ht⟩
 ·rintro f t ⟨e', m, ht⟩
  rw [hp] at m
  rcases h1 _ m with h | h
  ·rw [W8 _ _ h] at ht; exact f t ht
  ·rw [W8 _ _ h] at ht
   have : t = .none := by simpa [trE] using ht
   subst this; trivial
theorem L0 {e : Ex} {h : Str} (hl : NO h r) (look : tblS.lookup h = some sh) (len : r.length = sh.length) (parts : ∀ p ∈ sh.zip r, AN p.1 p.2) (ht : h ≠ "try") (hlv : (h == ("leave" : Str)) = false)
  (hp : pick "expression" sh r = l) (h1 : ∀ x ∈ l, x = eD e ∨ x = eD .none) (h2 : eD e ∈ l) : Wd e (.mk (.leaf h r) .nil) := by
 have hpk : S2 (.mk (.leaf h r) .nil) = l := by
  show pick "expression" ((tblS.lookup h).getD []) r = l
  rw [look]; exact hp
 refine ⟨⟨⟨⟨rfl, hl⟩, trivial⟩, ⟨h, r, sh, rfl, look, len, parts, fun z => absurd z ht⟩, trivial⟩, by simp [G5, L4], by simp [dpD, AG], fun lp => ?_, fun kds => ?_⟩
 ·simp [gdD, CY, AX, hlv]
 ·rw [← OF hpk h1 h2 kds]
  unfold AH
  simp [dsD, J6]
theorem BE : AN "name" (.str "x") := .inl ⟨rfl, _, rfl, x_name⟩
theorem AK5 : AN "word" (.str "e") := .inr (.inl ⟨rfl, _, rfl, AS, by decide +kernel⟩)
theorem BD {d : D} (h : exN d) : AN "expression" d := .inr (.inr (.inl ⟨rfl, h⟩))
theorem AK4 {b : List D} (h : b ≠ []) : AN "block" (.tup b) := .inr (.inr (.inr (.inr (.inl ⟨rfl, _, rfl, h⟩))))
theorem BV0 (b : List D) : AN "rest" (.tup b) := .inr (.inr (.inr (.inr (.inr ⟨rfl, _, rfl⟩))))
local macro_rules | `(tactic| walk_at "pa") => `(tactic| simp only [CR8, CU6, CF9, CG5, or_false, forall_eq_or_imp, forall_eq])
local macro_rules | `(tactic| walk_at "pk") => `(tactic| first | rfl | kernel_rfl)
def wth (e : Ex) : Nat → Deed
 | 0 => .mk (.leaf "let" [.str "x", eD e]) .nil
 | 1 => .mk (.leaf "note" [eD e]) .nil
 | 2 => .mk (.leaf "give" [.str "x", eD e]) .nil
 | 3 => .mk (.leaf "on" [.str "x", eD e]) .nil
 | 4 => .mk (.leaf "ask" [.str "x", .str "x", eD e, eD .none]) .nil
 | 5 => .mk (.leaf "ask" [.str "x", .str "x", eD .none, eD e]) .nil
 | 6 => .mk (.leaf "close" [eD e]) .nil
 | 7 => .mk (.leaf "cast" [.str "x", .str "x", eD e, .str "e", eD .none]) .nil
 | 8 => .mk (.leaf "cast" [.str "x", .str "x", eD .none, .str "e", eD e]) .nil
 | 9 => .mk (.leaf "end" [eD e]) .nil
 | 10 => .mk (.leaf "fault" [.str "e", eD e]) .nil
 | 11 => .mk (.whl (eD e)) (.cons (ntB 1) .nil)
 | _ => .mk (.ife (eD e)) (.cons (ntB 1) (.cons .nil .nil))
theorem BO7 {e : Ex} (he : exN (eD e)) : ∀ k, Wd e (wth e k)
 | 0 => L0 (sh := ["name", "expression"]) (l := [eD e]) (.inl ⟨.inl rfl, _, _, rfl, ET, K0 he⟩) (by decide +kernel) rfl (by walk_at "pa"; exact ⟨BE, BD he⟩) (by decide +kernel) (by decide +kernel) (by walk_at "pk") (by simp) (by simp)
 | 1 => L0 (sh := ["expression"]) (l := [eD e]) (.inr (.inl ⟨.inl rfl, _, rfl, K0 he⟩)) (by decide +kernel) rfl (by walk_at "pa"; exact BD he) (by decide +kernel) (by decide +kernel) (by walk_at "pk") (by simp) (by simp)
 | 2 => L0 (sh := ["name", "expression"]) (l := [eD e]) (.inl ⟨.inr (.inl rfl), _, _, rfl, ET, K0 he⟩) (by decide +kernel) rfl (by walk_at "pa"; exact ⟨BE, BD he⟩) (by decide +kernel) (by decide +kernel) (by walk_at "pk") (by simp) (by simp)
 | 3 => L0 (sh := ["name", "expression"]) (l := [eD e]) (.inl ⟨.inr (.inr rfl), _, _, rfl, ET, K0 he⟩) (by decide +kernel) rfl (by walk_at "pa"; exact ⟨BE, BD he⟩) (by decide +kernel) (by decide +kernel) (by walk_at "pk") (by simp) (by simp)
 | 4 => L0 (sh := ["name", "name", "expression", "expression"]) (l := [eD e, eD .none]) (.inr (.inr (.inl ⟨rfl, _, _, _, _, rfl, ET, ET, K0 he, Q8⟩))) (by decide +kernel) rfl (by walk_at "pa"; exact ⟨BE, BE, BD he, BD BX⟩) (by decide +kernel) (by decide +kernel) (by walk_at "pk") (by simp) (by simp)
 | 5 => L0 (sh := ["name", "name", "expression", "expression"]) (l := [eD .none, eD e]) (.inr (.inr (.inl ⟨rfl, _, _, _, _, rfl, ET, ET, Q8, K0 he⟩))) (by decide +kernel) rfl (by walk_at "pa"; exact ⟨BE, BE, BD BX, BD he⟩) (by decide +kernel) (by decide +kernel) (by walk_at "pk") (by simp) (by simp)
 | 6 => L0 (sh := ["expression"]) (l := [eD e]) (.inr (.inl ⟨.inr (.inl rfl), _, rfl, K0 he⟩)) (by decide +kernel) rfl (by walk_at "pa"; exact BD he) (by decide +kernel) (by decide +kernel) (by walk_at "pk") (by simp) (by simp)
 | 7 => L0 (sh := ["name", "name", "expression", "word", "expression"]) (l := [eD e, eD .none]) (.inr (.inr (.inr (.inl ⟨rfl, _, _, _, _, _, rfl, ET, ET, AS, K0 he, Q8⟩)))) (by decide +kernel) rfl (by walk_at "pa"; exact ⟨BE, BE, BD he, AK5, BD BX⟩) (by decide +kernel) (by decide +kernel) (by walk_at "pk") (by simp) (by simp)
 | 8 => L0 (sh := ["name", "name", "expression", "word", "expression"]) (l := [eD .none, eD e]) (.inr (.inr (.inr (.inl ⟨rfl, _, _, _, _, _, rfl, ET, ET, AS, Q8, K0 he⟩)))) (by decide +kernel) rfl (by walk_at "pa"; exact ⟨BE, BE, BD BX, AK5, BD he⟩) (by decide +kernel) (by decide +kernel) (by walk_at "pk") (by simp) (by simp)
 | 9 => L0 (sh := ["expression"]) (l := [eD e]) (.inr (.inl ⟨.inr (.inr rfl), _, rfl, K0 he⟩)) (by decide +kernel) rfl (by walk_at "pa"; exact BD he) (by decide +kernel) (by decide +kernel) (by walk_at "pk") (by simp) (by simp)
 | 10 => L0 (sh := ["word", "expression"]) (l := [eD e]) (.inr (.inr (.inr (.inr (.inr ⟨rfl, _, _, rfl, AS, K0 he⟩))))) (by decide +kernel) rfl (by walk_at "pa"; exact ⟨AK5, BD he⟩) (by decide +kernel) (by decide +kernel) (by walk_at "pk") (by simp) (by simp)
 | 11 => by
  have hpk : S2 (.mk (.whl (eD e)) (.cons (ntB 1) .nil)) = [eD e] := by
   show pick "expression" ((tblS.lookup ("while" : Str)).getD []) [eD e, .tup (dB (ntB 1))] = _
   rw [show tblS.lookup ("while" : Str) = some (["expression", "block"] : List Str) by decide +kernel]
   walk_at "pk"
  refine ⟨⟨⟨⟨rfl, K0 he⟩, BC, trivial⟩, ⟨"while", [eD e, .tup (dB (ntB 1))], ["expression", "block"], rfl, by decide +kernel, rfl, by walk_at "pa"; exact ⟨BD he, AK4 JI⟩, fun h => absurd h (by decide +kernel)⟩, BB, trivial⟩, by simp [wth, G5, L4, P0, nt1, nt], by simp [wth, dpD, AG, dpB, nt1, nt], fun lp => by simp [wth, gdD, CY, gdB, AX, P2, nt1, nt], fun kds => ?_⟩
  rw [← OF hpk (by simp) (by simp) kds]
  constructor
  ·intro f t ht
   exact f _ (by rw [wth, dsD]; exact CF3) t ht
  ·intro f x hx t ht
   rw [wth, dsD] at hx
   rcases CF9.mp hx with rfl | hx
   ·exact f t ht
   ·have : x = nt 0 := by simpa [J6, dsB, dsD, nt1, nt] using hx
    subst this
    rw [OS ht]; trivial
 | _ + 12 => by
  have hpk : S2 (.mk (.ife (eD e)) (.cons (ntB 1) (.cons .nil .nil))) = [eD e] := by
   show pick "expression" ((tblS.lookup ("if" : Str)).getD []) [eD e, .tup (dB (ntB 1)), .tup (dB .nil)] = _
   rw [show tblS.lookup ("if" : Str) = some (["expression", "block", "rest"] : List Str) by decide +kernel]
   walk_at "pk"
  refine ⟨⟨⟨⟨rfl, K0 he⟩, BC, trivial, trivial⟩, ⟨"if", [eD e, .tup (dB (ntB 1)), .tup (dB .nil)], ["expression", "block", "rest"], rfl, by decide +kernel, rfl, by walk_at "pa"; exact ⟨BD he, AK4 JI, BV0 _⟩, fun h => absurd h (by decide +kernel)⟩, BB, trivial, trivial⟩, by simp [wth, G5, L4, P0, nt1, nt], by simp [wth, dpD, AG, dpB, nt1, nt], fun lp => by simp [wth, gdD, CY, gdB, AX, P2, nt1, nt, nl], fun kds => ?_⟩
  rw [← OF hpk (by simp) (by simp) kds]
  constructor
  ·intro f t ht
   exact f (.mk (.ife (eD e)) (.cons (ntB 1) (.cons .nil .nil))) (by show _ ∈ dsD (.mk (.ife (eD e)) (.cons (ntB 1) (.cons .nil .nil))); rw [dsD]; exact CF3) t ht
  ·intro f x hx t ht
   have hx : x ∈ dsD (.mk (.ife (eD e)) (.cons (ntB 1) (.cons .nil .nil))) := hx
   rw [dsD] at hx
   rcases CF9.mp hx with rfl | hx
   ·exact f t ht
   ·have : x = nt 0 := by simpa [J6, dsB, dsD, nt1, nt] using hx
    subst this
    rw [OS ht]; trivial
end K09
open L3
namespace K09
open PySem L2 L3 PK K10
theorem CD3 (e : Ex) : dD (wth e 11) = .tup [.str "while", eD e, .tup (dB (ntB 1))] ∧ dD (wth e 12) = .tup [.str "if", eD e, .tup (dB (ntB 1)), .tup []] := by
 constructor <;> simp [wth, dD, MN, dTs, dB]
theorem BP3 : eD .none = .tup [.str "none"] := by simp only [eD]
theorem LC : ∀ ds M Q, HC ds M Q → ds.length = 2 := by rintro _ _ _ ⟨_, _, _, rfl, _⟩; rfl
theorem PF : ∀ ds M Q, HC ds M Q → S4 { nx := fun _ M' => View Q .non M', rt := View Q } (B2 AI ds) M := by
 rintro _ M Q ⟨p, b, e, rfl, ⟨h1, h2, h3, h4⟩, hP, hb, q⟩
 have hz : CE1 = 16777216 := CF8
 have hw := BO7 (e := e) ⟨e, rfl, h1, h3, h4, h2⟩
 obtain ⟨g1, g2⟩ := CD3 e
 rw [PX]
 unfold S4
 walk_at "rd"
 refine ⟨1, rfl, by decide, ?_⟩
 walk_at "rd"
 rw [← BP3]
 refine N6 (by rw [hz]; simp) ?_
 walk_at "rd"
 refine N6 (by rw [hz]; simp) ?_
 walk_at "rd"
 refine N6 (by rw [hz]; simp) ?_
 walk_at "rd"
 refine N6 (by rw [hz]; simp) ?_
 walk_at "rd"
 refine draw hP (by lia) (by decide) (by decide) fun k M1 k0 k1 hP1 e1 => ?_
 have el : ∀ l : List D, l = ((CH8 13).map fun k => dD (wth e k)) → ∃ d, atI l k = some d ∧ ∃ j, d = dD (wth e j) := fun l hl => by
  obtain ⟨d, hd, hm⟩ := WS (ds := l) k0 (by rw [hl]; simpa using k1)
  rw [hl] at hm
  obtain ⟨j, _, rfl⟩ := List.mem_map.mp hm
  exact ⟨_, hd, j, rfl⟩
 obtain ⟨d, hd, j, rfl⟩ := el _ (by
  show _ = [dD (wth e 0), dD (wth e 1), dD (wth e 2), dD (wth e 3), dD (wth e 4), dD (wth e 5), dD (wth e 6), dD (wth e 7), dD (wth e 8), dD (wth e 9), dD (wth e 10), dD (wth e 11), dD (wth e 12)]
  rw [g1, g2])
 refine E2 hd ?_
 have w := hw j
 exact View.of (q _ M1 w.good w.cnt w.dep w.gd w.fit hP1 e1)
theorem IC {s : Str} {a b : Ex} : P1 kds (.op s a b) ↔ P1 kds a ∧ P1 kds b := by
 unfold P1
 simp only [trE, CF9, CJ1]
 constructor
 ·intro f
  exact ⟨fun t ht => f t (.inr (.inl ht)), fun t ht => f t (.inr (.inr ht))⟩
 ·rintro ⟨f, g⟩ t (rfl | h | h)
  ·trivial
  ·exact f t h
  ·exact g t h
theorem fitE_leaf : P1 kds .none ∧ (∀ x, P1 kds (.var x)) ∧ ∀ n, P1 kds (.num n) := by
 refine ⟨fun t ht => ?_, fun x t ht => ?_, fun n t ht => ?_⟩
 ·obtain rfl : t = .none := by simpa [trE] using ht
  trivial
 ·obtain rfl : t = .var x := by simpa [trE] using ht
  trivial
 ·obtain rfl : t = .num n := by simpa [trE] using ht
  trivial
theorem MI {r : Str} {a : Ex} (h : F0 kds (.inr r) = some (.int 1)) : P1 kds (.make r (.cons a .nil)) ↔ P1 kds a := by
 unfold P1
 simp only [trE, ES, CF9, CM4]
 constructor
 ·intro f t ht; exact f t (.inr ht)
 ·rintro f t (rfl | ht)
  ·exact h
  ·exact f t ht
theorem DA : ∀ ds M Q, CJ ds M Q → ds.length = 4 := by rintro _ _ _ ⟨_, _, _, _, _, rfl, _⟩; rfl
theorem DX : ∀ ds M Q, CJ ds M Q → G0 { nx := fun _ M' => View Q .non M', rt := View Q } (B2 J8 ds) M := by
 rintro _ M Q ⟨p, b, e, n0, c, rfl, ⟨w1, w2, w3, w4⟩, hn0, hP, hb, q⟩
 rw [EN]
 unfold G0
 walk_at "rd"
 refine draw hP (by lia) (by decide) (by decide) fun many M1 m0 m1 hP1 e1 => ?_
 have hxn : nmE (.var "x") := x_name
 have hxw : wf (.var "x") := ET
 have rest : (A5 (L5 (AW (A0 (A1 4) A2)) 5 (A5 (B1 6 (D7 (A0 (C2 (A0 (tC3 (.str "op")) (A0 (tC3 (.str "+")) (A0 (A1 1) (A0 (C2 (A0 (tC3 (.str "var")) (A0 (tC3 (.str "x")) A2))) A2))))) (A0 (C2 (A0 (tC3 (.str "op")) (A0 (tC3 (.str "<")) (A0 (C2 (A0 (tC3 (.str "number")) (A0 (tC3 (.int 1)) A2))) (A0 (A1 1) A2))))) (A0 (C2 (A0 (tC3 (.str "op")) (A0 (tC3 (.str "=")) (A0 (A1 1) (A0 (A1 1) A2))))) A2))))) (B1 1 (A3 C1 (A1 6) (A6 C8 (A0 (A1 0) (A0 (A3 C5 (tC3 (.int 2)) (B8 YG (A0 (A3 D8 (A1 4) (tC3 (.int 1))) A2))) A2))))))) (B4 (A1 1))) { nx := fun _ M' => View Q .non M', rt := View Q } [some (.ref p), some (eD e), some (.str n0), some (.int c), some (.int many), none, none] M1 := by
  walk_at "rd"
  refine ⟨by lia, by lia, ?_⟩
  walk_at "rd"
  refine ⟨fun k σ M' => (∃ e' s5 s6, σ = [some (.ref p), some (eD e'), some (.str n0), some (.int c), some (.int many), s5, s6] ∧ wf e' ∧ nmE e' ∧ (nd e' ≤ 4 + 2 * k ∨ (many = 1 ∧ k = 1 ∧ nd e' ≤ 9)) ∧ dp e' ≤ 2 + k ∧ ∀ kds, P1 kds e' ↔ P1 kds e) ∧ Pen M' p (b + 1 + k) ∧ Same3 p M M', ⟨⟨e, none, none, rfl, w1, w2, .inl (by lia), by lia, fun _ => .rfl⟩, hP1, e1⟩, ?_, ?_⟩
  ·rintro k d0 σ M' hk ⟨⟨e', s5, s6, rfl, v1, v2, v3, v4, v5⟩, hP', hs⟩
   have hkn : (k : Int) < many := by
    have h := (List.getElem?_eq_some_iff.mp hk).1
    simp at h
    lia
   have v3' : nd e' ≤ 4 + 2 * k := by
    rcases v3 with h | ⟨h, h2, _⟩
    ·exact h
    ·lia
   walk_at "rd"
   have h23 : (2 : Int) + (if (many == 1) = true then 1 else 0) = 2 ∨ ((2 : Int) + (if (many == 1) = true then 1 else 0) = 3 ∧ many = 1) := by
    by_cases h : many = 1
    ·right; rw [if_pos (by simpa using h)]; exact ⟨rfl, h⟩
    ·left; rw [if_neg (by simpa using h)]; rfl
   refine draw hP' (by lia) (by rcases h23 with h | ⟨h, _⟩ <;> rw [h] <;> decide) (by rcases h23 with h | ⟨h, _⟩ <;> rw [h] <;> decide) fun j M2 j0 j1 hP2 e2 => ?_
   have nx : ∀ (e2' : Ex) (t5 t6 : Option D), wf e2' → nmE e2' → (nd e2' ≤ 4 + 2 * (k + 1) ∨ (many = 1 ∧ k + 1 = 1 ∧ nd e2' ≤ 9)) → dp e2' ≤ 2 + (k + 1) → (∀ kds, P1 kds e2' ↔ P1 kds e') → (∃ e3 s5 s6, ([some (.ref p), some (eD e2'), some (.str n0), some (.int c), some (.int many), t5, t6] : Lo) = [some (.ref p), some (eD e3), some (.str n0), some (.int c), some (.int many), s5, s6] ∧ wf e3 ∧ nmE e3 ∧ (nd e3 ≤ 4 + 2 * (k + 1) ∨ (many = 1 ∧ k + 1 = 1 ∧ nd e3 ≤ 9)) ∧ dp e3 ≤ 2 + (k + 1) ∧ ∀ kds, P1 kds e3 ↔ P1 kds e) ∧ Pen M2 p (b + 1 + (k + 1)) ∧ Same3 p M M2 := fun e2' t5 t6 a1 a2 a3 a4 a5 => ⟨⟨e2', _, _, rfl, a1, a2, a3, a4, fun kds => (a5 kds).trans (v5 kds)⟩, by rw [← Nat.add_assoc]; exact hP2, hs.trans e2⟩
   have hj : j = 0 ∨ j = 1 ∨ (j = 2 ∧ many = 1) := by
    rcases h23 with h | ⟨h, h2⟩
    ·rw [h] at j1; lia
    ·rw [h] at j1; lia
   rcases hj with rfl | rfl | ⟨rfl, hm1⟩
   ·refine E2 (d := eD (.op "+" e' (.var "x"))) (by simp only [eD]; rfl) ?_
    exact nx (.op "+" e' (.var "x")) _ _ ⟨.inl rfl, v1, hxw⟩ ⟨v2, hxn⟩ (.inl (by simp only [nd]; lia)) (by simp only [dp]; lia) fun kds => by rw [IC]; exact ⟨fun h => h.1, fun h => ⟨h, fitE_leaf.2.1 _⟩⟩
   ·refine E2 (d := eD (.op "<" (.num 1) e')) (by simp only [eD]; rfl) ?_
    exact nx (.op "<" (.num 1) e') _ _ ⟨.inr (.inr (.inr (.inl rfl))), (by show bnd 1; unfold bnd PK.BS; lia), v1⟩ ⟨trivial, v2⟩ (.inl (by simp only [nd]; lia)) (by simp only [dp]; lia) fun kds => by rw [IC]; exact ⟨fun h => h.2, fun h => ⟨fitE_leaf.2.2 _, h⟩⟩
   ·refine E2 (d := eD (.op "=" e' e')) (by simp only [eD]; rfl) ?_
    exact nx (.op "=" e' e') _ _ ⟨.inr (.inr (.inr (.inr rfl))), v1, v1⟩ ⟨v2, v2⟩ (.inr ⟨hm1, by lia, by simp only [nd]; lia⟩) (by simp only [dp]; lia) fun kds => by rw [IC]; exact ⟨fun h => h.1, fun h => ⟨h, h⟩⟩
  ·rintro σ M' ⟨⟨e', s5, s6, rfl, v1, v2, v3, v4, v5⟩, hP', hs⟩
   simp only [CD8, CL1] at v3 v4 hP'
   walk_at "rd"
   exact View.of (q e' M' v1 v2 (by lia) (by lia) (fun kds _ => v5 kds) (F7 hP' (by lia)) hs)
 walk_at "rd"
 by_cases hc : c = 1
 ·refine B7 (by simpa using hc) ?_
  walk_at "rd"
  by_cases h2 : many = 2
  ·refine B7 (by simpa using h2) ?_
   walk_at "rd"
   refine draw hP1 (by lia) (by decide) (by decide) fun k M2 k0 k1 hP2 e2 => ?_
   walk_at "rd"
   have em : D.tup [.str "make", .str n0, .tup [eD e]] = eD (.make n0 (.cons e .nil)) := by simp only [eD, eDs]
   have m1 : wf (.make n0 (.cons e .nil)) := ⟨hn0.1, by simp [exl], w1, trivial⟩
   have m2 : nmE (.make n0 (.cons e .nil)) := ⟨hn0, w2, trivial⟩
   cases e3 : (k == 1) with
   | true =>
    refine E3 ?_
    walk_at "rd"
    rw [em, show D.tup [.str "op", .str "=", .tup [.str "none"], eD (.make n0 (.cons e .nil))] = eD (.op "=" .none (.make n0 (.cons e .nil))) from by simp only [eD]]
    exact View.of (q _ M2 ⟨.inr (.inr (.inr (.inr rfl))), trivial, m1⟩ ⟨trivial, m2⟩ (by simp only [nd, nds]; lia) (by simp only [dp, dps]; lia) (fun kds hk => by rw [IC, MI (hk hc)]; exact ⟨fun h => h.2, fun h => ⟨fitE_leaf.1, h⟩⟩) (F7 hP2 (by lia)) (e1.trans e2))
   | false =>
    refine E1 ?_
    walk_at "rd"
    rw [em]
    exact View.of (q _ M2 m1 m2 (by simp only [nd, nds]; lia) (by simp only [dp, dps]; lia) (fun kds hk => MI (hk hc)) (F7 hP2 (by lia)) (e1.trans e2))
  ·refine A4 (by simpa using h2) ?_
   exact rest
 ·refine A4 (by simpa using hc) ?_
  refine E1 ?_
  exact rest
end K09
open L3
namespace K09
open PySem L2 L3 PK K10
def mk8 (k : Nat) : Str := "make" ++ ⟨#[97 + k]⟩
def AU1 (z : Str) : Prop := isN z ∧ z ≠ "nobody"
def nmB (z : Str) : Bool := (z.cps.toList.all fun c => decide (97 ≤ c) && decide (c ≤ 122)) && (decide (1 ≤ z.length) && (decide (z.length ≤ 8) && (K06.isNm (.str z) && !(z == "nobody"))))
theorem UU (h : nmB z = true) : AU1 z := by
 unfold nmB at h
 simp only [CH5, decide_eq_true_eq, CF7, Bool.not_eq_true'] at h
 obtain ⟨h1, h2, h3, h4, h5⟩ := h
 exact ⟨⟨⟨h1, h2, h3⟩, h4⟩, by simpa using h5⟩
def eight : List Str := (CH8 8).map mk8
def others : List Str := ["a", "ab", "abc", "ba", "b", "bab", "ca", "c"]
theorem AF7 : eight.all nmB = true := by decide +kernel
theorem ZZ : others.all nmB = true := by decide +kernel
theorem NZ (h : n ≤ l.length) : cutD l none (some (n : Int)) = l.take n := by
 unfold cutD
 rw [HT.AO7, HT.BA0, Nat.min_eq_left h]
 simp
theorem BP9 : (("abcdefgh" : Str)).cps.toList = (CH8 8).map (97 + ·) := by decide +kernel
theorem IY : ∀ ds M Q, FX ds M Q → ds.length = 1 := by rintro _ _ _ ⟨_, _, rfl, _⟩; rfl
theorem LK : ∀ ds M Q, FX ds M Q → P5 { nx := fun _ M' => View Q .non M', rt := View Q } (B2 W0 ds) M := by
 rintro _ M Q ⟨p, b, rfl, hP, hb, q⟩
 have hz : CE1 = 16777216 := CF8
 rw [LQ]
 unfold P5
 walk_at "rd"
 have last : ∀ (M2 : Mem) (a : Addr) (ns : List Str) (s2 : Option D), Pen M2 p (b + 4) → M2 a = some (.lst (ns.map D.str)) → ns.length = 8 → (∀ z ∈ ns, AU1 z) → p ≠ a →
   (GA 1 (B4 (O8 (A1 1) E5 (G3 (A3 C5 (tC3 (.int 1)) (A6 C8 (A0 (A1 0) (A0 (tC3 (.int 8)) A2)))))))) { nx := fun _ M' => View Q .non M', rt := View Q } [some (.ref p), some (.ref a), s2] M2 := by
  intro M2 a ns s2 hP2 hm hl hns hpa
  with_reducible refine AO2 rfl hm ?_
  walk_at "rd"
  refine draw (YC hP2 hpa) (by lia) (by decide) (by decide) fun k M3 k0 k1 hP3 e3 => ?_
  walk_at "rd"
  obtain ⟨j, rfl⟩ : ∃ j : Nat, k = (j : Int) := ⟨k.toNat, by lia⟩
  rw [show (1 : Int) + (j : Int) = ((1 + j : Nat) : Int) by lia]
  refine FR ?_
  rw [NZ (by rw [CD8]; lia), ← List.map_take]
  refine View.of (q (ns.take (1 + j)) M3 (by rw [CK9]; lia) (by rw [CK9]; lia) (fun z hz => hns z (List.mem_of_mem_take hz)) (F7 hP3 (by lia)))
 refine R9 (CH8 8) (fun k => D.int (k : Nat)) (fun k => D.str (mk8 k)) (fun _ => true) (by rw [CL1]; lia) ?_ ?_
 ·intro k hk M2 R F _ hR _
  have hk8 := List.mem_range.mp hk
  walk_at "rd"
  refine BJ9 (by decide +kernel) (c := 97 + k) (by rw [BP9]; exact F1 (by simp [hk8])) ?_
  refine AZ0 (by have : (("make" : Str)).length = 4 := (by decide +kernel); have : ((⟨#[97 + k]⟩ : Str)).length = 1 := rfl; lia) ?_
  exact hR rfl
 ·intro a M1 ha hm hs
  have e8 : ((CH8 8).filter fun _ => true).map (fun k => D.str (mk8 k)) = eight.map D.str := by
   unfold eight
   rw [List.filter_eq_self.mpr (fun _ _ => rfl), CL5]; rfl
  rw [e8] at hm
  have hpa : p ≠ a := PB hP ha
  have hP1 : Pen M1 p b := FN hP (p := a) (fun x hx => hs x hx) hpa
  walk_at "rd"
  refine draw hP1 (by lia) (by decide) (by decide) fun way M2 w0 w1 hP2 e2 => ?_
  have hm2 : M2 a = some (.lst (eight.map D.str)) := by rw [e2 a hpa.symm]; exact hm
  walk_at "rd"
  have hok : ∀ z ∈ eight, AU1 z := fun z hz => UU (CF7.mp AF7 z hz)
  cases e0 : (way == 0) with
  | true =>
   refine E3 ?_
   walk_at "rd"
   intro c hc
   have hpc : p ≠ c := PB hP2 hc
   walk_at "rd"
   refine A4 (by have : way = 0 := (by simpa using e0); rw [this]; rfl) ?_
   exact last _ c others _ (F7 (X2 hP2 hpc) (by lia)) B5 rfl (fun z hz => UU (CF7.mp ZZ z hz)) hpc
  | false =>
   refine E1 ?_
   walk_at "rd"
   cases e1 : (way == 1) with
   | false =>
    refine E1 ?_
    exact last M2 a eight _ (F7 hP2 (by lia)) hm2 rfl hok hpa
   | true =>
    refine E3 ?_
    show (A3 C1 _ _) _ _ _
    walk_at "rd"
    refine draw hP2 (by lia) (by decide) (by decide) fun i M3 i0 i1 hP3 e3 => ?_
    have hm3 : M3 a = some (.lst (eight.map D.str)) := by rw [e3 a hpa.symm]; exact hm2
    obtain ⟨d, hd, hdm⟩ := WS (ds := eight.map D.str) i0 (by simpa [eight] using i1)
    refine ⟨_, d, hm3, hd, ?_⟩
    obtain ⟨z, hz8, rfl⟩ := List.mem_map.mp hdm
    walk_at "rd"
    refine draw hP3 (by lia) (by decide) (by decide) fun l M4 l0 l1 hP4 e4 => ?_
    have hm4 : M4 a = some (.lst (eight.map D.str)) := by rw [e4 a hpa.symm]; exact hm3
    refine ⟨a, _, l.toNat, l, rfl, rfl, hm4, ?_, ?_⟩
    ·obtain ⟨j, rfl⟩ : ∃ j : Nat, l = (j : Int) := ⟨l.toNat, by lia⟩
     have : (eight.map D.str).length = 8 := rfl
     rw [this]
     unfold ixN
     simp
     lia
    ·rw [← List.map_set]
     refine last _ a (eight.set l.toNat z) _ (F7 (X2 hP4 hpa) (by lia)) B5 (by rw [List.length_set]; rfl) (fun y hy => ?_) hpa
     rcases List.mem_or_eq_of_mem_set hy with h | h
     ·exact hok y h
     ·rw [h]; exact hok z hz8
def J9 : List Ex → Exs
 | [] => .nil
 | e :: r => .cons e (J9 r)
def lf (e : Ex) : Prop := wf e ∧ nmE e ∧ nd e = 1 ∧ dp e = 1 ∧ ∀ kds, P1 kds e
theorem UP : ∀ l : List Ex, eDs (J9 l) = l.map eD
 | [] => by simp [J9, eDs]
 | e :: r => by simp [J9, eDs, UP r]
theorem FA : ∀ l : List Ex, exl (J9 l) = l.length
 | [] => rfl
 | e :: r => by simp [J9, exl, FA r]
theorem RA : ∀ {l : List Ex}, (∀ e ∈ l, lf e) → wfs (J9 l) ∧ AJ0 (J9 l) ∧ nds (J9 l) = l.length ∧ dps (J9 l) ≤ 1 ∧ ∀ kds, ∀ t ∈ ES (J9 l), fits kds t
 | [], _ => ⟨trivial, trivial, rfl, by simp [J9, dps], fun kds t ht => by simp [J9, ES] at ht⟩
 | e :: r, h => by
  obtain ⟨a1, a2, a3, a4, a5⟩ := h e CF3
  obtain ⟨b1, b2, b3, b4, b5⟩ := RA fun x hx => h x (CF2 _ hx)
  refine ⟨⟨a1, b1⟩, ⟨a2, b2⟩, by simp only [J9, nds, CE7]; lia, by simp only [J9, dps]; lia, fun kds t ht => ?_⟩
  simp only [J9, ES, CJ1] at ht
  rcases ht with h | h
  ·exact a5 kds t h
  ·exact b5 kds t h
theorem BQ6 {r : Str} {l : List Ex} (hr : isN r) (hl : l.length ≤ 3) (h : ∀ e ∈ l, lf e) : (wf (.make r (J9 l)) ∧ nmE (.make r (J9 l)) ∧ nd (.make r (J9 l)) ≤ 4 ∧ dp (.make r (J9 l)) ≤ 2) ∧ ∀ kds, P1 kds (.make r (J9 l)) ↔ F0 kds (.inr r) = some (.int l.length) := by
 obtain ⟨a1, a2, a3, a4, a5⟩ := RA h
 refine ⟨⟨⟨hr.1, by rw [FA]; exact hl, a1⟩, ⟨hr, a2⟩, by simp only [nd]; lia, by simp only [dp]; lia⟩, fun kds => ?_⟩
 unfold P1
 simp only [trE, CF9]
 constructor
 ·intro f
  have := f (.make r (J9 l)) (.inl rfl)
  rw [show fits kds (.make r (J9 l)) = (F0 kds (.inr r) = some (.int (exl (J9 l)))) from rfl, FA] at this
  exact this
 ·rintro f t (rfl | ht)
  ·show F0 kds (.inr r) = some (.int (exl (J9 l)))
   rw [FA]; exact f
  ·exact a5 kds t ht
theorem AT2 : lf .none := ⟨trivial, trivial, rfl, rfl, fun _ => fitE_leaf.1⟩
theorem y_name : isN "y" := ⟨⟨by unfold ltr; decide +kernel, by decide +kernel, by decide +kernel⟩, by decide +kernel⟩
theorem CA9 : lf (.var "y") := ⟨⟨y_name.1, by show _ ∈ (["x", "y"] : List Str); simp⟩, y_name, rfl, rfl, fun _ => fitE_leaf.2.1 _⟩
theorem BQ2 : lf (.num (-1)) := ⟨by show bnd (-1); unfold bnd PK.BS; lia, trivial, rfl, rfl, fun _ => fitE_leaf.2.2 _⟩
def lvD : Deed := .mk (.leaf "leave" []) .nil
theorem AT4 : Good lvD := ⟨⟨⟨rfl, .inr (.inr (.inr (.inr (.inl ⟨rfl, rfl⟩))))⟩, trivial⟩, ⟨"leave", [], [], rfl, by decide +kernel, rfl, fun p hp => (nomatch hp), fun h => absurd h (by decide +kernel)⟩, trivial⟩
theorem BQ4 (lp : Bool) : gdD lp lvD = lp := by
 have : AX (.leaf "leave" []) = true := by decide +kernel
 simp [lvD, gdD, CY, this]
theorem BF2 (kds : List (Key × D)) : AH kds lvD := fun x hx t ht => by
 have : x = lvD := by simpa [lvD, dsD, J6] using hx
 subst this
 obtain ⟨e, h1, _⟩ := ht
 have : S2 lvD = [] := by
  show pick "expression" ((tblS.lookup ("leave" : Str)).getD []) [] = _
  rw [show tblS.lookup ("leave" : Str) = some ([] : List Str) by decide +kernel]
  rfl
 rw [this] at h1; cases h1
theorem WJ : ∀ l : List Deed, toL (ofL l) = l
 | [] => rfl
 | d :: r => by simp [ofL, toL, WJ r]
theorem AJ7 : ∀ {l : List Deed}, (∀ d ∈ l, Good d) → okB (ofL l) ∧ RQ (ofL l)
 | [], _ => ⟨trivial, trivial⟩
 | d :: r, h => by
  obtain ⟨a, b⟩ := AJ7 fun x hx => h x (CF2 _ hx)
  have g := h d CF3
  exact ⟨⟨g.ok, a⟩, g.o9, b⟩
theorem AJ8 : ∀ l : List Deed, P0 (ofL l) = (l.map G5).sum
 | [] => rfl
 | d :: r => by simp [ofL, P0, AJ8 r]
theorem AJ9 : ∀ {l : List Deed} {n : Nat}, (∀ d ∈ l, dpD d ≤ n) → dpB (ofL l) ≤ n
 | [], n, _ => CK6 _
 | d :: r, n, h => by
  have a := AJ9 fun x hx => h x (CF2 _ hx)
  have b := h d CF3
  simp only [ofL, dpB]
  lia
theorem BR5 (lp : Bool) (l : List Deed) : gdB lp (ofL l) = l.all (gdD lp) := by rw [OG, WJ]
theorem BG2 (kds : List (Key × D)) (l : List Deed) : (∀ d ∈ dsB (ofL l), ∀ t, Et t d → fits kds t) ↔ ∀ d ∈ l, AH kds d := by
 rw [OD, WJ]
 constructor
 ·intro f d hd x hx t ht
  exact f x (List.mem_flatMap.mpr ⟨d, hd, hx⟩) t ht
 ·intro f x hx t ht
  obtain ⟨d, hd, h⟩ := List.mem_flatMap.mp hx
  exact f d hd x h t ht
end K09
open L3
namespace K09
open PySem L2 L3 PK K10
def ntL (n : Nat) : List Deed := (CH8 n).map nt
def W7 (n : Nat) (xs : List Deed) : List Deed := (ntL n).take 1 ++ xs ++ (ntL n).drop 1
def par3 : List Str := ["pa", "pb", "pc"]
def N1 (z : Str) (c : Int) (n : Nat) (xs : List Deed) : Rl := ⟨z, par3.take c.toNat, ofL (W7 n xs)⟩
theorem BH0 : par3.all nmB = true := by decide +kernel
theorem par_nd : par3.Nodup := by decide +kernel
theorem HY {xs : List Deed} (h : d ∈ W7 n xs) : d ∈ xs ∨ ∃ k, k < n ∧ d = nt k := by
 unfold W7 at h
 rcases CJ1.mp h with h | h
 ·rcases CJ1.mp h with h | h
  ·obtain ⟨k, hk, rfl⟩ := List.mem_map.mp (List.mem_of_mem_take h)
   exact .inr ⟨k, List.mem_range.mp hk, rfl⟩
  ·exact .inl h
 ·obtain ⟨k, hk, rfl⟩ := List.mem_map.mp (List.mem_of_mem_drop h)
  exact .inr ⟨k, List.mem_range.mp hk, rfl⟩
theorem XS {xs : List Deed} (h : d ∈ xs) : d ∈ W7 n xs := by
 unfold W7
 exact CK8 _ (CF0 _ h)
theorem AJ4 (k : Nat) : G5 (nt k) = 1 := by simp [nt, G5, L4]
theorem BF6 (k : Nat) : dpD (nt k) = 0 := by simp [nt, dpD, AG]
theorem BQ8 (lp : Bool) (k : Nat) : gdD lp (nt k) = true := by simp [nt, gdD, CY, AX, nl]
theorem AZ9 {c : Int} {xs : List Deed} (hz : isN z) (hn : n = 1 ∨ n = 2) (hx : ∀ d ∈ xs, Good d ∧ dpD d ≤ 4) (hc : (xs.map G5).sum ≤ 28) : AN6 (N1 z c n xs) ∧ gdB false (N1 z c n xs).blk = xs.all (gdD false) ∧ ∀ kds, (∀ d ∈ dsB (N1 z c n xs).blk, ∀ t, Et t d → fits kds t) ↔ ∀ d ∈ xs, AH kds d := by
 have g : ∀ d ∈ W7 n xs, Good d := fun d hd => by
  rcases HY hd with h | ⟨k, hk, rfl⟩
  ·exact (hx d h).1
  ·exact FL (by lia)
 obtain ⟨a1, a2⟩ := AJ7 g
 have hcnt : P0 (ofL (W7 n xs)) ≤ 30 := by
  rw [AJ8]
  unfold W7 ntL
  rcases hn with rfl | rfl
  ·simp only [List.range_one, CG9, CT3, List.take_succ_cons, List.take_zero, List.drop_succ_cons, List.drop_nil, CG3, List.sum_append, List.sum_cons, List.sum_nil, AJ4]; lia
  ·simp only [show CH8 2 = [0, 1] from rfl, CG9, CT3, List.take_succ_cons, List.take_zero, List.drop_succ_cons, List.drop_zero, CG3, List.sum_append, List.sum_cons, List.sum_nil, AJ4]; lia
 refine ⟨⟨hz, by show (par3.take _).length ≤ 3; rw [CK9]; exact Nat.min_le_right _ _, fun x hx => (UU (CF7.mp BH0 x (List.mem_of_mem_take hx))).1, par_nd.sublist (List.take_sublist _ _), ?_, hcnt, AJ9 fun d hd => ?_, P9, a1, a2, by show (2 : Nat) ≤ 9; decide⟩, ?_, fun kds => ?_⟩
 ·show ofL (W7 n xs) ≠ .nil
  unfold W7 ntL
  rcases hn with rfl | rfl <;> simp [ofL, show CH8 2 = [0, 1] from rfl]
 ·rcases HY hd with h | ⟨k, hk, rfl⟩
  ·exact (hx d h).2
  ·rw [BF6]; exact CK6 _
 ·show gdB false (ofL (W7 n xs)) = _
  rw [BR5, CN7, CF7, CF7]
  constructor
  ·intro f d hd; exact f d (XS hd)
  ·intro f d hd
   rcases HY hd with h | ⟨k, hk, rfl⟩
   ·exact f d h
   ·exact BQ8 _ _
 ·show (∀ d ∈ dsB (ofL (W7 n xs)), _) ↔ _
  rw [BG2]
  constructor
  ·intro f d hd; exact f d (XS hd)
  ·intro f d hd
   rcases HY hd with h | ⟨k, hk, rfl⟩
   ·exact f d h
   ·exact AJ5 _ _
theorem RB (kds : List (Key × D)) (k : Key) (d : D) (k' : Key) : F0 (putD kds k d) k' = if k = k' then some d else F0 kds k' := by
 unfold putD
 by_cases h : (kds.any fun kv => decide (kv.1 = k)) = true
 ·rw [if_pos h]
  have : ∀ l : List (Key × D), F0 (l.map fun kv => if kv.1 = k then (kv.1, d) else kv) k' = if k = k' then (if (l.any fun kv => decide (kv.1 = k)) = true then some d else none) else F0 l k' := fun l => by
   induction l with
   | nil => simp [F0]
   | cons kv l ih =>
    unfold F0 at ih ⊢
    by_cases h1 : kv.1 = k
    ·by_cases h2 : k = k'
     ·subst h2; simp [h1]
     ·simp only [CG9, h1, if_true, CK5, h2, decide_false, if_false] at ih ⊢
      exact ih
    ·by_cases h2 : k = k'
     ·subst h2
      simp only [CG9, h1, if_false, CK5, decide_false, if_true, CP8, Bool.false_or] at ih ⊢
      exact ih
     ·by_cases h3 : kv.1 = k'
      ·have h4 : ¬ k' = k := fun e => h2 e.symm
       simp only [CG9, CK5, h3, h4, if_false, decide_true, h2]
      ·simp only [CG9, h1, if_false, CK5, h3, decide_false, h2] at ih ⊢
       exact ih
  rw [this, if_pos h]
 ·rw [if_neg h]
  unfold F0
  rw [List.find?_append]
  by_cases h2 : k = k'
  ·subst h2
   have : kds.find? (fun kv => decide (kv.1 = k)) = none := by
    rw [List.find?_eq_none]
    intro kv hm hk
    exact h (List.any_eq_true.mpr ⟨kv, hm, hk⟩)
   rw [this]; simp
  ·rw [if_neg h2]
   cases e : kds.find? (fun kv => decide (kv.1 = k')) with
   | some kv => simp
   | none => simp [h2]
theorem cnt_none {z : Str} : ∀ l : List Rl, (∀ r ∈ l, r.name ≠ z) → F0 (cntK l.reverse) (.inr z) = none
 | [], _ => rfl
 | r :: l, h => by
  rw [List.reverse_cons, EY, RB, if_neg (fun e => h r CF3 (Sum.inr.inj e))]
  exact cnt_none l fun x hx => h x (CF2 _ hx)
theorem QU {r : Rl} : ∀ l : List Rl, (l.map (·.name)).Nodup → r ∈ l → F0 (cntK l.reverse) (.inr r.name) = some (.int r.pars.length)
 | [], _, h => (nomatch h)
 | a :: l, hn, h => by
  rw [CG9, CX8] at hn
  rw [List.reverse_cons, EY, RB]
  rcases CF9.mp h with rfl | h
  ·rw [if_pos rfl]
  ·have : a.name ≠ r.name := fun e => hn.1 (by rw [e]; exact CU2 h)
   rw [if_neg (fun e => this (Sum.inr.inj e))]
   exact QU l hn.2 h
theorem AR5 {r : Rl} (hn : (rs.map (·.name)).Nodup) (h : r ∈ rs) : F0 (cntK rs) (.inr r.name) = some (.int r.pars.length) := by
 have := QU rs.reverse (by rw [List.map_reverse]; exact List.pairwise_reverse.mpr (List.Pairwise.imp (fun h => Ne.symm h) hn)) (List.mem_reverse.mpr h)
 rwa [List.reverse_reverse] at this
theorem BD6 (h : ∀ r ∈ rs, r.name ≠ z) : F0 (cntK rs) (.inr z) = none := by
 have := cnt_none rs.reverse fun r hr => h r (List.mem_reverse.mp hr)
 rwa [List.reverse_reverse] at this
end K09
open L3
namespace K09
open PySem L2 L3 PK K10
structure Dat (ns : List Str) (cs : List Int) (ia : Nat) (za : Str) (ca : Int) (nm : Str) (m : Int) (d1 d2 : Deed) (w2 : Bool) : Prop where
 l1 : 1 ≤ ns.length
 l8 : ns.length ≤ 8
 cl : cs.length = ns.length
 hns : ∀ z ∈ ns, AU1 z
 hcs : ∀ c ∈ cs, 0 ≤ c ∧ c < 4
 hz : ns[ia]? = some za
 hc : cs[ia]? = some ca
 hnm : nm = za ∨ nm = "nobody"
 hm : 0 ≤ m ∧ m ≤ 3
 g1 : Good d1
 c1 : G5 d1 ≤ 10
 p1 : dpD d1 ≤ 3
 q1 : ∀ lp, gdD lp d1 = true
 f1 : ∀ kds, (∀ z0 c0, ns[0]? = some z0 → cs[0]? = some c0 → c0 = 1 → F0 kds (.inr z0) = some (.int 1)) → (AH kds d1 ↔ F0 kds (.inr nm) = some (.int m))
 g2 : Good d2
 c2 : G5 d2 ≤ 17
 p2 : dpD d2 ≤ 4
 q2 : gdD false d2 = w2
 f2 : ∀ kds, AH kds d2
theorem BA9 (n : Nat) : dB (ntB n) = (ntL n).map dD := by unfold ntB ntL; rw [IO]
theorem AZ8 {b : Nat} {scr x2 x8 x12 x13 x14 x15 x16 x17 x18 x19 : Option D} {ns : List Str} {cs : List Int} {ia : Nat} {za : Str} {ca : Int} {nm : Str} {m : Int} {d1 d2 : Deed} {w2 : Bool} (Dt : Dat ns cs ia za ca nm m d1 d2 w2) (hP : Pen M p b) (hb : b + 100 < 2 ^ 30) (T : L1)
  (fin : ∀ (way wh : Int) (xs : List Deed) (a : Addr) (rs : List Rl) (y16 y17 : Option D) (M' : Mem), ((way = 0 ∧ xs = [d1]) ∨ (way = 1 ∧ xs = [d2]) ∨ (way = 2 ∧ xs = [d1, d2])) → (0 ≤ wh ∧ wh < ns.length) → (∀ d ∈ xs, Good d ∧ dpD d ≤ 4) → (xs.map G5).sum ≤ 28 → Pen M' p (b + 2 + ns.length) → p ≠ a → M' a = some (.lst (rs.map rD)) → rs.length = ns.length → (∀ (i : Nat) (r : Rl), rs[i]? = some r → ∃ z c n, ns[i]? = some z ∧ cs[i]? = some c ∧ (n = 1 ∨ n = 2) ∧ r = N1 z c n (if (i : Int) = wh then xs else [])) →
   (GA 15 (A5 (B1 18 (A3 D8 (HP (DI (A0 (A1 3) A2))) (B8 D3 (A0 (A1 3) A2)))) (A5 (B9 (A7 (A3 N0 (A1 12) (tC3 (.int 1)))) (B1 18 (C9 (A1 18) (C9 (A3 D8 (A1 6) (A3 C1 (A1 3) (A1 5))) (A3 D8 (A1 7) (A3 C1 (A1 4) (A1 5)))))) B3) (A5 (B9 (A7 (A3 DB (A1 12) (tC3 (.int 0)))) (B1 18 (C9 (A1 18) (A1 11))) B3) (A5 (B1 19 (A6 G1 (A0 (B8 F2 (A0 (A1 15) A2)) A2))) (B9 (O5 (F3 (A7 (B8 F5 (A0 (A1 19) (A0 (tC3 (.ty "bool")) A2))))) (A7 (A3 N0 (A1 19) (A1 18)))) (B4 (tC3 (.bl false))) B3)))))) T [scr, some (.ref p), x2, some (.lst (ns.map D.str)), some (.lst (cs.map D.int)), some (.int (ia : Nat)), some (.str nm), some (.int m), x8, some (dD d1), some (dD d2), some (.bl w2), some (.int way), some (.lst (xs.map dD)), some (.int wh), some (.ref a), y16, y17, x18, x19] M') :
  (A5 (B1 12 (A6 C8 (A0 (A1 1) (A0 (tC3 (.int 3)) A2)))) (A5 (B1 13 (A3 C1 (D7 (A0 (D7 (A0 (A1 9) A2)) (A0 (D7 (A0 (A1 10) A2)) (A0 (D7 (A0 (A1 9) (A0 (A1 10) A2))) A2)))) (A1 12))) (A5 (B1 14 (A6 C8 (A0 (A1 1) (A0 (B8 D3 (A0 (A1 3) A2)) A2)))) (A5 (B1 15 (U1 A2)) (A5 (L5 (AW (A0 (B8 D3 (A0 (A1 3) A2)) A2)) 16 (A5 (B1 17 (A6 P4 (A0 (A3 C5 (tC3 (.int 1)) (A6 C8 (A0 (A1 1) (A0 (tC3 (.int 2)) A2)))) A2))) (A5 (B9 (A7 (A3 D8 (A1 16) (A1 14))) (B1 17 (A3 C5 (A3 C5 (O8 (A1 17) E5 (G3 (tC3 (.int 1)))) (B8 F2 (A0 (A1 13) A2))) (O8 (A1 17) (G3 (tC3 (.int 1))) E5))) B3) (R8 (HX "list" R0 (A1 15) (A0 (C2 (A0 (A3 C1 (A1 3) (A1 16)) (A0 (B8 F2 (A0 (O8 (D7 (A0 (tC3 (.str "pa")) (A0 (tC3 (.str "pb")) (A0 (tC3 (.str "pc")) A2)))) E5 (G3 (A3 C1 (A1 4) (A1 16)))) A2)) (A0 (A1 17) A2)))) A2)))))) (GA 15 (A5 (B1 18 (A3 D8 (HP (DI (A0 (A1 3) A2))) (B8 D3 (A0 (A1 3) A2)))) (A5 (B9 (A7 (A3 N0 (A1 12) (tC3 (.int 1)))) (B1 18 (C9 (A1 18) (C9 (A3 D8 (A1 6) (A3 C1 (A1 3) (A1 5))) (A3 D8 (A1 7) (A3 C1 (A1 4) (A1 5)))))) B3) (A5 (B9 (A7 (A3 DB (A1 12) (tC3 (.int 0)))) (B1 18 (C9 (A1 18) (A1 11))) B3) (A5 (B1 19 (A6 G1 (A0 (B8 F2 (A0 (A1 15) A2)) A2))) (B9 (O5 (F3 (A7 (B8 F5 (A0 (A1 19) (A0 (tC3 (.ty "bool")) A2))))) (A7 (A3 N0 (A1 19) (A1 18)))) (B4 (tC3 (.bl false))) B3))))))))))) T [scr, some (.ref p), x2, some (.lst (ns.map D.str)), some (.lst (cs.map D.int)), some (.int (ia : Nat)), some (.str nm), some (.int m), x8, some (dD d1), some (dD d2), some (.bl w2), x12, x13, x14, x15, x16, x17, x18, x19] M := by
 have hz : CE1 = 16777216 := CF8
 have h200 : (2 : Int) ^ 200 > 200 := by decide
 have l1 := Dt.l1
 have l8 := Dt.l8
 walk_at "rd"
 refine draw hP (by lia) (by decide) (by decide) fun way M1 w0 w1 hP1 e1 => ?_
 walk_at "rd"
 obtain ⟨xs, hx, hxs⟩ : ∃ xs : List Deed, atI [D.lst [dD d1], .lst [dD d2], .lst [dD d1, dD d2]] way = some (.lst (xs.map dD)) ∧ ((way = 0 ∧ xs = [d1]) ∨ (way = 1 ∧ xs = [d2]) ∨ (way = 2 ∧ xs = [d1, d2])) := by
  have : way = 0 ∨ way = 1 ∨ way = 2 := by lia
  rcases this with rfl | rfl | rfl
  ·exact ⟨[d1], rfl, .inl ⟨rfl, rfl⟩⟩
  ·exact ⟨[d2], rfl, .inr (.inl ⟨rfl, rfl⟩)⟩
  ·exact ⟨[d1, d2], rfl, .inr (.inr ⟨rfl, rfl⟩)⟩
 refine E2 hx ?_
 walk_at "rd"
 rw [CD8]
 refine draw hP1 (by lia) (by lia) (by lia) fun wh M2 h0 h1 hP2 e2 => ?_
 walk_at "rd"
 intro a ha
 have hpa : p ≠ a := PB hP2 ha
 walk_at "rd"
 rw [CD8]
 refine ⟨by lia, by lia, ?_⟩
 walk_at "rd"
 rw [CL3]
 have xg : ∀ d ∈ xs, Good d ∧ dpD d ≤ 4 := fun d hd => by
  have a1 := Dt.p1
  have a2 := Dt.p2
  rcases hxs with ⟨_, rfl⟩ | ⟨_, rfl⟩ | ⟨_, rfl⟩
  ·obtain rfl : d = d1 := by simpa using hd
   exact ⟨Dt.g1, by lia⟩
  ·obtain rfl : d = d2 := by simpa using hd
   exact ⟨Dt.g2, a2⟩
  ·rcases (by simpa using hd : d = d1 ∨ d = d2) with rfl | rfl
   ·exact ⟨Dt.g1, by lia⟩
   ·exact ⟨Dt.g2, a2⟩
 have xc : (xs.map G5).sum ≤ 28 := by
  have a1 := Dt.c1
  have a2 := Dt.c2
  rcases hxs with ⟨_, rfl⟩ | ⟨_, rfl⟩ | ⟨_, rfl⟩ <;> simp <;> lia
 refine ⟨fun k σ M' => ∃ rs : List Rl, (∃ y16 y17, σ = [scr, some (.ref p), x2, some (.lst (ns.map D.str)), some (.lst (cs.map D.int)), some (.int (ia : Nat)), some (.str nm), some (.int m), x8, some (dD d1), some (dD d2), some (.bl w2), some (.int way), some (.lst (xs.map dD)), some (.int wh), some (.ref a), y16, y17, x18, x19]) ∧ Pen M' p (b + 2 + k) ∧ M' a = some (.lst (rs.map rD)) ∧ rs.length = k ∧ ∀ (i : Nat) (r : Rl), rs[i]? = some r → ∃ z c n, ns[i]? = some z ∧ cs[i]? = some c ∧ (n = 1 ∨ n = 2) ∧ r = N1 z c n (if (i : Int) = wh then xs else []), ⟨[], ⟨_, _, rfl⟩, X2 hP2 hpa, B5, rfl, fun i r h => by cases h⟩, ?_, ?_⟩
 ·rintro k d0 σ M' hk ⟨rs, ⟨y16, y17, rfl⟩, hP', hm, hl, hr⟩
  have hk8 : k < ns.length := by
   have h := (List.getElem?_eq_some_iff.mp hk).1
   simpa using h
  obtain rfl : d0 = .int (k : Nat) := by
   rw [CF1, List.getElem?_range hk8] at hk
   exact (Option.some.inj hk).symm
  have hzn : ns[k]? = some ns[k] := CE8 hk8
  have hcn : cs[k]? = some (cs[k]'(by rw [Dt.cl]; exact hk8)) := CE8 _
  generalize ns[k] = z at hzn
  generalize cs[k]'(by rw [Dt.cl]; exact hk8) = c at hcn
  have hc4 := Dt.hcs c (CF5 hcn)
  have hzk : atI (ns.map D.str) ((k : Nat) : Int) = some (.str z) := F1 (by rw [CF1, hzn]; rfl)
  have hck : atI (cs.map D.int) ((k : Nat) : Int) = some (.int c) := F1 (by rw [CF1, hcn]; rfl)
  walk_at "rd"
  refine draw hP' (by lia) (by decide) (by decide) fun j M3 j0 j1 hP3 e3 => ?_
  have hm3 : M3 a = some (.lst (rs.map rD)) := by rw [e3 a hpa.symm]; exact hm
  walk_at "rd"
  obtain ⟨j, rfl⟩ : ∃ n : Nat, j = (n : Int) := ⟨j.toNat, by lia⟩
  rw [show (1 : Int) + (j : Int) = ((1 + j : Nat) : Int) by lia]
  refine ⟨1 + j, rfl, by lia, ?_⟩
  walk_at "rd"
  by_cases hw : ((k : Nat) : Int) = wh
  ·refine B7 (by simpa using hw) ?_
   walk_at "rd"
   have hne : (ntL (1 + j)).length = 1 + j := by unfold ntL; simp
   obtain ⟨q0, qr, eq⟩ : ∃ q0 qr, ntL (1 + j) = q0 :: qr := by
    cases e : ntL (1 + j) with
    | nil => rw [e] at hne; simp at hne; lia
    | cons q0 qr => exact ⟨q0, qr, rfl⟩
   have eb : W7 (1 + j) xs = q0 :: xs ++ qr := by unfold W7; rw [eq]; simp
   have qrl : qr.length ≤ 1 := by rw [eq] at hne; simp at hne; lia
   have xl : xs.length ≤ 2 := by rcases hxs with ⟨_, rfl⟩ | ⟨_, rfl⟩ | ⟨_, rfl⟩ <;> simp
   rw [BA9, eq, show (1 : Int) = ((1 : Nat) : Int) from rfl, CG9, NZ (by simp)]
   refine IE (by simp; lia) ?_
   walk_at "rd"
   rw [show (((1 : Nat)) : Int) = 1 from rfl, BD7]
   refine IE (by simp; lia) ?_
   walk_at "rd"
   rw [show (List.take 1 (dD q0 :: qr.map dD) ++ xs.map dD ++ qr.map dD) = (W7 (1 + j) xs).map dD by rw [eb]; simp]
   refine ⟨.inl ⟨rfl, _, hm3⟩, ?_⟩
   walk_at "rd"
   refine E2 (d := .str z) hzk ?_
   walk_at "rd"
   refine E2 (d := .int c) hck ?_
   walk_at "rd"
   refine FR ?_
   rw [show (c : Int) = ((c.toNat : Nat) : Int) by lia, show [D.str "pa", D.str "pb", D.str "pc"] = par3.map D.str from rfl, NZ (by show c.toNat ≤ 3; lia), ← List.map_take]
   walk_at "rd"
   refine BZ hm3 (by rw [CD8, hl]; lia) ?_
   walk_at "rd"
   refine ⟨rs ++ [N1 z c (1 + j) xs], ⟨_, _, rfl⟩, by rw [show b + 2 + (k + 1) = b + 2 + k + 1 by lia]; exact X2 hP3 hpa, ?_, by rw [CE6, hl]; rfl, fun i r hi => ?_⟩
   ·rw [B5, CG3]
    show some (MO.lst (_ ++ [D.tup [.str z, .tup ((par3.take c.toNat).map D.str), _]])) = some (MO.lst (_ ++ [D.tup [.str z, .tup ((par3.take c.toNat).map D.str), .tup (dB (ofL (W7 (1 + j) xs)))]]))
    rw [IO]
   ·rcases CP6 i rs.length with h | h
    ·rw [CG8 h] at hi
     exact hr i r hi
    ·rw [CG0 h] at hi
     have hi0 : i - rs.length = 0 := by
      cases e : i - rs.length with
      | zero => rfl
      | succ n => rw [e] at hi; simp at hi
     rw [hi0] at hi
     have hik : i = k := by lia
     subst hik
     cases hi
     exact ⟨z, c, 1 + j, hzn, hcn, by lia, by rw [if_pos hw]⟩
  ·refine A4 (by simpa using hw) ?_
   walk_at "rd"
   rw [BA9, show ntL (1 + j) = W7 (1 + j) [] by unfold W7; rw [CM4, List.take_append_drop]]
   refine ⟨.inl ⟨rfl, _, hm3⟩, ?_⟩
   walk_at "rd"
   refine E2 (d := .str z) hzk ?_
   walk_at "rd"
   refine E2 (d := .int c) hck ?_
   walk_at "rd"
   refine FR ?_
   rw [show (c : Int) = ((c.toNat : Nat) : Int) by lia, show [D.str "pa", D.str "pb", D.str "pc"] = par3.map D.str from rfl, NZ (by show c.toNat ≤ 3; lia), ← List.map_take]
   walk_at "rd"
   refine BZ hm3 (by rw [CD8, hl]; lia) ?_
   walk_at "rd"
   refine ⟨rs ++ [N1 z c (1 + j) []], ⟨_, _, rfl⟩, by rw [show b + 2 + (k + 1) = b + 2 + k + 1 by lia]; exact X2 hP3 hpa, ?_, by rw [CE6, hl]; rfl, fun i r hi => ?_⟩
   ·rw [B5, CG3]
    show some (MO.lst (_ ++ [D.tup [.str z, .tup ((par3.take c.toNat).map D.str), _]])) = some (MO.lst (_ ++ [D.tup [.str z, .tup ((par3.take c.toNat).map D.str), .tup (dB (ofL (W7 (1 + j) [])))]]))
    rw [IO]
   ·rcases CP6 i rs.length with h | h
    ·rw [CG8 h] at hi
     exact hr i r hi
    ·rw [CG0 h] at hi
     have hi0 : i - rs.length = 0 := by
      cases e : i - rs.length with
      | zero => rfl
      | succ n => rw [e] at hi; simp at hi
     rw [hi0] at hi
     have hik : i = k := by lia
     subst hik
     cases hi
     exact ⟨z, c, 1 + j, hzn, hcn, by lia, by rw [if_neg hw]⟩
 ·rintro σ M' ⟨rs, ⟨y16, y17, rfl⟩, hP', hm, hl, hr⟩
  simp only [CD8, CL1] at hP' hl
  exact fin way wh xs a rs y16 y17 M' hxs ⟨h0, h1⟩ xg xc hP' hpa hm hl hr
theorem RN : ∀ (ns ys : List Str), ys.Nodup → (∀ z ∈ ys, z ∈ ns) → ns.length ≤ ys.length → ns.Nodup
 | [], _, _, _, _ => List.nodup_nil
 | z :: r, ys, hn, hm, hl => by
  rw [CE7] at hl
  by_cases hz : z ∈ r
  ·have := K10.T7 ys r hn fun y hy => by
    rcases CF9.mp (hm y hy) with rfl | h
    ·exact hz
    ·exact h
   lia
  ·refine CX8.mpr ⟨hz, RN r (ys.erase z) (hn.erase z) (fun y hy => ?_) ?_⟩
   ·have h1 := (hn.mem_erase_iff).mp hy
    rcases CF9.mp (hm y h1.2) with h | h
    ·exact absurd h h1.1
    ·exact h
   ·have := List.length_erase (a := z) (l := ys)
    split at this <;> lia
theorem BA1 {ns ys : List Str} (hn : ys.Nodup) (hm : ∀ z, z ∈ ys ↔ z ∈ ns) : (((ys.length : Nat) : Int) == ((ns.length : Nat) : Int)) = true ↔ ns.Nodup := by
 have h1 := K10.T7 ys ns hn fun y hy => (hm y).mp hy
 constructor
 ·intro h
  have h : ((ys.length : Nat) : Int) = ns.length := by simpa using h
  exact RN ns ys hn (fun y hy => (hm y).mp hy) (by lia)
 ·intro h
  have h2 := K10.T7 ns ys h fun y hy => (hm y).mpr hy
  exact beq_iff_eq.mpr (by lia)
section
variable {ns : List Str} {cs : List Int} {ia : Nat} {za : Str} {ca : Int} {nm : Str} {m : Int} {d1 d2 : Deed} {w2 : Bool} {way wh : Int} {xs : List Deed} {rs : List Rl}
theorem AI6 (hl : rs.length = ns.length) (hr : ∀ (i : Nat) (r : Rl), rs[i]? = some r → ∃ z c n, ns[i]? = some z ∧ cs[i]? = some c ∧ (n = 1 ∨ n = 2) ∧ r = N1 z c n (if (i : Int) = wh then xs else [])) : rs.map (·.name) = ns := by
 refine List.ext_getElem? fun i => ?_
 rw [CF1]
 cases h : rs[i]? with
 | none =>
  have : rs.length ≤ i := List.getElem?_eq_none_iff.mp h
  rw [CY0 (by lia)]; rfl
 | some r =>
  obtain ⟨z, c, n, h1, _, _, rfl⟩ := hr i r h
  rw [h1]; rfl
theorem SS (Dt : Dat ns cs ia za ca nm m d1 d2 w2) (xg : ∀ d ∈ xs, Good d ∧ dpD d ≤ 4) (xc : (xs.map G5).sum ≤ 28) (hr : ∀ (i : Nat) (r : Rl), rs[i]? = some r → ∃ z c n, ns[i]? = some z ∧ cs[i]? = some c ∧ (n = 1 ∨ n = 2) ∧ r = N1 z c n (if (i : Int) = wh then xs else [])) (i : Nat) (r : Rl) (h : rs[i]? = some r) :
  AN6 r ∧ gdB false r.blk = (if (i : Int) = wh then xs else []).all (gdD false) ∧ ∀ kds, (∀ d ∈ dsB r.blk, ∀ t, Et t d → fits kds t) ↔ ∀ d ∈ (if (i : Int) = wh then xs else []), AH kds d := by
 obtain ⟨z, c, n, h1, _, h3, rfl⟩ := hr i r h
 refine AZ9 (Dt.hns z (CF5 h1)).1 h3 ?_ ?_
 ·split
  ·exact xg
  ·intro d hd; cases hd
 ·split
  ·exact xc
  ·simp
theorem answer (Dt : Dat ns cs ia za ca nm m d1 d2 w2) (hxs : (way = 0 ∧ xs = [d1]) ∨ (way = 1 ∧ xs = [d2]) ∨ (way = 2 ∧ xs = [d1, d2])) (hwh : 0 ≤ wh ∧ wh < ns.length) (xg : ∀ d ∈ xs, Good d ∧ dpD d ≤ 4) (xc : (xs.map G5).sum ≤ 28) (hl : rs.length = ns.length)
  (hr : ∀ (i : Nat) (r : Rl), rs[i]? = some r → ∃ z c n, ns[i]? = some z ∧ cs[i]? = some c ∧ (n = 1 ∨ n = 2) ∧ r = N1 z c n (if (i : Int) = wh then xs else [])) :
  ((∀ r ∈ rs, gdB false r.blk = true) ∧ (rs.map (·.name)).Nodup ∧ ∀ r ∈ rs, ∀ d ∈ dsB r.blk, ∀ t, Et t d → fits (cntK rs) t) ↔ ns.Nodup ∧ (way ≠ 1 → nm = za ∧ m = ca) ∧ (0 < way → w2 = true) := by
 have en := AI6 hl hr
 have ok := SS Dt xg xc hr
 obtain ⟨j, hj⟩ : ∃ j : Nat, (j : Int) = wh := ⟨wh.toNat, by lia⟩
 obtain ⟨rw, hrw⟩ : ∃ r, rs[j]? = some r := ⟨_, CE8 (by lia)⟩
 have okw := ok j rw hrw
 rw [if_pos hj] at okw
 have A : (∀ r ∈ rs, gdB false r.blk = true) ↔ xs.all (gdD false) = true := by
  constructor
  ·intro f
   rw [← okw.2.1]; exact f rw (CF5 hrw)
  ·intro f r hm
   obtain ⟨i, hi, rfl⟩ := CR3 hm
   have o := ok i rs[i] (CE8 hi)
   rw [o.2.1]
   split
   ·exact f
   ·rfl
 have B : ∀ kds, (∀ r ∈ rs, ∀ d ∈ dsB r.blk, ∀ t, Et t d → fits kds t) ↔ ∀ d ∈ xs, AH kds d := fun kds => by
  constructor
  ·intro f
   exact (okw.2.2 kds).mp (f rw (CF5 hrw))
  ·intro f r hm
   obtain ⟨i, hi, rfl⟩ := CR3 hm
   have o := ok i rs[i] (CE8 hi)
   rw [o.2.2 kds]
   split
   ·exact f
   ·intro d hd; cases hd
 have at' : ∀ (i : Nat) (z : Str) (c : Int), ns.Nodup → ns[i]? = some z → cs[i]? = some c → F0 (cntK rs) (.inr z) = some (.int c) := fun i z c hn h1 h2 => by
  obtain ⟨r, hri⟩ : ∃ r, rs[i]? = some r := ⟨_, CE8 (by have := (List.getElem?_eq_some_iff.mp h1).1; lia)⟩
  obtain ⟨z', c', n, h3, h4, _, er⟩ := hr i r hri
  rw [h1] at h3
  rw [h2] at h4
  cases h3
  cases h4
  have v := AR5 (rs := rs) (r := r) (by rw [en]; exact hn) (CF5 hri)
  have hc := Dt.hcs c (CF5 h2)
  rw [er] at v
  have e1 : (N1 z c n (if (i : Int) = wh then xs else [])).name = z := rfl
  have e2 : (N1 z c n (if (i : Int) = wh then xs else [])).pars.length = c.toNat := by
   show (par3.take c.toNat).length = _
   rw [CK9]
   show min _ 3 = _
   lia
  rw [e1, e2] at v
  rw [v]
  congr 2
  lia
 have F : ns.Nodup → (AH (cntK rs) d1 ↔ nm = za ∧ m = ca) := fun hn => by
  rw [Dt.f1 (cntK rs) fun z0 c0 h1 h2 h3 => by rw [at' 0 z0 c0 hn h1 h2, h3]]
  have va := at' ia za ca hn Dt.hz Dt.hc
  have hza := (Dt.hns za (CF5 Dt.hz)).2
  rcases Dt.hnm with h | h
  ·subst h
   rw [va]
   simp [eq_comm]
  ·subst h
   have : F0 (cntK rs) (.inr "nobody") = none := BD6 fun r hm e => by
    have : r.name ∈ ns := by rw [← en]; exact CU2 hm
    exact (Dt.hns _ this).2 e
   rw [this]
   constructor
   ·intro z; cases z
   ·rintro ⟨z, _⟩; exact absurd z.symm hza
 rw [A, en, B]
 have q1 := Dt.q1 false
 have q2 := Dt.q2
 rcases hxs with ⟨rfl, rfl⟩ | ⟨rfl, rfl⟩ | ⟨rfl, rfl⟩
 ·constructor
  ·rintro ⟨_, h2, h3⟩
   exact ⟨h2, fun _ => (F h2).mp (h3 d1 (by simp)), fun z => absurd z (by decide)⟩
  ·rintro ⟨h2, h3, _⟩
   exact ⟨by simp [q1], h2, fun d hd => by
    obtain rfl : d = d1 := by simpa using hd
    exact (F h2).mpr (h3 (by decide))⟩
 ·constructor
  ·rintro ⟨h1, h2, h3⟩
   exact ⟨h2, fun z => absurd rfl z, fun _ => by rw [← q2]; simpa using h1⟩
  ·rintro ⟨h2, _, h4⟩
   exact ⟨by simp [q2, h4 (by decide)], h2, fun d hd => by
    obtain rfl : d = d2 := by simpa using hd
    exact Dt.f2 _⟩
 ·constructor
  ·rintro ⟨h1, h2, h3⟩
   exact ⟨h2, fun _ => (F h2).mp (h3 d1 (by simp)), fun _ => by rw [← q2]; simp [q1] at h1; exact h1⟩
  ·rintro ⟨h2, h3, h4⟩
   exact ⟨by simp [q1, q2, h4 (by decide)], h2, fun d hd => by
    rcases (by simpa using hd : d = d1 ∨ d = d2) with rfl | rfl
    ·exact (F h2).mpr (h3 (by decide))
    ·exact Dt.f2 _⟩
end
end K09
open L3
namespace K09
open PySem L2 L3 PK K10
theorem BJ7 {b : Nat} {M' : Mem} {scr x2 x8 x18 x19 y16 y17 : Option D} {ns : List Str} {cs : List Int} {ia : Nat} {za : Str} {ca : Int} {nm : Str} {m : Int} {d1 d2 : Deed} {w2 : Bool} {way wh : Int} {xs : List Deed} (Dt : Dat ns cs ia za ca nm m d1 d2 w2)
  (hxs : (way = 0 ∧ xs = [d1]) ∨ (way = 1 ∧ xs = [d2]) ∨ (way = 2 ∧ xs = [d1, d2])) (hwh : 0 ≤ wh ∧ wh < ns.length) (xg : ∀ d ∈ xs, Good d ∧ dpD d ≤ 4) (xc : (xs.map G5).sum ≤ 28) (hP : Pen M' p b) (hpa : p ≠ a) (hm : M' a = some (.lst (rs.map rD))) (hl : rs.length = ns.length)
  (hr : ∀ (i : Nat) (r : Rl), rs[i]? = some r → ∃ z c n, ns[i]? = some z ∧ cs[i]? = some c ∧ (n = 1 ∨ n = 2) ∧ r = N1 z c n (if (i : Int) = wh then xs else [])) (T : L1)
  (nx : ∀ y12 y13 y14 y15 y16 y17 y18 y19 M', Pen M' p b → T.nx [scr, some (.ref p), x2, some (.lst (ns.map D.str)), some (.lst (cs.map D.int)), some (.int (ia : Nat)), some (.str nm), some (.int m), x8, some (dD d1), some (dD d2), some (.bl w2), y12, y13, y14, y15, y16, y17, y18, y19] M') :
  (GA 15 (A5 (B1 18 (A3 D8 (HP (DI (A0 (A1 3) A2))) (B8 D3 (A0 (A1 3) A2)))) (A5 (B9 (A7 (A3 N0 (A1 12) (tC3 (.int 1)))) (B1 18 (C9 (A1 18) (C9 (A3 D8 (A1 6) (A3 C1 (A1 3) (A1 5))) (A3 D8 (A1 7) (A3 C1 (A1 4) (A1 5)))))) B3) (A5 (B9 (A7 (A3 DB (A1 12) (tC3 (.int 0)))) (B1 18 (C9 (A1 18) (A1 11))) B3) (A5 (B1 19 (A6 G1 (A0 (B8 F2 (A0 (A1 15) A2)) A2))) (B9 (O5 (F3 (A7 (B8 F5 (A0 (A1 19) (A0 (tC3 (.ty "bool")) A2))))) (A7 (A3 N0 (A1 19) (A1 18)))) (B4 (tC3 (.bl false))) B3)))))) T [scr, some (.ref p), x2, some (.lst (ns.map D.str)), some (.lst (cs.map D.int)), some (.int (ia : Nat)), some (.str nm), some (.int m), x8, some (dD d1), some (dD d2), some (.bl w2), some (.int way), some (.lst (xs.map dD)), some (.int wh), some (.ref a), y16, y17, x18, x19] M' := by
 have l1 := Dt.l1
 have l8 := Dt.l8
 have ans := answer Dt hxs hwh xg xc hl hr
 with_reducible refine AO2 rfl hm ?_
 have hP2 : Pen (K4 M' a) p b := YC hP hpa
 generalize K4 M' a = M2 at hP2
 have lst : ∀ u : Bool, (u = true ↔ ns.Nodup ∧ (way ≠ 1 → nm = za ∧ m = ca) ∧ (0 < way → w2 = true)) → (A5 (B1 19 (A6 G1 (A0 (B8 F2 (A0 (A1 15) A2)) A2))) (B9 (O5 (F3 (A7 (B8 F5 (A0 (A1 19) (A0 (tC3 (.ty "bool")) A2))))) (A7 (A3 N0 (A1 19) (A1 18)))) (B4 (tC3 (.bl false))) B3)) T [scr, some (.ref p), x2, some (.lst (ns.map D.str)), some (.lst (cs.map D.int)), some (.int (ia : Nat)), some (.str nm), some (.int m), x8, some (dD d1), some (dD d2), some (.bl w2), some (.int way), some (.lst (xs.map dD)), some (.int wh), some (.lst (rs.map rD)), y16, y17, some (.bl u), x19] M2 := by
  intro u hu
  walk_at "rd"
  refine ⟨rs, rfl, by lia, by lia, fun r hrm => ?_, fun v hv => ?_⟩
  ·obtain ⟨i, hi, rfl⟩ := CR3 hrm
   exact (SS Dt xg xc hr i rs[i] (CE8 hi)).1
  ·have e : v = u := by
    rw [ans, ← hu] at hv
    cases u <;> cases v <;> simp at hv ⊢
   subst e
   walk_at "rd"
   refine K01.Q6 trivial ?_
   walk_at "rd"
   refine A4 rfl ?_
   walk_at "rd"
   rw [beq_self_eq_true]
   walk_at "rd"
   exact nx _ _ _ _ _ _ _ _ _ hP2
 have mid : ∀ u : Bool, (u = true ↔ ns.Nodup ∧ (way ≠ 1 → nm = za ∧ m = ca)) → (A5 (B9 (A7 (A3 DB (A1 12) (tC3 (.int 0)))) (B1 18 (C9 (A1 18) (A1 11))) B3) (A5 (B1 19 (A6 G1 (A0 (B8 F2 (A0 (A1 15) A2)) A2))) (B9 (O5 (F3 (A7 (B8 F5 (A0 (A1 19) (A0 (tC3 (.ty "bool")) A2))))) (A7 (A3 N0 (A1 19) (A1 18)))) (B4 (tC3 (.bl false))) B3))) T [scr, some (.ref p), x2, some (.lst (ns.map D.str)), some (.lst (cs.map D.int)), some (.int (ia : Nat)), some (.str nm), some (.int m), x8, some (dD d1), some (dD d2), some (.bl w2), some (.int way), some (.lst (xs.map dD)), some (.int wh), some (.lst (rs.map rD)), y16, y17, some (.bl u), x19] M2 := by
  intro u hu
  walk_at "rd"
  refine EA (fun h => ?_) (fun h => ?_)
  ·walk_at "rd"
   cases u with
   | false =>
    refine A4 rfl ?_
    refine lst false ⟨fun z => (nomatch z), fun z => hu.mpr ⟨z.1, z.2.1⟩⟩
   | true =>
    refine B7 rfl ?_
    walk_at "rd"
    have hu := hu.mp rfl
    exact lst w2 ⟨fun z => ⟨hu.1, hu.2, fun _ => z⟩, fun z => z.2.2 h⟩
  ·exact lst u ⟨fun z => ⟨(hu.mp z).1, (hu.mp z).2, fun z2 => absurd z2 h⟩, fun z => hu.mpr ⟨z.1, z.2.1⟩⟩
 walk_at "rd"
 refine ⟨_, ns, rfl, rfl, by rw [IH]; lia, fun ys nd mem => ?_⟩
 walk_at "rd"
 rw [CD8]
 have D0 := BA1 nd mem
 generalize (((ys.length : Nat) : Int) == ((ns.length : Nat) : Int)) = u at D0 ⊢
 have hzk : atI (ns.map D.str) ((ia : Nat) : Int) = some (.str za) := F1 (by rw [CF1, Dt.hz]; rfl)
 have hck : atI (cs.map D.int) ((ia : Nat) : Int) = some (.int ca) := F1 (by rw [CF1, Dt.hc]; rfl)
 by_cases h1 : way = 1
 ·refine A4 (by rw [h1]; rfl) ?_
  exact mid u ⟨fun z => ⟨D0.mp z, fun z2 => absurd h1 z2⟩, fun z => D0.mpr z.1⟩
 ·refine B7 (by rw [beq_eq_false_iff_ne.mpr h1]; rfl) ?_
  walk_at "rd"
  cases u with
  | false =>
   refine A4 rfl ?_
   exact mid false ⟨fun z => (nomatch z), fun z => D0.mpr z.1⟩
  | true =>
   refine B7 rfl ?_
   walk_at "rd"
   refine E2 hzk ?_
   walk_at "rd"
   have hn := D0.mp rfl
   by_cases h2 : nm = za
   ·refine B7 (beq_iff_eq.mpr h2) ?_
    walk_at "rd"
    refine E2 hck ?_
    refine T8 ?_
    exact mid (m == ca) ⟨fun z => ⟨hn, fun _ => ⟨h2, by simpa using z⟩⟩, fun z => beq_iff_eq.mpr (z.2 h1).2⟩
   ·refine A4 (beq_eq_false_iff_ne.mpr h2) ?_
    exact mid false ⟨fun z => (nomatch z), fun z => absurd (z.2 h1).1 h2⟩
end K09
open L3
namespace K09
open PySem L2 L3 PK K10
theorem AU {α : Type} (x : α) : ∀ n : Nat, (CD7 n [x]).flatten = CD7 n x
 | 0 => rfl
 | n + 1 => by rw [CR1, CS5, AU x n]; rfl
theorem AT0 : ∀ ds M Q, L3.EM ds M Q → ds.length = 1 := by rintro _ _ _ ⟨_, rfl, _⟩; rfl
theorem BK0 : ∀ ds M Q, L3.EM ds M Q → YS { nx := fun _ M' => View Q .non M', rt := View Q } (B2 AD5 ds) M := by
 rintro _ M Q ⟨scr, rfl, hl, hM, q⟩
 have hz : CE1 = 16777216 := CF8
 have h200 : (2 : Int) ^ 200 > 200 := by decide
 rw [BN5]
 unfold YS
 walk_at "rd"
 refine ⟨scr, rfl, hl, fun p M1 hp hP0 _ => ?_⟩
 walk_at "rd"
 refine ⟨fun k σ M => (∃ x2 x3 x4 x5 x6 x7 x8 x9 x10 x11 x12 x13 x14 x15 x16 x17 x18 x19 : Option D, σ = [some (.lst (scr.map D.int)), some (.ref p), x2, x3, x4, x5, x6, x7, x8, x9, x10, x11, x12, x13, x14, x15, x16, x17, x18, x19]) ∧ Pen M p (k * 200), ⟨⟨none, none, none, none, none, none, none, none, none, none, none, none, none, none, none, none, none, none, rfl⟩, by simpa using hP0⟩, ?_, ?_⟩
 ·rintro k d σ M2 hk ⟨⟨x2, x3, x4, x5, x6, x7, x8, x9, x10, x11, x12, x13, x14, x15, x16, x17, x18, x19, rfl⟩, hP⟩
  have hk14 : k < 14 := by
   have h := (List.getElem?_eq_some_iff.mp hk).1
   simpa using h
  walk_at "rd"
  refine ⟨p, _, rfl, hP, by lia, fun ns M3 n1 n8 hns hP3 => ?_⟩
  walk_at "rd"
  refine ZC (q := p) 1 (fun _ _ e => ∃ c : Int, e = .int c ∧ 0 ≤ c ∧ c < 4) hP3 (by rw [CD8, hz]; lia) ?_ ?_
  ·intro k2 dk M4 R F hk2 hP4 _ hR
   have hk8 : k2 < ns.length := by
    have h := (List.getElem?_eq_some_iff.mp hk2).1
    simpa using h
   walk_at "rd"
   refine draw hP4 (by lia) (by decide) (by decide) fun n M5 n0 n1 hP5 e5 => ?_
   exact hR _ _ ⟨n, rfl, n0, n1⟩ (F7 hP5 (by lia)) e5
  intro acc M4 hal hacc hP4 _
  obtain ⟨cs, rfl, hcs⟩ := IU (f := D.int) (P := fun c => 0 ≤ c ∧ c < 4) fun e he => by
   obtain ⟨_, _, _, c, hc, h2⟩ := AE4 hal hacc e he
   exact ⟨c, hc, h2⟩
  rw [CD8, CD8] at hal
  rw [CD8] at hP4
  walk_at "rd"
  rw [CD8]
  refine draw hP4 (by lia) (by lia) (by lia) fun at' M5 t0 t1 hP5 _ => ?_
  obtain ⟨ia, rfl⟩ : ∃ n : Nat, at' = (n : Int) := ⟨at'.toNat, by lia⟩
  have hia : ia < ns.length := by lia
  have hzn : ns[ia]? = some ns[ia] := CE8 hia
  have hcn : cs[ia]? = some (cs[ia]'(by lia)) := CE8 _
  generalize ns[ia] = za at hzn
  generalize cs[ia]'(by lia) = ca at hcn
  have hzk : atI (ns.map D.str) ((ia : Nat) : Int) = some (.str za) := F1 (by rw [CF1, hzn]; rfl)
  have hck : atI (cs.map D.int) ((ia : Nat) : Int) = some (.int ca) := F1 (by rw [CF1, hcn]; rfl)
  have hca := hcs ca (CF5 hcn)
  walk_at "rd"
  refine E2 hzk ?_
  walk_at "rd"
  refine E2 hzk ?_
  walk_at "rd"
  refine E2 hzk ?_
  walk_at "rd"
  refine draw hP5 (by lia) (by decide) (by decide) fun i6 M6 i60 i61 hP6 _ => ?_
  obtain ⟨nm, hnk, hnm⟩ : ∃ nm : Str, atI [D.str za, .str za, .str za, .str "nobody"] i6 = some (.str nm) ∧ (nm = za ∨ nm = "nobody") := by
   have : i6 = 0 ∨ i6 = 1 ∨ i6 = 2 ∨ i6 = 3 := by lia
   rcases this with rfl | rfl | rfl | rfl
   ·exact ⟨za, rfl, .inl rfl⟩
   ·exact ⟨za, rfl, .inl rfl⟩
   ·exact ⟨za, rfl, .inl rfl⟩
   ·exact ⟨"nobody", rfl, .inr rfl⟩
  refine E2 hnk ?_
  walk_at "rd"
  refine E2 hck ?_
  walk_at "rd"
  refine E2 hck ?_
  walk_at "rd"
  refine draw hP6 (by lia) (by decide) (by decide) fun m7 M7 m70 m71 hP7 _ => ?_
  walk_at "rd"
  refine draw hP7 (by lia) (by decide) (by decide) fun i8 M8 i80 i81 hP8 _ => ?_
  obtain ⟨m, hmk, hm0, hm3⟩ : ∃ m : Int, atI [D.int ca, .int ca, .int m7] i8 = some (.int m) ∧ 0 ≤ m ∧ m ≤ 3 := by
   have : i8 = 0 ∨ i8 = 1 ∨ i8 = 2 := by lia
   rcases this with rfl | rfl | rfl
   ·exact ⟨ca, rfl, by lia, by lia⟩
   ·exact ⟨ca, rfl, by lia, by lia⟩
   ·exact ⟨m7, rfl, by lia, by lia⟩
  refine E2 hmk ?_
  walk_at "rd"
  have z8 : 0 < ns.length := by lia
  have hz0 : ns[0]? = some ns[0] := CE8 z8
  have hc0 : cs[0]? = some (cs[0]'(by lia)) := CE8 _
  generalize ns[0] = z0 at hz0
  generalize cs[0]'(by lia) = c0 at hc0
  have hzk0 : atI (ns.map D.str) (0 : Int) = some (.str z0) := F1 (j := 0) (by rw [CF1, hz0]; rfl)
  have hck0 : atI (cs.map D.int) (0 : Int) = some (.int c0) := F1 (j := 0) (by rw [CF1, hc0]; rfl)
  have nobody : isN "nobody" := ⟨⟨by unfold ltr; decide +kernel, by decide +kernel, by decide +kernel⟩, by decide +kernel⟩
  have hnmN : isN nm := by
   rcases hnm with h | h
   ·rw [h]; exact (hns za (CF5 hzn)).1
   ·rw [h]; exact nobody
  have cont : ∀ (l : List Ex) (M9 : Mem) (T : L1), l.length = m.toNat → (∀ e ∈ l, lf e) → Pen M9 p (k * 200 + 60) → (∀ y2 y3 y4 y5 y6 y7 y8 y9 y10 y11 y12 y13 y14 y15 y16 y17 y18 y19 M', Pen M' p ((k + 1) * 200) → T.nx [some (.lst (scr.map D.int)), some (.ref p), y2, y3, y4, y5, y6, y7, y8, y9, y10, y11, y12, y13, y14, y15, y16, y17, y18, y19] M') →
    (A5 (B1 9 (A3 C1 (A6 O2 (A0 (A1 1) (A0 (A6 HC (A0 (A1 1) (A0 (A6 CJ (A0 (A1 1) (A0 (A1 8) (A0 (A3 C1 (A1 3) (tC3 (.int 0))) (A0 (A3 C1 (A1 4) (tC3 (.int 0))) A2))))) A2))) (A0 (A6 C8 (A0 (A1 1) (A0 (tC3 (.int 3)) A2))) A2)))) (tC3 (.int 0)))) (A5 (TM (XH [10, 11]) (A6 O2 (A0 (A1 1) (A0 (C2 (A0 (tC3 (.str "leave")) A2)) (A0 (A6 C8 (A0 (A1 1) (A0 (tC3 (.int 5)) A2))) A2))))) (A5 (B1 12 (A6 C8 (A0 (A1 1) (A0 (tC3 (.int 3)) A2)))) (A5 (B1 13 (A3 C1 (D7 (A0 (D7 (A0 (A1 9) A2)) (A0 (D7 (A0 (A1 10) A2)) (A0 (D7 (A0 (A1 9) (A0 (A1 10) A2))) A2)))) (A1 12))) (A5 (B1 14 (A6 C8 (A0 (A1 1) (A0 (B8 D3 (A0 (A1 3) A2)) A2)))) (A5 (B1 15 (U1 A2)) (A5 (L5 (AW (A0 (B8 D3 (A0 (A1 3) A2)) A2)) 16 (A5 (B1 17 (A6 P4 (A0 (A3 C5 (tC3 (.int 1)) (A6 C8 (A0 (A1 1) (A0 (tC3 (.int 2)) A2)))) A2))) (A5 (B9 (A7 (A3 D8 (A1 16) (A1 14))) (B1 17 (A3 C5 (A3 C5 (O8 (A1 17) E5 (G3 (tC3 (.int 1)))) (B8 F2 (A0 (A1 13) A2))) (O8 (A1 17) (G3 (tC3 (.int 1))) E5))) B3) (R8 (HX "list" R0 (A1 15) (A0 (C2 (A0 (A3 C1 (A1 3) (A1 16)) (A0 (B8 F2 (A0 (O8 (D7 (A0 (tC3 (.str "pa")) (A0 (tC3 (.str "pb")) (A0 (tC3 (.str "pc")) A2)))) E5 (G3 (A3 C1 (A1 4) (A1 16)))) A2)) (A0 (A1 17) A2)))) A2)))))) (GA 15 (A5 (B1 18 (A3 D8 (HP (DI (A0 (A1 3) A2))) (B8 D3 (A0 (A1 3) A2)))) (A5 (B9 (A7 (A3 N0 (A1 12) (tC3 (.int 1)))) (B1 18 (C9 (A1 18) (C9 (A3 D8 (A1 6) (A3 C1 (A1 3) (A1 5))) (A3 D8 (A1 7) (A3 C1 (A1 4) (A1 5)))))) B3) (A5 (B9 (A7 (A3 DB (A1 12) (tC3 (.int 0)))) (B1 18 (C9 (A1 18) (A1 11))) B3) (A5 (B1 19 (A6 G1 (A0 (B8 F2 (A0 (A1 15) A2)) A2))) (B9 (O5 (F3 (A7 (B8 F5 (A0 (A1 19) (A0 (tC3 (.ty "bool")) A2))))) (A7 (A3 N0 (A1 19) (A1 18)))) (B4 (tC3 (.bl false))) B3))))))))))))) T [some (.lst (scr.map D.int)), some (.ref p), some d, some (.lst (ns.map D.str)), some (.lst (cs.map D.int)), some (.int (ia : Nat)), some (.str nm), some (.int m), some (eD (.make nm (J9 l))), x9, x10, x11, x12, x13, x14, x15, x16, x17, x18, x19] M9 := by
   intro l M9 T hll hlf hP9 hT
   obtain ⟨mk1, mk2⟩ := BQ6 hnmN (l := l) (by lia) hlf
   walk_at "rd"
   refine E2 hzk0 ?_
   walk_at "rd"
   refine E2 hck0 ?_
   walk_at "rd"
   refine ⟨p, _, .make nm (J9 l), z0, c0, rfl, mk1, (hns z0 (CF5 hz0)).1, hP9, by lia, fun e' M10 v1 v2 v3 v4 vf hP10 _ => ?_⟩
   walk_at "rd"
   refine ⟨p, _, e', rfl, ⟨v1, v2, v3, v4⟩, hP10, by lia, fun dc M11 g c dpp gd ft hP11 _ => ?_⟩
   walk_at "rd"
   refine draw hP11 (by lia) (by decide) (by decide) fun n3 M12 n30 n31 hP12 _ => ?_
   obtain ⟨n3, rfl⟩ : ∃ n : Nat, n3 = (n : Int) := ⟨n3.toNat, by lia⟩
   walk_at "rd"
   refine ⟨p, _, dc, n3, rfl, by lia, hP12, by lia, fun d1 w1 M13 u1 hP13 _ => ?_⟩
   walk_at "rd"
   refine E2 (d := dD d1) rfl ?_
   walk_at "rd"
   refine draw hP13 (by lia) (by decide) (by decide) fun n5 M14 n50 n51 hP14 _ => ?_
   obtain ⟨n5, rfl⟩ : ∃ n : Nat, n5 = (n : Int) := ⟨n5.toNat, by lia⟩
   walk_at "rd"
   refine ⟨p, _, lvD, n5, rfl, by lia, hP14, by lia, fun d2 w2 M15 u2 hP15 _ => ?_⟩
   refine AZ3 rfl ?_
   have Dt : Dat ns cs ia za ca nm m d1 d2 w2 := {
    l1 := n1
    l8 := n8
    cl := by lia
    hns := hns
    hcs := hcs
    hz := hzn
    hc := hcn
    hnm := hnm
    hm := ⟨hm0, hm3⟩
    g1 := u1.good g
    c1 := by have := u1.cnt; lia
    p1 := by have := u1.dep; lia
    q1 := fun lp => by rw [u1.gd]; exact gd _
    f1 := fun kds hk => by
     rw [u1.fit, ft, vf kds (fun e1 => hk z0 c0 hz0 hc0 e1), mk2, hll, show ((m.toNat : Nat) : Int) = m by lia]
    g2 := u2.good AT4
    c2 := by
     have := u2.cnt
     have : G5 lvD = 1 := by simp [lvD, G5, L4]
     lia
    p2 := by
     have := u2.dep
     have : dpD lvD = 0 := by simp [lvD, dpD, AG]
     lia
    q2 := by rw [u2.gd, BQ4, Bool.false_or]
    f2 := fun kds => (u2.fit kds).mpr (BF2 kds) }
   exact AZ8 Dt hP15 (by lia) T fun way wh xs a rs y16 y17 M' a1 a2 a3 a4 a5 a6 a7 a8 a9 => BJ7 Dt a1 a2 a3 a4 a5 a6 a7 a8 a9 T fun y12 y13 y14 y15 y16 y17 y18 y19 M'' hp => hT _ _ _ _ _ _ _ _ _ _ _ _ _ _ _ _ _ _ M'' (F7 hp (by lia))
  refine PM (by split <;> lia) (by split <;> lia) (by simp) ?_
  walk_at "rd"
  refine PM (by split <;> lia) (by split <;> lia) (by simp) ?_
  refine N6 (by rw [AU, AU, CH6, CH6, hz]; split <;> lia) ?_
  walk_at "rd"
  have em0 : D.tup [.str "make", .str nm, .tup ((CD7 (if 1 < m then 1 else m).toNat [D.tup [.str "none"]]).flatten ++ (CD7 (m - (if 1 < m then 1 else m)).toNat [D.tup [.str "var", .str "y"]]).flatten)] = eD (.make nm (J9 (CD7 (if 1 < m then 1 else m).toNat .none ++ CD7 (m - (if 1 < m then 1 else m)).toNat (.var "y")))) := by
   simp only [eD, UP, CG3, CR9, AU]
  have em1 : D.tup [.str "make", .str nm, .tup (CD7 m.toNat [D.tup [.str "number", .int (-1)]]).flatten] = eD (.make nm (J9 (CD7 m.toNat (.num (-1))))) := by
   simp only [eD, UP, CR9, AU]
  have l0 : (CD7 (if 1 < m then 1 else m).toNat Ex.none ++ CD7 (m - (if 1 < m then 1 else m)).toNat (Ex.var "y")).length = m.toNat := by
   rw [CE6, CH6, CH6]
   split <;> lia
  have lf0 : ∀ e ∈ CD7 (if 1 < m then 1 else m).toNat Ex.none ++ CD7 (m - (if 1 < m then 1 else m)).toNat (Ex.var "y"), lf e := fun e he => by
   rcases CJ1.mp he with h | h
   ·rw [CV9 h]; exact AT2
   ·rw [CV9 h]; exact CA9
  rw [em0]
  have fin : ∀ (y2 y3 y4 y5 y6 y7 y8 y9 y10 y11 y12 y13 y14 y15 y16 y17 y18 y19 : Option D) (M' : Mem), Pen M' p ((k + 1) * 200) → (∃ x2 x3 x4 x5 x6 x7 x8 x9 x10 x11 x12 x13 x14 x15 x16 x17 x18 x19 : Option D, ([some (.lst (scr.map D.int)), some (.ref p), y2, y3, y4, y5, y6, y7, y8, y9, y10, y11, y12, y13, y14, y15, y16, y17, y18, y19] : Lo) = [some (.lst (scr.map D.int)), some (.ref p), x2, x3, x4, x5, x6, x7, x8, x9, x10, x11, x12, x13, x14, x15, x16, x17, x18, x19]) ∧ Pen M' p ((k + 1) * 200) := fun y2 y3 y4 y5 y6 y7 y8 y9 y10 y11 y12 y13 y14 y15 y16 y17 y18 y19 M' hp => ⟨⟨_, _, _, _, _, _, _, _, _, _, _, _, _, _, _, _, _, _, rfl⟩, hp⟩
  by_cases h1 : 1 < m
  ·refine B7 (decide_eq_true h1) ?_
   walk_at "rd"
   refine draw hP8 (by lia) (by decide) (by decide) fun j M9 j0 j1 hP9 _ => ?_
   refine SD ?_
   refine T8 ?_
   refine G9 ?_
   cases e0 : (j == 0) with
   | true =>
    refine E3 ?_
    walk_at "rd"
    refine AZ7 (by lia) (by lia) (by simp) (by simp) ?_
    refine BL ?_
    refine ⟨by rw [hz]; simp, ?_⟩
    rw [em1]
    exact cont _ M9 _ (by simp) (fun e he => by rw [CV9 he]; exact BQ2) (F7 hP9 (by lia)) fin
   | false =>
    refine E1 ?_
    exact cont _ M9 _ l0 lf0 (F7 hP9 (by lia)) fin
  ·refine A4 (decide_eq_false h1) ?_
   refine E1 ?_
   exact cont _ M8 _ l0 lf0 (F7 hP8 (by lia)) fin
 ·rintro σ M2 ⟨⟨x2, x3, x4, x5, x6, x7, x8, x9, x10, x11, x12, x13, x14, x15, x16, x17, x18, x19, rfl⟩, hP⟩
  walk_at "rd"
  exact View.of (q _)
end K09
namespace L3
open PySem PySem.Spec PyProof.Rows L2
theorem AA4 {X : Cx}
  (hc : X.calm = true) (hi : EU X tg iter ti) (hkind : scope.kind = .function) (hcell : ∀ y ∈ scope.names, y.2 ≠ .cell)
  (hnames : ∀ y ∈ scope.names, y.2 = .local → scope.names.lookup y.1 = some .local)
  (hfree : ∀ y ∈ scope.names, y.2 = .free → X.env.kindOf y.1 = some .cell ∨ X.env.kindOf y.1 = some .free)
  (hcf : ∀ y ∈ caps, scope.names.lookup y = some .free) (hcaps : slots.map (fun j => X.N[j]?) = caps.map some)
  (hgk : ∀ d M Q (cs : Lo), g d (CD7 tns.length none ++ cs) M Q → g d (CD7 tns.length none ++ cs) M (fun σ' M' => σ'.drop tns.length = cs ∧ Q σ' M'))
  (hg : ∀ cl s₀ H₀ ex, PG3 (B0 X scope cl s₀ H₀ ex (tns ++ caps)) tg g)
  (ht : ∀ cl s₀ H₀ ex, W6 (B0 X scope cl s₀ H₀ ex (tns ++ caps)) ifs tt) (he : ∀ cl s₀ H₀ ex, PE3 (B0 X scope cl s₀ H₀ ex (tns ++ caps)) kx tk) (hv : ∀ cl s₀ H₀ ex, PE3 (B0 X scope cl s₀ H₀ ex (tns ++ caps)) vx tv)
  (hs : ∀ y, CG6 iter X.env y = pure y := by intro _; rfl) :
  PE3 X (.DictComp kx vx [⟨tg, iter, ifs, 0⟩] scope pos) (II ti tns.length slots g tt tk tv) := by
 intro pins s σv H σ M Q I hS hM h
 rw [arm_eval_DictComp]
 refine UL hc hi hkind hcell hnames hfree hcf hcaps hgk hg ht he hv hs (use := none) (F := fun p _ M => Q (.ref p) M) I hS hM h fun D C acc H5 M5 s6 m hn I7 c1 c2 c3 c4 c5 c6 st m5 hp hq => ?_
 exact ⟨m, hn, fun h' sb => ⟨.ref D, .ref D, M5, H5, I7.turned (t' := s6.toks) (it := C) (fun b o hb e => (sb.2 b hb).trans e) c1 c2 (.inr c4) c5 c6, st, m5, rfl, .ref, hq⟩⟩
theorem VD {X : Cx} (tns caps : List Str) (slots : List Nat)
  (hc : X.calm = true) (hi : EU X tg iter ti) (hkind : scope.kind = .function) (hok : J1 X.env scope caps = true) (hcaps : slots.map (fun j => X.N[j]?) = caps.map some)
  (hgk : ∀ d M Q (cs : Lo), g d (CD7 tns.length none ++ cs) M Q → g d (CD7 tns.length none ++ cs) M (fun σ' M' => σ'.drop tns.length = cs ∧ Q σ' M'))
  (hg : ∀ cl s₀ H₀ ex, PG3 (B0 X scope cl s₀ H₀ ex (tns ++ caps)) tg g)
  (ht : ∀ cl s₀ H₀ ex, W6 (B0 X scope cl s₀ H₀ ex (tns ++ caps)) ifs tt) (he : ∀ cl s₀ H₀ ex, PE3 (B0 X scope cl s₀ H₀ ex (tns ++ caps)) kx tk) (hv : ∀ cl s₀ H₀ ex, PE3 (B0 X scope cl s₀ H₀ ex (tns ++ caps)) vx tv)
  (hs : ∀ y, CG6 iter X.env y = pure y := by intro _; rfl) :
  PE3 X (.DictComp kx vx [⟨tg, iter, ifs, 0⟩] scope pos) (II ti tns.length slots g tt tk tv) := by
 unfold J1 at hok
 rw [CH5, CF7, CF7] at hok
 obtain ⟨h1, h2⟩ := hok
 refine AA4 hc hi hkind (fun y hy e => ?_) (fun y hy e => ?_) (fun y hy e => ?_) (fun y hy => ?_) hcaps hgk hg ht he hv hs
 ·have := h1 y hy; rw [e] at this; cases this
 ·have := h1 y hy
  rw [e] at this
  dsimp only at this
  split at this
  ·assumption
  ·cases this
 ·have := h1 y hy
  rw [e] at this
  dsimp only at this
  split at this
  ·exact .inl (by assumption)
  ·exact .inr (by assumption)
  ·cases this
 ·have := h2 y hy
  split at this
  ·assumption
  ·cases this
def Fg (K : CE0) (x : Str) (st : Stmt) : Prop := ∃ (f : Addr) (oc : Value) (od an : Option Addr) (osl : Array (Option Value)) (kV doc pm cdv ct : Value),
 CI1 K CG1 x = some (some (.ref f)) ∧ K.lookup f = some ⟨oc, od, .func (CM0 x x (N4 st) (I0 st) (A9 st) .none kV doc pm an cdv ct), osl⟩ ∧
 CS0 K cdv x = true ∧ CP9 K (.ref f) = true
theorem Fg.of {f : Addr} {kV : Value}
  (a : CI1 K CG1 x = some (some (.ref f))) (l : K.lookup f = some ⟨oc, od, .func (CM0 x x (N4 st) (I0 st) (A9 st) .none kV doc pm an cdv ct), osl⟩)
  (c : CS0 K cdv x = true) (k : CP9 K (.ref f) = true) : Fg K x st := ⟨f, oc, od, an, osl, kV, doc, pm, cdv, ct, a, l, c, k⟩
def Bd (x : Str) (st : Stmt) (ps : List Str) : Prop := ∀ (kV doc pm : Value) (an : Option Addr) (cdv ct : Value) (us : List Value), us.length = ps.length → bindArgs (CM0 x x (N4 st) (I0 st) (A9 st) .none kV doc pm an cdv ct) ⟨us, []⟩ = pure (ps.zip us)
section
variable {K : CE0} {h : Heap} {mg : Str → Option Value} {x : Str} {st : Stmt} {fa : Addr} (X : K.In h) (G : h.Ns CG1 mg)
include X G
theorem Fg.at (hb : Bd x st ps) (p : Fg K x st) : ∃ f fd, FnAt K mg x st ps f fd := by
 obtain ⟨f, oc, od, an, osl, kV, doc, pm, cdv, ct, a, l, c, k⟩ := p
 exact ⟨f, _, XG X G a l c k hb⟩
theorem Fg.law {q : Str} (hfa : mg x = some (.ref fa)) (hb : Bd x st [q]) (p : Fg K x st) : ∃ fd, FnAt K mg x st [q] fa fd ∧ ∀ (s : CD9) (v : Value), BindsTo s fd ⟨[v], []⟩ [(q, v)] := by
 obtain ⟨f, oc, od, an, osl, kV, doc, pm, cdv, ct, a, l, c, k⟩ := p
 cases hfa.symm.trans (CR4 X G a)
 exact ⟨_, XG X G a l c k hb, fun s v => .of_eq (hb kV doc pm an cdv ct [v] rfl)⟩
end
abbrev FO (P : CI2) (w : World) (K : CE0) (mg : Str → Option Value) (base : Heap) (r : Nat) (f : Addr) (fd : CH0) (ps : List Str) (sp : Sp3) : Prop := FnOk P w K mg base CX0 r f fd ps (IP K sp)
def Kc (K : CE0) (x : Str) (v : Tok → Value) : Prop := ∃ tk, CI1 K CG1 x = some (some (v tk))
theorem Kc.of {v : Tok → Value} {tk : Tok} (a : CI1 K CG1 x = some (some (v tk))) : Kc K x v := ⟨tk, a⟩
theorem Kc.at {v : Tok → Value} (X : K.In h) (G : h.Ns CG1 mg) (p : Kc K x v) : ∃ tk, mg x = some (v tk) := p.elim fun tk a => ⟨tk, CR4 X G a⟩
section
variable {X : Cx} {pos : Pos} {f : Addr} {fd : CH0} {ps : List Str} {k : Nat} {x : Str} {p : Pos} {sp : Sp3} {e : Expr} {es : List Expr} {t : TA3} {st : Stmt}
theorem AA1 (F : FnOk X.prog X.w X.K X.mg X.base CX0 k f fd ps (IP X.K sp)) (A : FnAt X.K X.mg x st ps f fd) (hr : Room k X.A)
  (ha : PA3 X (e :: es) t) (hg : Gl X x := by exact rfl) (hdb : (x == ("__debug__" : Str)) = false := by decide) (he : CH7 (e :: es) X.env = (false, eval e X.env) :: CH7 es X.env := by rfl) (hpl : (CV5 pos (CH7 es X.env)).any (·.1) = false := by rfl) :
  PE3 X (.Call (.Name x p) (e :: es) [] pos) (A6 sp t) := AK9 F hr hg A.gl A.fn.kp A.bd ha hdb he hpl
end
end L3
namespace K09
open PySem PySem.Spec PyProof.Rows L2 L3
open L3 renaming AV3 → zA, AK7 → zB, AB5 → zC, YA → zD, AN3 → zE, AA1 → zF, AA2 → zG, AX6 → zH, BH4 → zI, AW1 → zJ, AN2 → zK, YB → zL, AX7 → zM, AX9 → zN, BH5 → zO, BV2 → zP, BI7 → zQ, AB0 → zR, AV6 → zS, BD5 → zT, BB7 → zU, AV5 → zV, BF7 → zW, AY0 → zX, AV4 → zY, AY1 → zZ, AV9 → yA, BH1 → yB, AK8 → yC, AM1 → yD, AA6 → yE, AY5 → yF, UZ → yG, BJ2 → yH, AL6 → yI, AA3 → yJ, AX5 → yK, BD4 → yL, AL7 → yM, VF → yN, AM4 → yO, AM3 → yP, AM8 → yQ, AL4 → yR, AE0 → yS, AW9 → yT, BH2 → yU, BD2 → yV, AW0 → yW, BV7 → yX, BV5 → yY, AL2 → yZ, BR4 → wA, BR0 → wB, AL1 → wC, ZR → wD, BF9 → wE, AN5 → wF, ZQ → wG, BR3 → wH, AB3 → wI, AY4 → wJ, AM2 → wK, AM7 → wL, BD1 → wM, BF8 → wN, BG1 → wO, BG0 → wP
def top (i : Nat) : Stmt := PySem.Challenge.pw_handedon_k09_makes_and_leaves.main.body.getD i (.Pass ⟨0, 0, 0, 0⟩)
structure Blt (mg : Str → Option Value) : Prop where
 abs_ : mg "abs" = none
 all_ : mg "all" = none
 bool_ : mg "bool" = none
 int_ : mg "int" = none
 isinstance_ : mg "isinstance" = none
 len_ : mg "len" = none
 list_ : mg "list" = none
 min_ : mg "min" = none
 range_ : mg "range" = none
 set_ : mg "set" = none
 sorted_ : mg "sorted" = none
 str_ : mg "str" = none
 tuple_ : mg "tuple" = none
 zip_ : mg "zip" = none
structure Cst (K : CE0) (P : Params) (mg : Str → Option Value) : Prop where
 BEYOND_NUMBERS_ : ∃ tk, mg "BEYOND_NUMBERS" = some (Value.int 1000000000000000000000000000000 tk)
 LETTERS_ : ∃ tk, mg "LETTERS" = some (Value.str "abcdefghijklmnopqrstuvwxyz" tk)
 MOST_ARGS_ : ∃ tk, mg "MOST_ARGS" = some (Value.int 3 tk)
 MOST_BLOCKS_ : ∃ tk, mg "MOST_BLOCKS" = some (Value.int 5 tk)
 MOST_CATCHES_ : ∃ tk, mg "MOST_CATCHES" = some (Value.int 3 tk)
 MOST_DEEDS_ : ∃ tk, mg "MOST_DEEDS" = some (Value.int 30 tk)
 MOST_DEPTH_ : ∃ tk, mg "MOST_DEPTH" = some (Value.int 4 tk)
 MOST_LETTERS_ : ∃ tk, mg "MOST_LETTERS" = some (Value.int 8 tk)
 MOST_PARAMS_ : ∃ tk, mg "MOST_PARAMS" = some (Value.int 3 tk)
 MOST_RULES_ : ∃ tk, mg "MOST_RULES" = some (Value.int 8 tk)
 MOST_TREES_ : ∃ tk, mg "MOST_TREES" = some (Value.int 9 tk)
 MOST_VARIABLES_ : ∃ tk, mg "MOST_VARIABLES" = some (Value.int 12 tk)
 SHAPES_ : ∃ a, mg "SHAPES" = some (.ref a) ∧ QP K P a K10.tblS
 SHAPES_g : ∃ a, mg "SHAPES" = some (.ref a) ∧ QP K P a K10.tblS ∧ (a == CO4) = false
 SHUT_NAMES_ : ∃ a, mg "SHUT_NAMES" = some (.ref a) ∧ UE K a ((["any", "ask", "cast", "catch", "close", "else", "end", "fault", "give", "if", "last", "leave", "make", "none", "note", "on", "rule", "try", "while"] : List Str).map V.str)
 SIGNS_ : ∃ a, mg "SIGNS" = some (.ref a) ∧ UE K a ((["+", "-", "*", "<", "="] : List Str).map V.str)
section
variable {P : CI2} {w : World} {K : CE0} {mg : Str → Option Value} {base : Heap} (B : Blt mg) (C : Cst K w.params mg)
local macro_rules | `(tactic| walk_at "s") => `(tactic| exact ⟨rfl, rfl, rfl, by decide +kernel, rfl, by decide +kernel, by decide +kernel⟩)
abbrev p0x : List Str := ["deed", "kind"]
abbrev p1x : List Str := ["deed"]
abbrev p2x : List Str := ["block"]
abbrev p3x : List Str := ["expression"]
abbrev p4x : List Str := ["rule"]
abbrev p5x : List Str := ["thing"]
abbrev p6x : List Str := ["text", "signs"]
abbrev p7x : List Str := ["number"]
abbrev p8x : List Str := ["thing", "many"]
abbrev p9x : List Str := ["thing", "depth"]
abbrev AU4 : List Str := ["kind", "part"]
abbrev AA0 : List Str := ["block", "depth", "looped", "counted"]
abbrev AU5 : List Str := ["rule", "counts"]
abbrev RR : List Str := ["_law_script"]
abbrev AU6 : List Str := ["_law_pen_here", "_law_many"]
abbrev AU7 : List Str := ["_law_many"]
abbrev AU8 : List Str := ["_law_pen_here", "_law_deed"]
abbrev AU9 : List Str := ["_law_pen_here", "_law_deed", "_law_many"]
abbrev AV0 : List Str := ["_law_pen_here", "_law_inner", "_law_name", "_law_count"]
abbrev AV1 : List Str := ["_law_pen_here", "_law_expression_here"]
abbrev AV2 : List Str := ["_law_pen_here"]
abbrev s0x : Stmt := top 2
abbrev s1x : Stmt := top 3
abbrev s2x : Stmt := top 4
abbrev s3x : Stmt := top 5
abbrev s4x : Stmt := top 6
abbrev s5x : Stmt := top 7
abbrev s6x : Stmt := top 8
abbrev s7x : Stmt := top 13
abbrev s8x : Stmt := top 14
abbrev s9x : Stmt := top 15
abbrev BK3 : Stmt := top 16
abbrev BK4 : Stmt := top 17
abbrev BK5 : Stmt := top 18
abbrev BK6 : Stmt := top 31
abbrev BK7 : Stmt := top 32
abbrev BK8 : Stmt := top 33
abbrev BK9 : Stmt := top 34
abbrev BL0 : Stmt := top 35
abbrev BL1 : Stmt := top 36
abbrev BL2 : Stmt := top 37
abbrev BL3 : Stmt := top 38
abbrev BL4 : Stmt := top 39
abbrev BL5 : Stmt := top 40
abbrev BL6 : Stmt := top 41
abbrev BL7 : Stmt := top 45
abbrev BL8 : Stmt := top 42
abbrev BL9 : Stmt := top 43
abbrev BM0 : Stmt := top 44
abbrev BM1 : Stmt := top 47
abbrev BM2 : Stmt := top 48
abbrev BM3 : Stmt := top 49
abbrev BM4 : Stmt := top 50
abbrev BM5 : Stmt := top 51
abbrev BM6 : Stmt := top 52
abbrev BM7 : Stmt := top 53
abbrev BM8 : Stmt := top 54
abbrev BM9 : Stmt := top 55
theorem CC3 : C0 K10.DQ p0x (A9 s0x) := by walk_at "s"
theorem CC4 : C0 K10.AJ p1x (A9 s1x) := by walk_at "s"
theorem sc2x : C0 K10.DJ p2x (A9 s2x) := by walk_at "s"
theorem CC5 : C0 K10.T6 p1x (A9 s3x) := by walk_at "s"
theorem CC6 : C0 K10.T5 p3x (A9 s4x) := by walk_at "s"
theorem sc5x : C0 K10.DS p3x (A9 s5x) := by walk_at "s"
theorem sc6x : C0 K09.DR p4x (A9 s6x) := by walk_at "s"
theorem CC7 : C0 K01.DO p5x (A9 s7x) := by walk_at "s"
theorem CC8 : C0 K01.DL p6x (A9 s8x) := by walk_at "s"
theorem CC9 : C0 K01.W5 p5x (A9 s9x) := by walk_at "s"
theorem BW8 : C0 K01.GK p5x (A9 BK3) := by walk_at "s"
theorem BW9 : C0 K01.W3 p7x (A9 BK4) := by walk_at "s"
theorem BX0 : C0 K01.DP p8x (A9 BK5) := by walk_at "s"
theorem BX1 : C0 K06.GF p5x (A9 BK6) := by walk_at "s"
theorem BX2 : C0 K09.GC p9x (A9 BK7) := by walk_at "s"
theorem BX3 : C0 K09.GJ p9x (A9 BK8) := by walk_at "s"
theorem BX4 : C0 K09.O6 p5x (A9 BK9) := by walk_at "s"
theorem BX5 : C0 K09.GI p5x (A9 BL0) := by walk_at "s"
theorem BX6 : C0 K09.DM p5x (A9 BL1) := by walk_at "s"
theorem BX7 : C0 K09.W4 p5x (A9 BL2) := by walk_at "s"
theorem BX8 : C0 K09.GG AU4 (A9 BL3) := by walk_at "s"
theorem sc21x : C0 K09.GE p5x (A9 BL4) := by walk_at "s"
theorem sc22x : C0 K09.DN AA0 (A9 BL5) := by walk_at "s"
theorem BX9 : C0 K09.AK p5x (A9 BL6) := by walk_at "s"
theorem sc24x : C0 K10.AM p4x (A9 BL7) := by walk_at "s"
theorem BY0 : C0 K09.GH p5x (A9 BL8) := by walk_at "s"
theorem sc26x : C0 K09.AL AU5 (A9 BL9) := by walk_at "s"
theorem sc27x : C0 K09.GD p5x (A9 BM0) := by walk_at "s"
theorem BY1 : C0 PK.IJ RR (A9 BM1) := by walk_at "s"
theorem sc29x : C0 PK.HG AU6 (A9 BM2) := by walk_at "s"
theorem BY2 : C0 W2 AU7 (A9 BM3) := by walk_at "s"
theorem sc31x : C0 S9 AU8 (A9 BM4) := by walk_at "s"
theorem sc32x : C0 T4 AU9 (A9 BM5) := by walk_at "s"
theorem sc33x : C0 J8 AV0 (A9 BM6) := by walk_at "s"
theorem sc34x : C0 AI AV1 (A9 BM7) := by walk_at "s"
theorem sc35x : C0 W0 AV2 (A9 BM8) := by walk_at "s"
theorem sc36x : C0 AD5 RR (A9 BM9) := by walk_at "s"
variable {f0x : Addr} {fd0x : CH0} (A0x : FnAt K mg "parts_of" s0x p0x f0x fd0x) (G0x : FO P w K mg base 1 f0x fd0x p0x K10.CK)
variable {f1x : Addr} {fd1x : CH0} (A1x : FnAt K mg "blocks_of" s1x p1x f1x fd1x) (G1x : FO P w K mg base 1 f1x fd1x p1x PK.Y8)
variable {f2x : Addr} {fd2x : CH0} (A2x : FnAt K mg "deeds_of" s2x p2x f2x fd2x) (G2x : FO P w K mg base 10 f2x fd2x p2x (K10.K7 8))
variable {f3x : Addr} {fd3x : CH0} (A3x : FnAt K mg "names_given" s3x p1x f3x fd3x) (G3x : FO P w K mg base 2 f3x fd3x p1x K10.FW)
variable {f4x : Addr} {fd4x : CH0} (A4x : FnAt K mg "branches_of" s4x p3x f4x fd4x) (G4x : FO P w K mg base 1 f4x fd4x p3x K10.R7)
variable {f5x : Addr} {fd5x : CH0} (A5x : FnAt K mg "trees_of" s5x p3x f5x fd5x) (G5x : FO P w K mg base 7 f5x fd5x p3x (K10.K8 5))
variable {f6x : Addr} {fd6x : CH0} (A6x : FnAt K mg "trees_in" s6x p4x f6x fd6x) (G6x : FO P w K mg base 11 f6x fd6x p4x J3)
variable {f7x : Addr} {fd7x : CH0} (A7x : FnAt K mg "is_whole" s7x p5x f7x fd7x) (G7x : FO P w K mg base 1 f7x fd7x p5x K01.FY)
variable {f8x : Addr} {fd8x : CH0} (A8x : FnAt K mg "has_only" s8x p6x f8x fd8x) (G8x : FO P w K mg base 1 f8x fd8x p6x K01.KH)
variable {f9x : Addr} {fd9x : CH0} (A9x : FnAt K mg "is_letters" s9x p5x f9x fd9x) (G9x : FO P w K mg base 2 f9x fd9x p5x K01.J5)
variable {f10x : Addr} {fd10x : CH0} (A10x : FnAt K mg "is_word" BK3 p5x f10x fd10x) (G10x : FO P w K mg base 3 f10x fd10x p5x K01.V6)
variable {f11x : Addr} {fd11x : CH0} (A11x : FnAt K mg "has_thirty" BK4 p7x f11x fd11x) (G11x : FO P w K mg base 1 f11x fd11x p7x K01.BP)
variable {f12x : Addr} {fd12x : CH0} (A12x : FnAt K mg "is_worth" BK5 p8x f12x fd12x) (G12x : FO P w K mg base 2 f12x fd12x p8x K01.V7)
variable {f13x : Addr} {fd13x : CH0} (A13x : FnAt K mg "is_name" BK6 p5x f13x fd13x) (G13x : FO P w K mg base 3 f13x fd13x p5x K06.G2)
variable {f14x : Addr} {fd14x : CH0} (A14x : FnAt K mg "is_args" BK7 p9x f14x fd14x) (G14x : FO P w K mg base 13 f14x fd14x p9x (O7 9))
variable {f15x : Addr} {fd15x : CH0} (A15x : FnAt K mg "is_tree" BK8 p9x f15x fd15x) (G15x : FO P w K mg base 13 f15x fd15x p9x (N3 9))
variable {f16x : Addr} {fd16x : CH0} (A16x : FnAt K mg "is_expression" BK9 p5x f16x fd16x) (G16x : FO P w K mg base 14 f16x fd16x p5x KG)
variable {f17x : Addr} {fd17x : CH0} (A17x : FnAt K mg "is_some" BL0 p5x f17x fd17x) (G17x : FO P w K mg base 1 f17x fd17x p5x Y9)
variable {f18x : Addr} {fd18x : CH0} (A18x : FnAt K mg "is_catch" BL1 p5x f18x fd18x) (G18x : FO P w K mg base 4 f18x fd18x p5x FV)
variable {f19x : Addr} {fd19x : CH0} (A19x : FnAt K mg "is_catches" BL2 p5x f19x fd19x) (G19x : FO P w K mg base 5 f19x fd19x p5x V5)
variable {f20x : Addr} {fd20x : CH0} (A20x : FnAt K mg "is_part" BL3 AU4 f20x fd20x) (G20x : FO P w K mg base 15 f20x fd20x AU4 KI)
variable {f21x : Addr} {fd21x : CH0} (A21x : FnAt K mg "is_deed" BL4 p5x f21x fd21x) (G21x : FO P w K mg base 16 f21x fd21x p5x KE)
variable {f22x : Addr} {fd22x : CH0} (A22x : FnAt K mg "is_deeds" BL5 AA0 f22x fd22x) (G22x : FO P w K mg base 23 f22x fd22x AA0 (F8 6))
variable {f23x : Addr} {fd23x : CH0} (A23x : FnAt K mg "is_params" BL6 p5x f23x fd23x) (G23x : FO P w K mg base 4 f23x fd23x p5x BO)
variable {f24x : Addr} {fd24x : CH0} (A24x : FnAt K mg "variables" BL7 p4x f24x fd24x) (G24x : FO P w K mg base 12 f24x fd24x p4x K10.O4)
variable {f25x : Addr} {fd25x : CH0} (A25x : FnAt K mg "is_rule" BL8 p5x f25x fd25x) (G25x : FO P w K mg base 24 f25x fd25x p5x KJ)
variable {f26x : Addr} {fd26x : CH0} (A26x : FnAt K mg "makes_fit" BL9 AU5 f26x fd26x) (G26x : FO P w K mg base 12 f26x fd26x AU5 SV)
variable {f27x : Addr} {fd27x : CH0} (A27x : FnAt K mg "is_book" BM0 p5x f27x fd27x) (G27x : FO P w K mg base 25 f27x fd27x p5x G1)
variable {f28x : Addr} {fd28x : CH0} (A28x : FnAt K mg "_law_pen" BM1 RR f28x fd28x) (G28x : FO P w K mg base 1 f28x fd28x RR NH)
variable {f29x : Addr} {fd29x : CH0} (A29x : FnAt K mg "_law_draw" BM2 AU6 f29x fd29x) (G29x : FO P w K mg base 1 f29x fd29x AU6 C8)
variable {f30x : Addr} {fd30x : CH0} (A30x : FnAt K mg "_law_notes" BM3 AU7 f30x fd30x) (G30x : FO P w K mg base 1 f30x fd30x AU7 P4)
variable {f31x : Addr} {fd31x : CH0} (A31x : FnAt K mg "_law_around" BM4 AU8 f31x fd31x) (G31x : FO P w K mg base 2 f31x fd31x AU8 BN)
variable {f32x : Addr} {fd32x : CH0} (A32x : FnAt K mg "_law_nested" BM5 AU9 f32x fd32x) (G32x : FO P w K mg base 3 f32x fd32x AU9 O2)
variable {f33x : Addr} {fd33x : CH0} (A33x : FnAt K mg "_law_expression" BM6 AV0 f33x fd33x) (G33x : FO P w K mg base 2 f33x fd33x AV0 CJ)
variable {f34x : Addr} {fd34x : CH0} (A34x : FnAt K mg "_law_with" BM7 AV1 f34x fd34x) (G34x : FO P w K mg base 2 f34x fd34x AV1 HC)
variable {f35x : Addr} {fd35x : CH0} (A35x : FnAt K mg "_law_names" BM8 AV2 f35x fd35x) (G35x : FO P w K mg base 2 f35x fd35x AV2 FX)
variable {f36x : Addr} {fd36x : CH0} (A36x : FnAt K mg "law" BM9 RR f36x fd36x) (G36x : FO P w K mg base 26 f36x fd36x RR L3.EM)
set_option maxHeartbeats 4000000
include B C
include A0x in
theorem CB3 : FO P w K mg base 1 f0x fd0x p0x K10.CK := by
  refine Fun.ok3 A0x.fn CC3 K10.OO fun cdv A outer s H E hr => ⟨K10.AA, ?_, K10.SL⟩
  unfold K10.AA
  exact zE (zH (RT ["shape", "part"] ["kind"] [1] rfl (YD rfl B.zip_ (zB (BH3 rfl C.SHAPES_ (zI (pv3 0) zD (fun _ _ => rfl)) (fun _ _ => rfl)) (zB (yW (pv3 0) (yO zD) yP) zA))) rfl (by first | rfl | kernel_rfl) rfl (GN (by decide)) (fun cl s₀ H₀ ex => (yT rfl (zR (i := 0) (show CI4 (["shape", "part", "kind"] : List Str) by decide +kernel) rfl (Or.inl rfl) (zR (i := 1) (show CI4 (["shape", "part", "kind"] : List Str) by decide +kernel) rfl (Or.inl rfl) yM (Or.inr rfl)) (Or.inr rfl)))) (fun cl s₀ H₀ ex => (wK (zN (zU hr) (pv3 0) (pv3 2) (B6 _)))) (fun cl s₀ H₀ ex => (pv3 1))))
include A1x in
theorem CB4 : FO P w K mg base 1 f1x fd1x p1x PK.Y8 := by
  refine Fun.ok3 A1x.fn CC4 K10.LD fun cdv A outer s H E hr => ⟨K10.S5, ?_, K10.PH⟩
  unfold K10.S5
  refine zC ?_ ?_
  ·exact (zQ (zN (zU hr) (zI (pv3 0) zD (fun _ _ => rfl)) zL (B6 _)) (zE (zH (zS (zB (zI (pv3 0) zD (fun _ _ => rfl)) (zB (zI (pv3 0) zD (fun _ _ => rfl)) zA))))) zK)
  refine zC ?_ ?_
  ·exact (zQ (zN (zU hr) (zI (pv3 0) zD (fun _ _ => rfl)) zL (B6 _)) (zE (zH (zS (zB (zI (pv3 0) zD (fun _ _ => rfl)) zA)))) zK)
  refine zC ?_ ?_
  ·exact (zQ (zN (zU hr) (zI (pv3 0) zD (fun _ _ => rfl)) zL (B6 _)) (zE (zH (zO zW (zO zW (zS (zB (zI (pv3 0) zD (fun _ _ => rfl)) zA)) (yJ ["caught", "name", "block"] [] [] rfl (yX (zI (pv3 0) zD (fun _ _ => rfl))) rfl (by first | rfl | kernel_rfl) rfl (GN (by decide)) (fun cl s₀ H₀ ex => (yT rfl (zR (i := 0) (show CI4 (["caught", "name", "block"] : List Str) by decide +kernel) rfl (Or.inl rfl) (zR (i := 1) (show CI4 (["caught", "name", "block"] : List Str) by decide +kernel) rfl (Or.inl rfl) (zR (i := 2) (show CI4 (["caught", "name", "block"] : List Str) by decide +kernel) rfl (Or.inl rfl) yM (Or.inr rfl)) (Or.inr rfl)) (Or.inr rfl)))) (fun cl s₀ H₀ ex => yD) (fun cl s₀ H₀ ex => (pv3 2)))) (zS (zB (zI (pv3 0) zD (fun _ _ => rfl)) zA))))) zK)
  exact zE (zH (zS zA))
include A1x G1x A2x in
theorem CB5 (G2x : FO P w K mg base kr f2x fd2x p2x (K10.K7 lv)) (hkr : 2 ≤ kr) : FO P w K mg base (kr + 1) f2x fd2x p2x (K10.K7 (lv + 1)) := by
  refine Fun.ok3 A2x.fn sc2x (K10.FF (lv + 1)) fun cdv A outer s H E hr => ⟨K10.Z4 (K10.K7 lv), ?_, K10.SF lv⟩
  unfold K10.Z4
  refine zC ?_ ?_
  ·exact (zM (i := 1) sc2x.nd rfl (Or.inl rfl) (yR zA))
  refine zC ?_ ?_
  ·exact (yK CK1 rfl (yX (pv3 0)) sc2x.nd rfl (Or.inl rfl) (zC (yQ (yU CO1 CW1 F.type_list_append wG (pv3 1) (zB (pv3 2) zA)))
  (zE (yK CK1 rfl (yY (zF G1x A1x (hr.mono (by omega)) (zB (pv3 2) zA))) sc2x.nd rfl (Or.inl rfl) (zE (yQ (yU CO1 CS4 CW0 wD (pv3 1) (zB (zF G2x A2x hr (zB (pv3 3) zA)) zA))))))))
  exact zE (zH (pv3 1))
include A1x G1x A2x in
theorem BB1 : ∀ lv : Nat, FO P w K mg base (2 + lv) f2x fd2x p2x (K10.K7 lv)
 | 0 => U5 K10.FF K10.LV
 | lv + 1 => by
  obtain G2x := BB1 lv
  exact CB5 B C A1x G1x A2x G2x (CO6 _ _)
include A0x G0x A3x in
theorem CB6 : FO P w K mg base 2 f3x fd3x p1x K10.FW := by
  refine Fun.ok3 A3x.fn CC5 K10.HV fun cdv A outer s H E hr => ⟨K10.O0, ?_, K10.JT⟩
  unfold K10.O0
  refine zC ?_ ?_
  ·exact (zQ (zN (zU hr) (zI (pv3 0) zD (fun _ _ => rfl)) zL (B6 _)) (zE (zH (VC ["caught", "name", "block"] [] [] rfl (yX (zI (pv3 0) zD (fun _ _ => rfl))) rfl (by first | rfl | kernel_rfl) rfl (GN (by decide)) (fun cl s₀ H₀ ex => (yT rfl (zR (i := 0) (show CI4 (["caught", "name", "block"] : List Str) by decide +kernel) rfl (Or.inl rfl) (zR (i := 1) (show CI4 (["caught", "name", "block"] : List Str) by decide +kernel) rfl (Or.inl rfl) (zR (i := 2) (show CI4 (["caught", "name", "block"] : List Str) by decide +kernel) rfl (Or.inl rfl) yM (Or.inr rfl)) (Or.inr rfl)) (Or.inr rfl)))) (fun cl s₀ H₀ ex => yD) (fun cl s₀ H₀ ex => (pv3 1))))) zK)
  exact zE (zH (zF G0x A0x (hr.mono (by decide)) (zB (pv3 0) (zB zL zA))))
include A4x in
theorem CB7 : FO P w K mg base 1 f4x fd4x p3x K10.R7 := by
  refine Fun.ok3 A4x.fn CC6 K10.HU fun cdv A outer s H E hr => ⟨K10.N9, ?_, K10.JR⟩
  unfold K10.N9
  refine zC ?_ ?_
  ·exact (zQ (zN (zU hr) (zI (pv3 0) zD (fun _ _ => rfl)) zL (B6 _)) (zE (zH (zS (zB (zI (pv3 0) zD (fun _ _ => rfl)) (zB (zI (pv3 0) zD (fun _ _ => rfl)) zA))))) zK)
  refine zC ?_ ?_
  ·exact (zQ (zN (zU hr) (zI (pv3 0) zD (fun _ _ => rfl)) zL (B6 _)) (zE (zH (yG WV rfl B.list_ WU (zB (zI (pv3 0) zD (fun _ _ => rfl)) zA)))) zK)
  exact zE (zH (zS zA))
include A4x G4x A5x in
theorem CB8 (G5x : FO P w K mg base kr f5x fd5x p3x (K10.K8 lv)) (hkr : 2 ≤ kr) : FO P w K mg base (kr + 1) f5x fd5x p3x (K10.K8 (lv + 1)) := by
  refine Fun.ok3 A5x.fn sc5x (K10.FI (lv + 1)) fun cdv A outer s H E hr => ⟨K10.AC (K10.K8 lv), ?_, K10.SO lv⟩
  unfold K10.AC
  refine zC ?_ ?_
  ·exact (zM (i := 1) sc5x.nd rfl (Or.inl rfl) (yR (zB (pv3 0) zA)))
  refine zC ?_ ?_
  ·exact (yK CK1 rfl (yY (zF G4x A4x (hr.mono (by omega)) (zB (pv3 0) zA))) sc5x.nd rfl (Or.inl rfl) (zE (yQ (yU CO1 CS4 CW0 wD (pv3 1) (zB (zF G5x A5x hr (zB (pv3 2) zA)) zA)))))
  exact zE (zH (pv3 1))
include A4x G4x A5x in
theorem BB2 : ∀ lv : Nat, FO P w K mg base (2 + lv) f5x fd5x p3x (K10.K8 lv)
 | 0 => U5 K10.FI K10.LX
 | lv + 1 => by
  obtain G5x := BB2 lv
  exact CB8 B C A4x G4x A5x G5x (CO6 _ _)
include A0x G0x A2x G2x A5x G5x A6x in
theorem CB9 : FO P w K mg base 11 f6x fd6x p4x J3 := by
  refine Fun.ok3 A6x.fn sc6x K09.OP fun cdv A outer s H E hr => ⟨K09.AB, ?_, K09.SN⟩
  unfold K09.AB
  refine zC ?_ ?_
  ·exact (zM (i := 1) sc6x.nd rfl (Or.inl rfl) (yR zA))
  refine zC ?_ ?_
  ·exact (yK CK1 rfl (yY (yZ (zF G2x A2x (hr.mono (by decide)) (zB (zI (pv3 0) zD (fun _ _ => rfl)) zA)))) sc6x.nd rfl (Or.inl rfl) (zE (yK CK1 rfl (yY (yZ (zF G0x A0x (hr.mono (by decide)) (zB (pv3 2) (zB zL zA))))) sc6x.nd rfl (Or.inl rfl) (zE (yQ (yU CO1 CS4 CW0 wD (pv3 1) (zB (zF G5x A5x (hr.mono (by decide)) (zB (pv3 3) zA)) zA)))))))
  exact zE (zH (pv3 1))
include A7x in
theorem CC0 : FO P w K mg base 1 f7x fd7x p5x K01.FY := by
  refine Fun.ok3 A7x.fn CC7 K01.OM fun cdv A outer s H E hr => ⟨K01.Z8, ?_, K01.SJ⟩
  unfold K01.Z8
  exact zE (zH (zY (zG yL rfl B.isinstance_ C4 (zB (pv3 0) (zB (yC (d := .ty "int") (v := .ty "int") rfl B.int_ AD6 rfl (fun _ _ _ => .ty)) zA))) (yA (AV8 (zG yL rfl B.isinstance_ C4 (zB (pv3 0) (zB (yC (d := .ty "bool") (v := .ty "bool") rfl B.bool_ WT rfl (fun _ _ _ => .ty)) zA)))))))
include A8x in
theorem CC1 : FO P w K mg base 1 f8x fd8x p6x K01.KH := by
  refine Fun.ok3 A8x.fn CC8 K01.OK fun cdv A outer s H E hr => ⟨K01.Z5, ?_, K01.SG⟩
  unfold K01.Z5
  exact zE (zH (zG (yV rfl) rfl B.all_ AO (zB (yJ ["sign"] ["signs"] [1] rfl (BV6 (pv3 0)) rfl (by first | rfl | kernel_rfl) rfl (K2 (by decide)) (fun cl s₀ H₀ ex => (yI (i := 0) (show CI4 (["sign", "signs"] : List Str) by decide +kernel) rfl (Or.inl rfl) (Or.inr rfl))) (fun cl s₀ H₀ ex => yD) (fun cl s₀ H₀ ex => (zV BR1 (pv3 0) (pv3 1) rfl))) zA)))
include A8x G8x A9x in
theorem CC2 : FO P w K mg base 2 f9x fd9x p5x K01.J5 := by
  refine Fun.ok3 A9x.fn CC9 K01.JC fun cdv A outer s H E hr => ⟨K01.Q0, ?_, K01.LO⟩
  unfold K01.Q0
  exact zE (zH (zY (zG yL rfl B.isinstance_ C4 (zB (pv3 0) (zB (yC (d := .ty "str") (v := .ty "str") rfl B.str_ AD8 rfl (fun _ _ _ => .ty)) zA))) (zY (MX wH wH zD (zG zT rfl B.len_ D5 (zB (pv3 0) zA)) (yE rfl C.MOST_LETTERS_)) (yA (zF G8x A8x (hr.mono (by decide)) (zB (pv3 0) (zB (AA7 rfl C.LETTERS_) zA)))))))
include A9x G9x A10x in
theorem BR6 : FO P w K mg base 3 f10x fd10x p5x K01.V6 := by
  refine Fun.ok3 A10x.fn BW8 K01.RJ fun cdv A outer s H E hr => ⟨K01.CW, ?_, K01.VU⟩
  unfold K01.CW
  exact zE (zH (zY (zF G9x A9x (hr.mono (by decide)) (zB (pv3 0) zA)) (yA (zV (wA hr) (pv3 0) zL (B6 _)))))
include A11x in
theorem BR7 : FO P w K mg base 1 f11x fd11x p7x K01.BP := by
  refine Fun.ok3 A11x.fn BW9 K01.JA fun cdv A outer s H E hr => ⟨K01.P7, ?_, K01.LM⟩
  unfold K01.P7
  exact zE (zH (zV AJ6 (zG wM rfl B.abs_ NR (zB (pv3 0) zA)) (yE rfl C.BEYOND_NUMBERS_) (B6 _)))
include A7x G7x A11x G11x A12x in
theorem BR8 : FO P w K mg base 2 f12x fd12x p8x K01.V7 := by
  refine Fun.ok3 A12x.fn BX0 K01.ON fun cdv A outer s H E hr => ⟨K01.Z9, ?_, K01.SK⟩
  unfold K01.Z9
  refine zC ?_ ?_
  ·exact (zQ (zX (zZ (zG yL rfl B.isinstance_ C4 (zB (pv3 0) (zB (yC (d := .ty "tuple") (v := .ty "tuple") rfl B.tuple_ E7 rfl (fun _ _ _ => .ty)) zA))))) (zE (zH yB)) zK)
  refine zC ?_ ?_
  ·exact (zQ (zN (wN hr) (zG zT rfl B.len_ D5 (zB (pv3 0) zA)) zD (B6 _)) (zE (zH (zV (wN hr) (zI (pv3 0) zD (fun _ _ => rfl)) zL (B6 _)))) zK)
  refine zC ?_ ?_
  ·exact (zQ (PW3.pt (yH (zN (wA hr) (zG zT rfl B.len_ D5 (zB (pv3 0) zA)) zD (B6 _)) (yF (zX (zZ (zF G7x A7x (hr.mono (by decide)) (zB (zI (pv3 0) zD (fun _ _ => rfl)) zA))))))) (zE (zH yB)) zK)
  refine zC ?_ ?_
  ·exact (zQ (zN (wN hr) (zI (pv3 0) zD (fun _ _ => rfl)) zL (B6 _)) (zE (zH (zF G11x A11x (hr.mono (by decide)) (zB (zI (pv3 0) zD (fun _ _ => rfl)) zA)))) zK)
  exact zE (zH (zY (zV (wN hr) (zI (pv3 0) zD (fun _ _ => rfl)) zL (B6 _)) (yA (MX wH AJ6 zD (zI (pv3 0) zD (fun _ _ => rfl)) (pv3 1)))))
include A9x G9x A13x in
theorem BR9 : FO P w K mg base 3 f13x fd13x p5x K06.G2 := by
  refine Fun.ok3 A13x.fn BX1 K06.RF fun cdv A outer s H E hr => ⟨K06.CQ, ?_, K06.VP⟩
  unfold K06.CQ
  exact zE (zH (zY (zF G9x A9x (hr.mono (by decide)) (zB (pv3 0) zA)) (yA (zV RO (pv3 0) (MZ rfl C.SHUT_NAMES_) rfl))))
include A14x A15x in
theorem BS0 (G14x : FO P w K mg base kr f14x fd14x p9x (O7 lv)) (G15x : FO P w K mg base kr f15x fd15x p9x (N3 lv)) (hkr : 4 ≤ kr) : FO P w K mg base (kr + 1) f14x fd14x p9x (O7 (lv + 1)) := by
  refine Fun.ok3 A14x.fn BX2 (K09.HJ (lv + 1)) fun cdv A outer s H E hr => ⟨K09.CN (O7 lv) (N3 lv), ?_, K09.VM lv⟩
  unfold K09.CN
  refine zC ?_ ?_
  ·exact (zQ (PW3.pt (yH (zX (zZ (zG yL rfl B.isinstance_ C4 (zB (pv3 0) (zB (yC (d := .ty "tuple") (v := .ty "tuple") rfl B.tuple_ E7 rfl (fun _ _ _ => .ty)) zA))))) (yF (zN wB (zG zT rfl B.len_ D5 (zB (pv3 0) zA)) (yE rfl C.MOST_ARGS_) (B6 _))))) (zE (zH yB)) zK)
  exact zE (zH (zG (yV rfl) rfl B.all_ AO (zB (yJ ["arg"] ["depth"] [1] rfl (yX (pv3 0)) rfl (by first | rfl | kernel_rfl) rfl (K2 (by decide)) (fun cl s₀ H₀ ex => (yI (i := 0) (show CI4 (["arg", "depth"] : List Str) by decide +kernel) rfl (Or.inl rfl) (Or.inr rfl))) (fun cl s₀ H₀ ex => yD) (fun cl s₀ H₀ ex => (zF G15x A15x hr (zB (pv3 0) (zB (pv3 1) zA))))) zA)))
include A12x G12x A13x G13x A14x A15x in
theorem BS1 (G14x : FO P w K mg base kr f14x fd14x p9x (O7 lv)) (G15x : FO P w K mg base kr f15x fd15x p9x (N3 lv)) (hkr : 4 ≤ kr) : FO P w K mg base (kr + 1) f15x fd15x p9x (N3 (lv + 1)) := by
  refine Fun.ok3 A15x.fn BX3 (K09.HK (lv + 1)) fun cdv A outer s H E hr => ⟨K09.CV (O7 lv) (N3 lv), ?_, K09.VT lv⟩
  unfold K09.CV
  refine zC ?_ ?_
  ·exact (zQ (PW3.pt (yH (zN (zU hr) (pv3 1) zD (B6 _)) (yH (zX (zZ (zG yL rfl B.isinstance_ C4 (zB (pv3 0) (zB (yC (d := .ty "tuple") (v := .ty "tuple") rfl B.tuple_ E7 rfl (fun _ _ _ => .ty)) zA))))) (yF (zN (zU hr) (zG zT rfl B.len_ D5 (zB (pv3 0) zA)) zD (B6 _)))))) (zE (zH yB)) zK)
  refine zC ?_ ?_
  ·exact (zQ (zN (zU hr) (zI (pv3 0) zD (fun _ _ => rfl)) zL (B6 _)) (zC (zQ (PW3.pt (yH (zN (wA hr) (zG zT rfl B.len_ D5 (zB (pv3 0) zA)) zD (B6 _)) (yF (zN RO (zI (pv3 0) zD (fun _ _ => rfl)) (MZ rfl C.SIGNS_) rfl)))) (zE (zH yB)) zK)
  (zE (zH (zY (zF G15x A15x hr (zB (zI (pv3 0) zD (fun _ _ => rfl)) (zB (zO wO (pv3 1) zD) zA))) (yA (zF G15x A15x hr (zB (zI (pv3 0) zD (fun _ _ => rfl)) (zB (zO wO (pv3 1) zD) zA)))))))) zK)
  refine zC ?_ ?_
  ·exact (zQ (zN (zU hr) (zI (pv3 0) zD (fun _ _ => rfl)) zL (B6 _)) (zE (zH (zY (zV (zU hr) (zG zT rfl B.len_ D5 (zB (pv3 0) zA)) zD (B6 _)) (zY (zF G13x A13x (hr.mono (by omega)) (zB (zI (pv3 0) zD (fun _ _ => rfl)) zA)) (yA (zF G14x A14x hr (zB (zI (pv3 0) zD (fun _ _ => rfl)) (zB (zO wO (pv3 1) zD) zA)))))))) zK)
  refine zC ?_ ?_
  ·exact (zQ (zN (zU hr) (zI (pv3 0) zD (fun _ _ => rfl)) zL (B6 _)) (zE (zH (zY (zV (zU hr) (zG zT rfl B.len_ D5 (zB (pv3 0) zA)) zD (B6 _)) (yA (zF G13x A13x (hr.mono (by omega)) (zB (zI (pv3 0) zD (fun _ _ => rfl)) zA)))))) zK)
  exact zE (zH (zF G12x A12x (hr.mono (by omega)) (zB (pv3 0) (zB zD zA))))
include A12x G12x A13x G13x A14x A15x in
theorem AG7 : ∀ lv : Nat, FO P w K mg base (4 + lv) f14x fd14x p9x (O7 lv) ∧ FO P w K mg base (4 + lv) f15x fd15x p9x (N3 lv)
 | 0 => ⟨U5 K09.HJ K09.QK, U5 K09.HK K09.QL⟩
 | lv + 1 => by
  obtain ⟨G14x, G15x⟩ := AG7 lv
  exact ⟨BS0 B C A14x A15x G14x G15x (CO6 _ _), BS1 B C A12x G12x A13x G13x A14x A15x G14x G15x (CO6 _ _)⟩
include A5x G5x A15x G15x A16x in
theorem BS2 : FO P w K mg base 14 f16x fd16x p5x KG := by
  refine Fun.ok3 A16x.fn BX4 K09.FH fun cdv A outer s H E hr => ⟨K09.J0, ?_, K09.GX⟩
  unfold K09.J0
  exact zE (zH (zY (zF G15x A15x (hr.mono (by decide)) (zB (pv3 0) (zB (yE rfl C.MOST_DEPTH_) zA))) (yA (zV wH (zG zT rfl B.len_ D5 (zB (zF G5x A5x (hr.mono (by decide)) (zB (pv3 0) zA)) zA)) (yE rfl C.MOST_TREES_) (B6 _)))))
include A17x in
theorem BS3 : FO P w K mg base 1 f17x fd17x p5x Y9 := by
  refine Fun.ok3 A17x.fn BX5 K09.RI fun cdv A outer s H E hr => ⟨K09.CU, ?_, K09.VS⟩
  unfold K09.CU
  exact zE (zH (zY (zG yL rfl B.isinstance_ C4 (zB (pv3 0) (zB (yC (d := .ty "tuple") (v := .ty "tuple") rfl B.tuple_ E7 rfl (fun _ _ _ => .ty)) zA))) (yA (zV wB (zG zT rfl B.len_ D5 (zB (pv3 0) zA)) zD (B6 _)))))
include A9x G9x A13x G13x A17x G17x A18x in
theorem BS4 : FO P w K mg base 4 f18x fd18x p5x FV := by
  refine Fun.ok3 A18x.fn BX6 K09.OL fun cdv A outer s H E hr => ⟨K09.Z6, ?_, K09.SH⟩
  unfold K09.Z6
  refine zC ?_ ?_
  ·exact (zQ (PW3.pt (yH (zX (zZ (zG yL rfl B.isinstance_ C4 (zB (pv3 0) (zB (yC (d := .ty "tuple") (v := .ty "tuple") rfl B.tuple_ E7 rfl (fun _ _ _ => .ty)) zA))))) (yF (zN (wA hr) (zG zT rfl B.len_ D5 (zB (pv3 0) zA)) zD (B6 _))))) (zE (zH yB)) zK)
  exact zE (zH (zY (zF G9x A9x (hr.mono (by decide)) (zB (zI (pv3 0) zD (fun _ _ => rfl)) zA)) (zY (zF G13x A13x (hr.mono (by decide)) (zB (zI (pv3 0) zD (fun _ _ => rfl)) zA)) (yA (zF G17x A17x (hr.mono (by decide)) (zB (zI (pv3 0) zD (fun _ _ => rfl)) zA))))))
include A18x G18x A19x in
theorem BS5 : FO P w K mg base 5 f19x fd19x p5x V5 := by
  refine Fun.ok3 A19x.fn BX7 K09.JB fun cdv A outer s H E hr => ⟨K09.P8, ?_, K09.LN⟩
  unfold K09.P8
  refine zC ?_ ?_
  ·exact (zQ (PW3.pt (yH (zX (zZ (zG yL rfl B.isinstance_ C4 (zB (pv3 0) (zB (yC (d := .ty "tuple") (v := .ty "tuple") rfl B.tuple_ E7 rfl (fun _ _ _ => .ty)) zA))))) (yF (zN wB (zG zT rfl B.len_ D5 (zB (pv3 0) zA)) (yE rfl C.MOST_CATCHES_) (B6 _))))) (zE (zH yB)) zK)
  exact zE (zH (zG (yV rfl) rfl B.all_ AO (zB (yJ ["catch"] [] [] rfl (yX (pv3 0)) rfl (by first | rfl | kernel_rfl) rfl (K2 (by decide)) (fun cl s₀ H₀ ex => (yI (i := 0) (show CI4 (["catch"] : List Str) by decide +kernel) rfl (Or.inl rfl) (Or.inr rfl))) (fun cl s₀ H₀ ex => yD) (fun cl s₀ H₀ ex => (zF G18x A18x (hr.mono (by decide)) (zB (pv3 0) zA)))) zA)))
include A10x G10x A13x G13x A16x G16x A17x G17x A19x G19x A20x in
theorem BS6 : FO P w K mg base 15 f20x fd20x AU4 KI := by
  refine Fun.ok3 A20x.fn BX8 K09.RG fun cdv A outer s H E hr => ⟨K09.CS, ?_, K09.VQ⟩
  unfold K09.CS
  refine zC ?_ ?_
  ·exact (zQ (zN (zU hr) (pv3 0) zL (B6 _)) (zE (zH (zF G13x A13x (hr.mono (by decide)) (zB (pv3 1) zA)))) zK)
  refine zC ?_ ?_
  ·exact (zQ (zN (zU hr) (pv3 0) zL (B6 _)) (zE (zH (zF G10x A10x (hr.mono (by decide)) (zB (pv3 1) zA)))) zK)
  refine zC ?_ ?_
  ·exact (zQ (zN (zU hr) (pv3 0) zL (B6 _)) (zE (zH (zF G16x A16x (hr.mono (by decide)) (zB (pv3 1) zA)))) zK)
  refine zC ?_ ?_
  ·exact (zQ (zN (zU hr) (pv3 0) zL (B6 _)) (zE (zH (zF G19x A19x (hr.mono (by decide)) (zB (pv3 1) zA)))) zK)
  refine zC ?_ ?_
  ·exact (zQ (zN (zU hr) (pv3 0) zL (B6 _)) (zE (zH (zF G17x A17x (hr.mono (by decide)) (zB (pv3 1) zA)))) zK)
  exact zE (zH (zG yL rfl B.isinstance_ C4 (zB (pv3 1) (zB (yC (d := .ty "tuple") (v := .ty "tuple") rfl B.tuple_ E7 rfl (fun _ _ _ => .ty)) zA))))
include A17x G17x A20x G20x A21x in
theorem BS7 : FO P w K mg base 16 f21x fd21x p5x KE := by
  refine Fun.ok3 A21x.fn sc21x K09.RE fun cdv A outer s H E hr => ⟨K09.CP, ?_, K09.VO⟩
  unfold K09.CP
  refine zC ?_ ?_
  ·exact (zQ (PW3.pt (yH (zX (zZ (zF G17x A17x (hr.mono (by decide)) (zB (pv3 0) zA)))) (yF (zX (zZ (zG yL rfl B.isinstance_ C4 (zB (zI (pv3 0) zD (fun _ _ => rfl)) (zB (yC (d := .ty "str") (v := .ty "str") rfl B.str_ AD8 rfl (fun _ _ _ => .ty)) zA)))))))) (zE (zH yB)) zK)
  refine zC ?_ ?_
  ·exact (zM (i := 1) sc21x.nd rfl (Or.inl rfl) (AL3 rfl C.SHAPES_g (zB (zI (pv3 0) zD (fun _ _ => rfl)) zA)))
  refine zC ?_ ?_
  ·exact (zQ (PW3.pt (yH (zN BR2 (pv3 1) AV7 (B6 _)) (yF (zN (wA hr) (zG zT rfl B.len_ D5 (zB (pv3 0) zA)) (zO zW (zG zT rfl B.len_ D5 (zB (pv3 1) zA)) zD) (B6 _))))) (zE (zH yB)) zK)
  refine zC ?_ ?_
  ·exact (zQ (zX (zZ (zG (yV rfl) rfl B.all_ AO (zB (VA ["kind", "part"] [] [] rfl (YD rfl B.zip_ (zB (pv3 1) (zB (yW (pv3 0) (yO zD) yP) zA))) rfl (by first | rfl | kernel_rfl) rfl (GN (by decide)) (fun cl s₀ H₀ ex => (yT rfl (zR (i := 0) (show CI4 (["kind", "part"] : List Str) by decide +kernel) rfl (Or.inl rfl) (zR (i := 1) (show CI4 (["kind", "part"] : List Str) by decide +kernel) rfl (Or.inl rfl) yM (Or.inr rfl)) (Or.inr rfl)))) (fun cl s₀ H₀ ex => yD) (fun cl s₀ H₀ ex => (zF G20x A20x (hr.mono (by decide)) (zB (pv3 0) (zB (pv3 1) zA))))) zA)))) (zE (zH yB)) zK)
  exact zE (zH (VE (zV (wA hr) (zI (pv3 0) zD (fun _ _ => rfl)) zL (B6 _)) (yA (zV wB (zO zW (zG zT rfl B.len_ D5 (zB (zI (pv3 0) zD (fun _ _ => rfl)) zA)) (zG zT rfl B.len_ D5 (zB (zI (pv3 0) zD (fun _ _ => rfl)) zA))) zD (B6 _)))))
include A1x G1x A21x G21x A22x in
theorem BS8 (G22x : FO P w K mg base kr f22x fd22x AA0 (F8 lv)) (hkr : 17 ≤ kr) : FO P w K mg base (kr + 1) f22x fd22x AA0 (F8 (lv + 1)) := by
  refine Fun.ok3 A22x.fn sc22x (K09.FG (lv + 1)) fun cdv A outer s H E hr => ⟨K09.Z7 (F8 lv), ?_, K09.SI lv⟩
  unfold K09.Z7
  refine zC ?_ ?_
  ·exact (yK CK1 rfl (yX (pv3 0)) sc22x.nd rfl (Or.inl rfl) (zC (yQ (yU CO1 CW1 F.type_list_append wG (pv3 3) (zB (pv3 4) zA)))
  (zC (zQ (PW3.pt (yH (zN wB (zG zT rfl B.len_ D5 (zB (pv3 3) zA)) (yE rfl C.MOST_DEEDS_) (B6 _)) (yF (zX (zZ (zF G21x A21x (hr.mono (by omega)) (zB (pv3 4) zA))))))) (zE (zH yB)) zK)
  (zC (zQ (PW3.pt (wJ (zN (zU hr) (zI (pv3 4) zD (fun _ _ => rfl)) zL (B6 _)) (wF (zX (zZ (pv3 2)))))) (zE (zH yB)) zK)
  (zE (yK CK1 rfl (yY (zF G1x A1x (hr.mono (by omega)) (zB (pv3 4) zA))) sc22x.nd rfl (Or.inl rfl) (zE (zQ (PW3.pt (yH (zN (zU hr) (pv3 1) (yE rfl C.MOST_BLOCKS_) (B6 _)) (yF (zX (zZ (zF G22x A22x hr (zB (pv3 5) (zB (zO zW (pv3 1) zD) (zB (VE (pv3 2) (yA (zV (zU hr) (zI (pv3 4) zD (fun _ _ => rfl)) zL (B6 _)))) (zB (pv3 3) zA)))))))))) (zE (zH yB)) zK))))))))
  exact zE (zH yB)
include A1x G1x A21x G21x A22x in
theorem AG8 : ∀ lv : Nat, FO P w K mg base (17 + lv) f22x fd22x AA0 (F8 lv)
 | 0 => U5 K09.FG K09.LW
 | lv + 1 => by
  obtain G22x := AG8 lv
  exact BS8 B C A1x G1x A21x G21x A22x G22x (CO6 _ _)
include A13x G13x A23x in
theorem BS9 : FO P w K mg base 4 f23x fd23x p5x BO := by
  refine Fun.ok3 A23x.fn BX9 K09.LE fun cdv A outer s H E hr => ⟨K09.S6, ?_, K09.PJ⟩
  unfold K09.S6
  refine zC ?_ ?_
  ·exact (zQ (PW3.pt (yH (zX (zZ (zG yL rfl B.isinstance_ C4 (zB (pv3 0) (zB (yC (d := .ty "tuple") (v := .ty "tuple") rfl B.tuple_ E7 rfl (fun _ _ _ => .ty)) zA))))) (yF (zN wB (zG zT rfl B.len_ D5 (zB (pv3 0) zA)) (yE rfl C.MOST_PARAMS_) (B6 _))))) (zE (zH yB)) zK)
  exact zE (zH (zY (zG (yV rfl) rfl B.all_ AO (zB (yJ ["name"] [] [] rfl (yX (pv3 0)) rfl (by first | rfl | kernel_rfl) rfl (K2 (by decide)) (fun cl s₀ H₀ ex => (yI (i := 0) (show CI4 (["name"] : List Str) by decide +kernel) rfl (Or.inl rfl) (Or.inr rfl))) (fun cl s₀ H₀ ex => yD) (fun cl s₀ H₀ ex => (zF G13x A13x (hr.mono (by decide)) (zB (pv3 0) zA)))) zA)) (yA (zV (zU hr) (RU rfl B.len_ (ID rfl rfl B.set_ NS (zB (pv3 0) zA))) (zG zT rfl B.len_ D5 (zB (pv3 0) zA)) (B6 _)))))
include A2x G2x A3x G3x A6x A24x in
theorem BT0 (G6x : FO P w K mg base 11 f6x fd6x p4x K10.CL) : FO P w K mg base 12 f24x fd24x p4x K10.O4 := by
  refine Fun.ok3 A24x.fn sc24x K10.LG fun cdv A outer s H E hr => ⟨K10.S8, ?_, K10.PN⟩
  unfold K10.S8
  refine zC ?_ ?_
  ·exact (JM 1 ["tree"] [] [] rfl (PI3.toE (yY (yZ (zF G6x A6x (hr.mono (by decide)) (zB (pv3 0) zA))))) rfl (by first | rfl | kernel_rfl) rfl (K2 (by decide)) (fun cl s₀ H₀ ex => (yI (i := 0) (show CI4 (["tree"] : List Str) by decide +kernel) rfl (Or.inl rfl) (Or.inr rfl))) (fun cl s₀ H₀ ex => (wK (zN (zU hr) (zI (pv3 0) zD (fun _ _ => rfl)) zL (B6 _)))) (fun cl s₀ H₀ ex => (zI (pv3 0) zD (fun _ _ => rfl))) sc24x.nd rfl (Or.inl rfl) (Or.inl rfl))
  refine zC ?_ ?_
  ·exact (yK CK1 rfl (yY (yZ (zF G2x A2x (hr.mono (by decide)) (zB (zI (pv3 0) zD (fun _ _ => rfl)) zA)))) sc24x.nd rfl (Or.inl rfl) (zE (yQ (yU CO1 CS4 CW0 wD (pv3 1) (zB (zF G3x A3x (hr.mono (by decide)) (zB (pv3 2) zA)) zA)))))
  exact zE (zH (zO zW (zI (pv3 0) zD (fun _ _ => rfl)) (yG yS rfl B.tuple_ E7 (zB (AA9 rfl rfl B.sorted_ (AY6 (ID rfl rfl B.set_ NS (zB (pv3 1) zA)) (ID rfl rfl B.set_ NS (zB (zI (pv3 0) zD (fun _ _ => rfl)) zA)))) zA))))
include A13x G13x A17x G17x A22x G22x A23x G23x A24x G24x A25x in
theorem BT1 : FO P w K mg base 24 f25x fd25x p5x KJ := by
  refine Fun.ok3 A25x.fn BY0 K09.RH fun cdv A outer s H E hr => ⟨K09.CT, ?_, K09.VR⟩
  unfold K09.CT
  refine zC ?_ ?_
  ·exact (zQ (PW3.pt (yH (zX (zZ (zG yL rfl B.isinstance_ C4 (zB (pv3 0) (zB (yC (d := .ty "tuple") (v := .ty "tuple") rfl B.tuple_ E7 rfl (fun _ _ _ => .ty)) zA))))) (yF (zN (wA hr) (zG zT rfl B.len_ D5 (zB (pv3 0) zA)) zD (B6 _))))) (zE (zH yB)) zK)
  refine zC ?_ ?_
  ·exact (zQ (PW3.pt (yH (zX (zZ (zF G13x A13x (hr.mono (by decide)) (zB (zI (pv3 0) zD (fun _ _ => rfl)) zA)))) (yH (zX (zZ (zF G23x A23x (hr.mono (by decide)) (zB (zI (pv3 0) zD (fun _ _ => rfl)) zA)))) (yF (zX (zZ (zF G17x A17x (hr.mono (by decide)) (zB (zI (pv3 0) zD (fun _ _ => rfl)) zA)))))))) (zE (zH yB)) zK)
  exact zE (zH (zY (zF G22x A22x (hr.mono (by decide)) (zB (zI (pv3 0) zD (fun _ _ => rfl)) (zB zD (zB yB (zB (yR zA) zA))))) (yA (zV wH (zG zT rfl B.len_ D5 (zB (zF G24x A24x (hr.mono (by decide)) (zB (pv3 0) zA)) zA)) (yE rfl C.MOST_VARIABLES_) (B6 _)))))
include A6x G6x A26x in
theorem BT2 : FO P w K mg base 12 f26x fd26x AU5 SV := by
  refine Fun.ok3 A26x.fn sc26x K09.LF fun cdv A outer s H E hr => ⟨K09.S7, ?_, K09.PL⟩
  unfold K09.S7
  refine zC ?_ ?_
  ·exact (NA 2 ["tree"] [] [] rfl (yY (yZ (zF G6x A6x (hr.mono (by decide)) (zB (pv3 0) zA)))) rfl (by first | rfl | kernel_rfl) rfl (K2 (by decide)) (fun cl s₀ H₀ ex => (yI (i := 0) (show CI4 (["tree"] : List Str) by decide +kernel) rfl (Or.inl rfl) (Or.inr rfl))) (fun cl s₀ H₀ ex => (wK (zN (zU hr) (zI (pv3 0) zD (fun _ _ => rfl)) zL (B6 _)))) (fun cl s₀ H₀ ex => (pv3 0)) sc26x.nd rfl (Or.inl rfl) (Or.inl rfl))
  exact zE (zH (zG (yV rfl) rfl B.all_ AO (zB (yJ ["word", "name", "args"] ["counts"] [1] rfl (yY (pv3 2)) rfl (by first | rfl | kernel_rfl) rfl (GN (by decide)) (fun cl s₀ H₀ ex => (yT rfl (zR (i := 0) (show CI4 (["word", "name", "args", "counts"] : List Str) by decide +kernel) rfl (Or.inl rfl) (zR (i := 1) (show CI4 (["word", "name", "args", "counts"] : List Str) by decide +kernel) rfl (Or.inl rfl) (zR (i := 2) (show CI4 (["word", "name", "args", "counts"] : List Str) by decide +kernel) rfl (Or.inl rfl) yM (Or.inr rfl)) (Or.inr rfl)) (Or.inr rfl)))) (fun cl s₀ H₀ ex => yD) (fun cl s₀ H₀ ex => (zV (zU hr) (yU F.plainAttrs_dict F.slot_dict_get F.type_dict_get (AT5 (hu3 hr)) (pv3 3) (zB (pv3 1) zA)) (zG zT rfl B.len_ D5 (zB (pv3 2) zA)) (B6 _)))) zA)))
include A25x G25x A26x G26x A27x in
theorem BT3 : FO P w K mg base 25 f27x fd27x p5x G1 := by
  refine Fun.ok3 A27x.fn sc27x K09.RD fun cdv A outer s H E hr => ⟨K09.CO, ?_, K09.VN⟩
  unfold K09.CO
  refine zC ?_ ?_
  ·exact (zQ (PW3.pt (yH (zX (zZ (zG yL rfl B.isinstance_ C4 (zB (pv3 0) (zB (yC (d := .ty "tuple") (v := .ty "tuple") rfl B.tuple_ E7 rfl (fun _ _ _ => .ty)) zA))))) (yF (zX (AB6 wH wH zD (zG zT rfl B.len_ D5 (zB (pv3 0) zA)) (yE rfl C.MOST_RULES_)))))) (zE (zH yB)) zK)
  refine zC ?_ ?_
  ·exact (zQ (zX (zZ (zG (yV rfl) rfl B.all_ AO (zB (yJ ["rule"] [] [] rfl (yX (pv3 0)) rfl (by first | rfl | kernel_rfl) rfl (K2 (by decide)) (fun cl s₀ H₀ ex => (yI (i := 0) (show CI4 (["rule"] : List Str) by decide +kernel) rfl (Or.inl rfl) (Or.inr rfl))) (fun cl s₀ H₀ ex => yD) (fun cl s₀ H₀ ex => (zF G25x A25x (hr.mono (by decide)) (zB (pv3 0) zA)))) zA)))) (zE (zH yB)) zK)
  refine zC ?_ ?_
  ·exact (zM (i := 1) sc27x.nd rfl (Or.inr rfl) (VD ["name", "params", "block"] [] [] rfl (PI3.toE (yX (pv3 0))) rfl (by first | rfl | kernel_rfl) rfl (GN (by decide)) (fun cl s₀ H₀ ex => (yT rfl (zR (i := 0) (show CI4 (["name", "params", "block"] : List Str) by decide +kernel) rfl (Or.inl rfl) (zR (i := 1) (show CI4 (["name", "params", "block"] : List Str) by decide +kernel) rfl (Or.inl rfl) (zR (i := 2) (show CI4 (["name", "params", "block"] : List Str) by decide +kernel) rfl (Or.inl rfl) yM (Or.inr rfl)) (Or.inr rfl)) (Or.inr rfl)))) (fun cl s₀ H₀ ex => yD) (fun cl s₀ H₀ ex => (pv3 0)) (fun cl s₀ H₀ ex => (zG zT rfl B.len_ D5 (zB (pv3 1) zA)))))
  exact zE (zH (zY (zV (zU hr) (zG AR4 rfl B.len_ D5 (zB (pv3 1) zA)) (zG zT rfl B.len_ D5 (zB (pv3 0) zA)) (B6 _)) (yA (zG (yV rfl) rfl B.all_ AO (zB (yJ ["rule"] ["counts"] [1] rfl (yX (pv3 0)) rfl (by first | rfl | kernel_rfl) rfl (K2 (by decide)) (fun cl s₀ H₀ ex => (yI (i := 0) (show CI4 (["rule", "counts"] : List Str) by decide +kernel) rfl (Or.inl rfl) (Or.inr rfl))) (fun cl s₀ H₀ ex => yD) (fun cl s₀ H₀ ex => (zF G26x A26x (hr.mono (by decide)) (zB (pv3 0) (zB (pv3 1) zA))))) zA)))))
include A28x in
theorem BT4 : FO P w K mg base 1 f28x fd28x RR NH := by
  refine Fun.ok3 A28x.fn BY1 PK.OJ fun cdv A outer s H E hr => ⟨PK.ER, ?_, PK.SA⟩
  unfold PK.ER
  exact zE (zH (AA5 (wI zL (yG WV rfl B.list_ WU (zB (BH6 (pv3 0) yP (yO zD)) zA)) (wI zL zD (wI zL zD AM5))) rfl rfl (by simp) (by decide)))
include A29x in
theorem BT5 : FO P w K mg base 1 f29x fd29x AU6 C8 := by
  refine Fun.ok3 A29x.fn sc29x PK.LB fun cdv A outer s H E hr => ⟨PK.BR, ?_, PK.PD⟩
  unfold PK.BR
  refine zC ?_ ?_
  ·exact (zQ (zN wB (wC (hu3 hr) (pv3 0) zL (fun _ _ => rfl)) zD (B6 _)) (zC (zM (i := 2) sc29x.nd rfl (Or.inl rfl) (zO wE (wC (hu3 hr) (pv3 0) zL (fun _ _ => rfl)) (pv3 1)))
  (zC (wL (hu3 hr) (pv3 0) zL (zO OU (wC (hu3 hr) (pv3 0) zL (fun _ _ => rfl)) (pv3 1)) rfl)
  (zE (zH (pv3 2))))) zK)
  refine zC ?_ ?_
  ·exact (zM (i := 3) sc29x.nd rfl (Or.inl rfl) (wC (hu3 hr) (pv3 0) zL (fun _ _ => rfl)))
  refine zC ?_ ?_
  ·exact (zM (i := 4) sc29x.nd rfl (Or.inl rfl) (wC (hu3 hr) (pv3 0) zL (fun _ _ => rfl)))
  refine zC ?_ ?_
  ·exact (wL (hu3 hr) (pv3 0) zL (zO zW (pv3 4) zD) rfl)
  refine zC ?_ ?_
  ·exact (zM (i := 5) sc29x.nd rfl (Or.inl rfl) (zO zW (zO wP zD (pv3 4)) zD))
  refine zC ?_ ?_
  ·exact (zQ (zN (wA hr) (pv3 3) (zS zA) (B6 _)) (zE (zM (i := 5) sc29x.nd rfl (Or.inl rfl) (zI (pv3 3) (zO wE (pv3 4) (zG zT rfl B.len_ D5 (zB (pv3 3) zA))) (fun _ _ => rfl)))) zK)
  refine zC ?_ ?_
  ·exact (zQ (PW3.pt (wJ (zN AJ6 (pv3 4) (zG zT rfl B.len_ D5 (zB (pv3 3) zA)) (B6 _)) (wF (zN BQ9 (zG wM rfl B.abs_ NR (zB (pv3 5) zA)) (zO UW zD zD) (B6 _))))) (zC (wL (hu3 hr) (pv3 0) zL (zO OU (zG wM rfl B.abs_ NR (zB (pv3 5) zA)) (pv3 1)) rfl)
  (zE (zH (zO wE (zG wM rfl B.abs_ NR (zB (pv3 5) zA)) (pv3 1))))) zK)
  refine zC ?_ ?_
  ·exact (zM (i := 6) sc29x.nd rfl (Or.inl rfl) (zO wE (zO UW (zO zW (zO zW (zO wE (pv3 5) zD) (zO wP zD (pv3 4))) zD) zD) zD))
  refine zC ?_ ?_
  ·exact (zM (i := 6) sc29x.nd rfl (Or.inl rfl) (zO wE (zO UW (zO zW (zO wP (pv3 6) (zO zW (zO wP zD (pv3 4)) zD)) zD) zD) zD))
  exact zE (zH (zO wE (zO OU (pv3 6) zD) (pv3 1)))
include A30x in
theorem BT6 : FO P w K mg base 1 f30x fd30x AU7 P4 := by
  refine Fun.ok3 A30x.fn BY2 IZ fun cdv A outer s H E hr => ⟨P6, ?_, LL⟩
  unfold P6
  exact zE (zH (yG yS rfl B.tuple_ E7 (zB (yJ ["_law_k"] [] [] rfl (yN rfl B.range_ (zB (pv3 0) zA)) rfl (by first | rfl | kernel_rfl) rfl (K2 (by decide)) (fun cl s₀ H₀ ex => (yI (i := 0) (show CI4 (["_law_k"] : List Str) by decide +kernel) rfl (Or.inl rfl) (Or.inr rfl))) (fun cl s₀ H₀ ex => yD) (fun cl s₀ H₀ ex => (zJ (zB zL (zB (zJ (zB zL (zB (pv3 0) zA))) zA))))) zA)))
include A29x G29x A30x G30x A31x in
theorem BT7 : FO P w K mg base 2 f31x fd31x AU8 BN := by
  refine Fun.ok3 A31x.fn sc31x HR fun cdv A outer s H E hr => ⟨N7, ?_, JP⟩
  unfold N7
  refine zC ?_ ?_
  ·refine zM (i := 2) ?a ?b ?c ?d
   case a => exact sc31x.nd
   case b => exact rfl
   case c => exact (Or.inl rfl)
   case d =>
    exact (zF G30x A30x (hr.mono (by decide)) (zB zD zA))
  refine zC ?_ ?_
  ·refine zM (i := 3) ?a ?b ?c ?d
   case a => exact sc31x.nd
   case b => exact rfl
   case c => exact (Or.inl rfl)
   case d =>
    exact (zF G29x A29x (hr.mono (by decide)) (zB (pv3 0) (zB zD zA)))
  refine zC ?_ ?_
  ·refine zM (i := 4) ?a ?b ?c ?d
   case a => exact sc31x.nd
   case b => exact rfl
   case c => exact (Or.inl rfl)
   case d =>
    refine zS ?_
    refine zB ?_ ?_
    ·refine zJ ?_
     refine zP ?_
     refine zB ?_ ?_
     ·refine zJ ?_
      refine zP ?_
      exact zA
     refine zB ?_ ?_
     ·refine zJ ?_
      refine zB ?_ ?_
      ·exact (pv3 1)
      exact zA
     refine zB ?_ ?_
     ·refine zJ ?_
      exact zA
     exact zA
    refine zB ?_ ?_
    ·refine zJ ?_
     refine zP ?_
     refine zB ?_ ?_
     ·refine zJ ?_
      refine zP ?_
      exact zA
     refine zB ?_ ?_
     ·exact (pv3 2)
     refine zB ?_ ?_
     ·refine zJ ?_
      refine zB ?_ ?_
      ·exact (pv3 1)
      exact zA
     exact zA
    refine zB ?_ ?_
    ·refine zJ ?_
     refine zP ?_
     refine zB ?_ ?_
     ·exact (pv3 2)
     refine zB ?_ ?_
     ·refine zJ ?_
      exact zA
     refine zB ?_ ?_
     ·refine zJ ?_
      refine zB ?_ ?_
      ·exact (pv3 1)
      exact zA
     exact zA
    exact zA
  refine zC ?_ ?_
  ·refine zM (i := 4) ?a ?b ?c ?d
   case a => exact sc31x.nd
   case b => exact rfl
   case c => exact (Or.inl rfl)
   case d =>
    refine zO zW ?_ ?_
    ·exact (pv3 4)
    ·refine zS ?_
     refine zB ?_ ?_
     ·refine zJ ?_
      refine zP ?_
      refine zB ?_ ?_
      ·refine zJ ?_
       refine zB ?_ ?_
       ·exact (pv3 1)
       exact zA
      refine zB ?_ ?_
      ·refine zJ ?_
       refine zB ?_ ?_
       ·refine zJ ?_
        refine zP ?_
        refine zP ?_
        refine zB ?_ ?_
        ·exact (pv3 2)
        exact zA
       exact zA
      refine zB ?_ ?_
      ·refine zJ ?_
       exact zA
      exact zA
     exact zA
  refine zC ?_ ?_
  ·refine zM (i := 4) ?a ?b ?c ?d
   case a => exact sc31x.nd
   case b => exact rfl
   case c => exact (Or.inl rfl)
   case d =>
    refine zO zW ?_ ?_
    ·exact (pv3 4)
    ·refine zS ?_
     refine zB ?_ ?_
     ·refine zJ ?_
      refine zP ?_
      refine zB ?_ ?_
      ·exact (pv3 2)
      refine zB ?_ ?_
      ·refine zJ ?_
       refine zB ?_ ?_
       ·refine zJ ?_
        refine zP ?_
        refine zP ?_
        refine zB ?_ ?_
        ·exact (pv3 2)
        exact zA
       refine zB ?_ ?_
       ·refine zJ ?_
        refine zP ?_
        refine zP ?_
        refine zB ?_ ?_
        ·refine zJ ?_
         refine zB ?_ ?_
         ·exact (pv3 1)
         exact zA
        exact zA
       exact zA
      refine zB ?_ ?_
      ·exact (pv3 2)
      exact zA
     exact zA
  exact zE (zH (zJ (zB (zI (zO zW (pv3 4) (zO OV (zS (zB (zJ (zB zL (zB (zJ (zB zL zA)) (zB (zO zW (pv3 2) (zJ (zB (pv3 1) zA))) zA)))) zA)) zD)) (pv3 3) (fun _ _ => rfl)) (zB (zV wB (pv3 3) zD (B6 _)) zA))))
include A31x G31x A32x in
theorem BT8 : FO P w K mg base 3 f32x fd32x AU9 O2 := by
  refine Fun.ok3 A32x.fn sc32x HS fun cdv A outer s H E hr => ⟨N8, ?_, JQ⟩
  unfold N8
  refine zC ?_ ?_
  ·exact (zM (i := 3) sc32x.nd rfl (Or.inl rfl) yB)
  refine zC ?_ ?_
  ·exact (yK CK1 rfl (yN rfl B.range_ (zB (pv3 2) zA)) sc32x.nd rfl (Or.inl rfl) (zC (YF (zF G31x A31x (hr.mono (by decide)) (zB (pv3 0) (zB (pv3 1) zA))) (yT rfl (zR (i := 1) sc32x.nd rfl (Or.inl rfl) (zR (i := 5) sc32x.nd rfl (Or.inl rfl) yM (Or.inl rfl)) (Or.inl rfl))))
  (zE (zM (i := 3) sc32x.nd rfl (Or.inl rfl) (VE (pv3 3) (yA (pv3 5)))))))
  exact zE (zH (zS (zB (pv3 1) (zB (pv3 3) zA))))
include A29x G29x A33x in
theorem BT9 : FO P w K mg base 2 f33x fd33x AV0 CJ := by
  refine Fun.ok3 A33x.fn sc33x DA fun cdv A outer s H E hr => ⟨G0, ?_, DX⟩
  unfold G0
  refine zC ?_ ?_
  ·refine zM (i := 4) ?a ?b ?c ?d
   case a => exact sc33x.nd
   case b => exact rfl
   case c => exact (Or.inl rfl)
   case d =>
    exact (zF G29x A29x (hr.mono (by decide)) (zB (pv3 0) (zB zD zA)))
  refine zC ?_ ?_
  ·refine zQ (PW3.pt (wJ (zN (zU hr) (pv3 3) zD (B6 _)) (wF (zN (zU hr) (pv3 4) zD (B6 _))))) ?_ ?_
   ·refine zC ?_ ?_
    ·refine zM (i := 1) ?a ?b ?c ?d
     case a => exact sc33x.nd
     case b => exact rfl
     case c => exact (Or.inl rfl)
     case d =>
      refine zJ ?_
      refine zP ?_
      refine zB ?_ ?_
      ·exact (pv3 2)
      refine zB ?_ ?_
      ·refine zJ ?_
       refine zB ?_ ?_
       ·exact (pv3 1)
       exact zA
      exact zA
    ·refine zC ?_ ?_
     ·refine zM (i := 4) ?a ?b ?c ?d
      case a => exact sc33x.nd
      case b => exact rfl
      case c => exact (Or.inl rfl)
      case d =>
       exact (zF G29x A29x (hr.mono (by decide)) (zB (pv3 0) (zB zD zA)))
     ·refine zC ?_ ?_
      ·refine zQ (zN (zU hr) (pv3 4) zD (B6 _)) ?_ ?_
       ·refine zE ?_
        exact (zH (zJ (zB zL (zB zL (zB (zJ (zB zL zA)) (zB (pv3 1) zA))))))
       ·exact zK
      ·refine zE ?_
       exact (zH (pv3 1))
   ·exact zK
  refine zC ?_ ?_
  ·refine yK CK1 rfl (yN rfl B.range_ (zB (pv3 4) zA)) sc33x.nd rfl (Or.inl rfl) ?_
   refine zC ?_ ?_
   ·refine zM (i := 6) ?a ?b ?c ?d
    case a => exact sc33x.nd
    case b => exact rfl
    case c => exact (Or.inl rfl)
    case d =>
     refine zS ?_
     refine zB ?_ ?_
     ·refine zJ ?_
      refine zP ?_
      refine zP ?_
      refine zB ?_ ?_
      ·exact (pv3 1)
      refine zB ?_ ?_
      ·refine zJ ?_
       refine zP ?_
       refine zP ?_
       exact zA
      exact zA
     refine zB ?_ ?_
     ·refine zJ ?_
      refine zP ?_
      refine zP ?_
      refine zB ?_ ?_
      ·refine zJ ?_
       refine zP ?_
       refine BV1 ?_
       exact zA
      refine zB ?_ ?_
      ·exact (pv3 1)
      exact zA
     refine zB ?_ ?_
     ·refine zJ ?_
      refine zP ?_
      refine zP ?_
      refine zB ?_ ?_
      ·exact (pv3 1)
      refine zB ?_ ?_
      ·exact (pv3 1)
      exact zA
     exact zA
   ·refine zE ?_
    refine zM (i := 1) ?a ?b ?c ?d
    case a => exact sc33x.nd
    case b => exact rfl
    case c => exact (Or.inl rfl)
    case d =>
     refine zI ?_ ?_ (fun _ _ => rfl)
     ·exact (pv3 6)
     ·exact (zF G29x A29x (hr.mono (by decide)) (zB (pv3 0) (zB (zO zW zD (yG BD3 rfl B.int_ AD6 (zB (zV (zU hr) (pv3 4) zD (B6 _)) zA))) zA)))
  exact zE (zH (pv3 1))
include A29x G29x A30x G30x A34x in
theorem BU0 : FO P w K mg base 2 f34x fd34x AV1 HC := by
  refine Fun.ok3 A34x.fn sc34x LC fun cdv A outer s H E hr => ⟨S4, ?_, PF⟩
  unfold S4
  refine zC ?_ ?_
  ·refine zM (i := 2) ?a ?b ?c ?d
   case a => exact sc34x.nd
   case b => exact rfl
   case c => exact (Or.inl rfl)
   case d =>
    exact (zF G30x A30x (hr.mono (by decide)) (zB zD zA))
  refine zC ?_ ?_
  ·refine zM (i := 3) ?a ?b ?c ?d
   case a => exact sc34x.nd
   case b => exact rfl
   case c => exact (Or.inl rfl)
   case d =>
    refine zJ ?_
    refine zP ?_
    exact zA
  refine zC ?_ ?_
  ·refine zM (i := 4) ?a ?b ?c ?d
   case a => exact sc34x.nd
   case b => exact rfl
   case c => exact (Or.inl rfl)
   case d =>
    refine zS ?_
    refine zB ?_ ?_
    ·refine zJ ?_
     refine zP ?_
     refine zP ?_
     refine zB ?_ ?_
     ·exact (pv3 1)
     exact zA
    refine zB ?_ ?_
    ·refine zJ ?_
     refine zP ?_
     refine zB ?_ ?_
     ·exact (pv3 1)
     exact zA
    refine zB ?_ ?_
    ·refine zJ ?_
     refine zP ?_
     refine zP ?_
     refine zB ?_ ?_
     ·exact (pv3 1)
     exact zA
    refine zB ?_ ?_
    ·refine zJ ?_
     refine zP ?_
     refine zP ?_
     refine zB ?_ ?_
     ·exact (pv3 1)
     exact zA
    exact zA
  refine zC ?_ ?_
  ·refine zM (i := 4) ?a ?b ?c ?d
   case a => exact sc34x.nd
   case b => exact rfl
   case c => exact (Or.inl rfl)
   case d =>
    refine zO zW ?_ ?_
    ·exact (pv3 4)
    ·refine zS ?_
     refine zB ?_ ?_
     ·refine zJ ?_
      refine zP ?_
      refine zP ?_
      refine zP ?_
      refine zB ?_ ?_
      ·exact (pv3 1)
      refine zB ?_ ?_
      ·exact (pv3 3)
      exact zA
     refine zB ?_ ?_
     ·refine zJ ?_
      refine zP ?_
      refine zP ?_
      refine zP ?_
      refine zB ?_ ?_
      ·exact (pv3 3)
      refine zB ?_ ?_
      ·exact (pv3 1)
      exact zA
     refine zB ?_ ?_
     ·refine zJ ?_
      refine zP ?_
      refine zB ?_ ?_
      ·exact (pv3 1)
      exact zA
     exact zA
  refine zC ?_ ?_
  ·refine zM (i := 4) ?a ?b ?c ?d
   case a => exact sc34x.nd
   case b => exact rfl
   case c => exact (Or.inl rfl)
   case d =>
    refine zO zW ?_ ?_
    ·exact (pv3 4)
    ·refine zS ?_
     refine zB ?_ ?_
     ·refine zJ ?_
      refine zP ?_
      refine zP ?_
      refine zP ?_
      refine zB ?_ ?_
      ·exact (pv3 1)
      refine zP ?_
      refine zB ?_ ?_
      ·exact (pv3 3)
      exact zA
     refine zB ?_ ?_
     ·refine zJ ?_
      refine zP ?_
      refine zP ?_
      refine zP ?_
      refine zB ?_ ?_
      ·exact (pv3 3)
      refine zP ?_
      refine zB ?_ ?_
      ·exact (pv3 1)
      exact zA
     exact zA
  refine zC ?_ ?_
  ·refine zM (i := 4) ?a ?b ?c ?d
   case a => exact sc34x.nd
   case b => exact rfl
   case c => exact (Or.inl rfl)
   case d =>
    refine zO zW ?_ ?_
    ·exact (pv3 4)
    ·refine zS ?_
     refine zB ?_ ?_
     ·refine zJ ?_
      refine zP ?_
      refine zB ?_ ?_
      ·exact (pv3 1)
      exact zA
     refine zB ?_ ?_
     ·refine zJ ?_
      refine zP ?_
      refine zP ?_
      refine zB ?_ ?_
      ·exact (pv3 1)
      exact zA
     refine zB ?_ ?_
     ·refine zJ ?_
      refine zP ?_
      refine zB ?_ ?_
      ·exact (pv3 1)
      refine zB ?_ ?_
      ·exact (pv3 2)
      exact zA
     exact zA
  exact zE (zH (zI (zO zW (pv3 4) (zS (zB (zJ (zB zL (zB (pv3 1) (zB (pv3 2) (zB (zJ zA) zA))))) zA))) (zF G29x A29x (hr.mono (by decide)) (zB (pv3 0) (zB zD zA))) (fun _ _ => rfl)))
include A29x G29x A35x in
theorem BU1 : FO P w K mg base 2 f35x fd35x AV2 FX := by
  refine Fun.ok3 A35x.fn sc35x IY fun cdv A outer s H E hr => ⟨P5, ?_, LK⟩
  unfold P5
  refine zC ?_ ?_
  ·exact (JM 1 ["_law_k"] [] [] rfl (PI3.toE (yN rfl B.range_ (zB zD zA))) rfl (by first | rfl | kernel_rfl) rfl (K2 (by decide)) (fun cl s₀ H₀ ex => (yI (i := 0) (show CI4 (["_law_k"] : List Str) by decide +kernel) rfl (Or.inl rfl) (Or.inr rfl))) (fun cl s₀ H₀ ex => yD) (fun cl s₀ H₀ ex => (zO zW zL (zI zL (pv3 0) (fun _ _ => rfl)))) sc35x.nd rfl (Or.inl rfl) (Or.inl rfl))
  refine zC ?_ ?_
  ·refine zM (i := 2) ?a ?b ?c ?d
   case a => exact sc35x.nd
   case b => exact rfl
   case c => exact (Or.inl rfl)
   case d =>
    exact (zF G29x A29x (hr.mono (by decide)) (zB (pv3 0) (zB zD zA)))
  refine zC ?_ ?_
  ·refine zQ (zN (zU hr) (pv3 2) zD (B6 _)) ?_ ?_
   ·refine zE ?_
    refine zM (i := 1) ?a ?b ?c ?d
    case a => exact sc35x.nd
    case b => exact rfl
    case c => exact (Or.inl rfl)
    case d =>
     refine yR ?_
     refine zP ?_
     refine zP ?_
     refine zP ?_
     refine zP ?_
     refine zP ?_
     refine zP ?_
     refine zP ?_
     refine zP ?_
     exact zA
   ·exact zK
  refine zC ?_ ?_
  ·refine zQ (zN (zU hr) (pv3 2) zD (B6 _)) ?_ ?_
   ·refine zE ?_
    exact (AM9 (pv3 1) (zF G29x A29x (hr.mono (by decide)) (zB (pv3 0) (zB zD zA))) (zI (pv3 1) (zF G29x A29x (hr.mono (by decide)) (zB (pv3 0) (zB zD zA))) (fun _ _ => rfl)))
   ·exact zK
  refine RV 1 ?_
  exact zE (zH (yW (pv3 1) yP (yO (zO zW zD (zF G29x A29x (hr.mono (by decide)) (zB (pv3 0) (zB zD zA)))))))
include A27x G27x A28x G28x A29x G29x A30x G30x A32x G32x A33x G33x A34x G34x A35x G35x A36x in
theorem BU2 : FO P w K mg base 26 f36x fd36x RR L3.EM := by
  refine Fun.ok3 A36x.fn sc36x AT0 fun cdv A outer s H E hr => ⟨YS, ?_, BK0⟩
  unfold YS
  refine zC ?_ ?_
  ·refine zM (i := 1) ?a ?b ?c ?d
   case a => exact sc36x.nd
   case b => exact rfl
   case c => exact (Or.inr rfl)
   case d =>
    exact (zF G28x A28x (hr.mono (by decide)) (zB (pv3 0) zA))
  refine zC ?_ ?_
  ·refine yK CK1 rfl (yN rfl B.range_ (zB zD zA)) sc36x.nd rfl (Or.inl rfl) ?_
   refine zC ?_ ?_
   ·refine zM (i := 3) ?a ?b ?c ?d
    case a => exact sc36x.nd
    case b => exact rfl
    case c => exact (Or.inl rfl)
    case d =>
     exact (zF G35x A35x (hr.mono (by decide)) (zB (pv3 1) zA))
   ·refine zC ?_ ?_
    ·exact (NA 4 ["_law_name"] ["_law_pen_here"] [1] rfl (yY (pv3 3)) rfl (by first | rfl | kernel_rfl) rfl (K2 (by decide)) (fun cl s₀ H₀ ex => (yI (i := 0) (show CI4 (["_law_name", "_law_pen_here"] : List Str) by decide +kernel) rfl (Or.inl rfl) (Or.inr rfl))) (fun cl s₀ H₀ ex => yD) (fun cl s₀ H₀ ex => (zF G29x A29x (hr.mono (by decide)) (zB (pv3 1) (zB zD zA)))) sc36x.nd rfl (Or.inl rfl) (Or.inl rfl))
    ·refine zC ?_ ?_
     ·refine zM (i := 5) ?a ?b ?c ?d
      case a => exact sc36x.nd
      case b => exact rfl
      case c => exact (Or.inl rfl)
      case d =>
       exact (zF G29x A29x (hr.mono (by decide)) (zB (pv3 1) (zB (zG zT rfl B.len_ D5 (zB (pv3 3) zA)) zA)))
     ·refine zC ?_ ?_
      ·refine zM (i := 6) ?a ?b ?c ?d
       case a => exact sc36x.nd
       case b => exact rfl
       case c => exact (Or.inl rfl)
       case d =>
        refine zI ?_ ?_ (fun _ _ => rfl)
        ·refine zS ?_
         refine zB ?_ ?_
         ·refine zI ?_ ?_ (fun _ _ => rfl)
          ·exact (pv3 3)
          ·exact (pv3 5)
         refine zB ?_ ?_
         ·refine zI ?_ ?_ (fun _ _ => rfl)
          ·exact (pv3 3)
          ·exact (pv3 5)
         refine zB ?_ ?_
         ·refine zI ?_ ?_ (fun _ _ => rfl)
          ·exact (pv3 3)
          ·exact (pv3 5)
         refine zP ?_
         exact zA
        ·exact (zF G29x A29x (hr.mono (by decide)) (zB (pv3 1) (zB zD zA)))
      ·refine zC ?_ ?_
       ·refine zM (i := 7) ?a ?b ?c ?d
        case a => exact sc36x.nd
        case b => exact rfl
        case c => exact (Or.inl rfl)
        case d =>
         refine zI ?_ ?_ (fun _ _ => rfl)
         ·refine zS ?_
          refine zB ?_ ?_
          ·refine zI ?_ ?_ (fun _ _ => rfl)
           ·exact (pv3 4)
           ·exact (pv3 5)
          refine zB ?_ ?_
          ·refine zI ?_ ?_ (fun _ _ => rfl)
           ·exact (pv3 4)
           ·exact (pv3 5)
          refine zB ?_ ?_
          ·exact (zF G29x A29x (hr.mono (by decide)) (zB (pv3 1) (zB zD zA)))
          exact zA
         ·exact (zF G29x A29x (hr.mono (by decide)) (zB (pv3 1) (zB zD zA)))
       ·refine zC ?_ ?_
        ·refine zM (i := 8) ?a ?b ?c ?d
         case a => exact sc36x.nd
         case b => exact rfl
         case c => exact (Or.inl rfl)
         case d =>
          refine zJ ?_
          refine zP ?_
          refine zB ?_ ?_
          ·exact (pv3 6)
          refine zB ?_ ?_
          ·exact (yG yS rfl B.tuple_ E7 (zB (zO zW (zO OV (zS (zB (zJ (zB zL zA)) zA)) (zG (AD9 rfl) rfl B.min_ AD7 (zB (pv3 7) (zB zD zA)))) (zO OV (zS (zB (zJ (zB zL (zB zL zA))) zA)) (zO wO (pv3 7) (zG (AD9 rfl) rfl B.min_ AD7 (zB (pv3 7) (zB zD zA)))))) zA))
          exact zA
        ·refine zC ?_ ?_
         ·refine zQ (PW3.pt (wJ (zN wB (pv3 7) zD (B6 _)) (wF (zN (zU hr) (zF G29x A29x (hr.mono (by decide)) (zB (pv3 1) (zB zD zA))) zD (B6 _))))) ?_ ?_
          ·refine zE ?_
           refine zM (i := 8) ?a ?b ?c ?d
           case a => exact sc36x.nd
           case b => exact rfl
           case c => exact (Or.inl rfl)
           case d =>
            refine zJ ?_
            refine zP ?_
            refine zB ?_ ?_
            ·exact (pv3 6)
            refine zB ?_ ?_
            ·refine zO AT8 ?_ ?_
             ·refine zJ ?_
              refine zB ?_ ?_
              ·refine zJ ?_
               refine zP ?_
               refine zB ?_ ?_
               ·exact (BH7 BO3 zD)
               exact zA
              exact zA
             ·exact (pv3 7)
            exact zA
          ·exact zK
         ·refine zC ?_ ?_
          ·refine zM (i := 9) ?a ?b ?c ?d
           case a => exact sc36x.nd
           case b => exact rfl
           case c => exact (Or.inl rfl)
           case d =>
            refine zI ?_ ?_ (fun _ _ => rfl)
            ·exact (zF G32x A32x (hr.mono (by decide)) (zB (pv3 1) (zB (zF G34x A34x (hr.mono (by decide)) (zB (pv3 1) (zB (zF G33x A33x (hr.mono (by decide)) (zB (pv3 1) (zB (pv3 8) (zB (zI (pv3 3) zD (fun _ _ => rfl)) (zB (zI (pv3 4) zD (fun _ _ => rfl)) zA))))) zA))) (zB (zF G29x A29x (hr.mono (by decide)) (zB (pv3 1) (zB zD zA))) zA))))
            ·exact zD
          ·refine zC ?_ ?_
           ·exact (YF (zF G32x A32x (hr.mono (by decide)) (zB (pv3 1) (zB (zJ (zB zL zA)) (zB (zF G29x A29x (hr.mono (by decide)) (zB (pv3 1) (zB zD zA))) zA)))) (AW8 rfl (zR (i := 10) sc36x.nd rfl (Or.inl rfl) (zR (i := 11) sc36x.nd rfl (Or.inl rfl) yM (Or.inl rfl)) (Or.inl rfl))))
           ·refine zC ?_ ?_
            ·refine zM (i := 12) ?a ?b ?c ?d
             case a => exact sc36x.nd
             case b => exact rfl
             case c => exact (Or.inl rfl)
             case d =>
              exact (zF G29x A29x (hr.mono (by decide)) (zB (pv3 1) (zB zD zA)))
            ·refine zC ?_ ?_
             ·refine zM (i := 13) ?a ?b ?c ?d
              case a => exact sc36x.nd
              case b => exact rfl
              case c => exact (Or.inl rfl)
              case d =>
               refine zI ?_ ?_ (fun _ _ => rfl)
               ·refine zS ?_
                refine zB ?_ ?_
                ·refine zS ?_
                 refine zB ?_ ?_
                 ·exact (pv3 9)
                 exact zA
                refine zB ?_ ?_
                ·refine zS ?_
                 refine zB ?_ ?_
                 ·exact (pv3 10)
                 exact zA
                refine zB ?_ ?_
                ·refine zS ?_
                 refine zB ?_ ?_
                 ·exact (pv3 9)
                 refine zB ?_ ?_
                 ·exact (pv3 10)
                 exact zA
                exact zA
               ·exact (pv3 12)
             ·refine zC ?_ ?_
              ·refine zM (i := 14) ?a ?b ?c ?d
               case a => exact sc36x.nd
               case b => exact rfl
               case c => exact (Or.inl rfl)
               case d =>
                exact (zF G29x A29x (hr.mono (by decide)) (zB (pv3 1) (zB (zG zT rfl B.len_ D5 (zB (pv3 3) zA)) zA)))
              ·refine zC ?_ ?_
               ·refine zM (i := 15) ?a ?b ?c ?d
                case a => exact sc36x.nd
                case b => exact rfl
                case c => exact (Or.inl rfl)
                case d =>
                 refine yR ?_
                 exact zA
               ·refine zC ?_ ?_
                ·refine yK CK1 rfl (yN rfl B.range_ (zB (zG zT rfl B.len_ D5 (zB (pv3 3) zA)) zA)) sc36x.nd rfl (Or.inl rfl) ?_
                 refine zC ?_ ?_
                 ·refine zM (i := 17) ?a ?b ?c ?d
                  case a => exact sc36x.nd
                  case b => exact rfl
                  case c => exact (Or.inl rfl)
                  case d =>
                   exact (zF G30x A30x (hr.mono (by decide)) (zB (zO zW zD (zF G29x A29x (hr.mono (by decide)) (zB (pv3 1) (zB zD zA)))) zA))
                 ·refine zC ?_ ?_
                  ·refine zQ (zN (zU hr) (pv3 16) (pv3 14) (B6 _)) ?_ ?_
                   ·refine zE ?_
                    refine zM (i := 17) ?a ?b ?c ?d
                    case a => exact sc36x.nd
                    case b => exact rfl
                    case c => exact (Or.inl rfl)
                    case d =>
                     refine zO zW ?_ ?_
                     ·refine zO zW ?_ ?_
                      ·exact (yW (pv3 17) yP (yO zD))
                      ·exact (yG yS rfl B.tuple_ E7 (zB (pv3 13) zA))
                     ·exact (yW (pv3 17) (yO zD) yP)
                   ·exact zK
                  ·refine zE ?_
                   exact (yQ (yU CO1 CW1 F.type_list_append wG (pv3 15) (zB (zJ (zB (zI (pv3 3) (pv3 16) (fun _ _ => rfl)) (zB (yG yS rfl B.tuple_ E7 (zB (yW (zS (zB zL (zB zL (zB zL zA)))) yP (yO (zI (pv3 4) (pv3 16) (fun _ _ => rfl)))) zA)) (zB (pv3 17) zA)))) zA)))
                ·refine RV 15 ?_
                 refine zC ?_ ?_
                 ·refine zM (i := 18) ?a ?b ?c ?d
                  case a => exact sc36x.nd
                  case b => exact rfl
                  case c => exact (Or.inl rfl)
                  case d =>
                   exact (zV (zU hr) (RU rfl B.len_ (ID rfl rfl B.set_ NS (zB (pv3 3) zA))) (zG zT rfl B.len_ D5 (zB (pv3 3) zA)) (B6 _))
                 ·refine zC ?_ ?_
                  ·refine zQ (zN (wA hr) (pv3 12) zD (B6 _)) ?_ ?_
                   ·refine zE ?_
                    refine zM (i := 18) ?a ?b ?c ?d
                    case a => exact sc36x.nd
                    case b => exact rfl
                    case c => exact (Or.inl rfl)
                    case d =>
                     exact (zY (pv3 18) (zY (zV (zU hr) (pv3 6) (zI (pv3 3) (pv3 5) (fun _ _ => rfl)) (B6 _)) (yA (zV (zU hr) (pv3 7) (zI (pv3 4) (pv3 5) (fun _ _ => rfl)) (B6 _)))))
                   ·exact zK
                  ·refine zC ?_ ?_
                   ·refine zQ (zN wB (pv3 12) zD (B6 _)) ?_ ?_
                    ·refine zE ?_
                     refine zM (i := 18) ?a ?b ?c ?d
                     case a => exact sc36x.nd
                     case b => exact rfl
                     case c => exact (Or.inl rfl)
                     case d =>
                      exact (zY (pv3 18) (yA (pv3 11)))
                    ·exact zK
                   ·refine zC ?_ ?_
                    ·refine zM (i := 19) ?a ?b ?c ?d
                     case a => exact sc36x.nd
                     case b => exact rfl
                     case c => exact (Or.inl rfl)
                     case d =>
                      exact (zF G27x A27x (hr.mono (by decide)) (zB (yG yS rfl B.tuple_ E7 (zB (pv3 15) zA)) zA))
                    ·refine zE ?_
                     refine zQ (PW3.pt (yH (zX (zZ (zG yL rfl B.isinstance_ C4 (zB (pv3 19) (zB (yC (d := .ty "bool") (v := .ty "bool") rfl B.bool_ WT rfl (fun _ _ _ => .ty)) zA))))) (yF (zN (wA hr) (pv3 19) (pv3 18) (B6 _))))) ?_ ?_
                     ·refine zE ?_
                      exact (zH yB)
                     ·exact zK
  exact zE (zH yB)
end
local macro_rules | `(tactic| walk_at "b1") => `(tactic| exact fun _ _ _ _ _ _ us hl => by obtain ⟨_, e⟩ := us1 hl; cases e; rfl)
local macro_rules | `(tactic| walk_at "b2") => `(tactic| exact fun _ _ _ _ _ _ us hl => by obtain ⟨_, _, e⟩ := us2 hl; cases e; rfl)
local macro_rules | `(tactic| walk_at "b3") => `(tactic| exact fun _ _ _ _ _ _ us hl => by obtain ⟨_, _, _, e⟩ := us3 hl; cases e; rfl)
local macro_rules | `(tactic| walk_at "b4") => `(tactic| exact fun _ _ _ _ _ _ us hl => by obtain ⟨_, _, _, _, e⟩ := us4 hl; cases e; rfl)
theorem BC7 {l : PySem.W.OpenLaw} {fa : Addr} (X : K.In h) (G : h.Ns CG1 mg) (hfa : mg "law" = some (.ref fa))
  {ac12 : Addr}
  {ac12_0 ac12_1 ac12_2 ac12_3 ac12_4 ac12_5 ac12_6 ac12_7 ac12_8 ac12_9 ac12_10 ac12_11 ac12_12 : Addr} {qc12_0 qc12_1 qc12_2 qc12_3 qc12_4 qc12_5 qc12_6 qc12_7 qc12_8 qc12_9 qc12_10 qc12_11 qc12_12 : Tok} {ec12 : Nat}
  {kc12_0_0 kc12_0_1 : Tok} {oc12_0 : Option Addr} {nc12_0 : Nat} {sc12_0 : Array (Option Value)}
  {kc12_1_0 : Tok} {oc12_1 : Option Addr} {nc12_1 : Nat} {sc12_1 : Array (Option Value)}
  {kc12_2_0 kc12_2_1 : Tok} {oc12_2 : Option Addr} {nc12_2 : Nat} {sc12_2 : Array (Option Value)}
  {kc12_3_0 kc12_3_1 : Tok} {oc12_3 : Option Addr} {nc12_3 : Nat} {sc12_3 : Array (Option Value)}
  {kc12_4_0 kc12_4_1 kc12_4_2 kc12_4_3 : Tok} {oc12_4 : Option Addr} {nc12_4 : Nat} {sc12_4 : Array (Option Value)}
  {kc12_5_0 kc12_5_1 kc12_5_2 kc12_5_3 kc12_5_4 : Tok} {oc12_5 : Option Addr} {nc12_5 : Nat} {sc12_5 : Array (Option Value)}
  {kc12_6_0 : Tok} {oc12_6 : Option Addr} {nc12_6 : Nat} {sc12_6 : Array (Option Value)}
  {kc12_7_0 : Tok} {oc12_7 : Option Addr} {nc12_7 : Nat} {sc12_7 : Array (Option Value)}
  {kc12_8_0 kc12_8_1 : Tok} {oc12_8 : Option Addr} {nc12_8 : Nat} {sc12_8 : Array (Option Value)}
  {oc12_9 : Option Addr} {nc12_9 : Nat} {sc12_9 : Array (Option Value)}
  {kc12_10_0 kc12_10_1 kc12_10_2 : Tok} {oc12_10 : Option Addr} {nc12_10 : Nat} {sc12_10 : Array (Option Value)}
  {kc12_11_0 kc12_11_1 : Tok} {oc12_11 : Option Addr} {nc12_11 : Nat} {sc12_11 : Array (Option Value)}
  {kc12_12_0 kc12_12_1 kc12_12_2 : Tok} {oc12_12 : Option Addr} {nc12_12 : Nat} {sc12_12 : Array (Option Value)}
  {ac13 : Addr}
  {kc13_0 kc13_1 kc13_2 kc13_3 kc13_4 kc13_5 kc13_6 kc13_7 kc13_8 kc13_9 kc13_10 kc13_11 kc13_12 kc13_13 kc13_14 kc13_15 kc13_16 kc13_17 kc13_18 : Tok} {oc13 : Option Addr} {nc13 : Nat} {sc13 : Array (Option Value)}
  {ac14 : Addr}
  {kc14_0 kc14_1 kc14_2 kc14_3 kc14_4 : Tok} {oc14 : Option Addr} {nc14 : Nat} {sc14 : Array (Option Value)}
  (a0x : Fg K "parts_of" s0x)
  (a1x : Fg K "blocks_of" s1x)
  (a2x : Fg K "deeds_of" s2x)
  (a3x : Fg K "names_given" s3x)
  (a4x : Fg K "branches_of" s4x)
  (a5x : Fg K "trees_of" s5x)
  (a6x : Fg K "trees_in" s6x)
  (a7x : Fg K "is_whole" s7x)
  (a8x : Fg K "has_only" s8x)
  (a9x : Fg K "is_letters" s9x)
  (a10x : Fg K "is_word" BK3)
  (a11x : Fg K "has_thirty" BK4)
  (a12x : Fg K "is_worth" BK5)
  (a13x : Fg K "is_name" BK6)
  (a14x : Fg K "is_args" BK7)
  (a15x : Fg K "is_tree" BK8)
  (a16x : Fg K "is_expression" BK9)
  (a17x : Fg K "is_some" BL0)
  (a18x : Fg K "is_catch" BL1)
  (a19x : Fg K "is_catches" BL2)
  (a20x : Fg K "is_part" BL3)
  (a21x : Fg K "is_deed" BL4)
  (a22x : Fg K "is_deeds" BL5)
  (a23x : Fg K "is_params" BL6)
  (a24x : Fg K "variables" BL7)
  (a25x : Fg K "is_rule" BL8)
  (a26x : Fg K "makes_fit" BL9)
  (a27x : Fg K "is_book" BM0)
  (a28x : Fg K "_law_pen" BM1)
  (a29x : Fg K "_law_draw" BM2)
  (a30x : Fg K "_law_notes" BM3)
  (a31x : Fg K "_law_around" BM4)
  (a32x : Fg K "_law_nested" BM5)
  (a33x : Fg K "_law_expression" BM6)
  (a34x : Fg K "_law_with" BM7)
  (a35x : Fg K "_law_names" BM8)
  (a36x : Fg K "law" BM9)
  (z0 : CI1 K CG1 "abs" = some none)
  (z1 : CI1 K CG1 "all" = some none)
  (z2 : CI1 K CG1 "bool" = some none)
  (z3 : CI1 K CG1 "int" = some none)
  (z4 : CI1 K CG1 "isinstance" = some none)
  (z5 : CI1 K CG1 "len" = some none)
  (z6 : CI1 K CG1 "list" = some none)
  (z7 : CI1 K CG1 "min" = some none)
  (z8 : CI1 K CG1 "range" = some none)
  (z9 : CI1 K CG1 "set" = some none)
  (z10 : CI1 K CG1 "sorted" = some none)
  (z11 : CI1 K CG1 "str" = some none)
  (z12 : CI1 K CG1 "tuple" = some none)
  (z13 : CI1 K CG1 "zip" = some none)
  (u0 : Kc K "BEYOND_NUMBERS" (Value.int 1000000000000000000000000000000))
  (u1 : Kc K "LETTERS" (Value.str "abcdefghijklmnopqrstuvwxyz"))
  (u2 : Kc K "MOST_ARGS" (Value.int 3))
  (u3 : Kc K "MOST_BLOCKS" (Value.int 5))
  (u4 : Kc K "MOST_CATCHES" (Value.int 3))
  (u5 : Kc K "MOST_DEEDS" (Value.int 30))
  (u6 : Kc K "MOST_DEPTH" (Value.int 4))
  (u7 : Kc K "MOST_LETTERS" (Value.int 8))
  (u8 : Kc K "MOST_PARAMS" (Value.int 3))
  (u9 : Kc K "MOST_RULES" (Value.int 8))
  (u10 : Kc K "MOST_TREES" (Value.int 9))
  (u11 : Kc K "MOST_VARIABLES" (Value.int 12))
  (uc12 : CI1 K CG1 "SHAPES" = some (some (.ref ac12)))
  (lc12 : K.lookup ac12 = some ⟨.type "dict", none, .dict #[⟨CJ7 w.params "let", .str "let" qc12_0, .ref ac12_0⟩, ⟨CJ7 w.params "note", .str "note" qc12_1, .ref ac12_1⟩, ⟨CJ7 w.params "give", .str "give" qc12_2, .ref ac12_2⟩, ⟨CJ7 w.params "on", .str "on" qc12_3, .ref ac12_3⟩, ⟨CJ7 w.params "ask", .str "ask" qc12_4, .ref ac12_4⟩, ⟨CJ7 w.params "cast", .str "cast" qc12_5, .ref ac12_5⟩, ⟨CJ7 w.params "close", .str "close" qc12_6, .ref ac12_6⟩, ⟨CJ7 w.params "end", .str "end" qc12_7, .ref ac12_7⟩, ⟨CJ7 w.params "fault", .str "fault" qc12_8, .ref ac12_8⟩, ⟨CJ7 w.params "leave", .str "leave" qc12_9, .ref ac12_9⟩, ⟨CJ7 w.params "if", .str "if" qc12_10, .ref ac12_10⟩, ⟨CJ7 w.params "while", .str "while" qc12_11, .ref ac12_11⟩, ⟨CJ7 w.params "try", .str "try" qc12_12, .ref ac12_12⟩] ec12, #[]⟩)
  (lc12_0 : K.lookup ac12_0 = some ⟨.type "tuple", oc12_0, .seq #[.str "name" kc12_0_0, .str "expression" kc12_0_1] nc12_0, sc12_0⟩)
  (lc12_1 : K.lookup ac12_1 = some ⟨.type "tuple", oc12_1, .seq #[.str "expression" kc12_1_0] nc12_1, sc12_1⟩)
  (lc12_2 : K.lookup ac12_2 = some ⟨.type "tuple", oc12_2, .seq #[.str "name" kc12_2_0, .str "expression" kc12_2_1] nc12_2, sc12_2⟩)
  (lc12_3 : K.lookup ac12_3 = some ⟨.type "tuple", oc12_3, .seq #[.str "name" kc12_3_0, .str "expression" kc12_3_1] nc12_3, sc12_3⟩)
  (lc12_4 : K.lookup ac12_4 = some ⟨.type "tuple", oc12_4, .seq #[.str "name" kc12_4_0, .str "name" kc12_4_1, .str "expression" kc12_4_2, .str "expression" kc12_4_3] nc12_4, sc12_4⟩)
  (lc12_5 : K.lookup ac12_5 = some ⟨.type "tuple", oc12_5, .seq #[.str "name" kc12_5_0, .str "name" kc12_5_1, .str "expression" kc12_5_2, .str "word" kc12_5_3, .str "expression" kc12_5_4] nc12_5, sc12_5⟩)
  (lc12_6 : K.lookup ac12_6 = some ⟨.type "tuple", oc12_6, .seq #[.str "expression" kc12_6_0] nc12_6, sc12_6⟩)
  (lc12_7 : K.lookup ac12_7 = some ⟨.type "tuple", oc12_7, .seq #[.str "expression" kc12_7_0] nc12_7, sc12_7⟩)
  (lc12_8 : K.lookup ac12_8 = some ⟨.type "tuple", oc12_8, .seq #[.str "word" kc12_8_0, .str "expression" kc12_8_1] nc12_8, sc12_8⟩)
  (lc12_9 : K.lookup ac12_9 = some ⟨.type "tuple", oc12_9, .seq #[] nc12_9, sc12_9⟩)
  (lc12_10 : K.lookup ac12_10 = some ⟨.type "tuple", oc12_10, .seq #[.str "expression" kc12_10_0, .str "block" kc12_10_1, .str "rest" kc12_10_2] nc12_10, sc12_10⟩)
  (lc12_11 : K.lookup ac12_11 = some ⟨.type "tuple", oc12_11, .seq #[.str "expression" kc12_11_0, .str "block" kc12_11_1] nc12_11, sc12_11⟩)
  (lc12_12 : K.lookup ac12_12 = some ⟨.type "tuple", oc12_12, .seq #[.str "block" kc12_12_0, .str "catches" kc12_12_1, .str "rest" kc12_12_2] nc12_12, sc12_12⟩)
  (gc12 : (ac12 == CO4) = false)
  (uc13 : CI1 K CG1 "SHUT_NAMES" = some (some (.ref ac13)))
  (lc13 : K.lookup ac13 = some ⟨.type "tuple", oc13, .seq #[.str "any" kc13_0, .str "ask" kc13_1, .str "cast" kc13_2, .str "catch" kc13_3, .str "close" kc13_4, .str "else" kc13_5, .str "end" kc13_6, .str "fault" kc13_7, .str "give" kc13_8, .str "if" kc13_9, .str "last" kc13_10, .str "leave" kc13_11, .str "make" kc13_12, .str "none" kc13_13, .str "note" kc13_14, .str "on" kc13_15, .str "rule" kc13_16, .str "try" kc13_17, .str "while" kc13_18] nc13, sc13⟩)
  (uc14 : CI1 K CG1 "SIGNS" = some (some (.ref ac14)))
  (lc14 : K.lookup ac14 = some ⟨.type "tuple", oc14, .seq #[.str "+" kc14_0, .str "-" kc14_1, .str "*" kc14_2, .str "<" kc14_3, .str "=" kc14_4] nc14, sc14⟩) :
  ∃ fd : CH0, (∀ (s : CD9) (v : Value), BindsTo s fd ⟨[v], []⟩ [("_law_script", v)]) ∧ ∀ base : Heap, K.In base → base.Ns CG1 mg → FnOk l.prog w K mg base CX0 26 fa fd ["_law_script"] (IP K L3.EM) := by
 have B : Blt mg := ⟨CH9 X G z0, CH9 X G z1, CH9 X G z2, CH9 X G z3, CH9 X G z4, CH9 X G z5, CH9 X G z6, CH9 X G z7, CH9 X G z8, CH9 X G z9, CH9 X G z10, CH9 X G z11, CH9 X G z12, CH9 X G z13⟩
 have dc12 : QP K w.params ac12 K10.tblS := ⟨[("let", qc12_0, ac12_0), ("note", qc12_1, ac12_1), ("give", qc12_2, ac12_2), ("on", qc12_3, ac12_3), ("ask", qc12_4, ac12_4), ("cast", qc12_5, ac12_5), ("close", qc12_6, ac12_6), ("end", qc12_7, ac12_7), ("fault", qc12_8, ac12_8), ("leave", qc12_9, ac12_9), ("if", qc12_10, ac12_10), ("while", qc12_11, ac12_11), ("try", qc12_12, ac12_12)], ec12, lc12, (show (["let", "note", "give", "on", "ask", "cast", "close", "end", "fault", "leave", "if", "while", "try"] : List Str).Nodup by decide +kernel), (.cons ⟨_, _, _, lc12_0, rfl, rfl, (show (2 : Nat) ≤ CE1 by decide), (.cons ⟨_, rfl⟩ (.cons ⟨_, rfl⟩ .nil))⟩ (.cons ⟨_, _, _, lc12_1, rfl, rfl, (show (1 : Nat) ≤ CE1 by decide), (.cons ⟨_, rfl⟩ .nil)⟩ (.cons ⟨_, _, _, lc12_2, rfl, rfl, (show (2 : Nat) ≤ CE1 by decide), (.cons ⟨_, rfl⟩ (.cons ⟨_, rfl⟩ .nil))⟩ (.cons ⟨_, _, _, lc12_3, rfl, rfl, (show (2 : Nat) ≤ CE1 by decide), (.cons ⟨_, rfl⟩ (.cons ⟨_, rfl⟩ .nil))⟩ (.cons ⟨_, _, _, lc12_4, rfl, rfl, (show (4 : Nat) ≤ CE1 by decide), (.cons ⟨_, rfl⟩ (.cons ⟨_, rfl⟩ (.cons ⟨_, rfl⟩ (.cons ⟨_, rfl⟩ .nil))))⟩ (.cons ⟨_, _, _, lc12_5, rfl, rfl, (show (5 : Nat) ≤ CE1 by decide), (.cons ⟨_, rfl⟩ (.cons ⟨_, rfl⟩ (.cons ⟨_, rfl⟩ (.cons ⟨_, rfl⟩ (.cons ⟨_, rfl⟩ .nil)))))⟩ (.cons ⟨_, _, _, lc12_6, rfl, rfl, (show (1 : Nat) ≤ CE1 by decide), (.cons ⟨_, rfl⟩ .nil)⟩ (.cons ⟨_, _, _, lc12_7, rfl, rfl, (show (1 : Nat) ≤ CE1 by decide), (.cons ⟨_, rfl⟩ .nil)⟩ (.cons ⟨_, _, _, lc12_8, rfl, rfl, (show (2 : Nat) ≤ CE1 by decide), (.cons ⟨_, rfl⟩ (.cons ⟨_, rfl⟩ .nil))⟩ (.cons ⟨_, _, _, lc12_9, rfl, rfl, (show (0 : Nat) ≤ CE1 by decide), .nil⟩ (.cons ⟨_, _, _, lc12_10, rfl, rfl, (show (3 : Nat) ≤ CE1 by decide), (.cons ⟨_, rfl⟩ (.cons ⟨_, rfl⟩ (.cons ⟨_, rfl⟩ .nil)))⟩ (.cons ⟨_, _, _, lc12_11, rfl, rfl, (show (2 : Nat) ≤ CE1 by decide), (.cons ⟨_, rfl⟩ (.cons ⟨_, rfl⟩ .nil))⟩ (.cons ⟨_, _, _, lc12_12, rfl, rfl, (show (3 : Nat) ≤ CE1 by decide), (.cons ⟨_, rfl⟩ (.cons ⟨_, rfl⟩ (.cons ⟨_, rfl⟩ .nil)))⟩ .nil)))))))))))))⟩
 have C : Cst K w.params mg := ⟨u0.at X G, u1.at X G, u2.at X G, u3.at X G, u4.at X G, u5.at X G, u6.at X G, u7.at X G, u8.at X G, u9.at X G, u10.at X G, u11.at X G, ⟨_, CR4 X G uc12, dc12⟩, ⟨_, CR4 X G uc12, dc12, gc12⟩, ⟨_, CR4 X G uc13, ⟨_, _, _, lc13, rfl, rfl, (show (19 : Nat) ≤ CE1 by decide), (.cons ⟨_, rfl⟩ (.cons ⟨_, rfl⟩ (.cons ⟨_, rfl⟩ (.cons ⟨_, rfl⟩ (.cons ⟨_, rfl⟩ (.cons ⟨_, rfl⟩ (.cons ⟨_, rfl⟩ (.cons ⟨_, rfl⟩ (.cons ⟨_, rfl⟩ (.cons ⟨_, rfl⟩ (.cons ⟨_, rfl⟩ (.cons ⟨_, rfl⟩ (.cons ⟨_, rfl⟩ (.cons ⟨_, rfl⟩ (.cons ⟨_, rfl⟩ (.cons ⟨_, rfl⟩ (.cons ⟨_, rfl⟩ (.cons ⟨_, rfl⟩ (.cons ⟨_, rfl⟩ .nil)))))))))))))))))))⟩⟩, ⟨_, CR4 X G uc14, ⟨_, _, _, lc14, rfl, rfl, (show (5 : Nat) ≤ CE1 by decide), (.cons ⟨_, rfl⟩ (.cons ⟨_, rfl⟩ (.cons ⟨_, rfl⟩ (.cons ⟨_, rfl⟩ (.cons ⟨_, rfl⟩ .nil)))))⟩⟩⟩
 obtain ⟨f0x, fd0x, A0x⟩ := a0x.at (ps := ["deed", "kind"]) X G (by walk_at "b2")
 obtain ⟨f1x, fd1x, A1x⟩ := a1x.at (ps := ["deed"]) X G (by walk_at "b1")
 obtain ⟨f2x, fd2x, A2x⟩ := a2x.at (ps := ["block"]) X G (by walk_at "b1")
 obtain ⟨f3x, fd3x, A3x⟩ := a3x.at (ps := ["deed"]) X G (by walk_at "b1")
 obtain ⟨f4x, fd4x, A4x⟩ := a4x.at (ps := ["expression"]) X G (by walk_at "b1")
 obtain ⟨f5x, fd5x, A5x⟩ := a5x.at (ps := ["expression"]) X G (by walk_at "b1")
 obtain ⟨f6x, fd6x, A6x⟩ := a6x.at (ps := ["rule"]) X G (by walk_at "b1")
 obtain ⟨f7x, fd7x, A7x⟩ := a7x.at (ps := ["thing"]) X G (by walk_at "b1")
 obtain ⟨f8x, fd8x, A8x⟩ := a8x.at (ps := ["text", "signs"]) X G (by walk_at "b2")
 obtain ⟨f9x, fd9x, A9x⟩ := a9x.at (ps := ["thing"]) X G (by walk_at "b1")
 obtain ⟨f10x, fd10x, A10x⟩ := a10x.at (ps := ["thing"]) X G (by walk_at "b1")
 obtain ⟨f11x, fd11x, A11x⟩ := a11x.at (ps := ["number"]) X G (by walk_at "b1")
 obtain ⟨f12x, fd12x, A12x⟩ := a12x.at (ps := ["thing", "many"]) X G (by walk_at "b2")
 obtain ⟨f13x, fd13x, A13x⟩ := a13x.at (ps := ["thing"]) X G (by walk_at "b1")
 obtain ⟨f14x, fd14x, A14x⟩ := a14x.at (ps := ["thing", "depth"]) X G (by walk_at "b2")
 obtain ⟨f15x, fd15x, A15x⟩ := a15x.at (ps := ["thing", "depth"]) X G (by walk_at "b2")
 obtain ⟨f16x, fd16x, A16x⟩ := a16x.at (ps := ["thing"]) X G (by walk_at "b1")
 obtain ⟨f17x, fd17x, A17x⟩ := a17x.at (ps := ["thing"]) X G (by walk_at "b1")
 obtain ⟨f18x, fd18x, A18x⟩ := a18x.at (ps := ["thing"]) X G (by walk_at "b1")
 obtain ⟨f19x, fd19x, A19x⟩ := a19x.at (ps := ["thing"]) X G (by walk_at "b1")
 obtain ⟨f20x, fd20x, A20x⟩ := a20x.at (ps := ["kind", "part"]) X G (by walk_at "b2")
 obtain ⟨f21x, fd21x, A21x⟩ := a21x.at (ps := ["thing"]) X G (by walk_at "b1")
 obtain ⟨f22x, fd22x, A22x⟩ := a22x.at (ps := ["block", "depth", "looped", "counted"]) X G (by walk_at "b4")
 obtain ⟨f23x, fd23x, A23x⟩ := a23x.at (ps := ["thing"]) X G (by walk_at "b1")
 obtain ⟨f24x, fd24x, A24x⟩ := a24x.at (ps := ["rule"]) X G (by walk_at "b1")
 obtain ⟨f25x, fd25x, A25x⟩ := a25x.at (ps := ["thing"]) X G (by walk_at "b1")
 obtain ⟨f26x, fd26x, A26x⟩ := a26x.at (ps := ["rule", "counts"]) X G (by walk_at "b2")
 obtain ⟨f27x, fd27x, A27x⟩ := a27x.at (ps := ["thing"]) X G (by walk_at "b1")
 obtain ⟨f28x, fd28x, A28x⟩ := a28x.at (ps := ["_law_script"]) X G (by walk_at "b1")
 obtain ⟨f29x, fd29x, A29x⟩ := a29x.at (ps := ["_law_pen_here", "_law_many"]) X G (by walk_at "b2")
 obtain ⟨f30x, fd30x, A30x⟩ := a30x.at (ps := ["_law_many"]) X G (by walk_at "b1")
 obtain ⟨f31x, fd31x, A31x⟩ := a31x.at (ps := ["_law_pen_here", "_law_deed"]) X G (by walk_at "b2")
 obtain ⟨f32x, fd32x, A32x⟩ := a32x.at (ps := ["_law_pen_here", "_law_deed", "_law_many"]) X G (by walk_at "b3")
 obtain ⟨f33x, fd33x, A33x⟩ := a33x.at (ps := ["_law_pen_here", "_law_inner", "_law_name", "_law_count"]) X G (by walk_at "b4")
 obtain ⟨f34x, fd34x, A34x⟩ := a34x.at (ps := ["_law_pen_here", "_law_expression_here"]) X G (by walk_at "b2")
 obtain ⟨f35x, fd35x, A35x⟩ := a35x.at (ps := ["_law_pen_here"]) X G (by walk_at "b1")
 obtain ⟨fd36x, A36x, e⟩ := a36x.law X G hfa (by walk_at "b1")
 refine ⟨_, e, fun base _ _ => ?_⟩
 have G0x := CB3 (P := l.prog) (base := base) B C A0x
 have G1x := CB4 (P := l.prog) (base := base) B C A1x
 have GG2x := BB1 (P := l.prog) (base := base) B C A1x G1x A2x
 have G2x := (GG2x 8)
 have G3x := CB6 (P := l.prog) (base := base) B C A0x G0x A3x
 have G4x := CB7 (P := l.prog) (base := base) B C A4x
 have GG5x := BB2 (P := l.prog) (base := base) B C A4x G4x A5x
 have G5x := (GG5x 5)
 have G6x := CB9 (P := l.prog) (base := base) B C A0x G0x A2x G2x A5x G5x A6x
 have G7x := CC0 (P := l.prog) (base := base) B C A7x
 have G8x := CC1 (P := l.prog) (base := base) B C A8x
 have G9x := CC2 (P := l.prog) (base := base) B C A8x G8x A9x
 have G10x := BR6 (P := l.prog) (base := base) B C A9x G9x A10x
 have G11x := BR7 (P := l.prog) (base := base) B C A11x
 have G12x := BR8 (P := l.prog) (base := base) B C A7x G7x A11x G11x A12x
 have G13x := BR9 (P := l.prog) (base := base) B C A9x G9x A13x
 have GG15x := AG7 (P := l.prog) (base := base) B C A12x G12x A13x G13x A14x A15x
 have G14x := (GG15x 9).1
 have G15x := (GG15x 9).2
 have G16x := BS2 (P := l.prog) (base := base) B C A5x G5x A15x G15x A16x
 have G17x := BS3 (P := l.prog) (base := base) B C A17x
 have G18x := BS4 (P := l.prog) (base := base) B C A9x G9x A13x G13x A17x G17x A18x
 have G19x := BS5 (P := l.prog) (base := base) B C A18x G18x A19x
 have G20x := BS6 (P := l.prog) (base := base) B C A10x G10x A13x G13x A16x G16x A17x G17x A19x G19x A20x
 have G21x := BS7 (P := l.prog) (base := base) B C A17x G17x A20x G20x A21x
 have GG22x := AG8 (P := l.prog) (base := base) B C A1x G1x A21x G21x A22x
 have G22x := (GG22x 6)
 have G23x := BS9 (P := l.prog) (base := base) B C A13x G13x A23x
 have G_trees_in10 := WP G6x
 have G24x := BT0 (P := l.prog) (base := base) B C A2x G2x A3x G3x A6x A24x G_trees_in10
 have G25x := BT1 (P := l.prog) (base := base) B C A13x G13x A17x G17x A22x G22x A23x G23x A24x G24x A25x
 have G26x := BT2 (P := l.prog) (base := base) B C A6x G6x A26x
 have G27x := BT3 (P := l.prog) (base := base) B C A25x G25x A26x G26x A27x
 have G28x := BT4 (P := l.prog) (base := base) B C A28x
 have G29x := BT5 (P := l.prog) (base := base) B C A29x
 have G30x := BT6 (P := l.prog) (base := base) B C A30x
 have G31x := BT7 (P := l.prog) (base := base) B C A29x G29x A30x G30x A31x
 have G32x := BT8 (P := l.prog) (base := base) B C A31x G31x A32x
 have G33x := BT9 (P := l.prog) (base := base) B C A29x G29x A33x
 have G34x := BU0 (P := l.prog) (base := base) B C A29x G29x A30x G30x A34x
 have G35x := BU1 (P := l.prog) (base := base) B C A29x G29x A35x
 have G36x := BU2 (P := l.prog) (base := base) B C A27x G27x A28x G28x A29x G29x A30x G30x A32x G32x A33x G33x A34x G34x A35x G35x A36x
 exact G36x
end K09
local macro_rules | `(tactic| walk_at "kf") => `(tactic| (refine' L3.Fg.of ?a ?l ?c ?k; (case a => k_is); (case l => k_is); (case c => k_is); (case k => k_is)))
local macro_rules | `(tactic| walk_at "kk") => `(tactic| (refine' L3.Kc.of ?a; (case a => k_is)))
open PySem PySem.W PyProof.Rows
set_option maxRecDepth 100000 in
set_option maxHeartbeats 0 in
theorem PySem.Challenge.cw_handedon_k09_makes_and_leaves_holds : PySem.Challenge.rw_handedon_k09_makes_and_leaves.Holds := by
 w_on; o_law; k_head; (case hw => w_witness2)
 k_fill
 refine L3.BZ3 (l := PySem.Challenge.rw_handedon_k09_makes_and_leaves) (k := 26) (x := "_law_script") rfl rfl ⟨rfl, by decide, by decide, rfl⟩ (fun w h Y => PySem.W.kIn_of Y) ?F
 case F =>
  intro w mg fa h KX G hmg
  refine' K09.BC7 KX G hmg ?a0x ?a1x ?a2x ?a3x ?a4x ?a5x ?a6x ?a7x ?a8x ?a9x ?a10x ?a11x ?a12x ?a13x ?a14x ?a15x ?a16x ?a17x ?a18x ?a19x ?a20x ?a21x ?a22x ?a23x ?a24x ?a25x ?a26x ?a27x ?a28x ?a29x ?a30x ?a31x ?a32x ?a33x ?a34x ?a35x ?a36x ?z0 ?z1 ?z2 ?z3 ?z4 ?z5 ?z6 ?z7 ?z8 ?z9 ?z10 ?z11 ?z12 ?z13 ?u0 ?u1 ?u2 ?u3 ?u4 ?u5 ?u6 ?u7 ?u8 ?u9 ?u10 ?u11 ?uc12 ?lc12 ?lc12_0 ?lc12_1 ?lc12_2 ?lc12_3 ?lc12_4 ?lc12_5 ?lc12_6 ?lc12_7 ?lc12_8 ?lc12_9 ?lc12_10 ?lc12_11 ?lc12_12 ?gc12 ?uc13 ?lc13 ?uc14 ?lc14
  (case a0x => walk_at "kf")
  (case a1x => walk_at "kf")
  (case a2x => walk_at "kf")
  (case a3x => walk_at "kf")
  (case a4x => walk_at "kf")
  (case a5x => walk_at "kf")
  (case a6x => walk_at "kf")
  (case a7x => walk_at "kf")
  (case a8x => walk_at "kf")
  (case a9x => walk_at "kf")
  (case a10x => walk_at "kf")
  (case a11x => walk_at "kf")
  (case a12x => walk_at "kf")
  (case a13x => walk_at "kf")
  (case a14x => walk_at "kf")
  (case a15x => walk_at "kf")
  (case a16x => walk_at "kf")
  (case a17x => walk_at "kf")
  (case a18x => walk_at "kf")
  (case a19x => walk_at "kf")
  (case a20x => walk_at "kf")
  (case a21x => walk_at "kf")
  (case a22x => walk_at "kf")
  (case a23x => walk_at "kf")
  (case a24x => walk_at "kf")
  (case a25x => walk_at "kf")
  (case a26x => walk_at "kf")
  (case a27x => walk_at "kf")
  (case a28x => walk_at "kf")
  (case a29x => walk_at "kf")
  (case a30x => walk_at "kf")
  (case a31x => walk_at "kf")
  (case a32x => walk_at "kf")
  (case a33x => walk_at "kf")
  (case a34x => walk_at "kf")
  (case a35x => walk_at "kf")
  (case a36x => walk_at "kf")
  (case z0 => k_is)
  (case z1 => k_is)
  (case z2 => k_is)
  (case z3 => k_is)
  (case z4 => k_is)
  (case z5 => k_is)
  (case z6 => k_is)
  (case z7 => k_is)
  (case z8 => k_is)
  (case z9 => k_is)
  (case z10 => k_is)
  (case z11 => k_is)
  (case z12 => k_is)
  (case z13 => k_is)
  (case u0 => walk_at "kk")
  (case u1 => walk_at "kk")
  (case u2 => walk_at "kk")
  (case u3 => walk_at "kk")
  (case u4 => walk_at "kk")
  (case u5 => walk_at "kk")
  (case u6 => walk_at "kk")
  (case u7 => walk_at "kk")
  (case u8 => walk_at "kk")
  (case u9 => walk_at "kk")
  (case u10 => walk_at "kk")
  (case u11 => walk_at "kk")
  (case uc12 => k_is)
  (case lc12 => k_is)
  (case lc12_0 => k_is)
  (case lc12_1 => k_is)
  (case lc12_2 => k_is)
  (case lc12_3 => k_is)
  (case lc12_4 => k_is)
  (case lc12_5 => k_is)
  (case lc12_6 => k_is)
  (case lc12_7 => k_is)
  (case lc12_8 => k_is)
  (case lc12_9 => k_is)
  (case lc12_10 => k_is)
  (case lc12_11 => k_is)
  (case lc12_12 => k_is)
  (case gc12 => rfl)
  (case uc13 => k_is)
  (case lc13 => k_is)
  (case uc14 => k_is)
  (case lc14 => k_is)
